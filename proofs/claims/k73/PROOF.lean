import PyProof.Rows.All
import Wide.All
import OpenK.AllK
import Wide.FinOn
import Lean
import PyProof.EqAt
import PyProof.EqKinds
import PyProof.TupleCall
import PyProof.StrBlockI
import PyProof.SliceList
import PyProof.StrLawsIn
import PyProof.StrLaws
import KE.KEqDict
import PySem.Challenge.RW_dykemoot_k73_whole_fair_to_every_company
open List renaming length_map→AA,getElem?_eq_getElem→AB,getElem?_eq_some_iff→AC,take_of_length_le→AH,getElem?_map→AK,mem_of_getElem?→AN,mem_cons_of_mem→AO,mem_map→AR,size_toArray→AS,mem_cons_self→AU,mem_singleton→AW,map_append→AX,map_cons→AY,getD_eq_getElem?_getD→Aa,take_add_one→Ab,length_take→Ac,mem_cons→Af,length_cons→Ag,length_append→Ai,nodup_cons→Ak,range→Al,mem_filter→Am,mem_append_right→An,map_map→Ao,mem_append→Au,mem_range→Ax,Nodup→Ay,all_eq_true→BA,mem_iff_getElem?→BD,lookup_cons→BN,length_filter_le→BP,map_congr_left→BZ,length_reverse→Ba,getElem?_append_left→Bd,mem_append_left→Bh,not_mem_nil→Bk,range'→Bo,getElem?_take_of_lt→Bq,find?_cons→Bs,filter_append→Bt,filter_cons→Bw,append_assoc→By,append_nil→Bz,length_singleton→CB,lookup→CK,nodup_iff_pairwise_ne→CM,getElem?_append_right→CN,length_range→CU,filter_sublist→Cb,getElem_map→Cc,map_nil→Ch,mem_of_mem_take→Cp,length_drop→Cu,getElem_mem→Cv,length→Cz,filter_cons_of_pos→DA,filter_cons_of_neg→DB,toArray→DD,drop_eq_nil_of_le→DE,eq_nil_of_length_eq_zero→DQ,forIn_cons→DR,getElem_of_mem→DS,pairwise_iff_getElem→De,drop_eq_getElem_cons→Df,reverse_cons→Dg,nodup_append→Dh,flatMap_cons→Di,any_cons→Dk,all_cons→Dl,getElem_inj→Dq,any_eq_true→Dr,all_map→Dw,range_succ→EA,of_mem_zip→EB,nil_append→EC,length_nil→ED,singleton_append→EE,take_zero→EG,getElem?_set_ne→EH,filter_eq_self→ET,filterMap_cons→EU,length_range'→Eb,getElem?_drop→Ec,take_sublist→Eh,filter_congr→Ei,mem_reverse→Eu,mem_flatMap→Ev,map_id→FB,foldl_cons→FD,filter_nil→FE,drop_zero→FJ
open PySem renaming wpAny_bind→AD,mainGlobals→AJ,wpAny_pure→AT,sizeLine→Ar,starEach→Av,NameKind→BE,wpAny_mono→BL,bootBuiltins→BS,compareOp→BW,wpAny_loadPart'→Bl,PassesOwn→Bn,wpAny_truthy_bool→Br,FuncData→Bv,codeAny_builtin→CJ,wpAny_holding→CP,tupleKind→CS,wpAny_Call_Name_kw→CT,sizeLine_eq→Ca,plainId_quiet→Cd,wpAny_typeNameOfWhole_keyiter→Cj,keywordEach→Ck,wpAny_passesOwn→Co,wpAny_pyIter_list→Ct,mem_of_lookup→Cw,codeAny_mono→Cy,wpAny_typeNameOf_keyiter→DC,tupleKind_room_in1→DH,sysModules→DI,wpAny_getItem_str_slice→DL,wpAny_newObj_type→DO,attributeBase→DU,binaryOp→DV,backToKw→DW,GenState→Da,Arguments→Dm,behindInMarks→Dx,wpAny_typeOf→EJ,wpAny_rule→EK,assignEach→EL,wpAny_execs_nil→EO,post_val_or_str→EQ,letOwnedTupleGo→ER,wpAny_notOrdered_dict→EV,bindArgs→Ee,Within→Ef,getMethod→Eg,DictEntry→Ej,wpAny_standAt→Er,wpAny_attempt→Es,closureFor→Ex,wpAny_dictEntries→FF,foldedSetIterable→FG,wpAny_call_entry→FK,subscripted→FN,wpAny_updateSeq→FO,wpAny_specialOf→FP,wpAny_dictEpoch→FQ,wpAny_seqItems→FR,callType_codes→FS
open PySem.Heap renaming get?_push_of_some→AE,lt_size→AZ,get?_push_size→Ad,get?_update_other→Bf,size_push→DF,SameBut→DG,get?_update_self→DN,size_update→Ew
open PySem.W renaming keepIn→AF,Frag→AG,codeIn→AI,nsIn→AL,fnOf→AM,findIn→At,mg_none_of→BG,kas_item→BR,isFn→Bi,kia_one→Bp,emptyDict→Bx,kitOne→CC,instObj→CQ,plainGet→DJ,specialIn→Db,hasDictIn→Dc,cellsFrom_some→Do,makesIn→Dp,lookIn→Dy,plainGet_of→EF,callWith_K→EM,plainOver→EY,methodObj→EZ,takesIn→El,takerIn→Em
open Nat renaming le_refl→AQ,lt_of_lt_of_le→Ae,ne_of_lt→Ah,le_trans→BI,zero_le→BT,lt_irrefl→Cn,pow_le_pow_right→Cq,le_succ→Cr,lt_succ_self→DP,ne_of_gt→DX,lt_trans→DY,lt_succ_of_lt→Dj,le_of_eq→Dz,le_of_lt→En,le_add_right→Ez,add_le_add→FL
open Bool renaming false_ne_true→AV,and_eq_true→Aj,and_eq_true_iff→BK,true_and→BX,eq_iff_iff→Bj,false_and→EI,false_eq_true→Ed
open PySem.Value renaming ref→Ap,none→Bm,type→Cf,int→Dn,bool→EX
open Option renaming map_eq_some_iff→Aq,some→BO,isSome_map→Ea
open Option.some renaming inj→Aw
open Int renaming emod_lt_of_pos→Az,emod_nonneg→BB,eq_ofNat_of_zero_le→BH,toNat_natCast→CF,zero_add→DK,le_of_lt→DZ,le_refl→EN,mul_zero→Eo,add_zero→Ep,natCast_mul→FH,mul_nonneg→FM
open PySem.NameKind renaming free→BC,cell→CG
open Std.Legacy.Range renaming forIn_eq_forIn_range'→BF,size→CY
open PySem.PassesOwn renaming never→BJ
open PySem.F renaming plainAttrs_list→BM,type_list_append→BU,slot_list_append→BV,called_set→CA,slot_dict_keyiterator_next→CI,slot_list_getattribute→Du
open PySem.Obj renaming mapSeq→BQ
open Std.Legacy renaming Range→BY
open PySem.SeqAt renaming EqAt→Bb
open False renaming elim→Bc
open ForInStep renaming yield→Be,done→Dt
open Array renaming length_toList→Bg,getElem?_toList→CO,size_push→FC,size_map→FI
open PySem.Around renaming under_plainId→Bu
open PyProof.Rows renaming callWith_type1→CD,get?_update_seq→ES,listUpdate_at→Et,assignInOrder_cons→Ey
open PySem.Paired renaming length→CH,nil→CL,cons→Ce,snoc→Dd
open List.Nodup renaming sublist→CZ
open True renaming intro→Cg
open PyProof.Rows.F renaming plain_set_update_loop→Ci
open PySem.Txt renaming slice→Cl,slice_le→Ek
open PySem.Builtin.Dict renaming updateFrom→Cs
open Sum.inr renaming inj→DM
open Classical renaming byContradiction→DT
open PySem.Walks renaming list→EW
set_option Elab.async false
set_option linter.all false
set_option maxRecDepth 100000
namespace L2
open PySem PySem.Spec PyProof.Rows
abbrev Key:=Sum Int Str
def wF:Key → Value → Bool
 | .inl k,v=>Value.isInt k v
 | .inr x,v=>Value.isStrOf x v
def aWT (w:World):Key → Int
 | .inl k=>hashInt k
 | .inr x=>hashStr w x
theorem cR:∀ {k:Key} {v:Value},wF k v = true → (∃ i t,k = Sum.inl i ∧ v = Dn i t) ∨ (∃ x t,k = Sum.inr x ∧ v = Value.str x t)
 | .inl i,v,h=>by
  obtain ⟨t,e⟩:=Value.isInt_shape (k:=i) (v:=v) h
  exact .inl ⟨i,t,rfl,e⟩
 | .inr x,v,h=>by
  obtain ⟨t,e⟩:=Value.isStrOf_shape (x:=x) (v:=v) h
  exact .inr ⟨x,t,rfl,e⟩
theorem rY (i:Int) (t:Tok):wF (.inl i) (.int i t) = true:=by simp [wF,Value.isInt]
theorem rX (x:Str) (t:Tok):wF (.inr x) (.str x t) = true:=by simp [wF,Value.isStrOf]
theorem aTJ (a b:Int):decide ((Sum.inl a:Key) = Sum.inl b) = (a == b):=by
 by_cases e:a = b
 ·subst e;simp
 ·have h:¬ (Sum.inl a:Key) = Sum.inl b:=fun q=>e (Sum.inl.inj q)
  rw [decide_eq_false h]
  exact (beq_eq_false_iff_ne.mpr e).symm
theorem aTF (a b:Str):decide ((Sum.inr a:Key) = Sum.inr b) = decide (a = b):=by
 by_cases e:a = b
 ·subst e;simp
 ·have h:¬ (Sum.inr a:Key) = Sum.inr b:=fun q=>e (DM q)
  rw [decide_eq_false h,decide_eq_false e]
theorem aTI (a:Int) (b:Str):decide ((Sum.inl a:Key) = Sum.inr b) = false:=decide_eq_false (fun q=>nomatch q)
theorem aTG (a:Str) (b:Int):decide ((Sum.inr a:Key) = Sum.inl b) = false:=decide_eq_false (fun q=>nomatch q)
def aS (prog:Program) (w:World):PySem.KeyKind prog w Key where
 is:=wF
 hash:=aWT w
 inj:=fun v a b ha hb=>by
  rcases cR ha with ⟨i,t,rfl,rfl⟩ | ⟨x,t,rfl,rfl⟩
  ·rcases cR hb with ⟨j,u,rfl,e⟩ | ⟨y,u,rfl,e⟩
   ·injection e with e1 _;rw [e1]
   ·exact nomatch e
  ·rcases cR hb with ⟨j,u,rfl,e⟩ | ⟨y,u,rfl,e⟩
   ·exact nomatch e
   ·injection e with e1 _;rw [e1]
 byValue:=fun k v h=>by
  rcases cR h with ⟨i,t,rfl,rfl⟩ | ⟨x,t,rfl,rfl⟩ <;> rfl
 pyHash:=fun hv h=>by
  rcases cR hv with ⟨i,t,rfl,rfl⟩ | ⟨x,t,rfl,rfl⟩
  ·exact wpAny_pyHash_int h
  ·exact wpAny_pyHash_str h
 eqBool:=fun hu hv h=>by
  rcases cR hu with ⟨i,t,rfl,rfl⟩ | ⟨x,t,rfl,rfl⟩
  ·rcases cR hv with ⟨j,u,rfl,rfl⟩ | ⟨y,u,rfl,rfl⟩
   ·rw [aTJ] at h;exact wpAny_eqBool_int h
   ·rw [aTI] at h;exact Bb.int_str i t y u _ _ _ _ h
  ·rcases cR hv with ⟨j,u,rfl,rfl⟩ | ⟨y,u,rfl,rfl⟩
   ·rw [aTG] at h;exact Bb.str_int x t j u _ _ _ _ h
   ·rw [aTF] at h;exact wpAny_eqBool_str h
 «strs»:=fun k x t v h=>by
  rcases cR h with ⟨i,u,rfl,e⟩ | ⟨y,u,rfl,e⟩
  ·exact nomatch e
  ·injection e with e1 _
   subst e1
   cases v <;> rfl
theorem aDE (prog:Program) (w:World) (i:Int) (t:Tok):(aS prog w).is (.inl i) (.int i t) = true:=rY i t
theorem aDD (prog:Program) (w:World) (x:Str) (t:Tok):(aS prog w).is (.inr x) (.str x t) = true:=rX x t
end L2
namespace L2
open PySem PySem.Spec PyProof.Rows
inductive V where
 | non | bl (b:Bool) | int (i:Int) | str (x:Str) | byt (b:Array UInt8) | flt (b:UInt64) | ref (a:Addr) | ty (n:String)
 deriving DecidableEq
def bJ:V → Value → Prop
 | .non,u=>u = Bm
 | .bl b,u=>u = EX b
 | .int i,u=>∃ t,u = Dn i t
 | .str x,u=>∃ t,u = Value.str x t
 | .byt b,u=>∃ t,u = Value.bytes b t
 | .flt b,u=>∃ t,u = Value.float b t
 | .ref a,u=>u = Ap a
 | .ty n,u=>u = Cf n
abbrev bK:List V → List Value → Prop:=Paired bJ
theorem bK.length {xs:List V} {us:List Value} (r:bK xs us):xs.length = us.length:=CH r
theorem bK.get:∀ {xs:List V} {us:List Value} {i:Nat} {x:V},bK xs us → xs[i]? = some x → ∃ u,us[i]? = some u ∧ bJ x u
 | _,_,_,_,.nil,e=>by simp at e
 | _,_,0,_,.cons r _,e=>by simp at e;subst e;exact ⟨_,rfl,r⟩
 | _,_,i + 1,x,.cons _ t,e=>by
  obtain ⟨u,h1,h2⟩:=bK.get (i:=i) (x:=x) t (by simpa using e)
  exact ⟨u,by simpa using h1,h2⟩
theorem bK.append:∀ {xs ys:List V} {us ws:List Value},bK xs us → bK ys ws → bK (xs ++ ys) (us ++ ws)
 | _,_,_,_,.nil,s=>s
 | _,_,_,_,.cons r t,s=>.cons r (bK.append t s)
def oB:Option V → Option Value → Prop
 | some v,some u=>bJ v u
 | none,none=>True
 | _,_=>False
def KV {κ:Type}:List (κ × V) → List (κ × Value) → Prop:=Paired fun (p:κ × V) (q:κ × Value)=>p.1 = q.1 ∧ bJ p.2 q.2
def kV:Key → V
 | .inl i=>.int i
 | .inr x=>.str x
inductive HO where
 /-- a list -/
 | lst (xs:List V)
 /-- a tuple (never changes) -/
 | tup (xs:List V)
 /-- a dict whose keys are ints and texts;one whose keys are tuples of ints and texts (the empty one is both) -/
 | dK (kvs:List (Key × V)) | dT (kvs:List (List Key × V))
 /-- a set of ints: its members,its size -/
 | set (S:Int → Bool) (n:Nat)
 /-- an instance of the class at C,its dict at dx,its attributes -/
 | ins (C dx:Addr) (fs:List (Str × V))
 /-- the dict of the instance at x -/
 | own (x:Addr)
 /-- the dict of an exception -/
 | xd (fs:List (Str × V))
 /-- a bound method,f of x -/
 | met (f x:Addr)
 /-- a range object lo,lo + 1,.. below hi -/
 | rng (lo hi:Int)
 /-- a thing that is known to the object (the script;a dict while a loop walks it): read,never written while it is so -/
 | frz (o:Obj) (u:HO)
 /-- a code object's table -/
 | tbl (ps:Array Value)
 /-- any other thing,by what is true of its one object (a def of one's own: aKJ a S n:=HO.ext fun h=>..) -/
 | ext (φ:Heap → Prop)
abbrev Hp:=Addr → Option HO
def upd (H:Hp) (a:Addr) (o:HO):Hp:=fun b=>if b = a then some o else H b
theorem aF {H:Hp} {a:Addr} {o:HO}:upd H a o a = some o:=by unfold upd;rw [if_pos rfl]
theorem aK {H:Hp} {a b:Addr} {o:HO} (h:b ≠ a):upd H a o b = H b:=by unfold upd;rw [if_neg h]
theorem yQ {H:Hp} {a b:Addr} {o u:HO} (h:H a = some o) (h':H b = some u) (d:o ≠ u):a ≠ b:=by
 intro e;subst e;rw [h] at h';exact d (Aw h')
theorem aY {H:Hp} {a b:Addr} {o:HO} (h:H a = some o) (h':H b = none):a ≠ b:=by
 intro e;subst e;rw [h] at h';cases h'
def sP (h:Heap) (a:Addr) (its:Array Value):Prop:=∃ o,h.get? a = some o ∧ o.cls = .type "tuple" ∧ ∃ n,o.data = .seq its n ∧ o.dict = none
theorem sP.tup {h:Heap} {a:Addr} {its:Array Value} (x:sP h a its):IsTup h a its:=by
 obtain ⟨o,e,c,n,d,_⟩:=x
 exact ⟨o,e,c,n,d⟩
theorem sP.new (h:Heap) (its:Array Value):sP (h.push { cls:=.type "tuple",data:=.seq its }) h.objs.size its:=⟨_,Ad _ rfl,rfl,_,rfl,rfl⟩
section
variable (P:Program) (w:World)
def bW (H:Hp) (h:Heap) (a:Addr):HO → Prop
 | .lst xs=>xs.length ≤ Ar ∧ ∃ (its:List Value) (n:Nat),bK xs its ∧ h.get? a = some { cls:=.type "list",data:=.seq its.toArray n }
 | .tup xs=>xs.length ≤ Ar ∧ ∃ its:List Value,bK xs its ∧ sP h a its.toArray
 | .dK kvs=>kvs.length ≤ Ar ∧ (a == DI) = false ∧ ∃ vs,KV kvs vs ∧ h.DictOf (aS P w) a vs
 | .dT kvs=>kvs.length ≤ Ar ∧ (a == DI) = false ∧ ∃ xs:List (List Key × Addr × Value),
   Paired (fun (p:List Key × V) (q:List Key × Addr × Value)=>p.1 = q.1 ∧ H q.2.1 = some (.tup (p.1.map kV)) ∧ bJ p.2 q.2.2) kvs xs ∧
   ∃ o es ep,h.get? a = some o ∧ o.ExactDict ∧ o.data = .dict es ep ∧ es.toList = xs.map (entryOfKey (CS (aS P w))) ∧ (xs.map (·.1)).Nodup
 | .set S n=>h.SetOf (intKind P w) a S n
 | .ins C dx fs=>H dx = some (.own a) ∧ fs.length ≤ 1000 ∧ dx ≠ a ∧ h.get? a = some (CQ C dx) ∧
   ∃ mA,h.Ns1 dx mA ∧ (∀ f,oB (fs.lookup f) (mA f)) ∧ Ef mA (fs.map (·.1))
 | .own _=>∃ o,h.get? a = some o
 | .xd fs=>∃ mA,h.Ns1 a mA ∧ ∀ f,oB (fs.lookup f) (mA f)
 | .rng lo hi=>∃ t u v,h.get? a = some { cls:=.type "range",data:=.fields #[.int lo t,.int hi u,.int 1 v] }
 | .frz o u=>h.get? a = some o ∧ bW H h a u
 | .tbl ps=>h.get? a = some { cls:=.none,data:=.fields ps }
 | .met f x=>h.get? a = some (EZ (.ref f) (.ref x))
 | .ext φ=>φ h ∧ (∃ o,h.get? a = some o) ∧ ∀ h1 h2:Heap,φ h1 → (∀ o,h1.get? a = some o → h2.get? a = some o) → φ h2
def HOk (H:Hp) (h:Heap):Prop:=∀ a o,H a = some o → bW P w H h a o
end
section
variable {P:Program} {w:World} {H H':Hp} {h h':Heap} {a:Addr} {o:HO}
theorem bW.lt (x:bW P w H h a o):a < h.objs.size:=by
 cases o with
 | lst xs=>obtain ⟨_,_,_,_,e⟩:=x;exact AZ e
 | tup xs=>obtain ⟨_,_,_,_,e,_⟩:=x;exact AZ e
 | dK kvs=>obtain ⟨_,_,_,_,o,_,_,e,_⟩:=x;exact AZ e
 | dT kvs=>obtain ⟨_,_,_,_,o,_,_,e,_⟩:=x;exact AZ e
 | set S n=>obtain ⟨o,_,_,_,e,_⟩:=x;exact AZ e
 | ins C dx fs=>obtain ⟨_,_,_,e,_⟩:=x;exact AZ e
 | own y=>obtain ⟨_,e⟩:=x;exact AZ e
 | xd fs=>obtain ⟨_,⟨_,_,_,e,_⟩,_⟩:=x;exact AZ e
 | rng lo hi=>obtain ⟨_,_,_,e⟩:=x;exact AZ e
 | frz ob u=>obtain ⟨e,_⟩:=x;exact AZ e
 | tbl ps=>exact AZ (show h.get? a = some _ from x)
 | met f y=>exact AZ (show h.get? a = some _ from x)
 | ext φ=>obtain ⟨_,⟨_,e⟩,_⟩:=x;exact AZ e
theorem Paired.mapP {α β:Type} {F G:α → β → Prop}:∀ {l₁:List α} {l₂:List β},Paired F l₁ l₂ → (∀ a b,F a b → G a b) → Paired G l₁ l₂
 | _,_,.nil,_=>.nil
 | _,_,.cons r t,f=>.cons (f _ _ r) (Paired.mapP t f)
theorem bW.stay (x:bW P w H h a o) (k:∀ b u,(b = a ∨ H b = some (.own a)) → h.get? b = some u → h'.get? b = some u)
  (ho:∀ b,H b = some (.own a) → H' b = some (.own a)) (ht:∀ b xs,H b = some (.tup xs) → H' b = some (.tup xs)):bW P w H' h' a o:=by
 induction o with
 | lst xs=>obtain ⟨z,its,n,r,e⟩:=x;exact ⟨z,its,n,r,k _ _ (.inl rfl) e⟩
 | tup xs=>obtain ⟨z,its,r,ob,e,c⟩:=x;exact ⟨z,its,r,ob,k _ _ (.inl rfl) e,c⟩
 | dK kvs=>obtain ⟨z,y,vs,r,ob,es,ep,e,c⟩:=x;exact ⟨z,y,vs,r,ob,es,ep,k _ _ (.inl rfl) e,c⟩
 | dT kvs =>
  obtain ⟨z,y,xs,r,ob,es,ep,e,c⟩:=x
  exact ⟨z,y,xs,Paired.mapP r fun p q z=>⟨z.1,ht _ _ z.2.1,z.2.2⟩,ob,es,ep,k _ _ (.inl rfl) e,c⟩
 | set S n=>obtain ⟨ob,es,ep,t,e,c⟩:=x;exact ⟨ob,es,ep,t,k _ _ (.inl rfl) e,c⟩
 | ins C dx fs =>
  obtain ⟨d,z,ne,e,mA,⟨od,es,ep,e2,c⟩,r⟩:=x
  exact ⟨ho _ d,z,ne,k _ _ (.inl rfl) e,mA,⟨od,es,ep,k _ _ (.inr d) e2,c⟩,r⟩
 | own y=>obtain ⟨ob,e⟩:=x;exact ⟨ob,k _ _ (.inl rfl) e⟩
 | xd fs=>obtain ⟨mA,⟨od,es,ep,e,c⟩,r⟩:=x;exact ⟨mA,⟨od,es,ep,k _ _ (.inl rfl) e,c⟩,r⟩
 | rng lo hi=>obtain ⟨t,u,v,e⟩:=x;exact ⟨t,u,v,k _ _ (.inl rfl) e⟩
 | frz ob u ih=>obtain ⟨e,q⟩:=x;exact ⟨k _ _ (.inl rfl) e,ih q⟩
 | tbl ps =>
  have e:h.get? a = some { cls:=.none,data:=.fields ps }:=x
  show h'.get? a = some { cls:=.none,data:=.fields ps }
  exact k a _ (.inl rfl) e
 | met f y =>
  have e:h.get? a = some (EZ (.ref f) (.ref y)):=x
  show h'.get? a = some (EZ (.ref f) (.ref y))
  exact k a _ (.inl rfl) e
 | ext φ=>obtain ⟨p,⟨o,e⟩,st⟩:=x;exact ⟨st _ _ p fun o q=>k _ _ (.inl rfl) q,⟨o,k _ _ (.inl rfl) e⟩,st⟩
theorem HOk.lt (x:HOk P w H h) (e:H a = some o):a < h.objs.size:=(x a o e).lt
theorem HOk.fresh (x:HOk P w H h) (e:h.objs.size ≤ a):H a = none:=by
 cases q:H a with
 | none=>rfl
 | some u=>exact absurd (Ae (x.lt q) e) (Cn _)
theorem HOk.kept (x:HOk P w H h) (k:∀ b u,h.get? b = some u → h'.get? b = some u):HOk P w H h':=fun a o e =>
 (x a o e).stay (fun b u _ q=>k b u q) (fun _ q=>q) fun _ _ q=>q
theorem HOk.laid (x:HOk P w H h) (k:∀ b u,h.get? b = some u → h'.get? b = some u) (hp:h.objs.size ≤ a) (new:bW P w (upd H a o) h' a o):HOk P w (upd H a o) h':=fun b u e=>by
 have hn:=x.fresh hp
 by_cases hb:b = a
 ·subst hb;rw [aF] at e;cases e;exact new
 ·rw [aK hb] at e
  exact (x b u e).stay (fun c v _ q=>k c v q) (fun c q=>by rw [aK (aY q hn)];exact q) fun c xs q=>by rw [aK (aY q hn)];exact q
end
def Rd (H:Hp) (a:Addr) (u:HO):Prop:=H a = some u ∨ ∃ o,H a = some (.frz o u)
theorem Rd.ok {P:Program} {w:World} {H:Hp} {h:Heap} {a:Addr} {u:HO} (r:Rd H a u) (x:HOk P w H h):bW P w H h a u:=by
 rcases r with r | ⟨o,r⟩
 ·exact x a u r
 ·obtain ⟨_,q⟩:=x a _ r
  exact q
def Mut:Option HO → Prop
 | some (.lst _)=>True
 | some (.dK _)=>True
 | some (.dT _)=>True
 | some (.set _ _)=>True
 | some (.ins _ _ _)=>True
 | some (.ext _)=>True
 | _=>False
section
variable {P:Program} {w:World} {H:Hp} {h h':Heap} {x e:Addr} {o':HO}
theorem HOk.write (ok:HOk P w H h) (mu:Mut (H x)) (he:e = x ∨ H e = some (.own x)) (k:∀ b u,b ≠ e → h.get? b = some u → h'.get? b = some u) (heo:∃ u,h'.get? e = some u)
  (new:bW P w (upd H x o') h' x o'):HOk P w (upd H x o') h':=fun b u q=>by
 have nown:∀ c y,H c = some (.own y) → c ≠ x:=fun c y r z=>by subst z;rw [r] at mu;exact mu
 have ntup:∀ c xs,H c = some (.tup xs) → c ≠ x:=fun c xs r z=>by subst z;rw [r] at mu;exact mu
 by_cases hb:b = x
 ·subst hb;rw [aF] at q;cases q;exact new
 ·rw [aK hb] at q
  by_cases hbe:b = e
  ·have q':H b = some (.own x):=by
    rcases he with z | z
    ·exact absurd (hbe.trans z) hb
    ·rw [hbe];exact z
   rw [q] at q';cases q'
   obtain ⟨v,hv⟩:=heo
   exact ⟨v,by rw [hbe];exact hv⟩
  ·refine (ok b u q).stay (fun c v hc r=>k c v ?_ r) (fun c r=>by rw [aK (nown c b r)];exact r) fun c xs r=>by rw [aK (ntup c xs r)];exact r
   rcases hc with rfl | hc
   ·exact hbe
   ·rintro rfl
    rcases he with z | z
    ·exact nown c b hc z
    ·rw [hc] at z;cases z;exact hb rfl
end
structure Un (fs ex:List Addr) (H H':Hp) (h h':Heap):Prop where
 keep:∀ b o,h.get? b = some o → H b = none → b ∉ fs → b ∉ ex → h'.get? b = some o
 slot:∀ b o,h.get? b = some o → H b = none → b ∈ fs → b ∉ ex → ∃ sl,h'.get? b = some { o with slots:=sl }
 free:∀ b o,h.get? b = some o → H b = none → b ∉ ex → H' b = none
 there:∀ b o,h.get? b = some o → b ∉ ex → ∃ o',h'.get? b = some o'
 tups:∀ b xs,H b = some (.tup xs) → H' b = some (.tup xs)
 frzs:∀ b o u,H b = some (.frz o u) → H' b = some (.frz o u)
 tbls:∀ b ps,H b = some (.tbl ps) → ∃ more,H' b = some (.tbl (ps ++ more))
section
variable {fs fs' ex ex':List Addr} {H H1 H2:Hp} {h h1 h2 h':Heap} {a x e:Addr} {o:HO}
theorem Un.any (u:Un fs ex H H1 h h1) {b:Addr} {ob:Obj} (q:h.get? b = some ob) (n:H b = none) (hx:b ∉ ex):∃ sl,h1.get? b = some { ob with slots:=sl }:=by
 by_cases hb:b ∈ fs
 ·exact u.slot b ob q n hb hx
 ·exact ⟨ob.slots,u.keep b ob q n hb hx⟩
theorem Un.kept (k:∀ b u,h.get? b = some u → h'.get? b = some u):Un fs ex H H h h' :=
 ⟨fun b ob q _ _ _=>k b ob q,fun b ob q _ _ _=>⟨ob.slots,k b ob q⟩,fun _ _ _ n _=>n,fun b ob q _=>⟨ob,k b ob q⟩,fun _ _ q=>q,fun _ _ _ q=>q,fun _ ps q=>⟨#[],by rw [q];simp⟩⟩
theorem Un.refl:Un fs ex H H h h:=Un.kept fun _ _ q=>q
theorem Un.laid (k:∀ b u,h.get? b = some u → h'.get? b = some u) (hp:h.objs.size ≤ a) (hn:H a = none):Un fs ex H (upd H a o) h h' where
 keep:=fun b u q _ _ _=>k b u q
 slot:=fun b u q _ _ _=>⟨u.slots,k b u q⟩
 free:=fun b u q n _=>by rw [aK (Ah (Ae (AZ q) hp))];exact n
 there:=fun b u q _=>⟨u,k b u q⟩
 tups:=fun b xs q=>by rw [aK (aY q hn)];exact q
 frzs:=fun b u xs q=>by rw [aK (aY q hn)];exact q
 tbls:=fun b ps q=>⟨#[],by rw [aK (aY q hn),q];simp⟩
theorem Un.write (mu:Mut (H x)) (he:e = x ∨ H e = some (.own x)) (k:∀ b u,b ≠ e → h.get? b = some u → h'.get? b = some u) (heo:∃ u,h'.get? e = some u):Un fs ex H (upd H x o) h h':=by
 have hx:∀ b,H b = none → b ≠ x:=fun b n z=>by subst z;rw [n] at mu;exact mu
 have hb:∀ b,H b = none → b ≠ e:=fun b n z=>by
  subst z
  rcases he with r | r
  ·exact hx b n r
  ·rw [n] at r;cases r
 have hm:∀ b u,H b = some u → ¬ Mut (some u) → b ≠ x:=fun b u q nm z=>by subst z;rw [q] at mu;exact nm mu
 refine ⟨fun b u q n _ _=>k b u (hb b n) q,fun b u q n _ _=>⟨u.slots,k b u (hb b n) q⟩,fun b u q n _=>by rw [aK (hx b n)];exact n,fun b u q _=>?_,
  fun b xs q=>by rw [aK (hm b _ q fun z=>z)];exact q,fun b u xs q=>by rw [aK (hm b _ q fun z=>z)];exact q,fun b ps q=>⟨#[],by rw [aK (hm b _ q fun z=>z),q];simp⟩⟩
 by_cases hbe:b = e
 ·subst hbe;exact heo
 ·exact ⟨u,k b u hbe q⟩
end
def trk (h:Heap) (H:Hp):List Addr:=(Al h.objs.size).filter fun a=>(H a).isSome
def xT (h:Heap) (H:Hp):Heap:=PySem.W.hideAll h (trk h H)
theorem aJQ (h:Heap) (H:Hp):(xT h H).objs.size = h.objs.size:=PySem.W.hideAll_size _ _
theorem aND {h:Heap} {H:Hp} {b:Addr} {o:Obj} (e:h.get? b = some o) (n:H b = none):(xT h H).get? b = some o :=
 PySem.W.hideAll_get _ e fun hm=>by
  have q:(H b).isSome = true:=(Am.mp hm).2
  rw [n] at q;simp at q
theorem aQB {h:Heap} {H:Hp} {b:Addr} {o:Obj} (e:(xT h H).get? b = some o):h.get? b = some o ∧ H b = none:=by
 have e':h.get? b = some o:=PySem.W.of_hideAll (trk h H) e
 refine ⟨e',?_⟩
 cases q:H b with
 | none=>rfl
 | some x =>
  have hm:b ∈ trk h H:=Am.mpr ⟨Ax.mpr (AZ e'),by simp [q]⟩
  have z:(xT h H).get? b = none:=PySem.W.hideAll_none (trk h H) hm
  rw [z] at e;cases e
def aQX (g h:Heap) (L:Addr):List (Addr × Obj):=(Al h.objs.size).filterMap fun a=>if a = L ∨ (g.get? a).isSome = true then none else (h.get? a).map fun o=>(a,o)
def rest (g h:Heap) (L d:Addr):List (Addr × Obj):=(aQX g h L).filter fun p=>decide (p.1 ≠ d)
end L2
namespace L2
open PySem PySem.Spec PyProof.Rows
structure Mod (K:AG) (mg:Str → Option Value) (base:Heap):Prop where
 kin:K.In base
 glob:base.Ns AJ mg
 blt:∃ mb,base.Ns builtinsNs mb ∧ ∀ x:Str,x ≠ "__name__" → mb x = BS x
 nolimit:base.NoLimit
structure Cx where
 prog:Program
 w:World
 K:AG
 mg:Str → Option Value
 base:Heap
 A:Around
 N:List Str
 s₀:Shared
 H₀:Hp
 env:Env
 outer:List Env
 stack:List Env
 ex:List Addr
 fn:Str → Bool
 calm:Bool
 pn:List (Addr × Obj)
 xe:Value → Shared → Prop
def frs (l:List Env):List Addr:=l.filterMap (·.frame)
abbrev Cx.fs (X:Cx):List Addr:=frs X.outer
def Vis (sc:Scope) (x:Str):Prop:=sc.names.lookup x = some .local ∨ sc.names.lookup x = some .cell ∨ sc.names.lookup x = some .free
def Loc (sc:Scope) (x:Str):Prop:=sc.names.lookup x = some .local ∨ sc.names.lookup x = some .cell
def aXG (env:Env) (h:Heap) (m:Str → Option Value) (x:Str) (u:Value):Prop :=
 (env.kindOf x = some .local ∧ m x = some u) ∨ ((env.kindOf x = some .cell ∨ env.kindOf x = some .free) ∧ ∃ c,env.cells.lookup x = some c ∧ h.IsCell c (some u))
structure Cx.Ok (X:Cx):Prop where
 mod:Mod X.K X.mg X.base
 kind:X.env.scope.kind = .function
 glob:X.env.globals = AJ
 blt:X.env.builtins = builtinsNs
 above:X.s₀.heap.objs.size ≤ X.env.locals
 inj:∀ x y c,X.env.cells.lookup x = some c → X.env.cells.lookup y = some c → x = y
 has:∀ x,(X.env.kindOf x = some .cell ∨ X.env.kindOf x = some .free) → ∃ c,X.env.cells.lookup x = some c
 cab:∀ x c,X.fn x = true → X.env.cells.lookup x = some c → X.s₀.heap.objs.size ≤ c
 hd:X.calm = true → X.A.handled = none
 frames:X.A.frames = some X.stack
 stk:X.stack = X.outer ∨ (X.stack = X.env :: X.outer ∧ X.env.frame = some X.env.locals)
 exf:∀ b ∈ X.ex,b ≠ X.env.locals ∧ ∀ x c,X.env.cells.lookup x = some c → c ≠ b
 bs:∀ b o,X.base.get? b = some o → X.s₀.heap.get? b = some o ∧ X.H₀ b = none
 bsz:X.base.objs.size ≤ X.s₀.heap.objs.size
 noex:∀ b o,X.base.get? b = some o → b ∉ X.ex
 exfs:∀ b ∈ X.ex,b ∉ X.fs
 funs:X.s₀.heap.FunFrames X.base X.outer
 frf:∀ b ∈ X.fs,X.H₀ b = none
structure Inv (X:Cx) (pins:List (Addr × Obj)) (σ:List (Option V)) (H:Hp) (s:Shared):Prop where
 ok:X.Ok
 os:s.os = X.s₀.os
 bare:AllBare s.gens
 base:Un X.fs X.ex X.H₀ H X.s₀.heap s.heap
 loc:∃ m,s.heap.Ns X.env.locals m ∧ ∀ (i:Nat) (x:Str) (v:V),X.N[i]? = some x → σ[i]? = some (some v) → Vis X.env.scope x → ∃ u,bJ v u ∧ aXG X.env s.heap m x u
 cell:∀ x c,X.env.cells.lookup x = some c → ∃ v,s.heap.IsCell c v
 free:H X.env.locals = none
 freeC:∀ x c,X.env.cells.lookup x = some c → H c = none
 pin:∀ p ∈ X.pn ++ pins,s.heap.get? p.1 = some p.2 ∧ H p.1 = none ∧ p.1 ≠ X.env.locals ∧ p.1 ∉ X.fs ∧ ∀ v,p.2.data ≠ .cell v
 hok:HOk X.prog X.w H s.heap
 len:σ.length = X.N.length
section
variable {X:Cx} {pins:List (Addr × Obj)} {σ:List (Option V)} {H H':Hp} {s:Shared} {h':Heap}
theorem Cx.Ok.nofr (ok:X.Ok) {b:Addr} {o:Obj} (e:X.base.get? b = some o):b ∉ X.fs:=fun hb=>by
 have:=(ok.funs.mem hb).1
 rw [e] at this;cases this
theorem Inv.bs (I:Inv X pins σ H s):∀ b o,X.base.get? b = some o → s.heap.get? b = some o ∧ H b = none:=fun b o e =>
 ⟨I.base.keep b o (I.ok.bs b o e).1 (I.ok.bs b o e).2 (I.ok.nofr e) (I.ok.noex b o e),I.base.free b o (I.ok.bs b o e).1 (I.ok.bs b o e).2 (I.ok.noex b o e)⟩
theorem Inv.bk (I:Inv X pins σ H s):∀ b o,X.base.get? b = some o → s.heap.get? b = some o:=fun b o e=>(I.bs b o e).1
theorem Inv.mod (I:Inv X pins σ H s):Mod X.K X.mg X.base:=I.ok.mod
theorem Inv.kIn (I:Inv X pins σ H s):X.K.In s.heap:=I.ok.mod.kin.keeps I.bk
theorem Inv.fr (I:Inv X pins σ H s):∃ m,Fr X.base X.env.locals s.heap m :=
 let ⟨m,hn,_⟩:=I.loc
 ⟨m,hn,I.bk,BI I.ok.bsz I.ok.above⟩
theorem Inv.lt (I:Inv X pins σ H s):X.env.locals < s.heap.objs.size:=let ⟨_,hn,_⟩:=I.loc;hn.lt
theorem Inv.sz (I:Inv X pins σ H s):X.s₀.heap.objs.size ≤ s.heap.objs.size:=BI I.ok.above (En I.lt)
theorem Inv.nofs (I:Inv X pins σ H s) {a:Addr} (h:s.heap.objs.size ≤ a):a ∉ X.fs:=fun hb=>by
 obtain ⟨_,o,ho,_⟩:=I.ok.funs.mem hb
 exact absurd (Ae (AZ ho) (BI I.sz h)) (Cn _)
theorem Inv.cne (I:Inv X pins σ H s):∀ x c,X.env.cells.lookup x = some c → c ≠ X.env.locals:=fun x c e z=>by
 obtain ⟨v,o,ho,hd⟩:=I.cell x c e
 obtain ⟨m,⟨o',es,ep,ho',hd',_⟩,_⟩:=I.loc
 rw [z,ho'] at ho;cases ho;rw [hd'] at hd;cases hd
theorem Inv.funs (I:Inv X pins σ H s):s.heap.FunFrames X.base X.outer:=by
 have all:∀ (l:List Env),(∀ b ∈ frs l,b ∈ X.fs) → X.s₀.heap.FunFrames X.base l → s.heap.FunFrames X.base l:=by
  intro l
  induction l with
  | nil=>intro _ _;trivial
  | cons env r ih =>
   intro hs hl
   obtain ⟨hk,⟨L,o,hf,hn,ho,hd⟩,hr⟩:=hl
   have hL:L ∈ X.fs:=hs L (by unfold frs;rw [EU,hf];exact AU)
   obtain ⟨sl,e⟩:=I.base.slot L o ho (I.ok.frf L hL) hL fun z=>I.ok.exfs L z hL
   exact ⟨hk,⟨L,_,hf,hn,e,hd⟩,ih (fun b hb=>hs b (by unfold frs;rw [EU,hf];exact AO _ hb)) hr⟩
 exact all X.outer (fun _ hb=>hb) I.ok.funs
theorem Inv.stack (I:Inv X pins σ H s):s.heap.FunFrames X.base X.stack:=by
 rcases I.ok.stk with e | ⟨e,hf⟩
 ·rw [e];exact I.funs
 ·rw [e]
  obtain ⟨m,hn,_⟩:=I.loc
  refine .cons (by rw [I.ok.kind];decide) hf hn ?_ I.funs
  exact Heap.get?_none_of_le (BI I.ok.bsz I.ok.above)
theorem Inv.stkSub (I:Inv X pins σ H s):∀ b ∈ frs X.stack,b ∈ X.env.locals :: X.fs:=fun b hb=>by
 rcases I.ok.stk with e | ⟨e,hf⟩
 ·rw [e] at hb;exact AO _ hb
 ·rw [e] at hb
  unfold frs at hb
  rw [EU,hf] at hb
  exact hb
theorem Inv.stkFree (I:Inv X pins σ H s):∀ b ∈ frs X.stack,H b = none:=fun b hb=>by
 rcases Af.mp (I.stkSub b hb) with e | hb
 ·rw [e];exact I.free
 ·obtain ⟨_,o,ho,_⟩:=I.ok.funs.mem hb
  exact I.base.free b o ho (I.ok.frf b hb) fun z=>I.ok.exfs b z hb
theorem Inv.step {g':Array Da} {t':Nat} {d':Drawn} {ch:List Addr} (I:Inv X pins σ H s)
  (hch:∀ b ∈ ch,(b ∈ X.ex ∨ X.s₀.heap.objs.size ≤ b) ∧ b ≠ X.env.locals ∧ (∀ x c,X.env.cells.lookup x = some c → c ≠ b) ∧ ∀ p ∈ X.pn ++ pins,p.1 ≠ b)
  (keep:∀ b o,b ≠ X.env.locals → b ∉ X.fs → b ∉ ch → s.heap.get? b = some o → H b = none → h'.get? b = some o)
  (slot:∀ b o,b ≠ X.env.locals → b ∈ X.fs → b ∉ ch → s.heap.get? b = some o → H b = none → ∃ sl,h'.get? b = some { o with slots:=sl }) (free:∀ b o,b ∉ ch → s.heap.get? b = some o → H b = none → H' b = none)
  (there:∀ b o,b ∉ ch → s.heap.get? b = some o → ∃ o',h'.get? b = some o')
  (tups:∀ b xs,H b = some (.tup xs) → H' b = some (.tup xs)) (frzs:∀ b o u,H b = some (.frz o u) → H' b = some (.frz o u)) (tbls:∀ b ps,H b = some (.tbl ps) → ∃ more,H' b = some (.tbl (ps ++ more)))
  (ns:∀ m,s.heap.Ns X.env.locals m → h'.Ns X.env.locals m) (hok:HOk X.prog X.w H' h') (hg:AllBare g') :
  Inv X pins σ H' { s with heap:=h',gens:=g',drawn:=d',toks:=t' }:=by
 have neL:∀ b o,X.s₀.heap.get? b = some o → b ≠ X.env.locals:=fun b o e=>Ah (Ae (AZ e) I.ok.above)
 have neC:∀ b o,X.s₀.heap.get? b = some o → b ∉ X.ex → b ∉ ch:=fun b o e hx hb=>by
  rcases (hch b hb).1 with z | z
  ·exact hx z
  ·exact absurd (Ae (AZ e) z) (Cn _)
 have cellK:∀ x c,X.env.cells.lookup x = some c → ∀ v,s.heap.IsCell c v → h'.IsCell c v:=fun x c e v ⟨o,ho,hd⟩=>by
  have nch:c ∉ ch:=fun z=>(hch c z).2.2.1 x c e rfl
  by_cases hc:c ∈ X.fs
  ·obtain ⟨sl,q⟩:=slot c o (I.cne x c e) hc nch ho (I.freeC x c e)
   exact ⟨_,q,hd⟩
  ·exact ⟨o,keep c o (I.cne x c e) hc nch ho (I.freeC x c e),hd⟩
 refine ⟨I.ok,I.os,hg,⟨fun b o e n hb hx=>?_,fun b o e n hb hx=>?_,fun b o e n hx=>?_,fun b o e hx=>?_,fun b xs e=>tups b xs (I.base.tups b xs e),fun b o xs e=>frzs b o xs (I.base.frzs b o xs e),fun b ps e=>?_⟩,?_,fun x c e=>?_,?_,fun x c e=>?_,fun p hp=>?_,hok,I.len⟩
 ·exact keep b o (neL b o e) hb (neC b o e hx) (I.base.keep b o e n hb hx) (I.base.free b o e n hx)
 ·obtain ⟨sl,e1⟩:=I.base.slot b o e n hb hx
  obtain ⟨sl',e2⟩:=slot b _ (neL b o e) hb (neC b o e hx) e1 (I.base.free b o e n hx)
  exact ⟨sl',e2⟩
 ·obtain ⟨o',e1⟩:=I.base.there b o e hx
  exact free b o' (neC b o e hx) e1 (I.base.free b o e n hx)
 ·obtain ⟨o',e1⟩:=I.base.there b o e hx
  exact there b o' (neC b o e hx) e1
 ·obtain ⟨m1,e1⟩:=I.base.tbls b ps e
  obtain ⟨m2,e2⟩:=tbls b _ e1
  exact ⟨m1 ++ m2,by rw [e2,Array.append_assoc]⟩
 ·obtain ⟨m,hn,hl⟩:=I.loc
  refine ⟨m,ns m hn,fun i x v e1 e2 e3=>?_⟩
  obtain ⟨u,r,l⟩:=hl i x v e1 e2 e3
  refine ⟨u,r,?_⟩
  rcases l with l | ⟨k,c,e,z⟩
  ·exact .inl l
  ·exact .inr ⟨k,c,e,cellK x c e _ z⟩
 ·obtain ⟨v,z⟩:=I.cell x c e
  exact ⟨v,cellK x c e v z⟩
 ·obtain ⟨m,⟨o,_,_,ho,_⟩,_⟩:=I.loc
  exact free _ o (fun z=>(hch _ z).2.1 rfl) ho I.free
 ·obtain ⟨v,o,ho,hd⟩:=I.cell x c e
  exact free c o (fun z=>(hch c z).2.2.1 x c e rfl) ho (I.freeC x c e)
 ·obtain ⟨e,n,ne,nf,d⟩:=I.pin p hp
  have nch:p.1 ∉ ch:=fun z=>(hch p.1 z).2.2.2 p hp rfl
  exact ⟨keep p.1 p.2 ne nf nch e n,free p.1 p.2 nch e n,ne,nf,d⟩
theorem Inv.un {t':Nat} (I:Inv X pins σ H s) (u:Un X.fs [] H H' s.heap h') (hok:HOk X.prog X.w H' h'):Inv X pins σ H' { s with heap:=h',toks:=t' }:=by
 obtain ⟨m,⟨o,es,ep,ho,r⟩,_⟩:=id I.loc
 obtain ⟨sl,hL⟩:=u.any ho I.free (by simp)
 exact I.step (g':=s.gens) (d':=s.drawn) (ch:=[]) (fun _ z=>nomatch z) (fun b o _ hb _ e n=>u.keep b o e n hb (by simp)) (fun b o _ hb _ e n=>u.slot b o e n hb (by simp)) (fun b o _ e n=>u.free b o e n (by simp)) (fun b o _ e=>u.there b o e (by simp)) u.tups u.frzs u.tbls (fun m' hm=>by
  obtain ⟨o',es',ep',ho',r'⟩:=hm
  rw [ho] at ho';cases ho'
  exact ⟨_,es',ep',hL,r'⟩) hok I.bare
theorem Inv.call {g':Array Da} {t':Nat} {d':Drawn} {ch:List Addr} (I:Inv X pins σ H s) (u:Un (frs X.stack) ch H H' s.heap h') (hok:HOk X.prog X.w H' h') (hg:AllBare g')
  (hch:∀ b ∈ ch,(b ∈ X.ex ∨ X.s₀.heap.objs.size ≤ b) ∧ b ≠ X.env.locals ∧ (∀ x c,X.env.cells.lookup x = some c → c ≠ b) ∧ ∀ p ∈ X.pn ++ pins,p.1 ≠ b) :
  Inv X pins σ H' { s with heap:=h',gens:=g',drawn:=d',toks:=t' }:=by
 obtain ⟨m,⟨o,es,ep,ho,r⟩,_⟩:=id I.loc
 obtain ⟨sl,hL⟩:=u.any ho I.free fun z=>(hch _ z).2.1 rfl
 exact I.step (ch:=ch) hch (fun b o hL hb hc e n=>u.keep b o e n (fun z=>(Af.mp (I.stkSub b z)).elim hL hb) hc) (fun b o _ _ hc e n=>u.any e n hc) (fun b o hc e n=>u.free b o e n hc) (fun b o hc e=>u.there b o e hc) u.tups u.frzs u.tbls (fun m' hm=>by
  obtain ⟨o',es',ep',ho',r'⟩:=hm
  rw [ho] at ho';cases ho'
  exact ⟨_,es',ep',hL,r'⟩) hok hg
theorem Inv.turned {t':Nat} {it:Addr} (I:Inv X pins σ H s) (k:∀ b o,b ≠ it → s.heap.get? b = some o → h'.get? b = some o) (hn:H it = none) (hL:it ≠ X.env.locals)
  (h1:it ∈ X.ex ∨ X.s₀.heap.objs.size ≤ it) (h2:∀ x c,X.env.cells.lookup x = some c → c ≠ it) (h3:∀ p ∈ X.pn ++ pins,p.1 ≠ it):Inv X pins σ H { s with heap:=h',toks:=t' }:=by
 have nit:∀ b u,H b = some u → b ≠ it:=fun b u e z=>by rw [z,hn] at e;cases e
 refine I.step (g':=s.gens) (d':=s.drawn) (ch:=[it]) (fun b hb=>?_) (fun b o _ _ hc e _=>k b o (fun z=>hc (by simp [z])) e) (fun b o _ _ hc e _=>⟨o.slots,k b o (fun z=>hc (by simp [z])) e⟩) (fun _ _ _ _ n=>n)
  (fun b o hc e=>⟨o,k b o (fun z=>hc (by simp [z])) e⟩) (fun _ _ e=>e) (fun _ _ _ e=>e) (fun b ps e=>⟨#[],by rw [e];simp⟩) (fun m hm=>?_) (fun b u e=>?_) I.bare
 ·have e:b = it:=by simpa using hb
  subst e
  exact ⟨h1,hL,h2,h3⟩
 ·obtain ⟨o,es,ep,ho,r⟩:=hm
  exact ⟨o,es,ep,k _ o (Ne.symm hL) ho,r⟩
 ·refine (I.hok b u e).stay (fun c v hc q=>k c v ?_ q) (fun _ q=>q) fun _ _ q=>q
  rcases hc with z | z
  ·rw [z];exact nit b u e
  ·exact nit c _ z
theorem Inv.tok (I:Inv X pins σ H s) (t:Nat):Inv X pins σ H { s with toks:=t }:=I.un (h':=s.heap) (t':=t) Un.refl I.hok
theorem Inv.kept {t':Nat} (I:Inv X pins σ H s) (k:∀ b u,s.heap.get? b = some u → h'.get? b = some u):Inv X pins σ H { s with heap:=h',toks:=t' }:=I.un (Un.kept k) (I.hok.kept k)
theorem Inv.laid {a:Addr} {o:HO} {t':Nat} (I:Inv X pins σ H s) (k:∀ b u,s.heap.get? b = some u → h'.get? b = some u) (hp:s.heap.objs.size ≤ a) (new:bW X.prog X.w (upd H a o) h' a o) :
  Inv X pins σ (upd H a o) { s with heap:=h',toks:=t' }:=I.un (Un.laid k hp (I.hok.fresh hp)) (I.hok.laid k hp new)
theorem Inv.write {x e:Addr} {o:HO} {t':Nat} (I:Inv X pins σ H s) (mu:Mut (H x)) (he:e = x ∨ H e = some (.own x)) (k:∀ b u,b ≠ e → s.heap.get? b = some u → h'.get? b = some u) (heo:∃ u,h'.get? e = some u)
  (new:bW X.prog X.w (upd H x o) h' x o):Inv X pins σ (upd H x o) { s with heap:=h',toks:=t' }:=I.un (Un.write mu he k heo) (I.hok.write mu he k heo new)
theorem Inv.weak {σ':List (Option V)} (I:Inv X pins σ H s) (hl:σ'.length = σ.length) (w:∀ (i:Nat) v,σ'[i]? = some (some v) → σ[i]? = some (some v)):Inv X pins σ' H s :=
 ⟨I.ok,I.os,I.bare,I.base,let ⟨m,hn,hl'⟩:=I.loc;⟨m,hn,fun i x v e1 e2 e3=>hl' i x v e1 (w i v e2) e3⟩,I.cell,I.free,I.freeC,I.pin,I.hok,hl.trans I.len⟩
theorem Inv.pins_of {pins':List (Addr × Obj)} (I:Inv X pins σ H s) (h:∀ p ∈ pins',s.heap.get? p.1 = some p.2 ∧ H p.1 = none ∧ p.1 ≠ X.env.locals ∧ p.1 ∉ X.fs ∧ ∀ v,p.2.data ≠ .cell v):Inv X pins' σ H s :=
 ⟨I.ok,I.os,I.bare,I.base,I.loc,I.cell,I.free,I.freeC,fun p hp=>(Au.mp hp).elim (fun z=>I.pin p (Bh _ z)) (h p),I.hok,I.len⟩
theorem qQ {N:List Str} (hN:N.Nodup) {i j:Nat} {x:Str} (a:N[i]? = some x) (b:N[j]? = some x):i = j:=by
 obtain ⟨h1,e1⟩:=AC.mp a
 obtain ⟨h2,e2⟩:=AC.mp b
 exact (Dq hN).mp (e1.trans e2.symm)
theorem aIQ {M:Model} {A:Around} {E:Value → Shared → Prop} {i:Nat} {x:Str} {v:V} {u:Value} {Q:Unit → Shared → Prop} (I:Inv X pins σ H s) (hN:X.N.Nodup) (hi:X.N[i]? = some x) (hx:Loc X.env.scope x) (r:bJ v u)
  (h:∀ s',Inv X pins (σ.set i (some v)) H s' → (∃ a,DG a s.heap s'.heap ∧ (a = X.env.locals ∨ X.env.cells.lookup x = some a)) → Q () s') (hf:X.fn x = true ∨ X.env.scope.names.lookup x = some .local:=by first | exact .inl rfl | exact .inr rfl | assumption):wpAny M A (storeName X.env x u) Q E s:=by
 obtain ⟨m,hn,hl⟩:=id I.loc
 have hcls:(X.env.scope.kind == .class || (X.env.scope.kind == .module && X.env.locals != X.env.globals)) = false:=by rw [I.ok.kind];rfl
 have hiσ:i < σ.length:=by rw [I.len];exact (AC.mp hi).1
 have cne:=I.cne
 have tracked:∀ {a:Addr} {h':Heap},(∃ o,s.heap.get? a = some o ∧ H a = none) → DG a s.heap h' → HOk X.prog X.w H h':=fun {a h'} ha hs b ob e=>by
  obtain ⟨_,_,hfree⟩:=ha
  refine (I.hok b ob e).stay (fun c w' hc q=>(hs.2 c ?_).trans q) (fun _ q=>q) fun _ _ q=>q
  rintro rfl
  rcases hc with rfl | hc
  ·rw [hfree] at e;cases e
  ·rw [hfree] at hc;cases hc
 rcases hx with hk | hk
 ·refine wpAny_storeName_local hk hn (fun h' hn' hs=>?_) hcls
  obtain ⟨oL,_,_,hoL,_⟩:=id hn
  refine h _ ⟨I.ok,I.os,I.bare,⟨fun b o e n hb hx=>?_,fun b o e n hb hx=>?_,I.base.free,fun b o e hx=>?_,I.base.tups,I.base.frzs,I.base.tbls⟩,⟨_,hn',fun j y v' e1 e2 e3=>?_⟩,fun y c e=>?_,I.free,I.freeC,fun p hp=>?_,tracked ⟨oL,hoL,I.free⟩ hs,by simpa using I.len⟩ ⟨_,hs,.inl rfl⟩
  ·exact (hs.2 b (Ah (Ae (AZ e) I.ok.above))).trans (I.base.keep b o e n hb hx)
  ·obtain ⟨sl,e1⟩:=I.base.slot b o e n hb hx
   exact ⟨sl,(hs.2 b (Ah (Ae (AZ e) I.ok.above))).trans e1⟩
  ·obtain ⟨o',e1⟩:=I.base.there b o e hx
   exact ⟨o',(hs.2 b (Ah (Ae (AZ e) I.ok.above))).trans e1⟩
  ·by_cases hj:j = i
   ·subst hj
    rw [hi] at e1;cases e1
    rw [List.getElem?_set_self hiσ] at e2
    cases e2
    exact ⟨u,r,.inl ⟨hk,by simp⟩⟩
   ·rw [EH (Ne.symm hj)] at e2
    obtain ⟨u',r',q⟩:=hl j y v' e1 e2 e3
    refine ⟨u',r',?_⟩
    rcases q with ⟨k,e⟩ | ⟨k,c,e,z⟩
    ·refine .inl ⟨k,?_⟩
     have:y ≠ x:=fun e=>hj (qQ hN e1 (e ▸ hi))
     simp [this,e]
    ·exact .inr ⟨k,c,e,z.sameBut hs (cne y c e)⟩
  ·obtain ⟨w',z⟩:=I.cell y c e
   exact ⟨w',z.sameBut hs (cne y c e)⟩
  ·obtain ⟨e,n,ne,nf,d⟩:=I.pin p hp
   exact ⟨(hs.2 p.1 ne).trans e,n,ne,nf,d⟩
 ·have hfn:X.fn x = true:=by
   rcases hf with z | z
   ·exact z
   ·rw [z] at hk;cases hk
  obtain ⟨c,hc⟩:=I.ok.has x (.inl hk)
  obtain ⟨w',z⟩:=I.cell x c hc
  refine wpAny_storeName_cell I.ok.kind hk hc z (fun h' hc' hs=>?_)
  obtain ⟨oc,hoc,hocd⟩:=id z
  refine h { s with heap:=h' } ⟨I.ok,I.os,I.bare,⟨fun b o e n hb hx=>?_,fun b o e n hb hx=>?_,I.base.free,fun b o e hx=>?_,I.base.tups,I.base.frzs,I.base.tbls⟩,⟨m,hn.sameBut hs (Ne.symm (cne x c hc)),fun j y v' e1 e2 e3=>?_⟩,fun y c' e=>?_,I.free,I.freeC,fun p hp=>?_,tracked ⟨oc,hoc,I.freeC x c hc⟩ hs,by simpa using I.len⟩ ⟨c,hs,.inr hc⟩
  ·exact (hs.2 b (Ah (Ae (AZ e) (I.ok.cab x c hfn hc)))).trans (I.base.keep b o e n hb hx)
  ·obtain ⟨sl,e1⟩:=I.base.slot b o e n hb hx
   exact ⟨sl,(hs.2 b (Ah (Ae (AZ e) (I.ok.cab x c hfn hc)))).trans e1⟩
  ·obtain ⟨o',e1⟩:=I.base.there b o e hx
   exact ⟨o',(hs.2 b (Ah (Ae (AZ e) (I.ok.cab x c hfn hc)))).trans e1⟩
  ·by_cases hj:j = i
   ·subst hj
    rw [hi] at e1;cases e1
    rw [List.getElem?_set_self hiσ] at e2
    cases e2
    exact ⟨u,r,.inr ⟨.inl hk,c,hc,hc'⟩⟩
   ·rw [EH (Ne.symm hj)] at e2
    obtain ⟨u',r',q⟩:=hl j y v' e1 e2 e3
    refine ⟨u',r',?_⟩
    rcases q with q | ⟨k,c',e,z'⟩
    ·exact .inl q
    ·refine .inr ⟨k,c',e,z'.sameBut hs ?_⟩
     rintro rfl
     exact hj (qQ hN e1 (I.ok.inj _ _ _ e hc ▸ hi))
  ·by_cases hcc:c' = c
   ·subst hcc;exact ⟨_,hc'⟩
   ·obtain ⟨w2,z2⟩:=I.cell y c' e
    exact ⟨w2,z2.sameBut hs hcc⟩
  ·obtain ⟨e,n,ne,nf,d⟩:=I.pin p hp
   refine ⟨(hs.2 p.1 ?_).trans e,n,ne,nf,d⟩
   intro q
   rw [q,hoc] at e
   have q':oc = p.2:=Aw e
   exact d w' (by rw [← q'];exact hocd)
theorem mO {M:Model} {A:Around} {E:Value → Shared → Prop} {i:Nat} {x:Str} {v:V} {u:Value} {Q:Unit → Shared → Prop} (I:Inv X pins σ H s) (hN:X.N.Nodup) (hi:X.N[i]? = some x) (hx:Loc X.env.scope x) (r:bJ v u)
  (h:∀ s',Inv X pins (σ.set i (some v)) H s' → Q () s') (hf:X.fn x = true ∨ X.env.scope.names.lookup x = some .local:=by first | exact .inl rfl | exact .inr rfl | assumption):wpAny M A (storeName X.env x u) Q E s :=
 aIQ I hN hi hx r (fun s' I' _=>h s' I') hf
theorem Inv.call' {s':Shared} {ch:List Addr} (I:Inv X pins σ H s) (ho:s'.os = s.os) (u:Un (frs X.stack) ch H H' s.heap s'.heap) (hok:HOk X.prog X.w H' s'.heap) (hg:AllBare s'.gens)
  (hch:∀ b ∈ ch,(b ∈ X.ex ∨ X.s₀.heap.objs.size ≤ b) ∧ b ≠ X.env.locals ∧ (∀ x c,X.env.cells.lookup x = some c → c ≠ b) ∧ ∀ p ∈ X.pn ++ pins,p.1 ≠ b):Inv X pins σ H' s':=by
 obtain ⟨h',g',d',t',o'⟩:=s'
 have e:o' = s.os:=ho
 subst e
 exact I.call (g':=g') (t':=t') (d':=d') u hok hg hch
end
abbrev XK:=Value → Option Addr → Hp → Prop
abbrev St:=List (Option V)
abbrev VK:=V → Hp → Prop
abbrev TE:=St → Hp → VK → Prop
abbrev TT:=St → Hp → (Bool → Hp → Prop) → Prop
abbrev TA:=St → Hp → (List V → Hp → Prop) → Prop
structure Ends where
 nx:St → Hp → Prop
 rt:VK
 bk:St → Hp → Prop:=fun _ _=>False
 ct:St → Hp → Prop:=fun _ _=>False
abbrev TS:=Ends → St → Hp → Prop
def EP (X:Cx) (pins:List (Addr × Obj)) (σ:St) (Q:VK) (u:Value) (s':Shared):Prop:=∃ v H',Inv X pins σ H' s' ∧ bJ v u ∧ Q v H'
def TP (X:Cx) (pins:List (Addr × Obj)) (σ:St) (Q:Bool → Hp → Prop) (b:Bool) (s':Shared):Prop:=∃ H',Inv X pins σ H' s' ∧ Q b H'
def AP (X:Cx) (pins:List (Addr × Obj)) (σ:St) (Q:List V → Hp → Prop) (us:List Value) (s':Shared):Prop:=∃ vs H',Inv X pins σ H' s' ∧ bK vs us ∧ Q vs H'
def SP (X:Cx) (pins:List (Addr × Obj)) (D:Ends) (f:Flow) (s':Shared):Prop :=
 match f with
 | .next=>∃ σ' H',Inv X pins σ' H' s' ∧ D.nx σ' H'
 | .brk=>∃ σ' H',Inv X pins σ' H' s' ∧ D.bk σ' H'
 | .cont=>∃ σ' H',Inv X pins σ' H' s' ∧ D.ct σ' H'
 | .ret u=>∃ v σ' H',Inv X pins σ' H' s' ∧ bJ v u ∧ D.rt v H'
def PE (X:Cx) (e:Expr) (t:TE):Prop :=
 ∀ (pins:List (Addr × Obj)) (s:Shared) (σ:St) (H:Hp) (Q:VK),Inv X pins σ H s → t σ H Q → wpAny (model X.prog X.w) X.A (eval e X.env) (EP X pins σ Q) X.xe s
def PT (X:Cx) (e:Expr) (t:TT):Prop :=
 ∀ (pins:List (Addr × Obj)) (s:Shared) (σ:St) (H:Hp) (Q:Bool → Hp → Prop),Inv X pins σ H s → t σ H Q → wpAny (model X.prog X.w) X.A (isTrue e X.env (eval e X.env)) (TP X pins σ Q) X.xe s
def PW (X:Cx) (e:Expr) (t:TT):Prop :=
 ∀ (whole:Sem Value) (pins:List (Addr × Obj)) (s:Shared) (σ:St) (H:Hp) (Q:Bool → Hp → Prop),Inv X pins σ H s → t σ H Q → wpAny (model X.prog X.w) X.A (isTrue e X.env whole) (TP X pins σ Q) X.xe s
theorem PW.pt {X:Cx} {e:Expr} {t:TT} (h:PW X e t):PT X e t:=h _
def PA (X:Cx) (es:List Expr) (t:TA):Prop :=
 ∀ (pos:Pos) (pins:List (Addr × Obj)) (s:Shared) (σ:St) (H:Hp) (Q:List V → Hp → Prop),Inv X pins σ H s → t σ H Q → wpAny (model X.prog X.w) X.A (spliced (backTo pos (Av es X.env))) (AP X pins σ Q) X.xe s
def PS (X:Cx) (st:Stmt) (t:TS):Prop :=
 ∀ (pins:List (Addr × Obj)) (s:Shared) (σ:St) (H:Hp) (D:Ends),Inv X pins σ H s → t D σ H → wpAny (model X.prog X.w) X.A (exec st X.env) (SP X pins D) X.xe s
def PSs (X:Cx) (st:List Stmt) (t:TS):Prop :=
 ∀ (pins:List (Addr × Obj)) (s:Shared) (σ:St) (H:Hp) (D:Ends),Inv X pins σ H s → t D σ H → wpAny (model X.prog X.w) X.A (execs st X.env) (SP X pins D) X.xe s
theorem thn {α:Type} {t:Sem α} {Q Q':α → Shared → Prop} {M:Model} {A:Around} {E:Value → Shared → Prop} {s:Shared} (h:wpAny M A t Q E s) (hQ:∀ a s,Q a s → Q' a s):wpAny M A t Q' E s:=BL h hQ fun _ _ x=>x
end L2
namespace L2
open PySem PySem.Spec PyProof.Rows
section
variable {X:Cx}
def aOR (i:Nat):TE:=fun σ H Q=>∃ v,σ[i]? = some (some v) ∧ Q v H
def tC (v:V):TE:=fun _ H Q=>Q v H
theorem aSS {i:Nat} {x:Str} {pos:Pos} (hN:X.N[i]? = some x) (hv:Vis X.env.scope x) (hd:(x == ("__debug__":Str)) = false:=by decide) (hcd:(x == ("__classdict__":Str)) = false:=by decide):PE X (.Name x pos) (aOR i):=by
 intro pins s σ H Q I h
 obtain ⟨v,e,h⟩:=h
 obtain ⟨m,hn,hl⟩:=I.loc
 obtain ⟨u,r,l⟩:=hl i x v hN e hv
 have fin:EP X pins σ Q u s:=⟨v,H,I,r,h⟩
 rcases l with ⟨hk,hm⟩ | ⟨hk,c,hc,hcell⟩
 ·exact wpAny_Name (wpAny_loadName_local I.ok.kind hk hn hm fin) hd
 ·rcases hk with hk | hk
  ·exact wpAny_Name (wpAny_loadName_cell I.ok.kind hk hc hcell fin) hd
  ·exact wpAny_Name (wpAny_loadName_free I.ok.kind hk hc hcell fin hcd) hd
theorem aE {i j pos}:PE X (.Constant (.int i) j pos) (tC (.int i)):=fun _ _ _ H _ I h=>wpAny_Constant_int ⟨.int i,H,I.tok _,⟨_,rfl⟩,h⟩
theorem qJ {b j pos}:PE X (.Constant (.bool b) j pos) (tC (.bl b)):=fun _ _ _ H _ I h=>Constant_bool ⟨.bl b,H,I,rfl,h⟩
theorem aAS {j pos}:PE X (.Constant .none j pos) (tC .non):=fun _ _ _ H _ I h=>Constant_none ⟨.non,H,I,rfl,h⟩
theorem aAR {x j pos}:PE X (.Constant (.str x) j pos) (tC (.str x)):=fun _ _ _ H _ I h=>Calls.Constant_str ⟨.str x,H,I.tok _,⟨_,rfl⟩,h⟩
def Gl (X:Cx) (x:Str):Prop:=X.env.kindOf x = some .globalImplicit
theorem aBF {E:Value → Shared → Prop} {pins:List (Addr × Obj)} {s:Shared} {σ:St} {H:Hp} {x:Str} {u:Value} {pos:Pos} {Q:Value → Shared → Prop} (I:Inv X pins σ H s) (hg:Gl X x) (hm:X.mg x = some u) (h:Q u s)
  (hd:(x == ("__debug__":Str)) = false:=by decide):wpAny (model X.prog X.w) X.A (eval (.Name x pos) X.env) Q E s :=
 Calls.Name_function_global I.ok.kind hg (Calls.loadGlobal_global (by rw [I.ok.glob];exact I.mod.glob.keeps I.bk) hm h) hd
theorem nJ {E:Value → Shared → Prop} {pins:List (Addr × Obj)} {s:Shared} {σ:St} {H:Hp} {x:Str} {u:Value} {pos:Pos} {Q:Value → Shared → Prop} (I:Inv X pins σ H s) (hg:Gl X x) (hm:X.mg x = none) (hv:BS x = some u) (h:Q u s)
  (hn:x ≠ "__name__":=by decide) (hd:(x == ("__debug__":Str)) = false:=by decide):wpAny (model X.prog X.w) X.A (eval (.Name x pos) X.env) Q E s:=by
 obtain ⟨mb,h1,h2⟩:=I.mod.blt
 exact Calls.Name_function_global I.ok.kind hg (Calls.loadGlobal_builtin (by rw [I.ok.glob];exact I.mod.glob.keeps I.bk) hm (by rw [I.ok.blt];exact h1.keeps I.bk) ((h2 x hn).trans hv) h) hd
theorem aPV {x:Str} {v:V} {u:Value} {pos:Pos} (hg:Gl X x) (hm:X.mg x = some u) (r:bJ v u) (hd:(x == ("__debug__":Str)) = false:=by decide):PE X (.Name x pos) (tC v) :=
 fun _ _ _ H _ I h=>aBF I hg hm ⟨v,H,I,r,h⟩ hd
theorem aPX {x:Str} {v:V} {u:Value} {pos:Pos} (hg:Gl X x) (hm:X.mg x = none) (hv:BS x = some u) (r:bJ v u) (hn:x ≠ "__name__":=by decide) (hd:(x == ("__debug__":Str)) = false:=by decide):PE X (.Name x pos) (tC v) :=
 fun _ _ _ H _ I h=>nJ I hg hm hv ⟨v,H,I,r,h⟩ hn hd
def t2I (ta tb:TE) (k:Int → Int → Hp → Prop):St → Hp → Prop:=fun σ H=>ta σ H fun x H1=>tb σ H1 fun y H2=>∃ i j,x = .int i ∧ y = .int j ∧ k i j H2
variable {a b:Expr} {ta tb:TE} {pos:Pos}
def PC (X:Cx) (op:CmpOp) (a b:Expr) (t:TE):Prop :=
 ∀ (pins:List (Addr × Obj)) (s:Shared) (σ:St) (H:Hp) (Q:VK),Inv X pins σ H s → t σ H Q →
  wpAny (model X.prog X.w) X.A (eval a X.env) (fun v s₁=>wpAny (model X.prog X.w) X.A (eval b X.env) (fun u s₂=>wpAny (model X.prog X.w) X.A (BW op v u) (EP X pins σ Q) X.xe s₂) X.xe s₁) X.xe s
def tCmp (p:Int → Int → Bool) (ta tb:TE):TE:=fun σ H Q=>t2I ta tb (fun i j H2=>Q (.bl (p i j)) H2) σ H
def tB (t:TE):TT:=fun σ H Q=>t σ H fun x H1=>∃ c,x = .bl c ∧ Q c H1
theorem aAO {op:CmpOp} {t:TE} (h:PC X op a b t) (h1:Dx op b = false:=by first | exact nobehind _ (by decide) (by decide) | rfl):PT X (.Compare a [op] [b] pos) (tB t):=by
 intro pins s σ H Q I hw
 refine wpAny_isTrue_Compare1 (thn (h pins s σ H _ I hw) fun v s1 h1=>thn h1 fun u s2 h2=>thn h2 fun c s3 ⟨x,H1,I1,r1,q1⟩=>?_) h1
 obtain ⟨d,rfl,q⟩:=q1
 cases r1
 exact Br ⟨H1,I1,q⟩
theorem eF {e:Expr} {t:TE} (h:PE X e t) (he:∀ whole,isTrue e X.env whole = (do let v ← whole;standAt e.pos;holding [v] (truthy v)):=by intro _;rfl):PT X e (tB t):=by
 intro pins s σ H Q I hw
 refine isTrue_plain (thn (h pins s σ H _ I hw) fun v s1 ⟨x,H1,I1,r1,q1⟩=>?_) (he _)
 obtain ⟨d,rfl,q⟩:=q1
 cases r1
 exact Br ⟨H1,I1,q⟩
variable {tA tB':TT} {rest:List Expr}
def aWH (t u:TT):TT:=fun σ H Q=>t σ H fun c H1=>if c = true then u σ H1 Q else Q false H1
def tOr (t u:TT):TT:=fun σ H Q=>t σ H fun c H1=>if c = true then Q true H1 else u σ H1 Q
def aWB (t:TT):TT:=fun σ H Q=>t σ H fun c H1=>Q (!c) H1
theorem aAN (ha:PT X a tA):PW X (.BoolOp .And [a] pos) tA:=by
 intro wh pins s σ H Q I h
 refine isTrue_and (thn (ha pins s σ H Q I h) fun c s1 e=>?_)
 cases c with
 | true=>exact isTrue_and_nil e
 | false=>exact e
theorem mX (ha:PT X a tA):PW X (.BoolOp .Or [a] pos) tA:=by
 intro wh pins s σ H Q I h
 refine isTrue_or (thn (ha pins s σ H Q I h) fun c s1 e=>?_)
 cases c with
 | false=>exact isTrue_or_nil e
 | true=>exact e
theorem aES (ha:PT X a tA) (hb:PW X (.BoolOp .And (b :: rest) pos) tB'):PW X (.BoolOp .And (a :: b :: rest) pos) (aWH tA tB'):=by
 intro wh pins s σ H Q I h
 refine isTrue_and (thn (ha pins s σ H _ I h) fun c s1 ⟨H1,I1,q1⟩=>?_)
 cases c with
 | true=>exact hb wh pins s1 σ H1 Q I1 q1
 | false=>exact ⟨H1,I1,q1⟩
theorem qH (ha:PT X a tA) (hb:PW X (.BoolOp .Or (b :: rest) pos) tB'):PW X (.BoolOp .Or (a :: b :: rest) pos) (tOr tA tB'):=by
 intro wh pins s σ H Q I h
 refine isTrue_or (thn (ha pins s σ H _ I h) fun c s1 ⟨H1,I1,q1⟩=>?_)
 cases c with
 | true=>exact ⟨H1,I1,q1⟩
 | false=>exact hb wh pins s1 σ H1 Q I1 q1
theorem eR (ha:PT X a tA):PT X (.UnaryOp .Not a pos) (aWB tA):=by
 intro pins s σ H Q I h
 exact isTrue_not (ha pins s σ H (fun c H1=>Q (!c) H1) I h)
def aUL (ta tb:TE):TE:=fun σ H Q=>ta σ H fun x H1=>∃ c,x = .bl c ∧ if c = true then tb σ H1 Q else Q (.bl false) H1
def aWA (ta tb:TE):TE:=fun σ H Q=>ta σ H fun x H1=>∃ c,x = .bl c ∧ if c = true then Q (.bl true) H1 else tb σ H1 Q
def aUF (ta:TE):TE:=fun σ H Q=>ta σ H fun x H1=>∃ c,x = .bl c ∧ Q (.bl (!c)) H1
theorem eG {op} {t:TE} (h:PE X a t):PE X (.BoolOp op [a] pos) t:=fun pins s σ H Q I hw=>BoolOp_one (h pins s σ H Q I hw)
theorem dB (ha:PE X a ta) (hb:PE X (.BoolOp .And (b :: rest) pos) tb):PE X (.BoolOp .And (a :: b :: rest) pos) (aUL ta tb):=by
 intro pins s σ H Q I h
 refine BoolOp_and (thn (ha pins s σ H _ I h) fun v s1 ⟨x,H1,I1,r1,q1⟩=>?_)
 obtain ⟨c,rfl,q1⟩:=q1
 cases r1
 refine Br ?_
 cases c with
 | true=>exact hb pins s1 σ H1 Q I1 q1
 | false=>exact ⟨.bl false,H1,I1,rfl,q1⟩
theorem aRQ (ha:PE X a ta) (hb:PE X (.BoolOp .Or (b :: rest) pos) tb):PE X (.BoolOp .Or (a :: b :: rest) pos) (aWA ta tb):=by
 intro pins s σ H Q I h
 refine BoolOp_or (thn (ha pins s σ H _ I h) fun v s1 ⟨x,H1,I1,r1,q1⟩=>?_)
 obtain ⟨c,rfl,q1⟩:=q1
 cases r1
 refine Br ?_
 cases c with
 | false=>exact hb pins s1 σ H1 Q I1 q1
 | true=>exact ⟨.bl true,H1,I1,rfl,q1⟩
theorem aST (ha:PE X a ta):PE X (.UnaryOp .Not a pos) (aUF ta):=by
 intro pins s σ H Q I h
 refine UnaryOp_ (thn (ha pins s σ H _ I h) fun v s1 ⟨x,H1,I1,r1,q1⟩=>?_)
 obtain ⟨c,rfl,q1⟩:=q1
 cases r1
 exact not_of (Br ⟨.bl (!c),H1,I1,rfl,q1⟩)
def tIf (t:TT) (ta tb:TE):TE:=fun σ H Q=>t σ H fun c H1=>if c = true then ta σ H1 Q else tb σ H1 Q
theorem aMJ {c:Expr} (hc:PT X c tA) (ha:PE X a ta) (hb:PE X b tb):PE X (.IfExp c a b pos) (tIf tA ta tb):=by
 intro pins s σ H Q I h
 refine wpAny_IfExp (thn (hc pins s σ H _ I h) fun d s1 ⟨H1,I1,q1⟩=>?_)
 cases d with
 | true=>exact ha pins s1 σ H1 Q I1 q1
 | false=>exact hb pins s1 σ H1 Q I1 q1
end
end L2
namespace L2
open PySem PySem.Spec PyProof.Rows
def SqL (K:AG) (H:Hp) (a:Addr) (xs:List V):Prop :=
 Rd H a (.lst xs) ∨
  ∃ (o:Obj) (its:Array Value) (n:Nat),K.lookup a = some o ∧ o.cls = .type "list" ∧ o.dict = none ∧ o.data = .seq its n ∧ its.size ≤ Ar ∧ bK xs its.toList
def SqT (K:AG) (H:Hp) (a:Addr) (xs:List V):Prop :=
 Rd H a (.tup xs) ∨
  ∃ (o:Obj) (its:Array Value) (n:Nat),K.lookup a = some o ∧ o.cls = .type "tuple" ∧ o.data = .seq its n ∧ its.size ≤ Ar ∧ bK xs its.toList
def aXE:Value → Option V
 | .none=>some .non
 | .bool b=>some (.bl b)
 | .int i _=>some (.int i)
 | .str x _=>some (.str x)
 | .bytes b _=>some (.byt b)
 | .float b _=>some (.flt b)
 | .ref a=>some (.ref a)
 | .type n=>some (.ty n)
 | _=>none
theorem bJ.abs {x:V} {u:Value} (r:bJ x u):aXE u = some x:=by
 cases x with
 | non=>cases r;rfl
 | bl _=>cases r;rfl
 | int _=>obtain ⟨t,rfl⟩:=r;rfl
 | str _=>obtain ⟨t,rfl⟩:=r;rfl
 | byt _=>obtain ⟨t,rfl⟩:=r;rfl
 | flt _=>obtain ⟨t,rfl⟩:=r;rfl
 | ref _=>cases r;rfl
 | ty _=>cases r;rfl
theorem bJ.inj {x y:V} {u:Value} (r:bJ x u) (q:bJ y u):x = y:=Aw (r.abs.symm.trans q.abs)
theorem bK.inj:∀ {xs ys:List V} {us:List Value},bK xs us → bK ys us → xs = ys
 | _,_,_,.nil,.nil=>rfl
 | _,_,_,.cons r t,.cons r' t'=>by rw [r.inj r',bK.inj t t']
section
variable {X:Cx} {pins:List (Addr × Obj)} {σ:St} {H:Hp} {s:Shared} {a:Addr} {xs ys:List V}
theorem SqL.of {K:AG} (h:H a = some (.lst xs)):SqL K H a xs:=.inl (.inl h)
theorem SqT.of {K:AG} (h:H a = some (.tup xs)):SqT K H a xs:=.inl (.inl h)
theorem Inv.list (I:Inv X pins σ H s) (h:SqL X.K H a xs):∃ its:List Value,bK xs its ∧ PlainL s.heap a its.toArray ∧ xs.length ≤ Ar:=by
 rcases h with h | ⟨o,its,n,hk,hc,hd,hs,hz,r⟩
 ·obtain ⟨z,its,n,r,e⟩:=h.ok I.hok
  exact ⟨its,r,⟨_,n,e,rfl,rfl,rfl⟩,z⟩
 ·refine ⟨its.toList,r,⟨o,n,I.kIn a o hk,hc,hd,by simpa using hs⟩,?_⟩
  have e:=r.length
  simp only [Bg] at e
  omega
theorem Inv.tuple (I:Inv X pins σ H s) (h:SqT X.K H a xs):∃ its:List Value,bK xs its ∧ IsTup s.heap a its.toArray ∧ xs.length ≤ Ar:=by
 rcases h with h | ⟨o,its,n,hk,hc,hs,hz,r⟩
 ·obtain ⟨z,its,r,p⟩:=h.ok I.hok
  exact ⟨its,r,p.tup,z⟩
 ·refine ⟨its.toList,r,⟨o,I.kIn a o hk,hc,n,by simpa using hs⟩,?_⟩
  have e:=r.length
  simp only [Bg] at e
  omega
theorem Inv.list_inj (I:Inv X pins σ H s) (h:SqL X.K H a xs) (h':SqL X.K H a ys):xs = ys:=by
 obtain ⟨its,r,⟨o,n,e,_,_,d⟩,_⟩:=I.list h
 obtain ⟨its',r',⟨o',n',e',_,_,d'⟩,_⟩:=I.list h'
 rw [e] at e';cases e'
 rw [d] at d'
 injection d' with d1 _
 have:its = its':=by simpa using congrArg Array.toList d1
 subst this
 exact r.inj r'
end
abbrev Cx.wish (X:Cx) (E:Value → Shared → Prop):Cx:={ X with xe:=E }
abbrev Cx.nox (X:Cx):Cx:=X.wish fun _ _=>False
theorem Cx.Ok.wish {X:Cx} (ok:X.Ok) (E:Value → Shared → Prop):(X.wish E).Ok :=
 ⟨ok.mod,ok.kind,ok.glob,ok.blt,ok.above,ok.inj,ok.has,ok.cab,ok.hd,ok.frames,ok.stk,ok.exf,ok.bs,ok.bsz,ok.noex,ok.exfs,ok.funs,ok.frf⟩
theorem Cx.Ok.unwish {X:Cx} {E:Value → Shared → Prop} (ok:(X.wish E).Ok):X.Ok :=
 ⟨ok.mod,ok.kind,ok.glob,ok.blt,ok.above,ok.inj,ok.has,ok.cab,ok.hd,ok.frames,ok.stk,ok.exf,ok.bs,ok.bsz,ok.noex,ok.exfs,ok.funs,ok.frf⟩
section
variable {X:Cx} {pins:List (Addr × Obj)} {σ:St} {H:Hp} {s:Shared} {E:Value → Shared → Prop}
theorem Inv.wish (I:Inv X pins σ H s) (E:Value → Shared → Prop):Inv (X.wish E) pins σ H s:=⟨I.ok.wish E,I.os,I.bare,I.base,I.loc,I.cell,I.free,I.freeC,I.pin,I.hok,I.len⟩
theorem Inv.unwish (I:Inv (X.wish E) pins σ H s):Inv X pins σ H s:=⟨I.ok.unwish,I.os,I.bare,I.base,I.loc,I.cell,I.free,I.freeC,I.pin,I.hok,I.len⟩
theorem SP.unwish {D:Ends} {f:Flow} {s':Shared} (h:SP (X.wish E) pins D f s'):SP X pins D f s':=by
 cases f with
 | next=>obtain ⟨σ',H',I,q⟩:=h;exact ⟨σ',H',I.unwish,q⟩
 | brk=>obtain ⟨σ',H',I,q⟩:=h;exact ⟨σ',H',I.unwish,q⟩
 | cont=>obtain ⟨σ',H',I,q⟩:=h;exact ⟨σ',H',I.unwish,q⟩
 | ret u=>obtain ⟨v,σ',H',I,r,q⟩:=h;exact ⟨v,σ',H',I.unwish,r,q⟩
theorem PSs.nox {st:List Stmt} {t:TS} (h:PSs X.nox st t):PSs X st t:=fun pins s σ H D I hw =>
 BL (h pins s σ H D (I.wish _) hw) (fun _ _ q=>q.unwish) fun _ _ z=>Bc z
end
section
variable {X:Cx} {st:Stmt} {rest:List Stmt} {t u:TS} {e:Expr} {te:TE} {pos:Pos}
def aUG:TS:=fun D σ H=>D.nx σ H
def rE (t u:TS):TS:=fun D σ H=>t { D with nx:=u D } σ H
theorem cL:PSs X [] aUG:=fun _ _ σ H _ I h=>EO ⟨σ,H,I,h⟩
theorem aG (h1:PS X st t) (h2:PSs X rest u):PSs X (st :: rest) (rE t u):=by
 intro pins s σ H D I h
 refine wpAny_execs_cons (thn (h1 pins s σ H { D with nx:=u D } I h) fun f s1 q=>?_)
 cases f with
 | next =>
  obtain ⟨σ',H',I',q⟩:=q
  exact h2 pins s1 σ' H' D I' q
 | ret v=>exact q
 | brk=>exact q
 | cont=>exact q
theorem aH (h1:PS X st t):PSs X [st] t:=by
 intro pins s σ H D I h
 refine wpAny_execs_cons (thn (h1 pins s σ H D I h) fun f s1 q=>?_)
 cases f with
 | next=>exact EO q
 | ret v=>exact q
 | brk=>exact q
 | cont=>exact q
theorem Inv.quiet {pins:List (Addr × Obj)} {σ:St} {H:Hp} {s:Shared} (I:Inv X pins σ H s):interactive X.env = false:=by simp [interactive,I.ok.kind]
def aUJ (te:TE):TS:=fun D σ H=>te σ H fun _ H1=>D.nx σ H1
theorem hV (he:PE X e te) (hs:swapsWith e none pos.line X.env = pure false:=by rfl):PS X (.Expr e pos) (aUJ te):=by
 intro pins s σ H D I h
 exact wpAny_Expr_any (thn (he pins s σ H _ I h) fun v s1 ⟨x,H1,I1,r1,q1⟩=>⟨σ,H1,I1,q1⟩) I.quiet hs
def aVY (te:TE):TS:=fun D σ H=>te σ H D.rt
theorem aT (he:PE X e te):PS X (.Return (some e) pos) (aVY te):=by
 intro pins s σ H D I h
 exact wpAny_Return_some (thn (he pins s σ H _ I h) fun v s1 ⟨x,H1,I1,r1,q1⟩=>⟨x,σ,H1,I1,r1,q1⟩)
def aSC (c:TT) (t u:TS):TS:=fun D σ H=>c σ H fun b H1=>if b = true then t D σ H1 else u D σ H1
theorem fL {c:Expr} {a b:List Stmt} {tc:TT} (hc:PT X c tc) (ha:PSs X a t) (hb:PSs X b u):PS X (.If c a b pos) (aSC tc t u):=by
 intro pins s σ H D I h
 refine wpAny_If (thn (hc pins s σ H _ I h) fun d s1 ⟨H1,I1,q1⟩=>?_)
 cases d with
 | true=>exact ha pins s1 σ H1 D I1 q1
 | false=>exact hb pins s1 σ H1 D I1 q1
def aSB:TS:=fun _ _ _=>False
theorem kW:PS X st aSB:=fun _ _ _ _ _ _ h=>h.elim
end
abbrev TG:=V → St → Hp → (St → Hp → Prop) → Prop
abbrev TGs:=List V → St → Hp → (St → Hp → Prop) → Prop
def PG (X:Cx) (target:Expr) (t:TG):Prop :=
 ∀ (pins:List (Addr × Obj)) (s:Shared) (σ:St) (H:Hp) (v:V) (u:Value) (Q:St → Hp → Prop),Inv X pins σ H s → bJ v u → t v σ H Q →
  wpAny (model X.prog X.w) X.A (assign target X.env u) (fun _ s'=>∃ σ' H',Inv X pins σ' H' s' ∧ Q σ' H') X.xe s
def PGs (X:Cx) (ts:List Expr) (t:TGs):Prop :=
 ∀ (pins:List (Addr × Obj)) (s:Shared) (σ:St) (H:Hp) (vs:List V) (us:List Value) (Q:St → Hp → Prop),Inv X pins σ H s → bK vs us → t vs σ H Q →
  wpAny (model X.prog X.w) X.A (assignInOrder ((EL ts X.env).map (·.2)) us) (fun _ s'=>∃ σ' H',Inv X pins σ' H' s' ∧ Q σ' H') X.xe s
abbrev TSet:=V → V → V → Hp → (Hp → Prop) → Prop
abbrev TIp:=V → V → Hp → VK → Prop
def PIp (X:Cx) (op:Operator) (t:TIp):Prop :=
 ∀ (pins:List (Addr × Obj)) (s:Shared) (σ:St) (H:Hp) (x y:V) (v u:Value) (Q:VK),Inv X pins σ H s → bJ x v → bJ y u → t x y H Q →
  wpAny (model X.prog X.w) X.A (inplaceOp op v u) (EP X pins σ Q) X.xe s
section
variable {X:Cx} {pos:Pos}
def wK (i:Nat):TG:=fun v σ H Q=>Q (σ.set i (some v)) H
theorem bC {i:Nat} {x:Str} (hN:X.N.Nodup) (hi:X.N[i]? = some x) (hx:Loc X.env.scope x) (hf:X.fn x = true ∨ X.env.scope.names.lookup x = some .local:=by first | exact .inl rfl | exact .inr rfl | assumption):PG X (.Name x pos) (wK i):=by
 intro pins s σ H v u Q I r h
 exact wpAny_assign_Name (mO I hN hi hx r (fun s' I'=>⟨_,H,I',h⟩) hf)
def aWY:TGs:=fun vs σ H Q=>vs = [] ∧ Q σ H
def aVN (t:TG) (u:TGs):TGs:=fun vs σ H Q=>∃ v r,vs = v :: r ∧ t v σ H fun σ' H'=>u r σ' H' Q
theorem aPR:PGs X [] aWY:=by
 intro pins s σ H vs us Q I r h
 obtain ⟨e,h⟩:=h
 subst e
 cases r
 exact assignInOrder_nil ⟨σ,H,I,h⟩
theorem aCR {e:Expr} {es:List Expr} {t:TG} {u:TGs} (h1:PG X e t) (h2:PGs X es u)
  (hs:(EL (e :: es) X.env).map (·.2) = assign e X.env :: (EL es X.env).map (·.2):=by rfl):PGs X (e :: es) (aVN t u):=by
 intro pins s σ H vs us Q I r h
 obtain ⟨v,vr,e1,h⟩:=h
 subst e1
 cases r with
 | cons r rr =>
  rw [hs]
  refine Ey (thn (h1 pins s σ H _ _ _ I r h) fun _ s1 ⟨σ1,H1,I1,q1⟩=>?_)
  exact h2 pins s1 σ1 H1 _ _ Q I1 rr q1
def aWX (K:AG) (n:Nat) (t:TGs):TG:=fun v σ H Q=>∃ a xs,v = .ref a ∧ SqT K H a xs ∧ xs.length = n ∧ t xs σ H Q
theorem aSR {es:List Expr} {k:Nat} {t:TGs} {n:Nat} (hc:X.calm = true) (h:PGs X es t)
  (hn:(EL es X.env).length = n:=by rfl) (hst:(EL es X.env).findIdx? (·.1) = none:=by rfl):PG X (.Tuple es k pos) (aWX X.K n t):=by
 intro pins s σ H v u Q I r hw
 obtain ⟨a,xs,e1,hq,hl,hw⟩:=hw
 subst e1
 cases r
 obtain ⟨its,rv,ht,hz⟩:=I.tuple hq
 refine assign_Tuple_tuple (I.ok.hd hc) ht (by simp [hn,← hl,rv.length]) hst fun h' hx=>?_
 have I1:Inv X pins σ H { s with heap:=h' }:=I.kept (t':=s.toks) fun b o e=>hx b o (Ah (AZ e)) e
 exact h pins _ σ H xs _ Q I1 (by simpa using rv) hw
def aSD (te:TE) (g:TG):TS:=fun D σ H=>te σ H fun x H1=>g x σ H1 D.nx
theorem aSO {tg e:Expr} {te:TE} {g:TG} (he:PE X e te) (hg:PG X tg g) (hs:swapsWithSole [tg] e pos.line X.env = pure false:=by rfl) (hw:swappedStores [tg] e X.env = pure none:=by rfl)
  (h1:(EL [tg] X.env).map (·.2) = [assign tg X.env]:=by rfl):PS X (.Assign [tg] e pos) (aSD te g):=by
 intro pins s σ H D I h
 refine wpAny_Assign_stores (thn (he pins s σ H _ I h) fun v s1 ⟨x,H1,I1,r1,q1⟩=>?_) hs hw
 rw [h1]
 exact thn (hg pins s1 σ H1 x v _ I1 r1 q1) fun _ s2 q=>q
theorem aW {i:Nat} {x:Str} {e:Expr} {te:TE} {pos':Pos} (hN:X.N.Nodup) (hi:X.N[i]? = some x) (hx:Loc X.env.scope x) (he:PE X e te) (hs:swapsWith e (some (.Name x pos')) pos.line X.env = pure false:=by rfl) (hf:X.fn x = true ∨ X.env.scope.names.lookup x = some .local:=by first | exact .inl rfl | exact .inr rfl | assumption) :
  PS X (.Assign [.Name x pos'] e pos) (aSD te (wK i)):=by
 intro pins s σ H D I h
 refine wpAny_Assign_Name (thn (he pins s σ H _ I h) fun v s1 ⟨y,H1,I1,r1,q1⟩=>?_) hs
 exact mO I1 hN hi hx r1 (fun s2 I2=>⟨_,H1,I2,q1⟩) hf
def aVZ (i j:Nat) (ta:TA):TS:=fun D σ H=>ta σ H fun vs H1=>∃ v w,vs = [v,w] ∧ D.nx ((σ.set i (some v)).set j (some w)) H1
theorem aSN {i j:Nat} {x y:Str} {a b:Expr} {ta:TA} {px py pt:Pos} {kt k2 pt2} (hc:X.calm = true) (hN:X.N.Nodup) (hi:X.N[i]? = some x) (hj:X.N[j]? = some y) (hij:i ≠ j)
  (hx:X.env.scope.names.lookup x = some .local) (hy:X.env.scope.names.lookup y = some .local) (ha:PA X [a,b] ta)
  (hw:swappedStores [.Tuple [.Name x px,.Name y py] kt pt] (.Tuple [a,b] k2 pt2) X.env = pure (some [x,y]))
  (hs:swapsWithSole [.Tuple [.Name x px,.Name y py] kt pt] (.Tuple [a,b] k2 pt2) pos.line X.env = pure false:=by rfl) :
  PS X (.Assign [.Tuple [.Name x px,.Name y py] kt pt] (.Tuple [a,b] k2 pt2) pos) (aVZ i j ta):=by
 intro pins s σ H D I h
 rw [exec_Assign_arm]
 refine AD (Er ?_)
 rw [hs]
 refine AD (AT ?_)
 rw [if_neg (by decide)]
 refine AD (Tuple_ (thn (ha _ pins s σ H _ I h) fun us s1 ⟨vs,H1,I1,r1,q1⟩=>?_))
 obtain ⟨v,w,e1,q1⟩:=q1
 subst e1
 obtain ⟨u1,u2,rfl,rv,rw'⟩:∃ u1 u2,us = [u1,u2] ∧ bJ v u1 ∧ bJ w u2:=by
  cases r1 with
  | cons p q =>
   cases q with
   | cons p' q' =>
    cases q'
    exact ⟨_,_,rfl,p,p'⟩
 refine DO ?_ (by show 2 ≤ Ar;decide)
 have I2:Inv X pins σ H1 { s1 with heap:=s1.heap.push { cls:=.type "tuple",data:=.seq [u1,u2].toArray } }:=I1.kept (t':=s1.toks) fun b o e=>AE _ e
 rw [hw]
 refine AD (AT ?_)
 show wpAny (model X.prog X.w) X.A (do rule "assign.swapped-stores";let items ← unpackItems (.ref s1.heap.objs.size) 2 none;assignInOrder [fun v=>bindName X.env y v,fun v=>bindName X.env x v] items.reverse;pure Flow.next) _ _ _
 refine AD (EK (AD (unpackItems_tuple (items:=#[u1,u2]) (I.ok.hd hc) (IsTup.new s1.heap _) fun h' hx'=>?_)))
 have I3:=I2.kept (h':=h') (t':=s1.toks) fun b o e=>hx' b o (Ah (AZ e)) e
 show wpAny _ _ (assignInOrder [fun v=>bindName X.env y v,fun v=>bindName X.env x v] [u2,u1] >>= fun _=>pure Flow.next) _ _ _
 refine AD (Ey (wpAny_bindName (mO I3 hN hj (.inl hy) rw' (fun s2 I4=>?_) (.inr hy))))
 refine Ey (wpAny_bindName (mO I4 hN hi (.inl hx) rv (fun s3 I5=>assignInOrder_nil (AT ?_)) (.inr hx)))
 rw [List.set_comm _ _ (Ne.symm hij)] at I5
 exact ⟨_,H1,I5,q1⟩
def aWG (i:Nat) (te:TE) (ti:TIp):TS:=fun D σ H=>∃ x,σ[i]? = some (some x) ∧ te σ H fun y H1=>ti x y H1 fun z H2=>D.nx (σ.set i (some z)) H2
theorem aMB {i:Nat} {x:Str} {e:Expr} {te:TE} {op:Operator} {ti:TIp} {pos':Pos} (hN:X.N.Nodup) (hi:X.N[i]? = some x) (hx:Loc X.env.scope x) (he:PE X e te) (ho:PIp X op ti) (hf:X.fn x = true ∨ X.env.scope.names.lookup x = some .local:=by first | exact .inl rfl | exact .inr rfl | assumption) :
  PS X (.AugAssign (.Name x pos') op e pos) (aWG i te ti):=by
 intro pins s σ H D I h
 obtain ⟨v,e1,h⟩:=h
 obtain ⟨m,hn,hl⟩:=I.loc
 have vis:Vis X.env.scope x:=by rcases hx with k | k;exact .inl k;exact .inr (.inl k)
 obtain ⟨u,r,l⟩:=hl i x v hi e1 vis
 refine wpAny_AugAssign_Name ?_
 have go:wpAny (model X.prog X.w) X.A (eval e X.env) (fun w s₂=>wpAny (model X.prog X.w) X.A (inplaceOp op u w) (fun r s₃=>wpAny (model X.prog X.w) X.A (storeName X.env x r) (fun _=>SP X pins D .next) X.xe s₃) X.xe s₂) X.xe s:=by
  refine thn (he pins s σ H _ I h) fun w s1 ⟨y,H1,I1,r1,q1⟩=>?_
  refine thn (ho pins s1 σ H1 v y u w _ I1 r r1 q1) fun z s2 ⟨zv,H2,I2,r2,q2⟩=>?_
  exact mO I2 hN hi hx r2 (fun s3 I3=>⟨_,H2,I3,q2⟩) hf
 rcases l with ⟨hk,hm⟩ | ⟨hk,c,hc,hcell⟩
 ·exact wpAny_loadName_local I.ok.kind hk hn hm go
 ·rcases hk with hk | hk
  ·exact wpAny_loadName_cell I.ok.kind hk hc hcell go
  ·rcases hx with k | k
   ·have:X.env.scope.names.lookup x = some .free:=hk
    rw [k] at this;cases this
   ·have:X.env.scope.names.lookup x = some .free:=hk
    rw [k] at this;cases this
def ipI (f:Int → Int → Int):TIp:=fun x y H Q=>∃ i j,x = .int i ∧ y = .int j ∧ Q (.int (f i j)) H
theorem aTO:PIp X .Add (ipI fun i j=>i + j):=by
 intro pins s σ H x y v u Q I r1 r2 h
 obtain ⟨i,j,e1,e2,q⟩:=h
 subst e1;subst e2
 obtain ⟨t,rfl⟩:=r1
 obtain ⟨t',rfl⟩:=r2
 exact iadd_int ⟨.int _,H,I.tok _,⟨_,rfl⟩,q⟩
end
section
variable {X:Cx} {pos:Pos}
def aKR (c:TT) (tb:TS):TS:=fun D σ H=>∃ W:Nat → St → Hp → Prop,(∃ m,W m σ H) ∧ ∀ m σ H,W m σ H →
 c σ H fun b H1=>if b = true then ∃ N:St → Hp → Prop,(∀ σ' H',N σ' H' → ∃ m',m' < m ∧ W m' σ' H') ∧ tb { D with nx:=N,ct:=N,bk:=D.nx } σ H1 else D.nx σ H1
theorem mY {c:Expr} {body:List Stmt} {tc:TT} {tb:TS} (hp:Bn (model X.prog X.w) X.A X.env X.xe) (hc:PT X c tc) (hb:PSs X body tb):PS X (.While c body [] pos) (aKR tc tb):=by
 intro pins s σ H D I h
 obtain ⟨W,⟨m0,w0⟩,turn⟩:=h
 refine wpAny_While (codeAny_whileLoop (fun n s'=>∃ σ' H',Inv X pins σ' H' s' ∧ W n σ' H') ?_ m0 ⟨σ,H,I,w0⟩)
 rintro n s1 ⟨σ1,H1,I1,w1⟩
 refine Co hp (thn (hc pins s1 σ1 H1 _ I1 (turn n σ1 H1 w1)) fun b s2 ⟨H2,I2,q2⟩=>?_)
 cases b with
 | true =>
  obtain ⟨N,hN,q2⟩:=q2
  rw [if_pos rfl]
  refine Co hp (thn (hb pins s2 σ1 H2 _ I2 q2) fun f s3 q3=>?_)
  cases f with
  | next =>
   obtain ⟨σ3,H3,I3,n3⟩:=q3
   obtain ⟨m',hm,w3⟩:=hN σ3 H3 n3
   exact ⟨m',hm,σ3,H3,I3,w3⟩
  | cont =>
   obtain ⟨σ3,H3,I3,n3⟩:=q3
   obtain ⟨m',hm,w3⟩:=hN σ3 H3 n3
   exact ⟨m',hm,σ3,H3,I3,w3⟩
  | brk=>exact q3
  | ret v=>exact q3
 | false =>
  rw [if_neg AV]
  exact EO ⟨σ1,H2,I2,q2⟩
end
structure It where
 go:Nat → Hp → Prop
 yld:Nat → Hp → V → Hp → Prop
 stop:Nat → Hp → Prop
def aBR (X:Cx) (pins:List (Addr × Obj)) (H:Hp) (b:Addr):Prop :=
 H b = none ∧ b ≠ X.env.locals ∧ b ∉ X.fs ∧ (b ∈ X.ex ∨ X.s₀.heap.objs.size ≤ b) ∧ (∀ x c,X.env.cells.lookup x = some c → c ≠ b) ∧ ∀ p ∈ X.pn ++ pins,p.1 ≠ b
theorem Inv.fpOk {X:Cx} {pins:List (Addr × Obj)} {σ:St} {H H':Hp} {s:Shared} {b:Addr} (I:Inv X pins σ H s) (hb:s.heap.objs.size ≤ b) (hn:H' b = none):aBR X pins H' b:=by
 refine ⟨hn,DX (Ae I.lt hb),I.nofs hb,.inr (BI I.sz hb),fun x c e z=>?_,fun p hp z=>?_⟩
 ·obtain ⟨v,q⟩:=I.cell x c e
  exact absurd (Ae q.lt (by rw [z];exact hb)) (Cn _)
 ·exact absurd (Ae (AZ (I.pin p hp).1) (by rw [z];exact hb)) (Cn _)
structure Turn (P:Program) (w:World) (K:AG) (tg:Expr) (J:It) (fp:List Addr) (it:Addr) (tn:Nat → Heap → Prop):Prop where
 mem:it ∈ fp
 obj:∀ i h,tn i h → ∀ b ∈ fp,∃ o,h.get? b = some o ∧ ∀ v,o.data ≠ .cell v
 keep:∀ i h h',tn i h → (∀ b ∈ fp,∀ o,h.get? b = some o → h'.get? b = some o) → tn i h'
 item:∀ (X:Cx),X.prog = P → X.w = w → X.K = K → X.calm = true → ∀ (i:Nat) (pins:List (Addr × Obj)) (s:Shared) (σ:St) (H:Hp) (E:Value → Shared → Prop),Inv X pins σ H s → (∀ b ∈ fp,aBR X pins H b) → tn i s.heap → J.go i H →
  wpAny (model P w) X.A (pyNext (.ref it)) (fun r s1=>∃ u,r = some u ∧
   wpAny (model P w) X.A (ER tg (.ref it) u) (fun _ s2=>∃ x H',Inv X pins σ H' s2 ∧ bJ x u ∧ J.yld i H x H' ∧ tn (i + 1) s2.heap ∧ ∀ b ∈ fp,H' b = none) E s1) E s
 done:∀ (X:Cx),X.prog = P → X.w = w → X.K = K → X.calm = true → ∀ (i:Nat) (pins:List (Addr × Obj)) (s:Shared) (σ:St) (H:Hp) (E:Value → Shared → Prop),Inv X pins σ H s → (∀ b ∈ fp,aBR X pins H b) → tn i s.heap → J.stop i H →
  wpAny (model P w) X.A (pyNext (.ref it)) (fun r s1=>r = none ∧ Inv X pins σ H s1) E s
 self:∀ (A:Around) (i:Nat) (s:Shared) (Q:Value → Shared → Prop) (E:Value → Shared → Prop),tn i s.heap → Q (.ref it) s → wpAny (model P w) A (pyIter (.ref it)) Q E s
abbrev TI:=St → Hp → (It → Hp → Prop) → Prop
def PIE (X:Cx) (pins:List (Addr × Obj)) (σ:St) (tg:Expr) (R:It → Hp → Prop) (itv:Value) (s2:Shared):Prop :=
 ∃ (it:Addr) (fp:List Addr) (tn:Nat → Heap → Prop) (J:It) (H':Hp),itv = .ref it ∧ Inv X pins σ H' s2 ∧ Turn X.prog X.w X.K tg J fp it tn ∧ tn 0 s2.heap ∧ (∀ b ∈ fp,aBR X pins H' b) ∧ R J H'
def PI (X:Cx) (tg iter:Expr) (wi:TI):Prop :=
 ∀ (pins:List (Addr × Obj)) (s:Shared) (σ:St) (H:Hp) (R:It → Hp → Prop),Inv X pins σ H s → wi σ H R →
  wpAny (model X.prog X.w) X.A (eval iter X.env) (fun v s1=>wpAny (model X.prog X.w) X.A (pyIter v) (PIE X pins σ tg R) X.xe s1) X.xe s
theorem aDL {M:Model} {A:Around} {E:Value → Shared → Prop} {s:Shared} {tg:Expr} {it:Addr} {u:Value} {o:Obj} {n:String} {vs:Array Value} {Q:Unit → Shared → Prop} (ho:s.heap.get? it = some o) (hc:o.cls = .type n) (hd:o.data = .fields vs)
    (hn:["enumerate","zip","dict_itemiterator","dict_reverseitemiterator","odict_iterator","itertools.zip_longest","itertools.pairwise"].contains n = false) (hQ:Q () s):wpAny M A (ER tg (.ref it) u) Q E s:=by
  unfold ER
  cases tg <;> first
    | exact AT hQ
    | (cases u <;> first
        | exact AT hQ
        | (refine AD (wpAny_load ho ?_)
           rw [hc,hd]
           show wpAny M A (if (["enumerate","zip","dict_itemiterator","dict_reverseitemiterator","odict_iterator","itertools.zip_longest","itertools.pairwise"].contains n && vs[0]? == some (rawInt _)) = true then _ else _) Q E s
           rw [if_neg (by intro h;rw [hn,EI] at h;cases h)]
           exact AT hQ))
def Itl (K:AG) (a:Addr):It :=
 ⟨fun i H=>∃ xs x,SqL K H a xs ∧ xs[i]? = some x,fun i H x H'=>H' = H ∧ ∀ xs,SqL K H a xs → xs[i]? = some x,fun i H=>∃ xs,SqL K H a xs ∧ xs.length ≤ i⟩
def Itt (K:AG) (a:Addr):It :=
 ⟨fun i H=>∃ xs x,SqT K H a xs ∧ xs[i]? = some x,fun i H x H'=>H' = H ∧ ∀ xs,SqT K H a xs → xs[i]? = some x,fun i H=>∃ xs,SqT K H a xs ∧ xs.length ≤ i⟩
def Itr (lo:Int) (n:Nat):It:=⟨fun i _=>i < n,fun i H x H'=>H' = H ∧ x = .int (lo + i),fun i _=>n ≤ i⟩
theorem aIM {P:Program} {w:World} {K:AG} {tg:Expr} (a it:Addr):Turn P w K tg (Itl K a) [it] it (fun i h=>h.IsListIter it a i) where
 mem:=by simp
 obj:=fun i h st b hb=>by
  have e:b = it:=by simpa using hb
  subst e
  obtain ⟨o,e,c,d⟩:=st
  exact ⟨o,e,fun v z=>by rw [d] at z;cases z⟩
 keep:=fun i h h' st k=>st.at fun o e=>k it (by simp) o e
 item:=by
  intro X hP hw hK hc i pins s σ H E I hf st hg
  subst hP hw hK
  obtain ⟨xs,x,hq,hx⟩:=hg
  obtain ⟨its,rv,p,hz⟩:=I.list hq
  obtain ⟨u,hu,ru⟩:=rv.get hx
  obtain ⟨f0,f1,f2,f3,f4,f5⟩:=hf it (by simp)
  refine wpAny_pyNext_list_item st p.isList (x:=u) (by simpa using hu) fun h' st' sb=>?_
  have I1:Inv X pins σ H { s with heap:=h' }:=I.turned (t':=s.toks) (fun b o hb e=>(sb.2 b hb).trans e) f0 f1 f3 f4 f5
  obtain ⟨o,e,c,d⟩:=id st'
  exact ⟨u,rfl,aDL (s:={ s with heap:=h' }) e c d (by decide) ⟨x,H,I1,ru,⟨rfl,fun ys hy=>by rw [I.list_inj hy hq];exact hx⟩,st',fun b hb=>(hf b hb).1⟩⟩
 done:=by
  intro X hP hw hK hc i pins s σ H E I hf st hg
  subst hP hw hK
  obtain ⟨xs,hq,hx⟩:=hg
  obtain ⟨its,rv,p,hz⟩:=I.list hq
  obtain ⟨f0,f1,f2,f3,f4,f5⟩:=hf it (by simp)
  have hl:=rv.length
  exact wpAny_pyNext_list_end (I.ok.hd hc) st p.isList (by simp;omega) fun h' eb=>⟨rfl,I.turned (t':=s.toks) (fun b o hb e=>eb b o hb e) f0 f1 f3 f4 f5⟩
 self:=fun _ _ _ _ _ st h=>wpAny_pyIter_listiter st h
theorem aEG {P:Program} {w:World} {K:AG} {tg:Expr} (it:Addr) (lo:Int) (n:Nat):Turn P w K tg (Itr lo n) [it] it (fun i h=>IsRangeIter h it (lo + (i:Nat) * 1) ((n:Int) - (i:Nat)) 1) where
 mem:=by simp
 obj:=fun i h st b hb=>by
  have e:b = it:=by simpa using hb
  subst e
  exact ⟨_,st,fun v z=>by
   have z':Data.fields _ = Data.cell v:=z
   cases z'⟩
 keep:=fun i h h' st k=>k it (by simp) _ st
 item:=by
  intro X hP hw hK hc i pins s σ H E I hf st hg
  subst hP hw hK
  obtain ⟨f0,f1,f2,f3,f4,f5⟩:=hf it (by simp)
  have W:=Walks.range (prog:=X.prog) (w:=X.w) (I.ok.hd hc) it lo 1 n
  refine W.item i s _ _ hg st fun v h' tk hv st' kk=>?_
  obtain ⟨t,rfl⟩:=hv
  have I1:Inv X pins σ H { s with heap:=h',toks:=tk }:=I.turned (fun b o hb e=>kk b o (by simpa using hb) e) f0 f1 f3 f4 f5
  refine ⟨_,rfl,aDL (s:={ s with heap:=h',toks:=tk }) (n:="range_iterator") st' rfl rfl (by decide) ⟨.int (lo + i),H,I1,⟨t,?_⟩,⟨rfl,rfl⟩,st',fun b hb=>(hf b hb).1⟩⟩
  rw [Int.mul_one]
 done:=by
  intro X hP hw hK hc i pins s σ H E I hf st hg
  subst hP hw hK
  obtain ⟨f0,f1,f2,f3,f4,f5⟩:=hf it (by simp)
  exact wpAny_pyNext_range_end (I.ok.hd hc) st (by have:n ≤ i:=hg;omega) fun h' eb=>⟨rfl,I.turned (t':=s.toks) (fun b o hb e=>eb b o hb e) f0 f1 f3 f4 f5⟩
 self:=fun _ _ _ _ _ st h=>wpAny_pyIter_rangeiter st h
end L2
namespace L2
open PySem PySem.Spec PyProof.Rows
section
variable {X:Cx} {tg:Expr}
def aVL (K:AG) (tl:TE):TI:=fun σ H R=>tl σ H fun x H1=>∃ a,x = .ref a ∧ (∃ xs,SqL K H1 a xs) ∧ R (Itl K a) H1
theorem bO {l:Expr} {tl:TE} (hl:PE X l tl):PI X tg l (aVL X.K tl):=by
 intro pins s σ H R I h
 refine thn (hl pins s σ H _ I h) fun v s1 ⟨x,H1,I1,r1,q1⟩=>?_
 obtain ⟨a,e,⟨xs,hq⟩,q⟩:=q1
 subst e
 cases r1
 obtain ⟨its,rv,p,hz⟩:=I1.list hq
 refine Ct p.isList ?_
 refine ⟨s1.heap.objs.size,[s1.heap.objs.size],_,_,H1,rfl,I1.kept (t':=s1.toks) fun b o e=>AE _ e,aIM a _,⟨_,Ad _ rfl,rfl,rfl⟩,fun b hb=>?_,q⟩
 have e:b = s1.heap.objs.size:=by simpa using hb
 subst e
 exact I1.fpOk (AQ _) (I1.hok.fresh (AQ _))
theorem aCP {pins:List (Addr × Obj)} {σ:St} {H:Hp} {s:Shared} {R:It → Hp → Prop} {E:Value → Shared → Prop} {lo hi:Int} {t u v:Tok} {tk:Nat} (I:Inv X pins σ H s) (h1:-(2 ^ 62) ≤ lo) (h2:lo < 2 ^ 62) (h3:-(2 ^ 62) ≤ hi) (h4:hi < 2 ^ 62)
  (q:R (Itr lo (hi - lo).toNat) H):wpAny (model X.prog X.w) X.A (pyIter (.ref s.heap.objs.size)) (PIE X pins σ tg R) E { s with heap:=s.heap.push { cls:=.type "range",data:=.fields #[.int lo t,.int hi u,.int 1 v] },toks:=tk }:=by
 refine wpAny_pyIter_range (IsRange.new ..) (small_one h1 h2 h3 h4) ?_
 have I1:Inv X pins σ H { s with heap:=s.heap.push { cls:=.type "range",data:=.fields #[.int lo t,.int hi u,.int 1 v] },toks:=tk }:=I.kept fun b o e=>AE _ e
 refine ⟨(s.heap.push { cls:=.type "range",data:=.fields #[.int lo t,.int hi u,.int 1 v] }).objs.size,[(s.heap.push { cls:=.type "range",data:=.fields #[.int lo t,.int hi u,.int 1 v] }).objs.size],_,_,H,rfl,
  I1.kept (t':=tk) fun b o e=>AE _ e,aEG _ lo (hi - lo).toNat,?_,fun b hb=>?_,q⟩
 ·have e1:lo + ((0:Nat):Int) * 1 = lo:=by simp
  have e2:(((hi - lo).toNat:Nat):Int) - ((0:Nat):Int) = Builtin.Range.rangeSize lo hi 1:=by rw [rangeSize_one];split <;> omega
  show IsRangeIter _ _ (lo + ((0:Nat):Int) * 1) ((((hi - lo).toNat:Nat):Int) - ((0:Nat):Int)) 1
  rw [e1,e2]
  exact Ad _ rfl
 ·have e:b = (s.heap.push { cls:=.type "range",data:=.fields #[.int lo t,.int hi u,.int 1 v] }).objs.size:=by simpa using hb
  subst e
  exact I1.fpOk (AQ _) (I1.hok.fresh (AQ _))
def aVK (ta:TA):TI:=fun σ H R=>ta σ H fun vs H1=>∃ j:Int,vs = [.int j] ∧ -(2 ^ 62) ≤ j ∧ j < 2 ^ 62 ∧ R (Itr 0 j.toNat) H1
def aVJ (ta:TA):TI:=fun σ H R=>ta σ H fun vs H1=>∃ i j:Int,vs = [.int i,.int j] ∧ (-(2 ^ 62) ≤ i ∧ i < 2 ^ 62 ∧ -(2 ^ 62) ≤ j ∧ j < 2 ^ 62) ∧ R (Itr i (j - i).toNat) H1
theorem gO {a:Expr} {ta:TA} {p pos:Pos} (hg:Gl X "range") (hm:X.mg "range" = none) (ha:PA X [a] ta) (hs:Av [a] X.env = [(false,eval a X.env)]:=by rfl):PI X tg (.Call (.Name "range" p) [a] [] pos) (aVK ta):=by
 intro pins s σ H R I h
 refine Call_ (nJ I hg hm boot_range (CD (thn (ha pos pins s σ H _ I h) fun us s1 ⟨vs,H1,I1,r1,q1⟩=>?_) hs rfl))
 obtain ⟨j,e,q1,q2,q⟩:=q1
 subst e
 cases r1 with
 | cons r rr =>
  cases rr
  obtain ⟨t,rfl⟩:=r
  exact call_range_1 (aCP I1 (by omega) (by omega) q1 q2 (by simpa using q))
theorem aJD {a b:Expr} {ta:TA} {p pos:Pos} (hg:Gl X "range") (hm:X.mg "range" = none) (ha:PA X [a,b] ta) (hs:Av [a,b] X.env = [(false,eval a X.env),(false,eval b X.env)]:=by rfl) (hs2:Av [b] X.env = [(false,eval b X.env)]:=by rfl) :
  PI X tg (.Call (.Name "range" p) [a,b] [] pos) (aVJ ta):=by
 intro pins s σ H R I h
 refine Call_ (nJ I hg hm boot_range (CD (thn (ha pos pins s σ H _ I h) fun us s1 ⟨vs,H1,I1,r1,q1⟩=>?_) (by rw [hs,hs2]) (by rw [hs2];rfl)))
 obtain ⟨i,j,e,⟨q1,q2,q3,q4⟩,q⟩:=q1
 subst e
 cases r1 with
 | cons r rr =>
  cases rr with
  | cons r' rr =>
   cases rr
   obtain ⟨t,rfl⟩:=r
   obtain ⟨t',rfl⟩:=r'
   exact call_range_2 (aCP I1 q1 q2 q3 q4 q)
def aUI (wi:TI) (g:TG) (tb:TS):TS:=fun D σ H=>wi σ H fun J H1=>∃ W:Nat → Nat → St → Hp → Prop,(∃ m,W 0 m σ H1) ∧ ∀ i m σ H,W i m σ H →
 (J.stop i H ∧ D.nx σ H) ∨ (J.go i H ∧ ∃ N:St → Hp → Prop,(∀ σ' H',N σ' H' → ∃ m',m' < m ∧ W (i + 1) m' σ' H') ∧ ∀ x H',J.yld i H x H' → g x σ H' fun σ2 H2=>tb { D with nx:=N,ct:=N,bk:=D.nx } σ2 H2)
def mZ (fp:List Addr) (h:Heap):List (Addr × Obj):=fp.filterMap fun b=>(h.get? b).map fun o=>(b,o)
theorem lT {fp:List Addr} {h:Heap} {b:Addr} {o:Obj} (hb:b ∈ fp) (e:h.get? b = some o):(b,o) ∈ mZ fp h:=List.mem_filterMap.mpr ⟨b,hb,by rw [e];rfl⟩
theorem yP {fp:List Addr} {h:Heap} {p:Addr × Obj} (hp:p ∈ mZ fp h):p.1 ∈ fp ∧ h.get? p.1 = some p.2:=by
 obtain ⟨b,hb,e⟩:=List.mem_filterMap.mp hp
 cases q:h.get? b with
 | none=>rw [q] at e;cases e
 | some o =>
  rw [q] at e
  have e':(b,o) = p:=Aw e
  subst e'
  exact ⟨hb,q⟩
theorem Inv.pinned {pins:List (Addr × Obj)} {σ:St} {H:Hp} {s:Shared} {fp:List Addr} (I:Inv X pins σ H s) (hf:∀ b ∈ fp,aBR X pins H b) (ho:∀ b ∈ fp,∃ o,s.heap.get? b = some o ∧ ∀ v,o.data ≠ .cell v):Inv X (pins ++ mZ fp s.heap) σ H s :=
 I.pins_of fun p hp=>(Au.mp hp).elim (fun z=>I.pin p (An _ z)) fun z=>by
  obtain ⟨hb,e⟩:=yP z
  obtain ⟨f0,f1,f2,_⟩:=hf p.1 hb
  obtain ⟨o,e',d⟩:=ho p.1 hb
  rw [e] at e';cases e'
  exact ⟨e,f0,f1,f2,d⟩
theorem Inv.unpinned {pins pl:List (Addr × Obj)} {σ:St} {H:Hp} {s:Shared} (I:Inv X (pins ++ pl) σ H s):Inv X pins σ H s:=I.pins_of fun p hp=>I.pin p (An _ (Bh _ hp))
theorem hU {iter:Expr} {body:List Stmt} {wi:TI} {g:TG} {tb:TS} {pos:Pos} (hp:Bn (model X.prog X.w) X.A X.env X.xe) (hc:X.calm = true) (hi:PI X tg iter wi) (hg:PG X tg g) (hb:PSs X body tb)
  (hs:∀ x,FG iter X.env x = pure x:=by intro _;rfl):PS X (.For tg iter body [] pos) (aUI wi g tb):=by
 intro pins s σ H D I h
 refine wpAny_For (thn (hi pins s σ H _ I h) fun v s1 h1=>thn h1 fun itv s2 h2=>?_) hs
 obtain ⟨it,fp,tn,J,H2,e,I2,T,st2,f2,W,⟨m0,w0⟩,turn⟩:=h2
 subst e
 have stat:∀ {H':Hp},(∀ b ∈ fp,H' b = none) → ∀ b ∈ fp,aBR X pins H' b:=fun hn b hb=>⟨hn b hb,(f2 b hb).2⟩
 refine codeAny_forLoop_any (fun n s'=>∃ i σ' H',Inv X pins σ' H' s' ∧ tn i s'.heap ∧ (∀ b ∈ fp,H' b = none) ∧ W i n σ' H') ?_ m0 ⟨0,σ,H2,I2,st2,fun b hb=>(f2 b hb).1,w0⟩
 rintro n s3 ⟨i,σ3,H3,I3,st3,fr3,w3⟩
 rcases turn i n σ3 H3 w3 with ⟨stop,qn⟩ | ⟨go,N,hN,step⟩
 ·refine Co hp (thn (T.done X rfl rfl rfl hc i pins s3 σ3 H3 X.xe I3 (stat fr3) st3 stop) fun r s4 ⟨hr,I4⟩=>?_)
  subst hr
  exact EO ⟨σ3,H3,I4,qn⟩
 ·refine Co hp (thn (T.item X rfl rfl rfl hc i pins s3 σ3 H3 X.xe I3 (stat fr3) st3 go) fun r s4 ⟨u,hr,h4⟩=>?_)
  subst hr
  refine Co hp (thn h4 fun _ s5 ⟨x,H5,I5,r5,y5,st5,fr5⟩=>?_)
  have I5':=I5.pinned (stat fr5) (T.obj _ _ st5)
  refine Co hp (thn (hg _ s5 σ3 H5 x u _ I5' r5 (step x H5 y5)) fun _ s6 ⟨σ6,H6,I6,q6⟩=>?_)
  refine Co hp (thn (hb _ s6 σ6 H6 _ I6 q6) fun f s7 q7=>?_)
  have again:∀ {σ7:St} {H7:Hp},Inv X (pins ++ mZ fp s5.heap) σ7 H7 s7 → N σ7 H7 → ∃ m,m < n ∧ ∃ i σ' H',Inv X pins σ' H' s7 ∧ tn i s7.heap ∧ (∀ b ∈ fp,H' b = none) ∧ W i m σ' H':=fun {σ7 H7} I7 n7=>by
   obtain ⟨m',hm,w7⟩:=hN σ7 H7 n7
   refine ⟨m',hm,i + 1,σ7,H7,I7.unpinned,T.keep _ _ _ st5 fun b hb o e=>(I7.pin (b,o) (An _ (An _ (lT hb e)))).1,fun b hb=>?_,w7⟩
   obtain ⟨o,e,d⟩:=T.obj _ _ st5 b hb
   exact (I7.pin (b,o) (An _ (An _ (lT hb e)))).2.1
  cases f with
  | next=>obtain ⟨σ7,H7,I7,n7⟩:=q7;exact again I7 n7
  | cont=>obtain ⟨σ7,H7,I7,n7⟩:=q7;exact again I7 n7
  | brk=>obtain ⟨σ7,H7,I7,q7⟩:=q7;exact ⟨σ7,H7,I7.unpinned,q7⟩
  | ret v=>obtain ⟨x7,σ7,H7,I7,r7,q7⟩:=q7;exact ⟨x7,σ7,H7,I7.unpinned,r7,q7⟩
end
theorem nP {K:AG} {a:Addr} {xs:List V} {g:TG} {tb:TS} {D:Ends} {σ:St} {H:Hp} (Pv:Nat → St → Hp → Prop) (h0:Pv 0 σ H) (hl:∀ i σ H,i ≤ xs.length → Pv i σ H → SqL K H a xs)
  (hs:∀ i x σ H,xs[i]? = some x → Pv i σ H → g x σ H fun σ2 H2=>tb { D with nx:=Pv (i + 1),ct:=Pv (i + 1),bk:=D.nx } σ2 H2) (hd:∀ σ H,Pv xs.length σ H → D.nx σ H) :
  ∃ W:Nat → Nat → St → Hp → Prop,(∃ m,W 0 m σ H) ∧ ∀ i m σ H,W i m σ H →
   ((Itl K a).stop i H ∧ D.nx σ H) ∨ ((Itl K a).go i H ∧ ∃ N:St → Hp → Prop,(∀ σ' H',N σ' H' → ∃ m',m' < m ∧ W (i + 1) m' σ' H') ∧ ∀ x H',(Itl K a).yld i H x H' → g x σ H' fun σ2 H2=>tb { D with nx:=N,ct:=N,bk:=D.nx } σ2 H2):=by
 refine ⟨fun i m σ H=>m = xs.length - i ∧ i ≤ xs.length ∧ Pv i σ H,⟨xs.length,by simp,BT _,h0⟩,?_⟩
 rintro i m σ H ⟨rfl,hi,p⟩
 have q:=hl i σ H hi p
 by_cases hlt:i < xs.length
 ·refine .inr ⟨⟨xs,xs[i],q,by simp [hlt]⟩,Pv (i + 1),fun σ' H' p'=>⟨xs.length - (i + 1),by omega,rfl,hlt,p'⟩,fun x H' y=>?_⟩
  obtain ⟨e,y⟩:=y
  subst e
  exact hs i x σ _ (y xs q) p
 ·have e:i = xs.length:=by omega
  subst e
  exact .inl ⟨⟨xs,q,AQ _⟩,hd σ H p⟩
theorem iG {lo:Int} {n:Nat} {g:TG} {tb:TS} {D:Ends} {σ:St} {H:Hp} (Pv:Nat → St → Hp → Prop) (h0:Pv 0 σ H)
  (hs:∀ i σ H,i < n → Pv i σ H → g (.int (lo + i)) σ H fun σ2 H2=>tb { D with nx:=Pv (i + 1),ct:=Pv (i + 1),bk:=D.nx } σ2 H2) (hd:∀ σ H,Pv n σ H → D.nx σ H) :
  ∃ W:Nat → Nat → St → Hp → Prop,(∃ m,W 0 m σ H) ∧ ∀ i m σ H,W i m σ H →
   ((Itr lo n).stop i H ∧ D.nx σ H) ∨ ((Itr lo n).go i H ∧ ∃ N:St → Hp → Prop,(∀ σ' H',N σ' H' → ∃ m',m' < m ∧ W (i + 1) m' σ' H') ∧ ∀ x H',(Itr lo n).yld i H x H' → g x σ H' fun σ2 H2=>tb { D with nx:=N,ct:=N,bk:=D.nx } σ2 H2):=by
 refine ⟨fun i m σ H=>m = n - i ∧ i ≤ n ∧ Pv i σ H,⟨n,by simp,BT _,h0⟩,?_⟩
 rintro i m σ H ⟨rfl,hi,p⟩
 by_cases hlt:i < n
 ·refine .inr ⟨hlt,Pv (i + 1),fun σ' H' p'=>⟨n - (i + 1),by omega,rfl,hlt,p'⟩,fun x H' y=>?_⟩
  obtain ⟨e,y⟩:=y
  subst e y
  exact hs i σ _ hlt p
 ·have e:i = n:=by omega
  subst e
  exact .inl ⟨AQ _,hd σ H p⟩
theorem mK {c:TT} {tb:TS} {D:Ends} {σ:St} {H:Hp} (Pv:St → Hp → Prop) (μ:St → Hp → Nat) (h0:Pv σ H)
  (hs:∀ σ H,Pv σ H → c σ H fun b H1=>if b = true then tb { D with nx:=fun σ' H'=>Pv σ' H' ∧ μ σ' H' < μ σ H,ct:=fun σ' H'=>Pv σ' H' ∧ μ σ' H' < μ σ H,bk:=D.nx } σ H1 else D.nx σ H1)
  (mono:∀ σ H Q Q',(∀ b H1,Q b H1 → Q' b H1) → c σ H Q → c σ H Q'):aKR c tb D σ H:=by
 refine ⟨fun m σ H=>m = μ σ H ∧ Pv σ H,⟨_,rfl,h0⟩,?_⟩
 rintro m σ H ⟨rfl,p⟩
 refine mono σ H _ _ (fun b H1 q=>?_) (hs σ H p)
 cases b with
 | true=>exact ⟨_,fun σ' H' ⟨p',l⟩=>⟨_,l,rfl,p'⟩,q⟩
 | false=>exact q
end L2
namespace L2
open PySem PySem.Spec PyProof.Rows
abbrev R2:=V → V → Hp → VK → Prop
def OpR (X:Cx) (f:Value → Value → Sem Value) (r:R2):Prop :=
 ∀ (pins:List (Addr × Obj)) (s:Shared) (σ:St) (H:Hp) (x y:V) (v u:Value) (Q:VK),Inv X pins σ H s → bJ x v → bJ y u → r x y H Q →
  wpAny (model X.prog X.w) X.A (f v u) (EP X pins σ Q) X.xe s
def UnR (X:Cx) (f:Value → Sem Value) (r:V → Hp → VK → Prop):Prop :=
 ∀ (pins:List (Addr × Obj)) (s:Shared) (σ:St) (H:Hp) (x:V) (v:Value) (Q:VK),Inv X pins σ H s → bJ x v → r x H Q →
  wpAny (model X.prog X.w) X.A (f v) (EP X pins σ Q) X.xe s
def fI (X:Cx) (f:Value) (r:List V → Hp → VK → Prop):Prop :=
 ∀ (pins:List (Addr × Obj)) (s:Shared) (σ:St) (H:Hp) (xs:List V) (us:List Value) (Q:VK),Inv X pins σ H s → bK xs us → r xs H Q →
  wpAny (model X.prog X.w) X.A (call f us) (EP X pins σ Q) X.xe s
def tOp (r:R2) (ta tb:TE):TE:=fun σ H Q=>ta σ H fun x H1=>tb σ H1 fun y H2=>r x y H2 Q
def tUn (r:V → Hp → VK → Prop) (ta:TE):TE:=fun σ H Q=>ta σ H fun x H1=>r x H1 Q
def rI (C:Int → Int → Prop) (g:Int → Int → V):R2:=fun x y H Q=>∃ i j,x = .int i ∧ y = .int j ∧ C i j ∧ Q (g i j) H
def rI0 (g:Int → Int → V):R2:=fun x y H Q=>∃ i j,x = .int i ∧ y = .int j ∧ Q (g i j) H
def rU (g:Int → V):V → Hp → VK → Prop:=fun x H Q=>∃ i,x = .int i ∧ Q (g i) H
section
variable {X:Cx} {a b c:Expr} {ta tb tc:TE} {pos:Pos}
theorem aTV (ha:PE X a ta) (hb:PE X b tb) {pins:List (Addr × Obj)} {s:Shared} {σ:St} {H:Hp} {R:V → V → Hp → Prop} (I:Inv X pins σ H s)
  (h:ta σ H fun x H1=>tb σ H1 fun y H2=>R x y H2) {Q:Value → Shared → Prop} {f:Value → Value → Sem Value}
  (hf:∀ v u s2 x y H2,Inv X pins σ H2 s2 → bJ x v → bJ y u → R x y H2 → wpAny (model X.prog X.w) X.A (f v u) Q X.xe s2) :
  wpAny (model X.prog X.w) X.A (eval a X.env) (fun v s₁=>wpAny (model X.prog X.w) X.A (eval b X.env) (fun u s₂=>wpAny (model X.prog X.w) X.A (f v u) Q X.xe s₂) X.xe s₁) X.xe s:=by
 refine thn (ha pins s σ H _ I h) fun v s1 ⟨x,H1,I1,r1,q1⟩=>?_
 refine thn (hb pins s1 σ H1 _ I1 q1) fun u s2 ⟨y,H2,I2,r2,q2⟩=>?_
 exact hf v u s2 x y H2 I2 r1 r2 q2
theorem aO {op:Operator} {r:R2} (ho:OpR X (DV op) r) (ha:PE X a ta) (hb:PE X b tb):PE X (.BinOp a op b pos) (tOp r ta tb):=by
 intro pins s σ H Q I h
 exact wpAny_BinOp (aTV ha hb I h fun v u s2 x y H2 I2 rx ry q=>ho pins s2 σ H2 x y v u Q I2 rx ry q)
theorem aHF {op:UnaryOp} {r:V → Hp → VK → Prop} (ho:UnR X (unaryOp op) r) (ha:PE X a ta):PE X (.UnaryOp op a pos) (tUn r ta):=by
 intro pins s σ H Q I h
 exact UnaryOp_ (thn (ha pins s σ H _ I h) fun v s1 ⟨x,H1,I1,r1,q1⟩=>ho pins s1 σ H1 x v Q I1 r1 q1)
theorem opI {f:Value → Value → Sem Value} {C:Int → Int → Prop} {g:Int → Int → Int}
  (rule:∀ (i j:Int) (t u:Tok) (s:Shared) (Q:Value → Shared → Prop) (E:Value → Shared → Prop),C i j → Q (.int (g i j) s.toks) { s with toks:=s.toks + 1 } → wpAny (model X.prog X.w) X.A (f (.int i t) (.int j u)) Q E s) :
  OpR X f (rI C fun i j=>.int (g i j)):=by
 intro pins s σ H x y v u Q I rx ry h
 obtain ⟨i,j,rfl,rfl,hc,q⟩:=h
 obtain ⟨t,rfl⟩:=rx
 obtain ⟨t',rfl⟩:=ry
 exact rule i j t t' s _ _ hc ⟨.int (g i j),H,I.tok _,⟨_,rfl⟩,q⟩
theorem aUX {f:Value → Value → Sem Value} {g:Int → Int → Int}
  (rule:∀ (i j:Int) (t u:Tok) (s:Shared) (Q:Value → Shared → Prop) (E:Value → Shared → Prop),Q (.int (g i j) s.toks) { s with toks:=s.toks + 1 } → wpAny (model X.prog X.w) X.A (f (.int i t) (.int j u)) Q E s) :
  OpR X f (rI0 fun i j=>.int (g i j)):=by
 intro pins s σ H x y v u Q I rx ry h
 obtain ⟨i,j,rfl,rfl,q⟩:=h
 obtain ⟨t,rfl⟩:=rx
 obtain ⟨t',rfl⟩:=ry
 exact rule i j t t' s _ _ ⟨.int (g i j),H,I.tok _,⟨_,rfl⟩,q⟩
theorem aPZ {f:Value → Value → Sem Value} {g:Int → Int → Bool}
  (rule:∀ (i j:Int) (t u:Tok) (s:Shared) (Q:Value → Shared → Prop) (E:Value → Shared → Prop),Q (.bool (g i j)) s → wpAny (model X.prog X.w) X.A (f (.int i t) (.int j u)) Q E s) :
  OpR X f (rI0 fun i j=>.bl (g i j)):=by
 intro pins s σ H x y v u Q I rx ry h
 obtain ⟨i,j,rfl,rfl,q⟩:=h
 obtain ⟨t,rfl⟩:=rx
 obtain ⟨t',rfl⟩:=ry
 exact rule i j t t' s _ _ ⟨.bl (g i j),H,I,rfl,q⟩
def aXH (i j:Int):Prop:=0 ≤ j ∧ j ≤ 1000000 ∧ i.natAbs < 2 ^ 64
def aRB (i j:Int):Prop:=(-(2 ^ 64) < i ∧ i < 2 ^ 64) ∨ (-(2 ^ 64) < j ∧ j < 2 ^ 64)
theorem aRB.ok {i j:Int} (h:aRB i j):IntMulOk i j:=by
 rcases h with ⟨h1,h2⟩ | ⟨h1,h2⟩
 ·exact .of_left (intBits_le_64 h1 h2)
 ·exact .of_right (intBits_le_64 h1 h2)
theorem aEF (k:Nat):(0:Int) ≤ 2 ^ k:=by
 rw [two_pow_cast]
 exact Int.natCast_nonneg _
theorem fN:OpR X (DV .Add) (rI0 fun i j=>.int (i + j)):=aUX fun _ _ _ _ _ _ _ q=>add_int q
theorem iC:OpR X (DV .Sub) (rI0 fun i j=>.int (i - j)):=aUX fun _ _ _ _ _ _ _ q=>sub_int q
theorem iD:OpR X (DV .Mult) (rI aRB fun i j=>.int (i * j)):=opI fun _ _ _ _ _ _ _ hc q=>mul_int q hc.ok
theorem cV:OpR X (DV .Mod) (rI (fun _ j=>0 < j) fun i j=>.int (i % j)):=opI fun i j _ _ _ _ _ hc q=>by
 have h1:(0:Int) < j:=hc
 exact mod_int' (by omega) (by rw [Int.fmod_eq_emod_of_nonneg i (by omega)];exact q)
theorem hW:OpR X (DV .Pow) (rI aXH fun i j=>.int (i ^ j.toNat)):=opI fun _ _ _ _ _ _ _ hc q=>pow_int_small hc.1 hc.2.1 hc.2.2 q
theorem aSW:OpR X (DV .RShift) (rI (fun _ j=>0 ≤ j) fun i j=>.int (i / 2 ^ j.toNat)):=opI fun i j _ _ _ _ _ hc q =>
 rshift_int hc (by rw [Int.fdiv_eq_ediv_of_nonneg i (aEF _)];exact q)
theorem unI {f:Value → Sem Value} {g:Int → Int}
  (rule:∀ (i:Int) (t:Tok) (s:Shared) (Q:Value → Shared → Prop) (E:Value → Shared → Prop),Q (.int (g i) s.toks) { s with toks:=s.toks + 1 } → wpAny (model X.prog X.w) X.A (f (.int i t)) Q E s) :
  UnR X f (rU fun i=>.int (g i)):=by
 intro pins s σ H x v Q I rx h
 obtain ⟨i,rfl,q⟩:=h
 obtain ⟨t,rfl⟩:=rx
 exact rule i t s _ _ ⟨.int (g i),H,I.tok _,⟨_,rfl⟩,q⟩
theorem zX:UnR X (unaryOp .USub) (rU fun i=>.int (-i)):=unI fun _ _ _ _ _ q=>neg_int q
end
def aUM:V → V → Bool
 | .non,.non=>true | .non,.int _=>true | .int _,.non=>true | .non,.bl _=>true | .bl _,.non=>true | .non,.str _=>true | .str _,.non=>true
 | .int _,.int _=>true | .bl _,.bl _=>true | .str _,.str _=>true | .byt _,.byt _=>true
 | .int _,.str _=>true | .str _,.int _=>true | .bl _,.str _=>true | .str _,.bl _=>true
 | _,_=>false
def rEq:R2:=fun x y H Q=>aUM x y = true ∧ Q (.bl (decide (x = y))) H
def rNe:R2:=fun x y H Q=>aUM x y = true ∧ Q (.bl (!decide (x = y))) H
theorem jD {i j:Int}:decide (V.int i = V.int j) = (i == j):=by
 rw [Bj]
 simp
theorem aNV {i j:Bool}:decide (V.bl i = V.bl j) = (i == j):=by
 rw [Bj]
 simp
theorem lZ {i j:Str}:decide (V.str i = V.str j) = (i == j):=by
 rw [Bj]
 simp
theorem aIA {i j:Array UInt8}:decide (V.byt i = V.byt j) = (i.toList == j.toList):=by
 rw [Bj]
 cases i
 cases j
 simp
section
variable {X:Cx} {a b c:Expr} {ta tb tc:TE} {pos:Pos}
theorem cA {pins:List (Addr × Obj)} {σ:St} {H:Hp} {s:Shared} {Q:VK} {k k':Bool} (I:Inv X pins σ H s) (q:Q (.bl k) H) (e:k = k'):EP X pins σ Q (.bool k') s:=by
 subst e
 exact ⟨.bl k,H,I,rfl,q⟩
theorem oX:OpR X (BW .Eq) rEq:=by
 intro pins s σ H x y v u Q I rx ry h
 obtain ⟨hs,q⟩:=h
 cases x with
 | non =>
  cases rx
  cases y with
  | non=>cases ry;exact PySem.EqNone.eq_none_none (cA I q (by simp))
  | bl j=>cases ry;exact PySem.EqNone.eq_none_bool (cA I q (by simp))
  | int j=>obtain ⟨t',rfl⟩:=ry;exact PySem.EqNone.eq_none_int (cA I q (by simp))
  | str j=>obtain ⟨t',rfl⟩:=ry;exact PySem.EqNone.eq_none_str (cA I q (by simp))
  | _=>exact absurd (show false = true from hs) AV
 | bl i =>
  cases rx
  cases y with
  | non=>cases ry;exact PySem.EqNone.eq_bool_none (cA I q (by simp))
  | bl j=>cases ry;exact eq_bool (cA I q aNV)
  | str j=>obtain ⟨t',rfl⟩:=ry;exact PySem.EqMixed.eq_bool_str (cA I q (by simp))
  | _=>exact absurd (show false = true from hs) AV
 | int i =>
  obtain ⟨t,rfl⟩:=rx
  cases y with
  | non=>cases ry;exact PySem.EqNone.eq_int_none (cA I q (by simp))
  | int j=>obtain ⟨t',rfl⟩:=ry;exact eq_int (cA I q jD)
  | str j=>obtain ⟨t',rfl⟩:=ry;exact PySem.EqMixed.eq_int_str (cA I q (by simp))
  | _=>exact absurd (show false = true from hs) AV
 | str i =>
  obtain ⟨t,rfl⟩:=rx
  cases y with
  | non=>cases ry;exact PySem.EqNone.eq_str_none (cA I q (by simp))
  | bl j=>cases ry;exact PySem.EqMixed.eq_str_bool (cA I q (by simp))
  | int j=>obtain ⟨t',rfl⟩:=ry;exact PySem.EqMixed.eq_str_int (cA I q (by simp))
  | str j=>obtain ⟨t',rfl⟩:=ry;exact eq_str (cA I q lZ)
  | _=>exact absurd (show false = true from hs) AV
 | byt i =>
  obtain ⟨t,rfl⟩:=rx
  cases y with
  | byt j=>obtain ⟨t',rfl⟩:=ry;exact PySem.W.eq_bytes (cA I q aIA)
  | _=>exact absurd (show false = true from hs) AV
 | _=>cases y <;> exact absurd (show false = true from hs) AV
theorem yM:OpR X (BW .NotEq) rNe:=by
 intro pins s σ H x y v u Q I rx ry h
 obtain ⟨hs,q⟩:=h
 cases x with
 | non =>
  cases rx
  cases y with
  | non=>cases ry;exact PySem.EqNone.ne_none_none (cA I q (by simp))
  | bl j=>cases ry;exact PySem.EqNone.ne_none_bool (cA I q (by simp))
  | int j=>obtain ⟨t',rfl⟩:=ry;exact PySem.EqNone.ne_none_int (cA I q (by simp))
  | str j=>obtain ⟨t',rfl⟩:=ry;exact PySem.EqNone.ne_none_str (cA I q (by simp))
  | _=>exact absurd (show false = true from hs) AV
 | bl i =>
  cases rx
  cases y with
  | non=>cases ry;exact PySem.EqNone.ne_bool_none (cA I q (by simp))
  | bl j=>cases ry;exact ne_bool (cA I q (congrArg not aNV))
  | str j=>obtain ⟨t',rfl⟩:=ry;exact PySem.EqMixed.ne_bool_str (cA I q (by simp))
  | _=>exact absurd (show false = true from hs) AV
 | int i =>
  obtain ⟨t,rfl⟩:=rx
  cases y with
  | non=>cases ry;exact PySem.EqNone.ne_int_none (cA I q (by simp))
  | int j=>obtain ⟨t',rfl⟩:=ry;exact ne_int (cA I q (congrArg not jD))
  | str j=>obtain ⟨t',rfl⟩:=ry;exact PySem.EqMixed.ne_int_str (cA I q (by simp))
  | _=>exact absurd (show false = true from hs) AV
 | str i =>
  obtain ⟨t,rfl⟩:=rx
  cases y with
  | non=>cases ry;exact PySem.EqNone.ne_str_none (cA I q (by simp))
  | bl j=>cases ry;exact PySem.EqMixed.ne_str_bool (cA I q (by simp))
  | int j=>obtain ⟨t',rfl⟩:=ry;exact PySem.EqMixed.ne_str_int (cA I q (by simp))
  | str j=>obtain ⟨t',rfl⟩:=ry;exact ne_str (cA I q (congrArg not lZ))
  | _=>exact absurd (show false = true from hs) AV
 | byt i =>
  obtain ⟨t,rfl⟩:=rx
  cases y with
  | byt j=>obtain ⟨t',rfl⟩:=ry;exact PySem.W.ne_bytes (cA I q (congrArg not aIA))
  | _=>exact absurd (show false = true from hs) AV
 | _=>cases y <;> exact absurd (show false = true from hs) AV
theorem yN:OpR X (BW .Lt) (rI0 fun i j=>.bl (decide (i < j))):=aPZ fun _ _ _ _ _ _ _ q=>lt_int q
theorem tG:OpR X (BW .LtE) (rI0 fun i j=>.bl (decide (i ≤ j))):=aPZ fun _ _ _ _ _ _ _ q=>le_int q
theorem aHH:OpR X (BW .Gt) (rI0 fun i j=>.bl (decide (j < i))):=aPZ fun _ _ _ _ _ _ _ q=>gt_int q
theorem aRR:OpR X (BW .GtE) (rI0 fun i j=>.bl (decide (j ≤ i))):=aPZ fun _ _ _ _ _ _ _ q=>ge_int q
theorem aJF:OpR X (BW .In) (fun x y H Q=>∃ i j,x = .str i ∧ y = .str j ∧ Q (.bl (!(Builtin.Str.occurrences j i 0 j.length 1).isEmpty)) H):=by
 intro pins s σ H x y v u Q I rx ry h
 obtain ⟨i,j,rfl,rfl,q⟩:=h
 obtain ⟨t,rfl⟩:=rx
 obtain ⟨t',rfl⟩:=ry
 exact in_str (cA I q rfl)
theorem aSY:OpR X (BW .Is) (fun x y H Q=>y = .non ∧ Q (.bl (decide (x = .non))) H):=by
 intro pins s σ H x y v u Q I rx ry h
 obtain ⟨rfl,q⟩:=h
 cases ry
 refine is_none_gen (cA I q ?_)
 cases x <;> first
  | (cases rx;rfl)
  | (obtain ⟨t,rfl⟩:=rx;rfl)
theorem aPY:OpR X (BW .IsNot) (fun x y H Q=>y = .non ∧ Q (.bl (!decide (x = .non))) H):=by
 intro pins s σ H x y v u Q I rx ry h
 obtain ⟨rfl,q⟩:=h
 cases ry
 refine isnot_none_gen (cA I q ?_)
 cases x <;> first
  | (cases rx;rfl)
  | (obtain ⟨t,rfl⟩:=rx;rfl)
theorem bY (b:Expr) {op:CmpOp} (h:op ≠ .In:=by decide) (h2:op ≠ .NotIn:=by decide):Dx op b = false:=by
 have e1:(op == CmpOp.In) = false:=by cases op <;> first | rfl | exact absurd rfl h
 have e2:(op == CmpOp.NotIn) = false:=by cases op <;> first | rfl | exact absurd rfl h2
 cases b <;> simp [Dx,e1,e2]
theorem dQ {op:CmpOp} {r:R2} (ho:OpR X (BW op) r) (ha:PE X a ta) (hb:PE X b tb) (hm:Dx op b = false):PE X (.Compare a [op] [b] pos) (tOp r ta tb):=by
 intro pins s σ H Q I h
 exact wpAny_Compare1 (aTV ha hb I h fun v u s2 x y H2 I2 rx ry q=>ho pins s2 σ H2 x y v u Q I2 rx ry q) hm
def aRE (t:TE):TT:=fun σ H Q=>t σ H fun x H'=>∃ k,x = .bl k ∧ Q k H'
theorem cD {op:CmpOp} {r:R2} (ho:OpR X (BW op) r) (ha:PE X a ta) (hb:PE X b tb) (hm:Dx op b = false):PT X (.Compare a [op] [b] pos) (aRE (tOp r ta tb)):=by
 intro pins s σ H Q I h
 refine wpAny_isTrue_Compare1 (thn (ha pins s σ H _ I h) fun v s1 ⟨x,H1,I1,r1,q1⟩=>thn (hb pins s1 σ H1 _ I1 q1) fun u s2 ⟨y,H2,I2,r2,q2⟩ =>
  thn (ho pins s2 σ H2 x y v u _ I2 r1 r2 q2) fun c s3 ⟨z,H3,I3,r3,k,e,q3⟩=>?_) hm
 subst e
 cases r3
 exact Br ⟨H3,I3,q3⟩
def aKS (r r':R2) (ta tb tc:TE):TE:=fun σ H Q=>ta σ H fun x H1=>tb σ H1 fun y H2=>r x y H2 fun z H3=>∃ k,z = .bl k ∧
 (if k = true then tc σ H3 fun w' H4=>r' y w' H4 Q else Q (.bl false) H3)
theorem vJ {op op':CmpOp} {r r':R2} (ho:OpR X (BW op) r) (ho':OpR X (BW op') r') (ha:PE X a ta) (hb:PE X b tb) (hc:PE X c tc)
  (hm:lastMarks [op,op'] [b,c] = false:=by with_unfolding_all rfl):PE X (.Compare a [op,op'] [b,c] pos) (aKS r r' ta tb tc):=by
 intro pins s σ H Q I h
 refine Compare_chain (thn (ha pins s σ H _ I h) fun v s1 ⟨x,H1,I1,r1,q1⟩=>chain_link (thn (hb pins s1 σ H1 _ I1 q1) fun u s2 ⟨y,H2,I2,r2,q2⟩ =>
  thn (ho pins s2 σ H2 x y v u _ I2 r1 r2 q2) fun d s3 ⟨z,H3,I3,r3,k,e,q3⟩=>?_)) hm
 subst e
 cases r3
 refine Br ?_
 cases k with
 | false=>exact ite_ff ⟨.bl false,H3,I3,rfl,q3⟩
 | true=>exact ite_tt (chain_last (thn (hc pins s3 σ H3 _ I3 q3) fun w' s4 ⟨z',H4,I4,r4,q4⟩=>ho' pins s4 σ H4 y z' u w' Q I4 r2 r4 q4))
theorem aLZ {op op':CmpOp} {r r':R2} (ho:OpR X (BW op) r) (ho':OpR X (BW op') r') (ha:PE X a ta) (hb:PE X b tb) (hc:PE X c tc)
  (hm:lastMarks [op,op'] [b,c] = false:=by with_unfolding_all rfl):PT X (.Compare a [op,op'] [b,c] pos) (aRE (aKS r r' ta tb tc)):=by
 intro pins s σ H Q I h
 refine isTrue_chain (thn (ha pins s σ H _ I h) fun v s1 ⟨x,H1,I1,r1,q1⟩=>test_link (thn (hb pins s1 σ H1 _ I1 q1) fun u s2 ⟨y,H2,I2,r2,q2⟩ =>
  thn (ho pins s2 σ H2 x y v u _ I2 r1 r2 q2) fun d s3 ⟨z,H3,I3,r3,k,e,q3⟩=>?_)) hm
 subst e
 cases r3
 refine Br ?_
 cases k with
 | false =>
  obtain ⟨k',e',q'⟩:=q3
  cases e'
  exact ite_ff ⟨H3,I3,q'⟩
 | true =>
  refine ite_tt (test_last (thn (hc pins s3 σ H3 _ I3 q3) fun w' s4 ⟨z',H4,I4,r4,q4⟩=>thn (ho' pins s4 σ H4 y z' u w' _ I4 r2 r4 q4) fun d' s5 ⟨z2,H5,I5,r5,k2,e2,q5⟩=>?_))
  subst e2
  cases r5
  exact Br ⟨H5,I5,q5⟩
theorem vY:(Ar:Nat) < 2 ^ 63:=by rw [Ca];decide
theorem vM:OpR X (DV .Add) (fun x y H Q=>∃ i j,x = .str i ∧ y = .str j ∧ i.length + j.length ≤ Ar ∧ Q (.str (i ++ j)) H):=by
 intro pins s σ H x y v u Q I rx ry h
 obtain ⟨i,j,rfl,rfl,hz,q⟩:=h
 obtain ⟨t,rfl⟩:=rx
 obtain ⟨t',rfl⟩:=ry
 exact add_str (fun t' tk=>⟨.str (i ++ j),H,I.tok _,⟨_,rfl⟩,q⟩) hz
theorem aBV {x:V} {us:List Value} (r:bK [x] us):∃ u,us = [u] ∧ bJ x u:=by
 cases r with
 | cons r1 r2=>cases r2;exact ⟨_,rfl,r1⟩
theorem aRC {x y:V} {us:List Value} (r:bK [x,y] us):∃ u w',us = [u,w'] ∧ bJ x u ∧ bJ y w':=by
 cases r with
 | cons r1 r2 =>
  cases r2 with
  | cons r3 r4=>cases r4;exact ⟨_,_,rfl,r1,r3⟩
theorem aDX:fI X (.builtin "abs") (fun xs H Q=>∃ i,xs = [.int i] ∧ Q (.int (if i < 0 then -i else i)) H):=by
 intro pins s σ H xs us Q I r h
 obtain ⟨i,rfl,q⟩:=h
 obtain ⟨u,rfl,t,rfl⟩:=aBV r
 exact call_abs_int fun u tk=>⟨.int (if i < 0 then -i else i),H,I.tok _,⟨_,rfl⟩,q⟩
theorem zJ (hc:X.calm = true):fI X (.builtin "max") (fun xs H Q=>∃ i j,xs = [.int i,.int j] ∧ Q (.int (if j > i then j else i)) H):=by
 intro pins s σ H xs us Q I r h
 obtain ⟨i,j,rfl,q⟩:=h
 obtain ⟨u,w',rfl,⟨t,rfl⟩,⟨t',rfl⟩⟩:=aRC r
 refine max_two_ints (I.ok.hd hc) fun h' tk k=>⟨_,H,I.kept k,?_,q⟩
 by_cases hj:j > i
 ·rw [if_pos hj,if_pos hj];exact ⟨_,rfl⟩
 ·rw [if_neg hj,if_neg hj];exact ⟨_,rfl⟩
theorem sJ (hc:X.calm = true):fI X (.builtin "min") (fun xs H Q=>∃ i j,xs = [.int i,.int j] ∧ Q (.int (if j < i then j else i)) H):=by
 intro pins s σ H xs us Q I r h
 obtain ⟨i,j,rfl,q⟩:=h
 obtain ⟨u,w',rfl,⟨t,rfl⟩,⟨t',rfl⟩⟩:=aRC r
 refine min_two_ints (I.ok.hd hc) fun h' tk k=>⟨_,H,I.kept k,?_,q⟩
 by_cases hj:j < i
 ·rw [if_pos hj,if_pos hj];exact ⟨_,rfl⟩
 ·rw [if_neg hj,if_neg hj];exact ⟨_,rfl⟩
end
end L2
namespace L2
open PySem PySem.Spec PyProof.Rows
structure ObjM (h:Heap) (x dx C:Addr) (mA:Str → Option Value):Prop where
 obj:h.get? x = some (CQ C dx)
 ns:h.Ns1 dx mA
 ne:dx ≠ x
theorem aJM {h:Heap} {dx:Addr} {mA:Str → Option Value} (n:h.Ns1 dx mA):∃ od,h.get? dx = some od ∧ ∀ name,Dy name od = some (mA name):=by
 obtain ⟨o,es,ep,ho,hd,hk,_,hm⟩:=n
 refine ⟨o,ho,fun name=>?_⟩
 have e:=hm name
 unfold nsFind findBy at e
 rw [← Array.find?_toList] at e
 unfold Dy
 rw [hd]
 dsimp only
 split
 ·rename_i y q
  rw [q] at e
  exact congrArg some e
 ·rename_i q
  rw [q] at e
  have a:es.toList.any (·.refKey) = false:=by
   rw [List.any_eq_false]
   intro y hy
   obtain ⟨z,t,hkey⟩:=hk y (Array.mem_toList_iff.mp hy)
   simp [Ej.refKey,hkey]
  have a':¬ es.toList.any (·.refKey) = true:=by rw [a];exact AV
  rw [if_neg a']
  exact congrArg some e
theorem ObjM.look {h:Heap} {x dx C:Addr} {mA:Str → Option Value} (I:ObjM h x dx C mA):∃ od,PySem.W.InstAt h x (CQ C dx) C (some od) ∧ ∀ name,Dy name od = some (mA name) :=
 let ⟨od,ho,hl⟩:=aJM I.ns
 ⟨od,⟨I.obj,rfl,rfl,ho⟩,hl⟩
section
variable {prog:Program} {w:World} {A:Around} {E:Value → Shared → Prop} {s:Shared} {K:AG} {x dx C f:Addr} {mA:Str → Option Value} {name:Str} {v:Value}
theorem aQN {expr:Bool} {Q:Value → Shared → Prop} (X:K.In s.heap) (I:ObjM s.heap x dx C mA) (hg:DJ K C name = true) (hh:Dc K C = true)
  (ha:At K (.ref C) name = some none) (hv:mA name = some v) (hv':PySem.W.handedIn v = true) (h:Q v { s with toks:=s.toks + 1 }) :
  wpAny (model prog w) A (getAttr (.ref x) name expr) Q E s:=by
 obtain ⟨od,J,hl⟩:=I.look
 exact PySem.W.get_value X J (EF hg).1 (PySem.W.findObj_own hh ha rfl (by rw [hl,hv])) hv' h
theorem aNE {pl:Sem Bool} {Q:Value × List Value → Shared → Prop} (X:K.In s.heap) (I:ObjM s.heap x dx C mA) (hg:DJ K C name = true)
  (hf:At K (.ref C) name = some (some (.ref f))) (ht:Bi K (.ref f) = true) (hv:mA name = none) (h:Q (.ref f,[.ref x]) s) :
  wpAny (model prog w) A (Eg (.ref x) name pl) Q E s:=by
 obtain ⟨od,J,hl⟩:=I.look
 exact PySem.W.method_fn X J (EF hg).1 (EF hg).2 hf (beq_iff_eq.mp ht) (by show (Dy name od).map (·.isSome) = some false;rw [hl,hv];rfl) h
theorem aPH {ns:List Str} {Q:Unit → Shared → Prop} (X:K.In s.heap) (I:ObjM s.heap x dx C mA)
  (hs:At K (.ref C) "__setattr__" = some (some (.builtin "object.__setattr__"))) (hp:EY K C = true) (ht:Em K C name = some none) (hh:Dc K C = true)
  (hw:Ef mA ns) (hsz:ns.length ≤ Ar)
  (h:∀ h',ObjM h' x dx C (fun y=>if y = name then some v else mA y) → DG dx s.heap h' → Q () { s with heap:=h',toks:=s.toks + 2 }) :
  wpAny (model prog w) A (setAttr (.ref x) name v) Q E s:=by
 obtain ⟨od,J,hl⟩:=I.look
 refine PySem.W.set_plain X J hs (PySem.W.osa_open (s:={ s with toks:=s.toks + 1 }) (r:=none) X J hp ht fun b=>?_)
 obtain ⟨cd,hc,hd'⟩:=PySem.W.any_some hh
 have hx:s.heap.get? x = some ⟨.ref C,some dx,.plain,#[]⟩:=I.obj
 refine AD (AT (AD (AD (wpAny_loadPart hx (AD (PySem.W.Looks.here (s:={ s with toks:=s.toks + 1 }) (PySem.W.looks_clsIn X hc) ?_))))))
 rw [hd']
 refine AT (a:=some dx) (AD (AT (AD ?_)))
 refine wpAny_nsSet1 (s:={ s with toks:=s.toks + 1 }) I.ns fun h' hn2 hs2=>?_
 obtain ⟨oD,esD,epD,hoD,hdD,hcD⟩:=hn2.count (Ef.cons name v hw)
 refine AD (wpAny_lookBehind hoD (by rw [hdD];exact pastItsLine_dict (BI hcD (by rw [Ag];omega))) ?_)
 exact AT (h _ ⟨(hs2.2 _ (Ne.symm I.ne)).trans I.obj,hn2,I.ne⟩ hs2)
theorem aMP {R:Result → Shared → Prop} {vs:List Value} {kw:List (Str × Value)} (X:K.In s.heap) (hm:Dp K C = true)
  (hi:At K (.ref C) "__init__" = some (some (.ref f))) (hf:PySem.W.typeIn K (.ref f) = some (.type "function"))
  (h:codeAny (model prog w) (A.under (.builtin "type.__call__" ⟨.ref C :: vs,kw⟩)) (.call (.ref f) ⟨.ref (s.heap.objs.size + 1) :: vs,kw⟩) (PySem.W.InitBack (s.heap.objs.size + 1) R)
   { s with heap:=(s.heap.push Bx).push (CQ C s.heap.objs.size) }) :
  codeAny (model prog w) A (.call (.ref C) ⟨vs,kw⟩) R s:=by
 obtain ⟨hh,g,d,t,os⟩:=s
 exact PySem.W.make_core (PySem.W.makes_of X hm) (PySem.W.looks_findIn X hi) (fun self=>PySem.W.bind_fn X self hf) (.inl rfl) h
end
def jB (f:Str) (v:V):List (Str × V) → List (Str × V)
 | []=>[(f,v)]
 | (g,x) :: r=>if g = f then (g,v) :: r else (g,x) :: jB f v r
theorem fH (f g:Str) (v:V):∀ fs:List (Str × V),(jB f v fs).lookup g = if g = f then some v else fs.lookup g
 | []=>by
  show CK g [(f,v)] = _
  by_cases h:g = f
  ·have hb:(g == f) = true:=beq_iff_eq.mpr h
   simp only [CK,hb,if_pos h]
  ·have hb:(g == f) = false:=beq_eq_false_iff_ne.mpr h
   simp only [CK,hb,if_neg h]
 | (k,x) :: r=>by
  have ih:=fH f g v r
  rw [show jB f v ((k,x) :: r) = (if k = f then (k,v) :: r else (k,x) :: jB f v r) from rfl]
  by_cases hk:k = f
  ·rw [if_pos hk]
   by_cases h:g = k
   ·have hb:(g == k) = true:=beq_iff_eq.mpr h
    simp only [CK,hb,if_pos (h.trans hk)]
   ·have hb:(g == k) = false:=beq_eq_false_iff_ne.mpr h
    simp only [CK,hb,if_neg (fun e:g = f=>h (e.trans hk.symm))]
  ·rw [if_neg hk]
   by_cases h:g = k
   ·have hb:(g == k) = true:=beq_iff_eq.mpr h
    simp only [CK,hb,if_neg (fun e:g = f=>hk (h.symm.trans e))]
   ·have hb:(g == k) = false:=beq_eq_false_iff_ne.mpr h
    simp only [CK,hb]
    exact ih
theorem rV (f:Str) (v:V):∀ fs:List (Str × V),f ∈ (jB f v fs).map (·.1) ∧ ∀ g,g ∈ fs.map (·.1) → g ∈ (jB f v fs).map (·.1)
 | []=>⟨by simp [jB],fun g h=>by simp at h⟩
 | (k,x) :: r=>by
  obtain ⟨i1,i2⟩:=rV f v r
  rw [show jB f v ((k,x) :: r) = (if k = f then (k,v) :: r else (k,x) :: jB f v r) from rfl]
  by_cases hk:k = f
  ·rw [if_pos hk]
   subst hk
   exact ⟨by simp,fun g h=>by simpa using h⟩
  ·rw [if_neg hk]
   refine ⟨?_,fun g h=>?_⟩
   ·rw [AY]
    exact AO _ i1
   ·rw [AY] at h ⊢
    rcases Af.mp h with e | e
    ·exact Af.mpr (.inl e)
    ·exact AO _ (i2 g e)
theorem tK (f:Str) (v:V):∀ fs:List (Str × V),(jB f v fs).length ≤ fs.length + 1
 | []=>by simp [jB]
 | (k,x) :: r=>by
  have ih:=tK f v r
  rw [show jB f v ((k,x) :: r) = (if k = f then (k,v) :: r else (k,x) :: jB f v r) from rfl]
  by_cases hk:k = f
  ·rw [if_pos hk,Ag,Ag];omega
  ·rw [if_neg hk,Ag,Ag];omega
theorem oB.some_of {v:V} {o:Option Value} (r:oB (some v) o):∃ u,o = some u ∧ bJ v u:=by
 cases o with
 | none=>exact (show False from r).elim
 | some u=>exact ⟨u,rfl,r⟩
theorem oB.none_of {o:Option Value} (r:oB none o):o = none:=by
 cases o with
 | none=>rfl
 | some u=>exact (show False from r).elim
theorem aJR {v:V} {u:Value} (r:bJ v u):PySem.W.handedIn u = true:=by
 cases v with
 | non=>cases (show u = Bm from r);rfl
 | bl b=>cases (show u = EX b from r);rfl
 | int i=>obtain ⟨t,e⟩:=(show ∃ t,u = Dn i t from r);cases e;rfl
 | str x=>obtain ⟨t,e⟩:=(show ∃ t,u = Value.str x t from r);cases e;rfl
 | byt b=>obtain ⟨t,e⟩:=(show ∃ t,u = Value.bytes b t from r);cases e;rfl
 | flt b=>obtain ⟨t,e⟩:=(show ∃ t,u = Value.float b t from r);cases e;rfl
 | ref a=>cases (show u = Ap a from r);rfl
 | ty n=>cases (show u = Cf n from r);rfl
section
variable {P:Program} {w:World} {H H':Hp} {h h':Heap} {a C dx:Addr} {fs fs':List (Str × V)}
theorem uM (hok:HOk P w H h) (e:H a = some (.ins C dx fs)):∃ mA,ObjM h a dx C mA ∧ (∀ f,oB (fs.lookup f) (mA f)) ∧ Ef mA (fs.map (·.1)) ∧ fs.length ≤ 1000 ∧ H dx = some (.own a):=by
 obtain ⟨d,z,ne,ob,mA,n,r,q⟩:=(show bW P w H h a (.ins C dx fs) from hok a _ e)
 exact ⟨mA,⟨ob,n,ne⟩,r,q,z,d⟩
end
structure Cls (K:AG) (C:Addr):Prop where
 pg:DJ K C Str.empty = true
 hd:Dc K C = true
 po:EY K C = true
 sa:At K (.ref C) "__setattr__" = some (some (.builtin "object.__setattr__"))
theorem Cls.get {K:AG} {C:Addr} (c:Cls K C) (f:Str):DJ K C f = true:=c.pg
def oE (K:AG) (C:Addr) (f:Str):Prop:=At K (.ref C) f = some none
theorem oE.taker {K:AG} {C:Addr} {f:Str} (n:oE K C f):Em K C f = some none:=by
 unfold Em
 rw [show At K (.ref C) f = some none from n]
 rfl
structure Con (K:AG) (C:Addr) (f:Str) (v:V) (u:Value):Prop where
 at_:At K (.ref C) f = some (some u)
 rel:bJ v u
 get:Db K u "__get__" = some none
 cp:PySem.W.copiedNames.contains f = false
structure Meth (K:AG) (C:Addr) (m:Str) (f:Addr):Prop where
 at_:At K (.ref C) m = some (some (.ref f))
 fn:Bi K (.ref f) = true
 kp:AF K (.ref f) = true
section
variable {X:Cx} {pins:List (Addr × Obj)} {σ:St} {H:Hp} {s:Shared} {a C dx:Addr} {fs:List (Str × V)} {f:Str} {v:V} {A:Around} {E:Value → Shared → Prop}
theorem aFM {b:Bool} {Q:Value → Shared → Prop} (I:Inv X pins σ H s) (e:H a = some (.ins C dx fs)) (c:Cls X.K C) (n:oE X.K C f) (l:fs.lookup f = some v)
  (h:∀ u s',Inv X pins σ H s' → bJ v u → Q u s'):wpAny (model X.prog X.w) A (getAttr (.ref a) f b) Q E s:=by
 obtain ⟨mA,O,r,_,_,_⟩:=uM I.hok e
 obtain ⟨u,hu,ru⟩:=oB.some_of (v:=v) (o:=mA f) (by rw [← l];exact r f)
 exact aQN I.kIn O (c.get f) c.hd n hu (aJR ru) (h u _ (I.tok _) ru)
theorem wJ {m:Str} {g:Addr} {pl:Sem Bool} {Q:Value × List Value → Shared → Prop} (I:Inv X pins σ H s) (e:H a = some (.ins C dx fs)) (c:Cls X.K C) (k:Meth X.K C m g) (l:fs.lookup m = none)
  (h:Q (.ref g,[.ref a]) s):wpAny (model X.prog X.w) A (Eg (.ref a) m pl) Q E s:=by
 obtain ⟨mA,O,r,_,_,_⟩:=uM I.hok e
 have hn:mA m = none:=oB.none_of (by rw [← l];exact r m)
 exact aNE I.kIn O (c.get m) k.at_ k.fn hn h
theorem aEN {y:V} {u:Value} {Q:Unit → Shared → Prop} (I:Inv X pins σ H s) (e:H a = some (.ins C dx fs)) (c:Cls X.K C) (n:oE X.K C f) (hl:fs.length < 1000) (ry:bJ y u)
  (h:∀ s',Inv X pins σ (upd H a (.ins C dx (jB f y fs))) s' → Q () s'):wpAny (model X.prog X.w) A (setAttr (.ref a) f u) Q E s:=by
 obtain ⟨mA,O,r,wi,_,ho⟩:=uM I.hok e
 have hz:(fs.map (·.1)).length ≤ Ar:=by rw [AA,Ca];omega
 refine aPH I.kIn O c.sa c.po n.taker c.hd wi hz fun h' O' sb=>h _ ?_
 have hd:∃ o,h'.get? dx = some o:=let ⟨o,_,_,e',_⟩:=O'.ns;⟨o,e'⟩
 refine I.write (x:=a) (e:=dx) (by rw [e];exact Cg) (.inr ho) (fun b q hb z=>(sb.2 b hb).trans z) hd ?_
 refine ⟨by rw [aK O.ne];exact ho,?_,O.ne,O'.obj,_,O'.ns,fun g=>?_,fun g hg=>?_⟩
 ·have:=tK f y fs;omega
 ·show oB ((jB f y fs).lookup g) (if g = f then some u else mA g)
  rw [fH]
  by_cases q:g = f
  ·rw [if_pos q,if_pos q];exact ry
  ·rw [if_neg q,if_neg q];exact r g
 ·by_cases q:g = f
  ·rw [q];exact (rV f y fs).1
  ·refine (rV f y fs).2 g (wi g fun z=>hg ?_)
   show (if g = f then some u else mA g) = none
   rw [if_neg q];exact z
theorem Inv.made (I:Inv X pins σ H s):Inv X pins σ (upd (upd H s.heap.objs.size (.own (s.heap.objs.size + 1))) (s.heap.objs.size + 1) (.ins C s.heap.objs.size []))
  { s with heap:=(s.heap.push Bx).push (CQ C s.heap.objs.size) }:=by
 have e1:(s.heap.push Bx).get? s.heap.objs.size = some Bx:=Ad s.heap rfl
 have e2:((s.heap.push Bx).push (CQ C s.heap.objs.size)).get? (s.heap.objs.size + 1) = some (CQ C s.heap.objs.size):=by
  have:=Ad (s.heap.push Bx) (o:=CQ C s.heap.objs.size) rfl
  rwa [DF] at this
 have e3:(s.heap.push Bx).Ns s.heap.objs.size (fun _=>none):=⟨Bx,#[],_,e1,rfl,(fun e he=>absurd he (by simp)),fun _=>rfl⟩
 have I1:=I.laid (a:=s.heap.objs.size) (o:=.own (s.heap.objs.size + 1)) (h':=s.heap.push Bx) (t':=s.toks) (fun b u q=>AE _ q) (AQ _) ⟨_,e1⟩
 refine I1.laid (a:=s.heap.objs.size + 1) (o:=.ins C s.heap.objs.size []) (t':=s.toks) (fun b u q=>AE _ q) (Dz (DF _ _)) ?_
 have ne:s.heap.objs.size ≠ s.heap.objs.size + 1:=Ah (DP _)
 refine ⟨by rw [aK ne,aF],BT _,ne,e2,fun _=>none,(Heap.Ns1.of_empty e3).at fun o q=>AE _ q,fun _=>Cg,fun y hy=>absurd rfl hy⟩
theorem aQV {prog:Program} {w:World} {env:Env} {e:Expr} {f:Str} {pos:Pos} {s:Shared} {Q:Value → Shared → Prop} (hb:DU e f env (eval e env) = eval e env)
  (h:wpAny (model prog w) A (eval e env) (fun o s₁=>wpAny (model prog w) A (getAttr o f true) Q E s₁) E s):wpAny (model prog w) A (eval (.Attribute e f pos) env) Q E s :=
 Attribute_any_ h (by rw [arm_eval_Attribute,hb])
end
def aWD (K:AG) (ta:TE) (f:Str):TE:=fun σ H Q=>ta σ H fun x H1=>∃ a C dx fs v,x = .ref a ∧ H1 a = some (.ins C dx fs) ∧ Cls K C ∧ oE K C f ∧ fs.lookup f = some v ∧ Q v H1
def aWJ (K:AG) (ta tv:TE) (f:Str):TS:=fun D σ H=>tv σ H fun y H1=>ta σ H1 fun x H2=>∃ a C dx fs,x = .ref a ∧ H2 a = some (.ins C dx fs) ∧ Cls K C ∧ oE K C f ∧ fs.length < 1000 ∧
 D.nx σ (upd H2 a (.ins C dx (jB f y fs)))
def aVV (X:Cx) (op:Operator) (rd:V → V → Hp → VK → Prop):Prop :=
 ∀ (pins:List (Addr × Obj)) (s:Shared) (σ:St) (H:Hp) (x y:V) (u v:Value) (Q:VK),Inv X pins σ H s → bJ x u → bJ y v → rd x y H Q → wpAny (model X.prog X.w) X.A (inplaceOp op u v) (EP X pins σ Q) X.xe s
section
variable {X:Cx} {o e value:Expr} {f:Str} {pos pos' tpos:Pos} {ta tv:TE}
theorem vI (he:PE X e ta) (hb:DU e f X.env (eval e X.env) = eval e X.env):PE X (.Attribute e f pos) (aWD X.K ta f):=by
 intro pins s σ H Q I h
 refine aQV hb (thn (he pins s σ H _ I h) fun u s1 ⟨x,H1,I1,rx,a,C,dx,fs,v,ex,ea,c,n,l,q⟩=>?_)
 subst ex
 obtain rfl:u = Ap a:=rx
 exact aFM I1 ea c n l fun u' s2 I2 ru=>⟨v,H1,I2,ru,q⟩
theorem aMA (ha:PE X o ta) (hv:PE X value tv) (hs:swapsWith value (some (.Attribute o f pos')) pos.line X.env = pure false):PS X (.Assign [.Attribute o f pos'] value pos) (aWJ X.K ta tv f):=by
 intro pins s σ H D I h
 refine plainObj_wpAny_Assign_Attribute (thn (hv pins s σ H _ I h) fun u s1 ⟨y,H1,I1,ry,q⟩=>thn (ha pins s1 σ H1 _ I1 q) fun ov s2 ⟨x,H2,I2,rx,a,C,dx,fs,ex,ea,c,n,l,q2⟩=>?_) hs
 subst ex
 obtain rfl:ov = Ap a:=rx
 exact aEN I2 ea c n l ry fun s3 I3=>⟨σ,_,I3,q2⟩
def aWM:V → V → Hp → VK → Prop:=fun x y H Q=>∃ i j,x = .int i ∧ y = .int j ∧ Q (.int (i + j)) H
theorem aTP:aVV X .Add aWM:=by
 rintro pins s σ H x y u v Q I rx ry ⟨i,j,rfl,rfl,q⟩
 obtain ⟨t,rfl⟩:=(show ∃ t,u = Dn i t from rx)
 obtain ⟨t',rfl⟩:=(show ∃ t',v = Dn j t' from ry)
 exact PyProof.Rows.iadd_int ⟨.int (i + j),H,I.tok _,⟨_,rfl⟩,q⟩
end
section
variable {X:Cx} {pins:List (Addr × Obj)} {σ:St} {H:Hp} {s:Shared} {A:Around} {E:Value → Shared → Prop} {Q:Value → Shared → Prop} {c:Value} {b:Bool}
inductive TyOf (K:AG) (H:Hp):V → Value → Prop where
 | non:TyOf K H .non (.type "NoneType")
 | bl (x:Bool):TyOf K H (.bl x) (.type "bool")
 | int (i:Int):TyOf K H (.int i) (.type "int")
 | str (x:Str):TyOf K H (.str x) (.type "str")
 | flt (x:UInt64):TyOf K H (.flt x) (.type "float")
 | lst {a:Addr} {xs:List V} (e:H a = some (.lst xs)):TyOf K H (.ref a) (.type "list")
 | frz {a:Addr} {o:Obj} {xs:List V} (e:H a = some (.frz o (.lst xs))):TyOf K H (.ref a) (.type "list")
 | tup {a:Addr} {xs:List V} (e:H a = some (.tup xs)):TyOf K H (.ref a) (.type "tuple")
 | dK {a:Addr} {kvs:List (Key × V)} (e:H a = some (.dK kvs)):TyOf K H (.ref a) (.type "dict")
 | dT {a:Addr} {kvs:List (List Key × V)} (e:H a = some (.dT kvs)):TyOf K H (.ref a) (.type "dict")
 | ins {a C dx:Addr} {fs:List (Str × V)} (e:H a = some (.ins C dx fs)) (cl:Cls K C) (ha:At K (.ref C) "__class__" = some (some (.builtin "object.__class__")))
   (hn:Db K (.builtin "object.__class__") "__get__" = some (some (.builtin "getset_descriptor.__get__"))) (htk:El K (.builtin "object.__class__") = some true)
   (hm:PySem.W.mroIn K C (.type "object") = some true):TyOf K H (.ref a) (.ref C)
theorem aJO {x:V} {u t:Value} (I:Inv X pins σ H s) (rx:bJ x u) (ty:TyOf X.K H x t) (e:CC X.K t c = some b) (h:∀ tk,Q (.bool b) { s with toks:=tk }) :
  wpAny (model X.prog X.w) A (call (.builtin "isinstance") [u,c]) Q E s:=by
 cases ty with
 | non=>cases (show u = Bm from rx);exact Bp PySem.W.kitx_none I.kIn Cg e (fun z=>nomatch z) h
 | bl y=>cases (show u = EX y from rx);exact Bp PySem.W.kitx_bool I.kIn Cg e (fun z=>nomatch z) h
 | int i=>obtain ⟨t,q⟩:=(show ∃ t,u = Dn i t from rx);cases q;exact Bp PySem.W.kitx_int I.kIn Cg e (fun z=>nomatch z) h
 | str y=>obtain ⟨t,q⟩:=(show ∃ t,u = Value.str y t from rx);cases q;exact Bp PySem.W.kitx_str I.kIn Cg e (fun z=>nomatch z) h
 | flt y=>obtain ⟨t,q⟩:=(show ∃ t,u = Value.float y t from rx);cases q;exact Bp PySem.W.kitx_float I.kIn Cg e (fun z=>nomatch z) h
 | @lst a xs ea =>
  cases (show u = Ap a from rx)
  obtain ⟨_,_,n,_,h1⟩:=(show bW X.prog X.w H s.heap a (.lst xs) from I.hok a _ ea)
  exact Bp PySem.W.kitx_list I.kIn ⟨_,h1,rfl⟩ e (fun z=>nomatch z) h
 | @frz a ob xs ea =>
  cases (show u = Ap a from rx)
  obtain ⟨_,_,_,n,_,h1⟩:=(show bW X.prog X.w H s.heap a (.frz ob (.lst xs)) from I.hok a _ ea)
  exact Bp PySem.W.kitx_list I.kIn ⟨_,h1,rfl⟩ e (fun z=>nomatch z) h
 | @tup a xs ea =>
  cases (show u = Ap a from rx)
  obtain ⟨_,_,_,p⟩:=(show bW X.prog X.w H s.heap a (.tup xs) from I.hok a _ ea)
  obtain ⟨o,h1,h2,_⟩:=p
  exact Bp PySem.W.kitx_tuple I.kIn ⟨o,h1,h2⟩ e (fun z=>nomatch z) h
 | @dK a kvs ea =>
  cases (show u = Ap a from rx)
  obtain ⟨_,_,vs,_,p⟩:=(show bW X.prog X.w H s.heap a (.dK kvs) from I.hok a _ ea)
  obtain ⟨o,es,ep,h1,h2,_⟩:=p
  exact Bp PySem.W.kitx_dict I.kIn ⟨o,h1,h2.1⟩ e (fun z=>nomatch z) h
 | @dT a kvs ea =>
  cases (show u = Ap a from rx)
  obtain ⟨_,_,xs,_,o,es,ep,h1,h2,_⟩:=(show bW X.prog X.w H s.heap a (.dT kvs) from I.hok a _ ea)
  exact Bp PySem.W.kitx_dict I.kIn ⟨o,h1,h2.1⟩ e (fun z=>nomatch z) h
 | @ins a C dx fs ea cl ha hn htk hm =>
  cases (show u = Ap a from rx)
  obtain ⟨mA,O,_⟩:=uM I.hok ea
  obtain ⟨od,J,_⟩:=O.look
  exact Bp (PySem.W.kitx_own (cl.get _) cl.hd ha hn htk hm) I.kIn J e (fun z=>nomatch z) h
end
end L2
namespace L2
open PySem PySem.Spec PyProof.Rows
structure Room (k:Nat) (A:Around):Prop where
 hd:A.handled = none
 dp:A.depth + 3 * k + 5 < recursionLimit
 un:A.units + 16 * k + 200 < cLine
theorem Room.mono {j k:Nat} {A:Around} (r:Room k A) (h:j ≤ k):Room j A:=⟨r.hd,by have:=r.dp;omega,by have:=r.un;omega⟩
theorem Room.deeper {k:Nat} {A:Around} (r:Room (k + 1) A) (env:Env):Room k (A.deeper env) :=
 ⟨r.hd,by have:=r.dp;show A.depth + 1 + 3 * k + 5 < _;omega,by have:=r.un;show A.units + 3 + 16 * k + 200 < _;omega⟩
theorem Room.in1 {k:Nat} {A:Around} (r:Room (k + 1) A):Room k A.in1 :=
 ⟨r.hd,by have:=r.dp;show A.depth + 3 * k + 5 < _;omega,by have:=r.un;show A.units + 1 + 16 * k + 200 < _;omega⟩
theorem aFC {A:Around} {C:Addr} {us:List Value} {kw:List (Str × Value)}:(A.under (.builtin "type.__call__" ⟨.ref C :: us,kw⟩)).depth = A.depth + 1:=by
 first | rfl | simp [Around.under,Code.weight,Code.isCreation,Code.isGuard,Code.isCaller,Code.frames,Code.isFrame,guardIds]
theorem aFB {A:Around} {C:Addr} {us:List Value} {kw:List (Str × Value)}:(A.under (.builtin "type.__call__" ⟨.ref C :: us,kw⟩)).units = A.units + 1:=by
 first | rfl | simp [Around.under,Code.cUnits,Code.frames,Code.isFrame]
theorem Room.make {k:Nat} {A:Around} (r:Room (k + 1) A) (C:Addr) (us:List Value) (kw:List (Str × Value)):Room k (A.under (.builtin "type.__call__" ⟨.ref C :: us,kw⟩)) :=
 ⟨r.hd,by have:=r.dp;rw [aFC];omega,by have:=r.un;rw [aFB];omega⟩
theorem Room.depth {k:Nat} {A:Around} (r:Room k A):A.depth < recursionLimit:=by have:=r.dp;omega
theorem Room.units {k:Nat} {A:Around} (r:Room k A):A.units + 64 < cLine:=by have:=r.un;omega
def aIP:TA:=fun _ H Q=>Q [] H
def aBZ (ta:TE) (tr:TA):TA:=fun σ H Q=>ta σ H fun x H1=>tr σ H1 fun xs H2=>Q (x :: xs) H2
section
variable {X:Cx} {e:Expr} {es:List Expr} {te:TE} {t:TA} {pos:Pos}
theorem aD:PA X [] aIP:=fun _ _ _ _ H Q I h=>Calls.spliced_nil ⟨[],H,I,.nil,h⟩
theorem aA (ha:PE X e te) (hr:PA X es t) (hs:Av (e :: es) X.env = (false,eval e X.env) :: Av es X.env:=by rfl):PA X (e :: es) (aBZ te t):=by
 intro pos pins s σ H Q I h
 rw [hs]
 show wpAny _ _ (spliced ((false,eval e X.env) :: backTo pos (Av es X.env))) _ _ s
 refine Calls.spliced_cons (thn (ha pins s σ H _ I h) fun u s1 ⟨x,H1,I1,r1,q1⟩=>?_)
 exact thn (hr pos pins s1 σ H1 _ I1 q1) fun us s2 ⟨xs,H2,I2,r2,q2⟩=>⟨x :: xs,H2,I2,.cons r1 r2,q2⟩
def aUC (t:TA):TE:=fun σ H Q=>t σ H fun xs H1=>xs.length ≤ Ar ∧ ∀ p,H1 p = none → Q (.ref p) (upd H1 p (.tup xs))
def aWC (t:TA):TE:=fun σ H Q=>t σ H fun xs H1=>xs.length ≤ Ar ∧ ∀ p,H1 p = none → Q (.ref p) (upd H1 p (.lst xs))
theorem dS {x1} (h:PA X es t):PE X (.Tuple es x1 pos) (aUC t):=by
 intro pins s σ H Q I hq
 refine wpAny_Tuple_spliced (thn (h pos pins s σ H _ I hq) fun us s1 ⟨xs,H1,I1,r,z,q⟩=>⟨by rw [← r.length];exact z,?_⟩)
 have hf:H1 s1.heap.objs.size = none:=I1.hok.fresh (AQ _)
 refine ⟨.ref s1.heap.objs.size,upd H1 s1.heap.objs.size (.tup xs),I1.laid (t':=s1.toks) (fun b u e=>AE _ e) (AQ _) ?_,rfl,q _ hf⟩
 exact ⟨z,us,r,⟨_,Ad _ rfl,rfl,_,rfl,rfl⟩⟩
theorem dU (h:PA X es t):PE X (.List es pos) (aWC t):=by
 intro pins s σ H Q I hq
 refine wpAny_List_spliced (thn (h pos pins s σ H _ I hq) fun us s1 ⟨xs,H1,I1,r,z,q⟩=>⟨by rw [← r.length];exact z,?_⟩)
 have hf:H1 s1.heap.objs.size = none:=I1.hok.fresh (AQ _)
 refine ⟨.ref s1.heap.objs.size,upd H1 s1.heap.objs.size (.lst xs),I1.laid (t':=s1.toks) (fun b u e=>AE _ e) (AQ _) ?_,rfl,q _ hf⟩
 exact ⟨z,us,0,r,Ad _ rfl⟩
end
abbrev Sp:=List V → Hp → VK → XK → Prop
abbrev CXT:=List Env → Hp → Shared → XK → Value → Shared → Prop
structure Env0 (P:Program) (w:World) (K:AG) (mg:Str → Option Value) (base:Heap) (A:Around) (outer:List Env) (s:Shared) (H:Hp):Prop where
 frames:A.frames = some outer
 mod:Mod K mg base
 bs:∀ b o,base.get? b = some o → s.heap.get? b = some o ∧ H b = none
 bsz:base.objs.size ≤ s.heap.objs.size
 funs:s.heap.FunFrames base outer
 frf:∀ b ∈ frs outer,H b = none
 hok:HOk P w H s.heap
 bare:AllBare s.gens
def CE (outer:List Env) (P:Program) (w:World) (H:Hp) (s:Shared) (Q:VK) (u:Value) (s':Shared):Prop :=
 ∃ v H',s'.os = s.os ∧ AllBare s'.gens ∧ Un (frs outer) [] H H' s.heap s'.heap ∧ HOk P w H' s'.heap ∧ bJ v u ∧ Q v H'
def CR (CX:CXT) (outer:List Env) (P:Program) (w:World) (H:Hp) (s:Shared) (Q:VK) (E:XK) (r:Result) (s':Shared):Prop :=
 match r with
 | .ok (.ret u)=>CE outer P w H s Q u s'
 | .ok _=>False
 | .error e=>CX outer H s E e s'
structure FnOk (P:Program) (w:World) (K:AG) (mg:Str → Option Value) (base:Heap) (CX:CXT) (k:Nat) (f:Addr) (fd:Bv) (ps:List Str) (sp:Sp):Prop where
 len:∀ vs H Q E,sp vs H Q E → vs.length = ps.length
 run:∀ (A:Around) (outer:List Env) (s:Shared) (H:Hp) (args:Args) (us:List Value) (vs:List V) (Q:VK) (E:XK),Room k A → Env0 P w K mg base A outer s H → BindsTo s fd args (ps.zip us) → bK vs us → sp vs H Q E →
  codeAny (model P w) A (.call (.ref f) args) (CR CX outer P w H s Q E) s
theorem FnOk.imp {P:Program} {w:World} {K:AG} {mg:Str → Option Value} {base:Heap} {CX:CXT} {k:Nat} {f:Addr} {fd:Bv} {ps:List Str} {sp sp':Sp} (F:FnOk P w K mg base CX k f fd ps sp)
  (h:∀ vs H Q E,sp' vs H Q E → sp vs H Q E):FnOk P w K mg base CX k f fd ps sp' :=
 ⟨fun vs H Q E q=>F.len vs H Q E (h _ _ _ _ q),fun A outer s H args us vs Q E hr he hb hv hs=>F.run A outer s H args us vs Q E hr he hb hv (h _ _ _ _ hs)⟩
theorem Env0.make {P:Program} {w:World} {K:AG} {mg:Str → Option Value} {base:Heap} {A:Around} {outer:List Env} {s:Shared} {H:Hp} (e:Env0 P w K mg base A outer s H) (C:Addr) (us:List Value) (kw:List (Str × Value)) :
  Env0 P w K mg base (A.under (.builtin "type.__call__" ⟨.ref C :: us,kw⟩)) outer s H:=⟨by first | exact e.frames | (simpa [Around.under,Code.envs,Code.isFrame,pushEnvs] using e.frames),e.mod,e.bs,e.bsz,e.funs,e.frf,e.hok,e.bare⟩
theorem Env0.in1 {P:Program} {w:World} {K:AG} {mg:Str → Option Value} {base:Heap} {A:Around} {outer:List Env} {s:Shared} {H:Hp} (e:Env0 P w K mg base A outer s H) :
  Env0 P w K mg base A.in1 outer s H:=⟨e.frames,e.mod,e.bs,e.bsz,e.funs,e.frf,e.hok,e.bare⟩
section
variable {X:Cx} {pins:List (Addr × Obj)} {σ:St} {H:Hp} {s s':Shared}
theorem Inv.env0 (I:Inv X pins σ H s):Env0 X.prog X.w X.K X.mg X.base X.A X.stack s H :=
 ⟨I.ok.frames,I.ok.mod,I.bs,BI I.ok.bsz I.sz,I.stack,I.stkFree,I.hok,I.bare⟩
theorem Inv.after {Q:VK} {u:Value} (I:Inv X pins σ H s) (h:CE X.stack X.prog X.w H s Q u s'):EP X pins σ Q u s':=by
 obtain ⟨v,H',os,bare,un,hok,r,q⟩:=h
 obtain ⟨hh,g,d,t,os'⟩:=s'
 obtain rfl:os' = s.os:=os
 exact ⟨v,H',I.call (h':=hh) (g':=g) (d':=d) (t':=t) (ch:=[]) un hok bare (fun b z=>absurd z (by simp)),r,q⟩
end
def aRH (sp:Sp) (dvs:List V) (E:XK) (t:TA):TE:=fun σ H Q=>t σ H fun vs H1=>sp (vs ++ dvs) H1 Q E
def aGJ (C:Addr) (m:Str) (sp:Sp) (dvs:List V) (E:XK) (ta:TE) (t:TA):TE:=fun σ H Q=>ta σ H fun x H1=>∃ a dx fs,x = .ref a ∧ H1 a = some (.ins C dx fs) ∧ fs.lookup m = none ∧
 t σ H1 fun vs H2=>sp (x :: (vs ++ dvs)) H2 Q E
def aRF (C:Addr) (sp:Sp) (dvs:List V) (E:XK) (t:TA):TE:=fun σ H Q=>t σ H fun vs H1=>∀ x dx,H1 x = none → H1 dx = none → dx ≠ x →
 sp (.ref x :: (vs ++ dvs)) (upd (upd H1 dx (.own x)) x (.ins C dx [])) (fun v H2=>v = .non ∧ Q (.ref x) H2) E
def jZ (K:AG) (fd:Bv) (ps:List Str) (ds:List Value):Prop :=
 ∀ (s:Shared) (us:List Value),K.In s.heap → (us ++ ds).length = ps.length → BindsTo s fd ⟨us,[]⟩ (ps.zip (us ++ ds))
theorem jZ.all {K:AG} {fd:Bv} {ps:List Str} (h:∀ us:List Value,us.length = ps.length → Ee fd ⟨us,[]⟩ = pure (ps.zip us)):jZ K fd ps []:=fun s us _ hl=>by
 rw [Bz] at hl ⊢
 exact .of_eq (h us hl)
def pX (CX:CXT) (X:Cx) (E:XK):Prop:=∀ (pins:List (Addr × Obj)) (σ:St) (H:Hp) (s:Shared) (e:Value) (s':Shared),Inv X pins σ H s → CX X.stack H s E e s' → X.xe e s'
section
variable {X:Cx} {CX:CXT} {k:Nat} {f C:Addr} {fd:Bv} {ps:List Str} {sp:Sp} {dvs:List V} {ds:List Value} {E:XK} {x m:Str} {p pos apos:Pos} {e o:Expr} {es:List Expr} {ta:TE} {t:TA}
theorem aEQ {pins:List (Addr × Obj)} {σ:St} {H:Hp} {s:Shared} {Q:VK} {us:List Value} {vs:List V} (F:FnOk X.prog X.w X.K X.mg X.base CX k f fd ps sp) (hr:Room k X.A) (hb:jZ X.K fd ps ds) (hd:bK dvs ds) (hx:pX CX X E)
  (I:Inv X pins σ H s) (r:bK vs us) (h:sp (vs ++ dvs) H Q E):wpAny (model X.prog X.w) X.A (call (.ref f) us) (EP X pins σ Q) X.xe s:=by
 have r2:bK (vs ++ dvs) (us ++ ds):=r.append hd
 have hl:(us ++ ds).length = ps.length:=by rw [← r2.length];exact F.len _ _ _ _ h
 refine wpAny_call (Cy (F.run X.A X.stack s H ⟨us,[]⟩ (us ++ ds) (vs ++ dvs) Q E hr I.env0 (hb s us I.kIn hl) r2 h) fun r s' hq=>?_)
 cases r with
 | error e=>exact hx pins σ H s e s' I hq
 | ok fl =>
  cases fl with
  | ret u=>exact I.after hq
  | next=>exact Bc hq
  | brk=>exact Bc hq
  | cont=>exact Bc hq
theorem aPW (F:FnOk X.prog X.w X.K X.mg X.base CX k f fd ps sp) (hr:Room k X.A) (hg:Gl X x) (hm:X.mg x = some (.ref f)) (hk:AF X.K (.ref f) = true) (hb:jZ X.K fd ps ds) (hd:bK dvs ds) (hx:pX CX X E)
  (ha:PA X (e :: es) t) (hdb:(x == ("__debug__":Str)) = false:=by decide) (he:Av (e :: es) X.env = (false,eval e X.env) :: Av es X.env:=by rfl) (hpl:(backTo pos (Av es X.env)).any (·.1) = false:=by rfl) :
  PE X (.Call (.Name x p) (e :: es) [] pos) (aRH sp dvs E t):=by
 intro pins s σ H Q I h
 refine CT (aBF I hg hm ?_ hdb)
 refine EM (h₀:=X.base) I.ok.mod.kin hk (thn (ha pos pins s σ H _ I h) fun us s1 ⟨vs,H1,I1,r,q⟩=>⟨I1.kIn,?_⟩) he hpl
 exact aEQ F hr hb hd hx I1 r q
theorem aPS {pl:Sem Bool} (he:PE X o ta) (c:Cls X.K C) (hm:Meth X.K C m f) (F:FnOk X.prog X.w X.K X.mg X.base CX k f fd ps sp) (hr:Room k X.A) (hb:jZ X.K fd ps ds) (hd:bK dvs ds) (hx:pX CX X E) (ha:PA X (e :: es) t)
  (hst:Av (e :: es) X.env = (false,eval e X.env) :: Av es X.env:=by rfl) (hpl:(backTo pos (Av es X.env)).any (·.1) = false:=by rfl)
  (ht:eval (.Call (.Attribute o m apos) (e :: es) [] pos) X.env = (do
   let ov ← eval o X.env
   standAt apos.atName
   let (f,first) ← holding [ov] (Eg ov m pl)
   callWith pos f first (backTo pos (Av (e :: es) X.env)) (DW pos (Ck [] X.env))):=by rfl) :
  PE X (.Call (.Attribute o m apos) (e :: es) [] pos) (aGJ C m sp dvs E ta t):=by
 intro pins s σ H Q I h
 refine PySem.W.methodCall_KW (pl:=pl) (thn (he pins s σ H _ I h) fun u s1 ⟨x,H1,I1,rx,a,dx,fs,ex,ea,l,q⟩=>?_) ht
 subst ex
 obtain rfl:u = Ap a:=rx
 refine wJ I1 ea c hm l ?_
 refine EM (first:=[.ref a]) (h₀:=X.base) I.ok.mod.kin hm.kp (thn (ha pos pins s1 σ H1 _ I1 q) fun us s2 ⟨vs,H2,I2,r,q2⟩=>⟨I2.kIn,?_⟩) hst hpl
 exact aEQ (us:=.ref a :: us) (vs:=.ref a :: vs) F hr hb hd hx I2 (.cons rfl r) q2
theorem aMH {pl:Sem Bool} (he:PE X o ta) (c:Cls X.K C) (hm:Meth X.K C m f) (F:FnOk X.prog X.w X.K X.mg X.base CX k f fd ps sp) (hr:Room k X.A) (hb:jZ X.K fd ps ds) (hd:bK dvs ds) (hx:pX CX X E)
  (ht:eval (.Call (.Attribute o m apos) [] [] pos) X.env = (do
   let ov ← eval o X.env
   standAt apos.atName
   let (f,first) ← holding [ov] (Eg ov m pl)
   callWith pos f first (backTo pos (Av [] X.env)) (DW pos (Ck [] X.env))):=by rfl) :
  PE X (.Call (.Attribute o m apos) [] [] pos) (aGJ C m sp dvs E ta aIP):=by
 intro pins s σ H Q I h
 refine PySem.W.methodCall_KW (pl:=pl) (thn (he pins s σ H _ I h) fun u s1 ⟨x,H1,I1,rx,a,dx,fs,ex,ea,l,q⟩=>?_) ht
 subst ex
 obtain rfl:u = Ap a:=rx
 refine wJ I1 ea c hm l ?_
 exact PySem.W.callWith_K0 (first:=[.ref a]) I1.kIn hm.kp (aEQ (us:=[.ref a]) (vs:=[.ref a]) F hr hb hd hx I1 (.cons rfl .nil) q)
structure Mk (K:AG) (C f:Addr):Prop where
 makes:Dp K C = true
 init:At K (.ref C) "__init__" = some (some (.ref f))
 fn:Bi K (.ref f) = true
 kp:AF K (.ref C) = true
theorem aLO {pins:List (Addr × Obj)} {σ:St} {H:Hp} {s:Shared} {Q:VK} {us:List Value} {vs:List V} (M:Mk X.K C f) (F:FnOk X.prog X.w X.K X.mg X.base CX k f fd ps sp) (hr:Room (k + 1) X.A) (hb:jZ X.K fd ps ds) (hd:bK dvs ds)
  (hx:pX CX X E) (I:Inv X pins σ H s) (r:bK vs us)
  (h:∀ x dx,H x = none → H dx = none → dx ≠ x → sp (.ref x :: (vs ++ dvs)) (upd (upd H dx (.own x)) x (.ins C dx [])) (fun v H2=>v = .non ∧ Q (.ref x) H2) E) :
  wpAny (model X.prog X.w) X.A (call (.ref C) us) (EP X pins σ Q) X.xe s:=by
 have hq:=h (s.heap.objs.size + 1) s.heap.objs.size (I.hok.fresh (Cr _)) (I.hok.fresh (AQ _)) (Ah (DP _))
 have I2:=Inv.made (C:=C) I
 have r2:bK (V.ref (s.heap.objs.size + 1) :: (vs ++ dvs)) (Ap (s.heap.objs.size + 1) :: (us ++ ds)):=.cons rfl (r.append hd)
 have hl:(Ap (s.heap.objs.size + 1) :: us ++ ds).length = ps.length:=by
  have e:=r2.length
  rw [F.len _ _ _ _ hq] at e
  exact e.symm
 refine wpAny_call (aMP (f:=f) I.kIn M.makes M.init (beq_iff_eq.mp M.fn) (Cy (F.run _ X.stack _ _ ⟨Ap (s.heap.objs.size + 1) :: us,[]⟩ (Ap (s.heap.objs.size + 1) :: (us ++ ds)) _ _ E (hr.make C us [])
  (I2.env0.make C us []) (hb _ (Ap (s.heap.objs.size + 1) :: us) I2.kIn hl) r2 hq) fun r s' hq'=>?_))
 cases r with
 | error e=>exact hx pins σ _ _ e s' I2 hq'
 | ok fl =>
  cases fl with
  | ret u =>
   obtain ⟨v,H',I3,rv,ev,q3⟩:=I2.after hq'
   subst ev
   exact ⟨rv,⟨V.ref (s.heap.objs.size + 1),H',I3,rfl,q3⟩⟩
  | next=>exact Bc hq'
  | brk=>exact Bc hq'
  | cont=>exact Bc hq'
theorem aPT (M:Mk X.K C f) (F:FnOk X.prog X.w X.K X.mg X.base CX k f fd ps sp) (hr:Room (k + 1) X.A) (hg:Gl X x) (hm:X.mg x = some (.ref C)) (hb:jZ X.K fd ps ds) (hd:bK dvs ds) (hx:pX CX X E)
  (ha:PA X (e :: es) t) (hdb:(x == ("__debug__":Str)) = false:=by decide) (he:Av (e :: es) X.env = (false,eval e X.env) :: Av es X.env:=by rfl) (hpl:(backTo pos (Av es X.env)).any (·.1) = false:=by rfl) :
  PE X (.Call (.Name x p) (e :: es) [] pos) (aRF C sp dvs E t):=by
 intro pins s σ H Q I h
 refine CT (aBF I hg hm ?_ hdb)
 refine EM (h₀:=X.base) I.ok.mod.kin M.kp (thn (ha pos pins s σ H _ I h) fun us s1 ⟨vs,H1,I1,r,q⟩=>⟨I1.kIn,?_⟩) he hpl
 exact aLO M F hr hb hd hx I1 r q
end
def PK (X:Cx) (kws:List Keyword) (t:TA):Prop :=
 ∀ (pos:Pos) (pins:List (Addr × Obj)) (s:Shared) (σ:St) (H:Hp) (Q:List V → Hp → Prop),Inv X pins σ H s → t σ H Q → wpAny (model X.prog X.w) X.A (evalAll ((DW pos (Ck kws X.env)).map (·.2))) (AP X pins σ Q) X.xe s
section
variable {X:Cx} {CX:CXT} {k:Nat} {f C:Addr} {fd:Bv} {ps ks:List Str} {sp:Sp} {E:XK} {x m:Str} {p pos apos kpos:Pos} {e o:Expr} {es:List Expr} {kws:List Keyword} {te ta:TE} {t tk:TA} {nm:Option Str}
theorem aSP:PK X [] aIP:=fun _ _ _ _ H Q I h=>wpAny_evalAll_nil ⟨[],H,I,.nil,h⟩
theorem aPQ (ha:PE X e te) (hr:PK X kws t):PK X (⟨nm,e,kpos⟩ :: kws) (aBZ te t):=by
 intro pos pins s σ H Q I h
 show wpAny _ _ (evalAll ((do let v ← eval e X.env;standAt pos;pure v) :: (DW pos (Ck kws X.env)).map (·.2))) _ _ s
 refine wpAny_evalAll_cons (AD (thn (ha pins s σ H _ I h) fun u s1 ⟨x,H1,I1,r1,q1⟩=>AD (Er (AT ?_))))
 exact thn (hr pos pins s1 σ H1 _ I1 q1) fun us s2 ⟨xs,H2,I2,r2,q2⟩=>⟨x :: xs,H2,I2,.cons r1 r2,q2⟩
structure KBinds (K:AG) (fd:Bv) (ps ks:List Str) (g:List Value → List Value → List Value) (gV:List V → List V → List V):Prop where
 to:∀ (s:Shared) (us ws:List Value),K.In s.heap → (g us ws).length = ps.length → BindsTo s fd ⟨us,ks.zip ws⟩ (ps.zip (g us ws))
 rel:∀ {vs:List V} {us:List Value} {zs:List V} {ws:List Value},bK vs us → bK zs ws → bK (gV vs zs) (g us ws)
variable {g:List Value → List Value → List Value} {gV:List V → List V → List V}
end
structure FnScope (N P:List Str) (sc:Scope):Prop where
 kind:sc.kind = .function
 co:sc.isCoroutine = false
 gen:sc.isGenerator = false
 nd:N.Nodup
 pre:N.take P.length = P
 par:∀ x ∈ P,sc.names.lookup x = some .local ∨ sc.names.lookup x = some .cell
 nofree:∀ y ∈ sc.names,y.2 ≠ .free
theorem zP {kindOf:Str → Option BE} {x:Str}:∀ {binds:List (Str × Value)} {m:Str → Option Value},(∀ v,(x,v) ∉ binds) → bindL kindOf binds m x = m x
 | [],_,_=>rfl
 | (n,v) :: r,m,h=>by
  unfold bindL
  rw [zP fun w hw=>h w (AO _ hw)]
  split
  ·have:x ≠ n:=by rintro rfl;exact h v AU
   simp [this]
  ·rfl
theorem zR {kindOf:Str → Option BE} {x:Str}:∀ {binds:List (Str × Value)} {m:Str → Option Value},(∀ v,(x,v) ∉ binds) → bindC kindOf binds m x = m x
 | [],_,_=>rfl
 | (n,v) :: r,m,h=>by
  unfold bindC
  rw [zR fun w hw=>h w (AO _ hw)]
  split
  ·rfl
  ·have:x ≠ n:=by rintro rfl;exact h v AU
   simp [this]
theorem zQ {kindOf:Str → Option BE} {x:Str} {v:Value}:∀ {P:List Str} {vs:List Value} {i:Nat} {m:Str → Option Value},P.Nodup → P[i]? = some x → vs[i]? = some v → kindOf x = some .local →
  bindL kindOf (P.zip vs) m x = some v
 | [],_,_,_,_,h,_,_=>by simp at h
 | _ :: _,[],_,_,_,_,h,_=>by simp at h
 | p :: P,w :: vs,0,m,nd,h1,h2,hk=>by
  simp at h1 h2;subst h1;subst h2
  show bindL kindOf ((p,w) :: P.zip vs) m p = _
  unfold bindL
  rw [zP fun v hv=>(Ak.mp nd).1 (EB hv).1,if_pos hk]
  simp
 | p :: P,w :: vs,i + 1,m,nd,h1,h2,hk=>by
  show bindL kindOf ((p,w) :: P.zip vs) m x = _
  unfold bindL
  exact zQ (i:=i) (Ak.mp nd).2 (by simpa using h1) (by simpa using h2) hk
theorem zS {kindOf:Str → Option BE} {x:Str} {v:Value}:∀ {P:List Str} {vs:List Value} {i:Nat} {m:Str → Option Value},P.Nodup → P[i]? = some x → vs[i]? = some v → kindOf x ≠ some .local →
  bindC kindOf (P.zip vs) m x = some v
 | [],_,_,_,_,h,_,_=>by simp at h
 | _ :: _,[],_,_,_,_,h,_=>by simp at h
 | p :: P,w :: vs,0,m,nd,h1,h2,hk=>by
  simp at h1 h2;subst h1;subst h2
  show bindC kindOf ((p,w) :: P.zip vs) m p = _
  unfold bindC
  rw [zR fun v hv=>(Ak.mp nd).1 (EB hv).1,if_neg hk]
  simp
 | p :: P,w :: vs,i + 1,m,nd,h1,h2,hk=>by
  show bindC kindOf ((p,w) :: P.zip vs) m x = _
  unfold bindC
  exact zS (i:=i) (Ak.mp nd).2 (by simpa using h1) (by simpa using h2) hk
def start (N:List Str) (vs:List V):St:=vs.map some ++ List.replicate (N.length - vs.length) none
def mJ (CX:CXT) (P:Program) (w:World) (K:AG) (mg:Str → Option Value) (base:Heap) (N:List Str) (qual:Str) (scope:Scope) (f:Addr) (cd:Value) (A:Around) (outer:List Env) (s:Shared) (H:Hp) (E:XK):Cx where
 prog:=P
 w:=w
 K:=K
 mg:=mg
 base:=base
 A:=A.deeper (envOfC qual scope s.heap.objs.size f cd)
 N:=N
 s₀:=s
 H₀:=H
 env:=envOfC qual scope s.heap.objs.size f cd
 outer:=outer
 stack:=envOfC qual scope s.heap.objs.size f cd :: outer
 ex:=[]
 calm:=true
 fn:=fun _=>true
 pn:=[]
 xe:=fun e s'=>wpAny (model P w) (A.deeper (envOfC qual scope s.heap.objs.size f cd)) (leaving (envOfC qual scope s.heap.objs.size f cd) e) (fun _ s''=>CX outer H s E e s'') (fun e' s''=>CX outer H s E e' s'') s'
theorem aDV {sc:Scope} {n:Nat} {x:Str} (h:sc.names.lookup x = some .cell):∃ c,(cellsFrom n sc.names []).lookup x = some c:=by
 have q:=Do sc.names n [] (.inl h)
 exact Option.isSome_iff_exists.mp q
theorem yZ {CX:CXT} {P:Program} {w:World} {K:AG} {mg:Str → Option Value} {base:Heap} {N ps:List Str} {qual:Str} {scope:Scope} {f:Addr} {cd:Value} {A:Around} {outer:List Env} {s s1:Shared} {H:Hp} {E:XK} {us:List Value} {vs:List V}
  (S:FnScope N ps scope) (hd:A.handled = none) (e0:Env0 P w K mg base A outer s H) (hl:vs.length = ps.length) (r:bK vs us)
  (x:InCallC s s.heap.objs.size (bindL (envOfC qual scope s.heap.objs.size f cd).kindOf (ps.zip us) fun _=>none) (cellsFrom (s.heap.objs.size + 1) scope.names []) (bindC (envOfC qual scope s.heap.objs.size f cd).kindOf (ps.zip us) fun _=>none) s1) :
  Inv (mJ CX P w K mg base N qual scope f cd A outer s H E) [] (start N vs) H s1:=by
 have hpl:ps.length ≤ N.length:=by have:=congrArg Cz S.pre;rw [Ac] at this;omega
 obtain ⟨h1,tk,rfl,hk⟩:=x.done
 have noA:∀ b:Addr,b ∉ (mJ CX P w K mg base N qual scope f cd A outer s H E).ex:=fun b z=>absurd (show b ∈ ([]:List Addr) from z) (by simp)
 refine ⟨⟨e0.mod,S.kind,rfl,rfl,AQ _,fun y z c h1 h2=>?_,fun y hy=>?_,fun y c _ h=>?_,fun _=>hd,Around.frames_deeper e0.frames,.inr ⟨rfl,rfl⟩,fun b z=>absurd z (noA b),e0.bs,e0.bsz,fun b _ _=>noA b,fun b z=>absurd z (noA b),e0.funs,e0.frf⟩,
  rfl,e0.bare,Un.kept hk,⟨_,x.toInCall.ns,fun i y v h1 h2 h3=>?_⟩,fun y c h=>⟨_,x.cell y c h⟩,e0.hok.fresh (AQ _),fun y c h=>?_,fun p hp=>absurd (show p ∈ ([]:List (Addr × Obj)) from hp) (by simp),e0.hok.kept hk,?_⟩
 ·exact name_of_addr x.apart (Cw h1) (Cw h2)
 ·have hy:scope.names.lookup y = some .cell ∨ scope.names.lookup y = some .free:=hy
  rcases hy with hy | hy
  ·exact aDV hy
  ·exact absurd rfl (S.nofree _ (Cw hy))
 ·exact En (x.above y c (Cw h))
 ·have hi:i < vs.length:=by
   unfold start at h2
   by_cases hi:i < vs.length
   ·exact hi
   ·rw [CN (by simpa using hi)] at h2
    rw [List.getElem?_replicate] at h2
    split at h2 <;> cases h2
  have ha:vs[i]? = some v:=by
   unfold start at h2
   rw [Bd (by simpa using hi),AK] at h2
   cases e:vs[i]? with
   | none=>rw [e] at h2;cases h2
   | some a=>rw [e] at h2;cases h2;rfl
  obtain ⟨u,hu,rv⟩:=r.get ha
  have hp:ps[i]? = some y:=by
   rw [← S.pre,Bq (by omega)];exact h1
  have ndP:ps.Nodup:=by rw [← S.pre];exact S.nd.sublist (Eh _ _)
  refine ⟨u,rv,?_⟩
  rcases S.par y (AN hp) with k | k
  ·exact .inl ⟨k,zQ ndP hp hu k⟩
  ·obtain ⟨c,e⟩:=aDV (n:=s.heap.objs.size + 1) k
   refine .inr ⟨.inl k,c,e,?_⟩
   have q:=x.cell y c e
   rw [zS ndP hp hu (by show scope.names.lookup y ≠ _;rw [k];decide)] at q
   exact q
 ·exact e0.hok.fresh (En (x.above y c (Cw h)))
 ·unfold start
  show _ = N.length
  rw [Ai,AA,List.length_replicate]
  omega
theorem aRS {CX:CXT} {P:Program} {w:World} {K:AG} {mg:Str → Option Value} {base:Heap} {k:Nat} {f:Addr} {name qual:Str} {params:Dm} {body:List Stmt} {scope:Scope} {dV kV doc pm cdv ct oc:Value} {an od:Option Addr}
  {osl:Array (Option Value)} {N ps:List Str} {sp:Sp} (lk:K.lookup f = some ⟨oc,od,.func (AM name qual params body scope dV kV doc pm an cdv ct),osl⟩) (hcd:AI K cdv qual = true) (S:FnScope N ps scope)
  (len:∀ vs H Q E,sp vs H Q E → vs.length = ps.length)
  (hbody:∀ (A:Around) (outer:List Env) (s:Shared) (H:Hp) (vs:List V) (Q:VK) (E:XK),Room k (A.deeper (envOfC qual scope s.heap.objs.size f cdv)) → sp vs H Q E →
   ∃ t,PSs (mJ CX P w K mg base N qual scope f cdv A outer s H E) body t ∧ t { nx:=fun _ H'=>Q .non H',rt:=Q } (start N vs) H) :
  FnOk P w K mg base CX (k + 1) f (AM name qual params body scope dV kV doc pm an cdv ct) ps sp:=by
 refine ⟨len,fun A outer s H args us vs Q E hr e0 hb r hsp=>?_⟩
 have hl:=len _ _ _ _ hsp
 have KX:K.In s.heap:=e0.mod.kin.keeps fun b o e=>(e0.bs b o e).1
 have lim:s.heap.NoLimit:=e0.mod.nolimit.keeps fun b o e=>(e0.bs b o e).1
 have hkind:∀ y ∈ ps.zip us,scope.names.lookup y.1 = some .local ∨ (scope.names.lookup y.1 = some .cell ∧ ((cellsFrom (s.heap.objs.size + 1) scope.names []).lookup y.1).isSome = true):=fun ⟨n,v⟩ hy=>by
  rcases S.par n (EB hy).1 with q | q
  ·exact .inl q
  ·exact .inr ⟨q,Do _ _ _ (.inl q)⟩
 refine codeAny_call_function hr.depth (KX _ _ lk) rfl S.co S.gen rfl (PySem.W.codeRec_of KX hcd) (hb _ _ _ _ ?_)
 refine wpAny_newFunctionEnv_cells S.kind hkind fun env he s1 x=>?_
 subst he
 refine ⟨lim.keeps x.toInCall.keep,codeAny_func ?_⟩
 obtain ⟨t,ht,hq⟩:=hbody A outer s H vs Q E (hr.deeper _) hsp
 have I:Inv (mJ CX P w K mg base N qual scope f cdv A outer s H E) [] (start N vs) H s1:=yZ S hr.hd e0 hl r x
 refine BL (ht [] s1 (start N vs) H _ I hq) (fun fl s' hs=>?_) fun e s' hs=>hs
 have fin:∀ {σ':St} {H':Hp} {v:V} {u:Value},Inv (mJ CX P w K mg base N qual scope f cdv A outer s H E) [] σ' H' s' → bJ v u → Q v H' → CE outer P w H s Q u s' :=
  fun {σ' H' v u} J rv q=>⟨v,H',J.os,J.bare,J.base,J.hok,rv,q⟩
 cases fl with
 | ret u =>
  obtain ⟨v,σ',H',J,rv,q⟩:=hs
  exact fin J rv q
 | next =>
  obtain ⟨σ',H',J,q⟩:=hs
  exact fin (v:=V.non) (u:=Bm) J rfl q
 | brk =>
  obtain ⟨_,_,_,q⟩:=hs
  exact Bc q
 | cont =>
  obtain ⟨_,_,_,q⟩:=hs
  exact Bc q
end L2
namespace L2
open PySem PySem.Spec PyProof.Rows
section
variable {X:Cx} {x:Str} {p pos:Pos} {e:Expr} {es:List Expr} {t:TA} {id T:String} {r:List V → Hp → VK → Prop}
def tCB (r:List V → Hp → VK → Prop) (t:TA):TE:=fun σ H Q=>t σ H fun vs H1=>r vs H1 Q
theorem aU (hc:fI X (.builtin id) r) (hg:Gl X x) (hm:X.mg x = none) (hv:BS x = some (.builtin id)) (ha:PA X (e :: es) t) (hn:x ≠ "__name__":=by decide) (hdb:(x == ("__debug__":Str)) = false:=by decide)
  (he:Av (e :: es) X.env = (false,eval e X.env) :: Av es X.env:=by rfl) (hpl:(backTo pos (Av es X.env)).any (·.1) = false:=by rfl):PE X (.Call (.Name x p) (e :: es) [] pos) (tCB r t):=by
 intro pins s σ H Q I h
 refine CT (nJ I hg hm hv ?_ hn hdb)
 exact PyProof.Rows.callWith_builtin1 (thn (ha pos pins s σ H _ I h) fun us s1 ⟨vs,H1,I1,r1,q1⟩=>hc pins s1 σ H1 vs us Q I1 r1 q1) he hpl
theorem cJ (hc:fI X (.type T) r) (hg:Gl X x) (hm:X.mg x = none) (hv:BS x = some (.type T)) (ha:PA X (e :: es) t) (hn:x ≠ "__name__":=by decide) (hdb:(x == ("__debug__":Str)) = false:=by decide)
  (he:Av (e :: es) X.env = (false,eval e X.env) :: Av es X.env:=by rfl) (hpl:(backTo pos (Av es X.env)).any (·.1) = false:=by rfl):PE X (.Call (.Name x p) (e :: es) [] pos) (tCB r t):=by
 intro pins s σ H Q I h
 refine CT (nJ I hg hm hv ?_ hn hdb)
 exact CD (thn (ha pos pins s σ H _ I h) fun us s1 ⟨vs,H1,I1,r1,q1⟩=>hc pins s1 σ H1 vs us Q I1 r1 q1) he hpl
end
end L2
namespace L2
open PySem PySem.Spec PyProof.Rows
section
variable {κ:Type} [DecidableEq κ]
def eU (kvs:List (κ × V)) (k:κ):Option V:=(kvs.find? fun kv=>decide (kv.1 = k)).map (·.2)
def oQ (kvs:List (κ × V)) (k:κ) (v:V):List (κ × V) :=
 if (kvs.any fun kv=>decide (kv.1 = k)) = true then kvs.map (fun kv=>if kv.1 = k then (kv.1,v) else kv) else kvs ++ [(k,v)]
def dropK (kvs:List (κ × V)) (k:κ):List (κ × V):=kvs.filter fun kv=>decide (kv.1 ≠ k)
theorem jG {p:κ × V} {r:List (κ × V)} {k:κ} (e:p.1 = k):eU (p :: r) k = some p.2:=by simp [eU,Bs,e]
theorem jH {p:κ × V} {r:List (κ × V)} {k:κ} (e:¬ p.1 = k):eU (p :: r) k = eU r k:=by simp [eU,Bs,e]
theorem mL (k:κ):∀ kvs:List (κ × V),(kvs.any fun kv=>decide (kv.1 = k)) = (eU kvs k).isSome
 | []=>rfl
 | p :: r=>by
  rw [Dk]
  by_cases e:p.1 = k
  ·simp only [jG e,decide_eq_true e,Bool.true_or,Option.isSome_some]
  ·rw [jH e,decide_eq_false e,Bool.false_or];exact mL k r
theorem tJ (kvs:List (κ × V)) (k:κ) (v:V):(oQ kvs k v).length ≤ kvs.length + 1:=by
 unfold oQ
 split
 ·rw [AA];omega
 ·rw [Ai,Ag,ED];omega
theorem aLY {kvs:List (κ × V)} {k:κ} (v:V) (h:eU kvs k = none):oQ kvs k v = kvs ++ [(k,v)]:=by
 unfold oQ
 rw [mL,h]
 exact if_neg (by decide)
theorem oB.isSome_eq {o:Option V} {u:Option Value} (r:oB o u):o.isSome = u.isSome:=by
 cases o with
 | none=>cases u with
  | none=>rfl
  | some _=>exact (show False from r).elim
 | some _=>cases u with
  | none=>exact (show False from r).elim
  | some _=>rfl
theorem KV.val {kvs:List (κ × V)} {vs:List (κ × Value)} (r:KV kvs vs) (k:κ):oB (eU kvs k) (valueAt vs k):=by
 unfold KV at r
 induction r with
 | nil=>exact Cg
 | @cons p q ps qs h t ih =>
  obtain ⟨h1,h2⟩:=h
  by_cases e:p.1 = k
  ·have e':q.1 = k:=h1.symm.trans e
   have b:valueAt (q :: qs) k = some q.2:=by simp [valueAt,Bs,e']
   rw [jG e,b];exact h2
  ·have e':¬ q.1 = k:=fun z=>e (h1.trans z)
   have b:valueAt (q :: qs) k = valueAt qs k:=by simp [valueAt,Bs,e']
   rw [jH e,b];exact ih
theorem KV.any {kvs:List (κ × V)} {vs:List (κ × Value)} (r:KV kvs vs) (k:κ):(kvs.any fun kv=>decide (kv.1 = k)) = vs.any fun kv=>decide (kv.1 = k):=by
 unfold KV at r
 induction r with
 | nil=>rfl
 | cons h t ih=>rw [Dk,Dk,ih,h.1]
theorem KV.repl {kvs:List (κ × V)} {vs:List (κ × Value)} (r:KV kvs vs) (k:κ) {y:V} {u:Value} (ry:bJ y u) :
  KV (kvs.map fun kv=>if kv.1 = k then (kv.1,y) else kv) (vs.map fun kv=>if kv.1 = k then (kv.1,u) else kv):=by
 unfold KV at r ⊢
 induction r with
 | nil=>exact .nil
 | @cons p q ps qs h t ih =>
  rw [AY,AY]
  refine .cons ?_ ih
  obtain ⟨h1,h2⟩:=h
  by_cases e:p.1 = k
  ·rw [if_pos e,if_pos (h1.symm.trans e)];exact ⟨h1,ry⟩
  ·rw [if_neg e,if_neg (fun z=>e (h1.trans z))];exact ⟨h1,h2⟩
theorem KV.put {kvs:List (κ × V)} {vs:List (κ × Value)} (r:KV kvs vs) (k:κ) {y:V} {u:Value} (ry:bJ y u):KV (oQ kvs k y) (stored vs k u):=by
 unfold oQ stored
 rw [r.any k]
 by_cases e:(vs.any fun kv=>decide (kv.1 = k)) = true
 ·rw [if_pos e,if_pos e];exact r.repl k ry
 ·rw [if_neg e,if_neg e];exact Dd r ⟨rfl,ry⟩
theorem KV.keys {kvs:List (κ × V)} {vs:List (κ × Value)} (r:KV kvs vs):kvs.map (·.1) = vs.map (·.1):=by
 unfold KV at r
 induction r with
 | nil=>rfl
 | cons h t ih=>rw [AY,AY,ih,h.1]
theorem KV.length {kvs:List (κ × V)} {vs:List (κ × Value)} (r:KV kvs vs):kvs.length = vs.length:=CH r
end
theorem aDJ {P:Program} {w:World} {k:Key} {u:Value} (r:bJ (kV k) u):(aS P w).is k u = true:=by
 cases k with
 | inl i=>obtain ⟨t,e⟩:=(show ∃ t,u = Dn i t from r);subst e;exact aDE P w i t
 | inr x=>obtain ⟨t,e⟩:=(show ∃ t,u = Value.str x t from r);subst e;exact aDD P w x t
theorem yY {P:Program} {w:World}:∀ {ks:List Key} {us:List Value},bK (ks.map kV) us → ItemsAre (aS P w) ks us
 | [],_,r=>by rw [Ch] at r;cases r;exact .nil
 | k :: ks,_,r=>by
  rw [AY] at r
  cases r with
  | cons h t=>exact .cons (aDJ h) (yY t)
abbrev KT (H:Hp):List (List Key × V) → List (List Key × Addr × Value) → Prop:=Paired fun p q=>p.1 = q.1 ∧ H q.2.1 = some (.tup (p.1.map kV)) ∧ bJ p.2 q.2.2
theorem KT.val {H:Hp} {kvs:List (List Key × V)} {xs:List (List Key × Addr × Value)} (r:KT H kvs xs) (k:List Key):oB (eU kvs k) ((atKey xs k).map (·.2)):=by
 induction r with
 | nil=>exact Cg
 | @cons p q ps qs h t ih =>
  obtain ⟨h1,_,h2⟩:=h
  by_cases e:p.1 = k
  ·have e':q.1 = k:=h1.symm.trans e
   have b:atKey (q :: qs) k = some q.2:=by simp [atKey,Bs,e']
   rw [jG e,b];exact h2
  ·have e':¬ q.1 = k:=fun z=>e (h1.trans z)
   have b:atKey (q :: qs) k = atKey qs k:=by simp [atKey,Bs,e']
   rw [jH e,b];exact ih
theorem KT.repl {H:Hp} {kvs:List (List Key × V)} {xs:List (List Key × Addr × Value)} (r:KT H kvs xs) (k:List Key) {y:V} {u:Value} (ry:bJ y u) :
  KT H (kvs.map fun kv=>if kv.1 = k then (kv.1,y) else kv) (xs.map (putAt k u)):=by
 induction r with
 | nil=>exact .nil
 | @cons p q ps qs h t ih =>
  rw [AY,AY]
  refine .cons ?_ ih
  obtain ⟨h1,h2,h3⟩:=h
  unfold putAt
  by_cases e:p.1 = k
  ·rw [if_pos e,if_pos (h1.symm.trans e)];exact ⟨h1,h2,ry⟩
  ·rw [if_neg e,if_neg (fun z=>e (h1.trans z))];exact ⟨h1,h2,h3⟩
theorem KT.put {H:Hp} {kvs:List (List Key × V)} {xs:List (List Key × Addr × Value)} (r:KT H kvs xs) (k:List Key) {b:Addr} {y:V} {u:Value} (hb:H b = some (.tup (k.map kV))) (ry:bJ y u) :
  KT H (oQ kvs k y) (storedH xs k b u):=by
 have e:(kvs.any fun kv=>decide (kv.1 = k)) = (atKey xs k).isSome:=by
  rw [mL,(r.val k).isSome_eq,Ea]
 unfold oQ storedH
 rw [e]
 by_cases q:(atKey xs k).isSome = true
 ·rw [if_pos q,if_pos q];exact r.repl k ry
 ·rw [if_neg q,if_neg q];exact Dd r ⟨rfl,hb,ry⟩
theorem KT.keeps {H H':Hp} {kvs:List (List Key × V)} {xs:List (List Key × Addr × Value)} (r:KT H kvs xs) (ht:∀ b ys,H b = some (.tup ys) → H' b = some (.tup ys)):KT H' kvs xs :=
 Paired.mapP r fun _ _ z=>⟨z.1,ht _ _ z.2.1,z.2.2⟩
section
variable {P:Program} {w:World} {H:Hp} {h:Heap} {a:Addr}
theorem aRN {u:HO} (ok:HOk P w H h) (e:Rd H a u):bW P w H h a u:=e.ok ok
theorem aDQ {kvs:List (Key × V)} (ok:HOk P w H h) (e:Rd H a (.dK kvs)):kvs.length ≤ Ar ∧ (a == DI) = false ∧ ∃ vs,KV kvs vs ∧ h.DictOf (aS P w) a vs :=
 show bW P w H h a (.dK kvs) from aRN ok e
theorem aVR {kvs:List (Key × V)} (ok:HOk P w H h) (e:H a = some (.dK kvs)):kvs.length ≤ Ar ∧ (a == DI) = false ∧ ∃ vs,KV kvs vs ∧ h.DictOf (aS P w) a vs:=aDQ ok (.inl e)
theorem rW {ks:List Key} (ok:HOk P w H h) (e:H a = some (.tup (ks.map kV))):(CS (aS P w)).is h ks a:=by
 obtain ⟨_,its,r,o,h1,h2,n,h3,_⟩:=(show bW P w H h a (.tup (ks.map kV)) from ok a _ e)
 exact ⟨o,its.toArray,n,h1,h2,h3,by simpa using yY r⟩
theorem aDP {kvs:List (List Key × V)} (ok:HOk P w H h) (e:Rd H a (.dT kvs)):kvs.length ≤ Ar ∧ (a == DI) = false ∧
  ∃ xs,KT H kvs xs ∧ h.DictOfH (CS (aS P w)) a xs:=by
 obtain ⟨z,y,xs,r,o,es,ep,h1,h2,h3,h4,h5⟩:=(show bW P w H h a (.dT kvs) from aRN ok e)
 refine ⟨z,y,xs,r,o,es,ep,h1,h2,h3,h4,fun x hx=>?_,h5⟩
 have all:∀ {l:List (List Key × V)} {m:List (List Key × Addr × Value)},KT H l m → ∀ x ∈ m,(CS (aS P w)).is h x.1 x.2.1:=by
  intro l m q
  induction q with
  | nil=>intro x hx;exact nomatch hx
  | @cons p q ps qs hq t ih =>
   intro x hx
   rcases Af.mp hx with e | hx
   ·subst e
    exact rW ok (by rw [← hq.1];exact hq.2.1)
   ·exact ih x hx
 exact all r x hx
theorem aVP {kvs:List (List Key × V)} (ok:HOk P w H h) (e:H a = some (.dT kvs)):kvs.length ≤ Ar ∧ (a == DI) = false ∧
  ∃ xs,KT H kvs xs ∧ h.DictOfH (CS (aS P w)) a xs:=aDP ok (.inl e)
end
def sQ (H:Hp) (a:Addr) (y:V) (r:Option V):Prop :=
 (∃ kvs k,Rd H a (.dK kvs) ∧ y = kV k ∧ r = eU kvs k) ∨ ∃ kvs k b,Rd H a (.dT kvs) ∧ y = .ref b ∧ H b = some (.tup (k.map kV)) ∧ r = eU kvs k
def aUB (H:Hp) (a:Addr) (y v:V) (H':Hp):Prop :=
 (∃ kvs k,H a = some (.dK kvs) ∧ y = kV k ∧ kvs.length < Ar ∧ H' = upd H a (.dK (oQ kvs k v))) ∨
 ∃ kvs k b,H a = some (.dT kvs) ∧ y = .ref b ∧ H b = some (.tup (k.map kV)) ∧ kvs.length < Ar ∧ H' = upd H a (.dT (oQ kvs k v))
theorem sQ.k {H:Hp} {a:Addr} {kvs:List (Key × V)} {k:Key} (e:H a = some (.dK kvs)):sQ H a (kV k) (eU kvs k):=.inl ⟨kvs,k,.inl e,rfl,rfl⟩
section
variable {X:Cx} {pins:List (Addr × Obj)} {σ:St} {H:Hp} {s:Shared} {a:Addr} {y v:V} {u r:Value} {o:Option V} {A:Around} {E:Value → Shared → Prop}
theorem Inv.big (I:Inv X pins σ H s):DI < s.heap.objs.size:=by
 have h:AJ < s.heap.objs.size:=(I.mod.glob.keeps I.bk).lt
 exact DY (by decide) h
theorem zF {Q:Value → Shared → Prop} (hu:A.units + 1 < cLine) (I:Inv X pins σ H s) (g:sQ H a y (some v)) (ry:bJ y u) (h:∀ w' s',Inv X pins σ H s' → bJ v w' → Q w' s') :
  wpAny (model X.prog X.w) A (getItem (.ref a) u) Q E s:=by
 rcases g with ⟨kvs,k,e,ey,l⟩ | ⟨kvs,k,b,e,ey,eb,l⟩
 ·subst ey
  obtain ⟨z,hd,vs,rel,dd⟩:=aDQ I.hok e
  obtain ⟨w',hw,rw'⟩:=oB.some_of (v:=v) (o:=valueAt vs k) (by rw [l];exact rel.val k)
  exact wpAny_getItem_of (aDJ ry) dd.mapOf hw (h w' _ (I.tok _) rw')
 ·subst ey
  cases (show u = Ap b from ry)
  obtain ⟨z,hd,xs,rel,dd⟩:=aDP I.hok e
  obtain ⟨w',hw,rw'⟩:=oB.some_of (v:=v) (o:=(atKey xs k).map (·.2)) (by rw [l];exact rel.val k)
  obtain ⟨p,hp,hp2⟩:=Aq.mp hw
  refine wpAny_getItem_heap (DH hu) (rW I.hok eb) dd hp ?_
  rw [hp2]
  exact h w' _ (I.tok _) rw'
theorem aXB {Q:Value → Shared → Prop} (hu:A.units + 1 < cLine) (I:Inv X pins σ H s) (g:sQ H a y o) (ry:bJ y u) (h:∀ s',Inv X pins σ H s' → Q (.bool o.isSome) s') :
  wpAny (model X.prog X.w) A (BW .In u (.ref a)) Q E s:=by
 rcases g with ⟨kvs,k,e,ey,l⟩ | ⟨kvs,k,b,e,ey,eb,l⟩
 ·subst ey
  obtain ⟨z,hd,vs,rel,dd⟩:=aDQ I.hok e
  refine wpAny_in_of (aDJ ry) hd dd.mapOf ?_
  rw [← (rel.val k).isSome_eq,← l]
  exact h _ (I.tok _)
 ·subst ey
  cases (show u = Ap b from ry)
  obtain ⟨z,hd,xs,rel,dd⟩:=aDP I.hok e
  refine wpAny_in_heap (DH hu) (rW I.hok eb) hd dd ?_
  have q:=(rel.val k).isSome_eq
  rw [Ea] at q
  rw [← q,← l]
  exact h _ (I.tok _)
theorem aQT {Q:Value → Shared → Prop} (hu:A.units + 1 < cLine) (I:Inv X pins σ H s) (g:sQ H a y o) (ry:bJ y u) (h:∀ s',Inv X pins σ H s' → Q (.bool (!o.isSome)) s') :
  wpAny (model X.prog X.w) A (BW .NotIn u (.ref a)) Q E s:=by
 rcases g with ⟨kvs,k,e,ey,l⟩ | ⟨kvs,k,b,e,ey,eb,l⟩
 ·subst ey
  obtain ⟨z,hd,vs,rel,dd⟩:=aDQ I.hok e
  refine wpAny_notIn_of (aDJ ry) hd dd.mapOf ?_
  rw [← (rel.val k).isSome_eq,← l]
  exact h _ (I.tok _)
 ·subst ey
  cases (show u = Ap b from ry)
  obtain ⟨z,hd,xs,rel,dd⟩:=aDP I.hok e
  refine wpAny_notIn_heap (DH hu) (rW I.hok eb) hd dd ?_
  have q:=(rel.val k).isSome_eq
  rw [Ea] at q
  rw [← q,← l]
  exact h _ (I.tok _)
theorem aIB {h':Heap} {t':Nat} {ob:HO} (I:Inv X pins σ H s) (mu:Mut (H a)) (hs:DG a s.heap h') (he:∃ q,h'.get? a = some q) (new:bW X.prog X.w (upd H a ob) h' a ob) :
  Inv X pins σ (upd H a ob) { s with heap:=h',toks:=t' } :=
 I.write (x:=a) (e:=a) mu (.inl rfl) (fun b q hb z=>(hs.2 b hb).trans z) he new
theorem aTT {P:Program} {w:World} {H':Hp} {h':Heap} {kvs:List (Key × V)} {vs:List (Key × Value)} (z:kvs.length ≤ Ar) (hd:(a == DI) = false) (rel:KV kvs vs) (dd:h'.DictOf (aS P w) a vs) :
  bW P w H' h' a (.dK kvs):=⟨z,hd,vs,rel,dd⟩
theorem zE {H':Hp} {Q:Unit → Shared → Prop} (hu:A.units + 1 < cLine) (I:Inv X pins σ H s) (g:aUB H a y v H') (ry:bJ y u) (rv:bJ v r) (h:∀ s',Inv X pins σ H' s' → Q () s') :
  wpAny (model X.prog X.w) A (setItem (.ref a) u r) Q E s:=by
 rcases g with ⟨kvs,k,e,ey,l,eH⟩ | ⟨kvs,k,b,e,ey,eb,l,eH⟩
 ·subst ey eH
  obtain ⟨z,hd,vs,rel,dd⟩:=aVR I.hok e
  have hz:vs.length ≤ Ar:=by rw [← rel.length];exact z
  have hl:(oQ kvs k v).length ≤ Ar:=by have:=tJ kvs k v;omega
  refine wpAny_setItem_pairs (hsz:=hz) (aDJ ry) dd fun h' dd' hs=>h _ ?_
  have he:∃ q,h'.get? a = some q:=let ⟨q,_,_,hq,_⟩:=dd';⟨q,hq⟩
  exact aIB I (by rw [e];exact Cg) hs he (aTT hl hd (rel.put k rv) dd')
 ·subst ey eH
  cases (show u = Ap b from ry)
  obtain ⟨z,hd,xs,rel,dd⟩:=aVP I.hok e
  have hz:xs.length ≤ Ar:=by rw [← CH rel];exact z
  have hl:(oQ kvs k v).length ≤ Ar:=by have:=tJ kvs k v;omega
  refine wpAny_setItem_heap (hsz:=hz) (DH hu) (rW I.hok eb) dd fun h' dd' hs=>h _ ?_
  obtain ⟨q,es,ep,hq,h2,h3,h4,_,h5⟩:=dd'
  refine aIB I (by rw [e];exact Cg) hs ⟨q,hq⟩ ⟨hl,hd,_,(rel.put k eb rv).keeps fun c ys ec=>?_,q,es,ep,hq,h2,h3,h4,h5⟩
  rw [aK (yQ ec e (fun z=>nomatch z))]
  exact ec
end
section
variable {X:Cx} {pins:List (Addr × Obj)} {σ:St} {H:Hp} {s:Shared} {a:Addr} {kvs:List (Key × V)} {k:Key} {u:Value} {A:Around} {E:Value → Shared → Prop}
end
def aVU (i:Expr):Prop:=∀ ov iv,FN i false ov iv = operate [ov,iv] (getItem ov iv)
theorem aOU {prog:Program} {w:World} {A:Around} {E:Value → Shared → Prop} {s:Shared} {env:Env} {value slice:Expr} {pos:Pos} {T id:String} {Q:Value → Shared → Prop}
  (hl:typeLookup (.type T) "__getitem__" = pure (some (.builtin id))) (hs:aVU slice)
  (h:wpAny (model prog w) A (eval value env) (fun o s₁=>wpAny (model prog w) A (eval slice env) (fun i s₂=>s₂.TypeIs o T ∧ wpAny (model prog w) A (getItem o i) Q E s₂) E s₁) E s) :
  wpAny (model prog w) A (eval (.Subscript value slice pos) env) Q E s:=by
 refine Subscript_ (BL h (fun o s₁ h₁=>BL h₁ (fun i s₂ h₂=>?_) fun _ _ x=>x) fun _ _ x=>x)
 obtain ⟨hT,h₂⟩:=h₂
 unfold subscriptTail
 refine AD ?_
 rw [getitemInPython_of_ne hT.not_modules]
 refine AD (FP hT hl ?_)
 have fin:wpAny (model prog w) A (FN slice false o i) (fun r s₃=>wpAny (model prog w) A (letTemporaryGo value o r >>= fun _=>pure r) Q E s₃) E s₂:=by
  rw [hs o i]
  exact wpAny_operating (BL h₂ (fun r s₃ h₃=>AD (wpAny_letTemporaryGo (AT h₃))) fun _ _ x=>x)
 first
  | exact AT (AD fin)
  | exact AD (AT (AD fin))
  | exact AD fin
theorem aDR {X:Cx} {pins:List (Addr × Obj)} {σ:St} {H:Hp} {s:Shared} {a:Addr} {y:V} {o:Option V} (I:Inv X pins σ H s) (g:sQ H a y o):s.TypeIs (.ref a) "dict":=by
 rcases g with ⟨kvs,k,e,_,_⟩ | ⟨kvs,k,b,e,_,_,_⟩
 ·obtain ⟨_,_,vs,_,dd⟩:=aDQ I.hok e
  exact dd.typeIs
 ·obtain ⟨_,_,xs,_,dd⟩:=aDP I.hok e
  exact dd.typeIs
def aUK (td ty:TE):TE:=fun σ H Q=>td σ H fun x H1=>ty σ H1 fun y H2=>∃ a v,x = .ref a ∧ sQ H2 a y (some v) ∧ Q v H2
def aWE (ty td:TE):TE:=fun σ H Q=>ty σ H fun y H1=>td σ H1 fun x H2=>∃ a o,x = .ref a ∧ sQ H2 a y o ∧ Q (.bl o.isSome) H2
def aOT (ty td:TE):TE:=fun σ H Q=>ty σ H fun y H1=>td σ H1 fun x H2=>∃ a o,x = .ref a ∧ sQ H2 a y o ∧ Q (.bl (!o.isSome)) H2
def aUN (td ty tv:TE):TS:=fun D σ H=>tv σ H fun v H1=>td σ H1 fun x H2=>ty σ H2 fun y H3=>∃ a H4,x = .ref a ∧ aUB H3 a y v H4 ∧ D.nx σ H4
def aUO (td ty tv:TE) (rd:V → V → Hp → VK → Prop):TS:=fun D σ H=>td σ H fun x H1=>ty σ H1 fun y H2=>∃ a v,x = .ref a ∧ sQ H2 a y (some v) ∧
 tv σ H2 fun y2 H3=>rd v y2 H3 fun z H4=>∃ H5,aUB H4 a y z H5 ∧ D.nx σ H5
section
variable {X:Cx} {o i e value:Expr} {pos pos' tpos:Pos} {td ty tv:TE}
theorem gH (hu:X.A.units + 1 < cLine) (ho:PE X o td) (hi:PE X i ty) (hs:aVU i):PE X (.Subscript o i pos) (aUK td ty):=by
 intro pins s σ H Q I h
 refine aOU PySem.F.slot_dict_getitem.lookup hs (thn (ho pins s σ H _ I h) fun u s1 ⟨x,H1,I1,rx,q1⟩=>thn (hi pins s1 σ H1 _ I1 q1) fun iv s2 ⟨y,H2,I2,ry,a,v,ex,g,q2⟩=>?_)
 subst ex
 obtain rfl:u = Ap a:=rx
 exact ⟨aDR I2 g,zF hu I2 g ry fun w' s3 I3 rw'=>⟨v,H2,I3,rw',q2⟩⟩
theorem aMK (hu:X.A.units + 1 < cLine) (hi:PE X i ty) (ho:PE X o td):PC X .In i o (aWE ty td):=by
 intro pins s σ H Q I h
 refine thn (hi pins s σ H _ I h) fun iv s1 ⟨y,H1,I1,ry,q1⟩=>thn (ho pins s1 σ H1 _ I1 q1) fun u s2 ⟨x,H2,I2,rx,a,ov,ex,g,q2⟩=>?_
 subst ex
 obtain rfl:u = Ap a:=rx
 exact aXB hu I2 g ry fun s3 I3=>⟨.bl ov.isSome,H2,I3,rfl,q2⟩
theorem yK (hu:X.A.units + 1 < cLine) (hi:PE X i ty) (ho:PE X o td):PC X .NotIn i o (aOT ty td):=by
 intro pins s σ H Q I h
 refine thn (hi pins s σ H _ I h) fun iv s1 ⟨y,H1,I1,ry,q1⟩=>thn (ho pins s1 σ H1 _ I1 q1) fun u s2 ⟨x,H2,I2,rx,a,ov,ex,g,q2⟩=>?_
 subst ex
 obtain rfl:u = Ap a:=rx
 exact aQT hu I2 g ry fun s3 I3=>⟨.bl (!ov.isSome),H2,I3,rfl,q2⟩
theorem aPN (hu:X.A.units + 1 < cLine) (ho:PE X o td) (hi:PE X i ty) (hv:PE X value tv) (hs:swapsWith value (some (.Subscript o i pos')) pos.line X.env = pure false) :
  PS X (.Assign [.Subscript o i pos'] value pos) (aUN td ty tv):=by
 intro pins s σ H D I h
 refine wpAny_Assign_Subscript (thn (hv pins s σ H _ I h) fun r s1 ⟨v,H1,I1,rv,q1⟩=>thn (ho pins s1 σ H1 _ I1 q1) fun u s2 ⟨x,H2,I2,rx,q2⟩=>thn (hi pins s2 σ H2 _ I2 q2) fun iv s3 ⟨y,H3,I3,ry,a,H4,ex,g,q3⟩=>?_) hs
 subst ex
 obtain rfl:u = Ap a:=rx
 exact zE hu I3 g ry rv fun s4 I4=>⟨σ,H4,I4,q3⟩
theorem aPO {op:Operator} {rd:V → V → Hp → VK → Prop} (hu:X.A.units + 1 < cLine) (ho:PE X o td) (hi:PE X i ty) (hv:PE X value tv) (hop:aVV X op rd)
  (ha:∀ ov iv new,augStore i ov iv new = (do holding [new,ov,iv] (setItem ov iv new);release [new,ov,iv] [];pure .next)):PS X (.AugAssign (.Subscript o i tpos) op value pos) (aUO td ty tv rd):=by
 intro pins s σ H D I h
 refine wpAny_AugAssign_SubscriptAny (thn (ho pins s σ H _ I h) fun u s1 ⟨x,H1,I1,rx,q1⟩=>thn (hi pins s1 σ H1 _ I1 q1) fun iv s2 ⟨y,H2,I2,ry,a,v,ex,g,q2⟩=>?_) ha
 subst ex
 obtain rfl:u = Ap a:=rx
 refine zF hu I2 g ry fun w' s3 I3 rw'=>thn (hv pins s3 σ H2 _ I3 q2) fun w2 s4 ⟨y2,H3,I4,ry2,q3⟩=>thn (hop pins s4 σ H3 v y2 w' w2 _ I4 rw' ry2 q3) fun w3 s5 ⟨z,H4,I5,rz,H5,g5,q4⟩=>?_
 exact zE hu I5 g5 ry rz fun s6 I6=>⟨σ,H5,I6,q4⟩
end
section
variable {X:Cx} {pos:Pos}
end
def aSA:List (TE × TE) → St → Hp → (List (V × V) → Hp → Prop) → Prop
 | [],_,H,Q=>Q [] H
 | (tk,tv) :: r,σ,H,Q=>tk σ H fun x H1=>tv σ H1 fun y H2=>aSA r σ H2 fun ps H3=>Q ((x,y) :: ps) H3
abbrev VV:List (V × V) → List (Value × Value) → Prop:=Paired fun p q=>bJ p.1 q.1 ∧ bJ p.2 q.2
def mergeK (kvs more:List (Key × V)):List (Key × V):=more.foldl (fun acc kv=>oQ acc kv.1 kv.2) kvs
structure M1 (X:Cx) (o:Expr) (m:Str) (apos:Pos) (e:Expr) (cpos:Pos):Prop where
 base:DU o m X.env (eval o X.env) = eval o X.env
 few:((backTo cpos (Av [e] X.env)).all (fun x=>!x.1) && (DW cpos (Ck [] X.env)).all (fun x=>x.1.isSome)
  && decide (([e]:List Expr).length + ([]:List Keyword).length + (if ([]:List Keyword).isEmpty then 0 else 1) < 30)) = true
 line:(apos.endLine == cpos.line) = true
 trees:backTo cpos (Av [e] X.env) = [(false,eval e X.env)]
structure M2 (X:Cx) (o:Expr) (m:Str) (apos:Pos) (e f:Expr) (cpos:Pos):Prop where
 base:DU o m X.env (eval o X.env) = eval o X.env
 few:((backTo cpos (Av [e,f] X.env)).all (fun x=>!x.1) && (DW cpos (Ck [] X.env)).all (fun x=>x.1.isSome)
  && decide (([e,f]:List Expr).length + ([]:List Keyword).length + (if ([]:List Keyword).isEmpty then 0 else 1) < 30)) = true
 line:(apos.endLine == cpos.line) = true
 trees:backTo cpos (Av [e,f] X.env) = [(false,eval e X.env),(false,eval f X.env)]
def IsD (H:Hp) (a:Addr):Prop:=(∃ kvs,Rd H a (.dK kvs)) ∨ ∃ kvs,Rd H a (.dT kvs)
section
variable {X:Cx} {pins:List (Addr × Obj)} {σ:St} {H:Hp} {s:Shared} {a:Addr} {y d:V} {u r:Value} {o:Option V} {A:Around} {E:Value → Shared → Prop}
end
section
variable {X:Cx} {o e f:Expr} {apos cpos:Pos} {td ty tx:TE}
end
section
variable {X:Cx} {pins:List (Addr × Obj)} {σ:St} {H:Hp} {s:Shared} {a:Addr} {kvs:List (Key × V)} {A:Around} {E:Value → Shared → Prop}
end
section
variable {X:Cx} {pins:List (Addr × Obj)} {σ:St} {H:Hp} {s:Shared} {a:Addr} {y:V} {u:Value} {A:Around} {E:Value → Shared → Prop}
end
end L2
namespace HT
open PySem PyProof.Rows
def lexLt:List Int → List Int → Bool
 | [],[]=>false
 | [],_ :: _=>true
 | _ :: _,[]=>false
 | x :: xs,y :: ys=>if x = y then lexLt xs ys else decide (x < y)
theorem lexLt_cons (x y:Int) (xs ys:List Int):lexLt (x :: xs) (y :: ys) = if x = y then lexLt xs ys else decide (x < y):=rfl
theorem xR:lexLt [] [] = false:=rfl
theorem vZ (y:Int) (ys:List Int):lexLt [] (y :: ys) = true:=rfl
theorem wA (x:Int) (xs:List Int):lexLt (x :: xs) [] = false:=rfl
theorem aNR (A:Around) (s:Shared) (a:Int) (t:Tok) (c:Int) (u:Tok):∃ e,Bb A s (.int a t) (.int c u) e ∧ (e = true ↔ a = c) :=
 ⟨(a == c),Bb.int_int a t c u,by simp⟩
theorem aLW (A:Around) (s:Shared) (a:Int) (t:Tok) (c:Int) (u:Tok) (prog:Program) (w:World) (E:Value → Shared → Prop) (Q:Value → Shared → Prop) (h:Q (.bool (decide (a < c))) s) :
  wpAny (model prog w) A (richCompare .Lt (.int a t) (.int c u)) Q E s :=
 (PyProof.Rows.lt_int h:wpAny (model prog w) A (BW .Lt (.int a t) (.int c u)) Q E s)
section
open PySem.SeqAt
open PySem.AutoSeq1 (wpAny_loadPart')
open PySem.MeetsSeq PySem.MeetsSeq2 PySem.MeetsSeq3
end
section
variable {prog:Program} {w:World} {A:Around} {E:Value → Shared → Prop} {s:Shared}
def sIx (n d:Nat):Option Int → Nat
 | none=>d
 | some v=>if v < 0 then (v + (n:Int)).toNat else min v.toNat n
end
end HT
namespace L2
open PySem PySem.Spec PyProof.Rows
abbrev TO:=St → Hp → (Option Int → Hp → Prop) → Prop
def PO (X:Cx) (e:Option Expr) (t:TO):Prop :=
 ∀ (pins:List (Addr × Obj)) (s:Shared) (σ:St) (H:Hp) (Q:Option Int → Hp → Prop),Inv X pins σ H s → t σ H Q →
  wpAny (model X.prog X.w) X.A (evalPart e X.env) (fun u s'=>∃ o H',Inv X pins σ H' s' ∧ IsPart u o ∧ Q o H') X.xe s
def aOS:TO:=fun _ H Q=>Q none H
def aUE (t:TE):TO:=fun σ H Q=>t σ H fun x H1=>∃ i,x = .int i ∧ Q (some i) H1
theorem wH {ns:List Int}:∀ {us:List Value},bK (ns.map V.int) us → IntsAre us ns:=by
 induction ns with
 | nil=>intro us r;rw [Ch] at r;cases r;exact .nil
 | cons n ns ih =>
  intro us r
  rw [AY] at r
  cases r with
  | cons r1 r2 =>
   obtain ⟨t,e⟩:=r1
   subst e
   exact .cons n t (ih r2)
section
variable {X:Cx} {e:Expr} {te:TE} {lo hi:Option Expr} {tl th:TO} {pos p2:Pos}
theorem aHE:PO X none aOS:=by
 intro pins s σ H Q I h
 rw [evalPart_none]
 exact AT ⟨none,H,I,.none,h⟩
theorem aHD (h:PE X e te):PO X (some e) (aUE te):=by
 intro pins s σ H Q I hw
 rw [evalPart_some]
 refine thn (h pins s σ H _ I hw) fun u s1 ⟨x,H1,I1,r1,q1⟩=>?_
 obtain ⟨i,rfl,q⟩:=q1
 obtain ⟨t,rfl⟩:=r1
 exact ⟨some i,H1,I1,.int i t,q⟩
def SlR (X:Cx) (r:V → Option Int → Option Int → Hp → VK → Prop):Prop :=
 ∀ (pins:List (Addr × Obj)) (s:Shared) (σ:St) (H:Hp) (x:V) (v vl vu:Value) (lo hi:Option Int) (sl:Addr) (Q:VK),Inv X pins σ H s → bJ x v → s.heap.IsSliceOf sl vl vu .none → IsPart vl lo → IsPart vu hi → r x lo hi H Q →
  ∃ T id,typeLookup (.type T) "__getitem__" = pure (some (.builtin id)) ∧ s.TypeIs v T ∧ wpAny (model X.prog X.w) X.A (getItem v (.ref sl)) (EP X pins σ Q) X.xe s
def tSl (r:V → Option Int → Option Int → Hp → VK → Prop) (te:TE) (tl th:TO):TE:=fun σ H Q=>te σ H fun x H1=>tl σ H1 fun l H2=>th σ H2 fun u H3=>r x l u H3 Q
theorem aCU {r:V → Option Int → Option Int → Hp → VK → Prop} (hr:SlR X r) (he:PE X e te) (hl:PO X lo tl) (hu:PO X hi th):PE X (.Subscript e (.Slice lo hi none p2) pos) (tSl r te tl th):=by
 intro pins s σ H Q I h
 refine Subscript_ (thn (he pins s σ H _ I h) fun v s1 ⟨x,H1,I1,r1,q1⟩=>?_)
 refine wpAny_Slice (thn (hl pins s1 σ H1 _ I1 q1) fun vl s2 ⟨l,H2,I2,pl,q2⟩=>thn (hu pins s2 σ H2 _ I2 q2) fun vu s3 ⟨u,H3,I3,pu,q3⟩=>?_)
 rw [evalPart_none]
 refine AT ?_
 have I4:Inv X pins σ H3 { s3 with heap:=s3.heap.push { cls:=.type "slice",data:=.fields #[vl,vu,.none] } }:=I3.kept (t':=s3.toks) fun b ob q=>AE _ q
 obtain ⟨T,id,hT,ht,hg⟩:=hr pins { s3 with heap:=s3.heap.push { cls:=.type "slice",data:=.fields #[vl,vu,.none] } } σ H3 x v vl vu l u s3.heap.objs.size Q I4 r1 (Heap.IsSliceOf.new ..) pl pu q3
 show wpAny (model X.prog X.w) X.A (subscriptTail e (.Slice lo hi none p2) v (.ref s3.heap.objs.size)) (EP X pins σ Q) X.xe { s3 with heap:=s3.heap.push { cls:=.type "slice",data:=.fields #[vl,vu,.none] } }
 exact tail_any (ops:=[.ref s3.heap.objs.size,v]) ht hT hg (by with_unfolding_all rfl)
def cutV (xs:List V) (lo hi:Option Int):List V:=(xs.drop (HT.sIx xs.length 0 lo)).take (HT.sIx xs.length xs.length hi - HT.sIx xs.length 0 lo)
end
end L2
namespace L2
open PySem PySem.Spec PyProof.Rows
def ixN (n:Nat) (i:Int):Option Nat:=if 0 ≤ i then (if i < n then some i.toNat else none) else if -(n:Int) ≤ i then some (i + n).toNat else none
def atI {α:Type} (xs:List α) (i:Int):Option α:=(ixN xs.length i).bind fun j=>xs[j]?
theorem aQK {n:Nat} {i:Int} {j:Nat} (h:ixN n i = some j):seqIndex? i n = some j ∧ j < n ∧ -(n:Int) ≤ i ∧ i < n:=by
 unfold ixN at h
 by_cases h0:0 ≤ i
 ·rw [if_pos h0] at h
  by_cases h1:i < n
  ·rw [if_pos h1] at h
   have e:i.toNat = j:=Aw h
   exact ⟨by rw [seqIndex_of h0 h1,e],by omega,by omega,h1⟩
  ·rw [if_neg h1] at h;cases h
 ·rw [if_neg h0] at h
  by_cases h1:-(n:Int) ≤ i
  ·rw [if_pos h1] at h
   have e:(i + n).toNat = j:=Aw h
   exact ⟨by rw [seqIndex_neg (by omega) h1,e],by omega,h1,by omega⟩
  ·rw [if_neg h1] at h;cases h
theorem aBQ {α:Type} {xs:List α} {i:Int} {v:α} (h:atI xs i = some v):∃ j,seqIndex? i xs.length = some j ∧ xs[j]? = some v ∧ j < xs.length ∧ -(xs.length:Int) ≤ i ∧ i < xs.length:=by
 unfold atI at h
 cases e:ixN xs.length i with
 | none=>rw [e] at h;cases h
 | some j =>
  rw [e] at h
  obtain ⟨h1,h2,h3,h4⟩:=aQK e
  exact ⟨j,h1,h,h2,h3,h4⟩
theorem aN {α:Type} {xs:List α} {j:Nat} {v:α} (h:xs[j]? = some v):atI xs (j:Int) = some v:=by
 have hj:j < xs.length:=(AC.mp h).1
 have e:ixN xs.length (j:Int) = some j:=by
  unfold ixN
  rw [if_pos (by omega),if_pos (by omega)];simp
 unfold atI;rw [e];exact h
def aQZ (b:Expr):Prop:=∀ o i,FN b false o i = operate [o,i] (getItem o i)
def IxR (X:Cx) (r:R2):Prop :=
 ∀ (value slice:Expr) (pins:List (Addr × Obj)) (s:Shared) (σ:St) (H:Hp) (x y:V) (v u:Value) (Q:VK),Inv X pins σ H s → bJ x v → bJ y u → r x y H Q →
  FN slice false v u = operate [v,u] (getItem v u) → wpAny (model X.prog X.w) X.A (subscriptTail value slice v u) (EP X pins σ Q) X.xe s
def MtR (X:Cx) (id:String) (r:V → List V → Hp → VK → Prop):Prop :=
 ∀ (pins:List (Addr × Obj)) (s:Shared) (σ:St) (H:Hp) (x:V) (xs:List V) (v:Value) (us:List Value) (Q:VK),Inv X pins σ H s → bJ x v → bK xs us → r x xs H Q →
  wpAny (model X.prog X.w) X.A (call (.builtin id) (v :: us)) (EP X pins σ Q) X.xe s
section
variable {X:Cx} {a b:Expr} {ta tb:TE} {pos:Pos}
theorem bG {r:R2} (hr:IxR X r) (ha:PE X a ta) (hb:PE X b tb) (hs:aQZ b):PE X (.Subscript a b pos) (tOp r ta tb):=by
 intro pins s σ H Q I h
 exact Subscript_ (aTV ha hb I h fun v u s2 x y H2 I2 rx ry q=>hr a b pins s2 σ H2 x y v u Q I2 rx ry q (hs _ _))
def aUU (K:AG):R2:=fun x y H Q=>∃ p xs i v,x = .ref p ∧ y = .int i ∧ SqL K H p xs ∧ atI xs i = some v ∧ Q v H
def aUT (K:AG):R2:=fun x y H Q=>∃ p xs i v,x = .ref p ∧ y = .int i ∧ SqT K H p xs ∧ atI xs i = some v ∧ Q v H
def aWK:R2:=fun x y H Q=>∃ z i c,x = .str z ∧ y = .int i ∧ z.length ≤ Ar ∧ atI z.cps.toList i = some c ∧ Q (.str ⟨#[c]⟩) H
theorem aQJ:IxR X (aUU X.K):=by
 intro value slice pins s σ H x y v u Q I rx ry h hs
 obtain ⟨p,xs,i,z,rfl,rfl,hq,he,q⟩:=h
 cases rx
 obtain ⟨t,rfl⟩:=ry
 obtain ⟨its,r,pl,hz⟩:=I.list hq
 obtain ⟨j,h1,h2,h3,h4,h5⟩:=aBQ he
 obtain ⟨w,ew,rw'⟩:=r.get h2
 have hl:=r.length
 have hn:=vY
 have fin:EP X pins σ Q w s:=⟨z,H,I,rw',q⟩
 by_cases h0:0 ≤ i
 ·have hj:i.toNat = j:=by
   rw [seqIndex_of h0 h5] at h1
   exact Aw h1
  exact item_listR pl.isList h0 (by omega) (by rw [hj];simpa using ew) fin hs
 ·have hj:(i + (its.toArray.size:Int)).toNat = j:=by
   rw [seqIndex_neg (by omega) h4] at h1
   rw [AS,← hl]
   exact Aw h1
  exact subscriptTail_builtinR (x:=w) pl.isList.typeIs slot_list_getitem.lookup
   (wpAny_getItem_list_neg (Q:=fun r s'=>r = w ∧ EP X pins σ Q r s') pl.isList (by omega) (by rw [AS] <;> omega) (by omega) (by rw [hj];simpa using ew) ⟨rfl,fin⟩) hs
theorem aTL:IxR X (aUT X.K):=by
 intro value slice pins s σ H x y v u Q I rx ry h hs
 obtain ⟨p,xs,i,z,rfl,rfl,hq,he,q⟩:=h
 cases rx
 obtain ⟨t,rfl⟩:=ry
 obtain ⟨its,r,pl,hz⟩:=I.tuple hq
 obtain ⟨j,h1,h2,h3,h4,h5⟩:=aBQ he
 obtain ⟨w,ew,rw'⟩:=r.get h2
 have hl:=r.length
 have hn:=vY
 have fin:EP X pins σ Q w s:=⟨z,H,I,rw',q⟩
 exact subscriptTail_builtinR (x:=w) pl.typeIs slot_tuple_getitem.lookup
  (getItem_tuple (j:=j) (Q:=fun r s'=>r = w ∧ EP X pins σ Q r s') pl (by omega) (by omega) (by rw [AS,← hl];exact h1) (by simpa using ew) ⟨rfl,fin⟩) hs
theorem aMX:IxR X aWK:=by
 intro value slice pins s σ H x y v u Q I rx ry h hs
 obtain ⟨z,i,c,rfl,rfl,hz,he,q⟩:=h
 obtain ⟨t,rfl⟩:=rx
 obtain ⟨t',rfl⟩:=ry
 obtain ⟨j,h1,h2,h3,h4,h5⟩:=aBQ he
 have hl:z.cps.toList.length = z.length:=by simp [Str.length]
 rw [hl] at h1 h4 h5
 have hn:=vY
 exact tail_any (typeIs_str s z t) slot_str_getitem.lookup (getItem_str (c:=c) (by
  have e1:decide (i < -(2 ^ 63:Int)) = false:=decide_eq_false (by omega)
  have e2:decide (i ≥ 2 ^ 63) = false:=decide_eq_false (by omega)
  rw [e1,e2,Bool.or_false]) (by rw [h1];simpa using h2) ⟨.str ⟨#[c]⟩,H,I.tok _,⟨_,rfl⟩,q⟩) hs
def qX:V → Bool
 | .non=>true
 | .bl _=>true
 | .int _=>true
 | .str _=>true
 | _=>false
def eqV:V → V → Bool
 | .non,.non=>true
 | .bl a,.bl b=>a == b
 | .bl a,.int b=>(if a then 1 else 0) == b
 | .int a,.bl b=>a == (if b then 1 else 0)
 | .int a,.int b=>a == b
 | .str a,.str b=>a == b
 | _,_=>false
theorem lY {A:Around} {s:Shared} {y x:V} {u v:Value} (ry:bJ y u) (rx:bJ x v) (fy:qX y = true) (fx:qX x = true):Bb A s u v (eqV y x):=by
 cases y with
 | non =>
  cases ry
  cases x with
  | non=>cases rx;exact Bb.same _
  | bl b=>cases rx;exact Bb.none_bool b
  | int b=>obtain ⟨t,rfl⟩:=rx;exact Bb.none_int b t
  | str b=>obtain ⟨t,rfl⟩:=rx;exact Bb.none_str b t
  | _=>exact absurd (show false = true from fx) AV
 | bl a =>
  cases ry
  cases x with
  | non=>cases rx;exact Bb.bool_none a
  | bl b=>cases rx;exact Bb.bool_bool a b
  | int b=>obtain ⟨t,rfl⟩:=rx;exact Bb.bool_int a b t
  | str b=>obtain ⟨t,rfl⟩:=rx;exact Bb.bool_str a b t
  | _=>exact absurd (show false = true from fx) AV
 | int a =>
  obtain ⟨t',rfl⟩:=ry
  cases x with
  | non=>cases rx;exact Bb.int_none a t'
  | bl b=>cases rx;exact Bb.int_bool a t' b
  | int b=>obtain ⟨t,rfl⟩:=rx;exact Bb.int_int a t' b t
  | str b=>obtain ⟨t,rfl⟩:=rx;exact Bb.int_str a t' b t
  | _=>exact absurd (show false = true from fx) AV
 | str a =>
  obtain ⟨t',rfl⟩:=ry
  cases x with
  | non=>cases rx;exact Bb.str_none a t'
  | bl b=>cases rx;exact Bb.str_bool a t' b
  | int b=>obtain ⟨t,rfl⟩:=rx;exact Bb.str_int a t' b t
  | str b=>obtain ⟨t,rfl⟩:=rx;exact Bb.str_str a t' b t
  | _=>exact absurd (show false = true from fx) AV
 | _=>exact absurd (show false = true from fy) AV
def eqU (x:V) (u:Value):Bool:=match u with
 | .none=>eqV .non x
 | .bool b=>eqV (.bl b) x
 | .int i _=>eqV (.int i) x
 | .str z _=>eqV (.str z) x
 | _=>false
theorem aNQ {x y:V} {u:Value} (r:bJ y u) (f:qX y = true):eqU x u = eqV y x:=by
 cases y with
 | non=>cases r;rfl
 | bl b=>cases r;rfl
 | int i=>obtain ⟨t,rfl⟩:=r;rfl
 | str z=>obtain ⟨t,rfl⟩:=r;rfl
 | _=>exact absurd (show false = true from f) AV
theorem rC {x:V}:∀ {xs:List V} {us:List Value},bK xs us → xs.all qX = true → us.any (eqU x) = xs.any fun y=>eqV y x
 | _,_,.nil,_=>rfl
 | y :: xs,u :: us,.cons r t,f=>by
  rw [Dl,Aj] at f
  rw [Dk,Dk,aNQ r f.1,rC t f.2]
theorem nG {A:Around} {s:Shared} {x:V} {v:Value} (rx:bJ x v) (fx:qX x = true):∀ {xs:List V} {us:List Value},bK xs us → xs.all qX = true → ∀ u ∈ us,Bb A s u v (eqU x u)
 | _,_,.nil,_=>fun u hu=>by cases hu
 | y :: xs,u :: us,.cons r t,f=>fun u' hu=>by
  rw [Dl,Aj] at f
  rcases Af.mp hu with rfl | hu
  ·rw [aNQ r f.1];exact lY r rx f.1 fx
  ·exact nG rx fx t f.2 u' hu
def inV (x:V) (xs:List V):Bool:=xs.any fun y=>eqV y x
def rIn (K:AG) (neg:Bool):R2:=fun x y H Q=>∃ p xs,y = .ref p ∧ (SqL K H p xs ∨ SqT K H p xs) ∧ qX x = true ∧ xs.all qX = true ∧ Q (.bl (if neg then !inV x xs else inV x xs)) H
theorem aJG:OpR X (BW .In) (rIn X.K false):=by
 intro pins s σ H x y v u Q I rx ry h
 obtain ⟨p,xs,rfl,hq,fx,fs,q⟩:=h
 cases ry
 rcases hq with hq | hq
 ·obtain ⟨its,r,pl,hz⟩:=I.list hq
  refine SeqAt.in_listAt (eqU x) pl.isList (fun w hw=>nG rx fx r fs w (by simpa using hw)) ⟨.bl _,H,I,rfl,?_⟩
  rw [show its.toArray.any (eqU x) = its.any (eqU x) by simp,rC r fs]
  exact q
 ·obtain ⟨its,r,pl,hz⟩:=I.tuple hq
  refine SeqAt.in_tupleAt (eqU x) pl (fun w hw=>nG rx fx r fs w (by simpa using hw)) ⟨.bl _,H,I,rfl,?_⟩
  rw [show its.toArray.any (eqU x) = its.any (eqU x) by simp,rC r fs]
  exact q
theorem aAT:OpR X (BW .NotIn) (rIn X.K true):=by
 intro pins s σ H x y v u Q I rx ry h
 obtain ⟨p,xs,rfl,hq,fx,fs,q⟩:=h
 cases ry
 rcases hq with hq | hq
 ·obtain ⟨its,r,pl,hz⟩:=I.list hq
  refine SeqAt.notIn_listAt (eqU x) pl.isList (fun w hw=>nG rx fx r fs w (by simpa using hw)) ⟨.bl _,H,I,rfl,?_⟩
  rw [show its.toArray.any (eqU x) = its.any (eqU x) by simp,rC r fs]
  exact q
 ·obtain ⟨its,r,pl,hz⟩:=I.tuple hq
  refine SeqAt.notIn_tupleAt (eqU x) pl (fun w hw=>nG rx fx r fs w (by simpa using hw)) ⟨.bl _,H,I,rfl,?_⟩
  rw [show its.toArray.any (eqU x) = its.any (eqU x) by simp,rC r fs]
  exact q
theorem aBN:fI X (.builtin "len") (fun xs H Q=>∃ p ys,xs = [.ref p] ∧ (SqL X.K H p ys ∨ SqT X.K H p ys) ∧ Q (.int ys.length) H):=by
 intro pins s σ H xs us Q I r h
 obtain ⟨p,ys,rfl,hq,q⟩:=h
 obtain ⟨u,rfl,rx⟩:=aBV r
 cases rx
 have hn:=vY
 rcases hq with hq | hq
 ·obtain ⟨its,r',pl,hz⟩:=I.list hq
  have hlen:=r'.length
  exact Calls.call_len_list pl.isList (by simp only [AS] <;> omega) ⟨.int ys.length,H,I.tok _,⟨s.toks + 1,by rw [AS,hlen]⟩,q⟩
 ·obtain ⟨its,r',pl,hz⟩:=I.tuple hq
  have hlen:=r'.length
  exact len_tuple pl (by simp only [AS] <;> omega) ⟨.int ys.length,H,I.tok _,⟨s.toks + 1,by rw [AS,hlen]⟩,q⟩
theorem aBM:fI X (.builtin "len") (fun xs H Q=>∃ z,xs = [.str z] ∧ z.length ≤ Ar ∧ Q (.int z.length) H):=by
 intro pins s σ H xs us Q I r h
 obtain ⟨z,rfl,hz,q⟩:=h
 obtain ⟨u,rfl,t,rfl⟩:=aBV r
 have hn:=vY
 exact len_str (by omega) ⟨.int z.length,H,I.tok _,⟨_,rfl⟩,q⟩
theorem aBL:fI X (.type "list") (fun xs H Q=>∃ p ys,xs = [.ref p] ∧ (SqL X.K H p ys ∨ SqT X.K H p ys) ∧ ∀ l,H l = none → Q (.ref l) (upd H l (.lst ys))):=by
 intro pins s σ H xs us Q I r h
 obtain ⟨p,ys,rfl,hq,q⟩:=h
 obtain ⟨u,rfl,rx⟩:=aBV r
 cases rx
 have fin:∀ (its:List Value),bK ys its → ys.length ≤ Ar → ∀ (h':Heap) (c':Nat),(∀ b o',s.heap.get? b = some o' → h'.get? b = some o') →
   h'.get? s.heap.objs.size = some { cls:=.type "list",dict:=none,data:=.seq its.toArray c',slots:=#[] } → EP X pins σ Q (.ref s.heap.objs.size) { s with heap:=h' }:=fun its r' hz h' c' kp e =>
  ⟨.ref s.heap.objs.size,_,I.laid (t':=s.toks) kp (AQ _) (show bW X.prog X.w _ h' _ (.lst ys) from ⟨hz,its,c',r',e⟩),rfl,q _ (I.hok.fresh (AQ _))⟩
 rcases hq with hq | hq
 ·obtain ⟨its,r',pl,hz⟩:=I.list hq
  have hlen:=r'.length
  obtain ⟨o,ho,hc,n,hd⟩:=pl.isList
  exact call_list_seq p (.inl rfl) ho hc hd (fun h' c' kp e=>fin its r' hz h' c' kp e) (by simp only [AS] <;> omega)
 ·obtain ⟨its,r',pl,hz⟩:=I.tuple hq
  have hlen:=r'.length
  obtain ⟨o,ho,hc,n,hd⟩:=pl
  exact call_list_seq p (.inr rfl) ho hc hd (fun h' c' kp e=>fin its r' hz h' c' kp e) (by simp only [AS] <;> omega)
theorem pE:fI X (.type "tuple") (fun xs H Q=>∃ p ys,xs = [.ref p] ∧ ((SqL X.K H p ys ∧ ∀ l,H l = none → Q (.ref l) (upd H l (.tup ys))) ∨ (SqT X.K H p ys ∧ Q (.ref p) H))):=by
 intro pins s σ H xs us Q I r h
 obtain ⟨p,ys,rfl,h⟩:=h
 obtain ⟨u,rfl,rx⟩:=aBV r
 cases rx
 rcases h with ⟨hq,q⟩ | ⟨hq,q⟩
 ·obtain ⟨its,r',pl,hz⟩:=I.list hq
  have hlen:=r'.length
  refine call_tuple_list pl.isList (fun h' kp=>?_) (by simp only [AS] <;> omega)
  have I1:Inv X pins σ H { s with heap:=h' }:=I.kept (t':=s.toks) kp
  have I2:Inv X pins σ (upd H h'.objs.size (.tup ys)) { s with heap:=h'.push { cls:=.type "tuple",data:=.seq its.toArray } } :=
   I1.laid (t':=s.toks) (fun b o e=>AE _ e) (AQ _) (show bW X.prog X.w _ _ _ (.tup ys) from ⟨hz,its,r',sP.new _ _⟩)
  exact ⟨.ref h'.objs.size,_,I2,rfl,q _ (I1.hok.fresh (AQ _))⟩
 ·obtain ⟨its,r',pl,hz⟩:=I.tuple hq
  exact call_tuple_same pl ⟨.ref p,H,I,rfl,q⟩
def tyV (K:AG) (T:String) (x:V) (H:Hp):Prop:=match x with
 | .str _=>T = "str"
 | .int _=>T = "int"
 | .ref p=>(T = "list" ∧ ∃ xs,SqL K H p xs) ∨ (T = "tuple" ∧ ∃ o,K.lookup p = some o ∧ o.cls = .type "tuple" ∧ o.dict = none) ∨
   (T = "dict" ∧ ((∃ kvs,H p = some (.dK kvs)) ∨ ∃ kvs,H p = some (.dT kvs))) ∨ (T = "set" ∧ ∃ S n,H p = some (.set S n)) ∨ (T = "tuple" ∧ ∃ xs,H p = some (.tup xs))
 | _=>False
theorem aKO {pins:List (Addr × Obj)} {σ:St} {H:Hp} {s:Shared} {T:String} {x:V} {v:Value} (I:Inv X pins σ H s) (r:bJ x v) (ty:tyV X.K T x H) :
  s.TypeIs v T ∧ ∀ a,v = .ref a → ∃ ob,s.heap.get? a = some ob ∧ ob.dict = none:=by
 cases x with
 | str z =>
  obtain ⟨t,rfl⟩:=r
  cases (show T = "str" from ty)
  exact ⟨typeIs_str s z t,fun _ e=>nomatch e⟩
 | int i =>
  obtain ⟨t,rfl⟩:=r
  cases (show T = "int" from ty)
  exact ⟨typeIs_int s i t,fun _ e=>nomatch e⟩
 | ref p =>
  cases r
  rcases ty with ⟨rfl,xs,hq⟩ | ⟨rfl,o,hk,hc,hd⟩ | ⟨rfl,hk⟩ | ⟨rfl,S,n,hk⟩ | ⟨rfl,xs,hk⟩
  ·obtain ⟨its,_,pl,_⟩:=I.list hq
   refine ⟨pl.isList.typeIs,fun a e=>?_⟩
   cases e
   obtain ⟨o,n,e,c,hd,_⟩:=pl
   exact ⟨o,e,hd⟩
  ·refine ⟨⟨o,I.kIn p o hk,hc⟩,fun a e=>?_⟩
   cases e
   exact ⟨o,I.kIn _ o hk,hd⟩
  ·have z:∃ o,s.heap.get? p = some o ∧ o.ExactDict:=by
    rcases hk with ⟨kvs,hk⟩ | ⟨kvs,hk⟩
    ·obtain ⟨_,_,_,_,o,_,_,e,ex,_⟩:=I.hok p _ hk
     exact ⟨o,e,ex⟩
    ·obtain ⟨_,_,_,_,o,_,_,e,ex,_⟩:=I.hok p _ hk
     exact ⟨o,e,ex⟩
   obtain ⟨o,e,ex⟩:=z
   refine ⟨⟨o,e,ex.1⟩,fun a e2=>?_⟩
   cases e2
   exact ⟨o,e,ex.2.1⟩
  ·obtain ⟨o,_,_,_,e,ex,_⟩:=I.hok p _ hk
   refine ⟨⟨o,e,ex.1⟩,fun a e2=>?_⟩
   cases e2
   exact ⟨o,e,ex.2.1⟩
  ·obtain ⟨_,_,_,o,e,hc,_,_,hd⟩:=(show bW X.prog X.w H s.heap p (.tup xs) from I.hok p _ hk)
   refine ⟨⟨o,e,hc⟩,fun a e2=>?_⟩
   cases e2
   exact ⟨o,e,hd⟩
 | _=>exact Bc ty
def aWF (K:AG) (T:String) (r:V → List V → Hp → VK → Prop) (to:TE):TE:=fun σ H Q=>to σ H fun x H1=>tyV K T x H1 ∧ r x [] H1 Q
def tBM (K:AG) (T:String) (r:V → List V → Hp → VK → Prop) (to:TE) (t:TA):TE:=fun σ H Q=>to σ H fun x H1=>tyV K T x H1 ∧ t σ H1 fun xs H2=>r x xs H2 Q
variable {o e:Expr} {es:List Expr} {to:TE} {t:TA} {name:Str} {apos cpos:Pos} {T id:String} {r:V → List V → Hp → VK → Prop}
theorem aSV (pa:PlainAttrs T) (slot:Slot T name id) (hty:typeOf (.builtin id) = pure (.type "method_descriptor")) (hm:MtR X id r) (ho:PE X o to)
  (hbase:DU o name X.env (eval o X.env) = eval o X.env:=by rfl) (hline:(apos.endLine == cpos.line) = true:=by rfl):PE X (.Call (.Attribute o name apos) [] [] cpos) (aWF X.K T r to):=by
 intro pins s σ H Q I h
 refine wpAny_Call_method0_late hbase hline (thn (ho pins s σ H _ I h) fun v s1 ⟨x,H1,I1,r1,ty,q1⟩=>?_)
 obtain ⟨h1,h2⟩:=aKO I1 r1 ty
 exact ⟨T,id,pa,slot,hty,h1,h2,Calls.callWith_builtin rfl (PySem.evalArgs_none (hm pins s1 σ H1 x [] v [] Q I1 r1 .nil q1))⟩
theorem mB (pa:PlainAttrs T) (slot:Slot T name id) (hty:typeOf (.builtin id) = pure (.type "method_descriptor")) (hm:MtR X id r) (ho:PE X o to) (ha:PA X (e :: es) t)
  (hbase:DU o name X.env (eval o X.env) = eval o X.env:=by rfl)
  (hfew:((backTo cpos (Av (e :: es) X.env)).all (fun x=>!x.1) && (DW cpos (Ck [] X.env)).all (fun x=>x.1.isSome)
   && decide ((e :: es).length + ([]:List Keyword).length + (if ([]:List Keyword).isEmpty then 0 else 1) < 30)) = true:=by rfl)
  (hline:(apos.endLine == cpos.line) = true:=by rfl) (hs:Av (e :: es) X.env = (false,eval e X.env) :: Av es X.env:=by rfl) (hplain:(backTo cpos (Av es X.env)).any (·.1) = false:=by rfl) :
  PE X (.Call (.Attribute o name apos) (e :: es) [] cpos) (tBM X.K T r to t):=by
 intro pins s σ H Q I h
 refine wpAny_Call_method_late hbase hfew hline rfl (thn (ho pins s σ H _ I h) fun v s1 ⟨x,H1,I1,r1,ty,q1⟩=>?_)
 obtain ⟨h1,h2⟩:=aKO I1 r1 ty
 refine ⟨T,id,pa,slot,hty,h1,h2,?_⟩
 have hA:=ha cpos pins s1 σ H1 _ I1 q1
 rw [hs] at hA ⊢
 refine Calls.callWith_builtin (by show (false || (backTo cpos (Av es X.env)).any (·.1)) = false;rw [hplain] <;> rfl) (Calls.evalArgs_plain ?_)
 exact thn hA fun us s2 ⟨vs,H2,I2,r2,q2⟩=>hm pins s2 σ H2 x vs v us Q I2 r1 r2 q2
end
end L2
namespace L2
open PySem PySem.Spec PyProof.Rows
def MtM (X:Cx) (id:String) (r:V → List V → Hp → VK → Prop):Prop :=
 ∀ (pins:List (Addr × Obj)) (s:Shared) (σ:St) (H:Hp) (x:V) (xs:List V) (v:Value) (us:List Value) (Q:VK),Inv X pins σ H s → bJ x v → bK xs us → r x xs H Q →
  wpAny (model X.prog X.w) X.A (call (.builtin id) (v :: us)) (EP X pins σ Q) X.xe s
theorem bK.one:∀ {x:V} {us:List Value},bK [x] us → ∃ u,us = [u] ∧ bJ x u
 | _,_,.cons r .nil=>⟨_,rfl,r⟩
theorem bK.two:∀ {x y:V} {us:List Value},bK [x,y] us → ∃ u v,us = [u,v] ∧ bJ x u ∧ bJ y v
 | _,_,_,.cons r (.cons q .nil)=>⟨_,_,rfl,r,q⟩
theorem bK.zero:∀ {us:List Value},bK [] us → us = []
 | _,.nil=>rfl
theorem bK.eraseIdx:∀ {xs:List V} {us:List Value} (i:Nat),bK xs us → bK (xs.eraseIdx i) (us.eraseIdx i)
 | _,_,_,.nil=>.nil
 | _,_,0,.cons _ t=>t
 | _,_,i + 1,.cons r t=>.cons r (bK.eraseIdx i t)
theorem yS {α:Type}:∀ (l:List α) (i:Nat),(l.eraseIdx i).length ≤ l.length
 | [],_=>AQ _
 | _ :: _,0=>Cr _
 | _ :: r,i + 1=>Nat.succ_le_succ (yS r i)
section
variable {X:Cx} {pins:List (Addr × Obj)} {σ:St} {H:Hp} {s:Shared} {l b:Addr} {xs ys zs:List V}
theorem Inv.lset {its its':List Value} {n:Nat} {f:Array Value → Array Value} {t':Nat} (I:Inv X pins σ H s) (hH:H l = some (.lst xs))
  (e:s.heap.get? l = some { cls:=.type "list",data:=.seq its.toArray n }) (hf:f its.toArray = its'.toArray) (hv:bK ys its') (hz:ys.length ≤ Ar) :
  Inv X pins σ (upd H l (.lst ys)) { s with heap:=s.heap.update l (BQ f),toks:=t' }:=by
 have q:=PySem.IsL.update e f
 rw [hf] at q
 refine I.write (x:=l) (e:=l) (by rw [hH];exact trivial) (.inl rfl) (fun b' u hb hu=>(Bf s.heap (BQ f) (Ne.symm hb)).trans hu) ⟨_,q⟩ ?_
 exact ⟨hz,its',_,hv,q⟩
theorem Inv.lnew {its:List Value} {t':Nat} (I:Inv X pins σ H s) (hv:bK ys its) (hz:ys.length ≤ Ar) :
  Inv X pins σ (upd H s.heap.objs.size (.lst ys)) { s with heap:=s.heap.push { cls:=.type "list",data:=.seq its.toArray },toks:=t' } :=
 I.laid (fun _ _ q=>AE _ q) (AQ _) ⟨hz,its,0,hv,Ad _ rfl⟩
theorem Inv.fresh (I:Inv X pins σ H s):H s.heap.objs.size = none:=I.hok.fresh (AQ _)
theorem Inv.lstM (I:Inv X pins σ H s) (hH:H l = some (.lst xs)):xs.length ≤ Ar ∧ ∃ (its:List Value) (n:Nat),bK xs its ∧ xs.length = its.length ∧ s.heap.get? l = some { cls:=.type "list",data:=.seq its.toArray n }:=by
 obtain ⟨z,its,n,r,e⟩:=I.hok l _ hH
 exact ⟨z,its,n,r,r.length,e⟩
end
section
variable {X:Cx}
def aPL:V → List V → Hp → VK → Prop:=fun x vs H Q=>∃ l xs y,x = .ref l ∧ vs = [y] ∧ H l = some (.lst xs) ∧ xs.length < Ar ∧ Q .non (upd H l (.lst (xs ++ [y])))
theorem fK:MtM X "list.append" aPL:=by
 intro pins s σ H x vs v us Q I rx rv h
 obtain ⟨l,xs,y,rfl,rfl,hH,hz,q⟩:=h
 cases rx
 obtain ⟨u,rfl,ru⟩:=rv.one
 obtain ⟨z,its,n,r,hl,e⟩:=I.lstM hH
 refine call_meets F.slot_list_append ⟨_,e,rfl⟩ F.entry_list_append (F.args_list_append_2 _ _) (PySem.list_append l its.toArray n u (by rw [AS];omega)) ⟨e,?_⟩
 refine ⟨.non,_,I.lset (its':=its ++ [u]) hH e (by simp) (r.append (.cons ru .nil)) ?_,rfl,q⟩
 rw [Ai,CB]
 omega
def aSM:V → List V → Hp → VK → Prop:=fun x vs H Q=>∃ l xs i k y,x = .ref l ∧ vs = [.int i] ∧ H l = some (.lst xs) ∧ -(2 ^ 63) ≤ i ∧ i < 2 ^ 63 ∧ seqIndex? i xs.length = some k ∧ xs[k]? = some y ∧ Q y (upd H l (.lst (xs.eraseIdx k)))
theorem aDC:MtM X "list.pop" aSM:=by
 intro pins s σ H x vs v us Q I rx rv h
 obtain ⟨l,xs,i,k,y,rfl,rfl,hH,h1,h2,hk,hy,q⟩:=h
 cases rx
 obtain ⟨u,rfl,ru⟩:=rv.one
 obtain ⟨t,rfl⟩:=ru
 obtain ⟨z,its,n,r,hl,e⟩:=I.lstM hH
 obtain ⟨w,hw,rw'⟩:=r.get hy
 refine call_meets F.slot_list_pop ⟨_,e,rfl⟩ F.entry_list_pop (F.args_list_pop_2 _ _)
  (MeetsSeq.list_pop_at l its.toArray n i t k w (fitsIndex_both h1 h2) (by rw [AS,← hl];exact hk) (by rw [← CO];exact hw) (by rw [AS];omega)) ⟨e,?_⟩
 refine ⟨y,_,I.lset (its':=its.eraseIdx k) hH e ?_ (r.eraseIdx k) ?_,rw',q⟩
 ·show its.toArray.eraseIdxIfInBounds k = (its.eraseIdx k).toArray
  rw [List.eraseIdxIfInBounds_toArray]
 ·have:=yS xs k
  omega
def aWL:R2:=fun x y H Q=>∃ l b xs zs,x = .ref l ∧ y = .ref b ∧ H l = some (.lst xs) ∧ H b = some (.lst zs) ∧ xs.length + zs.length ≤ Ar ∧ ∀ p,H p = none → Q (.ref p) (upd H p (.lst (xs ++ zs)))
theorem aAU:OpR X (DV .Add) aWL:=by
 intro pins s σ H x y v u Q I rx ry h
 obtain ⟨l,b,xs,zs,rfl,rfl,hH,hB,hz,q⟩:=h
 cases rx
 cases ry
 obtain ⟨z,its,n,r,hl,e⟩:=I.lstM hH
 obtain ⟨z2,its2,n2,r2,hl2,e2⟩:=I.lstM hB
 refine PySem.P.add_list e e2 ?_ (by rw [AS,AS];omega)
 have ea:its.toArray ++ its2.toArray = (its ++ its2).toArray:=by simp
 rw [ea]
 exact ⟨.ref _,_,I.lnew (t':=s.toks) (r.append r2) (by rw [Ai];omega),rfl,q _ I.fresh⟩
end
section
variable {prog:Program} {w:World} {A:Around} {E:Value → Shared → Prop} {s:Shared}
end
section
variable {X:Cx}
end
end L2
namespace Att
open PySem PySem.W PySem.Calls PyProof.Rows
theorem uB {P:Params} {h:Heap}:∀ (ns:List Int) (vs:List Value),WellAll P h vs (ns.map WData.int) → IntsAre vs ns:=by
 intro ns
 induction ns with
 | nil =>
  intro vs w
  rw [Ch] at w
  cases w
  exact .nil
 | cons n ns ih =>
  intro vs w
  rw [AY] at w
  cases w with
  | cons a b =>
   cases a
   exact .cons _ _ (ih _ b)
theorem aIW {l:OpenLaw} {n:Nat} (hn:l.most = some n) {P:Params} {h:Heap} {args:List WData} {vals:List Value}
  (hpre:l.row.toRowW.claim.pre args = true) (hwl:WellAll P h vals args) :
  ∃ a vs ns,vals = [Ap a] ∧ args = [WData.list (ns.map WData.int)] ∧ h.get? a = some { cls:=.type "list",data:=.seq vs.toArray } ∧ IntsAre vs ns ∧ ns.length ≤ n:=by
 have hsh:WShape.hasAll [] args [.list .int] = true:=(pre_splitW hpre).1
 have hc:l.pre.holds [] { args:=args } = true:=(pre_splitW hpre).2
 obtain ⟨d,r,rfl,h1,h2⟩:=hasAllW_cons hsh
 obtain rfl:=hasAllW_nil h2
 obtain ⟨xs,rfl,h3⟩:=hasW_list h1
 obtain ⟨ns,rfl⟩:=items_int h3
 have hlen:ns.length ≤ n:=by
  unfold OpenLaw.pre at hc
  have h4:(WTm.not (.lt (.lit (.int (n:Int))) (.len (.arg 0)))).holds [] { args:=[.list (ns.map .int)] } = true:=by
   have h4:=(holds_andW hc).1
   rw [hn] at h4
   exact h4
  have h5:=condW_of h4 (w_not (w_lt w_lit (w_len_list (w_arg rfl))))
  rw [AA] at h5
  refine Nat.le_of_not_lt fun q=>?_
  have q':(n:Int) < ((ns.length:Nat):Int):=by omega
  first
   | (rw [decide_eq_true q'] at h5;exact absurd h5 (by decide))
   | (simp at h5;omega)
 cases hwl with
 | cons w1 w2 =>
  cases w2
  cases w1 with
  | list ho hall=>exact ⟨_,_,ns,rfl,rfl,ho,uB ns _ hall,hlen⟩
theorem aJB (l:OpenLaw) (args:List WData):l.row.toRowW.claim.post args (.bool true) args = true :=
 postW_of (r:=l.row.toRowW) (X:=(true == true))
  (show WShape.has [] (.bool true) .bool = true by first | rfl | decide | simp [WShape.has,WShape.arms,WShape.armsAll])
  (show (WTm.eq .res (.lit (.bool true))).value [] { args:=args,res:=some (.bool true),after:=args } = some (.bool (true == true)) from w_eq_bool (w_res rfl) w_lit) rfl
theorem attach_call {l:OpenLaw} {n:Nat} {q:Program} {loose:List Str} {XP:(Str → Option Value) → Heap → Prop} {YP:World → Heap → Prop} {d:DefRec}
  (hn:l.most = some n) (hdf:d.params.defaults = [])
  (call:∀ (w:World) (s₀ s₁:Shared) (mg mb:Str → Option Value) (fa:Addr) (o:Obj) (pm cd doc:Value) (a:Addr) (vs:List Value) (ns:List Int),
   Ground q loose [] XP w s₀ mg mb s₁.heap → YP w s₁.heap →
   s₁.heap.get? fa = some o → o.data = .func (docDef d.name d.params d.body d.scope pm cd doc) → s₁.heap.CodeRec cd d.name → mg d.name = some (.ref fa) →
   s₁.heap.get? a = some { cls:=.type "list",data:=.seq vs.toArray } → IntsAre vs ns → ns.length ≤ n → s₁.gens = #[] →
   codeAny (model l.prog w) callerA (.call (.ref fa) ⟨[.ref a],[]⟩) (fun r s'=>r = .ok (.ret (.bool true)) ∧ OldK s₁.heap s'.heap ∧ s'.os = s₁.os ∧ AllBare s'.gens) s₁) :
  WalkO q loose XP YP l.row.toRowW d [] (fun f vs=>PySem.call f vs):=by
 intro w s₀ s₁ mg mb G Y fa o pm cd doc dV kV ho hd hcd hD hmg hg args vals as hpre hlay hrd hwl hlo
 obtain rfl:dV = .none:=Dflts.none hD hdf
 obtain rfl:kV = .none:=Dflts.noKw hD
 obtain ⟨a,vs,ns,rfl,rfl,hobj,hints,hlen⟩:=aIW hn hpre hwl
 refine enter_call (Cy (call w s₀ s₁ mg mb fa o pm cd doc a vs ns G Y ho (fd_plain hd) hcd hmg hobj hints hlen hg) fun r s' hq=>?_)
 obtain ⟨rfl,h2,h3,h4⟩:=hq
 exact ⟨.inl ⟨.bool true,.bool true,[],rfl,fun _=>rfl,.bool true,aJB l _,fun _=>⟨List.Pairwise.nil,fun _ hm=>(nomatch hm)⟩⟩,h2,h3,h4⟩
section
variable {prog:Program} {w:World} {A:Around} {E:Value → Shared → Prop} {s:Shared} {K:Frag}
def noObjs (h:Heap):Heap:={ h with objs:=#[] }
def ledger (h:Heap) (L d:Addr):List (Addr × Obj):=(Al h.objs.size).filterMap fun a=>if a = L ∨ a = d then none else (h.get? a).map fun o=>(a,o)
end
end Att
namespace L2
open PySem PySem.Spec PyProof.Rows
theorem xX:∀ {vs:List Value} {ns:List Int},IntsAre vs ns → bK (ns.map V.int) vs
 | _,_,.nil=>.nil
 | _,_,.cons n t h=>.cons ⟨t,rfl⟩ (xX h)
end L2
namespace L2
open PySem PySem.Spec PyProof.Rows
end L2
namespace L2
open PySem PySem.Spec PyProof.Rows
def iJ (s:Stmt) (j:Nat):Stmt:=match s with
 | .ClassDef _ _ _ body _ _ _ _ _ _ _=>body.getD j (.Pass ⟨0,0,0,0⟩)
 | _=>.Pass ⟨0,0,0,0⟩
def aL (s:Stmt):Dm:=match s with
 | .FunctionDef _ a _ _ _ _ _ _ _ _=>a
 | _=>{ posonlyargs:=[],args:=[],vararg:=none,kwonlyargs:=[],kw_defaults:=[],kwarg:=none,defaults:=[] }
def aJ (s:Stmt):List Stmt:=match s with
 | .FunctionDef _ _ b _ _ _ _ _ _ _=>b
 | _=>[]
def aB (s:Stmt):Scope:=match s with
 | .FunctionDef _ _ _ _ _ _ sc _ _ _=>sc
 | _=>{ kind:=.function,names:=[],isGenerator:=false,isCoroutine:=false }
abbrev CX0:CXT:=fun _ _ _ _ _ _=>False
abbrev E0:XK:=fun _ _ _=>False
theorem aHG {X:Cx}:pX CX0 X E0:=fun _ _ _ _ _ _ _ h=>h.elim
structure Fun (K:AG) (x qual:Str) (st:Stmt) (f:Addr) (fd:Bv):Prop where
 ex:∃ (oc:Value) (od:Option Addr) (kV doc pm:Value) (an:Option Addr) (cdv ct:Value) (osl:Array (Option Value)),
  fd = AM x qual (aL st) (aJ st) (aB st) .none kV doc pm an cdv ct ∧ K.lookup f = some ⟨oc,od,.func fd,osl⟩ ∧ AI K cdv qual = true
 kp:AF K (.ref f) = true
section
variable {P:Program} {w:World} {K:AG} {mg:Str → Option Value} {base:Heap}
theorem Fun.ok {x qual:Str} {st:Stmt} {f:Addr} {fd:Bv} {N ps:List Str} {k:Nat} {sp:Sp} (F:Fun K x qual st f fd) (S:FnScope N ps (aB st)) (len:∀ vs H Q E,sp vs H Q E → vs.length = ps.length)
  (hbody:∀ (cdv:Value) (A:Around) (outer:List Env) (s:Shared) (H:Hp) (vs:List V) (Q:VK) (E:XK),Room k (A.deeper (envOfC qual (aB st) s.heap.objs.size f cdv)) → sp vs H Q E →
   ∃ t,PSs (mJ CX0 P w K mg base N qual (aB st) f cdv A outer s H E).nox (aJ st) t ∧ t { nx:=fun _ H'=>Q .non H',rt:=Q } (start N vs) H):FnOk P w K mg base CX0 (k + 1) f fd ps sp:=by
 obtain ⟨oc,od,kV,doc,pm,an,cdv,ct,osl,rfl,lk,hcd⟩:=F.ex
 refine aRS lk hcd S len fun A outer s H vs Q E hr hsp=>?_
 obtain ⟨t,h,q⟩:=hbody cdv A outer s H vs Q E hr hsp
 exact ⟨t,h.nox,q⟩
theorem Fun.binds {x qual:Str} {st:Stmt} {f:Addr} {fd:Bv} {ps:List Str} (F:Fun K x qual st f fd)
  (h:∀ (kV doc pm:Value) (an:Option Addr) (cdv ct:Value) (us:List Value),us.length = ps.length → Ee (AM x qual (aL st) (aJ st) (aB st) .none kV doc pm an cdv ct) ⟨us,[]⟩ = pure (ps.zip us)):jZ K fd ps []:=by
 obtain ⟨oc,od,kV,doc,pm,an,cdv,ct,osl,rfl,lk,hcd⟩:=F.ex
 exact .all (h kV doc pm an cdv ct)
theorem sD {x qual:Str} {st:Stmt} {f:Addr} {oc:Value} {od an:Option Addr} {osl:Array (Option Value)} {kV doc pm cdv ct:Value} (l:K.lookup f = some ⟨oc,od,.func (AM x qual (aL st) (aJ st) (aB st) .none kV doc pm an cdv ct),osl⟩)
  (c:AI K cdv qual = true) (k:AF K (.ref f) = true):Fun K x qual st f (AM x qual (aL st) (aJ st) (aB st) .none kV doc pm an cdv ct):=⟨⟨oc,od,kV,doc,pm,an,cdv,ct,osl,rfl,l,c⟩,k⟩
end
theorem lC {A:Around} {k:Nat} (hr:Room k A):A.units + 1 < cLine:=Nat.lt_of_le_of_lt (Nat.add_le_add_left (by decide:1 ≤ 64) _) hr.units
section
variable {X:Cx}
theorem pv (i:Nat) {x:Str} {pos:Pos} (hN:X.N[i]? = some x:=by rfl) (hv:Vis X.env.scope x:=by first | exact Or.inl rfl | exact Or.inr (Or.inl rfl) | exact Or.inr (Or.inr rfl)) (hd:(x == ("__debug__":Str)) = false:=by decide)
  (hcd:(x == ("__classdict__":Str)) = false:=by decide):PE X (.Name x pos) (aOR i):=aSS hN hv hd hcd
end
theorem bS {A B:Prop} (h:B):if false = true then A else B:=by
 rw [if_neg AV]
 exact h
theorem dD {A B:Prop} (h:A):if true = true then A else B:=by
 rw [if_pos rfl]
 exact h
theorem nM {c A B:Prop} [Decidable c] (h1:c → A) (h2:¬ c → B):if c then A else B:=by
 by_cases h:c
 ·rw [if_pos h]
  exact h1 h
 ·rw [if_neg h]
  exact h2 h
def aI (H H':Hp):Prop:=∀ b o,H b = some o → H' b = some o
theorem aI.refl (H:Hp):aI H H:=fun _ _ h=>h
theorem aI.trans {H H1 H2:Hp} (a:aI H H1) (b:aI H1 H2):aI H H2:=fun c o h=>b c o (a c o h)
theorem aI.free {H H':Hp} (e:aI H H') {l:Addr} (h:H' l = Option.none):H l = Option.none:=by
 cases q:H l with
 | none=>rfl
 | some o =>
  rw [e l o q] at h
  cases h
theorem aI.seq {K:AG} {H H':Hp} {a:Addr} {xs:List V} (e:aI H H') (h:SqL K H a xs):SqL K H' a xs:=by
 rcases h with (h | ⟨o,h⟩) | h
 ·exact .inl (.inl (e _ _ h))
 ·exact .inl (.inr ⟨o,e _ _ h⟩)
 ·exact .inr h
end L2
namespace L2
open PySem PySem.Spec PyProof.Rows
section
variable {X:Cx}
end
section
variable {κ:Type} [DecidableEq κ]
theorem aKL {kvs:List (κ × V)} {k:κ} (h:eU kvs k = none):¬ k ∈ kvs.map (·.1):=by
 intro m
 obtain ⟨p,hp,e⟩:=AR.mp m
 have q:(kvs.any fun kv=>decide (kv.1 = k)) = true:=Dr.mpr ⟨p,hp,decide_eq_true e⟩
 rw [mL,h] at q
 exact absurd q (by simp)
theorem aOM {kvs:List (κ × V)} {k:κ} {v:V} (h:eU kvs k = some v):k ∈ kvs.map (·.1):=by
 have q:(kvs.any fun kv=>decide (kv.1 = k)) = true:=by
  rw [mL,h]
  all_goals rfl
 obtain ⟨p,hp,e⟩:=Dr.mp q
 exact AR.mpr ⟨p,hp,of_decide_eq_true e⟩
end
end L2
namespace Tx
open PySem PySem.Builtin PySem.Builtin.Str
def cl (n d:Nat):Option Int → Nat
 | none=>d
 | some i=>(max 0 (min (if i < 0 then i + n else i) n)).toNat
theorem cl_nat (n d k:Nat):cl n d (some (k:Int)) = min k n:=by
 show (max 0 (min (if (k:Int) < 0 then (k:Int) + n else (k:Int)) n)).toNat = min k n
 rw [if_neg (by omega)]
 omega
theorem aRT (n d:Nat) (hd:d ≤ n):∀ o,cl n d o ≤ n
 | none=>hd
 | some i=>by
  show (max 0 (min (if i < 0 then i + n else i) n)).toNat ≤ n
  omega
theorem aFI (lo hi:Option Int) (n:Nat):strSliceIndices lo hi 1 n = (Al (cl n n hi - cl n 0 lo)).map (cl n 0 lo + ·):=by
 have h1:∀ (v:Option Int) (d:Nat),d ≤ n → (match v with | none=>(d:Int) | some i=>if (1:Int) > 0 then max 0 (min (if i < 0 then i + n else i) n) else max (-1) (min (if i < 0 then i + n else i) (n - 1))) = ((cl n d v:Nat):Int):=by
  intro v d hd
  cases v with
  | none=>rfl
  | some i =>
   show (if (1:Int) > 0 then max 0 (min (if i < 0 then i + n else i) n) else max (-1) (min (if i < 0 then i + n else i) (n - 1))) = (((max 0 (min (if i < 0 then i + n else i) n)).toNat:Nat):Int)
   rw [if_pos (by decide)]
   omega
 rw [← sliceRange_one]
 unfold strSliceIndices
 have a:=h1 lo 0 (BT _)
 have b:=h1 hi n (AQ _)
 simp only [show (1:Int) > 0 by decide,if_true] at a b ⊢
 congr 1
theorem slice_codes (x:Str) (lo hi:Option Int):(Cl x lo hi).cps.toList = (x.cps.toList.drop (cl x.length 0 lo)).take (cl x.length x.length hi - cl x.length 0 lo):=by
 unfold Cl
 rw [aFI]
 split
 ·rename_i h
  have h':cl x.length x.length hi - cl x.length 0 lo = x.length:=by
   have:=(BK.mp h).2
   have:=beq_iff_eq.mp this
   simpa using this
  have h2:=aRT x.length x.length (AQ _) hi
  have h4:=aRT x.length 0 (BT _) lo
  have h3:cl x.length 0 lo = 0:=by omega
  rw [h',h3,FJ,AH]
  show x.cps.toList.length ≤ x.cps.size
  simp
 ·rw [pick_run]
theorem app_codes (a b:Str):(a ++ b).cps.toList = a.cps.toList ++ b.cps.toList:=by
 simp [Str.cps_append]
theorem app_len (a b:Str):(a ++ b).length = a.length + b.length:=Str.length_append a b
end Tx
set_option maxHeartbeats 4000000
namespace L2
open PySem PySem.Spec PyProof.Rows
theorem nQ {env:Env} {f:(Str × BE) → List (Str × Addr) → Sem (ForInStep (List (Str × Addr)))}
  (hf:∀ n k cs,f (n,k) cs = if (k == BC) = true then (cellOf env n >>= fun c=>pure (Be ((n,c) :: cs))) else pure (Be cs)) :
  ∀ (names:List (Str × BE)) (acc:List (Str × Addr)),
  (∀ y ∈ names,y.2 = .free → ∃ c,env.cells.lookup y.1 = some c) →
  (∀ x c,acc.lookup x = some c → env.cells.lookup x = some c) →
  ∃ cl,forIn names acc f = (pure cl:Sem _) ∧ (∀ x c,cl.lookup x = some c → env.cells.lookup x = some c) ∧ (∀ x c,acc.lookup x = some c → ∃ d,cl.lookup x = some d) ∧
   ∀ x,(x,BC) ∈ names → ∃ c,cl.lookup x = some c
 | [],acc,_,ha=>⟨acc,rfl,ha,fun x c e=>⟨c,e⟩,fun x m=>absurd m (by simp)⟩
 | (n,k) :: r,acc,hn,ha=>by
  have hr:∀ y ∈ r,y.2 = .free → ∃ c,env.cells.lookup y.1 = some c:=fun y hy=>hn y (AO _ hy)
  by_cases hk:k = .free
  ·subst hk
   obtain ⟨c,hc⟩:=hn (n,.free) AU rfl
   have hcell:cellOf env n = pure c:=by
    have hc':env.cells.lookup n = some c:=hc
    unfold cellOf
    rw [hc']
   have ha':∀ x d,CK x ((n,c) :: acc) = some d → env.cells.lookup x = some d:=fun x d e=>by
    by_cases hx:(x == n) = true
    ·rw [BN,hx] at e
     obtain rfl:=beq_iff_eq.mp hx
     cases e
     exact hc
    ·have hx':(x == n) = false:=by simpa using hx
     rw [BN,hx'] at e
     exact ha x d e
   obtain ⟨cl,e1,e2,e3,e4⟩:=nQ hf r ((n,c) :: acc) hr ha'
   refine ⟨cl,?_,e2,fun x d e=>?_,fun x m=>?_⟩
   ·rw [DR,hf,if_pos (beq_self_eq_true _),hcell,pure_bind,pure_bind]
    exact e1
   ·by_cases hx:(x == n) = true
    ·exact e3 x c (by rw [BN,hx])
    ·have hx':(x == n) = false:=by simpa using hx
     exact e3 x d (by rw [BN,hx'];exact e)
   ·rcases Af.mp m with q | q
    ·have q':x = n:=congrArg Prod.fst q
     subst q'
     exact e3 x c (by rw [BN,beq_self_eq_true])
    ·exact e4 x q
  ·have hk':(k == BC) = false:=by simpa using hk
   obtain ⟨cl,e1,e2,e3,e4⟩:=nQ hf r acc hr ha
   refine ⟨cl,?_,e2,e3,fun x m=>?_⟩
   ·rw [DR,hf,hk',if_neg AV,pure_bind]
    exact e1
   ·rcases Af.mp m with q | q
    ·exact absurd (congrArg Prod.snd q).symm hk
    ·exact e4 x q
theorem xB {scope:Scope} {env:Env} (h:∀ y ∈ scope.names,y.2 = .free → ∃ c,env.cells.lookup y.1 = some c) :
  ∃ cl,Ex scope env = pure cl ∧ (∀ x c,cl.lookup x = some c → env.cells.lookup x = some c) ∧ ∀ x,(x,BC) ∈ scope.names → ∃ c,cl.lookup x = some c:=by
 obtain ⟨cl,e1,e2,_,e4⟩:=nQ (env:=env) (f:=fun (x:Str × BE) cs=>match x with | (name,kind)=>if (kind == BC) = true then (cellOf env name >>= fun c=>pure (Be ((name,c) :: cs))) else pure (Be cs)) (fun n k cs=>rfl) scope.names [] h (fun x c e=>by cases e)
 refine ⟨cl,?_,e2,e4⟩
 have:Ex scope env = (forIn scope.names [] (fun (x:Str × BE) cs=>match x with | (name,kind)=>if (kind == BC) = true then (cellOf env name >>= fun c=>pure (Be ((name,c) :: cs))) else pure (Be cs)) >>= fun cs=>pure cs):=by
  first | rfl | (unfold Ex;rfl) | (unfold Ex;simp only [pure_bind,bind_pure])
 rw [this,e1,pure_bind]
theorem iZ {env:Env}:∀ {names:List (Str × BE)} {x:Str},names.lookup x = some .free →
  (names.map fun (n,k)=>if (k == BC && env.scope.kind == .function && env.kindOf n == some .cell) then (n,CG) else (n,k)).lookup x = some .cell ∨
  (names.map fun (n,k)=>if (k == BC && env.scope.kind == .function && env.kindOf n == some .cell) then (n,CG) else (n,k)).lookup x = some .free
 | [],_,h=>by simp at h
 | (n,k) :: r,x,h=>by
  have ih:=@iZ env r x
  show CK x ((if (k == BC && env.scope.kind == .function && env.kindOf n == some .cell) = true then (n,CG) else (n,k)) :: _) = _ ∨ CK x ((if (k == BC && env.scope.kind == .function && env.kindOf n == some .cell) = true then (n,CG) else (n,k)) :: _) = _
  cases hx:x == n with
  | true =>
   simp only [BN,hx] at h
   cases h
   by_cases hc:(BC == BC && env.scope.kind == .function && env.kindOf n == some .cell) = true
   ·rw [if_pos hc];left;simp only [BN,hx]
   ·rw [if_neg hc];right;simp only [BN,hx]
  | false =>
   simp only [BN,hx] at h
   by_cases hc:(k == BC && env.scope.kind == .function && env.kindOf n == some .cell) = true
   ·rw [if_pos hc];simp only [BN,hx];exact ih h
   ·rw [if_neg hc];simp only [BN,hx];exact ih h
theorem kU {env:Env}:∀ {names:List (Str × BE)} {x:Str},(∀ y ∈ names,y.2 ≠ .cell) →
  ((names.map fun (n,k)=>if (k == BC && env.scope.kind == .function && env.kindOf n == some .cell) then (n,CG) else (n,k)).lookup x = some .cell ∨
  (names.map fun (n,k)=>if (k == BC && env.scope.kind == .function && env.kindOf n == some .cell) then (n,CG) else (n,k)).lookup x = some .free) → (x,BC) ∈ names
 | [],_,_,h=>by rcases h with h | h <;> simp at h
 | (n,k) :: r,x,hn,h=>by
  have ih:=@kU env r x (fun y hy=>hn y (AO _ hy))
  have h':CK x ((if (k == BC && env.scope.kind == .function && env.kindOf n == some .cell) = true then (n,CG) else (n,k)) :: (r.map fun (n,k)=>if (k == BC && env.scope.kind == .function && env.kindOf n == some .cell) then (n,CG) else (n,k))) = some .cell ∨
   CK x ((if (k == BC && env.scope.kind == .function && env.kindOf n == some .cell) = true then (n,CG) else (n,k)) :: (r.map fun (n,k)=>if (k == BC && env.scope.kind == .function && env.kindOf n == some .cell) then (n,CG) else (n,k))) = some .free:=h
  cases hx:x == n with
  | true =>
   obtain rfl:=beq_iff_eq.mp hx
   have hk:k = .free:=by
    by_cases hc:(k == BC && env.scope.kind == .function && env.kindOf x == some .cell) = true
    ·have:=(BK.mp (BK.mp hc).1).1
     exact beq_iff_eq.mp this
    ·rw [if_neg hc] at h'
     simp only [BN,hx] at h'
     rcases h' with e | e
     ·cases e;exact absurd rfl (hn (x,.cell) AU)
     ·cases e;rfl
   subst hk
   exact AU
  | false =>
   refine AO _ (ih ?_)
   by_cases hc:(k == BC && env.scope.kind == .function && env.kindOf n == some .cell) = true
   ·rw [if_pos hc] at h';simp only [BN,hx] at h';exact h'
   ·rw [if_neg hc] at h';simp only [BN,hx] at h';exact h'
structure BlkR where
 cl:List (Str × Addr)
 C:Addr
 s₀:Shared
 H₀:Hp
 ex:List Addr
abbrev blk (X:Cx) (scope:Scope) (N':List Str) (R:BlkR):Cx :=
 { prog:=X.prog,w:=X.w,K:=X.K,mg:=X.mg,base:=X.base,A:=X.A,N:=N',s₀:=R.s₀,H₀:=R.H₀,env:=compEnvC scope R.cl R.C X.env,outer:=X.stack,stack:=X.stack,ex:=R.ex,fn:=fun _=>false,calm:=X.calm,pn:=[],xe:=fun _ _=>False }
def aOK (X:Cx) (ifs:List Expr) (t:TT):Prop :=
 ∀ (pins:List (Addr × Obj)) (s:Shared) (σ:St) (H:Hp) (Q:Bool → Hp → Prop),Inv X pins σ H s → t σ H Q →
  wpAny (model X.prog X.w) X.A (forIn ifs true fun c r=>if r = true then do let ok ← isTrue c X.env (eval c X.env);pure (Be ok) else pure (Be r)) (TP X pins σ Q) X.xe s
def aUD:TT:=fun _ H Q=>Q true H
theorem cC {X:Cx}:aOK X [] aUD:=fun pins s σ H Q I h=>wpAny_tests_nil ⟨H,I,h⟩
theorem fF {X:Cx} {c:Expr} {t:TT} (h:PT X c t):aOK X [c] t:=fun pins s σ H Q I hw=>wpAny_tests_one (h pins s σ H Q I hw)
def aII (nt:Nat) (g:TG):Prop:=∀ x σ H Q,g x σ H Q → g x σ H fun σ2 H2=>Q σ2 H2 ∧ σ2.length = σ.length ∧ ∀ i,nt ≤ i → σ2[i]? = σ[i]?
theorem aZ {nt i:Nat} (h:i < nt):aII nt (wK i):=fun x σ H Q q =>
 ⟨q,by simp,fun j hj=>EH (by omega)⟩
def nY (nt:Nat) (cap:List Nat) (σ:St):St:=List.replicate nt none ++ cap.map fun j=>(σ[j]?).join
theorem aKI {nt:Nat} {cap:List Nat} {σ:St}:(nY nt cap σ).length = nt + cap.length:=by simp [nY]
theorem zO {nt:Nat} {cap:List Nat} {σ:St} {i:Nat} {v:V} (h:(nY nt cap σ)[i]? = some (some v)):∃ j,nt ≤ i ∧ cap[i - nt]? = some j ∧ σ[j]? = some (some v):=by
 unfold nY at h
 by_cases hi:i < nt
 ·rw [Bd (by simpa using hi),List.getElem?_replicate] at h
  rw [if_pos hi] at h
  cases h
 ·rw [CN (by simp;omega),List.length_replicate,AK] at h
  cases e:cap[i - nt]? with
  | none=>rw [e] at h;cases h
  | some j =>
   rw [e] at h
   refine ⟨j,by omega,rfl,?_⟩
   have h':(σ[j]?).join = some v:=by simpa using h
   cases q:σ[j]? with
   | none=>rw [q] at h';cases h'
   | some o=>rw [q] at h';cases o with
    | none=>cases h'
    | some z=>cases h';rfl
theorem xA {prog:Program} {w:World} {A:Around} {R:Result → Shared → Prop} {s:Shared} {elt target iter:Expr} {ifs:List Expr} {scope:Scope} {pos:Pos} {it acc:Value} {env:Env} (I:Nat → Shared → Prop)
  (turn:∀ n s,I n s → wpAny (model prog w) A (pyNext it) (fun r s₁=>match r with
   | none=>R (.ok .next) s₁
   | some v=>wpAny (model prog w) A (ER target it v) (fun _ s₁=>wpAny (model prog w) A (assign target env v) (fun _ s₂ =>
     wpAny (model prog w) A (forIn ifs true fun c r=>if r = true then do let ok ← isTrue c env (eval c env);pure (Be ok) else pure (Be r)) (fun ok s₃ =>
      if ok = true then wpAny (model prog w) A (eval elt env) (fun x s₄ =>
       wpAny (model prog w) A (call (.builtin "list.append") [acc,x]) (fun _ s₅=>∃ m,m < n ∧ I m s₅) (notedBy (model prog w) A env fun e s'=>R (.error e) s') s₄) (notedBy (model prog w) A env fun e s'=>R (.error e) s') s₃
      else ∃ m,m < n ∧ I m s₃) (notedBy (model prog w) A env fun e s'=>R (.error e) s') s₂) (notedBy (model prog w) A env fun e s'=>R (.error e) s') s₁) (notedBy (model prog w) A env fun e s'=>R (.error e) s') s₁) (notedBy (model prog w) A env fun e s'=>R (.error e) s') s)
  (n:Nat) (h:I n s) :
  codeAny (model prog w) A (.compLoop (.ListComp elt [⟨target,iter,ifs,0⟩] scope pos) 0 it acc env) R s:=by
 refine codeAny_loop rfl I (fun n s hI=>?_) n h
 show wpAny _ A ((compTurn (.ListComp elt [⟨target,iter,ifs,0⟩] scope pos) 0 it acc env).onRaise (fun x=>do noteFrame x env;theTreesLotGoes x)) _ _ s
 refine wpAny_noted ?_
 rw [compTurn_list]
 refine AD (Er (AD (BL (turn n s hI) (fun r s₁ h₁=>?_) fun _ _ h'=>h')))
 cases r with
 | none=>exact AT h₁
 | some v =>
  refine AD (BL h₁ (fun _ s₁' h₁'=>?_) fun _ _ h'=>h')
  refine AD (BL h₁' (fun _ s₂ h₂=>AD (BL h₂ (fun ok s₃ h₃=>?_) fun _ _ h'=>h')) fun _ _ h'=>h')
  cases ok with
  | false=>exact AT ⟨rfl,h₃⟩
  | true =>
   exact AD (AD (BL h₃ (fun x s₄ h₄=>AD (BL h₄ (fun _ s₅ h₅=>AT (AT ⟨rfl,h₅⟩)) fun _ _ h'=>h')) fun _ _ h'=>h'))
abbrev CW:=Nat → Nat → List V → Hp → Prop
def yA (σb:St) (J:It) (g:TG) (tt:TT) (te:TE) (W:CW) (fin:List V → Hp → Prop) (i m:Nat) (ys:List V) (H:Hp):Prop :=
 (J.stop i H ∧ fin ys H) ∨
 (J.go i H ∧ ys.length < Ar ∧ ∀ x H',J.yld i H x H' → g x σb H' fun σ2 H2=>tt σ2 H2 fun b H3 =>
  if b = true then te σ2 H3 fun y H4=>∃ m',m' < m ∧ W (i + 1) m' (ys ++ [y]) H4 else ∃ m',m' < m ∧ W (i + 1) m' ys H3)
structure BlkEnd (X:Cx) (pins:List (Addr × Obj)) (H:Hp) (C:Addr) (s:Shared):Prop where
 ns:∃ m,s.heap.Ns C m
 fr:H C = none
 ne:C ≠ X.env.locals
 ab:X.s₀.heap.objs.size ≤ C
 cl:∀ x c,X.env.cells.lookup x = some c → c ≠ C
 pn:∀ p ∈ X.pn ++ pins,p.1 ≠ C
theorem wZ {X:Cx} {pins:List (Addr × Obj)} {σ:St} {s₂:Shared} {H₂:Hp} {elt iter tg:Expr} {ifs:List Expr} {scope:Scope} {pos:Pos} {N':List Str} {nt:Nat} {cap:List Nat} {g:TG} {tt:TT} {te:TE} {cl:List (Str × Addr)}
  {it:Addr} {fp:List Addr} {tn:Nat → Heap → Prop} {J:It} {Q:List V → Hp → Prop} {E:Value → Shared → Prop}
  (hc:X.calm = true) (I₂:Inv X pins σ H₂ s₂) (T:Turn X.prog X.w X.K tg J fp it tn) (st:tn 0 s₂.heap) (hf:∀ b ∈ fp,aBR X pins H₂ b)
  (hclk:∀ x c,cl.lookup x = some c → X.env.cells.lookup x = some c) (hclh:∀ x,(x,BC) ∈ scope.names → ∃ c,cl.lookup x = some c)
  (hcell:∀ y ∈ scope.names,y.2 ≠ .cell) (hkind:scope.kind = .function)
  (hfr:∀ y ∈ scope.names,y.2 = .free → (X.env.kindOf y.1 = some .cell ∨ X.env.kindOf y.1 = some .free))
  (hN:N'.length = nt + cap.length) (hcapN:∀ (k j:Nat),cap[k]? = some j → N'[nt + k]? = X.N[j]?) (hcapF:∀ x ∈ N'.drop nt,scope.names.lookup x = some .free)
  (hg:∀ R,PG (blk X scope N' R) tg g) (hgk:aII nt g) (ht:∀ R,aOK (blk X scope N' R) ifs tt) (he:∀ R,PE (blk X scope N' R) elt te)
  (h:∃ W:CW,(∃ m,W 0 m [] H₂) ∧ ∀ i m ys H,W i m ys H → yA (nY nt cap σ) J g tt te W Q i m ys H)
  {RR:Value → Addr → Result → Shared → Prop}
  (hRR:∀ D C s' H' ys,H' D = none → Q ys H' → Inv X pins σ (upd H' D (.lst ys)) s' → BlkEnd X pins (upd H' D (.lst ys)) C s' → RR (.ref D) C (.ok .next) s') :
  wpAny (model X.prog X.w) X.A (newList []) (fun acc s₃=>wpAny (model X.prog X.w) X.A (newFunctionEnv scope X.env.globals cl [] X.env.qual none .none (some X.env)) (fun cenv s₄ =>
   codeAny (model X.prog X.w) X.A (.compStart (.ListComp elt [⟨tg,iter,ifs,0⟩] scope pos) 0 (.ref it) acc { cenv with scope:=relabel scope X.env }) (RR acc cenv.locals) s₄) E s₃) E s₂:=by
 obtain ⟨W,⟨m0,w0⟩,turn⟩:=h
 refine DO (wpAny_newFunctionEnv hcell (by intro y hy;simp at hy) (fun h₁ hns₁ hsb₁=>?_) hkind)
 dsimp only at hns₁ hsb₁ ⊢
 generalize hH2:s₂.heap.push { cls:=.type "list",dict:=none,data:=.seq ([]:List Value).toArray } = Hx at hns₁ hsb₁ ⊢
 have hC:Hx.objs.size = s₂.heap.objs.size + 1:=by rw [← hH2,DF]
 generalize hD:s₂.heap.objs.size = D at hC ⊢
 generalize hCC:Hx.objs.size = C at hns₁ hsb₁ hC ⊢
 have hDC:D ≠ C:=by omega
 have below:∀ b,b < s₂.heap.objs.size → b ≠ C ∧ b ≠ D:=fun b hb=>by omega
 have old:∀ b o,s₂.heap.get? b = some o → h₁.get? b = some o:=fun b o e=>hsb₁.extBut b o (below b (AZ e)).1 (AE _ (hH2 ▸ AE _ e))
 have hacc:h₁.get? D = some { cls:=.type "list",data:=.seq ([]:List Value).toArray }:=hsb₁.extBut _ _ hDC (AE _ (by rw [← hH2,← hD];exact Ad _ rfl))
 have freshD:H₂ D = none:=I₂.hok.fresh (by omega)
 have freshC:H₂ C = none:=I₂.hok.fresh (by omega)
 have fpo:∀ b ∈ fp,∃ o,s₂.heap.get? b = some o ∧ ∀ v,o.data ≠ .cell v:=T.obj 0 _ st
 have fplt:∀ b ∈ fp,b < s₂.heap.objs.size:=fun b hb=>let ⟨o,e,_⟩:=fpo b hb;AZ e
 have celllt:∀ x c,X.env.cells.lookup x = some c → c < s₂.heap.objs.size:=fun x c e=>let ⟨v,z⟩:=I₂.cell x c e;z.lt
 have pinlt:∀ p ∈ X.pn ++ pins,p.1 < s₂.heap.objs.size:=fun p hp=>AZ (I₂.pin p hp).1
 let R:BlkR:=⟨cl,C,s₂,H₂,fp⟩
 have okb:(blk X scope N' R).Ok:={
  mod:=I₂.mod
  kind:=hkind
  glob:=I₂.ok.glob
  blt:=I₂.ok.blt
  above:=(by show s₂.heap.objs.size ≤ C;omega)
  inj:=fun x y c e1 e2=>I₂.ok.inj x y c (hclk x c e1) (hclk y c e2)
  has:=fun x hx=>hclh x (kU hcell hx)
  cab:=fun x c hx _=>by cases hx
  hd:=I₂.ok.hd
  frames:=I₂.ok.frames
  stk:=.inl rfl
  exf:=fun b hb=>⟨(below b (fplt b hb)).1,fun x c e=>(hf b hb).2.2.2.2.1 x c (hclk x c e)⟩
  bs:=I₂.bs
  bsz:=BI I₂.ok.bsz I₂.sz
  noex:=fun b o e hb=>by
   rcases (hf b hb).2.2.2.1 with z | z
   ·exact I₂.ok.noex b o e z
   ·exact absurd (Ae (AZ e) (BI I₂.ok.bsz z)) (Cn _)
  exfs:=fun b hb z=>by
   rcases Af.mp (I₂.stkSub b z) with q | q
   ·exact (hf b hb).2.1 q
   ·exact (hf b hb).2.2.1 q
  funs:=I₂.stack
  frf:=I₂.stkFree }
 have nofs:∀ a,s₂.heap.objs.size ≤ a → a ∉ frs X.stack:=fun a ha z=>by
  rcases Af.mp (I₂.stkSub a z) with q | q
  ·exact absurd (Ae I₂.lt ha) (by rw [q];exact Cn _)
  ·exact I₂.nofs ha q
 have hDle:s₂.heap.objs.size ≤ D:=by omega
 have hCle:s₂.heap.objs.size ≤ C:=by omega
 have stat:∀ {H':Hp} {ob:Obj},(∀ b ∈ fp,H' b = none) → ∀ b ∈ fp,aBR (blk X scope N' R) [(D,ob)] H' b:=fun {H' ob} hn b hb =>
  ⟨hn b hb,(below b (fplt b hb)).1,okb.exfs b hb,.inl hb,fun x c e=>(hf b hb).2.2.2.2.1 x c (hclk x c e),fun p hp=>by
   have e:p = (D,ob):=by simpa using hp
   rw [e]
   exact Ne.symm (below b (fplt b hb)).2⟩
 have entry:∀ tk,Inv (blk X scope N' R) [(D,{ cls:=.type "list",data:=.seq ([]:List Value).toArray })] (nY nt cap σ) H₂ { s₂ with heap:=h₁,toks:=tk }:=fun tk=>{
  ok:=okb
  os:=rfl
  bare:=I₂.bare
  base:=Un.kept old
  loc:=by
   refine ⟨_,hns₁,fun i x v e1 e2 e3=>?_⟩
   obtain ⟨j,hi,hj,hv⟩:=zO e2
   have hx:X.N[j]? = some x:=by
    rw [← hcapN _ _ hj,show nt + (i - nt) = i by omega]
    exact e1
   have hxm:x ∈ N'.drop nt:=by
    refine AN (i:=i - nt) ?_
    rw [Ec,show nt + (i - nt) = i by omega]
    exact e1
   have hfree:=hcapF x hxm
   have hmem:(x,BC) ∈ scope.names:=by
    have:∀ (l:List (Str × BE)),l.lookup x = some .free → (x,BC) ∈ l:=by
     intro l
     induction l with
     | nil=>intro q;cases q
     | cons a r ih =>
      intro q
      obtain ⟨n,k⟩:=a
      cases hxn:x == n with
      | true =>
       rw [BN,hxn] at q
       obtain rfl:=beq_iff_eq.mp hxn
       cases q
       exact AU
      | false =>
       rw [BN,hxn] at q
       exact AO _ (ih q)
    exact this _ hfree
   have hk:=hfr (x,.free) hmem rfl
   obtain ⟨m,hn,hl⟩:=I₂.loc
   have vis:Vis X.env.scope x:=by
    rcases hk with k | k
    ·exact .inr (.inl k)
    ·exact .inr (.inr k)
   obtain ⟨u,ru,lk⟩:=hl j x v hx hv vis
   refine ⟨u,ru,?_⟩
   rcases lk with ⟨k,_⟩ | ⟨k,c,hc1,hc2⟩
   ·exfalso
    rcases hk with z | z
    ·rw [z] at k;cases k
    ·rw [z] at k;cases k
   ·obtain ⟨d,hd⟩:=hclh x hmem
    have hd':=hclk x d hd
    rw [hc1] at hd'
    cases hd'
    refine .inr ⟨iZ hfree,c,hd,?_⟩
    obtain ⟨o,ho,hdat⟩:=hc2
    exact ⟨o,old c o ho,hdat⟩
  cell:=fun x c e=>by
   obtain ⟨v,o,ho,hdat⟩:=I₂.cell x c (hclk x c e)
   exact ⟨v,o,old c o ho,hdat⟩
  free:=freshC
  freeC:=fun x c e=>I₂.freeC x c (hclk x c e)
  pin:=fun p hp=>by
   have e:p = (D,{ cls:=.type "list",data:=.seq ([]:List Value).toArray }):=by simpa using hp
   subst e
   exact ⟨hacc,freshD,hDC,nofs D hDle,fun v z=>by cases z⟩
  hok:=I₂.hok.kept old
  len:=by rw [aKI,hN] }
 have loop:∀ tk,codeAny (model X.prog X.w) X.A (.compLoop (.ListComp elt [⟨tg,iter,ifs,0⟩] scope pos) 0 (.ref it) (.ref D) (compEnvC scope cl C X.env)) (RR (.ref D) C) { s₂ with heap:=h₁,toks:=tk }:=by
  intro tk
  refine xA (fun n s'=>∃ i ys H' its k,Inv (blk X scope N' R) [(D,{ cls:=.type "list",data:=.seq its.toArray k })] (nY nt cap σ) H' s' ∧ tn i s'.heap ∧ (∀ b ∈ fp,H' b = none) ∧ bK ys its ∧ ys.length ≤ Ar ∧ W i n ys H') ?_ m0
   ⟨0,[],H₂,[],0,entry tk,T.keep _ _ _ st fun b hb o e=>old b o e,fun b hb=>(hf b hb).1,.nil,BT _,w0⟩
  rintro n s3 ⟨i,ys,H3,its,k,I3,st3,fr3,rv,hz,w3⟩
  have pD:=I3.pin (D,{ cls:=.type "list",data:=.seq its.toArray k }) (by simp)
  rcases turn i n ys H3 w3 with ⟨stop,qn⟩ | ⟨go,hlt,step⟩
  ·-- the end
   refine BL (T.done (blk X scope N' R) rfl rfl rfl hc i _ s3 _ H3 (fun _ _=>False) I3 (stat fr3) st3 stop) (fun r s4 ⟨hr,I4⟩=>?_) fun _ _ z=>z.elim
   subst hr
   have pD4:=I4.pin (D,{ cls:=.type "list",data:=.seq its.toArray k }) (by simp)
   have b4:Un (frs X.stack) fp H₂ H3 s₂.heap s4.heap:=I4.base
   have u4:Un (frs X.stack) fp H₂ (upd H3 D (.lst ys)) s₂.heap s4.heap:={
    keep:=b4.keep
    slot:=b4.slot
    free:=fun b o e n hx=>by
     rw [aK (below b (AZ e)).2]
     exact b4.free b o e n hx
    there:=b4.there
    tups:=fun b xs e=>by
     have z:=b4.tups b xs e
     rw [aK (aY z pD4.2.1)]
     exact z
    frzs:=fun b o u e=>by
     have z:=b4.frzs b o u e
     rw [aK (aY z pD4.2.1)]
     exact z
    tbls:=fun b ps e=>by
     obtain ⟨more,z⟩:=b4.tbls b ps e
     exact ⟨more,by rw [aK (aY z pD4.2.1)];exact z⟩ }
   have hok4:HOk X.prog X.w (upd H3 D (.lst ys)) s4.heap:=fun b u e=>by
    by_cases hb:b = D
    ·subst hb
     rw [aF] at e
     cases e
     exact ⟨hz,its,k,rv,pD4.1⟩
    ·rw [aK hb] at e
     exact (I4.hok b u e).stay (fun c v _ q=>q) (fun c q=>by rw [aK (aY q pD4.2.1)];exact q) fun c xs q=>by rw [aK (aY q pD4.2.1)];exact q
   have I5:Inv X pins σ (upd H3 D (.lst ys)) s4:=I₂.call' I4.os u4 hok4 I4.bare fun b hb=>⟨(hf b hb).2.2.2.1,(hf b hb).2.1,(hf b hb).2.2.2.2.1,(hf b hb).2.2.2.2.2⟩
   refine hRR D C s4 H3 ys pD4.2.1 qn I5 ?_
   obtain ⟨m,hn,_⟩:=I4.loc
   exact ⟨⟨m,hn⟩,by rw [aK (Ne.symm hDC)];exact I4.free,fun z=>absurd I₂.lt (by rw [← z];exact Nat.not_lt.mpr hCle),BI I₂.sz hCle,fun x c e=>Ah (Ae (celllt x c e) hCle),fun p hp=>Ah (Ae (pinlt p hp) hCle)⟩
  ·-- a turn
   refine BL (T.item (blk X scope N' R) rfl rfl rfl hc i _ s3 _ H3 (fun _ _=>False) I3 (stat fr3) st3 go) (fun r s4 ⟨u,hr,h4⟩=>?_) fun _ _ z=>z.elim
   subst hr
   refine BL h4 (fun _ s5 ⟨x,H5,I5,r5,y5,st5,fr5⟩=>?_) fun _ _ z=>z.elim
   have I5':=I5.pinned (stat fr5) (T.obj _ _ st5)
   refine BL (hg R _ s5 _ H5 x u _ I5' r5 (hgk _ _ _ _ (step x H5 y5))) (fun _ s6 ⟨σ6,H6,I6,q6,l6,k6⟩=>?_) fun _ _ z=>z.elim
   refine BL (ht R _ s6 σ6 H6 _ I6 q6) (fun ok s7 ⟨H7,I7,q7⟩=>?_) fun _ _ z=>z.elim
   have weak:∀ {H8:Hp} {s8:Shared} {ps:List (Addr × Obj)},Inv (blk X scope N' R) ps σ6 H8 s8 → Inv (blk X scope N' R) ps (nY nt cap σ) H8 s8:=fun I8=>I8.weak (by rw [l6]) fun j v e=>by
    obtain ⟨_,hj,_,_⟩:=zO e
    rw [k6 j hj]
    exact e
   have tnK:∀ {H8:Hp} {s8:Shared} {σ8:St},Inv (blk X scope N' R) ([(D,{ cls:=.type "list",data:=.seq its.toArray k })] ++ mZ fp s5.heap) σ8 H8 s8 → tn (i + 1) s8.heap ∧ ∀ b ∈ fp,H8 b = none:=fun {H8 s8 σ8} I8 =>
    ⟨T.keep _ _ _ st5 fun b hb o e=>(I8.pin (b,o) (An _ (An _ (lT hb e)))).1,fun b hb=>by
     obtain ⟨o,e,_⟩:=T.obj _ _ st5 b hb
     exact (I8.pin (b,o) (An _ (An _ (lT hb e)))).2.1⟩
   cases ok with
   | false =>
    rw [if_neg AV] at q7 ⊢
    obtain ⟨m',hm,w7⟩:=q7
    exact ⟨m',hm,i + 1,ys,H7,its,k,weak I7.unpinned,(tnK I7).1,(tnK I7).2,rv,hz,w7⟩
   | true =>
    rw [if_pos rfl] at q7 ⊢
    refine BL (he R _ s7 σ6 H7 _ I7 q7) (fun xv s8 ⟨y,H8,I8,ry,q8⟩=>?_) fun _ _ z=>z.elim
    obtain ⟨m',hm,w8⟩:=q8
    have pD8:=I8.pin (D,{ cls:=.type "list",data:=.seq its.toArray k }) (by simp)
    have hsz:its.toArray.size ≤ Ar:=by rw [AS,← rv.length];omega
    refine wpAny_list_append_plain (hsz:=hsz) ⟨k,pD8.1⟩ fun h9 hl9 hs9=>?_
    obtain ⟨k9,hl9⟩:=hl9
    have tn8:=tnK I8
    have I8':Inv (blk X scope N' R) (mZ fp s5.heap) (nY nt cap σ) H8 s8:=(weak I8).pins_of fun p hp=>I8.pin p (An _ (An _ hp))
    have I9:Inv (blk X scope N' R) (mZ fp s5.heap) (nY nt cap σ) H8 { s8 with heap:=h9 }:=I8'.turned (it:=D) (t':=s8.toks) (fun b o hb e=>hs9.extBut b o hb e) pD8.2.1 pD8.2.2.1 (.inr hDle)
     (fun x c e=>Ah (Ae (celllt x c (hclk x c e)) hDle)) fun p hp=>by
      have hp':p ∈ mZ fp s5.heap:=by simpa using hp
      exact Ah (Ae (fplt p.1 (yP hp').1) hDle)
    have e9:h9.get? D = some { cls:=.type "list",data:=.seq (its ++ [xv]).toArray k9 }:=by
     rw [hl9]
     simp
    refine ⟨m',hm,i + 1,ys ++ [y],H8,its ++ [xv],k9,I9.pins_of fun p hp=>?_,T.keep _ _ _ tn8.1 fun b hb o e=>hs9.extBut b o (Ah (Ae (fplt b hb) hDle)) e,tn8.2,rv.append (.cons ry .nil),by rw [Ai];exact hlt,w8⟩
    have e:p = (D,{ cls:=.type "list",data:=.seq (its ++ [xv]).toArray k9 }):=by simpa using hp
    subst e
    exact ⟨e9,pD8.2.1,pD8.2.2.1,pD8.2.2.2.1,fun v z=>by cases z⟩
 exact codeAny_compStart_list (loop _) (T.self _ 0 _ _ _ (T.keep _ _ _ st fun b hb o e=>old b o e) (loop _))
def aRG (nt:Nat) (cap:List Nat) (wi:TI) (g:TG) (tt:TT) (te:TE):TE:=fun σ H Q=>wi σ H fun J H1=>∃ W:CW,(∃ m,W 0 m [] H1) ∧ ∀ i m ys H,W i m ys H → yA (nY nt cap σ) J g tt te W (fun ys H'=>∀ p,H' p = none → Q (.ref p) (upd H' p (.lst ys))) i m ys H
theorem kE {α:Type} {l:List α} {p:α → Bool} (h:l.all p = true):∀ x ∈ l,p x = true:=fun x hx=>BA.mp h x hx
theorem cE {X:Cx} {elt iter tg:Expr} {ifs:List Expr} {scope:Scope} {pos:Pos} {wi:TI} {g:TG} {tt:TT} {te:TE} (N':List Str) (nt:Nat) (cap:List Nat)
  (hc:X.calm = true) (hi:PI X tg iter wi) (hg:∀ R,PG (blk X scope N' R) tg g) (hgk:aII nt g) (ht:∀ R,aOK (blk X scope N' R) ifs tt) (he:∀ R,PE (blk X scope N' R) elt te)
  (hcell:(scope.names.all fun y=>!(y.2 == .cell)) = true:=by rfl) (hkind:scope.kind = .function:=by rfl)
  (hnames:(scope.names.all fun y=>!(y.2 == .local) || (scope.names.lookup y.1 == some .local)) = true:=by rfl)
  (hfr:(scope.names.all fun y=>!(y.2 == .free) || (X.env.kindOf y.1 == some .cell || X.env.kindOf y.1 == some .free)) = true:=by rfl)
  (hN:N'.length = nt + cap.length:=by rfl) (hcapN:(cap.map fun j=>X.N[j]?) = (N'.drop nt).map some:=by rfl) (hcapF:((N'.drop nt).all fun x=>scope.names.lookup x == some .free) = true:=by rfl)
  (hs:∀ x,FG iter X.env x = pure x:=by intro _;rfl) :
  PE X (.ListComp elt [⟨tg,iter,ifs,0⟩] scope pos) (aRG nt cap wi g tt te):=by
 intro pins s σ H Q I h
 have hfr':∀ y ∈ scope.names,y.2 = .free → (X.env.kindOf y.1 = some .cell ∨ X.env.kindOf y.1 = some .free):=fun y hy e=>by
  have z:=kE hfr y hy
  rw [e] at z
  have z':(X.env.kindOf y.1 == some .cell || X.env.kindOf y.1 == some .free) = true:=z
  rcases Bool.or_eq_true_iff.mp z' with q | q
  ·exact .inl (beq_iff_eq.mp q)
  ·exact .inr (beq_iff_eq.mp q)
 have hcell':∀ y ∈ scope.names,y.2 ≠ .cell:=fun y hy e=>by
  have z:=kE hcell y hy
  rw [e] at z
  cases z
 obtain ⟨cl,hcl,hclk,hclh⟩:=xB (scope:=scope) (env:=X.env) fun y hy e=>I.ok.has y.1 (hfr' y hy e)
 have hnames':∀ y ∈ scope.names,y.2 = .local → scope.names.lookup y.1 = some .local:=fun y hy e=>by
  have z:=kE hnames y hy
  rw [e] at z
  exact beq_iff_eq.mp z
 have hcapN':∀ (k j:Nat),cap[k]? = some j → N'[nt + k]? = X.N[j]?:=fun k j e=>by
  have z:=congrArg (fun l:List (Option Str)=>l[k]?) hcapN
  simp only [AK,e,Option.map_some,Ec] at z
  cases q:N'[nt + k]? with
  | none=>rw [q] at z;cases z
  | some x=>rw [q] at z;exact (Aw z).symm
 rw [eval_ListComp]
 refine wpAny_comprehension_free (use:=none) rfl hs hcl hkind hnames' (thn (hi pins s σ H _ I h) fun v s1 h1=>thn h1 fun itv s2 h2=>?_)
 obtain ⟨it,fp,tn,J,H2,e,I2,T,st2,f2,hw⟩:=h2
 subst e
 refine wZ (RR:=fun acc C=>compPost (model X.prog X.w) X.A X.xe none (EP X pins σ Q) acc C) hc I2 T st2 f2 hclk hclh hcell' hkind hfr' hN hcapN' (fun x hx=>beq_iff_eq.mp (kE hcapF x hx)) hg hgk ht he hw ?_
 intro D C s' H' ys hD q I' B
 obtain ⟨m,hn⟩:=B.ns
 refine ⟨m,hn,fun h' hs'=>⟨.ref D,_,I'.turned (it:=C) (t':=s'.toks) (fun b o hb e=>hs'.extBut b o hb e) B.fr B.ne (.inr B.ab) B.cl B.pn,rfl,q D hD⟩⟩
end L2
namespace L2
open PySem PySem.Spec PyProof.Rows
section
variable {X:Cx}
def aTU:V → Option Value
 | .ty n=>some (.type n)
 | .ref a=>some (.ref a)
 | _=>none
theorem aOA {y:V} {c u:Value} (h:aTU y = some c) (r:bJ y u):u = c:=by
 cases y with
 | ty n=>cases h;exact r
 | ref a=>cases h;exact r
 | non=>cases h
 | bl b=>cases h
 | int i=>cases h
 | str x=>cases h
 | byt b=>cases h
 | flt b=>cases h
theorem aDW:fI X (.builtin "isinstance") (fun xs H Q=>∃ x y c t b,xs = [x,y] ∧ aTU y = some c ∧ TyOf X.K H x t ∧ CC X.K t c = some b ∧ Q (.bl b) H):=by
 intro pins s σ H xs us Q I r h
 obtain ⟨x,y,c,t,b,rfl,hc,ty,e,q⟩:=h
 obtain ⟨u,v,rfl,ru,rv⟩:=bK.two r
 obtain rfl:=aOA hc rv
 exact aJO I ru ty e fun tk=>⟨.bl b,H,I.tok tk,rfl,q⟩
theorem tO:∀ {bs:List Bool} {us:List Value},bK (bs.map V.bl) us → LSm.BoolsAre us bs
 | [],us,r=>by
  rw [Ch] at r
  cases r
  exact .nil
 | b :: bs,us,r=>by
  rw [AY] at r
  cases r with
  | cons r1 r2 =>
   cases r1
   exact .cons b (tO r2)
theorem nW (hc:X.calm = true):fI X (.builtin "all") (fun xs H Q=>∃ (p:Addr) (bs:List Bool),xs = [.ref p] ∧ SqL X.K H p (bs.map V.bl) ∧ Q (.bl (bs.all id)) H):=by
 intro pins s σ H xs us Q I r h
 obtain ⟨p,bs,rfl,hq,q⟩:=h
 obtain ⟨u,rfl,ru⟩:=bK.one r
 cases ru
 obtain ⟨its,rv,pl,hz⟩:=I.list hq
 obtain ⟨m,F⟩:=I.fr
 have hb:=tO rv
 have hl:=pl.isList
 have hlt:p < s.heap.objs.size:=by obtain ⟨_,e,_⟩:=hl;exact AZ e
 refine call_all_walk (Ct hl ?_)
 refine ⟨s.heap.objs.size,[s.heap.objs.size,p],[s.heap.objs.size],its.toArray.size,_,_,fun i=>(bs[i]?).getD true,rfl,EW (A:=X.A.in1) (I.ok.hd hc) _ p (Ah hlt) its.toArray,
  ⟨⟨_,Ad _ rfl,rfl,rfl⟩,hl.push _⟩,fun i v s' Q' E' hP hQ=>?_,fun h' tk hk=>?_⟩
 ·obtain ⟨b,e,rfl⟩:=hb.get i v (by simpa using hP)
  simp only [e,Option.getD_some] at hQ
  exact Br hQ
 ·have e:((Al its.toArray.size).all fun i=>(bs[i]?).getD true) = bs.all id:=by
   rw [AS,hb.length];exact LSm.range_all bs
  rw [e]
  exact ⟨.bl _,H,I.kept (LSm.kept_iter hk),rfl,q⟩
theorem aLJ:SlR X (fun x lo hi H Q=>∃ z,x = .str z ∧ z.length ≤ Ar ∧ Q (.str (Cl z lo hi)) H):=by
 intro pins s σ H x v vl vu lo hi sl Q I rx hs pl pu h
 obtain ⟨z,rfl,hz,q⟩:=h
 obtain ⟨t,rfl⟩:=rx
 refine ⟨"str",_,F.slot_str_getitem.lookup,typeIs_str _ _ _,?_⟩
 have fin:∀ (t':Tok) (k:Nat),EP X pins σ Q (.str (Cl z lo hi) t') { s with toks:=k }:=fun t' k=>⟨.str _,H,I.tok k,⟨t',rfl⟩,q⟩
 cases pl with
 | none =>
  cases pu with
  | none=>exact DL (l:=none) (u:=none) (st:=none) hs rfl (EQ ⟨BI (Ek z _ _) hz,fun t' k=>fin t' k⟩)
  | int j uj=>exact DL (l:=none) (u:=some (j,uj)) (st:=none) hs rfl (EQ ⟨BI (Ek z _ _) hz,fun t' k=>fin t' k⟩)
 | int i ui =>
  cases pu with
  | none=>exact DL (l:=some (i,ui)) (u:=none) (st:=none) hs rfl (EQ ⟨BI (Ek z _ _) hz,fun t' k=>fin t' k⟩)
  | int j uj=>exact DL (l:=some (i,ui)) (u:=some (j,uj)) (st:=none) hs rfl (EQ ⟨BI (Ek z _ _) hz,fun t' k=>fin t' k⟩)
theorem bU:OpR X (DV .FloorDiv) (rI (fun _ j=>0 < j ∧ j.natAbs.log2 < 9000) fun i j=>.int (i / j)):=opI fun i j _ _ _ _ _ hc q=>by
 have h1:(0:Int) < j:=hc.1
 exact floordiv_int (by omega) (by rw [Int.fdiv_eq_ediv_of_nonneg i (by omega)];exact q) (.inl (PyProof.noPylong_of_log2 hc.2))
def Its (x:Str):It where
 go:=fun i _=>i < x.cps.size
 yld:=fun i H v H'=>H' = H ∧ ∃ c,x.cps[i]? = some c ∧ v = .str ⟨#[c]⟩
 stop:=fun i _=>i = x.cps.size
theorem aBY {P:Program} {w:World} {K:AG} {tg:Expr} (it:Addr) (x:Str) (t:Tok) (ty:String)
  (W:∀ A:Around,A.handled = none → Walks P w A it [it] [it] x.cps.size (SignAt x) (fun i h=>h.IsStrIter it ty x t i))
  (hn:["enumerate","zip","dict_itemiterator","dict_reverseitemiterator","odict_iterator","itertools.zip_longest","itertools.pairwise"].contains ty = false)
  (self:∀ (A:Around) (i:Nat) (s:Shared) (Q:Value → Shared → Prop) (E:Value → Shared → Prop),s.heap.IsStrIter it ty x t i → Q (.ref it) s → wpAny (model P w) A (pyIter (.ref it)) Q E s) :
  Turn P w K tg (Its x) [it] it (fun i h=>h.IsStrIter it ty x t i) where
 mem:=by simp
 obj:=fun i h st b hb=>by
  have e:b = it:=by simpa using hb
  subst e
  obtain ⟨o,e,c,d⟩:=st
  exact ⟨o,e,fun v z=>by rw [d] at z;cases z⟩
 keep:=fun i h h' st k=>let ⟨o,ho,r⟩:=st;⟨o,k it (by simp) o ho,r⟩
 item:=by
  intro X hP hw hK hc i pins s σ H E I hf st hg
  subst hP hw hK
  obtain ⟨f0,f1,f2,f3,f4,f5⟩:=hf it (by simp)
  refine (W X.A (I.ok.hd hc)).item i s _ _ hg st fun v h' tk hv st' kk=>?_
  obtain ⟨c,u,hx,rfl⟩:=hv
  have I1:Inv X pins σ H { s with heap:=h',toks:=tk }:=I.turned (fun b o hb e=>kk b o (by simpa using hb) e) f0 f1 f3 f4 f5
  obtain ⟨o,e,cc,d⟩:=id st'
  exact ⟨_,rfl,aDL (s:={ s with heap:=h',toks:=tk }) e cc d hn ⟨.str ⟨#[c]⟩,H,I1,⟨u,rfl⟩,⟨rfl,c,hx,rfl⟩,st',fun b hb=>(hf b hb).1⟩⟩
 done:=by
  intro X hP hw hK hc i pins s σ H E I hf st hg
  subst hP hw hK
  obtain ⟨f0,f1,f2,f3,f4,f5⟩:=hf it (by simp)
  have hg':i = x.cps.size:=hg
  subst hg'
  exact (W X.A (I.ok.hd hc)).done s _ _ st fun h' tk kk=>⟨rfl,I.turned (fun b o hb e=>kk b o (by simpa using hb) e) f0 f1 f3 f4 f5⟩
 self:=self
def aWW (tl:TE):TI:=fun σ H R=>tl σ H fun x H1=>∃ z,x = .str z ∧ R (Its z) H1
theorem aSQ {tg l:Expr} {tl:TE} (hl:PE X l tl):PI X tg l (aWW tl):=by
 intro pins s σ H R I h
 refine thn (hl pins s σ H _ I h) fun v s1 ⟨x,H1,I1,r1,q1⟩=>?_
 obtain ⟨z,e,q⟩:=q1
 subst e
 obtain ⟨t,rfl⟩:=r1
 have fp:∀ b ∈ [s1.heap.objs.size],aBR X pins H1 b:=fun b hb=>by
  have e:b = s1.heap.objs.size:=by simpa using hb
  subst e
  exact I1.fpOk (AQ _) (I1.hok.fresh (AQ _))
 cases ha:z.cps.all (· < 128)
 ·refine wpAny_pyIter_wide ha ?_
  exact ⟨s1.heap.objs.size,[s1.heap.objs.size],_,_,H1,rfl,I1.kept (t':=s1.toks) fun b o e=>AE _ e,aBY _ z t "str_iterator" (fun A hA=>Walks.strWide hA _ z t) (by decide) (fun A i s Q E st h=>wpAny_pyIter_striter_wide st h),
   ⟨_,Ad _ rfl,rfl,rfl⟩,fp,q⟩
 ·refine wpAny_pyIter_ascii ha ?_
  exact ⟨s1.heap.objs.size,[s1.heap.objs.size],_,_,H1,rfl,I1.kept (t':=s1.toks) fun b o e=>AE _ e,aBY _ z t "str_ascii_iterator" (fun A hA=>Walks.strAscii hA _ z t) (by decide) (fun A i s Q E st h=>wpAny_pyIter_striter_ascii st h),
   ⟨_,Ad _ rfl,rfl,rfl⟩,fp,q⟩
end
theorem aNY {σb:St} {x:Str} {g:TG} {tt:TT} {te:TE} {fin:List V → Hp → Prop} {H:Hp} (hz:x.cps.size ≤ Ar) (Pv:Nat → List V → Hp → Prop) (h0:Pv 0 [] H) (hl:∀ i ys H,Pv i ys H → ys.length ≤ i)
  (hs:∀ i c ys H (K:VK) (K':Hp → Prop),x.cps[i]? = some c → Pv i ys H → (∀ y H4,Pv (i + 1) (ys ++ [y]) H4 → K y H4) → (∀ H3,Pv (i + 1) ys H3 → K' H3) →
   g (.str ⟨#[c]⟩) σb H fun σ2 H2=>tt σ2 H2 fun b H3=>if b = true then te σ2 H3 K else K' H3)
  (hd:∀ ys H,Pv x.cps.size ys H → fin ys H):∃ W:CW,(∃ m,W 0 m [] H) ∧ ∀ i m ys H,W i m ys H → yA σb (Its x) g tt te W fin i m ys H:=by
 refine ⟨fun i m ys H=>m = x.cps.size - i ∧ i ≤ x.cps.size ∧ Pv i ys H,⟨x.cps.size,by simp,BT _,h0⟩,?_⟩
 rintro i m ys H ⟨rfl,hi,p⟩
 by_cases hlt:i < x.cps.size
 ·refine .inr ⟨hlt,?_,fun v H' y=>?_⟩
  ·have:=hl i ys H p;omega
  ·obtain ⟨e,c,hx,rfl⟩:=y
   subst e
   exact hs i c ys _ _ _ hx p (fun y H4 q=>⟨x.cps.size - (i + 1),by omega,rfl,hlt,q⟩) fun H3 q=>⟨x.cps.size - (i + 1),by omega,rfl,hlt,q⟩
 ·have e:i = x.cps.size:=by omega
  subst e
  exact .inl ⟨rfl,hd ys H p⟩
theorem bM {F:AG} {a:Addr} {xs:List V} {σb:St} {g:TG} {tt:TT} {te:TE} {fin:List V → Hp → Prop} {H:Hp} (hz:xs.length ≤ Ar) (Pv:Nat → List V → Hp → Prop) (h0:Pv 0 [] H)
  (hl:∀ i ys H,i ≤ xs.length → Pv i ys H → SqL F H a xs ∧ ys.length ≤ i)
  (hs:∀ i x ys H (K:VK) (K':Hp → Prop),xs[i]? = some x → Pv i ys H → (∀ y H4,Pv (i + 1) (ys ++ [y]) H4 → K y H4) → (∀ H3,Pv (i + 1) ys H3 → K' H3) →
   g x σb H fun σ2 H2=>tt σ2 H2 fun b H3=>if b = true then te σ2 H3 K else K' H3)
  (hd:∀ ys H,Pv xs.length ys H → fin ys H):∃ W:CW,(∃ m,W 0 m [] H) ∧ ∀ i m ys H,W i m ys H → yA σb (Itl F a) g tt te W fin i m ys H:=by
 refine ⟨fun i m ys H=>m = xs.length - i ∧ i ≤ xs.length ∧ Pv i ys H,⟨xs.length,by simp,BT _,h0⟩,?_⟩
 rintro i m ys H ⟨rfl,hi,p⟩
 obtain ⟨q,ql⟩:=hl i ys H hi p
 by_cases hlt:i < xs.length
 ·refine .inr ⟨⟨xs,xs[i],q,by simp [hlt]⟩,by omega,fun x H' y=>?_⟩
  obtain ⟨e,y⟩:=y
  subst e
  exact hs i x ys _ _ _ (y xs q) p (fun y H4 q=>⟨xs.length - (i + 1),by omega,rfl,hlt,q⟩) fun H3 q=>⟨xs.length - (i + 1),by omega,rfl,hlt,q⟩
 ·have e:i = xs.length:=by omega
  subst e
  exact .inl ⟨⟨xs,q,AQ _⟩,hd ys H p⟩
theorem wW {lo:Int} {n:Nat} {σb:St} {g:TG} {tt:TT} {te:TE} {fin:List V → Hp → Prop} {H:Hp} (hz:n ≤ Ar) (Pv:Nat → List V → Hp → Prop) (h0:Pv 0 [] H) (hl:∀ i ys H,Pv i ys H → ys.length ≤ i)
  (hs:∀ i ys H (K:VK) (K':Hp → Prop),i < n → Pv i ys H → (∀ y H4,Pv (i + 1) (ys ++ [y]) H4 → K y H4) → (∀ H3,Pv (i + 1) ys H3 → K' H3) →
   g (.int (lo + i)) σb H fun σ2 H2=>tt σ2 H2 fun b H3=>if b = true then te σ2 H3 K else K' H3)
  (hd:∀ ys H,Pv n ys H → fin ys H):∃ W:CW,(∃ m,W 0 m [] H) ∧ ∀ i m ys H,W i m ys H → yA σb (Itr lo n) g tt te W fin i m ys H:=by
 refine ⟨fun i m ys H=>m = n - i ∧ i ≤ n ∧ Pv i ys H,⟨n,by simp,BT _,h0⟩,?_⟩
 rintro i m ys H ⟨rfl,hi,p⟩
 by_cases hlt:i < n
 ·refine .inr ⟨hlt,?_,fun v H' y=>?_⟩
  ·have:=hl i ys H p;omega
  ·obtain ⟨e,y⟩:=y
   subst e y
   exact hs i ys _ _ _ hlt p (fun y H4 q=>⟨n - (i + 1),by omega,rfl,hlt,q⟩) fun H3 q=>⟨n - (i + 1),by omega,rfl,hlt,q⟩
 ·have e:i = n:=by omega
  subst e
  exact .inl ⟨AQ _,hd ys H p⟩
end L2
namespace L2
open PySem PySem.Spec PyProof.Rows
structure DefAt (K:AG) (mg:Str → Option Value) (x:Str) (st:Stmt) (ps:List Str):Prop where
 ex:∃ (f:Addr) (fd:Bv),Fun K x x st f fd ∧ jZ K fd ps [] ∧ mg x = some (.ref f)
structure Fc (P:Program) (w:World) (K:AG) (mg:Str → Option Value) (base:Heap) (k:Nat) (x:Str) (ps:List Str) (sp:Sp):Prop where
 ex:∃ (f:Addr) (fd:Bv),FnOk P w K mg base CX0 k f fd ps sp ∧ jZ K fd ps [] ∧ mg x = some (.ref f) ∧ AF K (.ref f) = true
section
variable {P:Program} {w:World} {K:AG} {mg:Str → Option Value} {base:Heap}
theorem DefAt.fc {x:Str} {st:Stmt} {N ps:List Str} {k:Nat} {sp:Sp} (D:DefAt K mg x st ps) (S:FnScope N ps (aB st)) (len:∀ vs H Q E,sp vs H Q E → vs.length = ps.length)
  (hbody:∀ (f:Addr) (cdv:Value) (A:Around) (outer:List Env) (s:Shared) (H:Hp) (vs:List V) (Q:VK) (E:XK),Room k (A.deeper (envOfC x (aB st) s.heap.objs.size f cdv)) → sp vs H Q E →
   ∃ t,PSs (mJ CX0 P w K mg base N x (aB st) f cdv A outer s H E).nox (aJ st) t ∧ t { nx:=fun _ H'=>Q .non H',rt:=Q } (start N vs) H):Fc P w K mg base (k + 1) x ps sp:=by
 obtain ⟨f,fd,F,b,m⟩:=D.ex
 exact ⟨f,fd,F.ok S len fun cdv A outer s H vs Q E hr h=>hbody f cdv A outer s H vs Q E hr h,b,m,F.kp⟩
theorem bF {h:Heap} {x:Str} {st:Stmt} {ps:List Str} {f:Addr} {oc:Value} {od an:Option Addr} {osl:Array (Option Value)} {kV doc pm cdv ct:Value} (X:K.In h) (G:h.Ns AJ mg)
  (a:AL K AJ x = some (some (.ref f))) (l:K.lookup f = some ⟨oc,od,.func (AM x x (aL st) (aJ st) (aB st) .none kV doc pm an cdv ct),osl⟩)
  (c:AI K cdv x = true) (k:AF K (.ref f) = true)
  (hb:∀ (kV doc pm:Value) (an:Option Addr) (cdv ct:Value) (us:List Value),us.length = ps.length → Ee (AM x x (aL st) (aJ st) (aB st) .none kV doc pm an cdv ct) ⟨us,[]⟩ = pure (ps.zip us)):DefAt K mg x st ps :=
 ⟨f,_,sD l c k,(sD l c k).binds hb,PySem.W.mg_of X G a⟩
end
section
variable {X:Cx} {k:Nat} {ps:List Str} {sp:Sp} {x:Str} {p pos:Pos} {e:Expr} {es:List Expr} {t:TA}
theorem bI (F:Fc X.prog X.w X.K X.mg X.base k x ps sp) (hr:Room k X.A) (ha:PA X (e :: es) t) (hg:Gl X x:=by rfl) (hdb:(x == ("__debug__":Str)) = false:=by decide)
  (he:Av (e :: es) X.env = (false,eval e X.env) :: Av es X.env:=by rfl) (hpl:(backTo pos (Av es X.env)).any (·.1) = false:=by rfl) :
  PE X (.Call (.Name x p) (e :: es) [] pos) (aRH sp [] E0 t):=by
 obtain ⟨f,fd,G,b,m,kp⟩:=F.ex
 exact aPW G hr hg m kp b .nil aHG ha hdb he hpl
end
def sp1 (f:V → Hp → VK → Prop):Sp:=fun vs H Q _=>∃ x,vs = [x] ∧ f x H Q
def sp2 (f:V → V → Hp → VK → Prop):Sp:=fun vs H Q _=>∃ x y,vs = [x,y] ∧ f x y H Q
def sp3 (f:V → V → V → Hp → VK → Prop):Sp:=fun vs H Q _=>∃ x y z,vs = [x,y,z] ∧ f x y z H Q
theorem oT {f:V → Hp → VK → Prop}:∀ vs H Q E,sp1 f vs H Q E → vs.length = 1:=fun vs H Q E ⟨x,e,_⟩=>by rw [e];rfl
theorem iX {f:V → V → Hp → VK → Prop}:∀ vs H Q E,sp2 f vs H Q E → vs.length = 2:=fun vs H Q E ⟨x,y,e,_⟩=>by rw [e];rfl
theorem pQ {f:V → V → V → Hp → VK → Prop}:∀ vs H Q E,sp3 f vs H Q E → vs.length = 3:=fun vs H Q E ⟨x,y,z,e,_⟩=>by rw [e];rfl
theorem cK:BS "isinstance" = some (.builtin "isinstance"):=by decide +kernel
theorem lK:BS "all" = some (.builtin "all"):=by decide +kernel
theorem bN:BS "len" = some (.builtin "len"):=by decide +kernel
theorem zM:BS "max" = some (.builtin "max"):=by decide +kernel
theorem oP:BS "min" = some (.builtin "min"):=by decide +kernel
theorem zK:BS "str" = some (.type "str"):=by decide +kernel
theorem aKH:BS "int" = some (.type "int"):=by decide +kernel
theorem aGB:BS "bool" = some (.type "bool"):=by decide +kernel
theorem eK:BS "list" = some (.type "list"):=by decide +kernel
theorem nX:BS "tuple" = some (.type "tuple"):=by decide +kernel
theorem gK:BS "dict" = some (.type "dict"):=by decide +kernel
theorem zL:BS "set" = some (.type "set"):=by decide +kernel
inductive Pl (K:AG) (H:Hp):V → Prop where
 | non:Pl K H .non
 | bl (b:Bool):Pl K H (.bl b)
 | int (i:Int):Pl K H (.int i)
 | str (x:Str):Pl K H (.str x)
 | lst {a:Addr} {xs:List V} (e:H a = some (.lst xs)):Pl K H (.ref a)
 | frz {a:Addr} {o:Obj} {xs:List V} (e:H a = some (.frz o (.lst xs))):Pl K H (.ref a)
 | tup {a:Addr} {xs:List V} (e:H a = some (.tup xs)):Pl K H (.ref a)
 | dK {a:Addr} {kvs:List (Key × V)} (e:H a = some (.dK kvs)):Pl K H (.ref a)
theorem kZ (K:AG) (n:String):CC K (.type n) (.type n) = some true:=by
 unfold CC
 rw [if_pos (by simp)]
end L2
namespace L2
open PySem PySem.Spec PyProof.Rows
def kJ (mg:Str → Option Value) (x:Str) (v:V):Prop:=∃ u,mg x = some u ∧ bJ v u
theorem tV {X:Cx} {x:Str} {v:V} {pos:Pos} (h:kJ X.mg x v) (hg:Gl X x:=by rfl) (hd:(x == ("__debug__":Str)) = false:=by decide):PE X (.Name x pos) (tC v):=by
 obtain ⟨u,hm,r⟩:=h
 exact aPV hg hm r hd
theorem kC {K:AG} {mg:Str → Option Value} {h:Heap} {x:Str} {v:V} {u:Value} (X:K.In h) (G:h.Ns AJ mg) (a:AL K AJ x = some (some u)) (r:bJ v u):kJ mg x v:=⟨u,PySem.W.mg_of X G a,r⟩
end L2
namespace L2
open PySem PySem.Spec PyProof.Rows
def sG:HO → Bool
 | .lst _=>true
 | .dK _=>true
 | .set _ _=>true
 | .ext _=>true
 | .rng _ _=>true
 | _=>false
def iA (H' H'':Hp):Prop:=∀ b,H'' b = H' b ∨ (H'' b = none ∧ ∃ o,H' b = some o ∧ sG o = true)
theorem iA.refl (H:Hp):iA H H:=fun _=>.inl rfl
theorem iA.trans {H1 H2 H3:Hp} (a:iA H1 H2) (b:iA H2 H3):iA H1 H3:=fun c=>by
 rcases b c with e | ⟨e,o,q,d⟩
 ·rcases a c with e' | ⟨e',o,q,d⟩
  ·exact .inl (e.trans e')
  ·exact .inr ⟨e.trans e',o,q,d⟩
 ·rcases a c with e' | ⟨e',_⟩
  ·exact .inr ⟨e,o,e' ▸ q,d⟩
  ·rw [e'] at q;cases q
theorem iA.new {H:Hp} {p:Addr} {o:HO} (h:H p = none) (d:sG o = true):iA (upd H p o) H:=fun b=>by
 by_cases hb:b = p
 ·subst hb
  exact .inr ⟨h,o,aF,d⟩
 ·exact .inl (aK hb).symm
theorem iA.lst {H:Hp} {p:Addr} {xs:List V} (h:H p = none):iA (upd H p (.lst xs)) H:=iA.new h rfl
def cU (Q:VK):VK:=fun v H'=>∃ H'',iA H' H'' ∧ Q v H''
theorem cU.of {Q:VK} {v:V} {H H':Hp} (d:iA H' H) (q:Q v H):cU Q v H':=⟨H,d,q⟩
theorem HOk.drop {P:Program} {w:World} {H' H'':Hp} {h:Heap} (d:iA H' H'') (ok:HOk P w H' h):HOk P w H'' h:=fun b o e=>by
 have e':H' b = some o:=by
  rcases d b with z | ⟨z,_⟩
  ·exact z.symm.trans e
  ·rw [z] at e;cases e
 refine (ok b o e').stay (fun _ _ _ q=>q) (fun c q=>?_) fun c xs q=>?_
 ·rcases d c with z | ⟨_,o',z',dr⟩
  ·exact z.trans q
  ·rw [q] at z';cases z';cases dr
 ·rcases d c with z | ⟨_,o',z',dr⟩
  ·exact z.trans q
  ·rw [q] at z';cases z';cases dr
theorem Un.drop {fs ex:List Addr} {H H' H'':Hp} {h h':Heap} (d:iA H' H'') (u:Un fs ex H H' h h'):Un fs ex H H'' h h' where
 keep:=u.keep
 slot:=u.slot
 free:=fun b o e n hx=>by
  rcases d b with z | ⟨z,_⟩
  ·exact z.trans (u.free b o e n hx)
  ·exact z
 there:=u.there
 tups:=fun b xs e=>by
  have q:=u.tups b xs e
  rcases d b with z | ⟨_,o',z',dr⟩
  ·exact z.trans q
  ·rw [q] at z';cases z';cases dr
 frzs:=fun b o v e=>by
  have q:=u.frzs b o v e
  rcases d b with z | ⟨_,o',z',dr⟩
  ·exact z.trans q
  ·rw [q] at z';cases z';cases dr
 tbls:=fun b ps e=>by
  obtain ⟨m,q⟩:=u.tbls b ps e
  rcases d b with z | ⟨_,o',z',dr⟩
  ·exact ⟨m,z.trans q⟩
  ·rw [q] at z';cases z';cases dr
theorem FnOk.drop {P:Program} {w:World} {K:AG} {mg:Str → Option Value} {base:Heap} {k:Nat} {f:Addr} {fd:Bv} {ps:List Str} {sp:Sp} (len:∀ vs H Q E,sp vs H Q E → vs.length = ps.length)
  (F:FnOk P w K mg base CX0 k f fd ps (fun vs H Qd E=>∃ Q,sp vs H Q E ∧ Qd = cU Q)):FnOk P w K mg base CX0 k f fd ps sp:=by
 refine ⟨len,fun A outer s H args us vs Q E hr he hb hv hs=>Cy (F.run A outer s H args us vs (cU Q) E hr he hb hv ⟨Q,hs,rfl⟩) fun r s' h=>?_⟩
 cases r with
 | error e=>exact h
 | ok fl =>
  cases fl with
  | ret u =>
   obtain ⟨v,H',os,bare,un,hok,rv,H'',d,q⟩:=h
   exact ⟨v,H'',os,bare,un.drop d,hok.drop d,rv,q⟩
  | next=>exact h
  | brk=>exact h
  | cont=>exact h
theorem DefAt.fcD {P:Program} {w:World} {K:AG} {mg:Str → Option Value} {base:Heap} {x:Str} {st:Stmt} {N ps:List Str} {k:Nat} {sp:Sp} (D:DefAt K mg x st ps) (S:FnScope N ps (aB st)) (len:∀ vs H Q E,sp vs H Q E → vs.length = ps.length)
  (hbody:∀ (f:Addr) (cdv:Value) (A:Around) (outer:List Env) (s:Shared) (H:Hp) (vs:List V) (Q:VK) (E:XK),Room k (A.deeper (envOfC x (aB st) s.heap.objs.size f cdv)) → sp vs H Q E →
   ∃ t,PSs (mJ CX0 P w K mg base N x (aB st) f cdv A outer s H E).nox (aJ st) t ∧ t { nx:=fun _ H'=>cU Q .non H',rt:=cU Q } (start N vs) H):Fc P w K mg base (k + 1) x ps sp:=by
 obtain ⟨f,fd,F,b,m⟩:=D.ex
 refine ⟨f,fd,FnOk.drop len (F.ok S (fun vs H Q E ⟨Q',h,_⟩=>len vs H Q' E h) fun cdv A outer s H vs Q E hr ⟨Q',h,e⟩=>?_),b,m,F.kp⟩
 subst e
 exact hbody f cdv A outer s H vs Q' E hr h
end L2
namespace L2
open PySem PySem.Spec PyProof.Rows
theorem aI.upd {H:Hp} {p:Addr} {o:HO} (h:H p = none):aI H (upd H p o):=fun b u e=>by
 rw [aK (aY e h)]
 exact e
end L2
namespace L2
open PySem PySem.Spec PyProof.Rows
theorem tF {X:Cx} {x:Str} {n:String} {pos:Pos} (hm:X.mg x = none) (hv:BS x = some (.type n)) (hg:Gl X x:=by rfl) (hn:x ≠ "__name__":=by decide) (hd:(x == ("__debug__":Str)) = false:=by decide):PE X (.Name x pos) (tC (.ty n)) :=
 aPX hg hm hv rfl hn hd
end L2
namespace L2
theorem bB {n:Nat} (h:Nat.ble n 1000 = true):n ≤ PySem.sizeLine:=BI (Nat.le_of_ble_eq_true h) (by decide)
end L2
namespace L2
open PySem PySem.Spec PyProof.Rows
def Ite (K:AG) (a:Addr):It where
 go:=fun i H=>∃ xs x,SqL K H a xs ∧ xs[i]? = some x
 yld:=fun i H v H'=>∃ p x,H p = none ∧ v = .ref p ∧ H' = upd H p (.tup [.int i,x]) ∧ ∀ ys,SqL K H a ys → ys[i]? = some x
 stop:=fun i H=>∃ xs,SqL K H a xs ∧ xs.length ≤ i
end L2
namespace L2
open PySem PySem.Spec PyProof.Rows
inductive Dv where
 | non | bl (b:Bool) | int (i:Int) | str (x:Str) | lst (ds:List Dv) | tup (ds:List Dv) | dct (ks:List Key) (ds:List Dv)
mutual
def Is (H:Hp):Dv → V → Prop
 | .non,v=>v = .non
 | .bl b,v=>v = .bl b
 | .int i,v=>v = .int i
 | .str x,v=>v = .str x
 | .lst ds,v=>∃ a vs,v = .ref a ∧ H a = some (.lst vs) ∧ IsL H ds vs
 | .tup ds,v=>∃ a vs,v = .ref a ∧ H a = some (.tup vs) ∧ IsL H ds vs
 | .dct ks ds,v=>∃ a vs,v = .ref a ∧ H a = some (.dK (ks.zip vs)) ∧ vs.length = ks.length ∧ IsL H ds vs
def IsL (H:Hp):List Dv → List V → Prop
 | [],vs=>vs = []
 | d :: ds,vs=>∃ v r,vs = v :: r ∧ Is H d v ∧ IsL H ds r
end
def aTM:HO → Bool
 | .lst _=>true
 | .tup _=>true
 | .dK _=>true
 | _=>false
def aEC (H H':Hp):Prop:=∀ b o,H b = some o → aTM o = true → H' b = some o
mutual
theorem Is.sameD {H H':Hp} (S:aEC H H'):∀ (d:Dv) (v:V),Is H d v → Is H' d v
 | .non,_,h=>h
 | .bl _,_,h=>h
 | .int _,_,h=>h
 | .str _,_,h=>h
 | .lst ds,_,⟨a,vs,e,o,h⟩=>⟨a,vs,e,S _ _ o rfl,IsL.sameD S ds vs h⟩
 | .tup ds,_,⟨a,vs,e,o,h⟩=>⟨a,vs,e,S _ _ o rfl,IsL.sameD S ds vs h⟩
 | .dct ks ds,_,⟨a,vs,e,o,l,h⟩=>⟨a,vs,e,S _ _ o rfl,l,IsL.sameD S ds vs h⟩
theorem IsL.sameD {H H':Hp} (S:aEC H H'):∀ (ds:List Dv) (vs:List V),IsL H ds vs → IsL H' ds vs
 | [],_,h=>h
 | d :: ds,_,⟨v,r,e,h,t⟩=>⟨v,r,e,Is.sameD S d v h,IsL.sameD S ds r t⟩
end
theorem Is.same {H H':Hp} (S:aI H H') (d:Dv) (v:V) (h:Is H d v):Is H' d v:=Is.sameD (fun b o e _=>S b o e) d v h
theorem IsL.same {H H':Hp} (S:aI H H') (ds:List Dv) (vs:List V) (h:IsL H ds vs):IsL H' ds vs:=IsL.sameD (fun b o e _=>S b o e) ds vs h
mutual
def xU:Dv → Bool
 | .lst _=>false
 | .dct _ _=>false
 | .tup ds=>zA ds
 | _=>true
def zA:List Dv → Bool
 | []=>true
 | d :: ds=>xU d && zA ds
end
def iU (H H':Hp):Prop:=∀ a xs,H a = some (.tup xs) → H' a = some (.tup xs)
mutual
theorem Is.keep {H H':Hp} (S:iU H H'):∀ (d:Dv) (v:V),xU d = true → Is H d v → Is H' d v
 | .non,_,_,h=>h
 | .bl _,_,_,h=>h
 | .int _,_,_,h=>h
 | .str _,_,_,h=>h
 | .lst ds,_,f,_=>by cases f
 | .tup ds,_,f,⟨a,vs,e,o,h⟩=>⟨a,vs,e,S _ _ o,IsL.keep S ds vs f h⟩
 | .dct ks ds,_,f,_=>by cases f
theorem IsL.keep {H H':Hp} (S:iU H H'):∀ (ds:List Dv) (vs:List V),zA ds = true → IsL H ds vs → IsL H' ds vs
 | [],_,_,h=>h
 | d :: ds,_,f,⟨v,r,e,h,t⟩=>⟨v,r,e,Is.keep S d v (BK.mp f).1 h,IsL.keep S ds r (BK.mp f).2 t⟩
end
mutual
def deq:Dv → Dv → Bool
 | .non,.non=>true
 | .bl a,.bl b=>a == b
 | .bl a,.int b=>(if a then 1 else 0) == b
 | .int a,.bl b=>a == (if b then 1 else 0)
 | .int a,.int b=>a == b
 | .str a,.str b=>a == b
 | .lst a,.lst b=>uC a b
 | .tup a,.tup b=>uC a b
 | _,_=>false
def uC:List Dv → List Dv → Bool
 | [],[]=>true
 | a :: r,b :: q=>deq a b && uC r q
 | _,_=>false
end
mutual
def bD:Nat → Dv → Bool
 | _,.dct _ _=>false
 | 0,.lst _=>false
 | 0,.tup _=>false
 | n + 1,.lst ds=>cM n ds
 | n + 1,.tup ds=>cM n ds
 | _,_=>true
def cM:Nat → List Dv → Bool
 | _,[]=>true
 | n,d :: ds=>bD n d && cM n ds
end
mutual
theorem rA:∀ (n:Nat) (d:Dv),bD n d = true → deq d d = true
 | _,.non,_=>rfl
 | _,.bl b,_=>beq_self_eq_true b
 | _,.int i,_=>beq_self_eq_true i
 | _,.str x,_=>beq_self_eq_true x
 | 0,.lst ds,f=>by simp [bD] at f
 | 0,.tup ds,f=>by simp [bD] at f
 | n + 1,.lst ds,f=>sH n ds (by simpa [bD] using f)
 | n + 1,.tup ds,f=>sH n ds (by simpa [bD] using f)
 | n,.dct ks ds,f=>by simp [bD] at f
theorem sH:∀ (n:Nat) (ds:List Dv),cM n ds = true → uC ds ds = true
 | _,[],_=>rfl
 | n,d :: ds,f=>by
  rw [cM,Aj] at f
  show (deq d d && uC ds ds) = true
  rw [rA n d f.1,sH n ds f.2];rfl
end
theorem IsL.length {H:Hp}:∀ {ds:List Dv} {vs:List V},IsL H ds vs → vs.length = ds.length
 | [],_,h=>by rw [show _ = [] from h];rfl
 | d :: ds,_,⟨v,r,e,_,t⟩=>by rw [e,Ag,Ag,IsL.length t]
mutual
theorem Is.inj {H:Hp}:∀ (d e:Dv) (v:V),Is H d v → Is H e v → (∃ n,bD n d = true) → (∃ n,bD n e = true) → d = e
 | .non,e,v,h,h',_,_=>by
  cases e <;> simp_all [Is]
 | .bl b,e,v,h,h',_,_=>by
  cases e <;> simp_all [Is]
 | .int b,e,v,h,h',_,_=>by
  cases e <;> simp_all [Is]
 | .str b,e,v,h,h',_,_=>by
  cases e <;> simp_all [Is]
 | .lst ds,e,v,⟨a,vs,q,o,h⟩,h',⟨n,f⟩,⟨m,g⟩=>by
  subst q
  cases e with
  | lst es =>
   obtain ⟨a',vs',q',o',h'⟩:=h'
   cases q'
   rw [o] at o'
   cases o'
   cases n with
   | zero=>simp [bD] at f
   | succ n =>
    cases m with
    | zero=>simp [bD] at g
    | succ m=>rw [IsL.inj ds es vs h h' ⟨n,by simpa [bD] using f⟩ ⟨m,by simpa [bD] using g⟩]
  | tup es =>
   obtain ⟨a',vs',q',o',h'⟩:=h'
   cases q'
   rw [o] at o'
   cases o'
  | dct ks es=>simp [bD] at g
  | _=>simp_all [Is]
 | .tup ds,e,v,⟨a,vs,q,o,h⟩,h',⟨n,f⟩,⟨m,g⟩=>by
  subst q
  cases e with
  | tup es =>
   obtain ⟨a',vs',q',o',h'⟩:=h'
   cases q'
   rw [o] at o'
   cases o'
   cases n with
   | zero=>simp [bD] at f
   | succ n =>
    cases m with
    | zero=>simp [bD] at g
    | succ m=>rw [IsL.inj ds es vs h h' ⟨n,by simpa [bD] using f⟩ ⟨m,by simpa [bD] using g⟩]
  | lst es =>
   obtain ⟨a',vs',q',o',h'⟩:=h'
   cases q'
   rw [o] at o'
   cases o'
  | dct ks es=>simp [bD] at g
  | _=>simp_all [Is]
 | .dct ks ds,e,v,_,h',⟨n,f⟩,_=>by simp [bD] at f
theorem IsL.inj {H:Hp}:∀ (ds es:List Dv) (vs:List V),IsL H ds vs → IsL H es vs → (∃ n,cM n ds = true) → (∃ n,cM n es = true) → ds = es
 | [],es,vs,h,h',_,_=>by
  rw [show vs = [] from h] at h'
  cases es with
  | nil=>rfl
  | cons e es=>obtain ⟨v,r,q,_⟩:=h';cases q
 | d :: ds,es,vs,⟨v,r,q,h,t⟩,h',⟨n,f⟩,⟨m,g⟩=>by
  subst q
  cases es with
  | nil=>cases (show v :: r = [] from h')
  | cons e es =>
   obtain ⟨v',r',q',h',t'⟩:=h'
   cases q'
   rw [cM,Aj] at f g
   rw [Is.inj d e v h h' ⟨n,f.1⟩ ⟨m,g.1⟩,IsL.inj ds es r t t' ⟨n,f.2⟩ ⟨m,g.2⟩]
end
theorem IsL.get {H:Hp}:∀ {ds:List Dv} {vs:List V} {i:Nat} {d:Dv},IsL H ds vs → ds[i]? = some d → ∃ v,vs[i]? = some v ∧ Is H d v
 | [],_,_,_,_,e=>by simp at e
 | d :: ds,_,0,d',⟨v,r,e,h,t⟩,q=>by
  simp at q
  subst q e
  exact ⟨v,rfl,h⟩
 | d :: ds,_,i + 1,d',⟨v,r,e,h,t⟩,q=>by
  subst e
  obtain ⟨u,h1,h2⟩:=IsL.get (i:=i) t (by simpa using q)
  exact ⟨u,by simpa using h1,h2⟩
theorem pU:∀ (ds es:List Dv),ds.length = es.length → (Al ds.length).all (fun j=>deq (ds.getD j .non) (es.getD j .non)) = uC ds es
 | [],[],_=>rfl
 | d :: ds,e :: es,h=>by
  have ih:=pU ds es (by simpa using h)
  rw [Ag,List.range_succ_eq_map,Dl,Dw]
  show (deq d e && (Al ds.length).all (fun j=>deq (ds.getD j .non) (es.getD j .non))) = (deq d e && uC ds es)
  rw [ih]
 | [],_ :: _,h=>by simp at h
 | _ :: _,[],h=>by simp at h
theorem wS:∀ (ds es:List Dv),ds.length ≠ es.length → uC ds es = false
 | [],[],h=>absurd rfl h
 | d :: ds,e :: es,h=>by
  show (deq d e && uC ds es) = false
  rw [wS ds es (fun q=>h (by simp [q]))]
  simp
 | [],_ :: _,_=>rfl
 | _ :: _,[],_=>rfl
theorem nR:∀ {n:Nat} {ds:List Dv} {i:Nat} {d:Dv},cM n ds = true → ds[i]? = some d → bD n d = true
 | n,[],_,_,_,e=>by simp at e
 | n,d :: ds,0,d',f,e=>by
  simp at e
  subst e
  rw [cM,Aj] at f
  exact f.1
 | n,d :: ds,i + 1,d',f,e=>by
  rw [cM,Aj] at f
  exact nR (i:=i) f.2 (by simpa using e)
theorem IsL.snoc {H:Hp} {d:Dv} {v:V} (h:Is H d v):∀ {ds:List Dv} {vs:List V},IsL H ds vs → IsL H (ds ++ [d]) (vs ++ [v])
 | [],_,e=>by
  rw [show _ = [] from e]
  exact ⟨v,[],rfl,h,rfl⟩
 | d' :: ds,_,⟨v',r,e,h',t⟩=>by
  subst e
  exact ⟨v',r ++ [v],rfl,h',IsL.snoc h t⟩
theorem IsL.rev {H:Hp}:∀ {ds:List Dv} {vs:List V},IsL H ds vs → IsL H ds.reverse vs.reverse
 | [],_,e=>by rw [show _ = [] from e];exact rfl
 | d :: ds,_,⟨v,r,e,h,t⟩=>by
  subst e
  rw [Dg,Dg]
  exact IsL.snoc h (IsL.rev t)
theorem IsL.app {H:Hp} {es:List Dv} {us:List V} (h:IsL H es us):∀ {ds:List Dv} {vs:List V},IsL H ds vs → IsL H (ds ++ es) (vs ++ us)
 | [],_,e=>by rw [show _ = [] from e];exact h
 | d :: ds,_,⟨v,r,e,h',t⟩=>by
  subst e
  exact ⟨v,r ++ us,rfl,h',IsL.app h t⟩
theorem IsL.strs (H:Hp):∀ zs:List Str,IsL H (zs.map Dv.str) (zs.map V.str)
 | []=>rfl
 | z :: zs=>⟨.str z,zs.map V.str,rfl,rfl,IsL.strs H zs⟩
theorem iU.lst {H:Hp} {l:Addr} {xs:List V} {o:HO} (h:H l = some (.lst xs)):iU H (upd H l o):=fun a ys e=>by
 have:a ≠ l:=yQ e h (by intro z;cases z)
 rw [aK this]
 exact e
theorem aI.over {H H':Hp} {l:Addr} {o:HO} (S:aI H H') (hl:H l = none):aI H (L2.upd H' l o):=fun b u e=>by
 rw [aK (aY e hl)]
 exact S b u e
theorem wN {n:Nat}:∀ {ds:List Dv},(∀ d ∈ ds,bD n d = true) → cM n ds = true
 | [],_=>by rw [cM]
 | d :: ds,h=>by
  rw [cM,h d AU,wN fun e m=>h e (AO _ m)]
  rfl
inductive View (s:Shared) (H:Hp):Dv → Value → Prop where
 | non:View s H .non .none
 | bl (b:Bool):View s H (.bl b) (.bool b)
 | int (i:Int) (t:Tok):View s H (.int i) (.int i t)
 | str (x:Str) (t:Tok):View s H (.str x) (.str x t)
 | lst {ds:List Dv} {l:Addr} {its:List Value} {vs:List V} (hl:s.heap.IsList l its.toArray) (r:bK vs its) (h:IsL H ds vs):View s H (.lst ds) (.ref l)
 | tup {ds:List Dv} {l:Addr} {its:List Value} {vs:List V} (hl:s.heap.IsTuple l its.toArray) (r:bK vs its) (h:IsL H ds vs):View s H (.tup ds) (.ref l)
section
variable {X:Cx} {pins:List (Addr × Obj)} {σ:St} {H:Hp} {s:Shared}
theorem Is.view (I:Inv X pins σ H s) {n:Nat} {d:Dv} {v:V} {u:Value} (f:bD n d = true) (h:Is H d v) (r:bJ v u):View s H d u:=by
 cases d with
 | non=>cases (show v = .non from h);cases r;exact .non
 | bl b=>cases (show v = .bl b from h);cases r;exact .bl b
 | int b=>cases (show v = .int b from h);obtain ⟨t,rfl⟩:=r;exact .int b t
 | str b=>cases (show v = .str b from h);obtain ⟨t,rfl⟩:=r;exact .str b t
 | lst ds =>
  obtain ⟨a,vs,rfl,o,h⟩:=h
  cases r
  obtain ⟨its,rv,pl,hz⟩:=I.list (SqL.of o)
  exact .lst pl.isList rv h
 | tup ds =>
  obtain ⟨a,vs,rfl,o,h⟩:=h
  cases r
  obtain ⟨its,rv,pl,hz⟩:=I.tuple (SqT.of o)
  exact .tup pl rv h
 | dct ks ds=>simp [bD] at f
open PySem.SeqAt in
theorem lW {n:Nat} {A:Around} (hu:A.units + n < cLine)
  (ih:∀ (d e:Dv) (v v':V) (u u':Value) (A:Around),A.units + n < cLine → bD n d = true → bD n e = true → Is H d v → Is H e v' → bJ v u → bJ v' u' → EqAt A s u u' (deq d e))
  {ds es:List Dv} {vs vs':List V} {its its':List Value} (f:cM n ds = true) (g:cM n es = true) (h:IsL H ds vs) (h':IsL H es vs') (r:bK vs its) (r':bK vs' its')
  (j:Nat) (h1:j < its.toArray.size) (h2:j < its'.toArray.size):EqAt A s its.toArray[j] its'.toArray[j] (deq (ds.getD j .non) (es.getD j .non)):=by
 have l1:=r.length
 have l2:=r'.length
 have l3:=h.length
 have l4:=h'.length
 rw [AS] at h1 h2
 have e1:ds[j]? = some (ds.getD j .non):=by
  rw [Aa,AB (by omega)];rfl
 have e2:es[j]? = some (es.getD j .non):=by
  rw [Aa,AB (by omega)];rfl
 obtain ⟨v,q1,i1⟩:=h.get e1
 obtain ⟨v',q2,i2⟩:=h'.get e2
 obtain ⟨u,p1,k1⟩:=r.get q1
 obtain ⟨u',p2,k2⟩:=r'.get q2
 have z1:its.toArray[j] = u:=by
  have:=AC.mp p1
  obtain ⟨_,e⟩:=this
  simpa using e
 have z2:its'.toArray[j] = u':=by
  have:=AC.mp p2
  obtain ⟨_,e⟩:=this
  simpa using e
 rw [z1,z2]
 exact ih _ _ v v' u u' A hu (nR f e1) (nR g e2) i1 i2 k1 k2
open PySem.SeqAt in
theorem aLV (I:Inv X pins σ H s) {n:Nat}
  (ih:∀ (d e:Dv) (v v':V) (u u':Value) (A:Around),A.units + n < cLine → bD n d = true → bD n e = true → Is H d v → Is H e v' → bJ v u → bJ v' u' → EqAt A s u u' (deq d e))
  (d e:Dv) (v v':V) (u u':Value) (A:Around) (hu:A.units + (n + 1) < cLine) (f:bD (n + 1) d = true) (g:bD (n + 1) e = true) (h:Is H d v) (h':Is H e v') (r:bJ v u) (r':bJ v' u') :
  RcAt A s u u' (deq d e) ∧ RcNeAt A s u u' (!deq d e):=by
 have hu0:A.units < cLine:=by omega
 have hu1:A.in1.units + n < cLine:=by show A.units + 1 + n < cLine;omega
 have w:=Is.view I f h r
 have w':=Is.view I g h' r'
 cases w with
 | non =>
  cases w' with
  | non=>exact ⟨RcAt.none_none,RcNeAt.none_none⟩
  | bl b=>exact ⟨RcAt.none_bool _,RcNeAt.none_bool _⟩
  | int b t=>exact ⟨RcAt.none_int _ _,RcNeAt.none_int _ _⟩
  | str b t=>exact ⟨RcAt.none_str _ _,RcNeAt.none_str _ _⟩
  | lst hl _ _=>exact ⟨RcAt.none_list hl hu0,RcNeAt.none_list hl hu0⟩
  | tup hl _ _=>exact ⟨RcAt.none_tuple hl hu0,RcNeAt.none_tuple hl hu0⟩
 | bl a =>
  cases w' with
  | non=>exact ⟨RcAt.bool_none _,RcNeAt.bool_none _⟩
  | bl b=>exact ⟨RcAt.bool_bool _ _,RcNeAt.bool_bool _ _⟩
  | int b t=>exact ⟨RcAt.bool_int _ _ _,RcNeAt.bool_int _ _ _⟩
  | str b t=>exact ⟨RcAt.bool_str _ _ _,RcNeAt.bool_str _ _ _⟩
  | lst hl _ _=>exact ⟨RcAt.bool_list _ hl hu0,RcNeAt.bool_list _ hl hu0⟩
  | tup hl _ _=>exact ⟨RcAt.bool_tuple _ hl hu0,RcNeAt.bool_tuple _ hl hu0⟩
 | int a t =>
  cases w' with
  | non=>exact ⟨RcAt.int_none _ _,RcNeAt.int_none _ _⟩
  | bl b=>exact ⟨RcAt.int_bool _ _ _,RcNeAt.int_bool _ _ _⟩
  | int b t=>exact ⟨RcAt.int_int _ _ _ _,RcNeAt.int_int _ _ _ _⟩
  | str b t=>exact ⟨RcAt.int_str _ _ _ _,RcNeAt.int_str _ _ _ _⟩
  | lst hl _ _=>exact ⟨RcAt.int_list _ _ hl hu0,RcNeAt.int_list _ _ hl hu0⟩
  | tup hl _ _=>exact ⟨RcAt.int_tuple _ _ hl hu0,RcNeAt.int_tuple _ _ hl hu0⟩
 | str a t =>
  cases w' with
  | non=>exact ⟨RcAt.str_none _ _,RcNeAt.str_none _ _⟩
  | bl b=>exact ⟨RcAt.str_bool _ _ _,RcNeAt.str_bool _ _ _⟩
  | int b t=>exact ⟨RcAt.str_int _ _ _ _,RcNeAt.str_int _ _ _ _⟩
  | str b t=>exact ⟨RcAt.str_str _ _ _ _,RcNeAt.str_str _ _ _ _⟩
  | lst hl _ _=>exact ⟨RcAt.str_list _ _ hl hu0,RcNeAt.str_list _ _ hl hu0⟩
  | tup hl _ _=>exact ⟨RcAt.str_tuple _ _ hl hu0,RcNeAt.str_tuple _ _ hl hu0⟩
 | @lst ds l its vs hl rv hi =>
  cases w' with
  | non=>exact ⟨RcAt.list_none hl hu0,RcNeAt.list_none hl hu0⟩
  | bl b=>exact ⟨RcAt.list_bool _ hl hu0,RcNeAt.list_bool _ hl hu0⟩
  | int b t=>exact ⟨RcAt.list_int _ _ hl hu0,RcNeAt.list_int _ _ hl hu0⟩
  | str b t=>exact ⟨RcAt.list_str _ _ hl hu0,RcNeAt.list_str _ _ hl hu0⟩
  | @lst es l' its' vs' hl' rv' hi' =>
   have f':cM n ds = true:=by simpa [bD] using f
   have g':cM n es = true:=by simpa [bD] using g
   have l1:=rv.length
   have l2:=rv'.length
   have l3:=hi.length
   have l4:=hi'.length
   by_cases hq:ds.length = es.length
   ·have hsz:its.toArray.size = its'.toArray.size:=by rw [AS,AS];omega
    have key:(Al its.toArray.size).all (fun j=>deq (ds.getD j .non) (es.getD j .non)) = deq (.lst ds) (.lst es):=by
     rw [AS,show its.length = ds.length by omega]
     exact pU ds es hq
    rw [← key]
    exact ⟨RcAt.lists hl hl' hsz hu0 (lW hu1 ih f' g' hi hi' rv rv'),RcNeAt.lists hl hl' hsz hu0 (lW hu1 ih f' g' hi hi' rv rv')⟩
   ·have key:deq (.lst ds) (.lst es) = false:=wS ds es hq
    have hsz:(its.toArray.size != its'.toArray.size) = true:=by
     rw [AS,AS,bne_iff_ne];omega
    rw [key]
    exact ⟨RcAt.lists_lengths hl hl' hsz hu0,RcNeAt.lists_lengths hl hl' hsz hu0⟩
  | tup hl' _ _=>exact ⟨RcAt.list_tuple hl hl' hu0,RcNeAt.list_tuple hl hl' hu0⟩
 | @tup ds l its vs hl rv hi =>
  cases w' with
  | non=>exact ⟨RcAt.tuple_none hl hu0,RcNeAt.tuple_none hl hu0⟩
  | bl b=>exact ⟨RcAt.tuple_bool _ hl hu0,RcNeAt.tuple_bool _ hl hu0⟩
  | int b t=>exact ⟨RcAt.tuple_int _ _ hl hu0,RcNeAt.tuple_int _ _ hl hu0⟩
  | str b t=>exact ⟨RcAt.tuple_str _ _ hl hu0,RcNeAt.tuple_str _ _ hl hu0⟩
  | lst hl' _ _=>exact ⟨RcAt.tuple_list hl hl' hu0,RcNeAt.tuple_list hl hl' hu0⟩
  | @tup es l' its' vs' hl' rv' hi' =>
   have f':cM n ds = true:=by simpa [bD] using f
   have g':cM n es = true:=by simpa [bD] using g
   have l1:=rv.length
   have l2:=rv'.length
   have l3:=hi.length
   have l4:=hi'.length
   have key:((Al (min its.toArray.size its'.toArray.size)).all (fun j=>deq (ds.getD j .non) (es.getD j .non)) && its.toArray.size == its'.toArray.size) = deq (.tup ds) (.tup es):=by
    rw [AS,AS,show its.length = ds.length by omega,show its'.length = es.length by omega]
    show _ = uC ds es
    by_cases hq:ds.length = es.length
    ·rw [← hq,Nat.min_self,pU ds es hq]
     simp
    ·rw [wS ds es hq,beq_eq_false_iff_ne.mpr hq]
     simp
   rw [← key]
   exact ⟨RcAt.tuples hl hl' hu0 (lW hu1 ih f' g' hi hi' rv rv'),RcNeAt.tuples hl hl' hu0 (lW hu1 ih f' g' hi hi' rv rv')⟩
open PySem.SeqAt in
theorem Is.eqAt (I:Inv X pins σ H s):∀ (n:Nat) (d e:Dv) (v v':V) (u u':Value) (A:Around),A.units + n < cLine → bD n d = true → bD n e = true → Is H d v → Is H e v' → bJ v u → bJ v' u' → EqAt A s u u' (deq d e):=by
 intro n
 induction n with
 | zero =>
  intro d e v v' u u' A hu f g h h' r r'
  cases d with
  | lst _=>simp [bD] at f
  | tup _=>simp [bD] at f
  | dct _ _=>simp [bD] at f
  | non =>
   cases e with
   | lst _=>simp [bD] at g
   | tup _=>simp [bD] at g
   | dct _ _=>simp [bD] at g
   | _=>cases h;cases h';exact lY r r' rfl rfl
  | bl b =>
   cases e with
   | lst _=>simp [bD] at g
   | tup _=>simp [bD] at g
   | dct _ _=>simp [bD] at g
   | _=>cases h;cases h';exact lY r r' rfl rfl
  | int b =>
   cases e with
   | lst _=>simp [bD] at g
   | tup _=>simp [bD] at g
   | dct _ _=>simp [bD] at g
   | _=>cases h;cases h';exact lY r r' rfl rfl
  | str b =>
   cases e with
   | lst _=>simp [bD] at g
   | tup _=>simp [bD] at g
   | dct _ _=>simp [bD] at g
   | _=>cases h;cases h';exact lY r r' rfl rfl
 | succ n ih =>
  intro d e v v' u u' A hu f g h h' r r'
  have rc:=(aLV I ih d e v v' u u' A hu f g h h' r r').1
  have w:=Is.view I f h r
  have w':=Is.view I g h' r'
  have fin:∀ (l l':Addr),u = .ref l → u' = .ref l' → EqAt A s u u' (deq d e):=by
   rintro l l' rfl rfl
   by_cases hq:l = l'
   ·subst hq
    have e1:v = .ref l:=r.inj (show bJ (.ref l) (.ref l) from rfl)
    have e2:v' = .ref l:=r'.inj (show bJ (.ref l) (.ref l) from rfl)
    subst e1 e2
    have e3:=Is.inj d e _ h h' ⟨_,f⟩ ⟨_,g⟩
    subst e3
    rw [rA _ d f]
    exact EqAt.same _
   ·exact EqAt.of_refs hq rc
  cases w with
  | lst hl _ _ =>
   cases w' with
   | lst hl' _ _=>exact fin _ _ rfl rfl
   | tup hl' _ _=>exact fin _ _ rfl rfl
   | non=>exact EqAt.list_none hl (by omega)
   | bl b=>exact EqAt.list_bool _ hl (by omega)
   | int b t=>exact EqAt.list_int _ _ hl (by omega)
   | str b t=>exact EqAt.list_str _ _ hl (by omega)
  | tup hl _ _ =>
   cases w' with
   | lst hl' _ _=>exact fin _ _ rfl rfl
   | tup hl' _ _=>exact fin _ _ rfl rfl
   | non=>exact EqAt.tuple_none hl (by omega)
   | bl b=>exact EqAt.tuple_bool _ hl (by omega)
   | int b t=>exact EqAt.tuple_int _ _ hl (by omega)
   | str b t=>exact EqAt.tuple_str _ _ hl (by omega)
  | non =>
   cases w' with
   | lst hl' _ _=>exact EqAt.none_list hl' (by omega)
   | tup hl' _ _=>exact EqAt.none_tuple hl' (by omega)
   | _=>cases h;cases h';exact lY r r' rfl rfl
  | bl b =>
   cases w' with
   | lst hl' _ _=>exact EqAt.bool_list _ hl' (by omega)
   | tup hl' _ _=>exact EqAt.bool_tuple _ hl' (by omega)
   | _=>cases h;cases h';exact lY r r' rfl rfl
  | int b t =>
   cases w' with
   | lst hl' _ _=>exact EqAt.int_list _ _ hl' (by omega)
   | tup hl' _ _=>exact EqAt.int_tuple _ _ hl' (by omega)
   | _=>cases h;cases h';exact lY r r' rfl rfl
  | str b t =>
   cases w' with
   | lst hl' _ _=>exact EqAt.str_list _ _ hl' (by omega)
   | tup hl' _ _=>exact EqAt.str_tuple _ _ hl' (by omega)
   | _=>cases h;cases h';exact lY r r' rfl rfl
end
def aUV (neg:Bool):R2:=fun x y H Q=>∃ d e,Is H d x ∧ Is H e y ∧ bD 30 d = true ∧ bD 30 e = true ∧ Q (.bl (if neg then !deq d e else deq d e)) H
theorem aMN {X:Cx} (hu:X.A.units + 64 < cLine):OpR X (BW .Eq) (aUV false):=by
 intro pins s σ H x y v u Q I rx ry h
 obtain ⟨d,e,h,h',f,g,q⟩:=h
 exact (aLV (n:=29) I (Is.eqAt I 29) d e x y v u X.A (by omega) f g h h' rx ry).1 _ _ _ _ ⟨.bl _,H,I,rfl,q⟩
theorem aSX {X:Cx} (hu:X.A.units + 64 < cLine):OpR X (BW .NotEq) (aUV true):=by
 intro pins s σ H x y v u Q I rx ry h
 obtain ⟨d,e,h,h',f,g,q⟩:=h
 exact (aLV (n:=29) I (Is.eqAt I 29) d e x y v u X.A (by omega) f g h h' rx ry).2 _ _ _ _ ⟨.bl _,H,I,rfl,q⟩
end L2
namespace L2
open PySem PySem.Spec PyProof.Rows
instance keyMem (k:Key) (l:List Key):Decidable (k ∈ l):=decidable_of_iff (l.any (fun x=>decide (x = k)) = true) (by simp)
def eJ (key:Nat → Key):Nat → List Key
 | 0=>[]
 | i + 1=>if key i ∈ eJ key i then eJ key i else eJ key i ++ [key i]
theorem uL (key:Nat → Key):∀ i,(eJ key i).length ≤ i
 | 0=>AQ _
 | i + 1=>by
  have ih:=uL key i
  show (if key i ∈ eJ key i then eJ key i else eJ key i ++ [key i]).length ≤ i + 1
  split
  ·omega
  ·rw [Ai,CB];omega
theorem aDF (key:Nat → Key) (k:Key):∀ i,k ∈ eJ key i ↔ ∃ j,j < i ∧ key j = k
 | 0=>by
  constructor
  ·intro h;cases h
  ·rintro ⟨j,h,_⟩;omega
 | i + 1=>by
  have ih:=aDF key k i
  show k ∈ (if key i ∈ eJ key i then eJ key i else eJ key i ++ [key i]) ↔ _
  have step:(k ∈ eJ key i ∨ k = key i) ↔ ∃ j,j < i + 1 ∧ key j = k:=by
   rw [ih]
   constructor
   ·rintro (⟨j,h,e⟩ | e)
    ·exact ⟨j,by omega,e⟩
    ·exact ⟨i,by omega,e.symm⟩
   ·rintro ⟨j,h,e⟩
    by_cases hj:j = i
    ·subst hj;exact .inr e.symm
    ·exact .inl ⟨j,by omega,e⟩
  rw [← step]
  split
  ·rename_i h
   constructor
   ·exact .inl
   ·rintro (h' | rfl)
    ·exact h'
    ·exact h
  ·rw [Au,AW]
theorem yR (key:Nat → Key):∀ n,(eJ key n).length = n ↔ ∀ i j,i < j → j < n → key i ≠ key j
 | 0=>⟨fun _ i j _ h=>absurd h (Nat.not_lt_zero _),fun _=>rfl⟩
 | n + 1=>by
  have ih:=yR key n
  have le:=uL key n
  have mm:=aDF key (key n) n
  show (if key n ∈ eJ key n then eJ key n else eJ key n ++ [key n]).length = n + 1 ↔ _
  split
  ·rename_i h
   constructor
   ·intro e;omega
   ·intro e
    obtain ⟨j,hj,q⟩:=mm.mp h
    exact absurd q (e j n hj (DP n))
  ·rename_i h
   rw [Ai,CB,Nat.add_right_cancel_iff,ih]
   constructor
   ·intro e i j hi hj
    by_cases q:j = n
    ·subst q
     exact fun z=>h (mm.mpr ⟨i,hi,z⟩)
    ·exact e i j hi (by omega)
   ·intro e i j hi hj
    exact e i j hi (by omega)
def wT (ks:List Key):List Key:=eJ (fun i=>ks.getD i (.inl 0)) ks.length
theorem zD (ks:List Key):(wT ks).length = ks.length ↔ ks.Nodup:=by
 unfold wT
 rw [yR,CM,De]
 constructor
 ·intro h i j hi hj hij
  have:=h i j hij hj
  simpa [Aa,hi,hj] using this
 ·intro h i j hij hj
  have hi:i < ks.length:=by omega
  have:=h i j hi hj hij
  simpa [Aa,hi,hj] using this
theorem aHZ (ks:List Key):(wT ks).length ≤ ks.length:=uL _ _
def aKJ (P:Program) (w:World) (a:Addr) (S:Key → Bool) (n:Nat):HO:=.ext fun h=>h.SetOf (aS P w) a S n
theorem aKJ.ok {P:Program} {w:World} {H:Hp} {h:Heap} {a:Addr} {S:Key → Bool} {n:Nat} (x:h.SetOf (aS P w) a S n):bW P w H h a (aKJ P w a S n) :=
 ⟨x,let ⟨o,_,_,_,ho,_⟩:=x;⟨o,ho⟩,fun _ _ ⟨o,es,ep,t,ho,r⟩ k=>⟨o,es,ep,t,k o ho,r⟩⟩
theorem aMV {P:Program} {w:World} {k:Key} {v:Value} (h:(aS P w).is k v = true):v.scannable = true:=by
 rcases cR h with ⟨i,t,rfl,rfl⟩ | ⟨x,t,rfl,rfl⟩ <;> rfl
section
variable {P:Program} {w:World} {A:Around} {R:Result → Shared → Prop} {I:Addr} {fp wr:List Addr} {G:Array Da → Array Da → Prop} {n:Nat} {Pv:Nat → Value → Prop} {Stt:Nat → Shared → Prop}
theorem aEO {h:Heap} {a:Addr} {S S':Key → Bool} {n n':Nat} (x:h.SetOf (aS P w) a S n) (e:∀ k,S k = S' k) (q:n = n'):h.SetOf (aS P w) a S' n':=by
 obtain rfl:S = S':=funext e
 subst q
 exact x
theorem aLM (W:WalksS P w A.in1 I fp wr G n Pv Stt) (D:Addr) (hD:D ∉ fp) (key:Nat → Key) (hv:∀ i v,Pv i v → (aS P w).is (key i) v = true) (hb:n + 1 < scanBound) (fin:∀ s s',Moved (D :: wr) G s s' → s'.heap.SetOf (aS P w) D (fun k=>decide (k ∈ eJ key n)) (eJ key n).length → True) :
  ∀ (m i:Nat) (s:Shared),n - i = m → i ≤ n → Stt i s → s.heap.SetOf (aS P w) D (fun k=>decide (k ∈ eJ key i)) (eJ key i).length →
   (∀ s',Moved (D :: wr) G s s' → s'.heap.SetOf (aS P w) D (fun k=>decide (k ∈ eJ key n)) (eJ key n).length → R (.ok (.ret .none)) s') →
   codeAny (model P w) A (.builtin "set.update.loop" ⟨[.ref D,.ref I],[]⟩) R s:=by
 have hDw:D ∉ wr:=fun z=>hD (W.sub _ z)
 have sub:∀ b ∈ wr,b ∈ D :: wr:=fun b z=>AO _ z
 have moved:∀ {s s':Shared} {S:Key → Bool} {c:Nat},Moved wr G s s' → s.heap.SetOf (aS P w) D S c → s'.heap.SetOf (aS P w) D S c:=fun mv ⟨o,es,ep,t,ho,r⟩=>⟨o,es,ep,t,mv.heap D _ hDw ho,r⟩
 intro m
 induction m with
 | zero =>
  intro i s e1 e2 st hS hR
  obtain rfl:i = n:=by omega
  refine CJ PyProof.Rows.F.entry_set_update_loop ?_
  rw [Bu Ci _]
  show wpAny _ A.in1 (pyNext (.ref I) >>= _) _ _ s
  refine AD (W.done s _ _ st fun s' mv=>?_)
  exact AT (hR s' (mv.mono sub) (moved mv hS))
 | succ m ih =>
  intro i s e1 e2 st hS hR
  have lt:i < n:=by omega
  refine CJ PyProof.Rows.F.entry_set_update_loop ?_
  rw [Bu Ci _]
  show wpAny _ A.in1 (pyNext (.ref I) >>= _) _ _ s
  refine AD (W.item i s _ _ lt st fun v s' pv st' mv=>?_)
  have hk:=hv i v pv
  have hS1:=moved mv hS
  show wpAny _ A.in1 (holding [v] (setAdd D v) >>= _) _ _ s'
  refine AD (CP ?_)
  unfold setAdd
  refine CP (AD ((aS P w).pyHash (k:=key i) hk ?_))
  have room:(eJ key i).length + 1 < scanBound:=by have:=uL key i;omega
  refine wpAny_setAddHashed_of (knd:=aS P w) (s:={ s' with toks:=s'.toks + 1 }) hk (aMV hk) hS1 room fun h' sb hS2=>?_
  have hS3:h'.SetOf (aS P w) D (fun k=>decide (k ∈ eJ key (i + 1))) (eJ key (i + 1)).length:=by
   refine aEO hS2 (fun k=>?_) ?_
   ·show (decide (k ∈ eJ key i) || decide (k = key i)) = decide (k ∈ if key i ∈ eJ key i then eJ key i else eJ key i ++ [key i])
    by_cases z:key i ∈ eJ key i
    ·rw [if_pos z]
     by_cases y:k = key i
     ·subst y;simp [z]
     ·simp [y]
    ·rw [if_neg z]
     simp
   ·show (if decide (key i ∈ eJ key i) = true then (eJ key i).length else (eJ key i).length + 1) = (if key i ∈ eJ key i then eJ key i else eJ key i ++ [key i]).length
    by_cases z:key i ∈ eJ key i
    ·rw [if_pos z,if_pos (decide_eq_true z)]
    ·rw [if_neg z,if_neg (by simpa using z)]
     simp
  refine AT ⟨Cd Ci _,ih (i + 1) _ (by omega) lt (W.frame _ s' _ _ st' (Cr _) fun b hb o e=>?_) hS3 fun s2 mv2 hS4=>?_⟩
  ·rw [sb.2 b (fun z:b = D=>hD (by rw [← z];exact hb))]
   exact e
  ·refine hR s2 (Moved.trans W.gtrans ((mv.mono sub).then_heap (Cr _) fun b o hb e=>?_) mv2) hS4
   rw [sb.2 b (fun z:b = D=>hb (by rw [z];exact AU))]
   exact e
end
section
variable {P:Program} {w:World} {A:Around} {E:Value → Shared → Prop} {s:Shared}
abbrev vW (led:Bool):Obj:={ cls:=.type "set",dict:=none,data:=.set #[] 0 (.fresh 0 0 led) }
set_option maxHeartbeats 8000000 in
theorem aCI {l:Addr} {its:List Value} {ks:List Key} {Q:Value → Shared → Prop} (hh:A.handled = none) (hl:s.heap.IsList l its.toArray) (hk:∀ i v,its[i]? = some v → (aS P w).is (ks.getD i (.inl 0)) v = true) (hn:its.length = ks.length) (hb:its.length + 1 < scanBound)
  (h:∀ (h':Heap) (tk:Nat),h'.SetOf (aS P w) s.heap.objs.size (fun k=>decide (k ∈ wT ks)) (wT ks).length → (∀ b o,s.heap.get? b = some o → h'.get? b = some o) → Q (.ref s.heap.objs.size) { s with heap:=h',toks:=tk }) :
  wpAny (model P w) A (call (.type "set") [.ref l]) Q E s:=by
 obtain ⟨c,tl,hmro⟩:=CA.mro
 have m1:=CA.made
 have m2:=CA.sub
 refine wpAny_call (codeAny_of_tree ?_)
 show wpAny _ _ (callAny (.type "set") _) _ _ _
 refine AT ⟨Code.quiet_builtin _ (by decide +kernel),CJ PySem.F.entry_type_call ?_⟩
 rw [Around.under_plain (weight_type_call_type "set" [.ref l] []) rfl]
 have m3:=CA.notType
 have m4:=CA.canCreate
 have m5:=PySem.F.typeCall_set_1 (.ref l)
 repeat (any_goals (first | assumption | wp_step))
 refine Cy (code_set_new_1 (.ref l) (E:=E) (Q₁:=fun ob s1=>∃ led:Bool,ob = .ref s.heap.objs.size ∧ s1 = { s with heap:=s.heap.push (vW led) }) fun led=>⟨led,rfl,rfl⟩) fun r s1 hr=>?_
 cases r with
 | error e=>exact hr
 | ok fl =>
  cases fl with
  | ret ob =>
   obtain ⟨led,rfl,rfl⟩:=hr
   have hS:(s.heap.push (vW led)).get? s.heap.objs.size = some (vW led):=Ad _ rfl
   have hT:Shared.TypeIs { s with heap:=s.heap.push (vW led) } (.ref s.heap.objs.size) "set":=⟨_,hS,rfl⟩
   have m6:=CA.init.lookup
   have m7:=CA.init.bind (.ref s.heap.objs.size)
   repeat (any_goals (first | assumption | wp_step))
   refine Cy (codeAny_call_builtin (R:=wants (fun r s2=>r = .none ∧ ∃ h' tk,s2 = { s with heap:=h',toks:=tk } ∧ h'.SetOf (aS P w) s.heap.objs.size (fun k=>decide (k ∈ wT ks)) (wT ks).length ∧ (∀ b o,s.heap.get? b = some o → h'.get? b = some o)) E)
    CA.init.plain PySem.F.entry_set_init (check_set_init_1 hT ?_)) fun r2 s2 hr2=>?_
   ·obtain ⟨⟨oc,od,oda,osl⟩,hol,hcl,nl,hdl⟩:=hl
    simp only at hcl hdl
    subst hcl hdl
    have hol1:(s.heap.push (vW led)).get? l = some { cls:=.type "list",dict:=od,data:=.seq its.toArray nl,slots:=osl }:=AE _ hol
    have m8:=PySem.F.sub_list_set
    have m9:=PySem.F.sub_list_frozenset
    have m10:(Cf "list" == Cf "dict") = false:=by decide
    have hl1:(s.heap.push (vW led)).IsList l its.toArray:=⟨_,hol1,rfl,nl,rfl⟩
    have lS:l < s.heap.objs.size:=AZ hol
    unfold Builtin.«set.__init__» noKeywords Builtin.Frozenset.updateFrom
    generalize hPI:pyIter = PI
    wp_walk
    subst hPI
    refine Ct hl1 (AD (wpAny_runValue ?_))
    have hh3:A.in1.in1.in1.handled = none:=by simp [hh]
    have nI:l ≠ (s.heap.push (vW led)).objs.size:=by rw [DF];exact Ah (Dj lS)
    have nS:s.heap.objs.size ∉ [(s.heap.push (vW led)).objs.size,l]:=by
     rw [DF]
     simp only [Af,AW,Bk,or_false,not_or]
     exact ⟨Ah (DP _),DX lS⟩
    have sz:its.toArray.size = ks.length:=by rw [AS,hn]
    refine aLM ((EW hh3 _ l nI its.toArray).toS) s.heap.objs.size nS (fun i=>ks.getD i (.inl 0)) (fun i v pv=>hk i v (by simpa using pv)) (by rw [AS];exact hb) (fun _ _ _ _=>trivial) (its.toArray.size - 0) 0 _ (by omega) (BT _)
     ⟨⟨_,Ad _ rfl,rfl,rfl⟩,(hl1.push _)⟩ ?_ ?_
    ·have g:((s.heap.push (vW led)).push { cls:=.type "list_iterator",data:=.fields #[.ref l,.int 0 0] }).get? s.heap.objs.size = some (vW led):=AE _ hS
     exact ⟨_,#[],0,_,g,⟨rfl,rfl,rfl⟩,rfl,fun e he=>by simp at he,fun k=>by simp [eJ],by decide,by rfl,rfl⟩
    ·intro s3 mv hS3
     obtain ⟨h3,g3,d3,t3,o3⟩:=s3
     have e1:g3 = s.gens:=mv.gens
     have e2:d3 = s.drawn:=mv.drawn
     have e3:o3 = s.os:=mv.os
     subst e1 e2 e3
     rw [sz] at hS3
     show wpAny _ _ _ _ _ _
     refine AT ?_
     show wpAny _ _ (ret Bm) _ _ _
     refine AT ⟨rfl,h3,t3,rfl,hS3,fun b o e=>?_⟩
     have lb:=AZ e
     have b1:b ≠ s.heap.objs.size:=Ah lb
     have b2:b ≠ (s.heap.push (vW led)).objs.size:=by rw [DF];exact Ah (Dj lb)
     exact mv.heap b o (by simp only [Af,AW,Bk,or_false,not_or];exact ⟨b1,b2⟩) (AE _ (AE _ e))
   ·cases r2 with
    | error e=>exact hr2
    | ok f2 =>
     cases f2 with
     | ret r =>
      obtain ⟨rfl,h',tk,rfl,hS2,hk2⟩:=hr2
      repeat (any_goals (first | assumption | wp_step))
      exact h _ _ hS2 hk2
     | _=>exact hr2.elim
  | _=>exact hr.elim
end
section
variable {X:Cx}
theorem aHN {P:Program} {w:World}:∀ {ks:List Key} {us:List Value},bK (ks.map kV) us → ∀ i v,us[i]? = some v → (aS P w).is (ks.getD i (.inl 0)) v = true
 | [],us,r,i,v,e=>by
  rw [Ch] at r
  cases r
  simp at e
 | k :: ks,us,r,i,v,e=>by
  rw [AY] at r
  cases r with
  | cons r1 r2 =>
   cases i with
   | zero =>
    simp at e
    subst e
    cases k with
    | inl z=>obtain ⟨t,rfl⟩:=r1;exact rY z t
    | inr z=>obtain ⟨t,rfl⟩:=r1;exact rX z t
   | succ i =>
    have:=aHN (P:=P) (w:=w) r2 i v (by simpa using e)
    simpa using this
theorem pF (hc:X.calm = true):fI X (.type "set") (fun xs H Q=>∃ (p:Addr) (ks:List Key),xs = [.ref p] ∧ SqL X.K H p (ks.map kV) ∧ ks.length ≤ 1000 ∧
  ∀ l,H l = none → Q (.ref l) (upd H l (aKJ X.prog X.w l (fun k=>decide (k ∈ wT ks)) (wT ks).length))):=by
 intro pins s σ H xs us Q I r h
 obtain ⟨p,ks,rfl,hq,hn,q⟩:=h
 obtain ⟨u,rfl,ru⟩:=bK.one r
 cases ru
 obtain ⟨its,rv,pl,hz⟩:=I.list hq
 have hlen:=rv.length
 rw [AA] at hlen
 refine aCI (ks:=ks) (I.ok.hd hc) pl.isList (aHN rv) hlen.symm (by unfold scanBound;omega) fun h' tk hS hk=>?_
 exact ⟨.ref s.heap.objs.size,_,I.laid (t':=tk) hk (AQ _) (aKJ.ok hS),rfl,q _ (I.hok.fresh (AQ _))⟩
theorem call_len_set:fI X (.builtin "len") (fun xs H Q=>∃ l S n,xs = [.ref l] ∧ H l = some (aKJ X.prog X.w l S n) ∧ n ≤ 1000 ∧ Q (.int n) H):=by
 intro pins s σ H xs us Q I r h
 obtain ⟨l,S,n,rfl,e,hn,q⟩:=h
 obtain ⟨u,rfl,ru⟩:=bK.one r
 cases ru
 obtain ⟨⟨o,es,ep,t,ho,hex,hd,hel,hmem,hb,hf,hes⟩,_⟩:=I.hok l _ e
 refine PySem.call_len_set ho hex hd hf (by rw [hes];omega) ⟨.int n,H,I.tok _,⟨s.toks + 1,by rw [hes]⟩,q⟩
end
end L2
namespace L2
open PySem PySem.Spec PyProof.Rows
section
variable {X:Cx}
theorem yX {k:Key} {v:Value} (h:wF k v = true):bJ (kV k) v:=by
 rcases cR h with ⟨i,t,rfl,rfl⟩ | ⟨x,t,rfl,rfl⟩
 ·exact ⟨t,rfl⟩
 ·exact ⟨t,rfl⟩
theorem uF:∀ {xs:List V} {us:List Value},us.length = xs.length → (∀ (j:Nat) (u:Value) (x:V),us[j]? = some u → xs[j]? = some x → bJ x u) → bK xs us
 | [],[],_,_=>.nil
 | x :: xs,u :: us,hl,h=>.cons (h 0 u x rfl rfl) (uF (by simpa using hl) fun j v y e1 e2=>h (j + 1) v y (by simpa using e1) (by simpa using e2))
 | [],_ :: _,hl,_=>by simp at hl
 | _ :: _,[],hl,_=>by simp at hl
theorem KV.get:∀ {kvs:List (Key × V)} {vs:List (Key × Value)} {i:Nat} {p:Key × Value},KV kvs vs → vs[i]? = some p → ∃ q,kvs[i]? = some q ∧ q.1 = p.1 ∧ bJ q.2 p.2
 | _,_,_,_,.nil,e=>by simp at e
 | _,_,0,_,.cons r _,e=>by simp at e;subst e;exact ⟨_,rfl,r.1,r.2⟩
 | _,_,i + 1,p,.cons _ t,e=>by
  obtain ⟨q,h1,h2⟩:=KV.get (i:=i) (p:=p) t (by simpa using e)
  exact ⟨q,by simpa using h1,h2⟩
theorem jX (hc:X.calm = true):fI X (.type "list") (fun xs H Q=>∃ p kvs,xs = [.ref p] ∧ Rd H p (.dK kvs) ∧ ∀ l,H l = none → Q (.ref l) (upd H l (.lst (kvs.map fun kv=>kV kv.1)))):=by
 intro pins s σ H xs us Q I r h
 obtain ⟨p,kvs,rfl,hq,q⟩:=h
 obtain ⟨u,rfl,ru⟩:=bK.one r
 cases ru
 obtain ⟨hz,lo,vs,kv,hD⟩:=hq.ok I.hok
 obtain ⟨ep,hat⟩:=hD.dictAt
 have hl:=KV.length kv
 refine PySem.W.kdl_call (PySem.W.kdl_dict (knd:=aS X.prog X.w) (kvs:=vs) (ep:=ep) lo) (I.ok.hd hc) hat (by omega) fun h' tk acc c hk hg hi=>?_
 refine ⟨.ref s.heap.objs.size,_,I.laid (t':=tk) hk (AQ _) (show bW X.prog X.w _ h' _ (.lst (kvs.map fun kv=>kV kv.1)) from ⟨by rw [AA];exact hz,acc.toList,c,?_,by simpa using hg⟩),rfl,q _ (I.hok.fresh (AQ _))⟩
 refine uF (by rw [AA,Bg,hi.1,hl]) fun j u x e1 e2=>?_
 obtain ⟨k,y,e3,e4⟩:=hi.2 j u (by rw [← CO];exact e1)
 obtain ⟨z,e5,e6,_⟩:=KV.get kv e3
 rw [AK,e5] at e2
 have e2':kV z.1 = x:=by simpa using e2
 subst e2'
 rw [show z.1 = k from e6]
 exact yX e4
def aEB (v d:Addr):HO:=.ext fun h=>h.IsValuesView v d
theorem aEB.ok {P:Program} {w:World} {H:Hp} {h:Heap} {v d:Addr} (x:h.IsValuesView v d):bW P w H h v (aEB v d) :=
 ⟨x,let ⟨o,ho,_⟩:=x;⟨o,ho⟩,fun _ _ ⟨o,ho,r⟩ k=>⟨o,k o ho,r⟩⟩
theorem aJK:MtR X "dict.values" (fun x vs H Q=>∃ d kvs,x = .ref d ∧ vs = [] ∧ Rd H d (.dK kvs) ∧ ∀ v,H v = none → Q (.ref v) (upd H v (aEB v d))):=by
 intro pins s σ H x vs v us Q I rx rv h
 obtain ⟨d,kvs,rfl,rfl,hq,q⟩:=h
 cases rx
 have hus:=rv.zero
 subst hus
 obtain ⟨hz,lo,ws,kv,hD⟩:=hq.ok I.hok
 refine call_meetsIn PySem.F.slot_dict_values hD.typeIs PySem.F.entry_dict_values (PySem.F.args_dict_values_1 _) (meets_dict_values (aS X.prog X.w) d lo) ⟨⟨ws,hD⟩,?_⟩
 exact ⟨.ref s.heap.objs.size,_,I.laid (t':=s.toks) (fun b ob e=>AE _ e) (AQ _) (aEB.ok ⟨_,Ad _ rfl,rfl,rfl⟩),rfl,q _ (I.hok.fresh (AQ _))⟩
theorem sK (hc:X.calm = true):fI X (.type "list") (fun xs H Q=>∃ v d kvs,xs = [.ref v] ∧ H v = some (aEB v d) ∧ Rd H d (.dK kvs) ∧ ∀ l,H l = none → Q (.ref l) (upd H l (.lst (kvs.map (·.2))))):=by
 intro pins s σ H xs us Q I r h
 obtain ⟨v,d,kvs,rfl,ev,hq,q⟩:=h
 obtain ⟨u,rfl,ru⟩:=bK.one r
 cases ru
 obtain ⟨hz,lo,vs,kv,hD⟩:=hq.ok I.hok
 obtain ⟨hv,_⟩:=I.hok v _ ev
 obtain ⟨ep,hat⟩:=hD.dictAt
 have hl:=KV.length kv
 refine PySem.W.kdl_call (PySem.W.kdl_values (knd:=aS X.prog X.w) (kvs:=vs) (ep:=ep)) (I.ok.hd hc) ⟨hv,hat⟩ (by omega) fun h' tk acc c hk hg hi=>?_
 refine ⟨.ref s.heap.objs.size,_,I.laid (t':=tk) hk (AQ _) (show bW X.prog X.w _ h' _ (.lst (kvs.map (·.2))) from ⟨by rw [AA];exact hz,acc.toList,c,?_,by simpa using hg⟩),rfl,q _ (I.hok.fresh (AQ _))⟩
 refine uF (by rw [AA,Bg,hi.1,hl]) fun j u x e1 e2=>?_
 obtain ⟨k,e3⟩:=hi.2 j u (by rw [← CO];exact e1)
 obtain ⟨z,e5,_,e6⟩:=KV.get kv e3
 rw [AK,e5] at e2
 have e2':z.2 = x:=by simpa using e2
 subst e2'
 exact e6
end
theorem aBU:∀ {xs:List V} {us:List Value},bK xs us → bK xs.reverse us.reverse
 | _,_,.nil=>.nil
 | _,_,.cons r t=>by
  rw [Dg,Dg]
  exact bK.append (aBU t) (.cons r .nil)
section
variable {X:Cx} {e se:Expr} {te ts:TE} {p2 pos:Pos}
def aVX (K:AG) (te ts:TE):TE:=fun σ H Q=>te σ H fun x H1=>ts σ H1 fun y H2=>∃ a xs,y = .int (-1) ∧ x = .ref a ∧ SqL K H2 a xs ∧ ∀ p,H2 p = none → Q (.ref p) (upd H2 p (.lst xs.reverse))
theorem aMG (he:PE X e te) (hs:PE X se ts):PE X (.Subscript e (.Slice none none (some se) p2) pos) (aVX X.K te ts):=by
 intro pins s σ H Q I h
 refine Subscript_ (thn (he pins s σ H _ I h) fun v s1 ⟨x,H1,I1,r1,q1⟩=>?_)
 refine wpAny_Slice ?_
 rw [evalPart_none,evalPart_some]
 refine AT (AT (thn (hs pins s1 σ H1 _ I1 q1) fun vk s3 ⟨y,H3,I3,r3,q3⟩=>?_))
 obtain ⟨a,xs,rfl,rfl,hx,q⟩:=q3
 cases r1
 obtain ⟨tk,rfl⟩:=r3
 have I4:Inv X pins σ H3 { s3 with heap:=s3.heap.push { cls:=.type "slice",data:=.fields #[.none,.none,.int (-1) tk] } }:=I3.kept (t':=s3.toks) fun b ob q=>AE _ q
 obtain ⟨its,r,ht,hz⟩:=I4.list hx
 have hlen:=r.length
 refine tail_any (ops:=[.ref a,.ref s3.heap.objs.size]) ht.isList.typeIs slot_list_getitem.lookup ?_ (by with_unfolding_all rfl)
 refine wpAny_getItem_list_slice ht.isList (Heap.IsSliceOf.new ..) .none .none (.int _ _) (by decide) ?_ (by rw [AS] <;> omega)
 rw [PySem.W.krv_pick]
 refine ⟨.ref _,_,I4.laid (t':=s3.toks) (o:=.lst xs.reverse) (fun b ob q=>AE _ q) (AQ _) ?_,rfl,q _ (I4.hok.fresh (AQ _))⟩
 exact ⟨by rw [Ba];exact hz,its.reverse,0,aBU r,Ad _ rfl⟩
end
end L2
namespace L2
open PySem PySem.Spec PyProof.Rows
theorem vX:typeLookup (.type "list") "keys" = pure none:=by rw [typeLookup_type,builtinLookup_eq_fast];kernel_rfl
section
variable {P:Program} {w:World} {A:Around} {E:Value → Shared → Prop} {s:Shared}
theorem qR {a:Addr} {xs:Array Value} {k:Nat} {sl:Array (Option Value)} {Q:Option Value → Shared → Prop} (hA:A.handled = none) (hx:s.heap.get? a = some { cls:=.type "list",dict:=none,data:=.seq xs k,slots:=sl })
  (h:∀ h' tk,(∀ b o,s.heap.get? b = some o → h'.get? b = some o) → Q none { s with heap:=h',toks:=tk }):wpAny (model P w) A (getAttr? (.ref a) "keys") Q E s:=by
 obtain ⟨hp,g,d,tk,os⟩:=s
 have hT:∀ tk',(⟨hp,g,d,tk',os⟩:Shared).TypeIs (.ref a) "list":=fun _=>⟨_,hx,rfl⟩
 have f1:=sub_AttributeError
 have f3:=Du.lookup
 have f4:=Du.bind (.ref a)
 have f5:=am_list_getattr_none
 unfold getAttr? getAttrBy? getAttrBy
 repeat (any_goals (first | assumption | exact hT _ | ((with_reducible show wpAny _ _ (call (Value.builtin "list.__getattribute__") _ _) _ _ _);refine call_meets Du (hT _) am_entry_list_getattribute (F.args_list_getattribute_2 _ _) (meets_getattribute_miss_list a xs k sl "keys" _ vX (by decide +kernel)) ⟨hx,hA,fun h' tk' e hx'=>?_⟩) | wp_step))
 obtain ⟨t',u',he⟩:=hx'.there
 show wpAny _ _ (getattributeRaised _ _ _ _ _ _ _) _ _ _
 unfold getattributeRaised
 repeat (any_goals (first | assumption | wp_step))
 exact h _ _ hx'.keeps
end
theorem gR:entryFor table "dict.update.loop" = some Builtin.«dict.update.loop»:=entryFor_of_tree (by kernel_rfl)
theorem cO:plainId "dict.update.loop" = true:=by decide +kernel
section
variable {P:Program} {w:World} {A:Around} {R:Result → Shared → Prop} {I:Addr} {fp wr:List Addr} {G:Array Da → Array Da → Prop} {n:Nat} {Pv:Nat → Value → Prop} {Stt:Nat → Shared → Prop}
theorem aJZ (W:WalksS P w A.in1 I fp wr G n Pv Stt) (D:Addr) (hD:D ∉ fp) (res:Value) (kvs:List (Key × Value)) (hn:kvs.length = n) (hz:n ≤ Ar) (s₀:Shared)
  (hv:∀ (i:Nat) (v:Value),Pv i v → ∃ (a:Addr) (k:Key) (kv x:Value) (ob:Obj) (c:Nat),v = .ref a ∧ a ∉ D :: wr ∧ s₀.heap.get? a = some ob ∧ ob.cls = .type "tuple" ∧ ob.data = .seq #[kv,x] c ∧ kvs[i]? = some (k,x) ∧ (aS P w).is k kv = true) :
  ∀ (m i:Nat) (s:Shared),n - i = m → i ≤ n → Stt i s → (∀ b o,b ∉ D :: wr → s₀.heap.get? b = some o → s.heap.get? b = some o) → s.heap.DictOf (aS P w) D (merged [] (kvs.take i)) →
   (∀ s',Moved (D :: wr) G s s' → s'.heap.DictOf (aS P w) D (merged [] kvs) → R (.ok (.ret res)) s') →
   codeAny (model P w) A (.builtin "dict.update.loop" ⟨[.ref D,.ref I,rawInt i,res],[]⟩) R s:=by
 have hDw:D ∉ wr:=fun z=>hD (W.sub _ z)
 have sub:∀ b ∈ wr,b ∈ D :: wr:=fun b z=>AO _ z
 have moved:∀ {s s':Shared} {l:List (Key × Value)},Moved wr G s s' → s.heap.DictOf (aS P w) D l → s'.heap.DictOf (aS P w) D l:=fun mv ⟨o,es,ep,ho,r⟩=>⟨o,es,ep,mv.heap D _ hDw ho,r⟩
 intro m
 induction m with
 | zero =>
  intro i s e1 e2 st kp hS hR
  obtain rfl:i = n:=by omega
  rw [AH (by omega)] at hS
  refine CJ gR ?_
  rw [Bu cO _]
  show wpAny _ A.in1 (pyNext (.ref I) >>= _) _ _ s
  refine AD (W.done s _ _ st fun s' mv=>?_)
  show wpAny _ A.in1 (Builtin.Dict.addKeywords D [] >>= _) _ _ s'
  refine AD (AT ?_)
  exact AT (hR s' (mv.mono sub) (moved mv hS))
 | succ m ih =>
  intro i s e1 e2 st kp hS hR
  have lt:i < n:=by omega
  refine CJ gR ?_
  rw [Bu cO _]
  show wpAny _ A.in1 (pyNext (.ref I) >>= _) _ _ s
  refine AD (W.item i s _ _ lt st fun v s' pv st' mv=>?_)
  obtain ⟨a,k,kv,x,ob,c,rfl,ha,hg,hc,hd,hi,hk⟩:=hv i v pv
  have hS1:=moved mv hS
  have hg1:s'.heap.get? a = some ob:=mv.heap a ob (fun z=>ha (sub a z)) (kp a ob ha hg)
  have hT:s'.TypeIs (.ref a) "tuple":=⟨ob,hg1,hc⟩
  refine AD (CP (AD (wpAny_tryCatch ?_)))
  unfold Builtin.Dict.pairItems
  refine AD (EJ hT ?_)
  rw [if_pos (by decide)]
  refine AD (FR hg1 hd (AT ?_))
  show wpAny _ _ (holding [kv,x] (dictSet D kv x)) _ _ s'
  refine CP (wpAny_dictSet_pairs hk hS1 (fun h' hS2 sb=>?_) ?_)
  ·have e:merged [] (kvs.take (i + 1)) = stored (merged [] (kvs.take i)) k x:=merged_take_succ [] kvs i (k,x) hi
   rw [← e] at hS2
   refine AT ⟨Cd cO _,ih (i + 1) _ (by omega) lt (W.frame _ s' _ _ st' (Cr _) fun b hb o e=>?_) (fun b o hb e=>?_) hS2 fun s2 mv2 hS4=>?_⟩
   ·rw [sb.2 b (fun z:b = D=>hD (by rw [← z];exact hb))]
    exact e
   ·rw [sb.2 b (fun z:b = D=>hb (by rw [z];exact AU))]
    exact mv.heap b o (fun z=>hb (sub b z)) (kp b o hb e)
   ·refine hR s2 (Moved.trans W.gtrans ((mv.mono sub).then_heap (Cr _) fun b o hb e=>?_) mv2) hS4
    rw [sb.2 b (fun z:b = D=>hb (by rw [z];exact AU))]
    exact e
  ·have:=merged_length_le ([]:List (Key × Value)) (kvs.take i)
   rw [Ac] at this
   simp only [ED] at this
   omega
end
section
variable {P:Program} {w:World} {A:Around} {E:Value → Shared → Prop} {s:Shared}
theorem xV {l:Addr} {its:List Value} {kvs:List (Key × Value)} {Q:Value → Shared → Prop} (hh:A.handled = none) (hl:PlainL s.heap l its.toArray) (hn:its.length = kvs.length) (hz:its.length ≤ Ar)
  (hv:∀ (i:Nat) (v:Value),its[i]? = some v → ∃ (a:Addr) (k:Key) (kv x:Value) (ob:Obj) (c:Nat),v = .ref a ∧ s.heap.get? a = some ob ∧ ob.cls = .type "tuple" ∧ ob.data = .seq #[kv,x] c ∧ kvs[i]? = some (k,x) ∧ (aS P w).is k kv = true)
  (h:∀ (h':Heap) (tk:Nat),h'.DictOf (aS P w) s.heap.objs.size (merged [] kvs) → (∀ b o,s.heap.get? b = some o → h'.get? b = some o) → Q (.ref s.heap.objs.size) { s with heap:=h',toks:=tk }) :
  wpAny (model P w) A (call (.type "dict") [.ref l]) Q E s:=by
 refine FS (Q₁:=fun (obj:Value) (s₁:Shared)=>obj = Ap s.heap.objs.size ∧ s₁ = { s with heap:=s.heap.push { cls:=.type "dict",data:=.dict #[] } }) F.kt_called_dict (F.kt_typeCall_dict_1 _) F.entry_dict_init (kt_code_dict_new _ ⟨rfl,rfl⟩) ?_
 rintro obj s₁ ⟨rfl,rfl⟩
 have hnew:(s.heap.push { cls:=.type "dict",data:=.dict #[] }).DictOf (aS P w) s.heap.objs.size []:=Heap.DictOf.new s.heap
 obtain ⟨⟨oc,od,oda,osl⟩,nl,hol,hcl,hod,hdl⟩:=id hl
 simp only at hcl hod hdl
 subst hcl hod hdl
 have lS:l < s.heap.objs.size:=AZ hol
 have hol1:=AE (h:=s.heap) { cls:=.type "dict",data:=.dict #[] } hol
 refine ⟨hnew.typeIs,F.args_dict_init_2 _ _,?_⟩
 unfold Builtin.«dict.__init__»
 refine AD ?_
 unfold Builtin.Dict.selfAndRest
 refine AD (EV hnew.typeIs ?_)
 show wpAny _ _ (pure (s.heap.objs.size,[Ap l])) _ _ _
 refine AT ?_
 show wpAny _ _ (Cs "dict.__init__" s.heap.objs.size (.ref l) [] .none) _ _ _
 unfold Cs
 refine AD (EJ (T:="list") ⟨_,hol1,rfl⟩ ?_)
 rw [if_pos (by decide)]
 refine AD (qR (by simp [hh]) hol1 fun h1 t1 k1=>?_)
 show wpAny _ _ (rule _ >>= _) _ _ _
 refine AD (EK ?_)
 have hol2:=k1 _ _ hol1
 have hl2:h1.IsList l its.toArray:=⟨_,hol2,rfl,nl,rfl⟩
 refine AD (Ct (s:={ s with heap:=h1,toks:=t1 }) hl2 ?_)
 have sz1:s.heap.objs.size < h1.objs.size:=by
  obtain ⟨o,es,ep,ho,_⟩:=hnew
  exact AZ (k1 _ _ ho)
 have nI:l ≠ h1.objs.size:=Ah (AZ hol2)
 have nD:s.heap.objs.size ∉ [h1.objs.size,l]:=by
  simp only [Af,AW,Bk,or_false,not_or]
  exact ⟨Ah sz1,DX lS⟩
 refine AT ⟨Cd cO _,?_⟩
 have hh2:A.in1.in1.handled = none:=by simp [hh]
 refine aJZ ((EW hh2 _ l nI its.toArray).toS) s.heap.objs.size nD .none kvs (by rw [AS,hn]) (by rw [AS];exact hz) { s with heap:=h1.push { cls:=.type "list_iterator",data:=.fields #[.ref l,.int 0 0] },toks:=t1 } (fun i v pv=>?_) (its.toArray.size - 0) 0 _ (by omega) (BT _)
  ⟨⟨_,Ad _ rfl,rfl,rfl⟩,(hl2.push _)⟩ (fun _ _ _ e=>e) ?_ ?_
 ·obtain ⟨a,k,kv,x,ob,c,rfl,hg,hc,hd,hi,hk⟩:=hv i v (by simpa using pv)
  have la:=AZ hg
  refine ⟨a,k,kv,x,ob,c,rfl,?_,AE _ (k1 _ _ (AE _ hg)),hc,hd,hi,hk⟩
  simp only [Af,AW,Bk,or_false,not_or]
  exact ⟨Ah la,Ah (DY la sz1)⟩
 ·obtain ⟨o,es,ep,ho,r⟩:=hnew
  exact ⟨o,es,ep,AE _ (k1 _ _ ho),r⟩
 ·intro s3 mv hS3
  obtain ⟨h3,g3,d3,t3,o3⟩:=s3
  have e1:g3 = s.gens:=mv.gens
  have e2:d3 = s.drawn:=mv.drawn
  have e3:o3 = s.os:=mv.os
  subst e1 e2 e3
  refine ⟨rfl,h h3 t3 hS3 fun b o e=>?_⟩
  have lb:=AZ e
  refine mv.heap b o ?_ (AE _ (k1 _ _ (AE _ e)))
  simp only [Af,AW,Bk,or_false,not_or]
  exact ⟨Ah lb,Ah (DY lb sz1)⟩
end
def bP (H:Hp) (ys:List V) (kvs:List (Key × V)):Prop:=Paired (fun (y:V) (kv:Key × V)=>∃ a,y = .ref a ∧ H a = some (.tup [kV kv.1,kv.2])) ys kvs
theorem bP.nil (H:Hp):bP H [] []:=CL
theorem bP.len {H:Hp} {ys:List V} {kvs:List (Key × V)} (h:bP H ys kvs):ys.length = kvs.length:=CH h
theorem bP.same {H H':Hp} (S:aI H H'):∀ {ys:List V} {kvs:List (Key × V)},bP H ys kvs → bP H' ys kvs
 | _,_,CL=>CL
 | _,_,Ce ⟨a,e,o⟩ t=>Ce ⟨a,e,S _ _ o⟩ (bP.same S t)
theorem bP.snoc {H:Hp} {ys:List V} {kvs:List (Key × V)} {p:Addr} {k:Key} {v:V} (h:bP H ys kvs) (hp:H p = none):bP (upd H p (.tup [kV k,v])) (ys ++ [.ref p]) (kvs ++ [(k,v)]) :=
 Dd (h.same (aI.upd hp)) ⟨p,rfl,aF⟩
section
variable {X:Cx}
theorem aPK {P:Program} {w:World} {k:Key} {u:Value} (r:bJ (kV k) u):(aS P w).is k u = true:=by
 cases k with
 | inl z=>obtain ⟨t,rfl⟩:=r;exact rY z t
 | inr z=>obtain ⟨t,rfl⟩:=r;exact rX z t
theorem qK {pins:List (Addr × Obj)} {σ:St} {H:Hp} {s:Shared} (I:Inv X pins σ H s):∀ {ys:List V} {kvs:List (Key × V)} {its:List Value},bP H ys kvs → bK ys its →
  ∃ vk:List (Key × Value),KV kvs vk ∧ its.length = vk.length ∧ ∀ (i:Nat) (v:Value),its[i]? = some v → ∃ (a:Addr) (k:Key) (kv x:Value) (ob:Obj) (c:Nat),v = .ref a ∧ s.heap.get? a = some ob ∧ ob.cls = .type "tuple" ∧ ob.data = .seq #[kv,x] c ∧ vk[i]? = some (k,x) ∧ (aS X.prog X.w).is k kv = true
 | _,_,_,CL,CL=>⟨[],CL,rfl,fun i v e=>by simp at e⟩
 | _,(k,v0) :: kvs,u :: its,Ce ⟨a,e,o⟩ t,Ce r rs=>by
  obtain ⟨vk,h1,h2,h3⟩:=qK I t rs
  subst e
  cases r
  obtain ⟨tis,rt,⟨ob,g,hc,c,hd⟩,_⟩:=I.tuple (SqT.of o)
  obtain ⟨ku,xu,rfl,rk,rx⟩:=bK.two rt
  refine ⟨(k,xu) :: vk,Ce ⟨rfl,rx⟩ h1,by simp [h2],fun i v e=>?_⟩
  cases i with
  | zero =>
   simp at e
   subst e
   exact ⟨a,k,ku,xu,ob,c,rfl,g,hc,hd,rfl,aPK rk⟩
  | succ i =>
   obtain ⟨a',k',kv',x',ob',c',q⟩:=h3 i v (by simpa using e)
   exact ⟨a',k',kv',x',ob',c',by simpa using q⟩
theorem dJ (hc:X.calm = true):fI X (.type "dict") (fun xs H Q=>∃ (p:Addr) (ys:List V) (kvs:List (Key × V)),xs = [.ref p] ∧ SqL X.K H p ys ∧ bP H ys kvs ∧ kvs.length ≤ 1000 ∧ (kvs.map (·.1)).Nodup ∧ ∀ l,H l = none → Q (.ref l) (upd H l (.dK kvs))):=by
 intro pins s σ H xs us Q I r h
 obtain ⟨p,ys,kvs,rfl,hq,hp,hn,nd,q⟩:=h
 obtain ⟨u,rfl,ru⟩:=bK.one r
 cases ru
 obtain ⟨its,rv,pl,hz⟩:=I.list hq
 obtain ⟨vk,kv,el,hv⟩:=qK I hp rv
 have big:(1000:Nat) ≤ Ar:=by decide
 have l1:=KV.length kv
 have ek:vk.map (·.1) = kvs.map (·.1):=(KV.keys kv).symm
 refine xV (kvs:=vk) (I.ok.hd hc) pl el (by omega) hv fun h' tk hD hk=>?_
 rw [merged_nil_of_nodup vk (by rw [ek];exact nd)] at hD
 refine ⟨.ref s.heap.objs.size,_,I.laid (t':=tk) hk (AQ _) (show bW X.prog X.w _ h' _ (.dK kvs) from ⟨by omega,?_,vk,kv,hD⟩),rfl,q _ (I.hok.fresh (AQ _))⟩
 have b:=I.big
 exact beq_eq_false_iff_ne.mpr (DX b)
end
end L2
namespace L2
open PySem PySem.Spec PyProof.Rows
structure MethAt (K:AG) (C:Addr) (m qual:Str) (st:Stmt) (ps:List Str):Prop where
 ex:∃ (f:Addr) (fd:Bv),Fun K m qual st f fd ∧ jZ K fd ps [] ∧ Meth K C m f
structure InitAt (K:AG) (C:Addr) (qual:Str) (st:Stmt) (ps:List Str):Prop where
 ex:∃ (f:Addr) (fd:Bv),Fun K "__init__" qual st f fd ∧ jZ K fd ps [] ∧ Mk K C f
structure Mc (P:Program) (w:World) (K:AG) (mg:Str → Option Value) (base:Heap) (k:Nat) (C:Addr) (m:Str) (ps:List Str) (sp:Sp):Prop where
 ex:∃ (f:Addr) (fd:Bv),FnOk P w K mg base CX0 k f fd ps sp ∧ jZ K fd ps [] ∧ Meth K C m f
structure Ic (P:Program) (w:World) (K:AG) (mg:Str → Option Value) (base:Heap) (k:Nat) (C:Addr) (ps:List Str) (sp:Sp):Prop where
 ex:∃ (f:Addr) (fd:Bv),FnOk P w K mg base CX0 k f fd ps sp ∧ jZ K fd ps [] ∧ Mk K C f
section
variable {P:Program} {w:World} {K:AG} {mg:Str → Option Value} {base:Heap} {C:Addr} {m qual:Str} {st:Stmt} {N ps:List Str} {k:Nat} {sp:Sp}
theorem MethAt.mc (D:MethAt K C m qual st ps) (S:FnScope N ps (aB st)) (len:∀ vs H Q E,sp vs H Q E → vs.length = ps.length)
  (hbody:∀ (f:Addr) (cdv:Value) (A:Around) (outer:List Env) (s:Shared) (H:Hp) (vs:List V) (Q:VK) (E:XK),Room k (A.deeper (envOfC qual (aB st) s.heap.objs.size f cdv)) → sp vs H Q E →
   ∃ t,PSs (mJ CX0 P w K mg base N qual (aB st) f cdv A outer s H E).nox (aJ st) t ∧ t { nx:=fun _ H'=>Q .non H',rt:=Q } (start N vs) H):Mc P w K mg base (k + 1) C m ps sp:=by
 obtain ⟨f,fd,F,b,mm⟩:=D.ex
 exact ⟨f,fd,F.ok S len fun cdv A outer s H vs Q E hr h=>hbody f cdv A outer s H vs Q E hr h,b,mm⟩
theorem InitAt.ic (D:InitAt K C qual st ps) (S:FnScope N ps (aB st)) (len:∀ vs H Q E,sp vs H Q E → vs.length = ps.length)
  (hbody:∀ (f:Addr) (cdv:Value) (A:Around) (outer:List Env) (s:Shared) (H:Hp) (vs:List V) (Q:VK) (E:XK),Room k (A.deeper (envOfC qual (aB st) s.heap.objs.size f cdv)) → sp vs H Q E →
   ∃ t,PSs (mJ CX0 P w K mg base N qual (aB st) f cdv A outer s H E).nox (aJ st) t ∧ t { nx:=fun _ H'=>Q .non H',rt:=Q } (start N vs) H):Ic P w K mg base (k + 1) C ps sp:=by
 obtain ⟨f,fd,F,b,mm⟩:=D.ex
 exact ⟨f,fd,F.ok S len fun cdv A outer s H vs Q E hr h=>hbody f cdv A outer s H vs Q E hr h,b,mm⟩
theorem Mc.imp {sp':Sp} (F:Mc P w K mg base k C m ps sp) (h:∀ vs H Q E,sp' vs H Q E → sp vs H Q E):Mc P w K mg base k C m ps sp':=by
 obtain ⟨f,fd,G,b,mm⟩:=F.ex
 exact ⟨f,fd,G.imp h,b,mm⟩
theorem jC {f:Addr} {oc:Value} {od an:Option Addr} {osl:Array (Option Value)} {kV doc pm cdv ct:Value} (a:At K (.ref C) m = some (some (.ref f))) (i:Bi K (.ref f) = true)
  (l:K.lookup f = some ⟨oc,od,.func (AM m qual (aL st) (aJ st) (aB st) .none kV doc pm an cdv ct),osl⟩) (c:AI K cdv qual = true) (kp:AF K (.ref f) = true)
  (hb:∀ (kV doc pm:Value) (an:Option Addr) (cdv ct:Value) (us:List Value),us.length = ps.length → Ee (AM m qual (aL st) (aJ st) (aB st) .none kV doc pm an cdv ct) ⟨us,[]⟩ = pure (ps.zip us)):MethAt K C m qual st ps :=
 ⟨f,_,sD l c kp,(sD l c kp).binds hb,⟨a,i,kp⟩⟩
theorem aQM {f:Addr} {oc:Value} {od an:Option Addr} {osl:Array (Option Value)} {kV doc pm cdv ct:Value} (a:At K (.ref C) "__init__" = some (some (.ref f))) (i:Bi K (.ref f) = true)
  (l:K.lookup f = some ⟨oc,od,.func (AM "__init__" qual (aL st) (aJ st) (aB st) .none kV doc pm an cdv ct),osl⟩) (c:AI K cdv qual = true) (kp:AF K (.ref f) = true)
  (mk:Dp K C = true) (kc:AF K (.ref C) = true)
  (hb:∀ (kV doc pm:Value) (an:Option Addr) (cdv ct:Value) (us:List Value),us.length = ps.length → Ee (AM "__init__" qual (aL st) (aJ st) (aB st) .none kV doc pm an cdv ct) ⟨us,[]⟩ = pure (ps.zip us)):InitAt K C qual st ps :=
 ⟨f,_,sD l c kp,(sD l c kp).binds hb,⟨mk,a,i,kc⟩⟩
end
section
variable {X:Cx} {k:Nat} {ps:List Str} {sp:Sp} {x m:Str} {p pos apos:Pos} {o e:Expr} {es:List Expr} {ta:TE} {t:TA} {C:Addr}
theorem aPU {pl:Sem Bool} (c:Cls X.K C) (F:Mc X.prog X.w X.K X.mg X.base k C m ps sp) (hr:Room k X.A) (ho:PE X o ta) (ha:PA X (e :: es) t)
  (hst:Av (e :: es) X.env = (false,eval e X.env) :: Av es X.env:=by rfl) (hpl:(backTo pos (Av es X.env)).any (·.1) = false:=by rfl)
  (ht:eval (.Call (.Attribute o m apos) (e :: es) [] pos) X.env = (do
   let ov ← eval o X.env
   standAt apos.atName
   let (f,first) ← holding [ov] (Eg ov m pl)
   callWith pos f first (backTo pos (Av (e :: es) X.env)) (DW pos (Ck [] X.env))):=by rfl) :
  PE X (.Call (.Attribute o m apos) (e :: es) [] pos) (aGJ C m sp [] E0 ta t):=by
 obtain ⟨f,fd,G,b,mm⟩:=F.ex
 exact aPS (pl:=pl) ho c mm G hr b .nil aHG ha hst hpl ht
theorem aMI {pl:Sem Bool} (c:Cls X.K C) (F:Mc X.prog X.w X.K X.mg X.base k C m ps sp) (hr:Room k X.A) (ho:PE X o ta)
  (ht:eval (.Call (.Attribute o m apos) [] [] pos) X.env = (do
   let ov ← eval o X.env
   standAt apos.atName
   let (f,first) ← holding [ov] (Eg ov m pl)
   callWith pos f first (backTo pos (Av [] X.env)) (DW pos (Ck [] X.env))):=by rfl) :
  PE X (.Call (.Attribute o m apos) [] [] pos) (aGJ C m sp [] E0 ta aIP):=by
 obtain ⟨f,fd,G,b,mm⟩:=F.ex
 exact aMH (pl:=pl) ho c mm G hr b .nil aHG ht
theorem aUW (hm:X.mg x = some (.ref C)) (F:Ic X.prog X.w X.K X.mg X.base k C ps sp) (hr:Room (k + 1) X.A) (ha:PA X (e :: es) t) (hg:Gl X x:=by rfl) (hdb:(x == ("__debug__":Str)) = false:=by decide)
  (he:Av (e :: es) X.env = (false,eval e X.env) :: Av es X.env:=by rfl) (hpl:(backTo pos (Av es X.env)).any (·.1) = false:=by rfl) :
  PE X (.Call (.Name x p) (e :: es) [] pos) (aRF C sp [] E0 t):=by
 obtain ⟨f,fd,G,b,mm⟩:=F.ex
 exact aPT mm G hr hg hm b .nil aHG ha hdb he hpl
end
section
variable {X:Cx} {K:AG}
theorem aQ (e:X.K = K):IxR X (aUT K):=by subst e;exact aTL
theorem eP (e:X.K = K):IxR X (aUU K):=by subst e;exact aQJ
theorem pM (e:X.K = K):OpR X (BW .In) (rIn K false):=by subst e;exact aJG
theorem oW (e:X.K = K):OpR X (BW .NotIn) (rIn K true):=by subst e;exact aAT
theorem bE (e:X.K = K):fI X (.builtin "len") (fun xs H Q=>∃ p ys,xs = [.ref p] ∧ (SqL K H p ys ∨ SqT K H p ys) ∧ Q (.int ys.length) H):=by subst e;exact aBN
theorem dO (e:X.K = K):fI X (.builtin "isinstance") (fun xs H Q=>∃ x y c t b,xs = [x,y] ∧ aTU y = some c ∧ TyOf K H x t ∧ CC K t c = some b ∧ Q (.bl b) H):=by subst e;exact aDW
theorem xW (e:X.K = K):fI X (.type "list") (fun xs H Q=>∃ p ys,xs = [.ref p] ∧ (SqL K H p ys ∨ SqT K H p ys) ∧ ∀ l,H l = none → Q (.ref l) (upd H l (.lst ys))):=by subst e;exact aBL
end
theorem qI {j:Int} (h:decide (0 < j) = true):0 < j:=of_decide_eq_true h
end L2
namespace L2
open PySem PySem.Spec PyProof.Rows
theorem gI {X:Cx} {i:Nat} {x:Str} {elt iter tg:Expr} {ifs:List Expr} {scope:Scope} {pos pos' cpos:Pos} {wi:TI} {g:TG} {tt:TT} {te:TE} (hXN:X.N.Nodup) (hix:X.N[i]? = some x) (N':List Str) (nt:Nat) (cap:List Nat)
  (hc:X.calm = true) (hi:PI X tg iter wi) (hg:∀ R,PG (blk X scope N' R) tg g) (hgk:aII nt g) (ht:∀ R,aOK (blk X scope N' R) ifs tt) (he:∀ R,PE (blk X scope N' R) elt te)
  (hx:Loc X.env.scope x:=by exact Or.inl rfl) (hfn:X.fn x = true ∨ X.env.scope.names.lookup x = some .local:=by first | exact .inl rfl | exact .inr rfl | assumption)
  (hsw:swapsWith (.ListComp elt [⟨tg,iter,ifs,0⟩] scope cpos) (some (.Name x pos')) pos.line X.env = pure true:=by rfl)
  (hcell:(scope.names.all fun y=>!(y.2 == .cell)) = true:=by rfl) (hkind:scope.kind = .function:=by rfl)
  (hnames:(scope.names.all fun y=>!(y.2 == .local) || (scope.names.lookup y.1 == some .local)) = true:=by rfl)
  (hfr:(scope.names.all fun y=>!(y.2 == .free) || (X.env.kindOf y.1 == some .cell || X.env.kindOf y.1 == some .free)) = true:=by rfl)
  (hN:N'.length = nt + cap.length:=by rfl) (hcapN:(cap.map fun j=>X.N[j]?) = (N'.drop nt).map some:=by rfl) (hcapF:((N'.drop nt).all fun x=>scope.names.lookup x == some .free) = true:=by rfl)
  (hs:∀ x,FG iter X.env x = pure x:=by intro _;rfl) :
  PS X (.Assign [.Name x pos'] (.ListComp elt [⟨tg,iter,ifs,0⟩] scope cpos) pos) (aSD (aRG nt cap wi g tt te) (wK i)):=by
 intro pins s σ H Ds I h
 have hfr':∀ y ∈ scope.names,y.2 = .free → (X.env.kindOf y.1 = some .cell ∨ X.env.kindOf y.1 = some .free):=fun y hy e=>by
  have z:=kE hfr y hy
  rw [e] at z
  have z':(X.env.kindOf y.1 == some .cell || X.env.kindOf y.1 == some .free) = true:=z
  rcases Bool.or_eq_true_iff.mp z' with q | q
  ·exact .inl (beq_iff_eq.mp q)
  ·exact .inr (beq_iff_eq.mp q)
 have hcell':∀ y ∈ scope.names,y.2 ≠ .cell:=fun y hy e=>by
  have z:=kE hcell y hy
  rw [e] at z
  cases z
 obtain ⟨cl,hcl,hclk,hclh⟩:=xB (scope:=scope) (env:=X.env) fun y hy e=>I.ok.has y.1 (hfr' y hy e)
 have hnames':∀ y ∈ scope.names,y.2 = .local → scope.names.lookup y.1 = some .local:=fun y hy e=>by
  have z:=kE hnames y hy
  rw [e] at z
  exact beq_iff_eq.mp z
 have hcapN':∀ (k j:Nat),cap[k]? = some j → N'[nt + k]? = X.N[j]?:=fun k j e=>by
  have z:=congrArg (fun l:List (Option Str)=>l[k]?) hcapN
  simp only [AK,e,Option.map_some,Ec] at z
  cases q:N'[nt + k]? with
  | none=>rw [q] at z;cases z
  | some x=>rw [q] at z;exact (Aw z).symm
 rw [exec_Assign_Name_used _ _ _ _ hsw]
 refine AD (Er (AD ?_))
 show wpAny _ X.A (do let _ ← comprehension (.ListComp elt [⟨tg,iter,ifs,0⟩] scope cpos) scope X.env _ (newList []) false (eval iter X.env) (some (assign (.Name x pos') X.env))) _ _ s
 refine AD (BL (wpAny_comprehension_free (use:=some (assign (.Name x pos') X.env)) (Q:=fun _ s'=>SP X pins Ds .next s') rfl hs hcl hkind hnames'
  (thn (hi pins s σ H _ I h) fun v s1 h1=>thn h1 fun itv s2 h2=>?_)) (fun _ s' hq=>AT (AT hq)) fun _ _ e=>e)
 obtain ⟨it,fp,tn,J,H2,e,I2,T,st2,f2,hw⟩:=h2
 subst e
 refine wZ (RR:=fun acc C=>compPost (model X.prog X.w) X.A X.xe (some (assign (.Name x pos') X.env)) (fun _ s'=>SP X pins Ds .next s') acc C) hc I2 T st2 f2 hclk hclh hcell' hkind hfr' hN hcapN' (fun x hx=>beq_iff_eq.mp (kE hcapF x hx)) hg hgk ht he hw ?_
 intro D C s' H' ys hD q I' B
 obtain ⟨m,hn⟩:=B.ns
 obtain ⟨oC,es,ep,hoC,hdC,hrest⟩:=id hn
 have nofs:C ∉ X.fs:=fun hb=>by
  obtain ⟨_,o,ho,_⟩:=I'.ok.funs.mem hb
  exact absurd (Ae (AZ ho) B.ab) (Cn _)
 have IC:Inv X ((C,oC) :: pins) σ (upd H' D (.lst ys)) s':=I'.pins_of fun p hp=>by
  rcases Af.mp hp with rfl | hp
  ·exact ⟨hoC,B.fr,B.ne,nofs,fun v z=>by rw [hdC] at z;cases z⟩
  ·exact I'.pin p (An _ hp)
 show wpAny _ X.A (assign (.Name x pos') X.env (.ref D)) _ _ _
 refine thn (bC hXN hix hx hfn ((C,oC) :: pins) s' σ (upd H' D (.lst ys)) (.ref D) (.ref D) Ds.nx IC rfl (q D hD)) fun _ s'' h''=>?_
 obtain ⟨σ2,H3,I3,q3⟩:=h''
 have pC:=I3.pin (C,oC) (An _ AU)
 refine ⟨m,hn.at' (fun o e=>?_),fun h4 hs4=>⟨σ2,H3,?_,q3⟩⟩
 ·rw [hoC] at e
  cases e
  exact pC.1
 ·have I4:Inv X pins σ2 H3 s'':=I3.pins_of fun p hp=>I3.pin p (An _ (AO _ hp))
  exact I4.turned (it:=C) (t':=s''.toks) (fun b o hb e=>hs4.extBut b o hb e) pC.2.1 B.ne (.inr B.ab) B.cl B.pn
end L2
namespace L2
open PySem PySem.Spec PyProof.Rows
section
variable {X:Cx}
end
structure InstC (K:AG) (C:Addr):Prop where
 ha:At K (.ref C) "__class__" = some (some (.builtin "object.__class__"))
 hn:Db K (.builtin "object.__class__") "__get__" = some (some (.builtin "getset_descriptor.__get__"))
 htk:El K (.builtin "object.__class__") = some true
 hm:PySem.W.mroIn K C (.type "object") = some true
theorem MethAt.mcD {P:Program} {w:World} {K:AG} {mg:Str → Option Value} {base:Heap} {C:Addr} {m qual:Str} {st:Stmt} {N ps:List Str} {k:Nat} {sp:Sp} (D:MethAt K C m qual st ps) (S:FnScope N ps (aB st)) (len:∀ vs H Q E,sp vs H Q E → vs.length = ps.length)
  (hbody:∀ (f:Addr) (cdv:Value) (A:Around) (outer:List Env) (s:Shared) (H:Hp) (vs:List V) (Q:VK) (E:XK),Room k (A.deeper (envOfC qual (aB st) s.heap.objs.size f cdv)) → sp vs H Q E →
   ∃ t,PSs (mJ CX0 P w K mg base N qual (aB st) f cdv A outer s H E).nox (aJ st) t ∧ t { nx:=fun _ H'=>cU Q .non H',rt:=cU Q } (start N vs) H):Mc P w K mg base (k + 1) C m ps sp:=by
 obtain ⟨f,fd,F,b,mm⟩:=D.ex
 refine ⟨f,fd,FnOk.drop len (F.ok S (fun vs H Q E ⟨Q',h,_⟩=>len vs H Q' E h) fun cdv A outer s H vs Q E hr ⟨Q',h,e⟩=>?_),b,mm⟩
 subst e
 exact hbody f cdv A outer s H vs Q' E hr h
theorem iA.under {H:Hp} {p q:Addr} {o u:HO} (hp:H p = none) (d:sG o = true) (hq:L2.upd H p o q = none):iA (L2.upd (L2.upd H p o) q u) (L2.upd H q u):=fun b=>by
 by_cases hb:b = q
 ·subst hb
  left
  rw [aF,aF]
 ·rw [aK hb,aK hb]
  by_cases hc:b = p
  ·subst hc
   right
   exact ⟨hp,o,aF,d⟩
  ·left
   rw [aK hc]
end L2
namespace Ld
open PySem L2
def jV (c:Nat):Bool:=decide (97 ≤ c) && decide (c ≤ 122)
def fG (z:Str):Bool:=decide (1 ≤ z.length) && decide (z.length ≤ 8) && !decide (z = "sea") && z.cps.toList.all jV
def isInt:Dv → Bool
 | .int _=>true
 | _=>false
def aMY:Dv → Bool
 | .bl _=>true
 | _=>false
def aVF:Dv → Bool
 | .str _=>true
 | _=>false
def aVH:Dv → Bool
 | .lst _=>true
 | _=>false
def aVE:Dv → Bool
 | .tup _=>true
 | _=>false
def aGH (n:Int):Dv → Bool
 | .tup ds=>decide ((ds.length:Int) = n)
 | _=>false
def aMQ (n:Int):Dv → Bool
 | .lst ds=>decide (1 ≤ ds.length) && decide ((ds.length:Int) ≤ n)
 | _=>false
def pT:Dv → Bool
 | .str z=>fG z
 | _=>false
def hgt (i:Int):Bool:=decide (-1000000 ≤ i) && decide (i ≤ 1000000)
def amt (i:Int):Bool:=decide (0 ≤ i) && decide (i ≤ 1000000)
def gB:Dv → Bool
 | .int i=>hgt i
 | _=>false
def lB:Dv → Bool
 | .int i=>amt i
 | _=>false
def qM (zs:List Str):Dv → Bool
 | .str z=>decide (z ∈ zs)
 | _=>false
def cH:Dv → Option Str
 | .tup (.str z :: _)=>some z
 | _=>none
def cG:Dv → Bool
 | .tup [a,b,c]=>pT a && (gB b && lB c)
 | _=>false
def lL:Dv → Bool
 | .lst ds=>(decide (1 ≤ ds.length) && decide (ds.length ≤ 12)) && (ds.all cG && decide ((ds.map cH).Nodup))
 | _=>false
def nZ (zs:List Str) (a b:Dv):Bool:=qM zs a && (qM zs b && !deq a b)
def nN (c:Dv):Dv → Bool
 | .non=>true
 | .int i=>hgt i && (match c with | .int j=>decide (i < j) | _=>false)
 | _=>false
def dE (zs:List Str):Dv → Bool
 | .tup [n,a,b,c,r,s]=>pT n && nZ zs a b && (gB c && (lB r && nN c s))
 | _=>false
def oA (zs:List Str):Dv → Bool
 | .lst ds=>(decide (1 ≤ ds.length) && decide (ds.length ≤ 40)) && (ds.all (dE zs) && decide ((ds.map cH).Nodup))
 | _=>false
mutual
def eV:Dv → Bool
 | .str z=>decide (z.length ≤ 1000)
 | .lst ds=>decide (ds.length ≤ 1000) && iB ds
 | .tup ds=>decide (ds.length ≤ 1000) && iB ds
 | _=>true
def iB:List Dv → Bool
 | []=>true
 | d :: ds=>eV d && iB ds
end
theorem jJ:∀ {ds:List Dv} {d:Dv},iB ds = true → d ∈ ds → eV d = true
 | [],_,_,m=>by cases m
 | e :: ds,d,f,m=>by
  rw [iB,Aj] at f
  rcases Af.mp m with rfl | m
  ·exact f.1
  ·exact jJ f.2 m
theorem yF {ds:List Dv} (h:eV (.tup ds) = true):iB ds = true:=(BK.mp (show (decide (ds.length ≤ 1000) && iB ds) = true from h)).2
theorem sO (K:AG) {H:Hp} {d:Dv} {x:V} (h:Is H d x):∃ t,TyOf K H x t ∧ CC K t (.type "int") = some (isInt d || aMY d) ∧ CC K t (.type "bool") = some (aMY d) ∧
  CC K t (.type "str") = some (aVF d) ∧ CC K t (.type "list") = some (aVH d) ∧ CC K t (.type "tuple") = some (aVE d):=by
 cases d with
 | non=>cases (show x = .non from h);exact ⟨_,.non,rfl,rfl,rfl,rfl,rfl⟩
 | bl b=>cases (show x = .bl b from h);exact ⟨_,.bl b,rfl,kZ _ _,rfl,rfl,rfl⟩
 | int i=>cases (show x = .int i from h);exact ⟨_,.int i,kZ _ _,rfl,rfl,rfl,rfl⟩
 | str z=>cases (show x = .str z from h);exact ⟨_,.str z,rfl,rfl,kZ _ _,rfl,rfl⟩
 | lst ds=>obtain ⟨a,vs,rfl,e,_⟩:=h;exact ⟨_,.lst e,rfl,rfl,rfl,kZ _ _,rfl⟩
 | tup ds=>obtain ⟨a,vs,rfl,e,_⟩:=h;exact ⟨_,.tup e,rfl,rfl,rfl,rfl,kZ _ _⟩
 | dct ks ds=>obtain ⟨a,vs,rfl,e,_⟩:=h;exact ⟨_,.dK e,rfl,rfl,rfl,rfl,rfl⟩
theorem aBE:("abcdefghijklmnopqrstuvwxyz":Str).cps.toList = [97,98,99,100,101,102,103,104,105,106,107,108,109,110,111,112,113,114,115,116,117,118,119,120,121,122]:=by decide +kernel
theorem aFJ (c:Nat):(!(Builtin.Str.occurrences ("abcdefghijklmnopqrstuvwxyz":Str) ⟨#[c]⟩ 0 ("abcdefghijklmnopqrstuvwxyz":Str).length 1).isEmpty) = jV c:=by
 rw [PySem.StrLaws.found_one,aBE]
 have h1:∀ d,d ∈ ([97,98,99,100,101,102,103,104,105,106,107,108,109,110,111,112,113,114,115,116,117,118,119,120,121,122]:List Nat) → 97 ≤ d ∧ d ≤ 122:=by decide
 have h2:∀ k,k < 26 → (97 + k) ∈ ([97,98,99,100,101,102,103,104,105,106,107,108,109,110,111,112,113,114,115,116,117,118,119,120,121,122]:List Nat):=by decide
 unfold jV
 by_cases h:97 ≤ c ∧ c ≤ 122
 ·have e:=h2 (c - 97) (by omega)
  rw [show 97 + (c - 97) = c by omega] at e
  rw [decide_eq_true e,decide_eq_true h.1,decide_eq_true h.2]
  rfl
 ·have e:¬ c ∈ ([97,98,99,100,101,102,103,104,105,106,107,108,109,110,111,112,113,114,115,116,117,118,119,120,121,122]:List Nat):=fun m=>h (h1 c m)
  rw [decide_eq_false e]
  by_cases h':97 ≤ c
  ·rw [decide_eq_true h',decide_eq_false (fun z=>h ⟨h',z⟩)]
   rfl
  ·rw [decide_eq_false h']
   rfl
def bA (d:Dv):Str:=(cH d).getD ""
def nL (d:Dv):Key:=.inr (bA d)
theorem aNN {d:Dv} {z:Str} (h:cH d = some z):bA d = z:=by unfold bA;rw [h];rfl
def nK (d1 d2:Addr):List (Str × V):=jB "dyke_rows" (.ref d2) (jB "field_rows" (.ref d1) [])
theorem aVO:¬ (("field_rows":Str) = "dyke_rows"):=by decide +kernel
theorem aHM (d1 d2:Addr):(nK d1 d2).lookup ("field_rows":Str) = some (.ref d1):=by
 unfold nK
 rw [fH,if_neg aVO,fH,if_pos rfl]
theorem aBG (d1 d2:Addr):(nK d1 d2).lookup ("dyke_rows":Str) = some (.ref d2):=by
 unfold nK
 rw [fH,if_pos rfl]
theorem kY (d1 d2:Addr) {m:Str} (h1:¬ m = "dyke_rows") (h2:¬ m = "field_rows"):(nK d1 d2).lookup m = none:=by
 unfold nK
 rw [fH,if_neg h1,fH,if_neg h2]
 all_goals rfl
def rD (H:Hp) (a:Addr) (ds:List Dv):Prop:=∃ kvs,H a = some (.dK kvs) ∧ kvs.map (·.1) = ds.map nL ∧ IsL H ds (kvs.map (·.2))
theorem rD.same {H H':Hp} (S:aI H H') {a:Addr} {ds:List Dv} (h:rD H a ds):rD H' a ds:=by
 obtain ⟨kvs,e,k,i⟩:=h
 exact ⟨kvs,S _ _ e,k,IsL.same S _ _ i⟩
structure LandAt (C:Addr) (H:Hp) (x:Addr) (fs ds:List Dv):Prop where
 ex:∃ dx d1 d2,H x = some (.ins C dx (nK d1 d2)) ∧ rD H d1 fs ∧ rD H d2 ds
 okf:lL (.lst fs) = true
 okd:oA ("sea" :: fs.map bA) (.lst ds) = true
theorem LandAt.same {C:Addr} {H H':Hp} (S:aI H H') {x:Addr} {fs ds:List Dv} (h:LandAt C H x fs ds):LandAt C H' x fs ds:=by
 obtain ⟨⟨dx,d1,d2,e,t1,t2⟩,a,b⟩:=h
 exact ⟨⟨dx,d1,d2,S _ _ e,t1.same S,t2.same S⟩,a,b⟩
theorem zW:∀ {kvs:List (Key × V)} {H:Hp} {ds:List Dv} {d:Dv},kvs.map (·.1) = ds.map nL → IsL H ds (kvs.map (·.2)) → (ds.map bA).Nodup → d ∈ ds → ∃ v,eU kvs (.inr (bA d)) = some v ∧ Is H d v
 | [],_,[],_,_,_,_,m=>by cases m
 | [],_,_ :: _,_,e,_,_,_=>by simp at e
 | _ :: _,_,[],_,_,_,_,m=>by cases m
 | (k,v) :: kvs,H,d0 :: ds,d,e,i,n,m=>by
  obtain ⟨v',r,e1,h0,t⟩:=i
  rw [AY] at e1
  cases e1
  rw [AY,AY,List.cons.injEq] at e
  have ek:k = nL d0:=e.1
  rw [AY,Ak] at n
  by_cases q:bA d = bA d0
  ·have:d = d0:=by
    rcases Af.mp m with rfl | m
    ·rfl
    ·exact absurd (AR.mpr ⟨d,m,q⟩) n.1
   subst this
   refine ⟨v,?_,h0⟩
   unfold eU
   rw [Bs,ek]
   simp [nL]
  ·have m':d ∈ ds:=by
    rcases Af.mp m with rfl | m
    ·exact absurd rfl q
    ·exact m
   obtain ⟨u,e2,h2⟩:=zW (kvs:=kvs) e.2 t n.2 m'
   refine ⟨u,?_,h2⟩
   unfold eU at e2 ⊢
   have hk:¬ k = Sum.inr (bA d):=by
    rw [ek]
    intro z
    exact q (DM z).symm
   rw [Bs,decide_eq_false (show ¬ (k,v).1 = Sum.inr (bA d) from hk)]
   exact e2
theorem iH:∀ {ds:List Dv} {p:Dv → Bool},(∀ d,p d = true → ∃ z,cH d = some z) → ds.all p = true → ds.map cH = (ds.map bA).map some
 | [],_,_,_=>rfl
 | d :: ds,p,hp,h=>by
  rw [Dl,Aj] at h
  obtain ⟨z,e⟩:=hp d h.1
  rw [AY,AY,AY,iH hp h.2,aNN e,e]
theorem eI (zs:List Str):(zs.map some).Nodup ↔ zs.Nodup:=by
 induction zs with
 | nil=>simp
 | cons z zs ih =>
  rw [AY,Ak,Ak,ih]
  simp
theorem cB {d:Dv} (h:cG d = true):∃ z g e,d = .tup [.str z,.int g,.int e] ∧ fG z = true ∧ hgt g = true ∧ amt e = true:=by
 unfold cG at h
 split at h
 ·rename_i a b c
  rw [Aj,Aj] at h
  obtain ⟨h1,h2,h3⟩:=h
  cases a with
  | str z =>
   cases b with
   | int g =>
    cases c with
    | int e=>exact ⟨z,g,e,rfl,h1,h2,h3⟩
    | _=>cases h3
   | _=>cases h2
  | _=>cases h1
 ·cases h
theorem tN (d:Dv) (h:cG d = true):∃ z,cH d = some z:=by
 obtain ⟨z,_,_,rfl,_⟩:=cB h
 exact ⟨z,rfl⟩
theorem bV {zs:List Str} {d:Dv} (h:dE zs d = true):∃ n a b c r s,d = .tup [.str n,.str a,.str b,.int c,.int r,s] ∧ fG n = true ∧ a ∈ zs ∧ b ∈ zs ∧ a ≠ b ∧ hgt c = true ∧ amt r = true ∧ nN (.int c) s = true:=by
 unfold dE at h
 split at h
 ·rename_i n a b c r s
  rw [Aj,Aj,Aj,Aj] at h
  obtain ⟨⟨h1,h2⟩,h3,h4,h5⟩:=h
  unfold nZ at h2
  rw [Aj,Aj] at h2
  obtain ⟨h6,h7,h8⟩:=h2
  cases n with
  | str n =>
   cases a with
   | str a =>
    cases b with
    | str b =>
     cases c with
     | int c =>
      cases r with
      | int r =>
       refine ⟨n,a,b,c,r,s,rfl,h1,of_decide_eq_true h6,of_decide_eq_true h7,?_,h3,h4,h5⟩
       intro z
       subst z
       have:(!(a == a)) = true:=h8
       rw [beq_self_eq_true] at this
       cases this
      | _=>cases h4
     | _=>cases h3
    | _=>cases h7
   | _=>cases h6
  | _=>cases h1
 ·cases h
theorem wP {zs:List Str} (d:Dv) (h:dE zs d = true):∃ z,cH d = some z:=by
 obtain ⟨z,_,_,_,_,_,rfl,_⟩:=bV h
 exact ⟨z,rfl⟩
structure GoodF (fs:List Dv):Prop where
 l1:1 ≤ fs.length
 l2:fs.length ≤ 12
 all:∀ d ∈ fs,cG d = true
 nd:(fs.map bA).Nodup
structure GoodD (zs:List Str) (ds:List Dv):Prop where
 l1:1 ≤ ds.length
 l2:ds.length ≤ 40
 all:∀ d ∈ ds,dE zs d = true
 nd:(ds.map bA).Nodup
theorem sA (fs:List Dv):lL (.lst fs) = true ↔ GoodF fs:=by
 show ((decide (1 ≤ fs.length) && decide (fs.length ≤ 12)) && (fs.all cG && decide ((fs.map cH).Nodup))) = true ↔ _
 rw [Aj,Aj,Aj,decide_eq_true_iff,decide_eq_true_iff,decide_eq_true_iff]
 constructor
 ·rintro ⟨⟨a,b⟩,c,d⟩
  rw [iH tN c,eI] at d
  exact ⟨a,b,BA.mp c,d⟩
 ·rintro ⟨a,b,c,d⟩
  have c':=BA.mpr c
  refine ⟨⟨a,b⟩,c',?_⟩
  rw [iH tN c',eI]
  exact d
theorem sC (zs:List Str) (ds:List Dv):oA zs (.lst ds) = true ↔ GoodD zs ds:=by
 show ((decide (1 ≤ ds.length) && decide (ds.length ≤ 40)) && (ds.all (dE zs) && decide ((ds.map cH).Nodup))) = true ↔ _
 rw [Aj,Aj,Aj,decide_eq_true_iff,decide_eq_true_iff,decide_eq_true_iff]
 constructor
 ·rintro ⟨⟨a,b⟩,c,d⟩
  rw [iH wP c,eI] at d
  exact ⟨a,b,BA.mp c,d⟩
 ·rintro ⟨a,b,c,d⟩
  have c':=BA.mpr c
  refine ⟨⟨a,b⟩,c',?_⟩
  rw [iH wP c',eI]
  exact d
def aVG:Dv → Bool
 | .non=>true
 | _=>false
def hasSill:Dv → Bool
 | .tup [_,_,_,_,_,s]=>!aVG s
 | _=>false
theorem yG:∀ {ds:List Dv},(∀ d ∈ ds,eV d = true) → iB ds = true
 | [],_=>rfl
 | d :: ds,h=>by
  rw [iB,h d AU,yG fun e m=>h e (AO _ m)]
  rfl
end Ld
namespace Mt02
open PySem L2 Ld
def aXD (i:Nat):Nat:=if i < 18 then 97 + i else 98 + i
def rst (c:Int):Nat → Int
 | 0=>c / 3
 | j + 1=>rst c j / 25
def num (o:Nat → Int) (c p b:Int) (k j:Nat):Int:=if (j:Int) = b then c / 17 + ((k:Int) / 25) else if (j:Int) = p then c / 11 + (k:Int) else o j
def code (o:Nat → Int) (c p b:Int) (k j:Nat):Nat:=aXD (num o c p b k j % 25).toNat
def nm (o:Nat → Int) (c p b:Int) (n k:Nat):Str:=⟨((Al n).map (code o c p b k)).toArray⟩
structure Names (zs:List Str) (n:Nat):Prop where
 len:zs.length = n
 nd:zs.Nodup
 good:∀ z ∈ zs,fG z = true
end Mt02
namespace Mt04
open PySem L2 Ld
def aFY:Dv → Int
 | .tup [_,_,_,.int c,_,_]=>c
 | _=>0
def hOf:Dv → Int
 | .tup [_,.int h]=>h
 | _=>0
def hZ (ds:List Dv) (z:Str):Int:=(ds.find? fun d=>decide (bA d = z)).elim 0 aFY
def dY (ds:List Dv):Dv → Bool
 | .tup [.str z,.int h]=>decide (z ∈ ds.map bA) && (hgt h && decide (hZ ds z ≤ h))
 | _=>false
def aEA (ds:List Dv):Dv → Bool
 | .lst ws=>ws.all (dY ds) && decide ((ws.map cH).Nodup)
 | _=>false
theorem aQQ {ds:List Dv} (nd:(ds.map bA).Nodup) {d:Dv} (m:d ∈ ds):(ds.find? fun e=>decide (bA e = bA d)) = some d:=by
 induction ds with
 | nil=>cases m
 | cons e ds ih =>
  rw [AY,Ak] at nd
  rw [Bs]
  by_cases q:bA e = bA d
  ·rw [decide_eq_true q]
   rcases Af.mp m with rfl | m
   ·rfl
   ·exact absurd (AR.mpr ⟨d,m,q.symm⟩) nd.1
  ·rw [decide_eq_false q]
   rcases Af.mp m with rfl | m
   ·exact absurd rfl q
   ·exact ih nd.2 m
theorem wU {ds:List Dv} (nd:(ds.map bA).Nodup) {d:Dv} (m:d ∈ ds):hZ ds (bA d) = aFY d:=by
 unfold hZ
 rw [aQQ nd m]
 rfl
theorem pH {ds:List Dv} {d:Dv} (h:dY ds d = true):∃ z v,d = .tup [.str z,.int v] ∧ z ∈ ds.map bA ∧ hgt v = true ∧ hZ ds z ≤ v:=by
 unfold dY at h
 split at h
 ·rename_i z v
  rw [Aj,Aj] at h
  exact ⟨z,v,rfl,of_decide_eq_true h.1,h.2.1,of_decide_eq_true h.2.2⟩
 ·cases h
theorem pI {ds:List Dv} (d:Dv) (h:dY ds d = true):∃ z,cH d = some z:=by
 obtain ⟨z,_,rfl,_⟩:=pH h
 exact ⟨z,rfl⟩
structure GoodW (ds ws:List Dv):Prop where
 all:∀ d ∈ ws,dY ds d = true
 nd:(ws.map bA).Nodup
theorem aJT (ds ws:List Dv):aEA ds (.lst ws) = true ↔ GoodW ds ws:=by
 show (ws.all (dY ds) && decide ((ws.map cH).Nodup)) = true ↔ _
 rw [Aj,decide_eq_true_iff]
 constructor
 ·rintro ⟨c,d⟩
  rw [iH pI c,eI] at d
  exact ⟨BA.mp c,d⟩
 ·rintro ⟨c,d⟩
  have c':=BA.mpr c
  refine ⟨c',?_⟩
  rw [iH pI c',eI]
  exact d
def wAt (ws:List Dv) (z:Str):Option Int:=(ws.find? fun d=>decide (bA d = z)).map hOf
def aWO (ws:List Dv):Dv → Dv
 | .tup [.str n,a,b,.int c,r,s]=>.tup [.str n,a,b,.int ((wAt ws n).getD c),r,s]
 | d=>d
def raisedD (ds ws:List Dv):List Dv:=ds.map (aWO ws)
def kvOf (d:Dv):Key × V:=(nL d,.int (hOf d))
end Mt04
namespace Mt22
open PySem L2 Ld
structure St where
 nm:Str
 near:Str
 far:Str
 h:Int
abbrev Lo:=Str → Option Int
def sea:Str:="sea"
def lo0:Lo:=fun z=>if z = sea then some (-1000000) else none
def aUQ (lo:Lo) (s:St):Lo:=match lo s.near with
 | none=>lo
 | some a=>fun z=>if z = s.far then some (match lo s.far with | none=>max a s.h | some b=>min (max a s.h) b) else lo z
def aUP (S:List St) (lo:Lo):Lo:=S.foldl aUQ lo
def aLQ (S:List St):Nat → Lo
 | 0=>lo0
 | n + 1=>aUP S (aLQ S n)
inductive Walk (S:List St):Nat → Str → Int → Prop
 | sea:Walk S 0 Mt22.sea (-1000000)
 | step {k:Nat} {a:Int} {s:St} (w:Walk S k s.near a) (m:s ∈ S):Walk S (k + 1) s.far (max a s.h)
def Le (lo lo':Lo):Prop:=∀ z c,lo' z = some c → ∃ d,lo z = some d ∧ d ≤ c
def Att (S:List St) (lo:Lo):Prop:=∀ z c,lo z = some c → ∃ k,Walk S k z c
inductive Path (S:List St):List Str → Str → Int → Prop
 | sea:Path S [] Mt22.sea (-1000000)
 | step {p:List Str} {a:Int} {s:St} (w:Path S p s.near a) (m:s ∈ S) (n:s.far ∉ p):Path S (s.far :: p) s.far (max a s.h)
theorem wB {α:Type} [DecidableEq α]:∀ {P N:List α},P.Nodup → (∀ x ∈ P,x ∈ N) → P.length ≤ N.length
 | [],N,_,_=>BT _
 | x :: P,N,nd,sub=>by
  have hx:=sub x AU
  rw [Ak] at nd
  have:=wB (P:=P) (N:=N.erase x) nd.2 fun y m=>(List.mem_erase_of_ne (a:=y) (b:=x) (fun e=>nd.1 (by rw [← e];exact m))).mpr (sub y (AO _ m))
  rw [List.length_erase_of_mem hx] at this
  have hp:=List.length_pos_of_mem hx
  rw [Ag]
  omega
structure Flood (S:List St) (lo:Lo):Prop where
 att:Att S lo
 low:∀ k v b,Walk S k v b → ∃ c,lo v = some c ∧ c ≤ b
inductive Come (S:List St) (L:Int):Str → Prop
 | sea:Come S L Mt22.sea
 | step {s:St} (w:Come S L s.near) (m:s ∈ S) (h:s.h < L):Come S L s.far
end Mt22
namespace MtF
open PySem L2 Ld Mt04 Mt22
def aSI:Dv → Dv
 | .tup [_,_,_,_,_,s]=>s
 | _=>.non
def aVI:Dv → Int
 | .int i=>i
 | _=>0
def aUY:Dv → Str
 | .tup [_,.str a,_,_,_,_]=>a
 | _=>""
def aML:Dv → Str
 | .tup [_,_,.str b,_,_,_]=>b
 | _=>""
def aSF (op:List Str) (d:Dv):Int:=if bA d ∈ op then aVI (aSI d) else aFY d
def aBI:Dv → Int
 | .tup [_,.int g,_]=>g
 | _=>0
def qV (fs:List Dv) (z:Str):Int:=(fs.find? fun d=>decide (bA d = z)).elim 0 aBI
theorem aQP {ds:List Dv} (nd:(ds.map bA).Nodup) {d:Dv} (m:d ∈ ds):(ds.find? fun e=>decide (bA e = bA d)) = some d:=by
 induction ds with
 | nil=>cases m
 | cons e ds ih =>
  rw [AY,Ak] at nd
  rw [Bs]
  rcases Af.mp m with rfl | m
  ·rw [decide_eq_true rfl]
  ·have hne:bA e ≠ bA d:=fun c=>nd.1 (c ▸ AR.mpr ⟨d,m,rfl⟩)
   rw [decide_eq_false hne]
   exact ih nd.2 m
theorem aJS {fs:List Dv} (nd:(fs.map bA).Nodup) {d:Dv} (m:d ∈ fs):qV fs (bA d) = aBI d:=by
 show (fs.find? fun e=>decide (bA e = bA d)).elim 0 aBI = _
 rw [aQP nd m]
 rfl
def aKU (fs:List Dv) (op:List Str) (d:Dv) (near far:Str):List Mt22.St:=if far = "sea" then [] else [⟨bA d,near,far,max (aSF op d) (qV fs far)⟩]
def stepsOf (fs:List Dv) (op:List Str) (d:Dv):List Mt22.St:=aKU fs op d (aUY d) (aML d) ++ aKU fs op d (aML d) (aUY d)
def aSE (fs ds:List Dv) (op:List Str):List Mt22.St:=ds.flatMap (stepsOf fs op)
def bQ (s:Mt22.St):Dv:=.tup [.str s.nm,.str s.near,.str s.far,.int s.h]
def flo (fs ds:List Dv) (op:List Str):Mt22.Lo:=aLQ (aSE fs ds op) fs.length
def optV:Option Int → V
 | some i=>.int i
 | none=>.non
end MtF
namespace Mt21
open PySem L2 Ld Mt02
def ab (i:Int):Nat:=97 + (i % 26).toNat
theorem zV (i:Int):jV (ab i) = true:=by
 have h0:=BB i (show (26:Int) ≠ 0 by decide)
 have h1:=Az i (show (0:Int) < 26 by decide)
 unfold ab jV
 rw [decide_eq_true (by omega),decide_eq_true (by omega)]
 rfl
theorem aQY:("abcdefghijklmnopqrstuvwxyz":Str).cps.toList = (Al 26).map fun i=>97 + i:=by decide +kernel
theorem aRV (i:Int):atI ("abcdefghijklmnopqrstuvwxyz":Str).cps.toList (i % 26) = some (ab i):=by
 have h0:=BB i (show (26:Int) ≠ 0 by decide)
 have h1:=Az i (show (0:Int) < 26 by decide)
 obtain ⟨k,hk⟩:=BH h0
 unfold ab
 rw [hk,aQY]
 refine aN ?_
 rw [AK,List.getElem?_range (by omega)]
 rfl
def vN (i:Int):Str:=⟨#[ab i]⟩
theorem wG:∀ (ys:List Str) (acc:Array Nat),(ys.foldl (fun acc p=>acc ++ ("":Str).cps ++ p.cps) acc).toList = acc.toList ++ (ys.map fun y=>y.cps.toList).flatten
 | [],acc=>by simp
 | y :: ys,acc=>by
  rw [FD,wG ys]
  have:("":Str).cps = #[]:=by decide +kernel
  rw [this]
  simp
theorem aFH (ys:List Str):(Txt.join "" ys).cps.toList = (ys.map fun y=>y.cps.toList).flatten:=by
 cases ys with
 | nil =>
  show (Str.empty.cps).toList = []
  decide +kernel
 | cons y ys =>
  show (List.foldl (fun acc p=>acc ++ ("":Str).cps ++ p.cps) y.cps ys).toList = _
  rw [wG]
  simp
theorem uP (z:Str) (k:Nat) (h:k ≤ z.length):(Cl z none (some (k:Int))).cps.toList = z.cps.toList.take k:=by
 rw [Tx.slice_codes,Tx.cl_nat]
 show (z.cps.toList.drop 0).take (min k z.length - 0) = _
 rw [FJ,Nat.sub_zero,Nat.min_eq_left h]
theorem wQ (z:Str) (k:Nat) (h:k ≤ z.length):(Cl z (some (k:Int)) none).cps.toList = z.cps.toList.drop k:=by
 rw [Tx.slice_codes,Tx.cl_nat,Nat.min_eq_left h]
 show (z.cps.toList.drop k).take (z.length - k) = _
 rw [AH]
 rw [Cu]
 show z.cps.toList.length - k ≤ z.length - k
 simp [Str.length]
theorem jF (z:Str):z.length = z.cps.toList.length:=by simp [Str.length]
theorem nodup_range {f:Nat → Str} {n:Nat} (h:∀ k l,k < n → l < n → f k = f l → k = l):((Al n).map f).Nodup:=by
 rw [CM,List.pairwise_map]
 refine List.Pairwise.imp_of_mem ?_ (List.pairwise_lt_range (n:=n))
 intro k l hk hl hkl he
 have:=h k l (Ax.mp hk) (Ax.mp hl) he
 omega
structure Put (z b:Str) (at':Nat) (x y:Int):Prop where
 codes:z.cps.toList = b.cps.toList.take at' ++ [ab x,ab y] ++ b.cps.toList.drop at'
end Mt21
namespace Mt31
open PySem L2 Ld Mt22
abbrev Cm:=List (Str × Option Mt22.St)
def keys (cm:Cm):List Str:=cm.map (·.1)
structure Came (S:List Mt22.St) (cm:Cm):Prop where
 nd:(keys cm).Nodup
 first:cm[0]? = some (Mt22.sea,none)
 prev:∀ (i:Nat) (z:Str) (o:Option Mt22.St),0 < i → cm[i]? = some (z,o) → ∃ s,o = some s ∧ s ∈ S ∧ s.far = z ∧ s.near ∈ keys (cm.take i)
def uD (S:List Mt22.St) (cm:Cm) (p:Nat):Prop:=∀ (i:Nat) (u:Str),i < p → (keys cm)[i]? = some u → ∀ s ∈ S,s.near = u → s.far ∈ keys cm
theorem lA (a b:Cm):keys (a ++ b) = keys a ++ keys b:=AX
theorem uD.snoc {S:List Mt22.St} {cm:Cm} {p:Nat} (h:uD S cm p) (hp:p ≤ cm.length) (x:Str × Option Mt22.St):uD S (cm ++ [x]) p:=fun i u hi e s ms en=>by
 rw [lA,Bd (by unfold keys;rw [AA];omega)] at e
 rw [lA]
 exact Bh _ (h i u hi e s ms en)
inductive Chain (S:List Mt22.St):List Mt22.St → Str → Prop
 | nil:Chain S [] Mt22.sea
 | snoc {ss:List Mt22.St} {s:Mt22.St} (c:Chain S ss s.near) (m:s ∈ S) (n:s.far ∉ ss.map (·.far)):Chain S (ss ++ [s]) s.far
def hm (ss:List Mt22.St):Int:=ss.foldl (fun a s=>max a s.h) (-1000000)
theorem zI {S:List Mt22.St} {ss:List Mt22.St} {v:Str} (c:Chain S ss v):(∀ s ∈ ss,s ∈ S) ∧ (ss.map (·.far)).Nodup:=by
 induction c with
 | nil=>exact ⟨(fun s m=>by cases m),by simp⟩
 | @snoc ss s c m n ih =>
  refine ⟨fun t mt=>?_,?_⟩
  ·rcases Au.mp mt with mt | mt
   ·exact ih.1 t mt
   ·rw [AW.mp mt];exact m
  ·rw [AX,Dh]
   refine ⟨ih.2,by simp,fun a ha b hb=>?_⟩
   have hb':b = s.far:=AW.mp hb
   intro e
   have e':a = s.far:=e.trans hb'
   exact n (e' ▸ ha)
def aTZ (S:List Mt22.St) (cm:Cm) (j:Nat) (z:Str) (tl:List Mt22.St) (side:Str):Prop:=∀ ss,Chain S ss z → (∀ y ∈ ss.map (·.far),y ∈ keys (cm.take (j + 1))) → Chain S (ss ++ tl) side
theorem aIN {S:List Mt22.St} {cm:Cm} (h:Came S cm) {i j:Nat} {z:Str} {s:Mt22.St} {tl:List Mt22.St} {side:Str} (hj:cm[j]? = some (z,some s)) (ms:s ∈ S) (hf:s.far = z) (hi:i < j) (hu:(keys cm)[i]? = some s.near) (t:aTZ S cm j z tl side):aTZ S cm i s.near (s :: tl) side:=fun ss c sub=>by
 have e:ss ++ s :: tl = (ss ++ [s]) ++ tl:=by rw [By];rfl
 have kj:(keys cm)[j]? = some z:=by unfold keys;rw [AK,hj];rfl
 have ktake:∀ n,keys (cm.take n) = (keys cm).take n:=fun n=>by unfold keys;rw [List.map_take]
 have fresh:s.far ∉ ss.map (·.far):=fun m=>by
  have h1:=sub _ m
  rw [ktake,hf] at h1
  obtain ⟨k,hk⟩:=BD.mp h1
  have hkl:=(AC.mp hk).1
  rw [Ac] at hkl
  rw [Bq (by omega)] at hk
  obtain ⟨h2,e2⟩:=AC.mp hk
  obtain ⟨h3,e3⟩:=AC.mp kj
  have:=(Dq h.nd).mp (e2.trans e3.symm)
  omega
 rw [e]
 refine t (ss ++ [s]) (hf ▸ Chain.snoc c ms fresh) fun y my=>?_
 rw [ktake]
 rw [AX] at my
 rcases Au.mp my with my | my
 ·have:=sub y my
  rw [ktake] at this
  obtain ⟨k,hk⟩:=BD.mp this
  have hkl:=(AC.mp hk).1
  rw [Ac] at hkl
  rw [Bq (by omega)] at hk
  exact AN (i:=k) (by rw [Bq (by omega)];exact hk)
 ·have:y = s.far:=AW.mp my
  rw [this,hf]
  exact AN (i:=j) (by rw [Bq (by omega)];exact kj)
end Mt31
namespace Mt61
open PySem L2 Mt22 Mt31
structure Gap where
 nm:Str
 a:Str
 b:Str
 cap:Int
abbrev Fl:=Str → Int
def sm {α:Type} (xs:List α) (f:α → Int):Int:=(xs.map f).sum
section
variable {α β:Type}
theorem kG (f:α → Int):sm [] f = 0:=rfl
theorem aV (x:α) (xs:List α) (f:α → Int):sm (x :: xs) f = f x + sm xs f:=by
 unfold sm;rw [AY,List.sum_cons]
theorem uV (f:α → Int):∀ xs ys:List α,sm (xs ++ ys) f = sm xs f + sm ys f
 | [],ys=>by rw [EC,kG];omega
 | x :: xs,ys=>by rw [List.cons_append,aV,aV,uV f xs ys];omega
theorem cW {f g:α → Int}:∀ {xs:List α},(∀ x ∈ xs,f x = g x) → sm xs f = sm xs g
 | [],_=>rfl
 | x :: xs,h=>by rw [aV,aV,h x AU,cW fun y m=>h y (AO _ m)]
theorem sU {f g:α → Int}:∀ {xs:List α},(∀ x ∈ xs,f x ≤ g x) → sm xs f ≤ sm xs g
 | [],_=>EN _
 | x :: xs,h=>by
  rw [aV,aV]
  have:=h x AU
  have:=sU (xs:=xs) fun y m=>h y (AO _ m)
  omega
theorem eB {f:α → Int} {xs:List α} (h:∀ x ∈ xs,f x = 0):sm xs f = 0:=by
 rw [cW h]
 induction xs with
 | nil=>rfl
 | cons x xs ih=>rw [aV,ih fun y m=>h y (AO _ m)];rfl
theorem sm_add (f g:α → Int):∀ xs:List α,sm xs (fun x=>f x + g x) = sm xs f + sm xs g
 | []=>rfl
 | x :: xs=>by rw [aV,aV,aV,sm_add f g xs];omega
theorem aEM (f g:α → Int):∀ xs:List α,sm xs (fun x=>f x - g x) = sm xs f - sm xs g
 | []=>rfl
 | x :: xs=>by rw [aV,aV,aV,aEM f g xs];omega
theorem aGV (f:α → β → Int) (ys:List β):∀ xs:List α,sm xs (fun x=>sm ys (f x)) = sm ys (fun y=>sm xs fun x=>f x y)
 | []=>(eB (fun _ _=>rfl)).symm
 | x :: xs=>by
  rw [aV,aGV f ys xs,← sm_add]
  exact cW fun y _=>by rw [aV]
theorem mP (X:α → Bool) (f:α → Int):∀ xs:List α,sm xs f = sm (xs.filter X) f + sm (xs.filter fun x=>!X x) f
 | []=>rfl
 | x :: xs=>by
  rw [aV,mP X f xs]
  cases h:X x with
  | true=>rw [DA h,DB (by simp [h]),aV];omega
  | false=>rw [DB (by simp [h]),DA (by simp [h]),aV];omega
theorem oI (X:α → Bool) (f:α → Int):∀ xs:List α,sm (xs.filter X) f = sm xs fun x=>if X x = true then f x else 0
 | []=>rfl
 | x :: xs=>by
  cases h:X x with
  | true=>rw [DA h,aV,aV,if_pos h,oI X f xs]
  | false=>rw [DB (by simp [h]),aV,if_neg (by simp [h]),oI X f xs];omega
end
theorem aAE {V:List Str} (X:Str → Bool) {w:Str} (c:Int) (nd:V.Nodup) (m:w ∈ V):sm (V.filter X) (fun v=>if w = v then c else 0) = if X w = true then c else 0:=by
 rw [oI]
 induction V with
 | nil=>cases m
 | cons v V ih =>
  rw [Ak] at nd
  rw [aV]
  by_cases e:w = v
  ·subst e
   rw [eB (xs:=V) fun x mx=>?_]
   ·simp
   ·have:w ≠ x:=fun e=>nd.1 (e ▸ mx)
    simp [this]
  ·have mV:w ∈ V:=by
    rcases Af.mp m with h | h
    ·exact absurd h e
    ·exact h
   rw [ih nd.2 mV]
   simp [e]
theorem aGU {G:List Gap} (nd:(G.map (·.nm)).Nodup) {g0:Gap} (m:g0 ∈ G) (c:Gap → Int):sm G (fun g=>if g.nm = g0.nm then c g else 0) = c g0:=by
 induction G with
 | nil=>cases m
 | cons g G ih =>
  rw [AY,Ak] at nd
  rw [aV]
  rcases Af.mp m with rfl | m
  ·rw [eB (xs:=G) fun x mx=>?_]
   ·simp
   ·have:x.nm ≠ g0.nm:=fun e=>nd.1 (e ▸ AR.mpr ⟨x,mx,rfl⟩)
    simp [this]
  ·have:g.nm ≠ g0.nm:=fun e=>nd.1 (e ▸ AR.mpr ⟨g0,m,rfl⟩)
   rw [ih nd.2 m]
   simp [this]
def aDB (f:Fl) (v:Str) (g:Gap):Int:=(if g.b = v then f g.nm else 0) - (if g.a = v then f g.nm else 0)
def net (G:List Gap) (f:Fl) (v:Str):Int:=sm G (aDB f v)
def aJP (X:Str → Bool) (f:Fl) (g:Gap):Int:=(if X g.b = true then f g.nm else 0) - (if X g.a = true then f g.nm else 0)
def val (G:List Gap) (f:Fl):Int:=- net G f sea
def lJ (X:Str → Bool) (g:Gap):Int:=if X g.a = X g.b then 0 else g.cap
def cut (G:List Gap) (X:Str → Bool):Int:=sm G (lJ X)
structure Gaps (V:List Str) (G:List Gap):Prop where
 nd:(G.map (·.nm)).Nodup
 ends:∀ g ∈ G,g.a ∈ V ∧ g.b ∈ V ∧ g.a ≠ g.b
 cap:∀ g ∈ G,0 ≤ g.cap
 vnd:V.Nodup
 sea:Mt22.sea ∈ V
def aGD (G:List Gap) (f:Fl):Prop:=∀ g ∈ G,-g.cap ≤ f g.nm ∧ f g.nm ≤ g.cap
theorem aHI {V:List Str} {G:List Gap} (h:Gaps V G) (X:Str → Bool) (f:Fl):sm (V.filter X) (net G f) = sm G (aJP X f):=by
 unfold net
 rw [aGV]
 refine cW fun g mg=>?_
 obtain ⟨ma,mb,_⟩:=h.ends g mg
 show sm (V.filter X) (fun v=>(if g.b = v then f g.nm else 0) - (if g.a = v then f g.nm else 0)) = _
 rw [aEM,aAE X (f g.nm) h.vnd mb,aAE X (f g.nm) h.vnd ma]
 rfl
theorem aQC {V:List Str} {G:List Gap} (h:Gaps V G) (f:Fl):sm V (net G f) = 0:=by
 have:=aHI h (fun _=>true) f
 rw [ET.mpr (fun _ _=>rfl)] at this
 rw [this]
 refine eB fun g _=>?_
 unfold aJP
 simp
theorem aBW {V:List Str} {G:List Gap} (h:Gaps V G) {f:Fl} {X:Str → Bool} (hs:X Mt22.sea = false) (hz:∀ v ∈ V,v ≠ Mt22.sea → X v = false → net G f v = 0):sm G (aJP X f) = val G f:=by
 rw [← aHI h X f]
 have a:=aQC h f
 rw [mP X (net G f) V] at a
 have b:sm (V.filter fun x=>!X x) (net G f) = net G f Mt22.sea:=by
  have e:sm (V.filter fun x=>!X x) (net G f) = sm (V.filter fun x=>!X x) (fun v=>if Mt22.sea = v then net G f Mt22.sea else 0):=cW fun v mv=>by
   rw [Am] at mv
   by_cases hv:Mt22.sea = v
   ·rw [if_pos hv,hv]
   ·rw [if_neg hv]
    exact hz v mv.1 (fun e=>hv e.symm) (by simpa using mv.2)
  rw [e,aAE (fun x=>!X x) _ h.vnd h.sea,hs]
  rfl
 unfold val
 omega
theorem aQL {G:List Gap} {f:Fl} (hf:aGD G f) (X:Str → Bool):∀ g ∈ G,aJP X f g ≤ lJ X g:=fun g m=>by
 obtain ⟨h1,h2⟩:=hf g m
 unfold aJP lJ
 cases ha:X g.a <;> cases hb:X g.b <;> simp <;> omega
theorem aRW {V:List Str} {G:List Gap} (h:Gaps V G) {f:Fl} (hf:aGD G f) {X:Str → Bool} (hs:X Mt22.sea = false) (hz:∀ v ∈ V,v ≠ Mt22.sea → X v = false → net G f v = 0):val G f ≤ cut G X:=by
 rw [← aBW h hs hz]
 exact sU (aQL hf X)
theorem aRX {V:List Str} {G:List Gap} (h:Gaps V G) {f:Fl} {X:Str → Bool} (hs:X Mt22.sea = false) (hz:∀ v ∈ V,v ≠ Mt22.sea → X v = false → net G f v = 0)
  (h1:∀ g ∈ G,X g.a = false → X g.b = true → f g.nm = g.cap) (h2:∀ g ∈ G,X g.a = true → X g.b = false → f g.nm = -g.cap):val G f = cut G X:=by
 rw [← aBW h hs hz]
 refine cW fun g m=>?_
 have e1:=h1 g m
 have e2:=h2 g m
 unfold aJP lJ
 cases ha:X g.a <;> cases hb:X g.b <;> simp [ha,hb] at e1 e2 ⊢ <;> omega
def up (g:Gap):Mt22.St:=⟨g.nm,g.a,g.b,1⟩
def dn (g:Gap):Mt22.St:=⟨g.nm,g.b,g.a,-1⟩
def stepsOf (G:List Gap):List Mt22.St:=G.flatMap fun g=>[up g,dn g]
theorem jE {G:List Gap} {s:Mt22.St}:s ∈ stepsOf G ↔ ∃ g ∈ G,s = up g ∨ s = dn g:=by
 unfold stepsOf
 rw [Ev]
 simp
def kA (m:Int) (f:Fl) (s:Mt22.St):Fl:=fun n=>if n = s.nm then f n + s.h * m else f n
theorem aQD {V:List Str} {G:List Gap} (h:Gaps V G) {s:Mt22.St} (ms:s ∈ stepsOf G) (m:Int) (f:Fl) (v:Str):net G (kA m f s) v = net G f v + ((if s.far = v then m else 0) - (if s.near = v then m else 0)):=by
 obtain ⟨g0,m0,e⟩:=jE.mp ms
 have key:net G (kA m f s) v = net G f v + sm G (fun g=>if g.nm = g0.nm then ((if s.far = v then m else 0) - (if s.near = v then m else 0)) else 0):=by
  unfold net
  rw [← sm_add]
  refine cW fun g mg=>?_
  unfold aDB kA
  have hn:s.nm = g0.nm:=by rcases e with rfl | rfl <;> rfl
  by_cases hg:g.nm = g0.nm
  ·have eg:g = g0:=by
    have nd:=h.nd
    obtain ⟨i,hi⟩:=BD.mp mg
    obtain ⟨j,hj⟩:=BD.mp m0
    obtain ⟨li,ei⟩:=AC.mp hi
    obtain ⟨lj,ej⟩:=AC.mp hj
    have:i = j:=(Dq (xs:=G.map (·.nm)) (h₀:=by rw [AA];exact li) (h₁:=by rw [AA];exact lj) nd).mp (by rw [Cc,Cc,ei,ej,hg])
    subst this
    rw [← ei,← ej]
   subst eg
   rw [if_pos hg,if_pos hn.symm]
   rcases e with rfl | rfl
   ·show (if g.b = v then f g.nm + 1 * m else 0) - (if g.a = v then f g.nm + 1 * m else 0) = (if g.b = v then f g.nm else 0) - (if g.a = v then f g.nm else 0) + ((if g.b = v then m else 0) - (if g.a = v then m else 0))
    split <;> split <;> omega
   ·show (if g.b = v then f g.nm + -1 * m else 0) - (if g.a = v then f g.nm + -1 * m else 0) = (if g.b = v then f g.nm else 0) - (if g.a = v then f g.nm else 0) + ((if g.a = v then m else 0) - (if g.b = v then m else 0))
    split <;> split <;> omega
  ·have hg':¬ g.nm = s.nm:=fun e=>hg (e.trans hn)
   simp only [if_neg hg,if_neg hg']
   omega
 rw [key,aGU h.nd m0]
theorem rR {V:List Str} {G:List Gap} (h:Gaps V G) {S ss:List Mt22.St} {z:Str} (c:Chain S ss z) (hS:∀ s ∈ S,s ∈ stepsOf G) (m:Int) (f:Fl) (v:Str):net G (ss.foldl (kA m) f) v = net G f v + ((if z = v then m else 0) - (if Mt22.sea = v then m else 0)):=by
 induction c with
 | nil =>
  show net G f v = _
  omega
 | @snoc ss s c ms n ih =>
  rw [List.foldl_append]
  show net G (kA m (ss.foldl (kA m) f) s) v = _
  rw [aQD h (hS s ms),ih]
  omega
theorem aHR (m:Int) (n:Str):∀ (ss:List Mt22.St) (f:Fl),(ss.foldl (kA m) f) n = f n + m * sm ss (fun s=>if s.nm = n then s.h else 0)
 | [],f=>by rw [kG,Eo,Ep];rfl
 | s :: ss,f=>by
  show (ss.foldl (kA m) (kA m f s)) n = _
  rw [aHR m n ss,aV,Int.mul_add]
  unfold kA
  by_cases e:s.nm = n
  ·rw [if_pos e,if_pos e.symm,Int.mul_comm m s.h]
   omega
  ·rw [if_neg e,if_neg (fun q=>e q.symm),Eo]
   omega
theorem aQO {V:List Str} {G:List Gap} (h:Gaps V G) {g g':Gap} (m:g ∈ G) (m':g' ∈ G) (e:g.nm = g'.nm):g = g':=by
 obtain ⟨i,hi⟩:=BD.mp m
 obtain ⟨j,hj⟩:=BD.mp m'
 obtain ⟨li,ei⟩:=AC.mp hi
 obtain ⟨lj,ej⟩:=AC.mp hj
 have:i = j:=(Dq (xs:=G.map (·.nm)) (h₀:=by rw [AA];exact li) (h₁:=by rw [AA];exact lj) h.nd).mp (by rw [Cc,Cc,ei,ej,e])
 subst this
 rw [← ei,← ej]
instance stDec:DecidableEq Mt22.St:=fun a b=>decidable_of_iff (a.nm = b.nm ∧ a.near = b.near ∧ a.far = b.far ∧ a.h = b.h) (by
 cases a;cases b;simp)
theorem aCG {V:List Str} {G:List Gap} (h:Gaps V G) {g:Gap} (mg:g ∈ G):∀ {ss:List Mt22.St},(∀ s ∈ ss,s ∈ stepsOf G) → ss.Nodup → sm ss (fun s=>if s.nm = g.nm then s.h else 0) = (if up g ∈ ss then 1 else 0) - (if dn g ∈ ss then 1 else 0)
 | [],_,_=>by simp [kG]
 | s :: ss,hs,nd=>by
  rw [Ak] at nd
  rw [aV,aCG h mg (fun t m=>hs t (AO _ m)) nd.2]
  have ne:up g ≠ dn g:=fun e=>by
   have:=congrArg Mt22.St.h e
   exact absurd this (by show (1:Int) ≠ -1;decide)
  by_cases e:s.nm = g.nm
  ·obtain ⟨g',m',e'⟩:=jE.mp (hs s AU)
   have eg:g' = g:=aQO h m' mg (by rcases e' with rfl | rfl <;> exact e)
   subst eg
   rcases e' with rfl | rfl
   ·rw [if_pos e,if_pos AU,if_neg nd.1]
    have:(dn g' ∈ up g' :: ss) ↔ dn g' ∈ ss:=by simp [Ne.symm ne]
    simp only [this]
    show (1:Int) + _ = _
    omega
   ·rw [if_pos e,if_pos (show dn g' ∈ dn g' :: ss from AU),if_neg nd.1]
    have:(up g' ∈ dn g' :: ss) ↔ up g' ∈ ss:=by simp [ne]
    simp only [this]
    show (-1:Int) + _ = _
    omega
  ·have n1:s ≠ up g:=fun q=>e (by rw [q];rfl)
   have n2:s ≠ dn g:=fun q=>e (by rw [q];rfl)
   have:(up g ∈ s :: ss) ↔ up g ∈ ss:=by simp [Ne.symm n1]
   have h2:(dn g ∈ s :: ss) ↔ dn g ∈ ss:=by simp [Ne.symm n2]
   simp only [this,h2,if_neg e]
   omega
def rB (G:List Gap) (n:Str):Int:=sm G fun g=>if g.nm = n then g.cap else 0
theorem nV {V:List Str} {G:List Gap} (h:Gaps V G) {g:Gap} (m:g ∈ G):rB G g.nm = g.cap:=aGU h.nd m (·.cap)
def room (G:List Gap) (f:Fl) (s:Mt22.St):Int:=rB G s.nm - s.h * f s.nm
theorem aGY {V:List Str} {G:List Gap} (h:Gaps V G) {g:Gap} (m:g ∈ G) (f:Fl):room G f (up g) = g.cap - f g.nm:=by
 show rB G g.nm - 1 * f g.nm = _
 rw [nV h m]
 omega
theorem aGZ {V:List Str} {G:List Gap} (h:Gaps V G) {g:Gap} (m:g ∈ G) (f:Fl):room G f (dn g) = g.cap + f g.nm:=by
 show rB G g.nm - -1 * f g.nm = _
 rw [nV h m]
 omega
theorem aFP {V:List Str} {G:List Gap} (h:Gaps V G) {S ss:List Mt22.St} {z:Str} (c:Chain S ss z) (hS:∀ s ∈ S,s ∈ stepsOf G) {m:Int} (m0:0 ≤ m) {f:Fl} (hf:aGD G f) (hr:∀ s ∈ ss,m ≤ room G f s):aGD G (ss.foldl (kA m) f):=fun g mg=>by
 obtain ⟨f1,f2⟩:=hf g mg
 obtain ⟨sub,nd⟩:=zI c
 have nd':ss.Nodup:=by
  rw [CM]
  exact ((List.pairwise_map.mp (CM.mp nd))).imp fun hne e=>hne (by rw [e])
 rw [aHR,aCG h mg (fun s ms=>hS s (sub s ms)) nd']
 have r1:up g ∈ ss → m ≤ g.cap - f g.nm:=fun q=>by have:=hr _ q;rwa [aGY h mg] at this
 have r2:dn g ∈ ss → m ≤ g.cap + f g.nm:=fun q=>by have:=hr _ q;rwa [aGZ h mg] at this
 by_cases u:up g ∈ ss <;> by_cases d:dn g ∈ ss
 ·rw [if_pos u,if_pos d];have:=r1 u;have:=r2 d;omega
 ·rw [if_pos u,if_neg d];have:=r1 u;omega
 ·rw [if_neg u,if_pos d];have:=r2 d;omega
 ·rw [if_neg u,if_neg d];omega
structure Stream (V:List Str) (G:List Gap) (ws:List Str) (f:Fl):Prop where
 fits:aGD G f
 zero:∀ v ∈ V,v ≠ Mt22.sea → v ∉ ws → net G f v = 0
 gain:∀ v ∈ ws,0 ≤ net G f v
theorem Stream.none {V:List Str} {G:List Gap} (h:Gaps V G) (ws:List Str) {f:Fl} (hf:∀ g ∈ G,f g.nm = 0):Stream V G ws f:=by
 have z:∀ v,net G f v = 0:=fun v=>eB fun g m=>by
  unfold aDB
  rw [hf g m]
  simp
 refine ⟨fun g m=>?_,fun v _ _ _=>z v,fun v _=>by rw [z v];exact EN _⟩
 have:=h.cap g m
 rw [hf g m]
 omega
theorem Stream.more {V:List Str} {G:List Gap} (h:Gaps V G) {ws:List Str} {f:Fl} (st:Stream V G ws f) {S ss:List Mt22.St} {z:Str} (c:Chain S ss z) (hS:∀ s ∈ S,s ∈ stepsOf G) {m:Int} (m0:0 ≤ m) (hr:∀ s ∈ ss,m ≤ room G f s) (mz:z ∈ ws) (ns:Mt22.sea ∉ ws) :
  Stream V G ws (ss.foldl (kA m) f) ∧ val G (ss.foldl (kA m) f) = val G f + m:=by
 have zs:z ≠ Mt22.sea:=fun e=>ns (e ▸ mz)
 refine ⟨⟨aFP h c hS m0 st.fits hr,fun v mv hv hw=>?_,fun v mv=>?_⟩,?_⟩
 ·rw [rR h c hS,st.zero v mv hv hw,if_neg (show ¬ z = v from fun e=>hw (e ▸ mz)),if_neg (show ¬ Mt22.sea = v from fun e=>hv e.symm)]
  rfl
 ·rw [rR h c hS,if_neg (show ¬ Mt22.sea = v from fun e=>ns (e ▸ mv))]
  have:=st.gain v mv
  split <;> omega
 ·unfold val
  rw [rR h c hS,if_neg zs,if_pos rfl]
  omega
def total (G:List Gap):Int:=sm G (·.cap)
theorem aIL {V:List Str} {G:List Gap} (h:Gaps V G) {f:Fl} (hf:aGD G f):val G f ≤ total G:=by
 unfold val net total
 have:sm G (aDB f Mt22.sea) ≥ sm G (fun g=>0 - g.cap):=sU fun g m=>by
  obtain ⟨f1,f2⟩:=hf g m
  obtain ⟨_,_,ne⟩:=h.ends g m
  have:=h.cap g m
  unfold aDB
  by_cases e1:g.b = Mt22.sea <;> by_cases e2:g.a = Mt22.sea
  ·exact absurd (e2.trans e1.symm) ne
  ·rw [if_pos e1,if_neg e2];omega
  ·rw [if_neg e1,if_pos e2];omega
  ·rw [if_neg e1,if_neg e2];omega
 rw [aEM,eB (f:=fun _=>(0:Int)) (fun _ _=>rfl)] at this
 have e:(sm G fun x=>x.cap) = sm G Gap.cap:=rfl
 omega
structure Round (G:List Gap) (f:Fl) (ws R B:List Str):Prop where
 sea:Mt22.sea ∈ R
 closed:∀ s ∈ stepsOf G,0 < room G f s → s.near ∈ R → s.far ∈ R
 wout:∀ z ∈ ws,z ∉ R
 win:∀ z ∈ ws,z ∈ B
 bout:∀ z ∈ B,z ∉ R
 bclosed:∀ s ∈ stepsOf G,s.far ∉ R → s.near ∈ B → s.far ∈ B
instance memStr (z:Str) (l:List Str):Decidable (z ∈ l):=inferInstance
def inB (B:List Str):Str → Bool:=fun z=>decide (z ∈ B)
theorem pL {V:List Str} {G:List Gap} (h:Gaps V G) {f:Fl} (hf:aGD G f) {ws R B:List Str} (r:Round G f ws R B) {g:Gap} (m:g ∈ G) :
  (g.a ∉ B → g.b ∈ B → g.a ∈ R ∧ f g.nm = g.cap) ∧ (g.a ∈ B → g.b ∉ B → g.b ∈ R ∧ f g.nm = -g.cap):=by
 obtain ⟨f1,f2⟩:=hf g m
 have mu:up g ∈ stepsOf G:=jE.mpr ⟨g,m,.inl rfl⟩
 have md:dn g ∈ stepsOf G:=jE.mpr ⟨g,m,.inr rfl⟩
 refine ⟨fun ha hb=>?_,fun ha hb=>?_⟩
 ·have aR:g.a ∈ R:=DT fun n=>ha (r.bclosed _ md n hb)
  refine ⟨aR,?_⟩
  have:¬ 0 < room G f (up g):=fun q=>r.bout _ hb (r.closed _ mu q aR)
  rw [aGY h m] at this
  omega
 ·have bR:g.b ∈ R:=DT fun n=>hb (r.bclosed _ mu n ha)
  refine ⟨bR,?_⟩
  have:¬ 0 < room G f (dn g):=fun q=>r.bout _ ha (r.closed _ md q bR)
  rw [aGZ h m] at this
  omega
theorem yH {V:List Str} {G:List Gap} (h:Gaps V G) {f:Fl} {ws R B:List Str} (st:Stream V G ws f) (r:Round G f ws R B):val G f = cut G (inB B):=by
 have sB:Mt22.sea ∉ B:=fun m=>r.bout _ m r.sea
 refine aRX h (decide_eq_false sB) (fun v mv hv hX=>?_) (fun g m ha hb=>?_) (fun g m ha hb=>?_)
 ·exact st.zero v mv hv fun w=>(of_decide_eq_false hX) (r.win v w)
 ·exact ((pL h st.fits r m).1 (of_decide_eq_false ha) (of_decide_eq_true hb)).2
 ·exact ((pL h st.fits r m).2 (of_decide_eq_true ha) (of_decide_eq_false hb)).2
def eQ (G:List Gap) (R B:List Str):List Mt22.St:=(stepsOf G).filter fun s=>decide (s.near ∈ R) && decide (s.far ∈ B)
theorem aER {V:List Str} {G:List Gap} (h:Gaps V G) {f:Fl} {ws R B:List Str} (st:Stream V G ws f) (r:Round G f ws R B):sm (eQ G R B) (fun s=>rB G s.nm) = val G f:=by
 rw [yH h st r]
 unfold eQ cut stepsOf
 rw [oI]
 have key:∀ G':List Gap,(∀ g ∈ G',g ∈ G) → sm (G'.flatMap fun g=>[up g,dn g]) (fun s=>if (decide (s.near ∈ R) && decide (s.far ∈ B)) = true then rB G s.nm else 0) = sm G' (lJ (inB B)):=by
  intro G'
  induction G' with
  | nil=>intro _;rfl
  | cons g G' ih =>
   intro sub
   have m:=sub g AU
   rw [Di,uV,ih fun x mx=>sub x (AO _ mx),aV g]
   congr 1
   rw [aV,aV,kG]
   show (if (decide (g.a ∈ R) && decide (g.b ∈ B)) = true then rB G g.nm else 0) + ((if (decide (g.b ∈ R) && decide (g.a ∈ B)) = true then rB G g.nm else 0) + 0) = (if decide (g.a ∈ B) = decide (g.b ∈ B) then 0 else g.cap)
   rw [nV h m]
   obtain ⟨e1,e2⟩:=pL h st.fits r m
   by_cases ha:g.a ∈ B <;> by_cases hb:g.b ∈ B
   ·have:=r.bout _ ha
    have:=r.bout _ hb
    simp [*]
   ·have:=r.bout _ ha
    have:=(e2 ha hb).1
    simp [*]
   ·have:=r.bout _ hb
    have:=(e1 ha hb).1
    simp [*]
   ·simp [*]
 exact key G fun g m=>m
def eS (G:List Gap) (ws:List Str) (c:Int):Prop:=(∃ X:Str → Bool,X Mt22.sea = false ∧ (∀ z ∈ ws,X z = true) ∧ cut G X = c) ∧ ∀ X:Str → Bool,X Mt22.sea = false → (∀ z ∈ ws,X z = true) → c ≤ cut G X
theorem tD {V:List Str} {G:List Gap} (h:Gaps V G) {f:Fl} {ws R B:List Str} (st:Stream V G ws f) (r:Round G f ws R B):eS G ws (val G f):=by
 refine ⟨⟨inB B,decide_eq_false fun m=>r.bout _ m r.sea,fun z m=>decide_eq_true (r.win z m),(yH h st r).symm⟩,fun X hs hw=>?_⟩
 refine aRW h st.fits hs fun v mv hv hX=>st.zero v mv hv fun w=>?_
 rw [hw v w] at hX
 cases hX
theorem eS.uniq {G:List Gap} {ws:List Str} {c d:Int} (h:eS G ws c) (h':eS G ws d):c = d:=by
 obtain ⟨⟨X,s,w,e⟩,a⟩:=h
 obtain ⟨⟨X',s',w',e'⟩,a'⟩:=h'
 have:=a X' s' w'
 have:=a' X s w
 omega
end Mt61
namespace L2
open PySem PySem.Spec PyProof.Rows
def aXF (l:List Nat):Prop:=∀ i k,i < k → k < l.length → l.getD i 0 < l.getD k 0
structure Ris (t:SetTable):Prop where
 no:t.dummies = #[]
 up:aXF t.place.toList
end L2
namespace L2
open PySem PySem.Spec PyProof.Rows
def aTK:Value → Key
 | .int z _=>.inl z
 | .str x _=>.inr x
 | _=>.inl 0
def aSL (w:World):Bool:=w.params.followText "set-order"
def SetJ (P:Program) (w:World) (h:Heap) (a:Addr) (ks:List Key):Prop :=
 ∃ o es ep t,h.get? a = some o ∧ o.ExactSet ∧ o.data = .set es ep t ∧ ElemsOf (aS P w) es.toList ∧ (es.toList.map fun e=>aTK e.2).Perm ks ∧ es.size < scanBound ∧ t.fits es.size = true ∧ Ris t ∧ (aSL w = true ∨ t.led = true)
section
variable {P:Program} {w:World} {A:Around} {E:Value → Shared → Prop} {s:Shared}
end
end L2
namespace L2
open PySem PySem.Spec PyProof.Rows
section
variable {P:Program} {w:World} {A:Around} {E:Value → Shared → Prop} {s:Shared}
end
section
variable {P:Program} {w:World} {A:Around} {R:Result → Shared → Prop} {I:Addr} {fp wr:List Addr} {G:Array Da → Array Da → Prop} {n:Nat} {Pv:Nat → Value → Prop} {Stt:Nat → Shared → Prop}
end
section
variable {P:Program} {w:World} {A:Around} {E:Value → Shared → Prop} {s:Shared}
end
end L2
namespace L2
open PySem PySem.Spec PyProof.Rows
section
variable {P:Program} {w:World} {A:Around} {E:Value → Shared → Prop} {s:Shared} {it a:Addr} {o:Obj} {es:Array (Int × Value)} {ep:Nat} {t:SetTable}
end
end L2
namespace L2
open PySem PySem.Spec PyProof.Rows
section
variable {P:Program} {w:World} {A:Around} {E:Value → Shared → Prop} {s:Shared} {it a:Addr} {o:Obj} {es:Array (Int × Value)} {ep:Nat} {t:SetTable}
end
end L2
namespace L2
open PySem PySem.Spec PyProof.Rows
section
variable {P:Program} {w:World} {A:Around} {E:Value → Shared → Prop} {s:Shared} {a:Addr} {ks:List Key}
end
end L2
namespace L2
open PySem PySem.Spec PyProof.Rows
theorem aBO:BS "sorted" = some (.builtin "sorted"):=by decide +kernel
section
variable {X:Cx} {pins:List (Addr × Obj)} {σ:List (Option V)} {H:Hp} {s:Shared}
end
end L2
namespace L2
open PySem PySem.Spec PyProof.Rows PySem.W
section
variable {P:Program} {w:World} {K:AG} {mg:Str → Option Value} {base:Heap}
theorem aMU {k:Nat} {f:Addr} {name qual:Str} {params:Dm} {body:Expr} {scope:Scope} {pm cdv ct:Value} {o:Obj} {N ps:List Str}
  {A:Around} {outer:List Env} {s:Shared} {H:Hp} {args:Args} {us:List Value} {vs:List V} {Q:VK}
  (hr:Room (k + 1) A) (e0:Env0 P w K mg base A outer s H) (ho:s.heap.get? f = some o) (hd:o.data = .func (kla_fn name qual params body scope [] pm cdv ct)) (hcd:s.heap.CodeRec cdv qual) (S:FnScope N ps scope)
  (hb:BindsTo s (kla_fn name qual params body scope [] pm cdv ct) args (ps.zip us)) (r:bK vs us) (hl:vs.length = ps.length)
  (hbody:Room k (A.deeper (envOfC qual scope s.heap.objs.size f cdv)) → ∃ t:TE,PE (mJ CX0 P w K mg base N qual scope f cdv A outer s H E0).nox body t ∧ t (start N vs) H Q) :
  codeAny (model P w) A (.call (.ref f) args) (CR CX0 outer P w H s Q E0) s:=by
 have lim:s.heap.NoLimit:=e0.mod.nolimit.keeps fun b o e=>(e0.bs b o e).1
 have hkind:∀ y ∈ ps.zip us,scope.names.lookup y.1 = some .local ∨ (scope.names.lookup y.1 = some .cell ∧ ((cellsFrom (s.heap.objs.size + 1) scope.names []).lookup y.1).isSome = true):=fun ⟨n,v⟩ hy=>by
  rcases S.par n (EB hy).1 with q | q
  ·exact .inl q
  ·exact .inr ⟨q,Do _ _ _ (.inl q)⟩
 refine kla_callFunE hr.depth ho hd S.co S.gen rfl hcd (hb _ _ _ _ ?_)
 refine wpAny_newFunctionEnv_cells S.kind hkind fun env he s1 x=>?_
 subst he
 refine ⟨lim.keeps x.toInCall.keep,kla_codeExpr ?_⟩
 obtain ⟨t,ht,hq⟩:=hbody (hr.deeper _)
 have I:Inv (mJ CX0 P w K mg base N qual scope f cdv A outer s H E0) [] (start N vs) H s1:=yZ S hr.hd e0 hl r x
 have I':Inv (mJ CX0 P w K mg base N qual scope f cdv A outer s H E0).nox [] (start N vs) H s1:=⟨⟨I.ok.mod,I.ok.kind,I.ok.glob,I.ok.blt,I.ok.above,I.ok.inj,I.ok.has,I.ok.cab,I.ok.hd,I.ok.frames,I.ok.stk,I.ok.exf,I.ok.bs,I.ok.bsz,I.ok.noex,I.ok.exfs,I.ok.funs,I.ok.frf⟩,I.os,I.bare,I.base,I.loc,I.cell,I.free,I.freeC,I.pin,I.hok,I.len⟩
 refine BL (ht [] s1 (start N vs) H _ I' hq) (fun u s' hs=>?_) fun e s' hs=>Bc hs
 obtain ⟨v,H',J,rv,q⟩:=hs
 exact ⟨v,H',J.os,J.bare,J.base,J.hok,rv,q⟩
end
end L2
namespace L2
open PySem PySem.Spec PyProof.Rows PySem.W
def dP (T:Addr) (H H':Hp):Prop:=∀ b o,b ≠ T → H b = some o → H' b = some o
theorem dP.trans {T:Addr} {H H1 H2:Hp} (a:dP T H H1) (b:dP T H1 H2):dP T H H2:=fun x o n e=>b x o n (a x o n e)
def pG (qual:Str) (c:Addr):HO:=.ext fun h=>h.CodeRec (.ref c) qual
def uE (name qual:Str) (params:Dm) (body:Expr) (scope:Scope) (c f:Addr):HO:=.ext fun h=>∃ pm ctv,h.get? f = some (kla_obj name qual params body scope [] pm c ctv)
theorem pG.ok {P:Program} {w:World} {H:Hp} {h:Heap} {q:Str} {c:Addr} (x:h.CodeRec (.ref c) q):bW P w H h c (pG q c):=by
 refine ⟨x,?_,fun h1 h2 y k=>?_⟩
 ·obtain ⟨c',oc,vs,t,e,ho,_⟩:=x
  cases e
  exact ⟨oc,ho⟩
 ·obtain ⟨c',oc,vs,t,e,ho,r⟩:=y
  cases e
  exact ⟨_,oc,vs,t,rfl,k _ ho,r⟩
theorem uE.ok {P:Program} {w:World} {H:Hp} {h:Heap} {n q:Str} {ps:Dm} {b:Expr} {sc:Scope} {c f:Addr} {pm ctv:Value} (x:h.get? f = some (kla_obj n q ps b sc [] pm c ctv)):bW P w H h f (uE n q ps b sc c f) :=
 ⟨⟨pm,ctv,x⟩,⟨_,x⟩,fun h1 h2 ⟨p,v,y⟩ k=>⟨p,v,k _ y⟩⟩
def lM (T:Addr) (pos:Pos) (qual:Str) (H:Hp):Prop :=
 ∃ ps,H T = some (.tbl ps) ∧ TriplesOk ps.toList ∧ (codeAmong pos ps.toList = none ∨ ∃ c',codeAmong pos ps.toList = some (.ref c') ∧ H c' = some (pG qual c'))
theorem lM.keep {T:Addr} {pos:Pos} {qual:Str} {H H':Hp} (x:lM T pos qual H) (k:∀ b o,H b = some o → H' b = some o):lM T pos qual H':=by
 obtain ⟨ps,e,t,r⟩:=x
 refine ⟨ps,k _ _ e,t,r.imp id fun ⟨c,e1,e2⟩=>⟨c,e1,k _ _ e2⟩⟩
theorem sR:∀ (l:List Value) {m:List Value},TriplesOk m → TriplesOk l → TriplesOk (l ++ m)
 | [],_,h,_=>h
 | [a],_,_,h=>by cases a <;> exact Bc h
 | [a,b],_,_,h=>by cases a <;> cases b <;> exact Bc h
 | a :: b :: c :: r,m,h1,h2=>by
  cases a <;> first | exact Bc h2 | (cases b <;> first | exact Bc h2 | exact sR r h1 h2)
structure TabB (K:AG) (mg:Str → Option Value) (base:Heap) (x:Str) (c T:Addr):Prop where
 bm:∃ bm ob,mg "__builtins__" = some (.ref bm) ∧ bm ≠ builtinsNs ∧ base.get? bm = some ob ∧ ob.cls = .type "module" ∧ ob.dict = some builtinsNs ∧ ob.data = .plain
 hd:CodeHd base c T
 cd:∀ (fa:Addr) (o:Obj) (fd:Bv),mg x = some (.ref fa) → K.lookup fa = some o → o.data = .func fd → fd.code = .ref c
section
variable {X:Cx} {T c:Addr} {qual:Str} {params:Dm} {body:Expr} {scope:Scope} {pos:Pos}
def aUH (T:Addr) (pos:Pos) (qual:Str) (params:Dm) (body:Expr) (scope:Scope):TE:=fun σ H Q=>lM T pos qual H ∧
 ∀ (f c':Addr) (H':Hp),dP T H H' → lM T pos qual H' → H' c' = some (pG qual c') → H' f = some (uE "<lambda>" qual params body scope c' f) → Q (.ref f) H'
theorem aSU {x:Str} (B:TabB X.K X.mg X.base x c T) (hc:X.env.code = .ref c) (hq:X.env.qual ++ "<lambda>" = qual) (hcl:Ex scope X.env = pure []) (hdef:defaultsOf params X.env = ([],[])) :
  PE X (.Lambda params body scope pos) (aUH T pos qual params body scope):=by
 intro pins s σ H Q I h
 obtain ⟨⟨ps,eT,tr,hit⟩,q⟩:=h
 subst hq
 have gP:s.heap.get? T = some (tabObj ps):=I.hok T _ eT
 have hgs:=I.mod.glob.keeps I.bk
 obtain ⟨bm,ob,b1,b2,b3,b4,b5,b6⟩:=B.bm
 have hgP:AJ ≠ T:=fun z=>by
  obtain ⟨o,es,ep,e,hd,_⟩:=hgs
  rw [z,gP] at e;cases e;cases hd
 have hbP:bm ≠ T:=fun z=>by
  have e:=I.bk _ _ b3
  rw [z,gP] at e;cases e;cases b4
 have hbG:bm ≠ AJ:=fun z=>by
  obtain ⟨o,es,ep,e,hd,_⟩:=I.mod.glob
  rw [z,e] at b3;cases b3;rw [hd] at b6;cases b6
 have bl:s.heap.BuiltinsAt X.mg T:=⟨bm,ob,b1,b2,hbG,hbP,I.bk _ _ b3,b4,b5,b6⟩
 have nT:∀ b,H b = none → b ≠ T:=fun b n z=>by rw [z,eT] at n;cases n
 refine kla_eval hdef ?_
 rcases hit with hn | ⟨c',hf,ec⟩
 ·refine kla_makeFunction (mg:=X.mg) hcl I.ok.glob hgs hc (B.hd.keeps I.bk) gP tr hn hgP bl fun c' ctv h' tk hx hge hlt hrec htb=>?_
  have gf:(h'.push (kla_obj "<lambda>" (X.env.qual ++ "<lambda>") params body scope [] ((X.mg "__name__").getD .none) c' ctv)).get? h'.objs.size = some (kla_obj "<lambda>" (X.env.qual ++ "<lambda>") params body scope [] ((X.mg "__name__").getD .none) c' ctv):=Ad _ rfl
  generalize hob:kla_obj "<lambda>" (X.env.qual ++ "<lambda>") params body scope [] ((X.mg "__name__").getD .none) c' ctv = obF at gf
  have keep:∀ b o,b ≠ T → s.heap.get? b = some o → (h'.push obF).get? b = some o:=fun b o n e=>AE _ (hx b o n e)
  have lt:∀ b o,s.heap.get? b = some o → b ≠ c' ∧ b ≠ h'.objs.size:=fun b o e=>⟨Ah (Ae (AZ e) hge),Ah (DY (Ae (AZ e) hge) hlt)⟩
  have fresh:∀ b o,H b = some o → b ≠ c' ∧ b ≠ h'.objs.size:=fun b o e=>by
   have:=I.hok.lt e
   exact ⟨Ah (Ae this hge),Ah (DY (Ae this hge) hlt)⟩
  have cT:c' ≠ T:=Ne.symm (fresh T _ eT).1
  have fT:h'.objs.size ≠ T:=Ne.symm (fresh T _ eT).2
  have cf:c' ≠ h'.objs.size:=Ah hlt
  let ps':=ps ++ #[rawInt pos.line,rawInt pos.col,.ref c']
  let H1:=upd (upd (upd H T (.tbl ps')) c' (pG (X.env.qual ++ "<lambda>") c')) h'.objs.size (uE "<lambda>" (X.env.qual ++ "<lambda>") params body scope c' h'.objs.size)
  have up:∀ b,b ≠ T → b ≠ c' → b ≠ h'.objs.size → H1 b = H b:=fun b n1 n2 n3=>by
   show upd _ _ _ b = _
   rw [aK n3,aK n2,aK n1]
  have eT1:H1 T = some (.tbl ps'):=by
   show upd _ _ _ T = _
   rw [aK (Ne.symm fT),aK (Ne.symm cT),aF]
  have ec1:H1 c' = some (pG (X.env.qual ++ "<lambda>") c'):=by
   show upd _ _ _ c' = _
   rw [aK cf,aF]
  have ef1:H1 h'.objs.size = some (uE "<lambda>" (X.env.qual ++ "<lambda>") params body scope c' h'.objs.size):=aF
  have KB:dP T H H1:=fun b o n e=>by rw [up b n (fresh b o e).1 (fresh b o e).2];exact e
  have hok:HOk X.prog X.w H1 (h'.push obF):=fun b u e=>by
   by_cases z1:b = h'.objs.size
   ·subst z1
    rw [ef1] at e
    cases e
    exact uE.ok (pm:=(X.mg "__name__").getD .none) (ctv:=ctv) (by rw [gf,hob])
   ·by_cases z2:b = c'
    ·subst z2
     rw [ec1] at e
     cases e
     obtain ⟨_,oc,vs,t,e1,ho,r⟩:=hrec
     cases e1
     exact pG.ok ⟨_,oc,vs,t,rfl,AE _ ho,r⟩
    ·by_cases z3:b = T
     ·subst z3
      rw [eT1] at e
      cases e
      show (h'.push obF).get? b = some _
      exact AE _ htb
     ·rw [up b z3 z2 z1] at e
      refine (I.hok b u e).stay (fun d v hd g=>keep d v (fun z=>?_) g) (fun d z=>KB d _ (fun zz=>by rw [zz,eT] at z;cases z) z) fun d xs z=>KB d _ (fun zz=>by rw [zz,eT] at z;cases z) z
      rcases hd with hd | hd
      ·exact z3 (hd ▸ z)
      ·rw [z,eT] at hd;cases hd
  have I1:Inv X pins σ H1 { s with heap:=h'.push obF,toks:=tk }:=by
   refine I.step (g':=s.gens) (d':=s.drawn) (ch:=[]) (fun _ z=>nomatch z) (fun b o _ _ _ e n=>keep b o (nT b n) e) (fun b o _ _ _ e n=>⟨o.slots,keep b o (nT b n) e⟩)
    (fun b o _ e n=>by rw [up b (nT b n) (lt b o e).1 (lt b o e).2];exact n) (fun b o _ e=>?_) (fun b xs e=>KB b _ (fun z=>by rw [z,eT] at e;cases e) e) (fun b o u e=>KB b _ (fun z=>by rw [z,eT] at e;cases e) e)
    (fun b qs e=>?_) (fun m hm=>?_) hok I.bare
   ·by_cases z:b = T
    ·subst z
     exact ⟨_,AE _ htb⟩
    ·exact ⟨o,keep b o z e⟩
   ·by_cases z:b = T
    ·subst z
     rw [eT] at e
     cases e
     exact ⟨_,eT1⟩
    ·exact ⟨#[],by rw [KB b _ z e];simp⟩
   ·exact (hm.extBut hx (nT _ I.free)).push _
  refine ⟨.ref h'.objs.size,H1,?_,rfl,q _ c' H1 KB ⟨ps',eT1,?_,.inr ⟨c',?_,ec1⟩⟩ ec1 ef1⟩
  ·exact I1
  ·show TriplesOk (ps ++ #[rawInt pos.line,rawInt pos.col,.ref c']).toList
   rw [Array.toList_append]
   generalize ps.toList = l at tr
   clear up eT1 hok KB I1 fresh lt keep q gP hn hlt hge cf fT cT ec1 ef1 hx hrec htb gf hob bl eT
   revert tr
   refine sR l ?_
   exact trivial
  ·show codeAmong pos (ps ++ #[rawInt pos.line,rawInt pos.col,.ref c']).toList = _
   rw [Array.toList_append]
   exact codeAmong_snoc _ tr hn
 ·refine kla_makeFunctionHit (mg:=X.mg) hcl I.ok.glob hgs hc (B.hd.keeps I.bk) gP tr hf bl fun ctv h' tk hk hsz=>?_
  have gf:(h'.push (kla_obj "<lambda>" (X.env.qual ++ "<lambda>") params body scope [] ((X.mg "__name__").getD .none) c' ctv)).get? h'.objs.size = some (kla_obj "<lambda>" (X.env.qual ++ "<lambda>") params body scope [] ((X.mg "__name__").getD .none) c' ctv):=Ad _ rfl
  refine ⟨.ref h'.objs.size,_,I.laid (a:=h'.objs.size) (o:=uE "<lambda>" (X.env.qual ++ "<lambda>") params body scope c' h'.objs.size) (t':=tk) (fun b o e=>AE _ (hk b o e)) hsz (uE.ok gf),rfl,?_⟩
  have fr:=I.hok.fresh hsz
  have KS:∀ b o,H b = some o → upd H h'.objs.size (uE "<lambda>" (X.env.qual ++ "<lambda>") params body scope c' h'.objs.size) b = some o:=fun b o e=>by rw [aK (aY e fr)];exact e
  exact q _ c' _ (fun b o _ e=>KS b o e) (lM.keep ⟨ps,eT,tr,.inr ⟨c',hf,ec⟩⟩ KS) (KS _ _ ec) aF
end
end L2
namespace HT
open PySem PyProof.Rows
section
open PySem.SeqAt
open PySem.AutoSeq1 (wpAny_loadPart')
open PySem.MeetsSeq PySem.MeetsSeq2 PySem.MeetsSeq3
theorem nO:∀ {vs:List Value} {ns:List Int} (i:Nat),IntsAre vs ns → i < vs.length → ∃ a t,vs[i]? = some (.int a t) ∧ ns[i]? = some a
 | _,_,_,.nil,h=>by simp at h
 | _,_,0,.cons a t r,_=>⟨a,t,rfl,rfl⟩
 | _,_,i + 1,.cons a t r,h=>nO i r (by simpa using h)
theorem aBC (l b:Addr) (items items2:Array Value) (n n2:Nat) (dd dd2:Option Addr) (sl sl2:Array (Option Value)) (ns ms:List Int) (hi:IntsAre items.toList ns) (hj:IntsAre items2.toList ms) (k:Nat) :
  ∀ i:Nat,items.size - i = k → Meets (Builtin.«list.__eq__.loop» ⟨[.ref l,.ref b,rawInt i,rawInt 0],[]⟩)
   (fun A R s=>s.heap.get? l = some { cls:=.type "list",dict:=dd,data:=.seq items n,slots:=sl } ∧ s.heap.get? b = some { cls:=.type "list",dict:=dd2,data:=.seq items2 n2,slots:=sl2 } ∧
    i ≤ items.size ∧ i ≤ items2.size ∧ R (.ok (.ret (.bool (lexLt (ns.drop i) (ms.drop i))))) s):=by
 have z1:items.size = ns.length:=by rw [← hi.length];simp
 have z2:items2.size = ms.length:=by rw [← hj.length];simp
 induction k with
 | zero =>
  intro i hk prog w A R s h
  obtain ⟨hp,g,d,tk,os⟩:=s;obtain ⟨hl,hb,hi1,hi2,h⟩:=h
  wp_walk using Bl hl,Bl hb
  have hi1:items[((i:Nat):Int).toNat]? = none:=by simp;omega
  rw [hi1]
  wp_walk using Bl hl,Bl hb
  show R (.ok (.ret (.bool (decide (items.size < items2.size))))) _
  rw [DE (as:=ns) (by omega)] at h
  have e:lexLt [] (ms.drop i) = decide (items.size < items2.size):=by
   by_cases q:i < ms.length
   ·rw [Df q,vZ]
    exact (decide_eq_true (by omega)).symm
   ·rw [DE (by omega),xR]
    exact (decide_eq_false (by omega)).symm
  rw [e] at h
  exact h
 | succ k ih =>
  intro i hk prog w A R s h
  obtain ⟨hp,g,d,tk,os⟩:=s;obtain ⟨hl,hb,l1,l2,h⟩:=h
  have hlt:i < items.size:=by omega
  obtain ⟨a,t,e1,f1⟩:=nO i hi (by rw [Bg];exact hlt)
  have hn:i < ns.length:=by omega
  have hi1:items[((i:Nat):Int).toNat]? = some (.int a t):=by
   rw [show ((i:Nat):Int).toNat = i by simp,← CO];exact e1
  have dn:ns.drop i = a :: ns.drop (i + 1):=by
   rw [Df hn]
   rw [AB hn] at f1
   rw [Aw f1]
  rw [dn] at h
  wp_walk using Bl hl,Bl hb
  rw [hi1]
  by_cases q:i < items2.size
  ·obtain ⟨c,u,e2,f2⟩:=nO i hj (by rw [Bg];exact q)
   have hm:i < ms.length:=by omega
   have hi2:items2[((i:Nat):Int).toNat]? = some (.int c u):=by
    rw [show ((i:Nat):Int).toNat = i by simp,← CO];exact e2
   have dm:ms.drop i = c :: ms.drop (i + 1):=by
    rw [Df hm]
    rw [AB hm] at f2
    rw [Aw f2]
   rw [dm,lexLt_cons] at h
   rw [hi2]
   obtain ⟨e,he,hiff⟩:=aNR A.in1 ⟨hp,g,d,tk,os⟩ a t c u
   have hc:((i:Int) + 1) = ((i + 1:Nat):Int):=by push_cast;rfl
   refine AD (he prog w _ _ ?_)
   cases e with
   | true =>
    rw [if_pos (hiff.mp rfl)] at h
    wp_walk
    rw [hc]
    exact ⟨Cd plain_eq_loop _,CJ entry_eq_loop (by
     rw [Bu plain_eq_loop _]
     exact ih (i + 1) (by omega) prog w A R _ ⟨hl,hb,by omega,by omega,h⟩)⟩
   | false =>
    rw [if_neg (fun z=>absurd (hiff.mpr z) AV)] at h
    have hri:=aLW A.in1 ⟨hp,g,d,tk,os⟩ a t c u prog w
    wp_walk using Bl hl,Bl hb
    rw [hi1,hi2]
    wp_walk using hri
    exact h
  ·have hi2:items2[((i:Nat):Int).toNat]? = none:=by simp;omega
   rw [hi2]
   wp_walk using Bl hl,Bl hb
   show R (.ok (.ret (.bool (decide (items.size < items2.size))))) _
   rw [DE (as:=ms) (by omega),wA] at h
   rw [decide_eq_false (by omega)]
   exact h
theorem aBD (l b:Addr) (items items2:Array Value) (n n2:Nat) (dd dd2:Option Addr) (sl sl2:Array (Option Value)) (ns ms:List Int) (hi:IntsAre items.toList ns) (hj:IntsAre items2.toList ms) :
  Meets (Builtin.«list.__lt__» ⟨[.ref l,.ref b],[]⟩)
   (fun A R s=>s.heap.get? l = some { cls:=.type "list",dict:=dd,data:=.seq items n,slots:=sl } ∧ s.heap.get? b = some { cls:=.type "list",dict:=dd2,data:=.seq items2 n2,slots:=sl2 } ∧
    R (.ok (.ret (.bool (lexLt ns ms)))) s):=by
 intro prog w A R s h
 obtain ⟨hp,g,d,tk,os⟩:=s;obtain ⟨hl,hb,h⟩:=h
 have f3:=AutoSeq1.sub_list_list
 wp_walk using Bl hl,Bl hb
 exact ⟨Cd plain_eq_loop _,CJ entry_eq_loop (by
  rw [Bu plain_eq_loop _]
  exact aBC l b items items2 n n2 dd dd2 sl sl2 ns ms hi hj _ 0 rfl prog w A R _ ⟨hl,hb,BT _,BT _,by simpa using h⟩)⟩
end
section
variable {prog:Program} {w:World} {A:Around} {E:Value → Shared → Prop} {s:Shared}
theorem lt_listInts {l b:Addr} {items items2:Array Value} {ns ms:List Int} {Q:Value → Shared → Prop} (hl:s.heap.IsList l items) (hb:s.heap.IsList b items2) (hi:IntsAre items.toList ns) (hj:IntsAre items2.toList ms)
  (hu:A.units < cLine) (h:Q (.bool (lexLt ns ms)) s):wpAny (model prog w) A (BW .Lt (.ref l) (.ref b)) Q E s:=by
 obtain ⟨⟨cls,dd,data,sl⟩,ho,hc,n,hd⟩:=id hl
 obtain ⟨⟨cls2,dd2,data2,sl2⟩,ho2,hc2,n2,hd2⟩:=id hb
 simp only at hc hd hc2 hd2
 subst hc hd hc2 hd2
 exact richCompare_meets_room (op:=.Lt) ⟨_,ho,rfl⟩ ⟨_,ho2,rfl⟩ PySem.F.slot_list_lt PySem.F.entry_list_lt (PySem.F.args_list_lt_2 _ _) (aBD l b items items2 n n2 dd dd2 sl sl2 ns ms hi hj)
  ⟨ho,ho2,show EX (lexLt ns ms) ≠ Value.notImplemented ∧ Q (.bool (lexLt ns ms)) s from ⟨(fun x=>nomatch x),h⟩⟩ hu
end
end HT
namespace L2
open PySem PySem.Spec PyProof.Rows PySem.W
def aHV (n:Nat) (lt:Nat → Nat → Bool) {α:Type}:KasT α → Option α
 | .ret a=>some a
 | .ask i j k=>if i < n ∧ j < n then aHV n lt (k (lt i j)) else none
theorem aBS {α:Type} {n:Nat} {lt:Nat → Nat → Bool} {cmp:Nat → Nat → (Bool → Shared → Prop) → Shared → Prop} {s:Shared} (hc:∀ (i j:Nat) (C:Bool → Shared → Prop),i < n → j < n → C (lt i j) s → cmp i j C s) :
  ∀ (t:KasT α) (a:α) (G:α → Shared → Prop),aHV n lt t = some a → G a s → t.kasWp cmp G s
 | .ret b,a,G,e,g=>by
  have e:b = a:=Aw e
  subst e
  exact g
 | .ask i j k,a,G,e,g=>by
  unfold aHV at e
  split at e
  ·rename_i h
   exact hc i j _ h.1 h.2 (aBS hc (k (lt i j)) a G e g)
  ·cases e
def lU (ns ms:List Int):Bool:=if ns.length = ms.length then HT.lexLt ns ms else decide (ns.length < ms.length)
def yE (nss:List (List Int)):Option (Array Nat):=aHV nss.length (fun i j=>lU (nss.getD i []) (nss.getD j [])) (kas_sort nss.length)
def fO:Nat → List (List Int)
 | 0=>[[]]
 | k + 1=>fO k ++ (fO k).map (· ++ [(k:Int)])
def aCS:Nat → List Nat
 | 1=>[0,1]
 | 2=>[0,1,2,3]
 | 3=>[0,1,2,4,3,5,6,7]
 | _=>[0,1,2,4,8,3,5,9,6,10,12,7,11,13,14,15]
theorem aPD:yE (fO 1) = some (aCS 1).toArray:=by decide +kernel
theorem aPC:yE (fO 2) = some (aCS 2).toArray:=by decide +kernel
theorem aPB:yE (fO 3) = some (aCS 3).toArray:=by decide +kernel
theorem aPA:yE (fO 4) = some (aCS 4).toArray:=by decide +kernel
end L2
namespace L2
open PySem PySem.Spec PyProof.Rows PySem.W
section
variable {X:Cx} {pins:List (Addr × Obj)} {σ:List (Option V)} {H:Hp} {s:Shared}
structure Ours (X:Cx) (H:Hp) (b:Addr):Prop where
 nt:H b = none
 loc:b ≠ X.env.locals
 nfs:b ∉ X.fs
 ab:X.s₀.heap.objs.size ≤ b
 ncl:∀ x c,X.env.cells.lookup x = some c → c ≠ b
 npn:∀ p ∈ X.pn,p.1 ≠ b
theorem Ours.new (I:Inv X pins σ H s) {b:Addr} (h:s.heap.objs.size ≤ b):Ours X H b:=by
 refine ⟨I.hok.fresh h,Ne.symm (Ah (Ae I.lt h)),I.nofs h,BI I.sz h,fun x c e z=>?_,fun p hp z=>?_⟩
 ·obtain ⟨v,o,ho,_⟩:=I.cell x c e
  exact absurd (AZ ho) (by rw [z];exact Nat.not_lt.mpr h)
 ·have ho:=(I.pin p (Bh _ hp)).1
  exact absurd (AZ ho) (by rw [z];exact Nat.not_lt.mpr h)
theorem Inv.pinAdd {b:Addr} {o:Obj} (I:Inv X pins σ H s) (e:s.heap.get? b = some o) (O:Ours X H b) (nc:∀ v,o.data ≠ .cell v):Inv X ((b,o) :: pins) σ H s :=
 I.pins_of fun p hp=>by
  rcases Af.mp hp with rfl | hp
  ·exact ⟨e,O.nt,O.loc,O.nfs,nc⟩
  ·exact I.pin p (An _ hp)
theorem Inv.pinDrop {q:Addr × Obj} (I:Inv X (q :: pins) σ H s):Inv X pins σ H s:=I.pins_of fun p hp=>I.pin p (An _ (AO _ hp))
theorem Inv.pinAt {b:Addr} {o:Obj} (I:Inv X ((b,o) :: pins) σ H s):s.heap.get? b = some o ∧ H b = none:=let x:=I.pin (b,o) (An _ AU);⟨x.1,x.2.1⟩
theorem Inv.turn {t':Nat} {h':Heap} {b:Addr} {o o':Obj} (I:Inv X ((b,o) :: pins) σ H s) (O:Ours X H b) (hp:∀ p ∈ pins,p.1 ≠ b) (k:∀ d u,d ≠ b → s.heap.get? d = some u → h'.get? d = some u) (e:h'.get? b = some o') (nc:∀ v,o'.data ≠ .cell v) :
  Inv X ((b,o') :: pins) σ H { s with heap:=h',toks:=t' } :=
 Inv.pinAdd (I.pinDrop.turned (h':=h') (t':=t') k O.nt O.loc (.inr O.ab) O.ncl fun p z=>by
  rcases Au.mp z with z | z
  ·exact O.npn p z
  ·exact hp p z) e O nc
theorem Inv.track {b:Addr} {o:Obj} {u:HO} (I:Inv X ((b,o) :: pins) σ H s) (O:Ours X H b) (hp:∀ p ∈ pins,p.1 ≠ b) (new:bW X.prog X.w (upd H b u) s.heap b u):Inv X pins σ (upd H b u) s:=by
 have I0:=I.pinDrop
 have nb:∀ c v,H c = some v → c ≠ b:=fun c v e=>aY e O.nt
 have hch:∀ c ∈ [b],(c ∈ X.ex ∨ X.s₀.heap.objs.size ≤ c) ∧ c ≠ X.env.locals ∧ (∀ x d,X.env.cells.lookup x = some d → d ≠ c) ∧ ∀ p ∈ X.pn ++ pins,p.1 ≠ c:=fun c hc=>by
  have e:c = b:=by simpa using hc
  subst e
  exact ⟨.inr O.ab,O.loc,O.ncl,fun p z=>(Au.mp z).elim (O.npn p) (hp p)⟩
 have:=I0.step (h':=s.heap) (H':=upd H b u) (g':=s.gens) (t':=s.toks) (d':=s.drawn) (ch:=[b]) hch (fun c o _ _ _ e _=>e) (fun c o _ _ _ e _=>⟨o.slots,e⟩) (fun c o hc e n=>by rw [aK (by simpa using hc)];exact n)
  (fun c o _ e=>⟨o,e⟩) (fun c xs e=>by rw [aK (nb c _ e)];exact e) (fun c o v e=>by rw [aK (nb c _ e)];exact e) (fun c ps e=>⟨#[],by rw [aK (nb c _ e),e];simp⟩) (fun m hm=>hm) (fun c v e=>?_) I.bare
 ·exact this
 ·by_cases hc:c = b
  ·subst hc;rw [aF] at e;cases e;exact new
  ·rw [aK hc] at e
   exact (I.hok c v e).stay (fun d w _ q=>q) (fun d q=>by rw [aK (nb d _ q)];exact q) fun d xs q=>by rw [aK (nb d _ q)];exact q
end
end L2
namespace L2
open PySem PySem.Spec PyProof.Rows PySem.W
theorem qS:∀ ns:List Int,HT.lexLt ns ns = false
 | []=>rfl
 | n :: ns=>by rw [HT.lexLt_cons,if_pos rfl];exact qS ns
theorem zC:∀ ns ms:List Int,uC (ns.map Dv.int) (ms.map Dv.int) = decide (ns = ms)
 | [],[]=>rfl
 | [],_ :: _=>rfl
 | _ :: _,[]=>rfl
 | n :: ns,m :: ms=>by
  show (deq (.int n) (.int m) && uC (ns.map Dv.int) (ms.map Dv.int)) = _
  rw [zC ns ms]
  show (decide (n = m) && decide (ns = ms)) = _
  by_cases h1:n = m <;> by_cases h2:ns = ms <;> simp [h1,h2]
theorem qT {H:Hp}:∀ ns:List Int,IsL H (ns.map Dv.int) (ns.map V.int)
 | []=>rfl
 | n :: ns=>⟨.int n,_,rfl,rfl,qT ns⟩
theorem sE:∀ ns:List Int,cM 1 (ns.map Dv.int) = true
 | []=>rfl
 | n :: ns=>by
  show (bD 1 (.int n) && cM 1 (ns.map Dv.int)) = true
  rw [sE ns]
  rfl
theorem rZ:∀ {ns:List Int} {vs:List Value},bK (ns.map V.int) vs → IntsAre vs.toArray.toList ns
 | [],_,.nil=>.nil
 | n :: ns,_,.cons ⟨t,rfl⟩ r=>.cons n t (rZ r)
section
variable {X:Cx} {pins:List (Addr × Obj)} {σ:List (Option V)} {H:Hp} {s:Shared}
theorem aTH (I:Inv X pins σ H s) {A:Around} (hu:A.units + 8 < cLine) {t u a b:Addr} {ns ms:List Int} (et:H t = some (.tup [.int ns.length,.ref a])) (eu:H u = some (.tup [.int ms.length,.ref b]))
  (ea:H a = some (.lst (ns.map V.int))) (eb:H b = some (.lst (ms.map V.int))) {Q:Bool → Shared → Prop} {E:Value → Shared → Prop} (q:Q (lU ns ms) s) :
  wpAny (model X.prog X.w) A (keyLt' (tuples' true) (.ref t) (.ref u)) Q E s:=by
 obtain ⟨i1,r1,⟨o1,g1,c1,n1,d1⟩,_⟩:=I.tuple (SqT.of et)
 obtain ⟨i2,r2,⟨o2,g2,c2,n2,d2⟩,_⟩:=I.tuple (SqT.of eu)
 cases r1 with
 | cons x1 y1 =>
 cases y1 with
 | cons x1' y1 =>
 cases y1
 cases r2 with
 | cons x2 y2 =>
 cases y2 with
 | cons x2' y2 =>
 cases y2
 obtain ⟨t1,rfl⟩:=x1
 obtain ⟨t2,rfl⟩:=x2
 cases x1'
 cases x2'
 refine kat_lt g1 d1 g2 d2 ?_
 refine kat_cons (wpAny_eqBool_int ?_)
 by_cases hl:ns.length = ms.length
 ·have e1:((ns.length:Int) == (ms.length:Int)) = true:=by simp [hl]
  rw [e1]
  refine kat_yes (kat_cons ?_)
  refine Is.eqAt I 2 (.lst (ns.map Dv.int)) (.lst (ms.map Dv.int)) (.ref a) (.ref b) (.ref a) (.ref b) A (by omega) (sE ns) (sE ms) ⟨a,_,rfl,ea,qT ns⟩ ⟨b,_,rfl,eb,qT ms⟩ rfl rfl X.prog X.w _ _ ?_
  have e2:deq (.lst (ns.map Dv.int)) (.lst (ms.map Dv.int)) = decide (ns = ms):=zC ns ms
  rw [e2]
  by_cases hm:ns = ms
  ·rw [decide_eq_true hm]
   refine kat_yes (kat_nil ?_)
   subst hm
   have e3:lU ns ns = false:=by unfold lU;rw [if_pos rfl,qS]
   rw [e3] at q
   exact q
  ·rw [decide_eq_false hm]
   refine kat_no ?_
   show wpAny _ _ (oneLt' false (.ref a) (.ref b)) _ _ _
   obtain ⟨j1,v1,p1,_⟩:=I.list (SqL.of ea)
   obtain ⟨j2,v2,p2,_⟩:=I.list (SqL.of eb)
   refine kat_one _ _ (HT.lt_listInts p1.isList p2.isList (rZ v1) (rZ v2) (by omega) ?_)
   have e3:lU ns ms = HT.lexLt ns ms:=by unfold lU;rw [if_pos hl]
   rw [e3] at q
   exact q
 ·have e1:((ns.length:Int) == (ms.length:Int)) = false:=by simp;omega
  rw [e1]
  refine kat_no ?_
  show wpAny _ _ (oneLt' true (.int ns.length t1) (.int ms.length t2)) _ _ _
  refine oneLt_int ?_
  have e3:lU ns ms = decide ((ns.length:Int) < (ms.length:Int)):=by
   unfold lU
   rw [if_neg hl]
   by_cases h:ns.length < ms.length
   ·rw [decide_eq_true h,decide_eq_true (by omega)]
   ·rw [decide_eq_false h,decide_eq_false (by omega)]
  rw [e3] at q
  exact q
end
end L2
namespace L2
open PySem PySem.Spec PyProof.Rows PySem.W
def aRA (X:Cx) (σ:List (Option V)) (A:Around) (f:Addr) (P0:Hp → Prop):Prop:=∀ (pins:List (Addr × Obj)) (s:Shared) (H:Hp) (a:Addr) (ns:List Int),Inv X pins σ H s → P0 H → H a = some (.lst (ns.map V.int)) →
 wpAny (model X.prog X.w) A (call (.ref f) [.ref a]) (fun u s'=>∃ t H',Inv X pins σ H' s' ∧ u = .ref t ∧ aI H H' ∧ H' t = some (.tup [.int ns.length,.ref a])) (fun _ _=>False) s
abbrev jY (H:Hp) (ps:List (Addr × List Int)):Prop:=∀ p ∈ ps,H p.1 = some (.lst (p.2.map V.int))
theorem jY.same {H H':Hp} {ps:List (Addr × List Int)} (S:aI H H') (h:jY H ps):jY H' ps:=fun p m=>S _ _ (h p m)
def eL (H:Hp):List Value → List (Addr × List Int) → Prop
 | [],[]=>True
 | k :: ks,p :: ps=>(∃ t,k = .ref t ∧ H t = some (.tup [.int p.2.length,.ref p.1])) ∧ eL H ks ps
 | _,_=>False
theorem eL.same {H H':Hp} (S:aI H H'):∀ {ks:List Value} {ps:List (Addr × List Int)},eL H ks ps → eL H' ks ps
 | [],[],_=>trivial
 | [],_ :: _,h=>h
 | _ :: _,[],h=>h
 | _ :: _,_ :: _,⟨⟨t,e,g⟩,r⟩=>⟨⟨t,e,S _ _ g⟩,eL.same S r⟩
theorem eL.snoc {H:Hp} {p:Addr × List Int} {t:Addr} (g:H t = some (.tup [.int p.2.length,.ref p.1])):∀ {ks:List Value} {ps:List (Addr × List Int)},eL H ks ps → eL H (ks ++ [.ref t]) (ps ++ [p])
 | [],[],_=>⟨⟨t,rfl,g⟩,trivial⟩
 | [],_ :: _,h=>h.elim
 | _ :: _,[],h=>h.elim
 | _ :: _,_ :: _,⟨x,r⟩=>⟨x,eL.snoc g r⟩
theorem eL.length {H:Hp}:∀ {ks:List Value} {ps:List (Addr × List Int)},eL H ks ps → ks.length = ps.length
 | [],[],_=>rfl
 | [],_ :: _,h=>h.elim
 | _ :: _,[],h=>h.elim
 | _ :: _,_ :: _,⟨_,r⟩=>by rw [Ag,Ag,eL.length r]
theorem eL.get {H:Hp}:∀ {ks:List Value} {ps:List (Addr × List Int)} (i:Nat),eL H ks ps → i < ps.length → ∃ t p,ks.getD i Bm = .ref t ∧ ps[i]? = some p ∧ H t = some (.tup [.int p.2.length,.ref p.1])
 | [],[],_,_,h=>by simp at h
 | [],_ :: _,_,h,_=>h.elim
 | _ :: _,[],_,h,_=>h.elim
 | _ :: _,p :: _,0,⟨⟨t,e,g⟩,_⟩,_=>⟨t,p,by simpa using e,rfl,g⟩
 | _ :: ks,_ :: ps,i + 1,⟨_,r⟩,h=>by
  obtain ⟨t,p,e1,e2,e3⟩:=eL.get (ks:=ks) (ps:=ps) i r (by simpa using h)
  exact ⟨t,p,by simpa using e1,by simpa using e2,e3⟩
section
variable {X:Cx} {pins:List (Addr × Obj)} {σ:List (Option V)} {A:Around} {f kS:Addr} {P0:Hp → Prop}
theorem oN {cl:Value} {xs:Array Value} {n:Nat}:∀ v,({ cls:=cl,data:=.seq xs n }:Obj).data ≠ .cell v:=fun v h=>by cases h
theorem yU {H:Hp} {s:Shared} (I:Inv X pins σ H s):∀ {ks:List Value} {ps:List (Addr × List Int)},eL H ks ps → ∃ fs:List Value,KatTups s.heap ks fs ∧ fs.length = ps.length ∧ ∀ v ∈ fs,∃ i t,v = .int i t
 | [],[],_=>⟨[],.nil,rfl,fun _ m=>nomatch m⟩
 | [],_ :: _,h=>h.elim
 | _ :: _,[],h=>h.elim
 | _ :: ks,p :: ps,⟨⟨t,e,g⟩,r⟩=>by
  subst e
  obtain ⟨fs,a,b,c⟩:=yU I r
  obtain ⟨i1,r1,⟨o1,g1,c1,n1,d1⟩,_⟩:=I.tuple (SqT.of g)
  cases r1 with
  | cons x1 y1 =>
  obtain ⟨t1,rfl⟩:=x1
  refine ⟨_ :: fs,.cons g1 c1 d1 rfl a,by rw [Ag,Ag,b],fun v m=>?_⟩
  rcases Af.mp m with rfl | m
  ·exact ⟨_,_,rfl⟩
  ·exact c v m
theorem yV (st0:∀ H H',aI H H' → P0 H → P0 H') (hk:aRA X σ A f P0) {n:Nat} (hn:n ≤ 1000) {body:Value → PUnit → Sem (ForInStep PUnit)} {E:Value → Shared → Prop}
  (hb:∀ (x:Value) (ks:List Value) (s:Shared) (C:Value → Shared → Prop),wpAny (model X.prog X.w) A (call (.ref f) [x]) (fun k s'=>wpAny (model X.prog X.w) A (Builtin.List.listUpdate (.ref kS) (·.push k)) (fun _ s''=>C k s'') (fun _ _=>False) s') (fun _ _=>False) s →
   wpAny (model X.prog X.w) A (body x ⟨⟩) (fun r s'=>r = .yield ⟨⟩ ∧ ∃ k,C k s') E s) :
  ∀ (r done:List (Addr × List Int)) (ks:List Value) (e:Nat) (H:Hp) (s:Shared),Inv X ((kS,seqObj "list" ks.toArray e) :: pins) σ H s → Ours X H kS → (∀ p ∈ pins,p.1 ≠ kS) → P0 H → jY H r → eL H ks done → done.length + r.length = n →
   wpAny (model X.prog X.w) A (forIn (r.map fun p=>Ap p.1) PUnit.unit body) (fun _ s'=>∃ (ks':List Value) (e':Nat) (H':Hp),Inv X ((kS,seqObj "list" ks'.toArray e') :: pins) σ H' s' ∧ aI H H' ∧ eL H' ks' (done ++ r)) E s
 | [],done,ks,e,H,s,I,O,hp,p0,it,kt,hl=>by
  rw [Ch,List.forIn_nil]
  exact AT ⟨ks,e,H,I,aI.refl _,by rw [Bz];exact kt⟩
 | p :: r,done,ks,e,H,s,I,O,hp,p0,it,kt,hl=>by
  rw [AY,DR]
  have hl':=kt.length
  rw [Ag] at hl
  refine AD (BL (hb (.ref p.1) ks s (fun k s'=>∃ (t:Addr) (e':Nat) (H':Hp),k = .ref t ∧ Inv X ((kS,seqObj "list" (ks ++ [k]).toArray e') :: pins) σ H' s' ∧ aI H H' ∧ H' t = some (.tup [.int p.2.length,.ref p.1])) ?_) (fun q s' hq=>?_) fun _ _ x=>x)
  ·refine BL (hk _ s H p.1 p.2 I p0 (it p AU)) (fun u s' hu=>?_) fun _ _ x=>x
   obtain ⟨t,H',I',rfl,S,g⟩:=hu
   have pa:=I'.pinAt
   refine Et pa.1 rfl ?_ (by rw [AS,Ca];omega) (BI (Dz (FC ..)) (by rw [AS,Ca];omega))
   have ea:(DD ks).push (.ref t) = DD (ks ++ [.ref t]):=by simp
   obtain ⟨c2,hc2⟩:∃ c2,(s'.heap.update kS (BQ (·.push (.ref t)))).get? kS = some (seqObj "list" (DD (ks ++ [.ref t])) c2):=⟨_,by rw [← ea];exact ES pa.1 (·.push (.ref t))⟩
   refine ⟨t,c2,H',rfl,?_,S,g⟩
   exact Inv.turn (t':=s'.toks) I' ⟨pa.2,O.loc,O.nfs,O.ab,O.ncl,O.npn⟩ hp (fun d u nd q=>by rw [Bf _ _ (Ne.symm nd)];exact q) hc2 oN
  ·obtain ⟨rfl,k,t,e',H',rfl,I',S,g⟩:=hq
   show wpAny (model X.prog X.w) A (forIn (r.map fun p=>Ap p.1) PUnit.unit body) _ E s'
   refine BL (yV st0 hk hn hb r (done ++ [p]) (ks ++ [.ref t]) e' H' s' I' ⟨I'.pinAt.2,O.loc,O.nfs,O.ab,O.ncl,O.npn⟩ hp (st0 _ _ S p0) (jY.same S fun q m=>it q (AO _ m)) ((kt.same S).snoc g) (by rw [Ai,CB];omega)) (fun _ s2 hz=>?_) fun _ _ x=>x
   obtain ⟨ks2,e2,H2,I2,S2,kt2⟩:=hz
   refine ⟨ks2,e2,H2,I2,S.trans S2,?_⟩
   rw [By] at kt2
   exact kt2
end
end L2
namespace L2
open PySem PySem.Spec PyProof.Rows PySem.W
section
variable {prog:Program} {w:World} {A:Around} {E:Value → Shared → Prop} {s:Shared}
def Rn (prog:Program) (w:World) (A:Around) (E:Value → Shared → Prop) (s:Shared) {α:Type} (m:StateT SortSt Sem α) (st:SortSt) (r:α) (st':SortSt):Prop :=
 ∀ Q:α × SortSt → Shared → Prop,Q (r,st') s → wpAny (model prog w) A (m.run st) Q E s
theorem bH {α:Type} {r:α} {st:SortSt}:Rn prog w A E s (pure r) st r st:=fun Q h=>AT h
theorem aM {α β:Type} {m:StateT SortSt Sem α} {f:α → StateT SortSt Sem β} {st st1 st2:SortSt} {a:α} {r:β} (h1:Rn prog w A E s m st a st1) (h2:Rn prog w A E s (f a) st1 r st2):Rn prog w A E s (m >>= f) st r st2 :=
 fun Q h=>AD (h1 _ (h2 Q h))
theorem kH {st:SortSt}:Rn prog w A E s get st st st:=fun Q h=>AT h
theorem aAM {x:String} {st:SortSt}:Rn prog w A E s (liftM (rule x)) st () st:=fun Q h=>AD (EK (AT h))
theorem eE {arr:Array Keyed} {i:Nat} {p:Keyed} {st:SortSt} (h:arr[i]? = some p):Rn prog w A E s (elem' arr i) st p st:=by
 show Rn prog w A E s (match arr[i]? with | some p=>pure p | none=>liftM (unsupported _)) st p st
 rw [h]
 exact bH
section
variable {α β:Type}
theorem lO {f:Nat → β → StateT SortSt Sem (ForInStep β)} {st st1:SortSt} {b b1:β} {x:Nat} {xs:List Nat} (h:Rn prog w A E s (f x b) st (.done b1) st1):Rn prog w A E s (forIn (x :: xs) b f) st b1 st1:=by
 rw [DR]
 exact aM h bH
theorem iT {f:Nat → β → StateT SortSt Sem (ForInStep β)} {st st1 st2:SortSt} {b b1 b2:β} {x:Nat} {xs:List Nat} (h:Rn prog w A E s (f x b) st (.yield b1) st1) (h2:Rn prog w A E s (forIn xs b1 f) st1 b2 st2):Rn prog w A E s (forIn (x :: xs) b f) st b2 st2:=by
 rw [DR]
 exact aM h h2
end
variable {κ:SortKind} {it:Array Keyed} {n:Nat} {lt:Nat → Nat → Bool}
structure As where
 p:Array Nat
 pend:Array (Nat × Nat × Nat)
 mg:Nat
def As.st (κ:SortKind) (it:Array Keyed) (a:As):SortSt:=SortSt.mk' κ (a.p.map (BR it)) a.pend a.mg none
def xG (prog:Program) (w:World) (A:Around) (s:Shared) (κ:SortKind) (it:Array Keyed) (n:Nat) (lt:Nat → Nat → Bool):Prop:=∀ i j (C:Bool → Shared → Prop),i < n → j < n → C (lt i j) s → kas_cmp prog w A κ it i j C s
theorem aCN (hk:xG prog w A s κ it n lt) {a:As} {i j:Nat} (hi:i < n) (hj:j < n):Rn prog w A E s (lt' (BR it i) (BR it j)) (a.st κ it) (some (lt i j)) (a.st κ it):=by
 intro Q h
 refine AD (AT ?_)
 refine AD (AD (Es (BL (hk i j (fun b s'=>b = lt i j ∧ s' = s) hi hj ⟨rfl,rfl⟩) (fun b s' hb=>?_) fun _ _ x=>x.elim)))
 obtain ⟨rfl,rfl⟩:=hb
 exact AT (AT h)
def ask (n:Nat) (lt:Nat → Nat → Bool) (p:Array Nat) (i j:Nat):Option Bool:=match p[i]?,p[j]? with
 | some x,some y=>if x < n ∧ y < n then some (lt x y) else none
 | _,_=>none
theorem aOI {p:Array Nat} {i j:Nat} {b:Bool} (h:ask n lt p i j = some b):∃ x y,p[i]? = some x ∧ p[j]? = some y ∧ x < n ∧ y < n ∧ b = lt x y:=by
 unfold ask at h
 split at h
 ·rename_i x y e1 e2
  split at h
  ·rename_i hh
   exact ⟨x,y,e1,e2,hh.1,hh.2,(Aw h).symm⟩
  ·cases h
 ·cases h
theorem gJ {p:Array Nat} {i x:Nat} (h:p[i]? = some x):(p.map (BR it))[i]? = some (BR it x):=by
 rw [Array.getElem?_map,h]
 rfl
theorem qF (hk:xG prog w A s κ it n lt) {a:As} {i j:Nat} {b:Bool} (h:ask n lt a.p i j = some b):Rn prog w A E s (ltAt' i j) (a.st κ it) (some b) (a.st κ it):=by
 obtain ⟨x,y,e1,e2,hx,hy,rfl⟩:=aOI h
 refine aM kH ?_
 refine aM (eE (gJ e1)) ?_
 refine aM (eE (gJ e2)) ?_
 exact aCN hk hx hy
def aQW (ak:Nat → Nat → Option Bool) (lo:Nat):Nat → Nat → Option Nat
 | 0,m=>some m
 | f + 1,m=>match ak (lo + m) (lo + m - 1) with
  | none=>none
  | some true=>some m
  | some false=>aQW ak lo f (m + 1)
def aKD (ak:Nat → Nat → Option Bool) (lo nrem:Nat):Option Nat:=match aQW ak lo (nrem - 1) 1 with
 | none=>none
 | some m=>if m = nrem then some m else if m > 1 then (if ak lo (lo + m - 1) = some true then some m else none) else none
theorem aCO (hk:xG prog w A s κ it n lt) {a:As} {lo nrem m:Nat} (h:aKD (ask n lt a.p) lo nrem = some m):Rn prog w A E s (countRun' lo nrem) (a.st κ it) (some m) (a.st κ it):=by
 unfold aKD at h
 split at h
 ·cases h
 ·rename_i k hk'
  refine aM (a:=(none,k)) (st1:=a.st κ it) ?_ ?_
  ·rw [BF]
   have gen:∀ (xs:List Nat) (m k:Nat),aQW (ask n lt a.p) lo xs.length m = some k → Rn prog w A E s (forIn xs ((none:Option (Option Nat)),m) fun x __s =>
     (ltAt' (lo + __s.snd) (lo + __s.snd - 1)) >>= fun __x=>match __x with
      | some smaller=>if smaller = true then pure (Dt (none,__s.snd)) else pure (Be (none,__s.snd + 1))
      | x=>pure (Dt (some none,__s.snd))) (a.st κ it) (none,k) (a.st κ it):=by
    intro xs
    induction xs with
    | nil=>intro m k e;cases e;exact bH
    | cons x xs ih =>
     intro m k e
     rw [Ag] at e
     unfold aQW at e
     split at e
     ·cases e
     ·rename_i eb
      cases e
      exact lO (aM (qF hk eb) bH)
     ·rename_i eb
      exact iT (aM (qF hk eb) bH) (ih _ _ e)
   exact gen _ _ _ (by rw [Eb,show [1:nrem].size = nrem - 1 by simp [CY]];exact hk')
  ·by_cases e:k = nrem
   ·rw [if_pos e] at h
    cases h
    show Rn prog w A E s (if (m == nrem) = true then pure (some m) else _) _ _ _
    rw [if_pos (by rw [e];exact beq_self_eq_true _)]
    exact bH
   ·rw [if_neg e] at h
    split at h
    ·rename_i k1
     split at h
     ·rename_i eb
      cases h
      show Rn prog w A E s (if (m == nrem) = true then pure (some m) else if m > 1 then _ else _) _ _ _
      rw [if_neg (by rw [beq_iff_eq];exact e),if_pos k1]
      exact aM (qF hk eb) bH
     ·cases h
    ·cases h
def mvT (p:Array Nat) (src dst:Nat):Array Nat:=(Al (src - dst)).foldl (fun a k=>a.swapIfInBounds (src - k) (src - k - 1)) p
theorem aPI {a:As} {src dst:Nat}:Rn prog w A E s (moveDown' src dst) (a.st κ it) PUnit.unit (As.st κ it { a with p:=mvT a.p src dst }):=by
 intro Q h
 refine AT ?_
 have e:=kas_swaps_map (BR it) (fun k=>src - k) (fun k=>src - k - 1) (Al (src - dst)) a.p
 unfold As.st mvT at h
 dsimp only at h
 rw [← e] at h
 exact h
def plT (ak:Nat → Nat → Option Bool) (lo k:Nat):Nat → Nat → Nat → Option Nat
 | 0,l,_=>some l
 | f + 1,l,r=>if l ≥ r then some l else match ak (lo + k) (lo + (l + r) / 2) with
  | none=>none
  | some true=>plT ak lo k f l ((l + r) / 2)
  | some false=>plT ak lo k f ((l + r) / 2 + 1) r
def aDZ (n:Nat) (lt:Nat → Nat → Bool) (lo:Nat):List Nat → Array Nat → Option (Array Nat)
 | [],p=>some p
 | k :: ks,p=>match plT (ask n lt p) lo k k 0 k with
  | none=>none
  | some l=>aDZ n lt lo ks (mvT p (lo + k) (lo + l))
theorem aLU (hk:xG prog w A s κ it n lt) {lo m ok:Nat} {a:As} {p':Array Nat} (h:aDZ n lt lo (Bo (max ok 1) (m - max ok 1)) a.p = some p'):Rn prog w A E s (binarySort' lo m ok) (a.st κ it) true (As.st κ it { a with p:=p' }):=by
 refine aM (a:=(none,())) (st1:=As.st κ it { a with p:=p' }) ?_ bH
 rw [BF,show [max ok 1:m].size = m - max ok 1 by simp [CY]]
 revert h
 show aDZ n lt lo (Bo (max ok 1) (m - max ok 1)) a.p = some p' → Rn prog w A E s (forIn (Bo (max ok 1) (m - max ok 1) 1) _ _) _ _ _
 generalize Bo (max ok 1) (m - max ok 1) 1 = ks
 intro h
 induction ks generalizing a with
 | nil=>cases h;exact bH
 | cons k ks ih =>
  unfold aDZ at h
  split at h
  ·cases h
  ·rename_i l el
   refine iT (b1:=(none,())) (st1:=As.st κ it { a with p:=mvT a.p (lo + k) (lo + l) }) ?_ (ih (a:={ a with p:=mvT a.p (lo + k) (lo + l) }) h)
   have gen:∀ (xs:List Nat) (l0 r0 l:Nat),plT (ask n lt a.p) lo k xs.length l0 r0 = some l → ∃ r,Rn prog w A E s (forIn xs ((none:Option Bool),l0,r0) fun x __s =>
     if __s.snd.fst ≥ __s.snd.snd then pure (Dt (none,__s.snd.fst,__s.snd.snd)) else (ltAt' (lo + k) (lo + (__s.snd.fst + __s.snd.snd) / 2)) >>= fun __x=>match __x with
      | some less=>if less = true then pure (Be (none,__s.snd.fst,(__s.snd.fst + __s.snd.snd) / 2)) else pure (Be (none,(__s.snd.fst + __s.snd.snd) / 2 + 1,__s.snd.snd))
      | x=>pure (Dt (some false,__s.snd.fst,__s.snd.snd))) (a.st κ it) (none,l,r) (a.st κ it):=by
    intro xs
    induction xs with
    | nil=>intro l0 r0 l e;cases e;exact ⟨r0,bH⟩
    | cons x xs ih =>
     intro l0 r0 l e
     rw [Ag] at e
     unfold plT at e
     split at e
     ·rename_i hle
      cases e
      refine ⟨r0,lO ?_⟩
      dsimp only
      rw [if_pos hle]
      exact bH
     ·rename_i hle
      split at e
      ·cases e
      ·rename_i eb
       obtain ⟨r,hr⟩:=ih _ _ _ e
       refine ⟨r,iT ?_ hr⟩
       dsimp only
       rw [if_neg hle]
       exact aM (qF hk eb) bH
      ·rename_i eb
       obtain ⟨r,hr⟩:=ih _ _ _ e
       refine ⟨r,iT ?_ hr⟩
       dsimp only
       rw [if_neg hle]
       exact aM (qF hk eb) bH
   obtain ⟨r,hr⟩:=gen (Bo 0 k) 0 k l (by rw [Eb];exact el)
   refine aM (a:=(none,l,r)) (st1:=a.st κ it) ?_ (aM aPI bH)
   rw [BF,show [:k].size = k by simp [CY]]
   exact hr
def mD {γ:Type} (g:γ → Option (Bool × γ)):Nat → γ → Option γ
 | 0,c=>some c
 | f + 1,c=>match g c with
  | none=>none
  | some (true,c')=>some c'
  | some (false,c')=>mD g f c'
theorem aPJ {γ β:Type} (φ:γ → β) (g:γ → Option (Bool × γ)) {st:SortSt} {f:Nat → β → StateT SortSt Sem (ForInStep β)} (hd:∀ x c c',g c = some (true,c') → Rn prog w A E s (f x (φ c)) st (.done (φ c')) st) (hy:∀ x c c',g c = some (false,c') → Rn prog w A E s (f x (φ c)) st (.yield (φ c')) st) :
  ∀ (xs:List Nat) (c c':γ),mD g xs.length c = some c' → Rn prog w A E s (forIn xs (φ c) f) st (φ c') st:=by
 intro xs
 induction xs with
 | nil=>intro c c' e;cases e;exact bH
 | cons x xs ih =>
  intro c c' e
  rw [Ag] at e
  unfold mD at e
  split at e
  ·cases e
  ·rename_i eb
   cases e
   exact lO (hd _ _ _ eb)
  ·rename_i eb
   exact iT (hy _ _ _ eb) (ih _ _ e)
theorem vF {γ β:Type} (φ:γ → β) (g:γ → Option (Bool × γ)) {st:SortSt} {f:Nat → β → StateT SortSt Sem (ForInStep β)} {m:Nat} {c c':γ} (h:mD g m c = some c') (hd:∀ x c c',g c = some (true,c') → Rn prog w A E s (f x (φ c)) st (.done (φ c')) st) (hy:∀ x c c',g c = some (false,c') → Rn prog w A E s (f x (φ c)) st (.yield (φ c')) st) :
  Rn prog w A E s (forIn [:m] (φ c) f) st (φ c') st:=by
 rw [BF,show [:m].size = m by simp [CY]]
 exact aPJ φ g hd hy _ _ _ (by rw [Eb];exact h)
def aMO (bt:Nat → Option Bool) (pos:Nat → Nat) (c:Bool → Bool) (maxofs:Nat) (x:Nat × Nat):Option (Bool × Nat × Nat):=if x.2 ≥ maxofs then some (true,x) else match bt (pos x.2) with
 | none=>none
 | some m=>if c m = true then some (true,x) else some (false,x.2,2 * x.2 + 1)
def bsG (bt:Nat → Option Bool) (x:Nat × Nat):Option (Bool × Nat × Nat):=if x.1 ≥ x.2 then some (true,x) else match bt (x.1 + (x.2 - x.1) / 2) with
 | none=>none
 | some m=>if m = true then some (false,x.1 + (x.2 - x.1) / 2 + 1,x.2) else some (false,x.1,x.1 + (x.2 - x.1) / 2)
def aTR (bt:Nat → Option Bool) (m hint:Nat):Option Nat:=if bt hint = some true then
  match mD (aMO bt (fun o=>hint + o) (fun b=>!b) (m - hint)) m (0,1) with
  | none=>none
  | some x=>(mD (bsG bt) m (hint + x.1 + 1,hint + min x.2 (m - hint))).map (·.2)
 else none
def aTS (bt:Nat → Option Bool) (m hint:Nat):Option Nat:=if bt hint = some false then
  match mD (aMO bt (fun o=>hint - o) (fun b=>b) (hint + 1)) m (0,1) with
  | none=>none
  | some x=>(mD (bsG bt) m (hint + 1 - min x.2 (hint + 1),hint - x.1)).map (·.2)
 else none
def bfR (n:Nat) (lt:Nat → Nat → Bool) (p:Array Nat) (key base i:Nat):Option Bool:=match p[base + i]? with
 | some x=>if x < n ∧ key < n then some (!lt key x) else none
 | none=>none
def bfL (n:Nat) (lt:Nat → Nat → Bool) (p:Array Nat) (key base i:Nat):Option Bool:=match p[base + i]? with
 | some x=>if x < n ∧ key < n then some (lt x key) else none
 | none=>none
theorem aOG {p:Array Nat} {key base i:Nat} {b:Bool} (h:bfR n lt p key base i = some b):∃ x,p[base + i]? = some x ∧ x < n ∧ key < n ∧ b = !lt key x:=by
 unfold bfR at h
 split at h
 ·rename_i x e
  split at h
  ·rename_i hh
   exact ⟨x,e,hh.1,hh.2,(Aw h).symm⟩
  ·cases h
 ·cases h
theorem aOH {p:Array Nat} {key base i:Nat} {b:Bool} (h:bfL n lt p key base i = some b):∃ x,p[base + i]? = some x ∧ x < n ∧ key < n ∧ b = lt x key:=by
 unfold bfL at h
 split at h
 ·rename_i x e
  split at h
  ·rename_i hh
   exact ⟨x,e,hh.1,hh.2,(Aw h).symm⟩
  ·cases h
 ·cases h
structure Ml where
 res:Option (Array Nat)
 out:Array Nat
 ia:Nat
 ib:Nat
 ac:Nat
 bc:Nat
 deriving DecidableEq
def aQG (n:Nat) (lt:Nat → Nat → Bool) (a b:Array Nat) (mg:Nat) (c:Ml):Option (Bool × Ml):=match b[c.ib]?,a[c.ia]? with
 | some y,some x=>if y < n ∧ x < n then
   if lt y x = true then
    (if (c.ib + 1 == b.size) = true then some (true,⟨some (c.out.push y ++ a.extract c.ia ++ b.extract (c.ib + 1)),c.out.push y,c.ia,c.ib + 1,0,c.bc + 1⟩)
    else if c.bc + 1 ≥ mg then none else some (false,⟨none,c.out.push y,c.ia,c.ib + 1,0,c.bc + 1⟩))
   else
    (if (c.ia + 1 + 1 == a.size) = true then some (true,⟨some (c.out.push x ++ b.extract c.ib ++ a.extract (c.ia + 1)),c.out.push x,c.ia + 1,c.ib,c.ac + 1,0⟩)
    else if c.ac + 1 ≥ mg then none else some (false,⟨none,c.out.push x,c.ia + 1,c.ib,c.ac + 1,0⟩))
  else none
 | _,_=>none
def aPM (p:Array Nat) (sa:Nat) (q:Array Nat):Array Nat:=q.toList.zipIdx.foldl (fun a x=>a.setIfInBounds (sa + x.2) x.1) p
theorem aJX {α:Type} (x y z:α):(#[x,y].setIfInBounds 0 z).eraseIdxIfInBounds (0 + 1) = #[z]:=by
 apply Array.ext'
 simp [Array.eraseIdxIfInBounds,Array.setIfInBounds]
theorem aLS {bt:Nat → Option Bool} {bey:Nat → StateT SortSt Sem (Option Bool)} {pos:Nat → Nat} {c:Bool → Bool} {mo m:Nat} {st:SortSt} {x:Nat × Nat} {f:Nat → Option (Option Nat) × Nat × Nat → StateT SortSt Sem (ForInStep (Option (Option Nat) × Nat × Nat))} (hb:∀ i r,bt i = some r → Rn prog w A E s (bey i) st (some r) st) (h:mD (aMO bt pos c mo) m (0,1) = some x)
  (h1:∀ y z,z.2 ≥ mo → f y (none,z) = pure (.done (none,z))) (h2:∀ y z,¬ z.2 ≥ mo → ∃ k,f y (none,z) = bey (pos z.2) >>= k ∧ (∀ b,c b = true → k (some b) = pure (.done (none,z))) ∧ ∀ b,c b = false → k (some b) = pure (.yield (none,z.2,2 * z.2 + 1))):Rn prog w A E s (forIn [:m] (none,0,1) f) st (none,x) st:=by
 refine vF (fun c=>((none:Option (Option Nat)),c)) _ h (fun y z z' e=>?_) (fun y z z' e=>?_)
 ·unfold aMO at e
  split at e
  ·rename_i hg
   cases e
   rw [h1 y z hg]
   exact bH
  ·rename_i hg
   split at e
   ·cases e
   ·rename_i b eb
    obtain ⟨k,e1,e2,e3⟩:=h2 y z hg
    split at e
    ·rename_i hc
     cases e
     rw [e1]
     exact aM (hb _ _ eb) (by rw [e2 b hc];exact bH)
    ·cases e
 ·unfold aMO at e
  split at e
  ·cases e
  ·rename_i hg
   split at e
   ·cases e
   ·rename_i b eb
    obtain ⟨k,e1,e2,e3⟩:=h2 y z hg
    split at e
    ·cases e
    ·rename_i hc
     cases e
     rw [e1]
     exact aM (hb _ _ eb) (by rw [e3 b (by simpa using hc)];exact bH)
theorem aRM {bt:Nat → Option Bool} {bey:Nat → StateT SortSt Sem (Option Bool)} {m:Nat} {st:SortSt} {x0 x:Nat × Nat} {f:Nat → Option (Option Nat) × Nat × Nat → StateT SortSt Sem (ForInStep (Option (Option Nat) × Nat × Nat))} (hb:∀ i r,bt i = some r → Rn prog w A E s (bey i) st (some r) st) (h:mD (bsG bt) m x0 = some x)
  (h1:∀ y z,z.1 ≥ z.2 → f y (none,z) = pure (.done (none,z))) (h2:∀ y z,¬ z.1 ≥ z.2 → ∃ k,f y (none,z) = bey (z.1 + (z.2 - z.1) / 2) >>= k ∧ k (some true) = pure (.yield (none,z.1 + (z.2 - z.1) / 2 + 1,z.2)) ∧ k (some false) = pure (.yield (none,z.1,z.1 + (z.2 - z.1) / 2))):Rn prog w A E s (forIn [:m] (none,x0) f) st (none,x) st:=by
 refine vF (fun c=>((none:Option (Option Nat)),c)) _ h (fun y z z' e=>?_) (fun y z z' e=>?_)
 ·unfold bsG at e
  split at e
  ·rename_i hg
   cases e
   rw [h1 y z hg]
   exact bH
  ·split at e
   ·cases e
   ·split at e <;> cases e
 ·unfold bsG at e
  split at e
  ·cases e
  ·rename_i hg
   split at e
   ·cases e
   ·rename_i b eb
    obtain ⟨k,e1,e2,e3⟩:=h2 y z hg
    cases b with
    | true =>
     cases e
     rw [e1]
     exact aM (hb _ _ eb) (by rw [e2];exact bH)
    | false =>
     cases e
     rw [e1]
     exact aM (hb _ _ eb) (by rw [e3];exact bH)
theorem aHA {α:Type} {m:StateT SortSt Sem α} {st st':SortSt} {r r':α} (h:Rn prog w A E s m st r st') (e:r = r'):Rn prog w A E s m st r' st':=e ▸ h
theorem yJ {α:Type} {c:Prop} [Decidable c] {m1 m2:StateT SortSt Sem α} {st st':SortSt} {r:α} (hc:¬ c) (h:Rn prog w A E s m2 st r st'):Rn prog w A E s (if c then m1 else m2) st r st':=by
 rw [if_neg hc]
 exact h
theorem aHC (sa:Nat):∀ (l:List (Nat × Nat)) (p:Array Nat),(l.map fun x=>(BR it x.1,x.2)).foldl (fun a x=>a.setIfInBounds (sa + x.2) x.1) (p.map (BR it)) = (l.foldl (fun a x=>a.setIfInBounds (sa + x.2) x.1) p).map (BR it)
 | [],p=>rfl
 | x :: l,p=>by
  rw [AY,FD,FD,← aHC sa l]
  congr 1
  simp
theorem aLT (hk:xG prog w A s κ it n lt) {a:As} {sa na pw sb nb q k nb' x1 x2 y0:Nat} {c:Ml} {res:Array Nat} (hp:a.pend = #[(sa,na,pw),(sb,nb,q)]) (e1:a.p[sb]? = some x1) (g1:aTR (bfR n lt a.p x1 sa) na 0 = some k) (n1:(na - k == 0) = false)
  (e2:a.p[sa + k + (na - k) - 1]? = some x2) (g2:aTS (bfL n lt a.p x2 sb) nb (nb - 1) = some nb') (n2:(nb' == 0) = false) (le:na - k ≤ nb') (e3:(a.p.extract sb (sb + nb'))[0]? = some y0) (z1:(1 == (a.p.extract sb (sb + nb')).size) = false) (z2:(0 + 1 == (a.p.extract (sa + k) sb).size) = false)
  (h:mD (aQG n lt (a.p.extract (sa + k) sb) (a.p.extract sb (sb + nb')) a.mg) ((a.p.extract (sa + k) sb).size + (a.p.extract sb (sb + nb')).size) ⟨none,#[y0],0,1,0,0⟩ = some c) (hr:c.res = some res) (h1:1 ≤ (a.p.extract (sa + k) sb).size + (a.p.extract sb (sb + nb')).size) :
  Rn prog w A E s (mergeAt' 0) (a.st κ it) true (As.st κ it ⟨aPM a.p (sa + k) res,#[(sa,na + nb,pw)],a.mg⟩):=by
 refine aM kH ?_
 have p0:(pendingOf (a.st κ it))[0]? = some (sa,na,pw):=by show a.pend[0]? = _;rw [hp];rfl
 have p1:(pendingOf (a.st κ it))[0 + 1]? = some (sb,nb,q):=by show a.pend[1]? = _;rw [hp];rfl
 show Rn prog w A E s (match ((pendingOf (a.st κ it))[0]?,(pendingOf (a.st κ it))[0 + 1]?) with | (some (sa,na,power),some (sb,nb,snd))=>_ | x=>_) _ _ _
 rw [p0,p1]
 dsimp only
 refine aM (a:=()) (st1:=As.st κ it ⟨a.p,#[(sa,na + nb,pw)],a.mg⟩) ?_ ?_
 ·have e:((pendingOf (a.st κ it)).setIfInBounds 0 (sa,na + nb,pw)).eraseIdxIfInBounds (0 + 1) = #[(sa,na + nb,pw)]:=by show (a.pend.setIfInBounds 0 _).eraseIdxIfInBounds _ = _;rw [hp];exact aJX _ _ _
  intro Q hQ
  refine AT ?_
  unfold As.st at hQ
  dsimp only at hQ
  rw [← e] at hQ
  exact hQ
 generalize hb:(⟨a.p,#[(sa,na + nb,pw)],a.mg⟩:As) = b
 have bR:∀ i r,bfR n lt a.p x1 sa i = some r → Rn prog w A E s (elem' (a.p.map (BR it)) (sa + i) >>= fun x=>lt' (BR it x1) x >>= fun y=>pure (Option.map (fun x=>!x) y)) (b.st κ it) (some r) (b.st κ it):=fun i r e=>by
  obtain ⟨x,ex,hx,hy,rfl⟩:=aOG e
  exact aM (eE (gJ ex)) (aM (aCN hk hy hx) bH)
 have bL:∀ i r,bfL n lt a.p x2 sb i = some r → Rn prog w A E s (elem' (a.p.map (BR it)) (sb + i) >>= fun x=>lt' x (BR it x2)) (b.st κ it) (some r) (b.st κ it):=fun i r e=>by
  obtain ⟨x,ex,hx,hy,rfl⟩:=aOH e
  exact aM (eE (gJ ex)) (aCN hk hx hy)
 refine aM (eE (gJ e1)) ?_
 refine aM (a:=some k) (st1:=b.st κ it) ?_ ?_
 ·unfold aTR at g1
  split at g1
  ·rename_i b0
   split at g1
   ·cases g1
   ·rename_i x hx
    obtain ⟨y,hy,ey⟩:=Aq.mp g1
    refine aM (bR 0 _ b0) ?_
    refine aM (a:=(none,x)) (st1:=b.st κ it) ?_ ?_
    ·exact aLS bR hx (fun _ z hz=>if_pos hz) (fun _ z hz=>⟨_,if_neg hz,fun b hb'=>if_pos hb',fun b hb'=>if_neg (by rw [hb'];exact AV)⟩)
    ·refine aM (a:=(none,y)) (st1:=b.st κ it) (aRM bR hy (fun _ z hz=>if_pos hz) (fun _ z hz=>⟨_,if_neg hz,rfl,rfl⟩)) ?_
     rw [← ey]
     exact bH
  ·cases g1
 show Rn prog w A E s (if (na - k == 0) = true then pure true else _) _ _ _
 rw [n1]
 refine aM (eE (gJ e2)) ?_
 refine aM (a:=some nb') (st1:=b.st κ it) ?_ ?_
 ·unfold aTS at g2
  split at g2
  ·rename_i b0
   split at g2
   ·cases g2
   ·rename_i x hx
    obtain ⟨y,hy,ey⟩:=Aq.mp g2
    refine aM (bL (nb - 1) _ b0) ?_
    refine aM (a:=(none,x)) (st1:=b.st κ it) ?_ ?_
    ·exact aLS bL hx (fun _ z hz=>if_pos hz) (fun _ z hz=>⟨_,if_neg hz,fun b hb'=>if_pos hb',fun b hb'=>if_neg (by rw [hb'];exact AV)⟩)
    ·refine aM (a:=(none,y)) (st1:=b.st κ it) (aRM bL hy (fun _ z hz=>if_pos hz) (fun _ z hz=>⟨_,if_neg hz,rfl,rfl⟩)) ?_
     rw [← ey]
     exact bH
  ·cases g2
 show Rn prog w A E s (if (nb' == 0) = true then pure true else if na - k ≤ nb' then _ else _) _ _ _
 rw [n2,if_neg AV,if_pos le]
 have ex:∀ i j,(arrOf (a.st κ it)).extract i j = (a.p.extract i j).map (BR it):=fun i j=>by
  show (a.p.map (BR it)).extract i j = _
  simp
 rw [ex,ex]
 subst hb
 generalize a.p.extract (sa + k) sb = X at *
 generalize a.p.extract sb (sb + nb') = Y at *
 refine aM (a:=res.map (BR it)) (st1:=As.st κ it ⟨a.p,#[(sa,na + nb,pw)],a.mg⟩) ?_ ?_
 ·refine aM aAM ?_
  refine aM (eE (gJ e3)) ?_
  show Rn prog w A E s (if (1 == (Y.map (BR it)).size) = true then _ else if (0 + 1 == (X.map (BR it)).size) = true then _ else _) _ _ _
  rw [FI,FI,z1,z2,if_neg AV,if_neg AV]
  refine aM kH ?_
  rw [show #[BR it y0] = (#[y0]:Array Nat).map (BR it) by simp]
  refine aM (a:=(some (res.map (BR it)),c.out.map (BR it),c.ia,c.ib,a.mg)) (st1:=As.st κ it ⟨a.p,#[(sa,na + nb,pw)],a.mg⟩) ?_ bH
  rw [BF]
  obtain ⟨T,hT⟩:∃ T,[:X.size + Y.size].size = T + 1:=⟨X.size + Y.size - 1,by simp [CY];omega⟩
  rw [hT]
  refine lO (x:=0) (xs:=Bo 1 T) ?_
  refine aM (a:=(some (res.map (BR it)),c.out.map (BR it),c.ia,c.ib,c.ac,c.bc)) (st1:=As.st κ it ⟨a.p,#[(sa,na + nb,pw)],a.mg⟩) ?_ bH
  have ec:(some (res.map (BR it)),c.out.map (BR it),c.ia,c.ib,c.ac,c.bc) = ((fun c:Ml=>(c.res.map (Array.map (BR it)),c.out.map (BR it),c.ia,c.ib,c.ac,c.bc)) c):=by show _ = (c.res.map _,_);rw [hr];rfl
  rw [ec]
  refine vF (c:=⟨none,#[y0],0,1,0,0⟩) (fun c:Ml=>(c.res.map (Array.map (BR it)),c.out.map (BR it),c.ia,c.ib,c.ac,c.bc)) _ h (fun _ c c' e=>?_) (fun _ c c' e=>?_)
  ·unfold aQG at e
   split at e
   ·rename_i y x ey exx
    split at e
    ·rename_i hn
     refine aM (eE (gJ ey)) (aM (eE (gJ exx)) (aM (aCN hk hn.1 hn.2) ?_))
     cases hl:lt y x with
     | true =>
      rw [hl,if_pos rfl] at e
      refine aM (eE (gJ ey)) ?_
      split at e
      ·rename_i hz
       cases e
       dsimp only
       rw [if_pos hz]
       exact aHA bH (by simp)
      ·split at e <;> cases e
     | false =>
      rw [hl,if_neg AV] at e
      refine aM (eE (gJ exx)) ?_
      split at e
      ·rename_i hz
       cases e
       dsimp only
       rw [if_pos hz]
       exact aHA bH (by simp)
      ·split at e <;> cases e
    ·cases e
   ·cases e
  ·unfold aQG at e
   split at e
   ·rename_i y x ey exx
    split at e
    ·rename_i hn
     refine aM (eE (gJ ey)) (aM (eE (gJ exx)) (aM (aCN hk hn.1 hn.2) ?_))
     cases hl:lt y x with
     | true =>
      rw [hl,if_pos rfl] at e
      refine aM (eE (gJ ey)) ?_
      split at e
      ·cases e
      ·rename_i hz
       split at e
       ·cases e
       ·rename_i hm
        cases e
        dsimp only
        rw [if_neg hz]
        exact aHA (yJ hm bH) (by simp)
     | false =>
      rw [hl,if_neg AV] at e
      refine aM (eE (gJ exx)) ?_
      split at e
      ·cases e
      ·rename_i hz
       split at e
       ·cases e
       ·rename_i hm
        cases e
        dsimp only
        rw [if_neg hz]
        exact aHA (yJ hm bH) (by simp)
    ·cases e
   ·cases e
 ·refine aM (a:=()) (st1:=As.st κ it ⟨aPM a.p (sa + k) res,#[(sa,na + nb,pw)],a.mg⟩) ?_ (aM kH bH)
  intro Q hQ
  refine AT ?_
  have e:=aHC (it:=it) (sa + k) res.toList.zipIdx a.p
  unfold As.st aPM at hQ
  dsimp only at hQ
  rw [← e] at hQ
  have e':(res.map (BR it)).toList.zipIdx = res.toList.zipIdx.map fun x=>(BR it x.1,x.2):=by
   rw [Array.toList_map,List.zipIdx_map]
   rfl
  rw [e']
  exact hQ
end
end L2
namespace L2
open PySem PySem.Spec PyProof.Rows PySem.W
section
variable {prog:Program} {w:World} {A:Around} {E:Value → Shared → Prop} {s:Shared} {κ:SortKind} {it:Array Keyed} {n:Nat} {lt:Nat → Nat → Bool}
theorem aJA (hk:xG prog w A s κ it n lt) {p0 p1 p2 p3:Array Nat} {m1 m2:Nat} (z0:p0.size = 64) (c1:aKD (ask n lt p0) 0 64 = some m1) (l1:m1 < 32) (b1:aDZ n lt 0 (Bo (max m1 1) (32 - max m1 1)) p0 = some p1)
  (c2:aKD (ask n lt p1) 32 32 = some m2) (l2:m2 < 32) (b2:aDZ n lt 32 (Bo (max m2 1) (32 - max m2 1)) p1 = some p2)
  (mg:∀ pw,Rn prog w A E s (mergeAt' 0) (As.st κ it ⟨p2,#[(0,32,pw),(32,32,0)],7⟩) true (As.st κ it ⟨p3,#[(0,64,pw)],7⟩)):∃ pw,Rn prog w A E s sortRuns' (As.st κ it ⟨p0,#[],7⟩) () (As.st κ it ⟨p3,#[(0,64,pw)],7⟩):=by
 have hs:(arrOf (As.st κ it ⟨p0,#[],7⟩)).size = 64:=by show (p0.map (BR it)).size = 64;rw [FI,z0]
 have hm:minRun' 64 64 0 = 32:=by decide +kernel
 refine ⟨power' 64 (2 * 0 + 32) (2 * 0 + 32 + 32 + 32) 64,?_⟩
 rw [sortRuns'_eq]
 refine aM kH ?_
 dsimp only
 rw [hs]
 refine aM (a:=(none,64)) (st1:=As.st κ it ⟨p2,#[(0,32,power' 64 (2 * 0 + 32) (2 * 0 + 32 + 32 + 32) 64),(32,32,0)],7⟩) ?_ ?_
 ·rw [BF]
  refine iT (x:=0) (xs:=1 :: 2 :: Bo 3 61) (b1:=(none,32)) (st1:=As.st κ it ⟨p1,#[(0,32,0)],7⟩) ?_ (iT (x:=1) (xs:=2 :: Bo 3 61) (b1:=(none,64)) (st1:=As.st κ it ⟨p2,#[(0,32,power' 64 (2 * 0 + 32) (2 * 0 + 32 + 32 + 32) 64),(32,32,0)],7⟩) ?_ (lO (x:=2) (xs:=Bo 3 61) ?_))
  ·dsimp only
   rw [if_neg (by decide)]
   refine aM (aCO hk c1) ?_
   dsimp only
   rw [hm,if_pos l1,show min (64 - 0) 32 = 32 from rfl]
   refine aM aAM ?_
   refine aM (aLU hk (a:=⟨p0,#[],7⟩) b1) ?_
   refine aM kH ?_
   exact aM (a:=()) (st1:=As.st κ it ⟨p1,#[(0,32,0)],7⟩) (fun Q hQ=>AT hQ) bH
  ·dsimp only
   rw [if_neg (by decide)]
   refine aM (aCO hk (a:=⟨p1,#[(0,32,0)],7⟩) c2) ?_
   dsimp only
   rw [hm,if_pos l2,show min (64 - 32) 32 = 32 from rfl]
   refine aM aAM ?_
   refine aM (aLU hk (a:=⟨p1,#[(0,32,0)],7⟩) b2) ?_
   refine aM kH ?_
   refine aM (a:=(none,())) (st1:=As.st κ it ⟨p2,#[(0,32,0)],7⟩) ?_ ?_
   ·rw [BF]
    refine lO (x:=0) (xs:=Bo 1 63) ?_
    refine aM kH ?_
    exact bH
   ·refine aM (a:=()) (st1:=As.st κ it ⟨p2,#[(0,32,power' 64 (2 * 0 + 32) (2 * 0 + 32 + 32 + 32) 64)],7⟩) (fun Q hQ=>AT ?_) ?_
    ·rw [show (#[(0,32,0)]:Array (Nat × Nat × Nat)) = #[(0,32,0)] from rfl]
     exact hQ
    ·exact aM (a:=()) (st1:=As.st κ it ⟨p2,#[(0,32,power' 64 (2 * 0 + 32) (2 * 0 + 32 + 32 + 32) 64),(32,32,0)],7⟩) (fun Q hQ=>AT hQ) bH
  ·dsimp only
   rw [if_pos (by decide)]
   exact bH
 ·refine aM (a:=(none,())) (st1:=As.st κ it ⟨p3,#[(0,64,power' 64 (2 * 0 + 32) (2 * 0 + 32 + 32 + 32) 64)],7⟩) ?_ bH
  rw [BF]
  refine iT (x:=0) (xs:=1 :: Bo 2 62) (b1:=(none,())) (st1:=As.st κ it ⟨p3,#[(0,64,power' 64 (2 * 0 + 32) (2 * 0 + 32 + 32 + 32) 64)],7⟩) ?_ (lO (x:=1) (xs:=Bo 2 62) (aM kH bH))
  refine aM kH ?_
  exact aM (mg _) bH
end
end L2
namespace L2
open PySem PySem.Spec PyProof.Rows PySem.W
def kLt (nss:List (List Int)) (i j:Nat):Bool:=lU (nss.getD i []) (nss.getD j [])
def xF (nss:List (List Int)) (π:Array Nat):Prop:=∀ (prog:Program) (w:World) (A:Around) (E:Value → Shared → Prop) (s:Shared) (κ:SortKind) (ks vs:List Value),ks.length = nss.length → vs.length = nss.length →
 xG prog w A s κ (ks.toArray.zip vs.toArray) nss.length (kLt nss) → wpAny (model prog w) A (sortRuns'.run (SortSt.mk' κ (ks.toArray.zip vs.toArray) #[] 7 none)) (fun r s'=>s' = s ∧ arrOf r.2 = π.map (BR (ks.toArray.zip vs.toArray)) ∧ failedOf r.2 = none) E s
theorem kL {nss:List (List Int)} {π:Array Nat} (h:yE nss = some π) (h2:2 ≤ nss.length) (h64:nss.length < 64):xF nss π:=by
 intro prog w A E s κ ks vs l1 l2 hk
 refine kat_run (Q:=fun st' s'=>s' = s ∧ arrOf st' = π.map (BR (ks.toArray.zip vs.toArray)) ∧ failedOf st' = none) (G:=fun p s'=>p = π ∧ s' = s) (by rw [l1,l2]) (by rw [l2];exact h2) (by rw [l2];exact h64) (fun p st' s' a1 a2 a3 a4=>⟨a4.2,by rw [← a4.1];exact a2,a3⟩) ?_
 rw [l2,kat_ask_eq (l1.trans l2.symm)]
 exact aBS (n:=nss.length) (lt:=kLt nss) (fun i j C hi hj c=>hk i j C hi hj c) _ π (fun p s'=>p = π ∧ s' = s) h ⟨rfl,rfl⟩
structure Mrg (n:Nat) (lt:Nat → Nat → Bool) (p:Array Nat) where
 k:Nat
 nb:Nat
 x1:Nat
 x2:Nat
 y0:Nat
 c:Ml
 res:Array Nat
 e1:p[32]? = some x1
 g1:aTR (bfR n lt p x1 0) 32 0 = some k
 n1:(32 - k == 0) = false
 e2:p[0 + k + (32 - k) - 1]? = some x2
 g2:aTS (bfL n lt p x2 32) 32 (32 - 1) = some nb
 n2:(nb == 0) = false
 le:32 - k ≤ nb
 e3:(p.extract 32 (32 + nb))[0]? = some y0
 z1:(1 == (p.extract 32 (32 + nb)).size) = false
 z2:(0 + 1 == (p.extract (0 + k) 32).size) = false
 h:mD (aQG n lt (p.extract (0 + k) 32) (p.extract 32 (32 + nb)) 7) ((p.extract (0 + k) 32).size + (p.extract 32 (32 + nb)).size) ⟨none,#[y0],0,1,0,0⟩ = some c
 hr:c.res = some res
 h1:1 ≤ (p.extract (0 + k) 32).size + (p.extract 32 (32 + nb)).size
theorem aSG {nss:List (List Int)} {p1 p2 π:Array Nat} {m1 m2:Nat} (l64:nss.length = 64) (c1:aKD (ask 64 (kLt nss) (Al 64).toArray) 0 64 = some m1) (l1:m1 < 32) (b1:aDZ 64 (kLt nss) 0 (Bo (max m1 1) (32 - max m1 1)) (Al 64).toArray = some p1)
  (c2:aKD (ask 64 (kLt nss) p1) 32 32 = some m2) (l2:m2 < 32) (b2:aDZ 64 (kLt nss) 32 (Bo (max m2 1) (32 - max m2 1)) p1 = some p2) (M:Mrg 64 (kLt nss) p2) (hπ:aPM p2 (0 + M.k) M.res = π):xF nss π:=by
 intro prog w A E s κ ks vs e1 e2 hk
 rw [l64] at hk e1 e2
 have sz:(ks.toArray.zip vs.toArray).size = 64:=by rw [Array.size_zip,AS,AS,e1,e2];rfl
 have e0:=kas_range (ks.toArray.zip vs.toArray)
 obtain ⟨pw,hr⟩:=aJA (E:=E) hk (p0:=(Al 64).toArray) (p3:=π) (by simp) c1 l1 b1 c2 l2 b2 fun pw=>by
  rw [← hπ]
  exact aLT (a:=⟨p2,#[(0,32,pw),(32,32,0)],7⟩) hk rfl M.e1 M.g1 M.n1 M.e2 M.g2 M.n2 M.le M.e3 M.z1 M.z2 M.h M.hr M.h1
 have h0:=hr (fun r s'=>s' = s ∧ arrOf r.2 = π.map (BR (ks.toArray.zip vs.toArray)) ∧ failedOf r.2 = none) ⟨rfl,rfl,rfl⟩
 unfold As.st at h0
 dsimp only at h0
 rw [sz] at e0
 rw [e0] at h0
 exact h0
def pA:Array Nat:=#[0,1,2,4,8,16,3,5,9,17,6,10,18,12,20,24,7,11,19,13,21,25,14,22,26,28,15,23,27,29,30,31,32,33,34,35,36,37,38,39,40,41,42,43,44,45,46,47,48,49,50,51,52,53,54,55,56,57,58,59,60,61,62,63]
def pB:Array Nat:=#[0,1,2,4,8,16,3,5,9,17,6,10,18,12,20,24,7,11,19,13,21,25,14,22,26,28,15,23,27,29,30,31,32,33,34,36,40,48,35,37,41,49,38,42,50,44,52,56,39,43,51,45,53,57,46,54,58,60,47,55,59,61,62,63]
def pR:Array Nat:=#[32,3,5,9,17,33,6,10,18,34,12,20,36,24,40,48,7,11,19,35,13,21,37,25,41,49,14,22,38,26,42,50,28,44,52,56,15,23,39,27,43,51,29,45,53,57,30,46,54,58,60,31]
def pO:Array Nat:=#[32,3,5,9,17,33,6,10,18,34,12,20,36,24,40,48,7,11,19,35,13,21,37,25,41,49,14,22,38,26,42,50,28,44,52,56,15,23,39,27,43,51,29,45,53,57,30]
def aRO:List Nat:=[0,1,2,4,8,16,32,3,5,9,17,33,6,10,18,34,12,20,36,24,40,48,7,11,19,35,13,21,37,25,41,49,14,22,38,26,42,50,28,44,52,56,15,23,39,27,43,51,29,45,53,57,30,46,54,58,60,31,47,55,59,61,62,63]
def aWP:Mrg 64 (kLt (fO 6)) pB where
 k:=6
 nb:=26
 x1:=32
 x2:=31
 y0:=32
 c:=⟨some pR,pO,25,22,1,0⟩
 res:=pR
 e1:=by decide +kernel
 g1:=by decide +kernel
 n1:=by decide
 e2:=by decide +kernel
 g2:=by decide +kernel
 n2:=by decide
 le:=by decide
 e3:=by decide +kernel
 z1:=by decide +kernel
 z2:=by decide +kernel
 h:=by decide +kernel
 hr:=rfl
 h1:=by decide +kernel
theorem aWI:xF (fO 6) aRO.toArray:=aSG (m1:=4) (m2:=4) (p1:=pA) (p2:=pB) (by decide +kernel) (by decide +kernel) (by decide) (by decide +kernel) (by decide +kernel) (by decide) (by decide +kernel) aWP (by decide +kernel)
end L2
namespace L2
open PySem PySem.Spec PyProof.Rows PySem.W
theorem jW {α β:Type} (f:α → β) (d:β):∀ (l:List α) (i:Nat),(l.map f).getD i d = match l[i]? with | some a=>f a | none=>d
 | [],i=>by simp
 | a :: l,0=>rfl
 | a :: l,i + 1=>by simpa using jW f d l i
section
variable {X:Cx} {pins:List (Addr × Obj)} {σ:List (Option V)} {A:Around} {f:Addr} {P0:Hp → Prop}
theorem aMZ {M:Model} {h:Heap} {i:Int} {t:Tok}:Looks M h (typeOf (.int i t)) (.type "int"):=Looks.of_pure rfl
theorem aIK {π:List Nat} {ps:List (Addr × List Int)} (h:∀ i ∈ π,i < ps.length):bK (π.map fun i=>(ps.map fun p=>V.ref p.1).getD i .non) (π.map fun i=>(ps.map fun p=>Ap p.1).getD i Bm):=by
 induction π with
 | nil=>exact .nil
 | cons i π ih =>
  refine .cons ?_ (ih fun j m=>h j (AO _ m))
  have hi:=h i AU
  show bJ ((ps.map fun p=>V.ref p.1).getD i .non) ((ps.map fun p=>Ap p.1).getD i Bm)
  rw [jW,jW,AB hi]
  rfl
theorem aIR {D kS:Addr} {e e1:Nat} {ps:List (Addr × List Int)} {ks:List Value} {H:Hp} {s:Shared} {π:Array Nat} {Q:VK} {E:Value → Shared → Prop} (hu:A.units + 8 < cLine)
  (I:Inv X ((kS,seqObj "list" ks.toArray e) :: (D,seqObj "list" #[] e1) :: pins) σ H s) (OD:Ours X H D) (OS:Ours X H kS) (nDS:D ≠ kS) (hpD:∀ p ∈ pins,p.1 ≠ D) (hpS:∀ p ∈ pins,p.1 ≠ kS)
  (it:jY H ps) (kt:eL H ks ps) (h2:2 ≤ ps.length) (h64:ps.length ≤ 1000) (hπ:xF (ps.map (·.2)) π) (hb:∀ i ∈ π.toList,i < ps.length) (hs:π.size = ps.length)
  (q:∀ H',aI H H' → H D = none → H' D = some (.lst (π.toList.map fun i=>(ps.map fun p=>V.ref p.1).getD i .non)) → Q (.ref D) H') :
  wpAny (model X.prog X.w) A (ksk_end D false (ps.map fun p=>Ap p.1).toArray e1 (.ref kS) ks.toArray) (fun fin s'=>fin = .done (.ret .none) ∧ EP X pins σ Q (.ref D) s') E s:=by
 have hl:=kt.length
 have hn2:¬ (ps.map fun p=>Ap p.1).toArray.size < 2:=by rw [AS,AA];omega
 unfold ksk_end
 dsimp only
 rw [if_neg AV,if_neg AV,if_neg hn2,if_neg hn2]
 obtain ⟨fs,kf,lf,inf⟩:=yU I kt
 refine AD (kat_kind (T:=.type "int") kf (by omega) (fun v m=>by obtain ⟨i,t,rfl⟩:=inf v m;exact aMZ) (by decide) ?_)
 have hT:(Cf "int" != Cf "tuple") = true:=by decide
 rw [hT]
 refine AD (BL (hπ X.prog X.w A E s _ ks (ps.map fun p=>Ap p.1) (by rw [AA];exact hl) (by rw [AA,AA]) fun i j C hi hj c=>?_) (fun r s' hr=>?_) fun _ _ x=>x)
 ·rw [AA] at hi hj
  obtain ⟨t,p,k1,g1,e1'⟩:=kt.get i hi
  obtain ⟨u,p',k2,g2,e2'⟩:=kt.get j hj
  rw [← kat_ask_eq (by rw [AA];exact hl)]
  unfold kas_ask
  rw [k1,k2]
  refine aTH I hu e1' e2' (it p (AN g1)) (it p' (AN g2)) ?_
  unfold kLt at c
  rw [jW,jW,g1,g2] at c
  exact c
 ·obtain ⟨⟨⟩,st⟩:=r
  obtain ⟨hs1,har,hf⟩:=hr
  rw [hs1]
  dsimp only
  have hout:=kat_snds (ks:=ks) (vs:=ps.map fun p=>Ap p.1) (by rw [AA];exact hl) har
  unfold ksk_tail
  dsimp only
  rw [hout]
  have pS:=I.pinAt
  have pD:=I.pinDrop.pinAt
  refine AD (Et pS.1 rfl ?_ (by rw [AS,Ca];omega) (BT _))
  refine AD (wpAny_letGo ?_)
  have gD:(s.heap.update kS (BQ fun _=>(#[]:Array Value))).get? D = some (seqObj "list" #[] e1):=by rw [Bf _ _ (Ne.symm nDS)];exact pD.1
  refine AD (seqEpoch_at gD rfl ?_)
  have hz:(DD (π.toList.map fun i=>(ps.map fun p=>Ap p.1).getD i Bm)).size = ps.length:=by rw [AS,AA,Bg,hs]
  refine AD (Et gD rfl ?_ (BT _) (by rw [if_neg AV,hz,Ca];omega))
  rw [hf]
  simp only [bne_self_eq_false,Ed,if_false]
  refine AT ⟨rfl,?_⟩
  have I1:=I.pinDrop.pinDrop
  have I2:=Inv.pins_of (pins':=(D,seqObj "list" #[] e1) :: pins) I fun p hp=>I.pin p (An _ (AO _ hp))
  have I3:Inv X ((D,seqObj "list" #[] e1) :: pins) σ H { s with heap:=s.heap.update kS (BQ fun _=>(#[]:Array Value)),toks:=s.toks }:=by
   obtain ⟨cS,hcS⟩:∃ c2,(s.heap.update kS (BQ fun _=>(#[]:Array Value))).get? kS = some (seqObj "list" #[] c2):=⟨_,ES pS.1 fun _=>#[]⟩
   refine (Inv.turn (t':=s.toks) (o':=seqObj "list" #[] cS) I OS (fun p hp=>?_) (fun d u nd g=>by rw [Bf _ _ (Ne.symm nd)];exact g) hcS oN).pinDrop
   rcases Af.mp hp with rfl | hp
   ·exact nDS
   ·exact hpS p hp
  obtain ⟨c2,hc2⟩:∃ c2,((s.heap.update kS (BQ fun _=>(#[]:Array Value))).update D (BQ fun _=>DD (π.toList.map fun i=>(ps.map fun p=>Ap p.1).getD i Bm))).get? D = some (seqObj "list" (DD (π.toList.map fun i=>(ps.map fun p=>Ap p.1).getD i Bm)) c2):=⟨_,ES gD fun _=>_⟩
  have I4:=Inv.turn (t':=s.toks) (o':=seqObj "list" (DD (π.toList.map fun i=>(ps.map fun p=>Ap p.1).getD i Bm)) c2) I3 OD hpD (fun d u nd g=>by rw [Bf _ _ (Ne.symm nd)];exact g) hc2 oN
  have I5:=Inv.track (u:=.lst (π.toList.map fun i=>(ps.map fun p=>V.ref p.1).getD i .non)) I4 OD hpD ⟨by rw [AA,Bg,hs,Ca];omega,_,c2,aIK hb,hc2⟩
  exact ⟨.ref D,_,I5,rfl,q _ (fun b o e=>by rw [aK (aY e OD.nt)];exact e) OD.nt aF⟩
end
end L2
namespace L2
open PySem PySem.Spec PyProof.Rows PySem.W
section
variable {X:Cx} {pins:List (Addr × Obj)} {σ:List (Option V)} {A:Around} {f:Addr} {P0:Hp → Prop}
theorem aIS {D kS:Addr} {e1:Nat} {ps:List (Addr × List Int)} {H:Hp} {s:Shared} {π:Array Nat} {Q:VK} {E:Value → Shared → Prop} (hu:A.units + 8 < cLine) (st0:∀ H H',aI H H' → P0 H → P0 H') (hk:aRA X σ A f P0)
  (I:Inv X ((kS,seqObj "list" #[] 0) :: (D,seqObj "list" #[] e1) :: pins) σ H s) (OD:Ours X H D) (OS:Ours X H kS) (nDS:D ≠ kS) (hpD:∀ p ∈ pins,p.1 ≠ D) (hpS:∀ p ∈ pins,p.1 ≠ kS)
  (p0:P0 H) (it:jY H ps) (h2:2 ≤ ps.length) (h64:ps.length ≤ 1000) (hπ:xF (ps.map (·.2)) π) (hb:∀ i ∈ π.toList,i < ps.length) (hs:π.size = ps.length)
  (q:∀ H',aI H H' → H D = none → H' D = some (.lst (π.toList.map fun i=>(ps.map fun p=>V.ref p.1).getD i .non)) → Q (.ref D) H') :
  wpAny (model X.prog X.w) A (ksk_rest D (.ref f) false (ps.map fun p=>Ap p.1).toArray e1 (.ref kS)) (fun fin s'=>fin = .done (.ret .none) ∧ EP X pins σ Q (.ref D) s') E s:=by
 unfold ksk_rest
 refine AD (EK ?_)
 first
  | rw [List.forIn_toArray]
  | (rw [← Array.forIn_toList];simp only [List.toList_toArray])
  | rw [← Array.forIn_toList]
 refine AD (BL (yV (kS:=kS) (pins:=(D,seqObj "list" #[] e1) :: pins) st0 hk h64 (fun x ks s' C hx=>?_) ps [] [] 0 H s I OS (fun p hp=>?_) p0 it trivial (by simp)) (fun _ s' hd=>?_) fun _ _ x=>x)
 ·refine AD (Es (BL hx (fun k s'' hk=>?_) fun _ _ hF=>hF.elim))
  try dsimp only
  exact AD (BL hk (fun _ s3 h3=>AT ⟨rfl,k,h3⟩) fun _ _ z=>z.elim)
 ·rcases Af.mp hp with rfl | hp
  ·exact nDS
  ·exact hpS p hp
 ·obtain ⟨ks,e,H',I',S,kt⟩:=hd
  rw [EC] at kt
  try dsimp only
  refine AD (listItems_at I'.pinAt.1 rfl ?_)
  have pD:=I'.pinDrop.pinAt
  exact aIR hu I' ⟨pD.2,OD.loc,OD.nfs,OD.ab,OD.ncl,OD.npn⟩ ⟨I'.pinAt.2,OS.loc,OS.nfs,OS.ab,OS.ncl,OS.npn⟩ nDS hpD hpS (it.same S) kt h2 h64 hπ hb hs fun H2 S2 n2 e2=>q H2 (S.trans S2) OD.nt e2
theorem aCQ {H:Hp} {s:Shared} (I:Inv X pins σ H s) {b:Addr} (h:s.heap.objs.size ≤ b):∀ p ∈ pins,p.1 ≠ b:=fun p hp z=>by
 have ho:=(I.pin p (An _ hp)).1
 exact absurd (AZ ho) (by rw [z];exact Nat.not_lt.mpr h)
theorem aCF {l:Addr} {ps:List (Addr × List Int)} {H:Hp} {s:Shared} {π:Array Nat} {Q:VK} {E:Value → Shared → Prop} (hu:A.units + 16 < cLine) (st0:∀ H H',aI H H' → P0 H → P0 H') (hk:aRA X σ A.in1.in1 f P0)
  (I:Inv X pins σ H s) (sq:SqL X.K H l (ps.map fun p=>V.ref p.1)) (p0:P0 H) (it:jY H ps) (h2:2 ≤ ps.length) (h64:ps.length ≤ 1000) (hπ:xF (ps.map (·.2)) π) (hb:∀ i ∈ π.toList,i < ps.length) (hs:π.size = ps.length)
  (q:∀ (D:Addr) (H':Hp),aI H H' → H D = none → H' D = some (.lst (π.toList.map fun i=>(ps.map fun p=>V.ref p.1).getD i .non)) → Q (.ref D) H') :
  wpAny (model X.prog X.w) A (call (.builtin "sorted") [.ref l] [("key",.ref f)]) (EP X pins σ Q) E s:=by
 obtain ⟨its,rv,pl,hz⟩:=I.list sq
 have ei:its = ps.map fun p=>Ap p.1:=by
  clear sq hz pl hπ hb hs it p0 q h2 h64
  induction ps generalizing its with
  | nil=>cases rv;rfl
  | cons p ps ih =>
   cases rv with
   | cons a b =>
    cases a
    rw [AY,← ih _ b]
 subst ei
 have hlen:(ps.map fun p=>Ap p.1).length = ps.length:=AA ..
 refine call_function_entry_kw kind_sorted plain_sorted entry_sorted (ksk_s1 _ _) ?_
 unfold Builtin.«sorted»
 refine AD (m:=checkCount "sorted" 1 1 _) (AT ?_)
 refine AD (collect_list pl.isList ?_ (by rw [hlen,Ca];omega))
 refine AD (wpAny_newList ?_ (by rw [hlen,Ca];omega))
 generalize hvs:(ps.map fun p=>Ap p.1) = vs at *
 have hsz:((s.heap.push (seqObj "list" #[] 0)).update s.heap.objs.size (BQ (· ++ vs.toArray))).objs.size = s.heap.objs.size + 1:=by
  rw [Ew,size_push']
 have hoL:(((s.heap.push (seqObj "list" #[] 0)).update s.heap.objs.size (BQ (· ++ vs.toArray))).push (seqObj "list" vs.toArray 0)).get? (s.heap.objs.size + 1) = some (seqObj "list" vs.toArray 0):=by
  rw [← hsz];exact Ad _ rfl
 have keep:∀ b o,s.heap.get? b = some o → (((s.heap.push (seqObj "list" #[] 0)).update s.heap.objs.size (BQ (· ++ vs.toArray))).push (seqObj "list" vs.toArray 0)).get? b = some o:=fun b o q=>by
  have hlt:b < s.heap.objs.size:=AZ q
  rw [Heap.get?_push_ne _ _ _ (by rw [hsz];exact Ah (Dj hlt)),Heap.get?_update_ne _ _ _ _ (Ah hlt),Heap.get?_push_ne _ _ _ (Ah hlt)]
  exact q
 show wpAny _ _ _ _ _ { s with heap:=((s.heap.push (seqObj "list" #[] 0)).update s.heap.objs.size (BQ (· ++ vs.toArray))).push (seqObj "list" vs.toArray 0) }
 rw [hsz]
 have OD:Ours X H (s.heap.objs.size + 1):=Ours.new I (Cr _)
 have hpD:=aCQ I (Cr s.heap.objs.size)
 have I1:Inv X pins σ H { s with heap:=((s.heap.push (seqObj "list" #[] 0)).update s.heap.objs.size (BQ (· ++ vs.toArray))).push (seqObj "list" vs.toArray 0),toks:=s.toks }:=I.kept keep
 have hs2:(((s.heap.push (seqObj "list" #[] 0)).update s.heap.objs.size (BQ (· ++ vs.toArray))).push (seqObj "list" vs.toArray 0)).objs.size = s.heap.objs.size + 2:=by rw [size_push',hsz]
 generalize hh:((s.heap.push (seqObj "list" #[] 0)).update s.heap.objs.size (BQ (· ++ vs.toArray))).push (seqObj "list" vs.toArray 0) = h1 at *
 refine AD (CP (wpAny_call_entry_kw slot_list_sort ⟨_,hoL,rfl⟩ entry_list_sort ?_ (ksk_l1 _ _)))
 show wpAny (model X.prog X.w) A.in1.in1 (Builtin.«list.sort» ⟨[.ref (s.heap.objs.size + 1)],[(Str.ofString "key",.ref f)]⟩) _ _ _
 rw [ksk_t1]
 unfold ksk_tree
 have I2:=Inv.pinAdd I1 hoL OD oN
 refine AD (listItems_at hoL rfl ?_)
 refine AD (Et hoL rfl ?_ (by rw [AS,hlen,Ca];omega) (BT _))
 obtain ⟨e1,ho1⟩:∃ e1,(h1.update (s.heap.objs.size + 1) (BQ fun _=>(#[]:Array Value))).get? (s.heap.objs.size + 1) = some (seqObj "list" #[] e1):=⟨_,ES hoL fun _=>#[]⟩
 have I3:=Inv.turn (t':=s.toks) I2 OD hpD (fun d u nd q=>by rw [Bf _ _ (Ne.symm nd)];exact q) ho1 oN
 refine AD (seqEpoch_at ho1 rfl ?_)
 refine AD (wpAny_newTuple ?_ (by show vs.length ≤ _;rw [hlen,Ca];omega))
 refine AD (wpAny_newList ?_ (BT _))
 refine CP ?_
 have hs3:((h1.update (s.heap.objs.size + 1) (BQ fun _=>(#[]:Array Value))).push (seqObj "tuple" vs.toArray 0)).objs.size = s.heap.objs.size + 3:=by rw [size_push',Ew,hs2]
 have k4:∀ b o,(h1.update (s.heap.objs.size + 1) (BQ fun _=>(#[]:Array Value))).get? b = some o → (((h1.update (s.heap.objs.size + 1) (BQ fun _=>(#[]:Array Value))).push (seqObj "tuple" vs.toArray 0)).push (seqObj "list" #[] 0)).get? b = some o:=fun b o e=>AE _ (AE _ e)
 have I4:Inv X ((s.heap.objs.size + 1,seqObj "list" #[] e1) :: pins) σ H { s with heap:=((h1.update (s.heap.objs.size + 1) (BQ fun _=>(#[]:Array Value))).push (seqObj "tuple" vs.toArray 0)).push (seqObj "list" #[] 0),toks:=s.toks }:=I3.kept k4
 have gS:(((h1.update (s.heap.objs.size + 1) (BQ fun _=>(#[]:Array Value))).push (seqObj "tuple" vs.toArray 0)).push (seqObj "list" #[] 0)).get? (s.heap.objs.size + 3) = some (seqObj "list" #[] 0):=by
  rw [← hs3];exact Ad _ rfl
 have OS:Ours X H (s.heap.objs.size + 3):=Ours.new I (by omega)
 have I5:=Inv.pinAdd I4 gS OS oN
 rw [show ((h1.update (s.heap.objs.size + 1) (BQ fun _=>(#[]:Array Value))).push { cls:=.type "tuple",data:=.seq vs.toArray.toList.toArray }).objs.size = s.heap.objs.size + 3 from by rw [size_push',Ew,hs2]]
 rw [← hvs] at I5 ⊢
 refine BL (aIS (D:=s.heap.objs.size + 1) (kS:=s.heap.objs.size + 3) (by show A.units + 1 + 1 + 8 < cLine;omega) st0 hk I5 OD OS (Ah (Nat.add_lt_add_left (by decide) _)) hpD (aCQ I (Ez _ 3)) p0 it h2 h64 hπ hb hs (q _)) (fun fin s' hf=>?_) fun _ _ x=>x
 obtain ⟨rfl,ep⟩:=hf
 exact ⟨_,rfl,AT ⟨_,rfl,ep⟩⟩
end
end L2
namespace L2
open PySem PySem.Spec PyProof.Rows
section
variable {X:Cx}
end
end L2
namespace L2
open PySem PySem.Spec PyProof.Rows
theorem zN:BS "abs" = some (.builtin "abs"):=by decide +kernel
theorem aKG:BS "sum" = some (.builtin "sum"):=by decide +kernel
theorem nO {ns:List Int} {us:List Value} (h:IntsAre us ns):us.length = ns.length ∧ ∀ (i:Nat) (v:Value),us[i]? = some v → ∃ t,v = .int (ns.getD i 0) t:=by
 induction h with
 | nil=>exact ⟨rfl,fun i v e=>by cases e⟩
 | cons n t r ih =>
  refine ⟨by rw [Ag,Ag,ih.1],fun i v e=>?_⟩
  cases i with
  | zero=>cases e;exact ⟨t,rfl⟩
  | succ i=>exact ih.2 i v e
theorem tE (ns:List Int):∀ n,n ≤ ns.length → preSum (fun i=>ns.getD i 0) n = (ns.take n).sum
 | 0,_=>by rw [EG];rfl
 | n + 1,h=>by
  have ih:=tE ns n (by omega)
  have e:ns.take (n + 1) = ns.take n ++ [ns.getD n 0]:=by
   rw [Ab,AB (by omega),Aa,AB (by omega)]
   rfl
  rw [e,List.sum_append,← ih]
  show preSum _ n + ns.getD n 0 = _
  simp
section
variable {X:Cx}
theorem aOD (hc:X.calm = true):fI X (.builtin "sum") (fun xs H Q=>∃ (p:Addr) (ns:List Int),xs = [.ref p] ∧ SqL X.K H p (ns.map V.int) ∧ Q (.int ns.sum) H):=by
 intro pins s σ H xs us Q I r h
 obtain ⟨p,ns,rfl,hq,q⟩:=h
 obtain ⟨u,rfl,ru⟩:=bK.one r
 cases ru
 obtain ⟨its,rv,pl,hz⟩:=I.list hq
 have hb:=nO (wH rv)
 have hl:=pl.isList
 have hlt:p < s.heap.objs.size:=by obtain ⟨_,e,_⟩:=hl;exact AZ e
 refine call_sum_walkG (Ct hl ?_)
 refine ⟨s.heap.objs.size,[s.heap.objs.size,p],[s.heap.objs.size],its.toArray.size,_,_,fun i=>ns.getD i 0,rfl,EW (A:=X.A.in1) (I.ok.hd hc) _ p (Ah hlt) its.toArray,
  ⟨⟨_,Ad _ rfl,rfl,rfl⟩,hl.push _⟩,fun b hb'=>?_,fun i v hP=>hb.2 i v (by simpa using hP),fun h' tk t' hk=>?_⟩
 ·simp only [Af,Bk,or_false] at hb'
  show b < (s.heap.push _).objs.size
  rw [show (s.heap.push _).objs.size = s.heap.objs.size + 1 from FC ..]
  rcases hb' with e | e
  ·rw [e];exact DP _
  ·rw [e];exact Dj hlt
 ·have e:preSum (fun i=>ns.getD i 0) its.toArray.size = ns.sum:=by
   rw [tE _ _ (by rw [AS];omega),AH (by rw [AS];omega)]
  rw [e]
  exact ⟨.int _,H,I.kept (LSm.kept_iter hk),⟨_,rfl⟩,q⟩
end
end L2
namespace L2
open PySem PySem.Spec PyProof.Rows
theorem aNC {prog:Program} {w:World} {A:Around} {E:Value → Shared → Prop} {s:Shared} {r:Addr} {Q:Bool → Shared → Prop} (hT:s.TypeIs (.ref r) "list_reverseiterator") (h:Q false s) :
  wpAny (model prog w) A (Builtin.List.listLengthHint (.ref r)) Q E s:=by
 unfold Builtin.List.listLengthHint
 refine AD (FP hT (r:=none) (by rfl) ?_)
 dsimp only
 rw [if_neg (by decide),if_neg (by decide)]
 refine AD (FP hT (r:=some (.builtin "list_reverseiterator.__length_hint__")) (by rfl) ?_)
 dsimp only
 rw [show splitId "list_reverseiterator.__length_hint__" = some ("list_reverseiterator","__length_hint__") from by decide +kernel]
 dsimp only
 refine AD (wpAny_isInstance hT (b:=true) (by rfl) ?_)
 rw [if_neg (by decide),if_pos (by decide +kernel),if_neg (by decide +kernel)]
 exact AT h
theorem aFT {prog:Program} {w:World} {A:Around} {s:Shared} {R:Result → Shared → Prop} {I l:Addr} {items:Array Value} (hh:A.handled = none) (hI:s.heap.IsRevIter I l ((items.size:Int) - 1)) (hl:s.heap.IsList l items) (hne:l ≠ I) (hn:items.size ≤ Ar)
  (S:Addr) (hSI:S ≠ I) (hSl:S ≠ l) (res:Value) (c₀:Nat) (hS:s.heap.get? S = some { cls:=.type "list",data:=.seq #[] c₀ })
  (hR:∀ (h':Heap) (tk:Nat) (acc':Array Value) (c':Nat),(∀ (b:Addr) (o:Obj),b ≠ S → b ≠ I → s.heap.get? b = some o → h'.get? b = some o) → h'.get? S = some { cls:=.type "list",data:=.seq acc' c' } → ItemsOf (fun i v=>items[items.size - 1 - i]? = some v) acc' items.size → R (.ok (.ret res)) { s with heap:=h',toks:=tk }) :
  wpAny (model prog w) A.in1 (Builtin.List.listExtendWith (.ref S) (.ref I) res) (fun fin s'=>match fin with | .done f=>R (.ok f) s' | .again c'=>c'.quiet = true ∧ codeAny (model prog w) A c' R s') (fun e s'=>R (.error e) s') s:=by
 have hT:s.TypeIs (.ref I) "list_reverseiterator":=hI.typeIs
 have hSf:¬ S ∈ [I,l]:=by simp [hSI,hSl]
 have W:=Walks.listRev (prog:=prog) (w:=w) (A:=A.in1) hh I l hne items
 have key:∀ (h:Heap) (c₁:Nat) (tk:Nat),(∀ (b:Addr) (o:Obj),b ≠ S → s.heap.get? b = some o → h.get? b = some o) → h.get? S = some { cls:=.type "list",data:=.seq #[] c₁ } →
   codeAny (model prog w) A (.builtin "list.extend.loop" { pos:=[.ref S,.ref I,res] }) R { s with heap:=h,toks:=tk }:=fun h c₁ tk hk hS₁=>by
  refine codeAny_extend_loopS W.toS hn S hSf res items.size 0 { s with heap:=h,toks:=tk } #[] c₁ rfl (BT _) ?_ hS₁ (ItemsOf.nil _) fun s' acc' c' hm hS' hacc=>?_
  ·refine ⟨BT _,?_,?_⟩
   ·have:((items.size:Int) - 1 - ((0:Nat):Int)) = (items.size:Int) - 1:=by omega
    rw [this]
    obtain ⟨o,ho,r⟩:=hI
    exact ⟨o,hk _ _ (Ne.symm hSI) ho,r⟩
   ·obtain ⟨o,ho,r⟩:=hl
    exact ⟨o,hk _ _ (Ne.symm hSl) ho,r⟩
  ·rw [Moved.eq_with hm]
   refine hR s'.heap s'.toks acc' c' (fun b o h1 h2 e=>hm.heap b o (fun hmem=>?_) (hk b o h1 e)) hS' hacc
   rcases Af.mp hmem with e' | hmem
   ·exact h1 e'
   ·exact h2 (AW.mp hmem)
 unfold Builtin.List.listExtendWith
 refine AD (EJ hT ?_)
 have e0:Builtin.List.listSameRef (.ref S) (.ref I) = false:=by
  show (S == I) = false
  exact beq_eq_false_iff_ne.mpr hSI
 rw [e0,if_neg (by decide +kernel)]
 refine AD (wpAny_pyIter_revIter hI ?_)
 refine AD (CP (aNC hT ?_))
 have e0:s = { s with heap:=s.heap,toks:=s.toks }:=rfl
 refine wpAny_ite_split (fun _=>?_) (fun _=>?_)
 ·refine AD (EK (AD ?_))
  unfold Builtin.List.listTouch
  refine AD (FO hS rfl ?_)
  have hS₂:=DN (BQ fun x=>x.push Bm) hS rfl
  refine FO hS₂ rfl ?_
  have hS₃:=DN (BQ fun x=>x.pop) hS₂ rfl
  refine AT ⟨Cd F.plain_extend_loop _,key _ _ _ (fun b o hb e=>?_) hS₃⟩
  rw [Bf _ _ (Ne.symm hb),Bf _ _ (Ne.symm hb)]
  exact e
 ·exact AT ⟨Cd F.plain_extend_loop _,key s.heap c₀ s.toks (fun b o _ e=>e) hS⟩
theorem aNA {prog:Program} {w:World} {A:Around} {s:Shared} {R:Result → Shared → Prop} {I l:Addr} {items:Array Value} (hh:A.handled = none) (hI:s.heap.IsRevIter I l ((items.size:Int) - 1)) (hl:s.heap.IsList l items) (hne:l ≠ I) (hn:items.size ≤ Ar)
  (S:Addr) (hSI:S ≠ I) (hSl:S ≠ l) (hS:s.heap.get? S = some { cls:=.type "list",data:=.seq #[] })
  (hR:∀ (h':Heap) (tk:Nat) (acc':Array Value) (c':Nat),(∀ (b:Addr) (o:Obj),b ≠ S → b ≠ I → s.heap.get? b = some o → h'.get? b = some o) → h'.get? S = some { cls:=.type "list",data:=.seq acc' c' } → ItemsOf (fun i v=>items[items.size - 1 - i]? = some v) acc' items.size → R (.ok (.ret .none)) { s with heap:=h',toks:=tk }) :
  wpAny (model prog w) A.in1 (Builtin.«list.__init__» { pos:=[.ref S,.ref I] }) (fun fin s'=>match fin with | .done f=>R (.ok f) s' | .again c'=>c'.quiet = true ∧ codeAny (model prog w) A c' R s') (fun e s'=>R (.error e) s') s:=by
 refine AD (AD (FR hS rfl (AT ?_)))
 refine AD (FO hS rfl ?_)
 have hS₂:=DN (BQ fun x=>#[]) hS rfl
 have oth:∀ (b:Addr) (o:Obj),b ≠ S → s.heap.get? b = some o → (s.heap.update S (BQ fun x=>#[])).get? b = some o:=fun b o hb e=>(Bf s.heap (BQ fun x=>#[]) (Ne.symm hb)).trans e
 refine AD (wpAny_letGo ?_)
 refine aFT hh ?_ ?_ hne hn S hSI hSl .none _ hS₂ fun h' tk acc' c' hk hS' hacc=>hR h' tk acc' c' (fun b o h1 h2 e=>hk b o h1 h2 (oth b o h1 e)) hS' hacc
 ·obtain ⟨o,ho,r⟩:=hI
  exact ⟨o,oth _ _ (Ne.symm hSI) ho,r⟩
 ·obtain ⟨o,ho,r⟩:=hl
  exact ⟨o,oth _ _ (Ne.symm hSl) ho,r⟩
theorem aDG {prog:Program} {w:World} {A:Around} {E:Value → Shared → Prop} {s:Shared} {Q:Value → Shared → Prop} {I l:Addr} {items:Array Value} (hh:A.handled = none) (hI:s.heap.IsRevIter I l ((items.size:Int) - 1)) (hl:s.heap.IsList l items) (hne:l ≠ I) (hn:items.size ≤ Ar)
  (hQ:∀ (h':Heap) (tk:Nat) (acc':Array Value) (c':Nat),(∀ (b:Addr) (o:Obj),b ≠ I → s.heap.get? b = some o → h'.get? b = some o) → h'.get? s.heap.objs.size = some { cls:=.type "list",data:=.seq acc' c' } → ItemsOf (fun i v=>items[items.size - 1 - i]? = some v) acc' items.size → Q (.ref s.heap.objs.size) { s with heap:=h',toks:=tk }) :
  wpAny (model prog w) A (call (.type "list") [.ref I]) Q E s:=by
 have lI:I < s.heap.objs.size:=by obtain ⟨_,e,_⟩:=hI;exact AZ e
 have ll:l < s.heap.objs.size:=by obtain ⟨_,e,_⟩:=hl;exact AZ e
 refine FS F.called_list (F.typeCall_list_1 (.ref I)) F.entry_list_init (code_list_new (.ref I) (Q₁:=fun o s₁=>o = .ref s.heap.objs.size ∧ s₁ = { s with heap:=s.heap.push { cls:=.type "list",data:=.seq #[] } }) ⟨rfl,rfl⟩) fun obj s₁ h₁=>?_
 obtain ⟨rfl,rfl⟩:=h₁
 have hS:=Ad (o:={ cls:=Cf "list",data:=Data.seq #[] }) s.heap rfl
 refine ⟨⟨_,hS,rfl⟩,F.args_list_init_2 _ _,?_⟩
 refine aNA (A:=A.in1) hh ?_ ?_ hne hn s.heap.objs.size (Ne.symm (Ah lI)) (Ne.symm (Ah ll)) hS fun h' tk acc' c' hk hS' hacc=>⟨rfl,?_⟩
 ·obtain ⟨o,ho,r⟩:=hI
  exact ⟨o,AE _ ho,r⟩
 ·obtain ⟨o,ho,r⟩:=hl
  exact ⟨o,AE _ ho,r⟩
 ·exact hQ h' tk acc' c' (fun b o h1 e=>hk b o (Ah (AZ e)) h1 (AE _ e)) hS' hacc
theorem xD:BS "reversed" = some (.type "reversed"):=by decide +kernel
section
variable {X:Cx} {e:Expr} {t:TA} {p1 p2:Pos} {pos1 pos2:Pos}
def aUS (K:AG):List V → Hp → VK → Prop:=fun xs H Q=>∃ p ys,xs = [.ref p] ∧ SqL K H p ys ∧ ∀ l,H l = none → Q (.ref l) (upd H l (.lst ys.reverse))
theorem aEV (hc:X.calm = true) (hg1:Gl X "list") (hm1:X.mg "list" = none) (hg2:Gl X "reversed") (hm2:X.mg "reversed" = none) (ha:PA X [e] t)
  (he1:Av [e] X.env = (false,eval e X.env) :: Av [] X.env:=by rfl)
  (he2:Av [.Call (.Name "reversed" p2) [e] [] pos2] X.env = (false,eval (.Call (.Name "reversed" p2) [e] [] pos2) X.env) :: Av [] X.env:=by rfl) :
  PE X (.Call (.Name "list" p1) [.Call (.Name "reversed" p2) [e] [] pos2] [] pos1) (tCB (aUS X.K) t):=by
 intro pins s σ H Q I h
 refine CT (nJ I hg1 hm1 eK ?_ (by decide) (by decide))
 refine CD ?_ he2 rfl
 rw [he2]
 show wpAny _ _ (spliced ((false,eval _ X.env) :: backTo pos1 (Av [] X.env))) _ _ s
 refine Calls.spliced_cons ?_
 refine CT (nJ I hg2 hm2 xD ?_ (by decide) (by decide))
 refine CD (thn (ha pos2 pins s σ H _ I h) fun us s1 ⟨vs,H1,I1,r1,q1⟩=>?_) he1 rfl
 obtain ⟨p,ys,rfl,hq,q⟩:=q1
 obtain ⟨u,rfl,ru⟩:=bK.one r1
 cases ru
 obtain ⟨its,rv,pl,hz⟩:=I1.list hq
 have hl:=pl.isList
 have hlt:p < s1.heap.objs.size:=by obtain ⟨_,e,_⟩:=hl;exact AZ e
 refine call_reversed_list hl ?_
 refine Calls.spliced_nil ?_
 refine aDG (l:=p) (items:=its.toArray) (I.ok.hd hc) ⟨_,Ad _ rfl,rfl,rfl⟩ ?_ (Ah hlt) (by rw [AS,← rv.length];exact hz) fun h' tk acc c hk hg hi=>?_
 ·obtain ⟨o,ho,r⟩:=hl
  exact ⟨o,AE _ ho,r⟩
 have hk':∀ (b:Addr) (o:Obj),s1.heap.get? b = some o → h'.get? b = some o:=fun b o e=>hk b o (Ah (AZ e)) (AE _ e)
 have hge:s1.heap.objs.size ≤ (s1.heap.push (revObj p ((its.toArray.size:Int) - 1))).objs.size:=by
  rw [show (s1.heap.push (revObj p ((its.toArray.size:Int) - 1))).objs.size = s1.heap.objs.size + 1 from FC ..]
  exact Cr _
 refine ⟨.ref _,_,I1.laid (t':=tk) hk' hge (show bW X.prog X.w _ h' _ (.lst ys.reverse) from ⟨by rw [Ba];exact hz,acc.toList,c,?_,by simpa using hg⟩),rfl,q _ (I1.hok.fresh hge)⟩
 have hlen:=rv.length
 have e0:acc.size = its.length:=by rw [hi.1,AS]
 refine uF (by rw [Ba,Bg,e0,hlen]) fun j u x e1 e2=>?_
 have e3:=hi.2 j u (by rw [← CO];exact e1)
 have hj:j < ys.length:=by
  have:=(AC.mp e2).1
  rw [Ba] at this
  exact this
 rw [List.getElem?_reverse hj] at e2
 have e4:its[ys.length - 1 - j]? = some u:=by
  have:its.toArray[its.toArray.size - 1 - j]? = some u:=e3
  rw [AS] at this
  rw [hlen]
  simpa using this
 obtain ⟨u',e5,r5⟩:=rv.get e2
 rw [e4] at e5
 cases e5
 exact r5
end
end L2
namespace L2
open PySem PySem.Spec PyProof.Rows
theorem uQ:∀ {ys:List Str} {us:List Value},bK (ys.map V.str) us → StrsAre us ys
 | [],us,r=>by
  rw [Ch] at r
  cases r
  exact .nil
 | b :: bs,us,r=>by
  rw [AY] at r
  cases r with
  | cons r1 r2 =>
   obtain ⟨t,rfl⟩:=r1
   exact .cons b t (uQ r2)
section
variable {X:Cx}
theorem aQF:MtR X "str.join" (fun x vs H Q=>∃ z p ys,x = .str z ∧ vs = [.ref p] ∧ SqL X.K H p (ys.map V.str) ∧ (ys.map fun y=>y.length).sum + ys.length * z.length ≤ 16777216 ∧ Q (.str (Txt.join z ys)) H):=by
 intro pins s σ H x xs v us Q I rx r h
 obtain ⟨z,p,ys,rfl,rfl,hq,hz,q⟩:=h
 obtain ⟨t,rfl⟩:=rx
 obtain ⟨u,rfl,ru⟩:=bK.one r
 cases ru
 obtain ⟨its,rv,pl,hl⟩:=I.list hq
 exact join_list pl.isList (uQ rv) hz fun t' k=>⟨.str _,H,I.tok k,⟨_,rfl⟩,q⟩
end
end L2
namespace L2
open PySem PySem.Spec PyProof.Rows
section
variable {X:Cx}
def tL (K:AG) (t:TE):TT:=fun σ H Q=>t σ H fun x H1=>∃ p xs,x = .ref p ∧ SqL K H1 p xs ∧ Q (!xs.isEmpty) H1
theorem aET {e:Expr} {t:TE} (h:PE X e t) (he:∀ whole,isTrue e X.env whole = (do let v ← whole;standAt e.pos;holding [v] (truthy v)):=by intro _;rfl):PT X e (tL X.K t):=by
 intro pins s σ H Q I hw
 refine isTrue_plain (thn (h pins s σ H _ I hw) fun v s1 ⟨x,H1,I1,r1,q1⟩=>?_) (he _)
 obtain ⟨p,xs,rfl,hq,q⟩:=q1
 cases r1
 obtain ⟨its,rv,pl,hz⟩:=I1.list hq
 have hlen:=rv.length
 refine wpAny_truthy_list pl.isList ?_ ?_
 ·have:(Ar:Nat) < 2 ^ 63:=by decide
  rw [AS]
  omega
 ·have e:its.toArray.isEmpty = xs.isEmpty:=by
   cases xs with
   | nil=>cases rv;rfl
   | cons x r=>cases rv;rfl
  rw [e]
  exact ⟨H1,I1.tok _,q⟩
end
end L2
namespace L2
open PySem PySem.Spec PyProof.Rows
section
variable {prog:Program} {w:World} {A:Around} {R:Result → Shared → Prop} {I S:Addr} {fp wr:List Addr} {n:Nat} {P:Nat → Value → Prop} {St:Nat → Heap → Prop}
end
section
variable {prog:Program} {w:World} {A:Around} {E:Value → Shared → Prop} {s:Shared}
end
section
variable {X:Cx}
theorem aDH (f:Nat → Int):∀ k,argBest (fun i j=>decide (f i < f j)) k ≤ k ∧ ∀ j ≤ k,f (argBest (fun i j=>decide (f i < f j)) k) ≤ f j
 | 0=>⟨AQ _,fun j h=>by rw [Nat.le_zero.mp h];exact EN _⟩
 | k + 1=>by
  obtain ⟨a1,a2⟩:=aDH f k
  unfold argBest
  by_cases q:f (k + 1) < f (argBest (fun i j=>decide (f i < f j)) k)
  ·rw [if_pos (decide_eq_true q)]
   exact ⟨AQ _,fun j m=>by
    by_cases e:j = k + 1
    ·rw [e];exact EN _
    ·have:=a2 j (by omega)
     omega⟩
  ·rw [if_neg (by rw [decide_eq_true_eq];exact q)]
   exact ⟨by omega,fun j m=>by
    by_cases e:j = k + 1
    ·rw [e];omega
    ·exact a2 j (by omega)⟩
end
end L2
namespace L2
open PySem PySem.Spec PyProof.Rows
def Itd (d:Addr) (o:Obj) (kvs:List (Key × V)):It :=
 ⟨fun i H=>H d = some (.frz o (.dK kvs)) ∧ i < kvs.length,fun i H x H'=>H' = H ∧ ∃ kv,kvs[i]? = some kv ∧ x = kV kv.1,fun i H=>H d = some (.frz o (.dK kvs)) ∧ kvs.length ≤ i⟩
theorem xZ {P:Program} {w:World} {K:AG} {tg:Expr} {d it:Addr} {o:Obj} {kvs:List (Key × V)} {vs:List (Key × Value)} {ep:Nat} {h0:Heap} (kv:KV kvs vs) (hd0:h0.get? d = some o) (hat:h0.DictAt (aS P w) d vs ep) :
  Turn P w K tg (Itd d o kvs) [it] it (fun i h=>h.IsKeyIter it d i vs.length ep) where
 mem:=by simp
 obj:=fun i h st b hb=>by
  have e:b = it:=by simpa using hb
  subst e
  obtain ⟨ob,e,c,dd⟩:=st
  exact ⟨ob,e,fun v z=>by rw [dd] at z;cases z⟩
 keep:=fun i h h' st k=>st.at fun ob e=>k it (by simp) ob e
 item:=by
  intro X hP hw hK hc i pins s σ H E I hf st hg
  subst hP hw hK
  obtain ⟨hH,hi⟩:=hg
  obtain ⟨f0,f1,f2,f3,f4,f5⟩:=hf it (by simp)
  have hget:s.heap.get? d = some o:=(show bW X.prog X.w H s.heap d (.frz o (.dK kvs)) from I.hok d _ hH).1
  have hat':=hat.at' (h':=s.heap) fun ob e=>by rw [hd0] at e;cases e;exact hget
  have hl:=KV.length kv
  obtain ⟨⟨k,v⟩,hx⟩:∃ p,vs[i]? = some p:=⟨_,AB (by omega)⟩
  obtain ⟨q,eq,e1,e2⟩:=KV.get kv hx
  refine wpAny_pyNext_dict_item st hat' hx fun key h' hkey st' sb=>?_
  have I1:Inv X pins σ H { s with heap:=h' }:=I.turned (t':=s.toks) (fun b ob hb e=>(sb.2 b hb).trans e) f0 f1 f3 f4 f5
  obtain ⟨ob,e,c,dd⟩:=id st'
  refine ⟨key,rfl,aDL (s:={ s with heap:=h' }) e c dd (by decide) ⟨kV q.1,H,I1,?_,⟨rfl,q,eq,rfl⟩,st',fun b hb=>(hf b hb).1⟩⟩
  rw [show q.1 = k from e1]
  exact yX hkey
 done:=by
  intro X hP hw hK hc i pins s σ H E I hf st hg
  subst hP hw hK
  obtain ⟨hH,hi⟩:=hg
  obtain ⟨f0,f1,f2,f3,f4,f5⟩:=hf it (by simp)
  have hget:s.heap.get? d = some o:=(show bW X.prog X.w H s.heap d (.frz o (.dK kvs)) from I.hok d _ hH).1
  have hat':=hat.at' (h':=s.heap) fun ob e=>by rw [hd0] at e;cases e;exact hget
  have hl:=KV.length kv
  exact wpAny_pyNext_dict_end (I.ok.hd hc) st hat' (List.getElem?_eq_none (by omega)) fun h' eb=>⟨rfl,I.turned (t':=s.toks) (fun b ob hb e=>eb b ob hb e) f0 f1 f3 f4 f5⟩
 self:=fun _ _ _ _ _ st h=>wpAny_pyIter_keyiter st h
section
variable {X:Cx} {tg:Expr}
def aVM (td:TE):TI:=fun σ H R=>td σ H fun x H1=>∃ d kvs,x = .ref d ∧ H1 d = some (.dK kvs) ∧ ∀ o,R (Itd d o kvs) (upd H1 d (.frz o (.dK kvs)))
theorem aAQ {l:Expr} {tl:TE} (hl:PE X l tl):PI X tg l (aVM tl):=by
 intro pins s σ H R I h
 refine thn (hl pins s σ H _ I h) fun v s1 ⟨x,H1,I1,r1,q1⟩=>?_
 obtain ⟨d,kvs,e,hH,q⟩:=q1
 subst e
 cases r1
 have hok:=I1.hok d _ hH
 obtain ⟨hz,lo,vs,kv,hD⟩:=id hok
 obtain ⟨ep,hat⟩:=hD.dictAt
 obtain ⟨o,es,ho,_⟩:=id hat
 refine wpAny_pyIter_dict lo hat ?_
 have I2:Inv X pins σ (upd H1 d (.frz o (.dK kvs))) s1:=I1.write (x:=d) (e:=d) (o:=.frz o (.dK kvs)) (h':=s1.heap) (t':=s1.toks) (by rw [hH];exact trivial) (.inl rfl) (fun _ _ _ q=>q) ⟨o,ho⟩ ⟨ho,hz,lo,vs,kv,hD⟩
 refine ⟨s1.heap.objs.size,[s1.heap.objs.size],_,_,upd H1 d (.frz o (.dK kvs)),rfl,I2.kept (t':=s1.toks) fun b ob e=>AE _ e,xZ kv ho hat,⟨_,Ad _ rfl,rfl,rfl⟩,fun b hb=>?_,q o⟩
 have e:b = s1.heap.objs.size:=by simpa using hb
 subst e
 exact I2.fpOk (AQ _) (I2.hok.fresh (AQ _))
theorem sI {d:Addr} {o:Obj} {kvs:List (Key × V)} {σb:St} {g:TG} {tt:TT} {te:TE} {fin:List V → Hp → Prop} {H:Hp} (hz:kvs.length ≤ Ar) (Pv:Nat → List V → Hp → Prop) (h0:Pv 0 [] H)
  (hl:∀ i ys H,i ≤ kvs.length → Pv i ys H → H d = some (.frz o (.dK kvs)) ∧ ys.length ≤ i)
  (hs:∀ i kv ys H (K:VK) (K':Hp → Prop),kvs[i]? = some kv → Pv i ys H → (∀ y H4,Pv (i + 1) (ys ++ [y]) H4 → K y H4) → (∀ H3,Pv (i + 1) ys H3 → K' H3) →
   g (kV kv.1) σb H fun σ2 H2=>tt σ2 H2 fun b H3=>if b = true then te σ2 H3 K else K' H3)
  (hd:∀ ys H,Pv kvs.length ys H → fin ys H):∃ W:CW,(∃ m,W 0 m [] H) ∧ ∀ i m ys H,W i m ys H → yA σb (Itd d o kvs) g tt te W fin i m ys H:=by
 refine ⟨fun i m ys H=>m = kvs.length - i ∧ i ≤ kvs.length ∧ Pv i ys H,⟨kvs.length,by simp,BT _,h0⟩,?_⟩
 rintro i m ys H ⟨rfl,hi,p⟩
 obtain ⟨q,ql⟩:=hl i ys H hi p
 by_cases hlt:i < kvs.length
 ·refine .inr ⟨⟨q,hlt⟩,by omega,fun x H' y=>?_⟩
  obtain ⟨e,kv,ek,ex⟩:=y
  subst e ex
  exact hs i kv ys _ _ _ ek p (fun y H4 q=>⟨kvs.length - (i + 1),by omega,rfl,hlt,q⟩) fun H3 q=>⟨kvs.length - (i + 1),by omega,rfl,hlt,q⟩
 ·have e:i = kvs.length:=by omega
  subst e
  exact .inl ⟨⟨q,AQ _⟩,hd ys H p⟩
end
end L2
namespace L2
open PySem PySem.Spec PyProof.Rows
section
variable {X:Cx}
theorem aNH {d:Addr} {o:Obj} {kvs:List (Key × V)} {g:TG} {tb:TS} {D:Ends} {σ:St} {H:Hp} (Pv:Nat → St → Hp → Prop) (h0:Pv 0 σ H) (hl:∀ i σ H,i ≤ kvs.length → Pv i σ H → H d = some (.frz o (.dK kvs)))
  (hs:∀ i kv σ H,kvs[i]? = some kv → Pv i σ H → g (kV kv.1) σ H fun σ2 H2=>tb { D with nx:=Pv (i + 1),ct:=Pv (i + 1),bk:=D.nx } σ2 H2) (hd:∀ σ H,Pv kvs.length σ H → D.nx σ H) :
  ∃ W:Nat → Nat → St → Hp → Prop,(∃ m,W 0 m σ H) ∧ ∀ i m σ H,W i m σ H →
   ((Itd d o kvs).stop i H ∧ D.nx σ H) ∨ ((Itd d o kvs).go i H ∧ ∃ N:St → Hp → Prop,(∀ σ' H',N σ' H' → ∃ m',m' < m ∧ W (i + 1) m' σ' H') ∧ ∀ x H',(Itd d o kvs).yld i H x H' → g x σ H' fun σ2 H2=>tb { D with nx:=N,ct:=N,bk:=D.nx } σ2 H2):=by
 refine ⟨fun i m σ H=>m + i = kvs.length ∧ Pv i σ H,⟨kvs.length,rfl,h0⟩,?_⟩
 intro i m σ H hw
 obtain ⟨hm,pv⟩:=hw
 have at_:=hl i σ H (by omega) pv
 rcases Nat.lt_or_ge i kvs.length with lt | ge
 ·refine .inr ⟨⟨at_,lt⟩,Pv (i + 1),(fun σ' H' p'=>⟨kvs.length - (i + 1),by omega,by omega,p'⟩),fun x H' y=>?_⟩
  obtain ⟨eH,kv,ek,ex⟩:=y
  subst eH ex
  exact hs i kv σ _ ek pv
 ·have ei:i = kvs.length:=by omega
  subst ei
  exact .inl ⟨⟨at_,AQ _⟩,hd σ H pv⟩
end
end L2
namespace L2
open PySem PySem.Spec PyProof.Rows PySem.W
section
variable {P:Program} {w:World} {K:AG} {mg:Str → Option Value} {base:Heap}
theorem Fun.okC {x qual:Str} {st:Stmt} {f:Addr} {fd:Bv} {N ps:List Str} {k:Nat} {sp:Sp} {c:Addr} (F:Fun K x qual st f fd) (hc:fd.code = .ref c) (S:FnScope N ps (aB st)) (len:∀ vs H Q E,sp vs H Q E → vs.length = ps.length)
  (hbody:∀ (A:Around) (outer:List Env) (s:Shared) (H:Hp) (vs:List V) (Q:VK) (E:XK),Room k (A.deeper (envOfC qual (aB st) s.heap.objs.size f (.ref c))) → sp vs H Q E →
   ∃ t,PSs (mJ CX0 P w K mg base N qual (aB st) f (.ref c) A outer s H E).nox (aJ st) t ∧ t { nx:=fun _ H'=>Q .non H',rt:=Q } (start N vs) H):FnOk P w K mg base CX0 (k + 1) f fd ps sp:=by
 obtain ⟨oc,od,kV,doc,pm,an,cdv,ct,osl,rfl,lk,hcd⟩:=F.ex
 obtain rfl:cdv = .ref c:=hc
 refine aRS lk hcd S len fun A outer s H vs Q E hr hsp=>?_
 obtain ⟨t,h,q⟩:=hbody A outer s H vs Q E hr hsp
 exact ⟨t,h.nox,q⟩
end
section
variable {X:Cx} {T:Addr} {qual:Str} {params:Dm} {body e:Expr} {scope:Scope} {p pos lp kp:Pos} {te tb:TE}
def aRZ (T:Addr) (lp:Pos) (qual:Str) (te:TE):TE:=fun σ H Q=>te σ H fun x H1=>∃ (l:Addr) (ps:List (Addr × List Int)) (π:Array Nat),x = .ref l ∧ H1 l = some (.lst (ps.map fun p=>V.ref p.1)) ∧ jY H1 ps ∧ 2 ≤ ps.length ∧ ps.length ≤ 1000 ∧
 xF (ps.map (·.2)) π ∧ (∀ i ∈ π.toList,i < ps.length) ∧ π.size = ps.length ∧ lM T lp qual H1 ∧
 ∀ (D:Addr) (H2:Hp),dP T H1 H2 → lM T lp qual H2 → H2 D = some (.lst (π.toList.map fun i=>(ps.map fun p=>V.ref p.1).getD i .non)) → Q (.ref D) H2
def aUA (tb:TE):Prop:=∀ (a:Addr) (ns:List Int) (H:Hp) (Q:VK),H a = some (.lst (ns.map V.int)) → (∀ (t:Addr) (H':Hp),aI H H' → H' t = some (.tup [.int ns.length,.ref a]) → Q (.ref t) H') → tb [some (.ref a)] H Q
theorem aQI {k:Nat} {σ:List (Option V)} {f c':Addr} {y:Str} (hr:Room (k + 3) X.A) (S:FnScope [y] [y] scope) (hbind:∀ (pm cdv ct u:Value),Ee (kla_fn "<lambda>" qual params body scope [] pm cdv ct) ⟨[u],[]⟩ = pure [(y,u)])
  (hbody:∀ (f:Addr) (cdv:Value) (A:Around) (outer:List Env) (s:Shared) (H:Hp),PE (mJ CX0 X.prog X.w X.K X.mg X.base [y] qual scope f cdv A outer s H E0).nox body tb) (kb:aUA tb) :
  aRA X σ X.A.in1.in1 f (fun H=>H f = some (uE "<lambda>" qual params body scope c' f) ∧ H c' = some (pG qual c')):=by
 intro pins s H a ns I ⟨ef,ec⟩ ea
 obtain ⟨⟨pm,ctv,gf⟩,_⟩:=I.hok f _ ef
 obtain ⟨rc,_⟩:=I.hok c' _ ec
 refine wpAny_call (Cy (aMU (k:=k) (N:=[y]) (ps:=[y]) (us:=[.ref a]) (vs:=[.ref a]) (Q:=fun v H'=>∃ t,v = .ref t ∧ aI H H' ∧ H' t = some (.tup [.int ns.length,.ref a])) hr.in1.in1 I.env0.in1.in1 gf rfl rc S (.of_eq (hbind _ _ _ _)) (.cons rfl .nil) rfl
  fun _=>⟨tb,hbody _ _ _ _ _ _,kb a ns H _ ea fun t H' S' e'=>⟨t,rfl,S',e'⟩⟩) fun r s' hq=>?_)
 cases r with
 | error e=>exact hq.elim
 | ok fl =>
  cases fl with
  | ret u =>
   obtain ⟨v,H',I',rv,t,rfl,S',e'⟩:=I.after hq
   cases rv
   exact ⟨t,H',I',rfl,S',e'⟩
  | next=>exact Bc hq
  | brk=>exact Bc hq
  | cont=>exact Bc hq
theorem aMF {k:Nat} {y:Str} (hr:Room (k + 3) X.A) (hg:Gl X "sorted") (hm:X.mg "sorted" = none) (he:PE X e te) (hlam:PE X (.Lambda params body scope lp) (aUH T lp qual params body scope)) (S:FnScope [y] [y] scope)
  (hbind:∀ (pm cdv ct u:Value),Ee (kla_fn "<lambda>" qual params body scope [] pm cdv ct) ⟨[u],[]⟩ = pure [(y,u)])
  (hbody:∀ (f:Addr) (cdv:Value) (A:Around) (outer:List Env) (s:Shared) (H:Hp),PE (mJ CX0 X.prog X.w X.K X.mg X.base [y] qual scope f cdv A outer s H E0).nox body tb) (kb:aUA tb)
  (hs:Av [e] X.env = (false,eval e X.env) :: Av [] X.env:=by rfl) (hpl:(backTo pos (Av [e] X.env)).any (·.1) = false:=by rfl) :
  PE X (.Call (.Name "sorted" p) [e] [⟨some "key",.Lambda params body scope lp,kp⟩] pos) (aRZ T lp qual te):=by
 intro pins s σ H Q I h
 refine CT (nJ I hg hm aBO ?_ (by decide) (by decide))
 have hp2:((backTo pos (Av [e] X.env)).any (·.1) || (DW pos (Ck [⟨some "key",.Lambda params body scope lp,kp⟩] X.env)).any (·.1.isNone)) = false:=by rw [hpl];rfl
 refine PySem.W.callWith_of (P:=fun _=>True) hp2 (fun h _=>⟨.machine,.inr (.inl rfl),PySem.W.Looks.of_pure rfl⟩) (evalArgs_kw2 rfl ?_ hs)
 refine thn (show wpAny _ _ _ _ _ s from BL (aA he aD hs pos pins s σ H (fun vs H1=>∃ x,vs = [x] ∧ ∃ (l:Addr) (ps:List (Addr × List Int)) (π:Array Nat),x = .ref l ∧ H1 l = some (.lst (ps.map fun p=>V.ref p.1)) ∧ jY H1 ps ∧ 2 ≤ ps.length ∧ ps.length ≤ 1000 ∧
  xF (ps.map (·.2)) π ∧ (∀ i ∈ π.toList,i < ps.length) ∧ π.size = ps.length ∧ lM T lp qual H1 ∧
  ∀ (D:Addr) (H2:Hp),dP T H1 H2 → lM T lp qual H2 → H2 D = some (.lst (π.toList.map fun i=>(ps.map fun p=>V.ref p.1).getD i .non)) → Q (.ref D) H2) I ?_) (fun _ _ z=>z) fun _ _ z=>z) fun us s1 ⟨vs,H1,I1,r,x,e1,l,ps,π,e2,hl,it,h2,h64,hπ,hb,hz,tb0,q⟩=>?_
 ·show te σ H fun x H1=>∃ x',[x] = [x'] ∧ _
  have hmono:∀ (R1 R2:VK),(∀ x H1,R1 x H1 → R2 x H1) → R1 = R1 → True:=fun _ _ _ _=>trivial
  have ee:(fun (x:V) (H1:Hp)=>∃ x',[x] = [x'] ∧ ∃ (l:Addr) (ps:List (Addr × List Int)) (π:Array Nat),x' = .ref l ∧ H1 l = some (.lst (ps.map fun p=>V.ref p.1)) ∧ jY H1 ps ∧ 2 ≤ ps.length ∧ ps.length ≤ 1000 ∧
   xF (ps.map (·.2)) π ∧ (∀ i ∈ π.toList,i < ps.length) ∧ π.size = ps.length ∧ lM T lp qual H1 ∧
   ∀ (D:Addr) (H2:Hp),dP T H1 H2 → lM T lp qual H2 → H2 D = some (.lst (π.toList.map fun i=>(ps.map fun p=>V.ref p.1).getD i .non)) → Q (.ref D) H2) =
   (fun (x:V) (H1:Hp)=>∃ (l:Addr) (ps:List (Addr × List Int)) (π:Array Nat),x = .ref l ∧ H1 l = some (.lst (ps.map fun p=>V.ref p.1)) ∧ jY H1 ps ∧ 2 ≤ ps.length ∧ ps.length ≤ 1000 ∧
   xF (ps.map (·.2)) π ∧ (∀ i ∈ π.toList,i < ps.length) ∧ π.size = ps.length ∧ lM T lp qual H1 ∧
   ∀ (D:Addr) (H2:Hp),dP T H1 H2 → lM T lp qual H2 → H2 D = some (.lst (π.toList.map fun i=>(ps.map fun p=>V.ref p.1).getD i .non)) → Q (.ref D) H2):=by
   funext x H1
   refine propext ⟨fun ⟨x',a,b⟩=>?_,fun b=>⟨x,rfl,b⟩⟩
   cases a
   exact b
  rw [ee]
  exact h
 subst e1 e2
 obtain ⟨u,rfl,ru⟩:=bK.one r
 cases ru
 have eT:l ≠ T:=fun z=>by
  obtain ⟨qs,g,_⟩:=tb0
  rw [z,g] at hl
  cases hl
 have nT:∀ p ∈ ps,p.1 ≠ T:=fun p m z=>by
  obtain ⟨qs,g,_⟩:=tb0
  have:=it p m
  rw [z,g] at this
  cases this
 refine thn (aPQ (nm:=some "key") (kpos:=kp) hlam aSP pos pins s1 σ H1 (fun vs H2=>∃ f c',vs = [.ref f] ∧ dP T H1 H2 ∧ lM T lp qual H2 ∧ H2 c' = some (pG qual c') ∧ H2 f = some (uE "<lambda>" qual params body scope c' f)) I1 ⟨tb0,fun f c' H' a b c d=>⟨f,c',rfl,a,b,c,d⟩⟩) fun ws s2 ⟨vs,H2,I2,r2,f,c',e1,K2,T2,ec,ef⟩=>⟨trivial,?_⟩
 subst e1
 obtain ⟨ud,rfl,rd⟩:=bK.one r2
 cases rd
 show wpAny _ _ (call (.builtin "sorted") [.ref l] [("key",.ref f)]) _ _ s2
 refine aCF (P0:=fun H=>H f = some (uE "<lambda>" qual params body scope c' f) ∧ H c' = some (pG qual c')) (by have:=hr.un;omega) (fun _ _ Sm a=>⟨Sm _ _ a.1,Sm _ _ a.2⟩) (aQI hr S hbind hbody kb) I2 (SqL.of (K2 _ _ eT hl)) ⟨ef,ec⟩ (fun p m=>K2 _ _ (nT p m) (it p m)) h2 h64 hπ hb hz fun D H3 S3 _ eD=>?_
 exact q D H3 (K2.trans fun b o _ e=>S3 b o e) (T2.keep S3) eD
end
end L2
namespace L2
open PySem PySem.Spec PyProof.Rows PySem.W
def aAB (K:AG) (T:Addr):Sp:=fun vs H Q _=>∃ x,vs = [x] ∧ ∃ (a:Addr) (ns:List Int),x = .ref a ∧ SqL K H a (ns.map V.int) ∧ ns.length ≤ 63 ∧ H T = some (.tbl #[]) ∧ ∀ H',Q (.bl true) H'
theorem aJN {P:Program} {w:World} {K:AG} {mg mb:Str → Option Value} {k:Nat} {fa a c T:Addr} {fd:Bv} {x y:Str} {s₁:Shared} {vs:List Value} {ns:List Int} {p:Program} {loose:List Str} {mean:ExcName → Option Value}
  (KX:K.In s₁.heap) (G:Top p loose mean mg mb s₁.heap) (hg:s₁.gens = #[])
  (ha:s₁.heap.get? a = some { cls:=.type "list",data:=.seq vs.toArray }) (hi:IntsAre vs ns) (hl:ns.length ≤ 63) (hr:Room k callerA)
  (hT:s₁.heap.get? T = some (tabObj #[])) (hC:CodeHd s₁.heap c T) (hKT:K.lookup T = none) (ht:tabIn K y = some (c,T))
  (F:∀ base:Heap,K.In base → base.Ns AJ mg → TabB K mg base y c T → FnOk P w K mg base CX0 k fa fd [x] (aAB K T)) (hbind:∀ (s:Shared) (u:Value),BindsTo s fd ⟨[u],[]⟩ [(x,u)]) :
  codeAny (model P w) callerA (.call (.ref fa) ⟨[.ref a],[]⟩) (fun r s'=>r = .ok (.ret (.bool true)) ∧ OldK s₁.heap s'.heap ∧ s'.os = s₁.os ∧ AllBare s'.gens) s₁:=by
 have rv:=xX hi
 have lenV:=hi.length
 have naT:a ≠ T:=fun z=>by rw [z,hT] at ha;cases ha
 have core:∀ H:Hp,(∀ b,b ≠ T → H b = none ∨ ∃ o xs,H b = some (.frz o (.lst xs))) → H T = some (.tbl #[]) → SqL K H a (ns.map V.int) → HOk P w H s₁.heap → (∀ b,b ≠ T → H b ≠ none → b = a) → (H a ≠ none → K.lookup a = none) →
   codeAny (model P w) callerA (.call (.ref fa) ⟨[.ref a],[]⟩) (fun r s'=>r = .ok (.ret (.bool true)) ∧ OldK s₁.heap s'.heap ∧ s'.os = s₁.os ∧ AllBare s'.gens) s₁:=by
  intro H hO eT hS hok hA hK
  have base_of:∀ {b:Addr} {o:Obj},s₁.heap.get? b = some o → H b = none → (xT s₁.heap H).get? b = some o:=fun e n=>aND e n
  have none_of:∀ {b:Addr} {o:Obj},s₁.heap.get? b = some o → o ≠ tabObj #[] → o ≠ { cls:=.type "list",data:=.seq vs.toArray } → H b = none:=fun {b o} e n1 n2=>by
   cases q:H b with
   | none=>rfl
   | some u =>
    by_cases z:b = T
    ·rw [z,hT] at e
     exact absurd (Aw e).symm n1
    ·have e':b = a:=hA b z (by rw [q];simp)
     rw [e',ha] at e
     exact absurd (Aw e).symm n2
  have noA:∀ {b:Addr} {o:Obj} {es:Array Ej} {ep:Nat},s₁.heap.get? b = some o → o.data = .dict es ep → H b = none:=fun {b o es ep} e d =>
   none_of e (fun z=>by rw [z] at d;cases d) (fun z=>by rw [z] at d;cases d)
  have nsK:∀ {b:Addr} {m:Str → Option Value},s₁.heap.Ns b m → (xT s₁.heap H).Ns b m:=fun {b m} ⟨o,es,ep,e,d,r⟩=>⟨o,es,ep,base_of e (noA e d),d,r⟩
  have hKb:K.In (xT s₁.heap H):=fun b o e=>base_of (KX b o e) (by
   cases q:H b with
   | none=>rfl
   | some u =>
    by_cases z:b = T
    ·rw [z,hKT] at e;cases e
    ·have e':b = a:=hA b z (by rw [q];simp)
     subst e'
     rw [hK (by rw [q];simp)] at e;cases e)
  have hM:Mod K mg (xT s₁.heap H):=⟨hKb,nsK G.g,⟨mb,nsK G.b,G.builtins⟩,let ⟨mc,h1,h2⟩:=G.nolimit;⟨mc,nsK h1,h2⟩⟩
  have e0:Env0 P w K mg (xT s₁.heap H) callerA [] s₁ H:=⟨rfl,hM,fun b o e=>aQB e,Dz (aJQ _ _),trivial,fun b hb=>absurd (show b ∈ ([]:List Addr) from hb) (by simp),hok,.of_eq hg⟩
  have TB:TabB K mg (xT s₁.heap H) y c T:=by
   refine ⟨?_,?_,fun f o fd' h1 h2 h3=>law_code KX G.g ht h1 (KX _ _ h2) h3⟩
   ·obtain ⟨bm,ob,b1,b2,b3,b4,b5,b6⟩:=G.bmain
    exact ⟨bm,ob,b1,b2,base_of b3 (none_of b3 (fun z=>by rw [z] at b4;cases b4) (fun z=>by rw [z] at b4;have b4:Cf "list" = Cf "module":=b4;injection b4 with b4;exact absurd b4 (by decide))),b4,b5,b6⟩
   ·obtain ⟨o,vs',file,tf,flags,tg,inF,text,tt,e1,r1,r⟩:=hC
    exact ⟨o,vs',file,tf,flags,tg,inF,text,tt,base_of e1 (none_of e1 (fun z=>by rw [z] at r1;cases r1) (fun z=>by rw [z] at r1;have r1:Cf "list" = Cf "code":=r1;injection r1 with r1;exact absurd r1 (by decide))),r1,r⟩
  refine Cy ((F _ hKb (nsK G.g) TB).run callerA [] s₁ H ⟨[.ref a],[]⟩ [.ref a] [.ref a] (fun v _=>v = .bl true) (fun _ _ _=>False) hr e0 (hbind s₁ (.ref a)) (.cons rfl .nil) ⟨_,rfl,a,ns,rfl,hS,hl,eT,fun _=>rfl⟩) fun r s' h=>?_
  cases r with
  | error e=>exact Bc h
  | ok fl =>
   cases fl with
   | next=>exact Bc h
   | brk=>exact Bc h
   | cont=>exact Bc h
   | ret u =>
    obtain ⟨v,H',os,bare,un,hok',r',q⟩:=h
    have q':v = .bl true:=q
    subst q'
    obtain rfl:u = EX true:=r'
    have kp:∀ b o,b ≠ T → s₁.heap.get? b = some o → s'.heap.get? b = some o:=fun b o nb e=>by
     cases q:H b with
     | none=>exact un.keep b o e q (by intro z;exact absurd (show b ∈ ([]:List Addr) from z) (by simp)) (by simp)
     | some u =>
      rcases hO b nb with z | ⟨ob,xs,z⟩
      ·rw [q] at z;cases z
      ·have z2:=un.frzs b ob _ z
       obtain ⟨e1,_⟩:=hok b _ z
       obtain ⟨e2,_⟩:=hok' b _ z2
       rw [e] at e1;cases e1
       exact e2
    obtain ⟨more,eT'⟩:=un.tbls T _ eT
    have gT':s'.heap.get? T = some (tabObj (#[] ++ more)):=hok' T _ eT'
    refine ⟨rfl,⟨fun b o e=>?_,fun b o e=>?_⟩,os,bare⟩
    ·by_cases z:b = T
     ·subst z
      rw [hT] at e
      cases e
      exact .inr (.inl ⟨(hC.tab hT).isCodeTable,rfl,#[],more,rfl,gT'⟩)
     ·exact .inl (kp b o z e)
    ·by_cases z:b = T
     ·exact ⟨_,z ▸ gT'⟩
     ·exact ⟨o,kp b o z e⟩
 cases hk:K.lookup a with
 | some o =>
  have e:=KX a o hk
  rw [ha] at e
  cases e
  refine core (fun b=>if b = T then some (.tbl #[]) else none) (fun b nb=>.inl (if_neg nb)) (if_pos rfl) (.inr ⟨_,vs.toArray,_,hk,rfl,rfl,rfl,by rw [AS,lenV];exact BI hl (by decide),by simpa using rv⟩) (fun b u z=>?_) (fun b nb z=>absurd (if_neg nb) z) fun z=>absurd (if_neg naT) z
  by_cases hb:b = T
  ·have z':=(if_pos hb).symm.trans z
   cases z'
   subst hb
   exact hT
  ·have z':=(if_neg hb).symm.trans z
   cases z'
 | none =>
  refine core (fun b=>if b = T then some (.tbl #[]) else if b = a then some (.frz { cls:=.type "list",data:=.seq vs.toArray } (.lst (ns.map V.int))) else none) (fun b nb=>?_) (if_pos rfl) (.inl (.inr ⟨{ cls:=.type "list",data:=.seq vs.toArray },by show (if a = T then _ else _) = _;rw [if_neg naT,if_pos rfl]⟩)) (fun b u z=>?_) (fun b nb z=>?_) fun _=>hk
  ·by_cases hb:b = a
   ·exact .inr ⟨_,_,by show (if b = T then _ else _) = _;rw [if_neg nb,if_pos hb]⟩
   ·exact .inl (by show (if b = T then _ else _) = _;rw [if_neg nb,if_neg hb])
  ·by_cases hT':b = T
   ·have z':=(if_pos hT').symm.trans z
    cases z'
    subst hT'
    exact hT
   ·have z0:=(if_neg hT').symm.trans z
    by_cases hb:b = a
    ·have z':=(if_pos hb).symm.trans z0
     cases z'
     subst hb
     exact ⟨ha,by rw [AA];exact BI hl (by decide),vs,_,rv,ha⟩
    ·have z':=(if_neg hb).symm.trans z0
     cases z'
  ·by_cases hb:b = a
   ·exact hb
   ·exact absurd (by show (if b = T then _ else _) = _;rw [if_neg nb,if_neg hb]) z
theorem walk_lawT {l:PySem.W.OpenLaw} {q:Program} {loose:List Str} {XP:(Str → Option Value) → Heap → Prop} {YP:World → Heap → Prop} {d:DefRec} {K:Params → AG} (k:Nat) (y:Str) (c T:Addr) (hr:Room k callerA) (hn:l.most = some 63) (hdf:d.params.defaults = [])
  (hY:∀ (w:World) (h:Heap),YP w h → (K w.params).In h) (hT:∀ (w:World) (h:Heap),YP w h → h.get? T = some (tabObj #[])) (hC:∀ (w:World),codeHdIn (K w.params) c T = true) (hK:∀ w:World,(K w.params).lookup T = none) (ht:∀ w:World,tabIn (K w.params) y = some (c,T))
  (F:∀ (w:World) (mg:Str → Option Value) (fa:Addr) (h:Heap),(K w.params).In h → h.Ns AJ mg → mg d.name = some (.ref fa) →
   ∃ fd:Bv,(∀ (s:Shared) (u:Value),BindsTo s fd ⟨[u],[]⟩ [("_law_script",u)]) ∧ ∀ base:Heap,(K w.params).In base → base.Ns AJ mg → TabB (K w.params) mg base y c T → FnOk l.prog w (K w.params) mg base CX0 k fa fd ["_law_script"] (aAB (K w.params) T)) :
  PySem.W.WalkO q loose XP YP l.row.toRowW d [] (fun f vs=>PySem.call f vs):=by
 refine Att.attach_call hn hdf fun w s₀ s₁ mg mb fa o pm cd doc a vs ns G Y ho hd hcd hmg hobj hints hlen hg=>?_
 have KX:=hY w _ Y
 obtain ⟨fd,hb,hF⟩:=F w mg fa _ KX G.T.g hmg
 exact aJN KX G.T hg hobj hints hlen hr (hT w _ Y) (codeHd_of_K KX (hC w)) (hK w) (ht w) hF hb
end L2
namespace L2
open PySem PySem.Spec PyProof.Rows PySem.W
theorem DefAt.fcC {P:Program} {w:World} {K:AG} {mg:Str → Option Value} {base:Heap} {x:Str} {st:Stmt} {N ps:List Str} {k:Nat} {sp:Sp} {c T:Addr} (D:DefAt K mg x st ps) (B:TabB K mg base x c T) (S:FnScope N ps (aB st)) (len:∀ vs H Q E,sp vs H Q E → vs.length = ps.length)
  (hbody:∀ (f:Addr) (A:Around) (outer:List Env) (s:Shared) (H:Hp) (vs:List V) (Q:VK) (E:XK),Room k (A.deeper (envOfC x (aB st) s.heap.objs.size f (.ref c))) → sp vs H Q E →
   ∃ t,PSs (mJ CX0 P w K mg base N x (aB st) f (.ref c) A outer s H E).nox (aJ st) t ∧ t { nx:=fun _ H'=>Q .non H',rt:=Q } (start N vs) H):Fc P w K mg base (k + 1) x ps sp:=by
 obtain ⟨f,fd,F,b,m⟩:=D.ex
 have hc:fd.code = .ref c:=by
  obtain ⟨oc,od,kV,doc,pm,an,cdv,ct,osl,rfl,lk,hcd⟩:=F.ex
  exact B.cd f _ _ m lk rfl
 exact ⟨f,fd,F.okC hc S len fun A outer s H vs Q E hr h=>hbody f A outer s H vs Q E hr h,b,m,F.kp⟩
theorem aDK {H:Hp}:∀ {nss:List (List Int)} {us:List V},IsL H (nss.map fun ns=>Dv.lst (ns.map Dv.int)) us → ∃ ps:List (Addr × List Int),us = ps.map (fun p=>V.ref p.1) ∧ jY H ps ∧ ps.map (·.2) = nss
 | [],us,h=>⟨[],h,(fun p (m:p ∈ ([]:List (Addr × List Int)))=>absurd m Bk),rfl⟩
 | ns :: nss,us,h=>by
  obtain ⟨v,vs,rfl,⟨a,xs,rfl,ha,hx⟩,r⟩:=h
  obtain ⟨ps,rfl,it,e⟩:=aDK r
  have ex:xs = ns.map V.int:=by
   clear ha e it r
   induction ns generalizing xs with
   | nil=>exact hx
   | cons n ns ih =>
    obtain ⟨v,vs,rfl,e,r⟩:=hx
    cases (show v = .int n from e)
    rw [ih vs r]
    rfl
  subst ex
  refine ⟨(a,ns) :: ps,rfl,fun p m=>?_,by rw [AY,e]⟩
  rcases Af.mp m with rfl | m
  ·exact ha
  ·exact it p m
theorem pY:∀ k,(fO k).length = 2 ^ k
 | 0=>rfl
 | k + 1=>by unfold fO;rw [Ai,AA,pY k];omega
theorem lN:∀ k,∀ ns ∈ fO k,ns.length ≤ k
 | 0,ns,m=>by rw [AW.mp m];exact AQ _
 | k + 1,ns,m=>by
  unfold fO at m
  rcases Au.mp m with m | m
  ·exact Nat.le_succ_of_le (lN k ns m)
  ·obtain ⟨ms,mm,rfl⟩:=AR.mp m
   rw [Ai,CB]
   exact Nat.succ_le_succ (lN k ms mm)
def aRP:List Nat:=[0,1,2,4,8,16,3,5,9,17,6,10,18,12,20,24,7,11,19,13,21,25,14,22,26,28,15,23,27,29,30,31]
def aCT:Nat → List Nat
 | 5=>aRP
 | 6=>aRO
 | n=>aCS n
theorem aOZ:yE (fO 5) = some aRP.toArray:=by decide +kernel
theorem aAD:∀ n,1 ≤ n → n ≤ 6 → xF (fO n) (aCT n).toArray ∧ (∀ i ∈ aCT n,i < (fO n).length) ∧ (aCT n).length = (fO n).length ∧ ∀ i < (fO n).length,i ∈ aCT n
 | 0,h,_=>by omega
 | 1,_,_=>⟨kL aPD (by decide) (by decide),by decide,rfl,by decide⟩
 | 2,_,_=>⟨kL aPC (by decide) (by decide),by decide,rfl,by decide⟩
 | 3,_,_=>⟨kL aPB (by decide) (by decide),by decide,rfl,by decide⟩
 | 4,_,_=>⟨kL aPA (by decide) (by decide),by decide,rfl,by decide⟩
 | 5,_,_=>⟨kL aOZ (by decide +kernel) (by decide +kernel),by decide +kernel,by decide +kernel,by decide +kernel⟩
 | 6,_,_=>⟨aWI,by decide +kernel,by decide +kernel,by decide +kernel⟩
 | n + 7,_,h=>by omega
def aAP (n:Nat):List (List Int):=(aCT n).map fun i=>(fO n).getD i []
theorem vH {n:Nat} (h1:1 ≤ n) (h4:n ≤ 6) {ns:List Int}:ns ∈ aAP n ↔ ns ∈ fO n:=by
 obtain ⟨_,a,b,c⟩:=aAD n h1 h4
 unfold aAP
 rw [AR]
 constructor
 ·rintro ⟨i,m,rfl⟩
  have hi:=a i m
  rw [Aa,AB hi]
  exact Cv hi
 ·intro m
  obtain ⟨i,hi,e⟩:=DS m
  exact ⟨i,c i hi,by rw [Aa,AB hi];exact e⟩
end L2
namespace Mt73
open PySem L2 Mt22 Mt61
def low (a b:Int):Int × Int:=(a / ((Int.gcd a b:Nat):Int),b / ((Int.gcd a b:Nat):Int))
theorem aBJ {a b:Int} (hb:0 < b):0 < ((Int.gcd a b:Nat):Int):=by
 have:0 < Int.gcd a b:=Int.gcd_pos_of_ne_zero_right a (by omega)
 omega
theorem aTD {n:Nat} (h:n ≤ 1000000):n.log2 < 9000:=by
 rcases Nat.eq_zero_or_pos n with h0 | h0
 ·subst h0;decide
 ·exact (Nat.log2_lt (by omega)).mpr (Nat.lt_of_le_of_lt h (by decide +kernel))
open Classical in
noncomputable def cF (G:List Gap) (co:List Str):Int:=if h:∃ c,eS G co c then h.choose else 0
theorem aDY {G:List Gap} {co:List Str} {c:Int} (h:eS G co c):cF G co = c:=by
 have x:∃ c,eS G co c:=⟨c,h⟩
 unfold cF
 rw [dif_pos x]
 exact eS.uniq x.choose_spec h
theorem aOF {G:List Gap} {a b:List Str} (e:∀ z,z ∈ a ↔ z ∈ b):cF G a = cF G b:=by
 have h:eS G a = eS G b:=funext fun c=>by
  unfold eS
  simp only [e]
 unfold cF
 rw [h]
section
variable {α β:Type} [DecidableEq α] [DecidableEq β]
def pV (v:List α → Int) (z:α) (o:List α):Nat → Int
 | 0=>0
 | k + 1=>pV v z o k + if o[k]? = some z then v (o.take (k + 1)) - v (o.take k) else 0
def rM:Nat → List α → List (List α)
 | 0,_=>[[]]
 | m + 1,zs=>zs.flatMap fun z=>(rM m (zs.filter (fun y=>!decide (y = z)))).map (z :: ·)
theorem aFQ {zs:List α} {z:α} (nd:zs.Nodup) (m:z ∈ zs):(zs.filter fun y=>!decide (y = z)).length + 1 = zs.length:=by
 induction zs with
 | nil=>cases m
 | cons x r ih =>
  have nx:=(Ak.mp nd).1
  rw [Bw]
  by_cases e:x = z
  ·subst e
   rw [decide_eq_true rfl,if_neg (by simp)]
   rw [ET.mpr fun y my=>by simp;exact fun z=>nx (z ▸ my)]
   rfl
  ·rw [decide_eq_false e,if_pos (by simp)]
   rcases Af.mp m with h | h
   ·exact absurd h.symm e
   ·have:=ih (Ak.mp nd).2 h
    rw [Ag,Ag]
    omega
theorem qL:∀ {m:Nat} {zs:List α},zs.Nodup → zs.length = m → ∀ o ∈ rM m zs,o.Nodup ∧ o.length = m ∧ ∀ y,y ∈ o ↔ y ∈ zs
 | 0,zs,nd,l,o,mo=>by
  cases DQ l
  rw [AW.mp mo]
  exact ⟨.nil,rfl,fun _=>Iff.rfl⟩
 | m + 1,zs,nd,l,o,mo=>by
  obtain ⟨z,mz,mo⟩:=Ev.mp mo
  obtain ⟨o',mo',rfl⟩:=AR.mp mo
  have:=aFQ nd mz
  obtain ⟨h1,h2,h3⟩:=qL (CZ Cb nd) (by omega) o' mo'
  have hz:∀ y,y ∈ o' ↔ y ∈ zs ∧ y ≠ z:=fun y=>by rw [h3,Am];simp
  refine ⟨Ak.mpr ⟨fun h=>((hz z).mp h).2 rfl,h1⟩,by rw [Ag,h2],fun y=>?_⟩
  rw [Af,hz]
  by_cases e:y = z
  ·subst e;simp [mz]
  ·simp [e]
theorem filter_map {f:α → β} {zs:List α} {x:α} (inj:∀ a ∈ zs,f a = f x → a = x):(zs.map f).filter (fun y=>!decide (y = f x)) = (zs.filter fun y=>!decide (y = x)).map f:=by
 rw [List.filter_map]
 congr 1
 refine Ei fun a m=>?_
 show (!decide (f a = f x)) = !decide (a = x)
 by_cases e:a = x
 ·subst e;simp
 ·rw [decide_eq_false e,decide_eq_false fun h=>e (inj a m h)]
theorem aFO {f g:α → List β} {l:List α} (h:∀ x ∈ l,f x = g x):l.flatMap f = l.flatMap g:=by
 rw [List.flatMap_def,List.flatMap_def,BZ h]
theorem vL {f:α → β}:∀ {m:Nat} {zs:List α},(∀ a ∈ zs,∀ b ∈ zs,f a = f b → a = b) → rM m (zs.map f) = (rM m zs).map (List.map f)
 | 0,zs,_=>rfl
 | m + 1,zs,inj=>by
  unfold rM
  rw [List.flatMap_map,List.map_flatMap]
  refine aFO fun x mx=>?_
  rw [filter_map fun a ma h=>inj a ma x mx h,vL fun a ma b mb h=>inj a (Am.mp ma).1 b (Am.mp mb).1 h,Ao,Ao]
  rfl
theorem aDS {f:α → β} {v:List β → Int} {o:List α} {i:α} (inj:∀ a ∈ o,f a = f i → a = i):∀ k,pV v (f i) (o.map f) k = pV (fun ms=>v (ms.map f)) i o k
 | 0=>rfl
 | k + 1=>by
  have e:((o.map f)[k]? = some (f i)) = (o[k]? = some i):=by
   rw [AK]
   refine propext ⟨fun h=>?_,fun h=>by rw [h];rfl⟩
   obtain ⟨a,ea,h⟩:=Aq.mp h
   rw [ea,inj a (AN ea) h]
  unfold pV
  rw [aDS inj k,List.map_take,List.map_take]
  simp only [e]
theorem wV {v v':List α → Int} {o:List α} {i:α} (h:∀ k,v (o.take k) = v' (o.take k)):∀ k,pV v i o k = pV v' i o k
 | 0=>rfl
 | k + 1=>by
  unfold pV
  rw [wV h k,h,h]
end
def tZ (ms:List Nat):Nat:=(if 0 ∈ ms then 1 else 0) + (if 1 ∈ ms then 2 else 0) + (if 2 ∈ ms then 4 else 0) + (if 3 ∈ ms then 8 else 0) + (if 4 ∈ ms then 16 else 0) + (if 5 ∈ ms then 32 else 0)
def places (m:Nat):List Nat:=(Al 6).filter fun i=>decide (m / 2 ^ i % 2 = 1)
theorem kB {ms:List Nat} (h:∀ i ∈ ms,i < 6) (i:Nat):i ∈ places (tZ ms) ↔ i ∈ ms:=by
 unfold places
 rw [Am,Ax,decide_eq_true_iff]
 have key:i < 6 → (tZ ms / 2 ^ i % 2 = 1 ↔ i ∈ ms):=fun hi=>by
  unfold tZ
  have:i = 0 ∨ i = 1 ∨ i = 2 ∨ i = 3 ∨ i = 4 ∨ i = 5:=by omega
  by_cases h0:0 ∈ ms <;> by_cases h1:1 ∈ ms <;> by_cases h2:2 ∈ ms <;> by_cases h3:3 ∈ ms <;> by_cases h4:4 ∈ ms <;> by_cases h5:5 ∈ ms <;> rcases this with rfl | rfl | rfl | rfl | rfl | rfl <;> simp [h0,h1,h2,h3,h4,h5]
 exact ⟨fun ⟨a,b⟩=>(key a).mp b,fun m=>⟨h i m,(key (h i m)).mpr m⟩⟩
def ev (u:Nat → Int) (L:List (Int × Nat)):Int:=sm L fun p=>p.1 * u p.2
theorem sm_add {α:Type} (f g:α → Int):∀ xs:List α,sm xs (fun x=>f x + g x) = sm xs f + sm xs g
 | []=>rfl
 | x :: xs=>by rw [aV,aV,aV,sm_add f g xs];omega
def xE:List Int → Nat → Int → List Int
 | [],_,_=>[]
 | x :: r,0,c=>(x + c) :: r
 | x :: r,k + 1,c=>x :: xE r k c
def dot (u:Nat → Int):List Int → Nat → Int
 | [],_=>0
 | x :: r,j=>x * u j + dot u r (j + 1)
theorem zT:∀ (l:List Int) (k:Nat) (c:Int),(xE l k c).length = l.length
 | [],_,_=>rfl
 | x :: r,0,c=>rfl
 | x :: r,k + 1,c=>by show (xE r k c).length + 1 = r.length + 1;rw [zT]
theorem zU (u:Nat → Int):∀ (l:List Int) (k j:Nat) (c:Int),k < l.length → dot u (xE l k c) j = dot u l j + c * u (j + k)
 | x :: r,0,j,c,_=>by show (x + c) * u j + dot u r (j + 1) = x * u j + dot u r (j + 1) + c * u j;rw [Int.add_mul];omega
 | x :: r,k + 1,j,c,h=>by
  show x * u j + dot u (xE r k c) (j + 1) = x * u j + dot u r (j + 1) + c * u (j + (k + 1))
  rw [zU u r k (j + 1) c (by simpa using h),show j + 1 + k = j + (k + 1) by omega]
  omega
def aFK (l:List Int):List (Int × Nat) → List Int
 | []=>l
 | p :: L=>aFK (xE l p.2 p.1) L
theorem wI (u:Nat → Int):∀ (L:List (Int × Nat)) (l:List Int),(∀ p ∈ L,p.2 < l.length) → dot u (aFK l L) 0 = dot u l 0 + ev u L
 | [],l,_=>by show dot u l 0 = dot u l 0 + 0;omega
 | p :: L,l,h=>by
  show dot u (aFK (xE l p.2 p.1) L) 0 = _
  rw [wI u L _ fun q m=>by rw [zT];exact h q (AO _ m),zU u l p.2 0 p.1 (h p AU),Nat.zero_add]
  unfold ev
  rw [aV]
  omega
def aIJ:List Int:=[0,0,0,0,0,0,0,0,0,0,0,0,0,0,0,0,0,0,0,0,0,0,0,0,0,0,0,0,0,0,0,0,0,0,0,0,0,0,0,0,0,0,0,0,0,0,0,0,0,0,0,0,0,0,0,0,0,0,0,0,0,0,0,0]
theorem aHJ (ms:List Nat):tZ ms < 64:=by
 unfold tZ
 split <;> split <;> split <;> split <;> split <;> split <;> decide
def chk (a b:List (Int × Nat)):Bool:=decide (aFK aIJ a = aFK aIJ b)
theorem aOB {a b:List (Int × Nat)} (h:chk a b = true) (ha:∀ p ∈ a,p.2 < 64) (hb:∀ p ∈ b,p.2 < 64) (u:Nat → Int):ev u a = ev u b:=by
 have e:aFK aIJ a = aFK aIJ b:=of_decide_eq_true h
 have h1:=wI u a aIJ ha
 have h2:=wI u b aIJ hb
 rw [e] at h1
 omega
def aKC (i:Nat) (o:List Nat):Nat → List (Int × Nat)
 | 0=>[]
 | k + 1=>aKC i o k ++ if o[k]? = some i then [(1,tZ (o.take (k + 1))),(-1,tZ (o.take k))] else []
theorem aIF (i:Nat) (o:List Nat):∀ k,∀ p ∈ aKC i o k,p.2 < 64
 | 0,p,m=>nomatch m
 | k + 1,p,m=>by
  unfold aKC at m
  rcases Au.mp m with m | m
  ·exact aIF i o k p m
  ·split at m
   ·simp only [Af,AW,Bk,or_false] at m
    rcases m with rfl | rfl <;> exact aHJ _
   ·cases m
theorem aNP (u:Nat → Int) (a b:List (Int × Nat)):ev u (a ++ b) = ev u a + ev u b:=uV _ _ _
theorem aIG (u:Nat → Int) (i:Nat) (o:List Nat):∀ k,ev u (aKC i o k) = pV (fun ms=>u (tZ ms)) i o k
 | 0=>rfl
 | k + 1=>by
  unfold aKC pV
  rw [aNP,aIG u i o k]
  by_cases e:o[k]? = some i
  ·rw [if_pos e,if_pos e]
   show _ + ev u [(1,_),(-1,_)] = _
   unfold ev
   rw [aV,aV,kG]
   dsimp only
   omega
  ·rw [if_neg e,if_neg e];rfl
theorem qZ {α:Type} (u:Nat → Int) (f:α → List (Int × Nat)):∀ l:List α,ev u (l.flatMap f) = sm l fun x=>ev u (f x)
 | []=>rfl
 | x :: l=>by rw [Di,aNP,qZ u f l,aV]
def fac:Nat → Nat
 | 0=>1
 | n + 1=>fac n * (n + 1)
def tm (v:List Str → Int) (zs:List Str) (z:Str) (co:List Str):Int:=if z ∈ co then 0 else ((fac co.length * fac (zs.length - co.length - 1):Nat):Int) * (v (zs.filter fun y=>decide (y = z) || decide (y ∈ co)) - v co)
def tmR (n i:Nat) (ns:List Nat):List (Int × Nat):=if i ∈ ns then [] else [(((fac ns.length * fac (n - ns.length - 1):Nat):Int),tZ ((Al n).filter fun y=>decide (y = i) || decide (y ∈ ns))),(-((fac ns.length * fac (n - ns.length - 1):Nat):Int),tZ ns)]
theorem aEH (n i:Nat) (ns:List Nat):∀ p ∈ tmR n i ns,p.2 < 64:=by
 intro p m
 unfold tmR at m
 split at m
 ·cases m
 ·simp only [Af,AW,Bk,or_false] at m
  rcases m with rfl | rfl <;> exact aHJ _
theorem uN {α:Type} {f:α → List (Int × Nat)} (h:∀ x,∀ p ∈ f x,p.2 < 64) (l:List α):∀ p ∈ l.flatMap f,p.2 < 64:=fun p m=>by
 obtain ⟨x,_,m⟩:=Ev.mp m
 exact h x p m
def plN (n:Nat):List (List Nat):=(aAP n).map (List.map Int.toNat)
def aEZ (n i:Nat):Bool:=chk ((rM n (Al n)).flatMap fun o=>aKC i o n) ((plN n).flatMap (tmR n i))
theorem ok1:(Al 1).all (aEZ 1) = true:=by decide +kernel
theorem ok2:(Al 2).all (aEZ 2) = true:=by decide +kernel
theorem ok3:(Al 3).all (aEZ 3) = true:=by decide +kernel
theorem ok4:(Al 4).all (aEZ 4) = true:=by decide +kernel
theorem ok5:(Al 5).all (aEZ 5) = true:=by decide +kernel
theorem ok6:(Al 6).all (aEZ 6) = true:=by decide +kernel
theorem aWN:∀ n i,1 ≤ n → n ≤ 6 → i < n → aEZ n i = true:=by
 intro n i n1 n4 hi
 have:n = 1 ∨ n = 2 ∨ n = 3 ∨ n = 4 ∨ n = 5 ∨ n = 6:=by omega
 rcases this with rfl | rfl | rfl | rfl | rfl | rfl
 ·exact BA.mp ok1 i (Ax.mpr hi)
 ·exact BA.mp ok2 i (Ax.mpr hi)
 ·exact BA.mp ok3 i (Ax.mpr hi)
 ·exact BA.mp ok4 i (Ax.mpr hi)
 ·exact BA.mp ok5 i (Ax.mpr hi)
 ·exact BA.mp ok6 i (Ax.mpr hi)
theorem rL:∀ n,1 ≤ n → n ≤ 6 → ∀ ns ∈ plN n,∀ i ∈ ns,i < n:=by
 intro n n1 n4
 have:n = 1 ∨ n = 2 ∨ n = 3 ∨ n = 4 ∨ n = 5 ∨ n = 6:=by omega
 rcases this with rfl | rfl | rfl | rfl | rfl | rfl <;> decide +kernel
theorem aJC:∀ n,1 ≤ n → n ≤ 6 → (plN n).Nodup:=by
 intro n n1 n4
 have:n = 1 ∨ n = 2 ∨ n = 3 ∨ n = 4 ∨ n = 5 ∨ n = 6:=by omega
 rcases this with rfl | rfl | rfl | rfl | rfl | rfl <;> decide +kernel
theorem aPP:∀ n,1 ≤ n → n ≤ 6 → ∀ ns ∈ plN n,∀ i ∈ Al n,i ∉ ns → ns.length < n:=by
 intro n n1 n4
 have:n = 1 ∨ n = 2 ∨ n = 3 ∨ n = 4 ∨ n = 5 ∨ n = 6:=by omega
 rcases this with rfl | rfl | rfl | rfl | rfl | rfl <;> decide +kernel
theorem aMC:∀ n,1 ≤ n → n ≤ 6 → (plN n).length ≤ 64:=by
 intro n n1 n4
 have:n = 1 ∨ n = 2 ∨ n = 3 ∨ n = 4 ∨ n = 5 ∨ n = 6:=by omega
 rcases this with rfl | rfl | rfl | rfl | rfl | rfl <;> decide +kernel
theorem mN (p:Nat → Bool):∀ k,((Al k).filter p).map Int.ofNat ∈ fO k
 | 0=>AW.mpr rfl
 | k + 1=>by
  rw [EA,Bt,AX]
  unfold fO
  cases e:p k with
  | true =>
   refine An _ (AR.mpr ⟨_,mN p k,?_⟩)
   rw [Bw,if_pos e]
   rfl
  | false =>
   refine Bh _ ?_
   rw [Bw,if_neg (by rw [e];exact AV)]
   show _ ++ [] ∈ _
   rw [Bz]
   exact mN p k
theorem aEU (p:Nat → Bool):∀ n,1 ≤ n → n ≤ 6 → (Al n).filter p ∈ plN n:=fun n n1 n4=>by
 refine AR.mpr ⟨_,(vH n1 n4).mpr (mN p n),?_⟩
 rw [Ao]
 conv=>rhs;rw [← FB ((Al n).filter p)]
 exact BZ fun i _=>rfl
theorem aMM:∀ n,1 ≤ n → n ≤ 6 → (rM n (Al n)).length = fac n:=by
 intro n n1 n4
 have:n = 1 ∨ n = 2 ∨ n = 3 ∨ n = 4 ∨ n = 5 ∨ n = 6:=by omega
 rcases this with rfl | rfl | rfl | rfl | rfl | rfl <;> decide +kernel
theorem sM (zs:List Str):zs = (Al zs.length).map fun i=>zs.getD i "":=by
 refine List.ext_getElem (by simp) fun i h1 h2=>?_
 rw [Cc,List.getElem_range,Aa,AB h1]
 rfl
theorem kI {zs:List Str} (nd:zs.Nodup) {a b:Nat} (ha:a < zs.length) (hb:b < zs.length) (e:zs.getD a "" = zs.getD b ""):a = b:=by
 rw [Aa,Aa,AB ha,AB hb] at e
 have nd':=De.mp nd
 rcases Nat.lt_trichotomy a b with h | h | h
 ·exact absurd e (nd' a b ha hb h)
 ·exact h
 ·exact absurd (show zs[b] = zs[a] from (show zs[a] = zs[b] from e).symm) (nd' b a hb ha h)
theorem sF {zs:List Str} (q:Str → Bool):zs.filter q = ((Al zs.length).filter fun i=>q (zs.getD i "")).map fun i=>zs.getD i "":=by
 conv=>lhs;rw [sM zs]
 rw [List.filter_map]
 rfl
theorem aVA {zs:List Str} (nd:zs.Nodup) (n1:1 ≤ zs.length) (n4:zs.length ≤ 6) {v:List Str → Int} (cg:∀ a b:List Str,(∀ z,z ∈ a ↔ z ∈ b) → v a = v b) {z:Str} (mz:z ∈ zs) :
  sm (rM zs.length zs) (fun o=>pV v z o zs.length) = sm (plN zs.length) fun ns=>tm v zs z (ns.map fun i=>zs.getD i ""):=by
 obtain ⟨i,hi,rfl⟩:=DS mz
 have ei:zs[i] = zs.getD i "":=by rw [Aa,AB hi];rfl
 rw [ei]
 have key:=aOB (aWN zs.length i n1 n4 hi) (uN (fun o=>aIF i o _) _) (uN (aEH _ i) _) fun m=>v ((places m).map fun i=>zs.getD i "")
 have vm:∀ ms:List Nat,(∀ i ∈ ms,i < 6) → v (ms.map fun i=>zs.getD i "") = v ((places (tZ ms)).map fun i=>zs.getD i ""):=fun ms h=>by
  refine cg _ _ fun y=>?_
  rw [AR,AR]
  exact ⟨fun ⟨a,ma,e⟩=>⟨a,(kB h a).mpr ma,e⟩,fun ⟨a,ma,e⟩=>⟨a,(kB h a).mp ma,e⟩⟩
 rw [qZ,qZ] at key
 have rl:∀ o ∈ rM zs.length (Al zs.length),∀ a ∈ o,a < zs.length:=fun o mo a ma=>Ax.mp (((qL List.nodup_range CU o mo).2.2 a).mp ma)
 have L:rM zs.length zs = (rM zs.length (Al zs.length)).map (List.map fun i=>zs.getD i ""):=by
  conv=>lhs;arg 2;rw [sM zs]
  exact vL fun a ma b mb e=>kI nd (Ax.mp ma) (Ax.mp mb) e
 rw [L]
 have s1:∀ (l:List (List Nat)) (g:List Str → Int),sm (l.map (List.map fun i=>zs.getD i "")) g = sm l fun o=>g (o.map fun i=>zs.getD i ""):=fun l g=>by
  unfold sm
  rw [Ao]
  rfl
 rw [s1]
 refine (cW fun o mo=>?_).trans (key.trans (cW fun ns mn=>?_))
 ·rw [aIG,aDS fun a ma e=>kI nd (rl o mo a ma) hi e]
  exact wV (fun k=>vm _ fun a ma=>Ae (rl o mo a (Cp ma)) n4) _
 ·have lt:=rL _ n1 n4 ns mn
  have eq:(zs.getD i "" ∈ ns.map fun i=>zs.getD i "") = (i ∈ ns):=by
   rw [AR]
   exact propext ⟨fun ⟨a,ma,e⟩=>kI nd (lt a ma) hi e ▸ ma,fun m=>⟨i,m,rfl⟩⟩
  unfold tm tmR
  rw [AA]
  by_cases m:i ∈ ns
  ·rw [if_pos m,if_pos (eq ▸ m)];rfl
  ·rw [if_neg m,if_neg (fun h=>m (eq ▸ h))]
   have ef:(zs.filter fun y=>decide (y = zs.getD i "") || decide (y ∈ ns.map fun i=>zs.getD i "")) = ((Al zs.length).filter fun y=>decide (y = i) || decide (y ∈ ns)).map fun i=>zs.getD i "":=by
    rw [sF]
    congr 1
    refine Ei fun a ma=>?_
    have ha:=Ax.mp ma
    have e1:(zs.getD a "" = zs.getD i "") = (a = i):=propext ⟨fun e=>kI nd ha hi e,fun e=>by rw [e]⟩
    have e2:(zs.getD a "" ∈ ns.map fun i=>zs.getD i "") = (a ∈ ns):=by
     rw [AR]
     exact propext ⟨fun ⟨b,mb,e⟩=>kI nd (lt b mb) ha e ▸ mb,fun m=>⟨a,m,rfl⟩⟩
    simp only [e1,e2]
   rw [ef,vm _ (fun a ma=>Ae (Ax.mp (Am.mp ma).1) n4),vm ns fun a ma=>Ae (lt a ma) n4]
   unfold ev
   rw [aV,aV,kG,Int.mul_sub]
   dsimp only
   rw [Int.neg_mul]
   omega
end Mt73
namespace Mt73
open PySem L2 Mt22 Mt61
theorem aKA {X Y:Str → Bool} {g:Gap} (c0:0 ≤ g.cap):lJ (fun z=>X z || Y z) g + lJ (fun z=>X z && Y z) g ≤ lJ X g + lJ Y g:=by
 show (if (X g.a || Y g.a) = (X g.b || Y g.b) then 0 else g.cap) + (if (X g.a && Y g.a) = (X g.b && Y g.b) then 0 else g.cap) ≤ (if X g.a = X g.b then 0 else g.cap) + (if Y g.a = Y g.b then 0 else g.cap)
 generalize X g.a = a
 generalize X g.b = b
 generalize Y g.a = c
 generalize Y g.b = d
 cases a <;> cases b <;> cases c <;> cases d <;> simp <;> omega
theorem aFF {V0:List Str} {G:List Gap} (GG:Gaps V0 G) {one other either both:List Str} (he:∀ z ∈ either,z ∈ one ∨ z ∈ other) (hb:∀ z ∈ both,z ∈ one ∧ z ∈ other) {c1 c2 c3 c4:Int} (h1:eS G one c1) (h2:eS G other c2) (h3:eS G either c3) (h4:eS G both c4):c3 + c4 ≤ c1 + c2:=by
 obtain ⟨⟨X,sX,wX,eX⟩,_⟩:=h1
 obtain ⟨⟨Y,sY,wY,eY⟩,_⟩:=h2
 have q3:=h3.2 (fun z=>X z || Y z) (by show (X Mt22.sea || Y Mt22.sea) = false;rw [sX,sY];rfl) (fun z m=>by
  show (X z || Y z) = true
  rcases he z m with h | h
  ·rw [wX z h];rfl
  ·rw [wY z h,Bool.or_true])
 have q4:=h4.2 (fun z=>X z && Y z) (by show (X Mt22.sea && Y Mt22.sea) = false;rw [sX];rfl) (fun z m=>by
  show (X z && Y z) = true
  rw [wX z (hb z m).1,wY z (hb z m).2];rfl)
 have:cut G (fun z=>X z || Y z) + cut G (fun z=>X z && Y z) ≤ cut G X + cut G Y:=by
  unfold cut
  rw [← Mt61.sm_add,← Mt61.sm_add]
  exact sU fun g m=>aKA (GG.cap g m)
 omega
theorem aFE {G:List Gap} {a b:List Str} {c d:Int} (h:eS G a c) (h':eS G b d) (sub:∀ z ∈ a,z ∈ b):c ≤ d:=by
 obtain ⟨⟨X,s,w,e⟩,_⟩:=h'
 rw [← e]
 exact h.2 X s fun z m=>w z (sub z m)
theorem aTB {P:Nat → Prop}:(∃ n,P n) → ∃ n,P n ∧ ∀ m,P m → n ≤ m:=by
 rintro ⟨n,hn⟩
 induction n using Nat.strongRecOn with
 | _ n ih =>
  by_cases h:∃ m,m < n ∧ P m
  ·obtain ⟨m,lt,pm⟩:=h
   exact ih m lt pm
  ·exact ⟨n,hn,fun m pm=>Nat.le_of_not_lt fun lt=>h ⟨m,lt,pm⟩⟩
theorem aFX {V0:List Str} {G:List Gap} (GG:Gaps V0 G) (X:Str → Bool):0 ≤ cut G X:=by
 have:sm G (fun _=>(0:Int)) ≤ sm G (lJ X):=sU fun g m=>by
  have:=GG.cap g m
  unfold lJ
  split <;> omega
 rw [eB fun _ _=>rfl] at this
 exact this
theorem aMS {V0:List Str} {G:List Gap} (GG:Gaps V0 G) {co:List Str} (ns:Mt22.sea ∉ co):∃ c,eS G co c:=by
 obtain ⟨n,⟨X,s,w,e⟩,mn⟩:=aTB (P:=fun n=>∃ X:Str → Bool,X Mt22.sea = false ∧ (∀ z ∈ co,X z = true) ∧ (cut G X).toNat = n) ⟨_,fun z=>decide (z ∈ co),decide_eq_false ns,fun z m=>decide_eq_true m,rfl⟩
 refine ⟨cut G X,⟨X,s,w,rfl⟩,fun Y sY wY=>?_⟩
 have h1:=mn _ ⟨Y,sY,wY,rfl⟩
 have h2:=aFX GG X
 have h3:=aFX GG Y
 omega
theorem aOE {V0:List Str} {G:List Gap} (GG:Gaps V0 G) {co:List Str} (ns:Mt22.sea ∉ co):eS G co (cF G co):=by
 obtain ⟨c,h⟩:=aMS GG ns
 rw [aDY h]
 exact h
structure Fair (zs:List Str) (v:List Str → Int):Prop where
 cg:∀ a b:List Str,(∀ z,z ∈ a ↔ z ∈ b) → v a = v b
 none:v [] = 0
 mono:∀ a b:List Str,(∀ z ∈ a,z ∈ b) → (∀ z ∈ b,z ∈ zs) → v a ≤ v b
 sub:∀ a b e c:List Str,(∀ z ∈ e,z ∈ a ∨ z ∈ b) → (∀ z ∈ c,z ∈ a ∧ z ∈ b) → (∀ z ∈ a,z ∈ zs) → (∀ z ∈ b,z ∈ zs) → v e + v c ≤ v a + v b
theorem aHT {V0:List Str} {G:List Gap} (GG:Gaps V0 G) {zs:List Str} (ns:Mt22.sea ∉ zs):Fair zs (cF G):=by
 have L:∀ co:List Str,(∀ z ∈ co,z ∈ zs) → eS G co (cF G co):=fun co h=>aOE GG fun m=>ns (h _ m)
 refine ⟨fun a b e=>aOF e,aDY ⟨⟨fun _=>false,rfl,fun z m=>(nomatch m),eB fun g _=>if_pos rfl⟩,fun X _ _=>aFX GG X⟩,fun a b h1 h2=>aFE (L a fun z m=>h2 z (h1 z m)) (L b h2) h1,fun a b e c h1 h2 h3 h4=>?_⟩
 exact aFF GG h1 h2 (L a h3) (L b h4) (L e fun z m=>(h1 z m).elim (h3 z) (h4 z)) (L c fun z m=>h3 z (h2 z m).1)
theorem aID {v:List Str → Int} {o T:List Str} {k:Nat} (tn:T.Nodup):sm T (fun z=>if o[k]? = some z then v (o.take (k + 1)) - v (o.take k) else 0) = match o[k]? with
  | some y=>if y ∈ T then v (o.take (k + 1)) - v (o.take k) else 0
  | none=>0:=by
 cases e:o[k]? with
 | none=>exact eB fun z _=>if_neg (by simp)
 | some y =>
  show _ = if y ∈ T then _ else _
  induction T with
  | nil=>rw [if_neg (by simp)];rfl
  | cons t r ih =>
   have ih:=ih (Ak.mp tn).2
   rw [aV,ih]
   by_cases h:y = t
   ·subst h
    rw [if_pos rfl,if_neg (Ak.mp tn).1,if_pos AU,Ep]
   ·rw [if_neg (fun z=>h (Aw z)),DK]
    by_cases m:y ∈ r
    ·rw [if_pos m,if_pos (AO _ m)]
    ·rw [if_neg m,if_neg (fun z=>(Af.mp z).elim h m)]
theorem aIC {v:List Str → Int} {o T:List Str} {k:Nat}:sm T (fun z=>pV v z o (k + 1)) = sm T (fun z=>pV v z o k) + sm T (fun z=>if o[k]? = some z then v (o.take (k + 1)) - v (o.take k) else 0):=by
 rw [← sm_add]
 rfl
theorem aNX {zs:List Str} {v:List Str → Int} (F:Fair zs v) {o T:List Str} (on:o.Nodup) (oz:∀ z ∈ o,z ∈ zs) (tn:T.Nodup):∀ k,k ≤ o.length → sm T (fun z=>pV v z o k) ≤ v ((o.take k).filter fun z=>decide (z ∈ T))
 | 0,_=>by
  rw [EG,FE,F.none]
  exact Int.le_of_eq (eB fun _ _=>rfl)
 | k + 1,hk=>by
  have ih:=aNX F on oz tn k (by omega)
  obtain ⟨y,ey⟩:∃ y,o[k]? = some y:=⟨_,AB (by omega)⟩
  have my:y ∈ o:=AN ey
  have et:o.take (k + 1) = o.take k ++ [y]:=by rw [Ab,ey];rfl
  have ny:y ∉ o.take k:=fun m=>by
   obtain ⟨j,hj⟩:=BD.mp m
   rw [List.getElem?_take] at hj
   split at hj
   ·have:=qQ on hj ey
    omega
   ·cases hj
  rw [aIC,aID tn,ey]
  show _ + (if y ∈ T then _ else _) ≤ _
  rw [et,Bt]
  by_cases m:y ∈ T
  ·rw [if_pos m,Bw,if_pos (decide_eq_true m),FE]
   have:=F.sub (o.take k) ((o.take k).filter (fun z=>decide (z ∈ T)) ++ [y]) (o.take k ++ [y]) ((o.take k).filter fun z=>decide (z ∈ T)) (fun z h=>by
    rcases Au.mp h with h | h
    ·exact .inl h
    ·exact .inr (An _ h)) (fun z h=>⟨(Am.mp h).1,Bh _ h⟩) (fun z h=>oz z (Cp h)) (fun z h=>by
    rcases Au.mp h with h | h
    ·exact oz z (Cp (Am.mp h).1)
    ·rw [AW.mp h];exact oz y my)
   omega
  ·rw [if_neg m,Bw,if_neg (by rw [decide_eq_false m];exact AV),FE,Bz]
   omega
theorem aIE {v:List Str → Int} (v0:v [] = 0) {o zs:List Str} (zn:zs.Nodup) (oz:∀ z ∈ o,z ∈ zs):∀ k,k ≤ o.length → sm zs (fun z=>pV v z o k) = v (o.take k)
 | 0,_=>by
  rw [EG,v0]
  exact eB fun _ _=>rfl
 | k + 1,hk=>by
  obtain ⟨y,ey⟩:∃ y,o[k]? = some y:=⟨_,AB (by omega)⟩
  rw [aIC,aIE v0 zn oz k (by omega),aID zn,ey]
  show _ + (if y ∈ zs then _ else _) = _
  rw [if_pos (oz y (AN ey))]
  omega
theorem aGT {α β:Type} (f:α → β → Int):∀ (xs:List α) (ys:List β),sm xs (fun x=>sm ys (f x)) = sm ys fun y=>sm xs fun x=>f x y
 | [],ys=>(eB fun _ _=>rfl).symm
 | x :: xs,ys=>by
  rw [aV,aGT f xs ys,← sm_add]
  exact cW fun y _=>(aV x xs fun x=>f x y).symm
theorem uU {α:Type} (c:Int):∀ xs:List α,sm xs (fun _=>c) = (xs.length:Int) * c
 | []=>by rw [kG];show 0 = ((0:Nat):Int) * c;omega
 | x :: xs=>by rw [aV,uU c xs,Ag,Int.natCast_add,Int.add_mul];omega
def shr (v:List Str → Int) (zs:List Str) (z:Str):Int:=sm (plN zs.length) fun ns=>tm v zs z (ns.map fun i=>zs.getD i "")
theorem yL {zs:List Str} (nd:zs.Nodup) (n1:1 ≤ zs.length) (n4:zs.length ≤ 6):(rM zs.length zs).length = fac zs.length:=by
 have h:=aMM zs.length n1 n4
 rw [← h]
 conv=>lhs;arg 1;arg 2;rw [sM zs]
 rw [vL fun a ma b mb e=>kI nd (Ax.mp ma) (Ax.mp mb) e,AA]
theorem aGW {zs:List Str} (nd:zs.Nodup) (n1:1 ≤ zs.length) (n4:zs.length ≤ 6) {v:List Str → Int} (F:Fair zs v) {T:List Str} (tz:∀ z ∈ T,z ∈ zs):sm T (shr v zs) = sm (rM zs.length zs) fun o=>sm T fun z=>pV v z o zs.length:=by
 rw [← aGT]
 exact cW fun z m=>(aVA nd n1 n4 F.cg (tz z m)).symm
theorem aLL {zs:List Str} (nd:zs.Nodup) (n1:1 ≤ zs.length) (n4:zs.length ≤ 6) {v:List Str → Int} (F:Fair zs v) {T:List Str} (tn:T.Nodup) (tz:∀ z ∈ T,z ∈ zs):sm T (shr v zs) ≤ ((fac zs.length:Nat):Int) * v T:=by
 rw [aGW nd n1 n4 F tz,← yL nd n1 n4,← uU]
 refine sU fun o mo=>?_
 obtain ⟨on,ol,om⟩:=qL nd rfl o mo
 have:=aNX F on (fun z m=>(om z).mp m) tn o.length (AQ _)
 rw [AH (AQ _),ol] at this
 refine Int.le_trans this (Int.le_of_eq (F.cg _ _ fun z=>?_))
 rw [Am,decide_eq_true_iff]
 exact ⟨fun h=>h.2,fun h=>⟨(om z).mpr (tz z h),h⟩⟩
theorem aGX {zs:List Str} (nd:zs.Nodup) (n1:1 ≤ zs.length) (n4:zs.length ≤ 6) {v:List Str → Int} (F:Fair zs v):sm zs (shr v zs) = ((fac zs.length:Nat):Int) * v zs:=by
 rw [aGW nd n1 n4 F fun z m=>m,← yL nd n1 n4,← uU]
 refine cW fun o mo=>?_
 obtain ⟨on,ol,om⟩:=qL nd rfl o mo
 have:=aIE F.none (o:=o) nd (fun z m=>(om z).mp m) o.length (AQ _)
 rw [AH (AQ _),ol] at this
 exact this.trans (F.cg _ _ om)
theorem mP (p:Str → Bool) (f:Str → Int):∀ xs:List Str,sm xs f = sm (xs.filter p) f + sm (xs.filter fun z=>!p z) f
 | []=>rfl
 | x :: xs=>by
  rw [aV,mP p f xs,Bw,Bw]
  cases p x with
  | true=>rw [if_pos rfl,if_neg (by simp),aV];omega
  | false=>rw [if_neg AV,if_pos (show (!false) = true from rfl),aV];omega
theorem aPE {α:Type} {f:α → Int} {a b:List α} (h:a.Perm b):sm a f = sm b f:=by
 induction h with
 | nil=>rfl
 | cons x _ ih=>rw [aV,aV,ih]
 | swap x y l=>rw [aV,aV,aV,aV];omega
 | trans _ _ h1 h2=>rw [h1,h2]
theorem aSK {zs:List Str} (nd:zs.Nodup) (n1:1 ≤ zs.length) (n4:zs.length ≤ 6) {v:List Str → Int} (F:Fair zs v) {T:List Str} (tn:T.Nodup) (tz:∀ z ∈ T,z ∈ zs):((fac zs.length:Nat):Int) * (v zs - v (zs.filter fun z=>!decide (z ∈ T))) ≤ sm T (shr v zs):=by
 have h1:=aGX nd n1 n4 F
 have h2:=aLL nd n1 n4 F (T:=zs.filter fun z=>!decide (z ∈ T)) (CZ Cb nd) fun z m=>(Am.mp m).1
 rw [mP (fun z=>decide (z ∈ T))] at h1
 have h3:sm (zs.filter fun z=>decide (z ∈ T)) (shr v zs) = sm T (shr v zs):=aPE ((List.perm_ext_iff_of_nodup (CZ Cb nd) tn).mpr fun z=>by
  rw [Am,decide_eq_true_iff]
  exact ⟨fun h=>h.2,fun h=>⟨tz z h,h⟩⟩)
 rw [Int.mul_sub]
 omega
theorem aSJ {zs:List Str} (n1:1 ≤ zs.length) (n4:zs.length ≤ 6) {v:List Str → Int} (F:Fair zs v) {z:Str}:0 ≤ shr v zs z:=by
 unfold shr
 have h0:sm (plN zs.length) (fun _=>(0:Int)) = 0:=eB fun _ _=>rfl
 rw [← h0]
 refine sU fun ns mn=>?_
 unfold tm
 split
 ·exact EN _
 ·refine FM (Int.natCast_nonneg _) (Int.sub_nonneg_of_le (F.mono _ _ (fun y my=>?_) fun y my=>(Am.mp my).1))
  have mz:y ∈ zs:=by
   obtain ⟨i,mi,rfl⟩:=AR.mp my
   have:=rL _ n1 n4 ns mn i mi
   rw [Aa,AB this]
   exact Cv this
  exact Am.mpr ⟨mz,by rw [decide_eq_true my,Bool.or_true]⟩
theorem aRD {zs:List Str} (nd:zs.Nodup) (n4:zs.length ≤ 6) {v:List Str → Int} (cg:∀ a b:List Str,(∀ z,z ∈ a ↔ z ∈ b) → v a = v b) {i:Nat} (hi:i < zs.length) {ns:List Nat} (lt:∀ i ∈ ns,i < zs.length) :
  tm v zs (zs.getD i "") (ns.map fun i=>zs.getD i "") = ev (fun m=>v ((places m).map fun i=>zs.getD i "")) (tmR zs.length i ns):=by
 have vm:∀ ms:List Nat,(∀ i ∈ ms,i < 6) → v (ms.map fun i=>zs.getD i "") = v ((places (tZ ms)).map fun i=>zs.getD i ""):=fun ms h=>by
  refine cg _ _ fun y=>?_
  rw [AR,AR]
  exact ⟨fun ⟨a,ma,e⟩=>⟨a,(kB h a).mpr ma,e⟩,fun ⟨a,ma,e⟩=>⟨a,(kB h a).mp ma,e⟩⟩
 have eq:(zs.getD i "" ∈ ns.map fun i=>zs.getD i "") = (i ∈ ns):=by
  rw [AR]
  exact propext ⟨fun ⟨a,ma,e⟩=>kI nd (lt a ma) hi e ▸ ma,fun m=>⟨i,m,rfl⟩⟩
 unfold tm tmR
 rw [AA]
 by_cases m:i ∈ ns
 ·rw [if_pos m,if_pos (eq ▸ m)];rfl
 ·rw [if_neg m,if_neg (fun h=>m (eq ▸ h))]
  have ef:(zs.filter fun y=>decide (y = zs.getD i "") || decide (y ∈ ns.map fun i=>zs.getD i "")) = ((Al zs.length).filter fun y=>decide (y = i) || decide (y ∈ ns)).map fun i=>zs.getD i "":=by
   rw [sF]
   congr 1
   refine Ei fun a ma=>?_
   have ha:=Ax.mp ma
   have e1:(zs.getD a "" = zs.getD i "") = (a = i):=propext ⟨fun e=>kI nd ha hi e,fun e=>by rw [e]⟩
   have e2:(zs.getD a "" ∈ ns.map fun i=>zs.getD i "") = (a ∈ ns):=by
    rw [AR]
    exact propext ⟨fun ⟨b,mb,e⟩=>kI nd (lt b mb) ha e ▸ mb,fun m=>⟨a,m,rfl⟩⟩
   simp only [e1,e2]
  rw [ef,vm _ (fun a ma=>Ae (Ax.mp (Am.mp ma).1) n4),vm ns fun a ma=>Ae (lt a ma) n4]
  unfold ev
  rw [aV,aV,kG,Int.mul_sub]
  dsimp only
  rw [Int.neg_mul]
  omega
def okR (n i:Nat):Bool:=chk ((plN n).flatMap (tmR n i)) ((plN n).flatMap fun ns=>tmR n i (ns.map fun j=>n - 1 - j))
theorem aQA:((Al 7).all fun n=>(Al n).all (okR n)) = true:=by decide +kernel
theorem aPF {zs:List Str} (nd:zs.Nodup) (n1:1 ≤ zs.length) (n4:zs.length ≤ 6) {v:List Str → Int} (F:Fair zs v) {z:Str} (mz:z ∈ zs):shr v zs.reverse z = shr v zs z:=by
 obtain ⟨i,hi,rfl⟩:=DS mz
 have ei:zs[i] = zs.getD i "":=by rw [Aa,AB hi];rfl
 rw [ei]
 have ok:okR zs.length i = true:=BA.mp (BA.mp aQA zs.length (Ax.mpr (by omega))) i (Ax.mpr hi)
 have key:=aOB ok (uN (aEH _ i) _) (uN (fun ns=>aEH _ i _) _) fun m=>v ((places m).map fun i=>zs.getD i "")
 rw [qZ,qZ] at key
 unfold shr
 rw [Ba]
 refine (cW fun ns mn=>?_).trans (key.symm.trans (cW fun ns mn=>(aRD nd n4 F.cg hi (rL _ n1 n4 ns mn)).symm))
 have lt:=rL _ n1 n4 ns mn
 have em:(ns.map fun i=>zs.reverse.getD i "") = (ns.map fun j=>zs.length - 1 - j).map fun i=>zs.getD i "":=by
  rw [Ao]
  refine BZ fun j mj=>?_
  show zs.reverse.getD j "" = zs.getD (zs.length - 1 - j) ""
  rw [Aa,Aa,List.getElem?_reverse (lt j mj)]
 rw [em,← aRD nd n4 F.cg hi (ns:=ns.map fun j=>zs.length - 1 - j) fun j mj=>by
  obtain ⟨k,_,rfl⟩:=AR.mp mj
  omega]
 unfold tm
 rw [Ba]
 split
 ·rfl
 ·rw [F.cg (zs.reverse.filter _) (zs.filter fun y=>decide (y = zs.getD i "") || decide (y ∈ (ns.map fun j=>zs.length - 1 - j).map fun i=>zs.getD i "")) fun y=>by rw [Am,Am,Eu]]
theorem aBA {k a b:Int} (hk:0 < k) (hb:0 < b):low (k * a) (k * b) = low a b:=by
 have e:((Int.gcd (k * a) (k * b):Nat):Int) = k * ((Int.gcd a b:Nat):Int):=by
  rw [Int.gcd_mul_left,FH,Int.natAbs_of_nonneg (by omega)]
 unfold low
 rw [e,Int.mul_ediv_mul_of_pos _ _ hk,Int.mul_ediv_mul_of_pos _ _ hk]
theorem kX (a:Int) {b:Int} (hb:0 < b):∃ g:Int,0 < g ∧ a = g * (low a b).1 ∧ b = g * (low a b).2 ∧ 0 < (low a b).2 ∧ (low a b).2 ≤ b:=by
 have hg:=aBJ (a:=a) hb
 have h1:((Int.gcd a b:Nat):Int) * (low a b).1 = a:=Int.mul_ediv_cancel' (Int.gcd_dvd_left _ _)
 have h2:((Int.gcd a b:Nat):Int) * (low a b).2 = b:=Int.mul_ediv_cancel' (Int.gcd_dvd_right _ _)
 have h3:0 < (low a b).2:=by
  refine Int.pos_of_mul_pos_right (a:=((Int.gcd a b:Nat):Int)) ?_ hg
  rw [h2]
  exact hb
 refine ⟨_,hg,h1.symm,h2.symm,h3,?_⟩
 have:1 * (low a b).2 ≤ ((Int.gcd a b:Nat):Int) * (low a b).2:=Int.mul_le_mul_of_nonneg_right (by omega) (DZ h3)
 rw [h2] at this
 omega
theorem aQH {X t F:Int} (hF:0 < F):low ((low X F).1 * (low t F).2 + (low t F).1 * (low X F).2) ((low X F).2 * (low t F).2) = low (X + t) F:=by
 obtain ⟨g,hg,e1,e2,p2,_⟩:=kX X hF
 obtain ⟨h,hh,f1,f2,q2,_⟩:=kX t hF
 generalize (low X F).1 = a at *
 generalize (low X F).2 = b at *
 generalize (low t F).1 = c at *
 generalize (low t F).2 = d at *
 rw [← aBA (k:=g * h) (Int.mul_pos hg hh) (Int.mul_pos p2 q2),← aBA (k:=F) (a:=X + t) hF hF]
 have k1:g * h * (a * d + c * b) = F * (X + t):=by
  have x1:g * h * (a * d) = X * F:=by rw [show g * h * (a * d) = g * a * (h * d) by ac_rfl,← e1,← f2]
  have x2:g * h * (c * b) = t * F:=by rw [show g * h * (c * b) = h * c * (g * b) by ac_rfl,← f1,← e2]
  rw [Int.mul_add,x1,x2,Int.mul_add,Int.mul_comm X,Int.mul_comm t]
 have k2:g * h * (b * d) = F * F:=by rw [show g * h * (b * d) = g * b * (h * d) by ac_rfl,← e2,← f2]
 rw [k1,k2]
end Mt73
namespace Mt61
open PySem L2 Mt22 Mt31
structure CameG (zs:List Str) (S:List Mt22.St) (cm:Cm):Prop where
 nd:(keys cm).Nodup
 le:zs.length ≤ cm.length
 first:∀ (i:Nat) (z:Str),zs[i]? = some z → cm[i]? = some (z,none)
 prev:∀ (i:Nat) (z:Str) (o:Option Mt22.St),zs.length ≤ i → cm[i]? = some (z,o) → ∃ s,o = some s ∧ s ∈ S ∧ s.far = z ∧ s.near ∈ keys (cm.take i)
theorem CameG.snoc {zs:List Str} {S:List Mt22.St} {cm:Cm} (h:CameG zs S cm) {s:Mt22.St} (ms:s ∈ S) (hn:s.near ∈ keys cm) (hf:s.far ∉ keys cm):CameG zs S (cm ++ [(s.far,some s)]) where
 nd:=by
  rw [lA,Dh]
  refine ⟨h.nd,by simp [keys],fun a ha b hb=>?_⟩
  have:b = s.far:=by simpa [keys] using hb
  rw [this]
  exact fun e=>hf (e ▸ ha)
 le:=by
  rw [Ai]
  have:=h.le
  omega
 first i z e:=by
  have:=(AC.mp e).1
  have:=h.le
  rw [Bd (by omega)]
  exact h.first i z e
 prev i z o hi e:=by
  by_cases hl:i < cm.length
  ·rw [Bd hl] at e
   obtain ⟨t,h1,h2,h3,h4⟩:=h.prev i z o hi e
   exact ⟨t,h1,h2,h3,by rw [List.take_append_of_le_length (En hl)];exact h4⟩
  ·have hlen:=(AC.mp e).1
   rw [Ai] at hlen
   have hi':i = cm.length:=by
    have:([(s.far,some s)]:Cm).length = 1:=rfl
    omega
   subst hi'
   rw [CN (AQ _),Nat.sub_self] at e
   cases e
   refine ⟨s,rfl,ms,rfl,?_⟩
   rw [List.take_append_of_le_length (AQ _),AH (AQ _)]
   exact hn
theorem CameG.init {zs:List Str} (S:List Mt22.St) (nd:zs.Nodup):CameG zs S (zs.map fun z=>(z,none)) where
 nd:=by
  have:keys (zs.map fun z=>((z,none):Str × Option Mt22.St)) = zs:=by unfold keys;rw [Ao];exact FB _
  rw [this]
  exact nd
 le:=by rw [AA];exact AQ _
 first i z e:=by rw [AK,e];rfl
 prev i z o hi e:=by
  have:=(AC.mp e).1
  rw [AA] at this
  omega
theorem CameG.came {S:List Mt22.St} {cm:Cm} (h:CameG [Mt22.sea] S cm):Came S cm:=⟨h.nd,h.first 0 _ rfl,fun i z o hi e=>h.prev i z o (by show 1 ≤ i;omega) e⟩
theorem CameG.mem {zs:List Str} {S:List Mt22.St} {cm:Cm} (h:CameG zs S cm) {z:Str} (m:z ∈ keys cm):z ∈ zs ∨ ∃ s ∈ S,s.far = z:=by
 unfold keys at m
 obtain ⟨x,mx,rfl⟩:=AR.mp m
 obtain ⟨i,hi⟩:=BD.mp mx
 by_cases hl:i < zs.length
 ·obtain ⟨z,ez⟩:∃ z,zs[i]? = some z:=⟨_,AB hl⟩
  have:=h.first i z ez
  rw [hi] at this
  cases this
  exact .inl (AN ez)
 ·obtain ⟨s,_,ms,e,_⟩:=h.prev i x.1 x.2 (by omega) hi
  exact .inr ⟨s,ms,e⟩
theorem CameG.start {zs:List Str} {S:List Mt22.St} {cm:Cm} (h:CameG zs S cm) {z:Str} (m:z ∈ zs):z ∈ keys cm:=by
 obtain ⟨i,hi⟩:=BD.mp m
 exact AR.mpr ⟨_,AN (h.first i z hi),rfl⟩
theorem nA {S:List Mt22.St} {cm:Cm} (c:uD S cm cm.length):∀ s ∈ S,s.near ∈ keys cm → s.far ∈ keys cm:=fun s ms hn=>by
 obtain ⟨i,hi⟩:=BD.mp hn
 have hl:=(AC.mp hi).1
 unfold keys at hl
 rw [AA] at hl
 exact c i _ hl hi s ms rfl
end Mt61
namespace Mt05
open PySem L2 Ld Mt02
def noS (z:Str):Prop:=¬ (115:Nat) ∈ z.cps.toList
structure NamesS (zs:List Str) (n:Nat):Prop where
 nm:Names zs n
 nos:∀ z ∈ zs,noS z
end Mt05
namespace Mt53
open PySem L2 Ld Mt02 Mt04
def aLX:Dv → Int
 | .tup [_,_,_,_,.int r,_]=>r
 | _=>0
def vG (ds:List Dv) (z:Str):Int:=(ds.find? fun d=>decide (bA d = z)).elim 0 aLX
theorem aHB {ds:List Dv} (nd:(ds.map bA).Nodup) {d:Dv} (m:d ∈ ds):vG ds (bA d) = aLX d:=by
 have:(ds.find? fun e=>decide (bA e = bA d)) = some d:=by
  induction ds with
  | nil=>cases m
  | cons e ds ih =>
   rw [AY,Ak] at nd
   rw [Bs]
   rcases Af.mp m with rfl | m
   ·rw [decide_eq_true rfl]
   ·have hne:bA e ≠ bA d:=fun c=>nd.1 (c ▸ AR.mpr ⟨d,m,rfl⟩)
    rw [decide_eq_false hne]
    exact ih nd.2 m
 show (ds.find? fun e=>decide (bA e = bA d)).elim 0 aLX = _
 rw [this]
 rfl
def aDU (ds:List Dv) (w:Dv):Int:=vG ds (bA w) * (hOf w - hZ ds (bA w))
def aBK (ds ws:List Dv):Int:=(ws.map (aDU ds)).sum
end Mt53
namespace Mt46
open PySem L2 Ld Mt21
def units:List Int:=[1,3,5,7,9,11,15,17,19,21,23,25]
theorem aKM:∀ u ∈ units,∀ d ∈ Al 26,d ≠ 0 → ((d:Int) * u) % 26 ≠ 0:=by decide +kernel
theorem aTY {i j:Int} (e:ab i = ab j):i % 26 = j % 26:=by
 unfold ab at e
 have h1:=BB i (show (26:Int) ≠ 0 by decide)
 have h2:=BB j (show (26:Int) ≠ 0 by decide)
 omega
theorem aGG {u r:Int} (hu:u ∈ units) {k l:Nat} (hl:l < 26) (h:k < l) (e:ab ((k:Int) * u + r) = ab ((l:Int) * u + r)):False:=by
 have e1:=(Int.emod_eq_emod_iff_emod_sub_eq_zero).mp (aTY e.symm)
 have e2:(l:Int) * u + r - ((k:Int) * u + r) = ((l - k:Nat):Int) * u:=by
  rw [Int.ofNat_sub (by omega),Int.sub_mul]
  omega
 rw [e2] at e1
 exact aKM u hu (l - k) (Ax.mpr (by omega)) (by omega) e1
theorem aKN {u r:Int} (hu:u ∈ units) {k l:Nat} (hk:k < 26) (hl:l < 26) (e:ab ((k:Int) * u + r) = ab ((l:Int) * u + r)):k = l:=by
 rcases Nat.lt_trichotomy k l with h | h | h
 ·exact (aGG hu hl h e).elim
 ·exact h
 ·exact (aGG hu hk h e.symm).elim
theorem aFD (a:Str):∀ l:List Str,l.Nodup → l.length ≤ (l.filter fun z=>!decide (z = a)).length + 1
 | [],_=>by simp
 | z :: l,nd=>by
  rw [Ak] at nd
  by_cases h:z = a
  ·have e:(l.filter fun z=>!decide (z = a)) = l:=by
    rw [ET]
    intro y my
    have:y ≠ a:=fun e=>nd.1 (by rw [h,← e];exact my)
    simp [this]
   rw [DB (by simp [h]),e]
   simp
  ·rw [DA (by simp [h])]
   have:=aFD a l nd.2
   simp only [Ag]
   omega
structure Nm (zs:List Str):Prop where
 nd:zs.Nodup
 nm:∀ z ∈ zs,fG z = true
 l1:25 ≤ zs.length
 l2:zs.length ≤ 26
theorem aUZ {b:Str} {sz pl:Nat} {u r:Int} {g:Nat → Str} (hb:b.cps.toList.all jV = true) (hl:b.length = sz) (h1:1 ≤ sz) (h8:sz ≤ 8) (hp:pl < sz) (hu:u ∈ units)
  (pu:∀ k,k < 26 → (g k).cps.toList = b.cps.toList.take pl ++ [ab ((k:Int) * u + r)] ++ b.cps.toList.drop (pl + 1)):Nm (((Al 26).map g).filter fun z=>!decide (z = "sea")):=by
 have bl:b.cps.toList.length = sz:=by rw [← jF];exact hl
 have lg:∀ k,k < 26 → (g k).length = sz:=fun k hk=>by
  rw [jF,pu k hk,Ai,Ai,Ac,Cu,bl]
  show min pl sz + 1 + (sz - (pl + 1)) = sz
  omega
 have nd:((Al 26).map g).Nodup:=nodup_range fun k l hk hl e=>by
  have e1:(g k).cps.toList = (g l).cps.toList:=by rw [e]
  rw [pu k hk,pu l hl,By,By] at e1
  have e2:=List.append_cancel_left e1
  rw [EE,EE] at e2
  exact aKN hu hk hl (List.cons.inj e2).1
 have ln:=aFD "sea" _ nd
 rw [AA,CU] at ln
 have lf:=BP (fun z=>!decide (z = ("sea":Str))) ((Al 26).map g)
 rw [AA,CU] at lf
 refine ⟨nd.sublist Cb,fun z mz=>?_,by omega,lf⟩
 obtain ⟨m1,m2⟩:=Am.mp mz
 obtain ⟨k,mk,rfl⟩:=AR.mp m1
 have hk:=Ax.mp mk
 have all:(g k).cps.toList.all jV = true:=by
  rw [pu k hk,List.all_append,List.all_append]
  have hb':=BA.mp hb
  rw [BA.mpr fun x m=>hb' x (Cp m),BA.mpr fun x m=>hb' x (List.mem_of_mem_drop m)]
  simp [zV]
 unfold fG
 rw [lg k hk,decide_eq_true h1,decide_eq_true h8,m2,all]
 rfl
theorem aXC {i:Int} (h0:0 ≤ i) (h1:i < 12):∃ u ∈ units,atI ([.int 1,.int 3,.int 5,.int 7,.int 9,.int 11,.int 15,.int 17,.int 19,.int 21,.int 23,.int 25]:List V) i = some (.int u):=by
 obtain ⟨k,rfl⟩:=BH h0
 have hk:k < 12:=by omega
 have hk2:k < units.length:=hk
 refine ⟨units[k],Cv hk2,aN ?_⟩
 show (units.map V.int)[k]? = some (V.int units[k])
 rw [AK,AB hk2]
 rfl
end Mt46
namespace L2
open PySem PySem.Spec PyProof.Rows
section
variable {X:Cx} {tg:Expr}
def aTQ (td:TE):TI:=fun σ H R=>td σ H fun x H1=>∃ d o kvs,x = .ref d ∧ H1 d = some (.frz o (.dK kvs)) ∧ R (Itd d o kvs) H1
theorem aME {l:Expr} {tl:TE} (hl:PE X l tl):PI X tg l (aTQ tl):=by
 intro pins s σ H R I h
 refine thn (hl pins s σ H _ I h) fun v s1 ⟨x,H1,I1,r1,q1⟩=>?_
 obtain ⟨d,o,kvs,e,hH,q⟩:=q1
 subst e
 cases r1
 have hok:=I1.hok d _ hH
 obtain ⟨ho,hz,lo,vs,kv,hD⟩:=(show bW X.prog X.w H1 s1.heap d (.frz o (.dK kvs)) from hok)
 obtain ⟨ep,hat⟩:=hD.dictAt
 refine wpAny_pyIter_dict lo hat ?_
 refine ⟨s1.heap.objs.size,[s1.heap.objs.size],_,_,H1,rfl,I1.kept (t':=s1.toks) fun b ob e=>AE _ e,xZ kv ho hat,⟨_,Ad _ rfl,rfl,rfl⟩,fun b hb=>?_,q⟩
 have e:b = s1.heap.objs.size:=by simpa using hb
 subst e
 exact I1.fpOk (AQ _) (I1.hok.fresh (AQ _))
theorem aKF (hc:X.calm = true):fI X (.builtin "min") (fun xs H Q=>∃ (p:Addr) (ns:List Int),xs = [.ref p] ∧ SqL X.K H p (ns.map V.int) ∧ 0 < ns.length ∧ ∀ M,M ∈ ns → (∀ a ∈ ns,M ≤ a) → Q (.int M) H):=by
 intro pins s σ H xs us Q I r h
 obtain ⟨p,ns,rfl,hq,h0,q⟩:=h
 obtain ⟨u,rfl,ru⟩:=bK.one r
 cases ru
 obtain ⟨its,rv,pl,hz⟩:=I.list hq
 have hi:=wH rv
 obtain ⟨ys,ey⟩:=hi.allInts.items
 have en:ns = ys.toList.map fun x=>x.1:=by
  have h1:=nums_intItems ys
  rw [← ey] at h1
  rw [← h1]
  exact hi.numsOf.symm
 have hl:s.heap.IsList p (intItems ys):=by rw [← ey];exact pl.isList
 have hlen:ns.length = ys.size:=by rw [en,AA,Bg]
 refine min_intList (I.ok.hd hc) hl (by omega) fun v h' tk hv hk=>?_
 obtain ⟨tv,rfl⟩:=intItems_at hv
 obtain ⟨g1,g2⟩:=aDH (numAt ys) (ys.size - 1)
 refine ⟨.int _,H,I.kept (t':=tk) hk,⟨_,rfl⟩,q _ ?_ fun a ma=>?_⟩
 ·rw [numAt_eq,← en,Aa,AB (show argBest (fun i j=>decide (numAt ys i < numAt ys j)) (ys.size - 1) < ns.length by omega)]
  exact Cv _
 ·obtain ⟨j,hj⟩:=BD.mp ma
  have hjl:=(AC.mp hj).1
  have:=g2 j (by omega)
  rw [numAt_eq ys j,← en,Aa,hj] at this
  exact this
end
end L2
namespace L2
open PySem PySem.Spec PyProof.Rows
section
variable {prog:Program} {w:World} {A:Around} {E:Value → Shared → Prop} {s:Shared}
theorem aOP {d:Addr} {o:Obj} {es:Array Ej} {ep:Nat} {Q:Value → Shared → Prop} (hd:(d == DI) = false) (ho:s.heap.get? d = some o) (hc:o.ExactDict) (hdat:o.data = .dict es ep)
  (hQ:Q (.ref s.heap.objs.size) { s with heap:=s.heap.push { cls:=.type "dict_keyiterator",data:=.fields #[.ref d,.int 0 0,.int es.size 0,.int ep 0] } }):wpAny (model prog w) A (pyIter (.ref d)) Q E s:=by
 have hT:s.TypeIs (.ref d) "dict":=⟨o,ho,hc.1⟩
 refine wpAny_pyIter_slot hT F.slot_dict_iter (FK F.slot_dict_iter hT F.entry_dict_iter ?_ (F.args_dict_iter_1 _))
 unfold Builtin.«dict.__iter__»
 refine AD ?_
 unfold Builtin.Dict.dictSlotNone
 refine AD (EV hT (AT ?_))
 show wpAny _ _ (Builtin.Dict.showsAll d >>= _) _ _ s
 unfold Builtin.Dict.showsAll
 rw [if_neg (by rw [hd];exact AV)]
 refine AD (AT (AD (FF ho hdat (AD (FQ ho hdat ?_)))))
 refine AD (DO (AT ⟨_,rfl,"dict_keyiterator",_,⟨_,Ad _ rfl,rfl⟩,CI.lookup,?_⟩))
 simpa [rawInt] using hQ
theorem aOQ {it d:Addr} {i ep:Nat} {od:Obj} {es:Array Ej} {Q:Option Value → Shared → Prop} (hit:s.heap.IsKeyIter it d i es.size ep) (hod:s.heap.get? d = some od) (hdd:od.data = .dict es ep) (hlt:i < es.size)
  (hQ:∀ h',h'.IsKeyIter it d (i + 1) es.size ep → DG it s.heap h' → Q (some es[i].key) { s with heap:=h' }):wpAny (model prog w) A (pyNext (.ref it)) Q E s:=by
 obtain ⟨o,ho,hc,hd⟩:=id hit
 unfold pyNext
 refine AD (Es (wpAny_callSpecial?_slot (name:=Str.ofString "__next__") hit.typeIs CI
  (FK CI hit.typeIs F.entry_dict_keyiterator_next ?_ (F.args_dict_keyiterator_next_1 _))))
 refine AD (AT (AD (AD ?_)))
 first | refine AD (Cj hit.typeIs (AT ?_)) | refine AD (DC hit.typeIs (AT ?_))
 refine AD (wpAny_fieldsOf ho hd ?_)
 simp only [show Builtin.Dict_items.ownsTuple "dict_keyiterator" = false from by decide,Ed,if_false]
 show wpAny _ _ (if (Ap d == Bm) = true then _ else _) _ _ s
 rw [if_neg (show ¬ ((Ap d == Bm) = true) from AV)]
 refine AD (AT (AD (FF hod hdd ?_)))
 rw [if_neg (by simp)]
 refine AD (AT (AD (FQ hod hdd ?_)))
 rw [if_neg (by simp)]
 refine AT ?_
 simp only [show ¬ ((i:Int) < 0) from by omega,if_false,CF,Array.getElem?_eq_getElem hlt]
 refine AD ?_
 first | refine AD (Cj hit.typeIs (AT ?_)) | refine AD (DC hit.typeIs (AT ?_))
 refine AD (wpAny_isOneOf_keyiter hit.typeIs ?_)
 show wpAny _ _ (setField (.ref it) 1 (rawInt ((i:Int) + 1)) >>= _) _ _ s
 refine AD (wpAny_setField ho hd (by simp) ?_)
 have hit':(s.heap.update it (Obj.mapFields (·.setIfInBounds 1 (rawInt ((i:Int) + 1))))).IsKeyIter it d (i + 1) es.size ep :=
  ⟨_,DN _ ho (Obj.isFreed_of_fields (Obj.data_mapFields hd _)),(Obj.cls_mapFields ..).trans hc,by rw [Obj.data_mapFields hd];simp [rawInt]⟩
 refine AD (CP (AD (wpAny_isOneOf_keyiter (s:={ s with heap:=s.heap.update it (Obj.mapFields (·.setIfInBounds 1 (rawInt ((i:Int) + 1)))) }) hit'.typeIs ?_)))
 show wpAny _ _ (pure es[i].key) _ _ _
 exact AT (AT ⟨_,rfl,AT (hQ _ hit' (DG.update ..))⟩)
theorem aRY {it d:Addr} {i ep:Nat} {od:Obj} {es:Array Ej} {Q:Option Value → Shared → Prop} (hh:A.handled = none) (hit:s.heap.IsKeyIter it d i es.size ep) (hod:s.heap.get? d = some od) (hdd:od.data = .dict es ep) (hge:es.size ≤ i)
  (hQ:∀ h',Heap.ExtBut it s.heap h' → Q none { s with heap:=h' }):wpAny (model prog w) A (pyNext (.ref it)) Q E s:=by
 obtain ⟨o,ho,hc,hd⟩:=id hit
 unfold pyNext
 refine AD (Es (wpAny_callSpecial?_slot (name:=Str.ofString "__next__") hit.typeIs CI
  (FK CI hit.typeIs F.entry_dict_keyiterator_next ?_ (F.args_dict_keyiterator_next_1 _))))
 refine AD (AT (AD (AD ?_)))
 first | refine AD (Cj hit.typeIs (AT ?_)) | refine AD (DC hit.typeIs (AT ?_))
 refine AD (wpAny_fieldsOf ho hd ?_)
 simp only [show Builtin.Dict_items.ownsTuple "dict_keyiterator" = false from by decide,Ed,if_false]
 show wpAny _ _ (if (Ap d == Bm) = true then _ else _) _ _ s
 rw [if_neg (show ¬ ((Ap d == Bm) = true) from AV)]
 refine AD (AT (AD (FF hod hdd ?_)))
 rw [if_neg (by simp)]
 refine AD (AT (AD (FQ hod hdd ?_)))
 rw [if_neg (by simp)]
 refine AT ?_
 simp only [show ¬ ((i:Int) < 0) from by omega,if_false,CF,Array.getElem?_eq_none hge]
 refine AD ?_
 first | refine AD (Cj hit.typeIs (AT ?_)) | refine AD (DC hit.typeIs (AT ?_))
 show wpAny _ _ (setField (.ref it) 0 .none >>= _) _ _ s
 refine AD (wpAny_setField ho hd (by simp) ?_)
 show wpAny _ _ (newExc (.type "StopIteration") [] >>= _) _ _ _
 refine AD ?_
 simp only [newExc,newTuple]
 refine AD (DO ?_ (by size_fits))
 refine AD (m:=firstArgMember _ _) (wpAny_of_eq (a:=Bm) (by first | rfl | (simp only [firstArgMember];rfl)) ?_)
 refine DO ?_ (by size_fits)
 simp only [raiseNew]
 refine AD (wpAny_handled ?_)
 rw [show A.in1.handled = none from hh]
 refine AD (AT (wpAny_throw ?_))
 refine AD (wpAny_isInstance (T:="StopIteration") (b:=true) ⟨_,Ad _ rfl,rfl⟩ isSubtype_stop ?_)
 exact AT (hQ _ (((DG.update ..).extBut.push _).push _))
end
def ItT (d:Addr) (o:Obj) (kvs:List (List Key × V)):It :=
 ⟨fun i H=>H d = some (.frz o (.dT kvs)) ∧ i < kvs.length,fun i H x H'=>H' = H ∧ ∃ kv b,kvs[i]? = some kv ∧ x = .ref b ∧ H b = some (.tup (kv.1.map kV)),fun i H=>H d = some (.frz o (.dT kvs)) ∧ kvs.length ≤ i⟩
theorem KT.get {H:Hp} {P:Program} {w:World}:∀ {kvs:List (List Key × V)} {xs:List (List Key × Addr × Value)} {i:Nat},KT H kvs xs → i < kvs.length → ∃ kv x,kvs[i]? = some kv ∧ xs[i]? = some x ∧ H x.2.1 = some (.tup (kv.1.map kV))
 | _,_,_,.nil,h=>by simp at h
 | _,_,0,.cons a r,_=>⟨_,_,rfl,rfl,a.2.1⟩
 | _,_,i + 1,.cons a r,h=>by
  obtain ⟨kv,x,e1,e2,e3⟩:=KT.get (P:=P) (w:=w) (i:=i) r (by simpa using h)
  exact ⟨kv,x,by simpa using e1,by simpa using e2,e3⟩
theorem KT.len {H:Hp}:∀ {kvs:List (List Key × V)} {xs:List (List Key × Addr × Value)},KT H kvs xs → kvs.length = xs.length
 | _,_,.nil=>rfl
 | _,_,.cons _ r=>by rw [Ag,Ag,KT.len r]
theorem aON {P:Program} {w:World} {K:AG} {tg:Expr} {d it:Addr} {o:Obj} {kvs:List (List Key × V)} {es:Array Ej} {ep:Nat} (hdat:o.data = .dict es ep) (hz:es.size = kvs.length) :
  Turn P w K tg (ItT d o kvs) [it] it (fun i h=>h.IsKeyIter it d i es.size ep) where
 mem:=by simp
 obj:=fun i h st b hb=>by
  have e:b = it:=by simpa using hb
  subst e
  obtain ⟨ob,e,c,dd⟩:=st
  exact ⟨ob,e,fun v z=>by rw [dd] at z;cases z⟩
 keep:=fun i h h' st k=>st.at fun ob e=>k it (by simp) ob e
 item:=by
  intro X hP hw hK hc i pins s σ H E I hf st hg
  subst hP hw hK
  obtain ⟨hH,hi⟩:=hg
  obtain ⟨f0,f1,f2,f3,f4,f5⟩:=hf it (by simp)
  have hok:=(show bW X.prog X.w H s.heap d (.frz o (.dT kvs)) from I.hok d _ hH)
  have hget:s.heap.get? d = some o:=hok.1
  obtain ⟨z,y,xs,r,o',es',ep',h1,h2,h3,h4,h5⟩:=(show bW X.prog X.w H s.heap d (.dT kvs) from hok.2)
  rw [hget] at h1
  cases h1
  rw [hdat] at h3
  cases h3
  obtain ⟨kv,x,e1,e2,e3⟩:=KT.get (P:=X.prog) (w:=X.w) r hi
  have hlt:i < es.size:=by omega
  refine aOQ st hget hdat hlt fun h' st' sb=>?_
  have ek:es[i].key = .ref x.2.1:=by
   have q:=entry_at h4 i
   rw [Array.getElem?_eq_getElem hlt,e2] at q
   have q':=Aw q
   rw [q']
   rfl
  have I1:Inv X pins σ H { s with heap:=h' }:=I.turned (t':=s.toks) (fun b ob hb e=>(sb.2 b hb).trans e) f0 f1 f3 f4 f5
  obtain ⟨ob,e,c,dd⟩:=id st'
  refine ⟨es[i].key,rfl,aDL (s:={ s with heap:=h' }) e c dd (by decide) ⟨.ref x.2.1,H,I1,?_,⟨rfl,kv,x.2.1,e1,rfl,e3⟩,st',fun b hb=>(hf b hb).1⟩⟩
  rw [ek]
  rfl
 done:=by
  intro X hP hw hK hc i pins s σ H E I hf st hg
  subst hP hw hK
  obtain ⟨hH,hi⟩:=hg
  obtain ⟨f0,f1,f2,f3,f4,f5⟩:=hf it (by simp)
  have hget:s.heap.get? d = some o:=(show bW X.prog X.w H s.heap d (.frz o (.dT kvs)) from I.hok d _ hH).1
  exact aRY (I.ok.hd hc) st hget hdat (by omega) fun h' eb=>⟨rfl,I.turned (t':=s.toks) (fun b ob hb e=>eb b ob hb e) f0 f1 f3 f4 f5⟩
 self:=fun _ _ _ _ _ st h=>wpAny_pyIter_keyiter st h
section
variable {X:Cx} {tg:Expr}
def aNB (td:TE):TI:=fun σ H R=>td σ H fun x H1=>∃ d kvs,x = .ref d ∧ ((H1 d = some (.dT kvs) ∧ ∀ o,R (ItT d o kvs) (upd H1 d (.frz o (.dT kvs)))) ∨ ∃ o,H1 d = some (.frz o (.dT kvs)) ∧ R (ItT d o kvs) H1)
theorem aMD {l:Expr} {tl:TE} (hl:PE X l tl):PI X tg l (aNB tl):=by
 intro pins s σ H R I h
 refine thn (hl pins s σ H _ I h) fun v s1 ⟨x,H1,I1,r1,q1⟩=>?_
 obtain ⟨d,kvs,e,q⟩:=q1
 subst e
 cases r1
 have go:∀ (o:Obj) (H2:Hp),Inv X pins σ H2 s1 → H2 d = some (.frz o (.dT kvs)) → R (ItT d o kvs) H2 → wpAny (model X.prog X.w) X.A (pyIter (.ref d)) (PIE X pins σ tg R) X.xe s1:=fun o H2 I2 hH q=>by
  have hok:=(show bW X.prog X.w H2 s1.heap d (.frz o (.dT kvs)) from I2.hok d _ hH)
  obtain ⟨z,y,xs,r,o',es,ep,h1,h2,h3,h4,h5⟩:=(show bW X.prog X.w H2 s1.heap d (.dT kvs) from hok.2)
  have h0:=hok.1
  rw [h0] at h1
  cases h1
  have hz:es.size = kvs.length:=by rw [size_of_entries h4,KT.len r]
  refine aOP y h0 h2 h3 ?_
  refine ⟨s1.heap.objs.size,[s1.heap.objs.size],_,_,H2,rfl,I2.kept (t':=s1.toks) fun b ob e=>AE _ e,aON h3 hz,⟨_,Ad _ rfl,rfl,rfl⟩,fun b hb=>?_,q⟩
  have e:b = s1.heap.objs.size:=by simpa using hb
  subst e
  exact I2.fpOk (AQ _) (I2.hok.fresh (AQ _))
 rcases q with ⟨hH,q⟩ | ⟨o,hH,q⟩
 ·obtain ⟨z,y,xs,r,o,es,ep,h1,h2,h3,h4,h5⟩:=(show bW X.prog X.w H1 s1.heap d (.dT kvs) from I1.hok d _ hH)
  refine go o _ (I1.write (x:=d) (e:=d) (o:=.frz o (.dT kvs)) (h':=s1.heap) (t':=s1.toks) (by rw [hH];exact trivial) (.inl rfl) (fun _ _ _ q=>q) ⟨o,h1⟩ ⟨h1,z,y,xs,?_,o,es,ep,h1,h2,h3,h4,h5⟩) aF (q o)
  exact Paired.mapP r fun p q t=>⟨t.1,by rw [aK (fun e=>by rw [e,hH] at t;cases t.2.1)];exact t.2.1,t.2.2⟩
 ·exact go o H1 I1 hH q
theorem aNI {d:Addr} {o:Obj} {kvs:List (List Key × V)} {g:TG} {tb:TS} {D:Ends} {σ:St} {H:Hp} (Pv:Nat → St → Hp → Prop) (h0:Pv 0 σ H) (hl:∀ i σ H,i ≤ kvs.length → Pv i σ H → H d = some (.frz o (.dT kvs)))
  (hs:∀ i kv b σ H,kvs[i]? = some kv → H b = some (.tup (kv.1.map kV)) → Pv i σ H → g (.ref b) σ H fun σ2 H2=>tb { D with nx:=Pv (i + 1),ct:=Pv (i + 1),bk:=D.nx } σ2 H2) (hd:∀ σ H,Pv kvs.length σ H → D.nx σ H) :
  ∃ W:Nat → Nat → St → Hp → Prop,(∃ m,W 0 m σ H) ∧ ∀ i m σ H,W i m σ H →
   ((ItT d o kvs).stop i H ∧ D.nx σ H) ∨ ((ItT d o kvs).go i H ∧ ∃ N:St → Hp → Prop,(∀ σ' H',N σ' H' → ∃ m',m' < m ∧ W (i + 1) m' σ' H') ∧ ∀ x H',(ItT d o kvs).yld i H x H' → g x σ H' fun σ2 H2=>tb { D with nx:=N,ct:=N,bk:=D.nx } σ2 H2):=by
 refine ⟨fun i m σ H=>m + i = kvs.length ∧ Pv i σ H,⟨kvs.length,rfl,h0⟩,?_⟩
 intro i m σ H hw
 obtain ⟨hm,pv⟩:=hw
 have at_:=hl i σ H (by omega) pv
 rcases Nat.lt_or_ge i kvs.length with lt | ge
 ·refine .inr ⟨⟨at_,lt⟩,Pv (i + 1),(fun σ' H' p'=>⟨kvs.length - (i + 1),by omega,by omega,p'⟩),fun x H' y=>?_⟩
  obtain ⟨eH,kv,b,ek,ex,eb⟩:=y
  subst eH ex
  exact hs i kv b σ _ ek eb pv
 ·have ei:i = kvs.length:=by omega
  subst ei
  exact .inl ⟨⟨at_,AQ _⟩,hd σ H pv⟩
end
end L2
namespace L2
open PySem PySem.Spec PyProof.Rows
section
variable {P:Program} {w:World} {A:Around} {R:Result → Shared → Prop} {I:Addr} {fp wr:List Addr} {G:Array Da → Array Da → Prop} {n:Nat} {Pv:Nat → Value → Prop} {Stt:Nat → Shared → Prop}
theorem aGC {kvs:List (List Key × Addr × Value)} (nd:(kvs.map (·.1)).Nodup) {i:Nat} {x:List Key × Addr × Value} (h:kvs[i]? = some x):atKey (kvs.take i) x.1 = none:=by
 unfold atKey
 rw [Option.map_eq_none_iff,List.find?_eq_none]
 intro y m e
 have e':y.1 = x.1:=of_decide_eq_true e
 obtain ⟨j,hj⟩:=BD.mp m
 rw [List.getElem?_take] at hj
 split at hj
 ·rename_i lt
  have hi:=(AC.mp h).1
  have hj':=(AC.mp hj).1
  rw [CM,De] at nd
  refine nd j i (by rw [AA];exact hj') (by rw [AA];exact hi) lt ?_
  rw [Cc,Cc,(AC.mp hj).2,(AC.mp h).2,e']
 ·cases hj
theorem aFW (W:WalksS P w A.in1 I fp wr G n Pv Stt) (hu:A.units + 4 < cLine) (D:Addr) (hD:D ∉ fp) (res:Value) (kvs:List (List Key × Addr × Value)) (hn:kvs.length = n) (hz:n ≤ Ar) (nd:(kvs.map (·.1)).Nodup) (s₀:Shared)
  (hk:∀ x ∈ kvs,x.2.1 ∉ D :: wr ∧ (CS (aS P w)).is s₀.heap x.1 x.2.1)
  (hv:∀ (i:Nat) (v:Value),Pv i v → ∃ (a b:Addr) (k:List Key) (x:Value) (ob:Obj) (c:Nat),v = .ref a ∧ a ∉ D :: wr ∧ s₀.heap.get? a = some ob ∧ ob.cls = .type "tuple" ∧ ob.data = .seq #[.ref b,x] c ∧ kvs[i]? = some (k,b,x)) :
  ∀ (m i:Nat) (s:Shared),n - i = m → i ≤ n → Stt i s → (∀ b o,b ∉ D :: wr → s₀.heap.get? b = some o → s.heap.get? b = some o) → s.heap.DictOfH (CS (aS P w)) D (kvs.take i) →
   (∀ s',Moved (D :: wr) G s s' → s'.heap.DictOfH (CS (aS P w)) D kvs → R (.ok (.ret res)) s') →
   codeAny (model P w) A (.builtin "dict.update.loop" ⟨[.ref D,.ref I,rawInt i,res],[]⟩) R s:=by
 have hDw:D ∉ wr:=fun z=>hD (W.sub _ z)
 have sub:∀ b ∈ wr,b ∈ D :: wr:=fun b z=>AO _ z
 have moved:∀ {s s':Shared} {i:Nat},Moved wr G s s' → s.heap.DictOfH (CS (aS P w)) D (kvs.take i) → s'.heap.DictOfH (CS (aS P w)) D (kvs.take i):=fun mv ⟨o,es,ep,ho,h2,h3,h4,h5,h6⟩=>⟨o,es,ep,mv.heap D _ hDw ho,h2,h3,h4,fun x hx=>by
  obtain ⟨o,its,n,e,r⟩:=h5 x hx
  exact ⟨o,its,n,mv.heap _ _ (fun z=>(hk x (Cp hx)).1 (sub _ z)) e,r⟩,h6⟩
 intro m
 induction m with
 | zero =>
  intro i s e1 e2 st kp hS hR
  obtain rfl:i = n:=by omega
  refine CJ gR ?_
  rw [Bu cO _]
  show wpAny _ A.in1 (pyNext (.ref I) >>= _) _ _ s
  refine AD (W.done s _ _ st fun s' mv=>?_)
  show wpAny _ A.in1 (Builtin.Dict.addKeywords D [] >>= _) _ _ s'
  refine AD (AT ?_)
  have:=moved mv hS
  rw [AH (by omega)] at this
  exact AT (hR s' (mv.mono sub) this)
 | succ m ih =>
  intro i s e1 e2 st kp hS hR
  have lt:i < n:=by omega
  refine CJ gR ?_
  rw [Bu cO _]
  show wpAny _ A.in1 (pyNext (.ref I) >>= _) _ _ s
  refine AD (W.item i s _ _ lt st fun v s' pv st' mv=>?_)
  obtain ⟨a,b,k,x,ob,c,rfl,ha,hg,hc,hd,hi⟩:=hv i v pv
  have hS1:=moved mv hS
  have hg1:s'.heap.get? a = some ob:=mv.heap a ob (fun z=>ha (sub a z)) (kp a ob ha hg)
  have hT:s'.TypeIs (.ref a) "tuple":=⟨ob,hg1,hc⟩
  refine AD (CP (AD (wpAny_tryCatch ?_)))
  unfold Builtin.Dict.pairItems
  refine AD (EJ hT ?_)
  rw [if_pos (by decide)]
  refine AD (FR hg1 hd (AT ?_))
  show wpAny _ _ (holding [.ref b,x] (dictSet D (.ref b) x)) _ _ s'
  obtain ⟨kb,ki⟩:=hk _ (AN hi)
  have hb:(CS (aS P w)).is s'.heap k b:=by
   obtain ⟨o,its,n,e,r⟩:=ki
   exact ⟨o,its,n,mv.heap _ _ (fun z=>kb (sub _ z)) (kp _ _ kb e),r⟩
  refine CP (wpAny_dictSet_heap (DH (by omega)) hb hS1 (fun h' hS2 sb=>?_) ?_)
  ·rw [storedH_new (aGC nd hi)] at hS2
   have e:kvs.take i ++ [(k,b,x)] = kvs.take (i + 1):=by rw [Ab,hi];rfl
   rw [e] at hS2
   refine AT ⟨Cd cO _,ih (i + 1) _ (by omega) lt (W.frame _ s' _ _ st' (Ez _ _) fun b hb o e=>?_) (fun b o hb e=>?_) hS2 fun s2 mv2 hS4=>?_⟩
   ·rw [sb.2 b (fun z:b = D=>hD (by rw [← z];exact hb))]
    exact e
   ·rw [sb.2 b (fun z:b = D=>hb (by rw [z];exact AU))]
    exact mv.heap b o (fun z=>hb (sub b z)) (kp b o hb e)
   ·refine hR s2 (Moved.trans W.gtrans ((mv.mono sub).then_heap (Ez _ _) fun b o hb e=>?_) mv2) hS4
    rw [sb.2 b (fun z:b = D=>hb (by rw [z];exact AU))]
    exact e
  ·rw [Ac]
   omega
end
section
variable {P:Program} {w:World} {A:Around} {E:Value → Shared → Prop} {s:Shared}
theorem wR {l:Addr} {its:List Value} {kvs:List (List Key × Addr × Value)} {Q:Value → Shared → Prop} (hh:A.handled = none) (hu:A.units + 20 < cLine) (hl:PlainL s.heap l its.toArray) (hn:its.length = kvs.length) (hz:its.length ≤ Ar) (nd:(kvs.map (·.1)).Nodup)
  (hk:∀ x ∈ kvs,(CS (aS P w)).is s.heap x.1 x.2.1)
  (hv:∀ (i:Nat) (v:Value),its[i]? = some v → ∃ (a b:Addr) (k:List Key) (x:Value) (ob:Obj) (c:Nat),v = .ref a ∧ s.heap.get? a = some ob ∧ ob.cls = .type "tuple" ∧ ob.data = .seq #[.ref b,x] c ∧ kvs[i]? = some (k,b,x))
  (h:∀ (h':Heap) (tk:Nat),h'.DictOfH (CS (aS P w)) s.heap.objs.size kvs → (∀ b o,s.heap.get? b = some o → h'.get? b = some o) → Q (.ref s.heap.objs.size) { s with heap:=h',toks:=tk }) :
  wpAny (model P w) A (call (.type "dict") [.ref l]) Q E s:=by
 refine FS (Q₁:=fun (obj:Value) (s₁:Shared)=>obj = Ap s.heap.objs.size ∧ s₁ = { s with heap:=s.heap.push { cls:=.type "dict",data:=.dict #[] } }) F.kt_called_dict (F.kt_typeCall_dict_1 _) F.entry_dict_init (kt_code_dict_new _ ⟨rfl,rfl⟩) ?_
 rintro obj s₁ ⟨rfl,rfl⟩
 have hnew:(s.heap.push { cls:=.type "dict",data:=.dict #[] }).DictOfH (CS (aS P w)) s.heap.objs.size []:=⟨_,#[],_,Ad _ rfl,⟨rfl,rfl,rfl⟩,rfl,rfl,(fun _ m=>nomatch m),.nil⟩
 have hty:({ s with heap:=s.heap.push { cls:=.type "dict",data:=.dict #[] } }:Shared).TypeIs (.ref s.heap.objs.size) "dict":=⟨_,Ad _ rfl,rfl⟩
 obtain ⟨⟨oc,od,oda,osl⟩,nl,hol,hcl,hod,hdl⟩:=id hl
 simp only at hcl hod hdl
 subst hcl hod hdl
 have lS:l < s.heap.objs.size:=AZ hol
 have hol1:=AE (h:=s.heap) { cls:=.type "dict",data:=.dict #[] } hol
 refine ⟨hty,F.args_dict_init_2 _ _,?_⟩
 unfold Builtin.«dict.__init__»
 refine AD ?_
 unfold Builtin.Dict.selfAndRest
 refine AD (EV hty ?_)
 show wpAny _ _ (pure (s.heap.objs.size,[Ap l])) _ _ _
 refine AT ?_
 show wpAny _ _ (Cs "dict.__init__" s.heap.objs.size (.ref l) [] .none) _ _ _
 unfold Cs
 refine AD (EJ (T:="list") ⟨_,hol1,rfl⟩ ?_)
 rw [if_pos (by decide)]
 refine AD (qR (by simp [hh]) hol1 fun h1 t1 k1=>?_)
 show wpAny _ _ (rule _ >>= _) _ _ _
 refine AD (EK ?_)
 have hol2:=k1 _ _ hol1
 have hl2:h1.IsList l its.toArray:=⟨_,hol2,rfl,nl,rfl⟩
 refine AD (Ct (s:={ s with heap:=h1,toks:=t1 }) hl2 ?_)
 have sz1:s.heap.objs.size < h1.objs.size:=by
  obtain ⟨o,es,ep,ho,_⟩:=hnew
  exact AZ (k1 _ _ ho)
 have nI:l ≠ h1.objs.size:=Ah (AZ hol2)
 have nD:s.heap.objs.size ∉ [h1.objs.size,l]:=by
  simp only [Af,AW,Bk,or_false,not_or]
  exact ⟨Ah sz1,DX lS⟩
 refine AT ⟨Cd cO _,?_⟩
 have hh2:A.in1.in1.handled = none:=by simp [hh]
 have out:∀ {b:Addr} {o:Obj},s.heap.get? b = some o → b ∉ [s.heap.objs.size,h1.objs.size]:=fun {b o} e=>by
  have la:=AZ e
  simp only [Af,AW,Bk,or_false,not_or]
  exact ⟨Ah la,Ah (DY la sz1)⟩
 refine aFW ((EW hh2 _ l nI its.toArray).toS) ?_ s.heap.objs.size nD .none kvs (by rw [AS,hn]) (by rw [AS];exact hz) nd { s with heap:=h1.push { cls:=.type "list_iterator",data:=.fields #[.ref l,.int 0 0] },toks:=t1 } (fun x m=>?_) (fun i v pv=>?_) (its.toArray.size - 0) 0 _ (by omega) (BT _)
  ⟨⟨_,Ad _ rfl,rfl,rfl⟩,(hl2.push _)⟩ (fun _ _ _ e=>e) ?_ ?_
 ·show A.units + 1 + 4 < _
  omega
 ·obtain ⟨o,its,n,e,r⟩:=hk x m
  exact ⟨out e,o,its,n,AE _ (k1 _ _ (AE _ e)),r⟩
 ·obtain ⟨a,b,k,x,ob,c,rfl,hg,hc,hd,hi⟩:=hv i v (by simpa using pv)
  exact ⟨a,b,k,x,ob,c,rfl,out hg,AE _ (k1 _ _ (AE _ hg)),hc,hd,hi⟩
 ·obtain ⟨o,es,ep,ho,h2,h3,h4,h5,h6⟩:=hnew
  exact ⟨o,es,ep,AE _ (k1 _ _ ho),h2,h3,h4,(fun _ m=>nomatch m),h6⟩
 ·intro s3 mv hS3
  obtain ⟨h3,g3,d3,t3,o3⟩:=s3
  have e1:g3 = s.gens:=mv.gens
  have e2:d3 = s.drawn:=mv.drawn
  have e3:o3 = s.os:=mv.os
  subst e1 e2 e3
  refine ⟨rfl,h h3 t3 hS3 fun b o e=>?_⟩
  exact mv.heap b o (out e) (AE _ (k1 _ _ (AE _ e)))
end
def iY (H:Hp) (ys:List V) (kvs:List (List Key × V)):Prop:=Paired (fun (y:V) (kv:List Key × V)=>∃ a b,y = .ref a ∧ H a = some (.tup [.ref b,kv.2]) ∧ H b = some (.tup (kv.1.map kV))) ys kvs
theorem iY.nil (H:Hp):iY H [] []:=CL
theorem iY.len {H:Hp} {ys:List V} {kvs:List (List Key × V)} (h:iY H ys kvs):ys.length = kvs.length:=CH h
theorem iY.same {H H':Hp} (S:aI H H'):∀ {ys:List V} {kvs:List (List Key × V)},iY H ys kvs → iY H' ys kvs
 | _,_,CL=>CL
 | _,_,Ce ⟨a,b,e,o,o'⟩ t=>Ce ⟨a,b,e,S _ _ o,S _ _ o'⟩ (iY.same S t)
section
variable {X:Cx}
theorem oV {pins:List (Addr × Obj)} {σ:St} {H:Hp} {s:Shared} (I:Inv X pins σ H s):∀ {ys:List V} {kvs:List (List Key × V)} {its:List Value},iY H ys kvs → bK ys its →
  ∃ vk:List (List Key × Addr × Value),KT H kvs vk ∧ its.length = vk.length ∧ (∀ x ∈ vk,(CS (aS X.prog X.w)).is s.heap x.1 x.2.1) ∧ ∀ (i:Nat) (v:Value),its[i]? = some v → ∃ (a b:Addr) (k:List Key) (x:Value) (ob:Obj) (c:Nat),v = .ref a ∧ s.heap.get? a = some ob ∧ ob.cls = .type "tuple" ∧ ob.data = .seq #[.ref b,x] c ∧ vk[i]? = some (k,b,x)
 | _,_,_,CL,CL=>⟨[],CL,rfl,(fun _ m=>nomatch m),fun i v e=>by simp at e⟩
 | _,(k,v0) :: kvs,u :: its,Ce ⟨a,b,e,o,o'⟩ t,Ce r rs=>by
  obtain ⟨vk,h1,h2,h3,h4⟩:=oV I t rs
  subst e
  cases r
  obtain ⟨tis,rt,⟨ob,g,hc,c,hd⟩,_⟩:=I.tuple (SqT.of o)
  obtain ⟨ku,xu,rfl,rk,rx⟩:=bK.two rt
  cases (show ku = Ap b from rk)
  refine ⟨(k,b,xu) :: vk,Ce ⟨rfl,o',rx⟩ h1,by simp [h2],fun x m=>?_,fun i v e=>?_⟩
  ·rcases Af.mp m with rfl | m
   ·exact rW I.hok o'
   ·exact h3 x m
  ·cases i with
   | zero =>
    simp at e
    subst e
    exact ⟨a,b,k,xu,ob,c,rfl,g,hc,hd,rfl⟩
   | succ i =>
    obtain ⟨a',b',k',x',ob',c',q⟩:=h4 i v (by simpa using e)
    exact ⟨a',b',k',x',ob',c',by simpa using q⟩
theorem sL (hc:X.calm = true) (hu:X.A.units + 64 < cLine):fI X (.type "dict") (fun xs H Q=>∃ (p:Addr) (ys:List V) (kvs:List (List Key × V)),xs = [.ref p] ∧ SqL X.K H p ys ∧ iY H ys kvs ∧ kvs.length ≤ 1000 ∧ (kvs.map (·.1)).Nodup ∧ ∀ l,H l = none → Q (.ref l) (upd H l (.dT kvs))):=by
 intro pins s σ H xs us Q I r h
 obtain ⟨p,ys,kvs,rfl,hq,hp,hn,nd,q⟩:=h
 obtain ⟨u,rfl,ru⟩:=bK.one r
 cases ru
 obtain ⟨its,rv,pl,hz⟩:=I.list hq
 obtain ⟨vk,kv,el,hk,hv⟩:=oV I hp rv
 have big:(1000:Nat) ≤ Ar:=by decide
 have l1:kvs.length = vk.length:=CH kv
 have ek:vk.map (·.1) = kvs.map (·.1):=by
  clear hk hv el hn nd l1 hp q
  induction kv with
  | nil=>rfl
  | cons a r ih=>rw [AY,AY,ih,a.1]
 refine wR (kvs:=vk) (I.ok.hd hc) (by omega) pl el (by omega) (by rw [ek];exact nd) hk hv fun h' tk hD hk'=>?_
 have fr:=I.hok.fresh (AQ _)
 obtain ⟨o,es,ep,g1,g2,g3,g4,g5,g6⟩:=hD
 refine ⟨.ref s.heap.objs.size,_,I.laid (t':=tk) hk' (AQ _) (show bW X.prog X.w _ h' _ (.dT kvs) from ⟨by omega,?_,vk,kv.keeps fun b ys e=>aI.upd fr _ _ e,o,es,ep,g1,g2,g3,g4,g6⟩),rfl,q _ fr⟩
 have b:=I.big
 exact beq_eq_false_iff_ne.mpr (DX b)
theorem aTN:PIp X .Mult (fun x y H Q=>∃ i j,x = .int i ∧ y = .int j ∧ IntMulOk i j ∧ Q (.int (i * j)) H):=by
 intro pins s σ H x y v u Q I r1 r2 h
 obtain ⟨i,j,e1,e2,hm,q⟩:=h
 subst e1 e2
 obtain ⟨t,rfl⟩:=r1
 obtain ⟨t',rfl⟩:=r2
 exact imul_int ⟨.int (i * j),H,I.tok _,⟨_,rfl⟩,q⟩ hm
theorem xC {K:AG} (h:X.K = K):fI X (.type "tuple") (fun xs H Q=>∃ p ys,xs = [.ref p] ∧ ((SqL K H p ys ∧ ∀ l,H l = none → Q (.ref l) (upd H l (.tup ys))) ∨ (SqT K H p ys ∧ Q (.ref p) H))):=by
 subst h
 exact pE
end
end L2
namespace L2
open PySem PySem.Spec PyProof.Rows
section
variable {X:Cx}
theorem aSZ (hu:X.A.units + 64 < cLine):OpR X (BW .Eq) (fun x y H Q=>∃ (a b:Addr) (kvs kvs':List (Key × V)),x = .ref a ∧ y = .ref b ∧ Rd H a (.dK kvs) ∧ Rd H b (.dK kvs') ∧ kvs.length = kvs'.length ∧
  (∀ p ∈ kvs,∃ v' d,eU kvs' p.1 = some v' ∧ Is H d p.2 ∧ Is H d v' ∧ bD 30 d = true ∧ deq d d = true) ∧ Q (.bl true) H):=by
 intro pins s σ H x y v u Q I rx ry h
 obtain ⟨a,b,kvs,kvs',rfl,rfl,ha,hb,hl,hp,q⟩:=h
 cases rx
 cases ry
 obtain ⟨hz,lo,ws,kv,hD⟩:=ha.ok I.hok
 obtain ⟨hz2,lo2,ws2,kv2,hD2⟩:=hb.ok I.hok
 have l1:=KV.length kv
 have l2:=KV.length kv2
 have hits:PySem.W.KeqHits X.A.in1 s ws2 ws true:=by
  clear ha hz hD l1 hl
  induction kv with
  | nil=>exact .nil
  | @cons p w ps ws h t ih =>
   obtain ⟨e1,r1⟩:=h
   obtain ⟨v',d,ev,i1,i2,fd,dd⟩:=hp p AU
   obtain ⟨w',hw,rw'⟩:=oB.some_of (v:=v') (o:=valueAt ws2 p.1) (by rw [← ev];exact kv2.val p.1)
   have at1:=Is.eqAt I 30 d d p.2 v' w.2 w' X.A.in1 (by have:X.A.in1.units = X.A.units + 1:=rfl;omega) fd fd i1 i2 r1 rw'
   rw [dd] at at1
   have ew:w = (p.1,w.2):=by rw [e1]
   rw [ew]
   exact .hit (e:=true) (b:=true) hw at1 (ih fun p' m=>hp p' (AO _ m))
 refine PySem.W.keq_eq (r:=true) lo lo2 hD hD2 (by omega) (fun _=>hits) ?_
 rw [show (ws.length == ws2.length) = true from beq_iff_eq.mpr (by omega)]
 exact ⟨.bl true,H,I,rfl,q⟩
end
end L2
namespace L2
open PySem PySem.Spec PyProof.Rows
section
variable {X:Cx} {K:AG}
theorem qB {a b:TS} {D:Ends} {σ:St} {H:Hp} (h:∀ u:TS,(∀ D' σ' H',b D' σ' H' → u D' σ' H') → rE a u D σ H):rE a b D σ H:=h b fun _ _ _ x=>x
theorem aLN {a1 a2 a3 a4 b:TS} {D:Ends} {σ:St} {H:Hp} (h:∀ u:TS,(∀ D' σ' H',b D' σ' H' → u D' σ' H') → rE a1 (rE a2 (rE a3 (rE a4 u))) D σ H):rE a1 (rE a2 (rE a3 (rE a4 b))) D σ H:=h b fun _ _ _ x=>x
end
end L2
namespace K73
open PySem L2
local macro_rules | `(tactic| trivial)=>`(tactic| first | exact .inl rfl | exact .inr rfl | assumption)
def top (i:Nat):Stmt:=PySem.Challenge.pw_dykemoot_k73_whole_fair_to_every_company.main.body.getD i (.Pass ⟨0,0,0,0⟩)
abbrev qE:Stmt:=top 0
abbrev gX:Stmt:=top 15
theorem xH:FnScope ["thing"] ["thing"] (aB gX):=⟨rfl,rfl,rfl,by decide +kernel,rfl,by decide +kernel,by decide +kernel⟩
abbrev iQ:Stmt:=top 16
theorem aAK:FnScope ["thing"] ["thing"] (aB iQ):=⟨rfl,rfl,rfl,by decide +kernel,rfl,by decide +kernel,by decide +kernel⟩
abbrev fS:Stmt:=top 17
theorem uY:FnScope ["thing"] ["thing"] (aB fS):=⟨rfl,rfl,rfl,by decide +kernel,rfl,by decide +kernel,by decide +kernel⟩
abbrev fU:Stmt:=top 18
theorem uZ:FnScope ["thing"] ["thing"] (aB fU):=⟨rfl,rfl,rfl,by decide +kernel,rfl,by decide +kernel,by decide +kernel⟩
abbrev fR:Stmt:=top 19
theorem uX:FnScope ["thing","names"] ["thing","names"] (aB fR):=⟨rfl,rfl,rfl,by decide +kernel,rfl,by decide +kernel,by decide +kernel⟩
abbrev fB:Stmt:=top 20
theorem tR:FnScope ["thing","most"] ["thing","most"] (aB fB):=⟨rfl,rfl,rfl,by decide +kernel,rfl,by decide +kernel,by decide +kernel⟩
abbrev eN:Stmt:=top 21
theorem rJ:FnScope ["thing","length"] ["thing","length"] (aB eN):=⟨rfl,rfl,rfl,by decide +kernel,rfl,by decide +kernel,by decide +kernel⟩
abbrev fA:Stmt:=top 22
theorem tQ:FnScope ["rows"] ["rows"] (aB fA):=⟨rfl,rfl,rfl,by decide +kernel,rfl,by decide +kernel,by decide +kernel⟩
abbrev gY:Stmt:=top 23
theorem xI:FnScope ["thing"] ["thing"] (aB gY):=⟨rfl,rfl,rfl,by decide +kernel,rfl,by decide +kernel,by decide +kernel⟩
abbrev fD:Stmt:=top 24
theorem tT:FnScope ["thing"] ["thing"] (aB fD):=⟨rfl,rfl,rfl,by decide +kernel,rfl,by decide +kernel,by decide +kernel⟩
abbrev fY:Stmt:=top 25
theorem vC:FnScope ["one","other","sides"] ["one","other","sides"] (aB fY):=⟨rfl,rfl,rfl,by decide +kernel,rfl,by decide +kernel,by decide +kernel⟩
abbrev iP:Stmt:=top 26
theorem aAJ:FnScope ["thing","crown"] ["thing","crown"] (aB iP):=⟨rfl,rfl,rfl,by decide +kernel,rfl,by decide +kernel,by decide +kernel⟩
abbrev iR:Stmt:=top 27
theorem aAL:FnScope ["thing","sides"] ["thing","sides"] (aB iR):=⟨rfl,rfl,rfl,by decide +kernel,rfl,by decide +kernel,by decide +kernel⟩
abbrev fZ:Stmt:=top 28
theorem vD:FnScope ["thing","sides"] ["thing","sides"] (aB fZ):=⟨rfl,rfl,rfl,by decide +kernel,rfl,by decide +kernel,by decide +kernel⟩
abbrev iO:Stmt:=top 29
theorem aAI:FnScope ["land","thing"] ["land","thing"] (aB iO):=⟨rfl,rfl,rfl,by decide +kernel,rfl,by decide +kernel,by decide +kernel⟩
abbrev fX:Stmt:=top 30
theorem vB:FnScope ["land","thing"] ["land","thing"] (aB fX):=⟨rfl,rfl,rfl,by decide +kernel,rfl,by decide +kernel,by decide +kernel⟩
abbrev cZ:Stmt:=top 31
theorem iL:FnScope ["land","thing","names"] ["land","thing"] (aB cZ):=⟨rfl,rfl,rfl,by decide +kernel,rfl,by decide +kernel,by decide +kernel⟩
abbrev hJ:Stmt:=iJ (top 32) 0
theorem xL:FnScope ["self","fields","dykes"] ["self","fields","dykes"] (aB hJ):=⟨rfl,rfl,rfl,by decide +kernel,rfl,by decide +kernel,by decide +kernel⟩
abbrev gG:Stmt:=iJ (top 32) 1
abbrev fE:Stmt:=iJ (top 32) 2
theorem tU:FnScope ["self"] ["self"] (aB fE):=⟨rfl,rfl,rfl,by decide +kernel,rfl,by decide +kernel,by decide +kernel⟩
abbrev cQ:Stmt:=iJ (top 32) 3
theorem mF:FnScope ["self"] ["self"] (aB cQ):=⟨rfl,rfl,rfl,by decide +kernel,rfl,by decide +kernel,by decide +kernel⟩
abbrev dA:Stmt:=iJ (top 32) 4
theorem mQ:FnScope ["self"] ["self"] (aB dA):=⟨rfl,rfl,rfl,by decide +kernel,rfl,by decide +kernel,by decide +kernel⟩
abbrev fJ:Stmt:=iJ (top 32) 5
abbrev eO:Stmt:=iJ (top 32) 6
theorem rK:FnScope ["self","field"] ["self","field"] (aB eO):=⟨rfl,rfl,rfl,by decide +kernel,rfl,by decide +kernel,by decide +kernel⟩
abbrev iI:Stmt:=iJ (top 32) 7
abbrev gA:Stmt:=iJ (top 32) 8
theorem vE:FnScope ["self","name"] ["self","name"] (aB gA):=⟨rfl,rfl,rfl,by decide +kernel,rfl,by decide +kernel,by decide +kernel⟩
abbrev gF:Stmt:=iJ (top 32) 9
abbrev jL:Stmt:=top 34
theorem iK:FnScope ["starts","steps","came","waiting","near","step"] ["starts","steps"] (aB jL):=⟨rfl,rfl,rfl,by decide +kernel,rfl,by decide +kernel,by decide +kernel⟩
abbrev iN:Stmt:=top 35
theorem jA:FnScope ["came","side","path","step"] ["came","side"] (aB iN):=⟨rfl,rfl,rfl,by decide +kernel,rfl,by decide +kernel,by decide +kernel⟩
abbrev fC:Stmt:=top 37
theorem tS:FnScope ["land","fields","height"] ["land","fields","height"] (aB fC):=⟨rfl,rfl,rfl,by decide +kernel,rfl,by decide +kernel,by decide +kernel⟩
abbrev hE:Stmt:=top 38
theorem xJ:FnScope ["dyke","height"] ["dyke","height"] (aB hE):=⟨rfl,rfl,rfl,by decide +kernel,rfl,by decide +kernel,by decide +kernel⟩
abbrev hG:Stmt:=top 39
theorem xK:FnScope ["land","works"] ["land","works"] (aB hG):=⟨rfl,rfl,rfl,by decide +kernel,rfl,by decide +kernel,by decide +kernel⟩
abbrev jN:Stmt:=top 40
theorem aCJ:FnScope ["land","side","height"] ["land","side","height"] (aB jN):=⟨rfl,rfl,rfl,by decide +kernel,rfl,by decide +kernel,by decide +kernel⟩
abbrev jO:Stmt:=top 41
theorem aCK:FnScope ["land","dyke","height"] ["land","dyke","height"] (aB jO):=⟨rfl,rfl,rfl,by decide +kernel,rfl,by decide +kernel,by decide +kernel⟩
abbrev fV:Stmt:=top 42
theorem vA:FnScope ["land","height"] ["land","height"] (aB fV):=⟨rfl,rfl,rfl,by decide +kernel,rfl,by decide +kernel,by decide +kernel⟩
abbrev eZ:Stmt:=top 43
theorem gE:FnScope ["land","names","steps","name","dyke"] ["land","names"] (aB eZ):=⟨rfl,rfl,rfl,by decide +kernel,rfl,by decide +kernel,by decide +kernel⟩
abbrev mR:Stmt:=top 44
theorem aIX:FnScope ["step","most","stream"] ["step","most","stream"] (aB mR):=⟨rfl,rfl,rfl,by decide +kernel,rfl,by decide +kernel,by decide +kernel⟩
abbrev iM:Stmt:=top 45
theorem aAH:FnScope ["steps","most","stream"] ["steps","most","stream"] (aB iM):=⟨rfl,rfl,rfl,by decide +kernel,rfl,by decide +kernel,by decide +kernel⟩
abbrev dG:Stmt:=top 46
theorem fM:FnScope ["steps","most","stream","fields","came","ends"] ["steps","most","stream","fields"] (aB dG):=⟨rfl,rfl,rfl,by decide +kernel,rfl,by decide +kernel,by decide +kernel⟩
abbrev dH:Stmt:=top 47
theorem cI:FnScope ["steps","most","fields","stream","path","amount","step"] ["steps","most","fields"] (aB dH):=⟨rfl,rfl,rfl,by decide +kernel,rfl,by decide +kernel,by decide +kernel⟩
abbrev eM:Stmt:=top 48
theorem kM:FnScope ["steps","flowed","fields","height","behind"] ["steps","flowed","fields","height"] (aB eM):=⟨rfl,rfl,rfl,by decide +kernel,rfl,by decide +kernel,by decide +kernel⟩
abbrev jP:Stmt:=top 49
theorem gM:FnScope ["land","fields","height","most","steps","stream","works","amounts"] ["land","fields","height"] (aB jP):=⟨rfl,rfl,rfl,by decide +kernel,rfl,by decide +kernel,by decide +kernel⟩
abbrev dR:Stmt:=top 52
theorem qC:FnScope ["height"] ["height"] (aB dR):=⟨rfl,rfl,rfl,by decide +kernel,rfl,by decide +kernel,by decide +kernel⟩
abbrev mT:Stmt:=top 53
theorem aIY:FnScope ["land","fields","height"] ["land","fields","height"] (aB mT):=⟨rfl,rfl,rfl,by decide +kernel,rfl,by decide +kernel,by decide +kernel⟩
abbrev cY:Stmt:=top 54
theorem dL:FnScope ["count","lists","place"] ["count"] (aB cY):=⟨rfl,rfl,rfl,by decide +kernel,rfl,by decide +kernel,by decide +kernel⟩
abbrev fW:Stmt:=top 55
theorem gU:FnScope ["land","fields","height","told","places","company"] ["land","fields","height"] (aB fW):=⟨rfl,rfl,rfl,by decide +kernel,rfl,by decide +kernel,by decide +kernel⟩
abbrev cP:Stmt:=top 57
theorem dI:FnScope ["one","other","rest"] ["one","other"] (aB cP):=⟨rfl,rfl,rfl,by decide +kernel,rfl,by decide +kernel,by decide +kernel⟩
abbrev gZ:Stmt:=top 58
theorem oU:FnScope ["top","bottom","divisor"] ["top","bottom"] (aB gZ):=⟨rfl,rfl,rfl,by decide +kernel,rfl,by decide +kernel,by decide +kernel⟩
abbrev fQ:Stmt:=top 59
theorem gT:FnScope ["count","product","number"] ["count"] (aB fQ):=⟨rfl,rfl,rfl,by decide +kernel,rfl,by decide +kernel,by decide +kernel⟩
abbrev dM:Stmt:=top 60
theorem pJ:FnScope ["ahead","count"] ["ahead","count"] (aB dM):=⟨rfl,rfl,rfl,by decide +kernel,rfl,by decide +kernel,by decide +kernel⟩
abbrev gW:Stmt:=top 61
theorem fP:FnScope ["field","fields","costs","total","company","joined"] ["field","fields","costs"] (aB gW):=⟨rfl,rfl,rfl,by decide +kernel,rfl,by decide +kernel,by decide +kernel⟩
abbrev jM:Stmt:=top 62
theorem sW:FnScope ["land","fields","height","costs"] ["land","fields","height"] (aB jM):=⟨rfl,rfl,rfl,by decide +kernel,rfl,by decide +kernel,by decide +kernel⟩
abbrev kQ:Stmt:=top 64
theorem pK:FnScope ["_law_script","_law_k","_law_number"] ["_law_script","_law_k"] (aB kQ):=⟨rfl,rfl,rfl,by decide +kernel,rfl,by decide +kernel,by decide +kernel⟩
abbrev kP:Stmt:=top 65
theorem eC:FnScope ["_law_cell","_law_letters","_law_size","_law_place","_law_by","_law_base","_law_found","_law_k","_law_sign"] ["_law_cell"] (aB kP):=⟨rfl,rfl,rfl,by decide +kernel,rfl,by decide +kernel,by decide +kernel⟩
abbrev jR:Stmt:=top 66
theorem aCL:FnScope ["_law_cell"] ["_law_cell"] (aB jR):=⟨rfl,rfl,rfl,by decide +kernel,rfl,by decide +kernel,by decide +kernel⟩
abbrev jS:Stmt:=top 67
theorem gN:FnScope ["_law_script","_law_most","_law_names_here","_law_fields_here","_law_k","_law_cell","_law_dues"] ["_law_script","_law_most"] (aB jS):=⟨rfl,rfl,rfl,by decide +kernel,rfl,by decide +kernel,by decide +kernel⟩
abbrev kR:Stmt:=top 68
theorem cN:FnScope ["_law_script","_law_at","_law_most","_law_fields_here","_law_names_here","_law_sides","_law_dykes_here","_law_k","_law_cell","_law_one","_law_others","_law_other","_law_crown","_law_rate","_law_sill"] ["_law_script","_law_at","_law_most","_law_fields_here"] (aB kR):=⟨rfl,rfl,rfl,by decide +kernel,rfl,by decide +kernel,by decide +kernel⟩
abbrev mU:Stmt:=top 69
theorem kN:FnScope ["_law_cell","_law_fields_here","_law_most","_law_left","_law_found","_law_k"] ["_law_cell","_law_fields_here","_law_most"] (aB mU):=⟨rfl,rfl,rfl,by decide +kernel,rfl,by decide +kernel,by decide +kernel⟩
abbrev iS:Stmt:=top 70
theorem qD:FnScope ["_law_one","_law_other"] ["_law_one","_law_other"] (aB iS):=⟨rfl,rfl,rfl,by decide +kernel,rfl,by decide +kernel,by decide +kernel⟩
abbrev jQ:Stmt:=top 71
theorem sZ:FnScope ["_law_top","_law_bottom","_law_by"] ["_law_top","_law_bottom"] (aB jQ):=⟨rfl,rfl,rfl,by decide +kernel,rfl,by decide +kernel,by decide +kernel⟩
abbrev kO:Stmt:=top 72
theorem jK:FnScope ["_law_told","_law_company","_law_total_here","_law_name","_law_part"] ["_law_told","_law_company"] (aB kO):=⟨rfl,rfl,rfl,by decide +kernel,rfl,by decide +kernel,by decide +kernel⟩
abbrev kT:Stmt:=top 73
theorem aEP:FnScope ["_law_land","_law_company","_law_height_here"] ["_law_land","_law_company","_law_height_here"] (aB kT):=⟨rfl,rfl,rfl,by decide +kernel,rfl,by decide +kernel,by decide +kernel⟩
abbrev mW:Stmt:=top 74
theorem oJ:FnScope ["_law_land","_law_wish_here","_law_height_here","_law_told","_law_company","_law_top","_law_bottom","_law_rest"] ["_law_land","_law_wish_here","_law_height_here","_law_told","_law_company"] (aB mW):=⟨rfl,rfl,rfl,by decide +kernel,rfl,by decide +kernel,by decide +kernel⟩
abbrev oK:Stmt:=top 75
theorem eW:FnScope ["_law_script","_law_fields_here","_law_land","_law_wish_here","_law_height_here","_law_told","_law_name","_law_k","_law_cell","_law_company","_law_other"] ["_law_script"] (aB oK):=⟨rfl,rfl,rfl,by decide +kernel,rfl,by decide +kernel,by decide +kernel⟩
structure Txt (K:AG) (mg:Str → Option Value) (C:Addr):Prop where
 cl_Land:Cls K C
 mg_Land:mg "Land" = some (.ref C)
 a_field_rows:oE K C "field_rows"
 a_dyke_rows:oE K C "dyke_rows"
 ci_Land:InstC K C
 i_Land:InitAt K C "Land.__init__" hJ ["self","fields","dykes"]
 m_land_p_fields:MethAt K C "fields" "Land.fields" gG ["self"]
 m_land_p_dykes:MethAt K C "dykes" "Land.dykes" fE ["self"]
 m_land_p_field_names:MethAt K C "field_names" "Land.field_names" cQ ["self"]
 m_land_p_dyke_names:MethAt K C "dyke_names" "Land.dyke_names" dA ["self"]
 m_land_p_sluices:MethAt K C "sluices" "Land.sluices" fJ ["self"]
 m_land_p_ground:MethAt K C "ground" "Land.ground" eO ["self","field"]
 m_land_p_dues:MethAt K C "dues" "Land.dues" iI ["self","field"]
 m_land_p_dyke:MethAt K C "dyke" "Land.dyke" gA ["self","name"]
 m_land_p_raised:MethAt K C "raised" "Land.raised" gF ["self","works"]
 d_p_wall:DefAt K mg "_wall" qE ["k"]
 d_p_is_whole:DefAt K mg "is_whole" gX ["thing"]
 d_p_is_name:DefAt K mg "is_name" iQ ["thing"]
 d_p_is_height:DefAt K mg "is_height" fS ["thing"]
 d_p_is_amount:DefAt K mg "is_amount" fU ["thing"]
 d_p_is_one_of:DefAt K mg "is_one_of" fR ["thing","names"]
 d_p_is_list_of:DefAt K mg "is_list_of" fB ["thing","most"]
 d_p_is_tuple_of:DefAt K mg "is_tuple_of" eN ["thing","length"]
 d_p_none_twice:DefAt K mg "none_twice" fA ["rows"]
 d_p_is_field:DefAt K mg "is_field" gY ["thing"]
 d_p_are_fields:DefAt K mg "are_fields" fD ["thing"]
 d_p_are_sides:DefAt K mg "are_sides" fY ["one","other","sides"]
 d_p_is_sill:DefAt K mg "is_sill" iP ["thing","crown"]
 d_p_is_dyke:DefAt K mg "is_dyke" iR ["thing","sides"]
 d_p_are_dykes:DefAt K mg "are_dykes" fZ ["thing","sides"]
 d_p_is_work:DefAt K mg "is_work" iO ["land","thing"]
 d_p_are_works:DefAt K mg "are_works" fX ["land","thing"]
 d_p_are_some_fields:DefAt K mg "are_some_fields" cZ ["land","thing"]
 d_p_spread:DefAt K mg "spread" jL ["starts","steps"]
 d_p_path_to:DefAt K mg "path_to" iN ["came","side"]
 d_p_check_wish:DefAt K mg "check_wish" fC ["land","fields","height"]
 d_p_coins_to:DefAt K mg "coins_to" hE ["dyke","height"]
 d_p_coins_of:DefAt K mg "coins_of" hG ["land","works"]
 d_p_is_low:DefAt K mg "is_low" jN ["land","side","height"]
 d_p_is_gap:DefAt K mg "is_gap" jO ["land","dyke","height"]
 d_p_gap_coins:DefAt K mg "gap_coins" fV ["land","height"]
 d_p_steps_over:DefAt K mg "steps_over" eZ ["land","names"]
 d_p_room:DefAt K mg "room" mR ["step","most","stream"]
 d_p_reached:DefAt K mg "reached" iM ["steps","most","stream"]
 d_p_path_with_room:DefAt K mg "path_with_room" dG ["steps","most","stream","fields"]
 d_p_fullest_stream:DefAt K mg "fullest_stream" dH ["steps","most","fields"]
 d_p_works_round:DefAt K mg "works_round" eM ["steps","flowed","fields","height"]
 d_p_fewest:DefAt K mg "fewest" jP ["land","fields","height"]
 d_p_cost_of_none:DefAt K mg "cost_of_none" dR ["height"]
 d_p_cost:DefAt K mg "cost" mT ["land","fields","height"]
 d_p_lists_of_places:DefAt K mg "lists_of_places" cY ["count"]
 d_p_companies:DefAt K mg "companies" fW ["land","fields","height"]
 d_p_greatest_divisor:DefAt K mg "greatest_divisor" cP ["one","other"]
 d_p_fraction:DefAt K mg "fraction" gZ ["top","bottom"]
 d_p_orders_of:DefAt K mg "orders_of" fQ ["count"]
 d_p_orders_behind:DefAt K mg "orders_behind" dM ["ahead","count"]
 d_p_share_of:DefAt K mg "share_of" gW ["field","fields","costs"]
 d_p_shares:DefAt K mg "shares" jM ["land","fields","height"]
 d_l_mixed:DefAt K mg "_law_mixed" kQ ["_law_script","_law_k"]
 d_l_names:DefAt K mg "_law_names" kP ["_law_cell"]
 d_l_height:DefAt K mg "_law_height" jR ["_law_cell"]
 d_l_fields:DefAt K mg "_law_fields" jS ["_law_script","_law_most"]
 d_l_dykes:DefAt K mg "_law_dykes" kR ["_law_script","_law_at","_law_most","_law_fields_here"]
 d_l_wish:DefAt K mg "_law_wish" mU ["_law_cell","_law_fields_here","_law_most"]
 d_l_divisor:DefAt K mg "_law_divisor" iS ["_law_one","_law_other"]
 d_l_lowest:DefAt K mg "_law_lowest" jQ ["_law_top","_law_bottom"]
 d_l_total:DefAt K mg "_law_total" kO ["_law_told","_law_company"]
 d_l_coins:DefAt K mg "_law_coins" kT ["_law_land","_law_company","_law_height_here"]
 d_l_fair:DefAt K mg "_law_fair" mW ["_law_land","_law_wish_here","_law_height_here","_law_told","_law_company"]
 d_p_law:DefAt K mg "law" oK ["_law_script"]
 g_SEA:kJ mg "SEA" (.str "sea")
 g_LETTERS:kJ mg "LETTERS" (.str "abcdefghijklmnopqrstuvwxyz")
 g_MOST_LETTERS:kJ mg "MOST_LETTERS" (.int 8)
 g_MOST_HEIGHT:kJ mg "MOST_HEIGHT" (.int 1000000)
 g_MOST_AMOUNT:kJ mg "MOST_AMOUNT" (.int 1000000)
 g_MOST_FIELDS:kJ mg "MOST_FIELDS" (.int 12)
 g_MOST_DYKES:kJ mg "MOST_DYKES" (.int 40)
 g_MOST_IN_A_WISH:kJ mg "MOST_IN_A_WISH" (.int 8)
 n_abs:mg "abs" = none
 n_all:mg "all" = none
 n_bool:mg "bool" = none
 n_dict:mg "dict" = none
 n_int:mg "int" = none
 n_isinstance:mg "isinstance" = none
 n_len:mg "len" = none
 n_list:mg "list" = none
 n_max:mg "max" = none
 n_min:mg "min" = none
 n_range:mg "range" = none
 n_reversed:mg "reversed" = none
 n_set:mg "set" = none
 n_sorted:mg "sorted" = none
 n_str:mg "str" = none
 n_sum:mg "sum" = none
 n_tuple:mg "tuple" = none
section
variable {P:Program} {w:World} {K:AG} {mg:Str → Option Value} {base:Heap} {C:Addr}
open Ld
theorem bT:(1000:Nat) ≤ Ar:=by decide
def zZ:Sp:=sp1 fun x H Q=>∃ d,Is H d x ∧ Q (.bl (isInt d)) H
theorem oY (T:Txt K mg C):Fc P w K mg base 1 "is_whole" ["thing"] zZ:=by
 refine T.d_p_is_whole.fc xH oT (fun f cdv A outer s H vs Q E hr h=>?_)
 obtain ⟨x,rfl,d,hd,q⟩:=h
 obtain ⟨t,ty,e1,e2,_⟩:=sO K hd
 refine ⟨_,(@aH _ _ _ (@aT _ _ _ _ (@dB _ _ _ _ _ _ _ (@aU _ _ _ _ _ _ _ _ _ (@dO _ (K) rfl) rfl T.n_isinstance cK (@aA _ _ _ _ _ (pv 0) (@aA _ _ _ _ _ (@tF _ _ _ _ T.n_int aKH (by rfl) (by decide) (by decide)) aD (by rfl)) (by rfl)) (by decide) (by decide) (by rfl) (by rfl)) (@eG _ _ _ _ _ (@aST _ _ _ _ (@aU _ _ _ _ _ _ _ _ _ (@dO _ (K) rfl) rfl T.n_isinstance cK (@aA _ _ _ _ _ (pv 0) (@aA _ _ _ _ _ (@tF _ _ _ _ T.n_bool aGB (by rfl) (by decide) (by decide)) aD (by rfl)) (by rfl)) (by decide) (by decide) (by rfl) (by rfl))))))),?_⟩
 refine ⟨_,rfl,_,_,_,t,_,rfl,rfl,ty,e1,_,rfl,?_⟩
 refine nM (fun h=>?_) (fun h=>?_)
 ·refine ⟨_,rfl,_,_,_,t,_,rfl,rfl,ty,e2,_,rfl,?_⟩
  have e:(!aMY d) = isInt d:=by cases d <;> simp_all [isInt,aMY]
  rw [e]
  exact q
 ·have e:isInt d = false:=by cases d <;> simp_all [isInt,aMY]
  rw [e] at q
  exact q
def aEL:Sp:=sp1 fun x H Q=>∃ d,Is H d x ∧ eV d = true ∧ Q (.bl (pT d)) H
theorem qO (T:Txt K mg C):Fc P w K mg base 1 "is_name" ["thing"] aEL:=by
 refine T.d_p_is_name.fcD aAK oT (fun f cdv A outer s H vs Q E hr h=>?_)
 obtain ⟨x,rfl,d,hd,hz,q⟩:=h
 obtain ⟨t,ty,e1,e2,e3,_⟩:=sO K hd
 have big:=bT
 refine ⟨_,(@aG _ _ _ _ _ (@fL _ _ _ _ _ _ _ _ (@PW.pt _ _ _ (@qH _ _ _ _ _ _ _ (@eR _ _ _ _ (@eF _ _ _ (@aU _ _ _ _ _ _ _ _ _ (@dO _ (K) rfl) rfl T.n_isinstance cK (@aA _ _ _ _ _ (pv 0) (@aA _ _ _ _ _ (@tF _ _ _ _ T.n_str zK (by rfl) (by decide) (by decide)) aD (by rfl)) (by rfl)) (by decide) (by decide) (by rfl) (by rfl)) (by intro _;rfl))) (@mX _ _ _ _ (@eR _ _ _ _ (@aLZ _ _ _ _ _ _ _ _ _ _ _ _ tG tG aE (@aU _ _ _ _ _ _ _ _ _ aBM rfl T.n_len bN (@aA _ _ _ _ _ (pv 0) aD (by rfl)) (by decide) (by decide) (by rfl) (by rfl)) (@tV _ _ _ _ T.g_MOST_LETTERS (by rfl) (by decide)) (by with_unfolding_all rfl)))))) (@aH _ _ _ (@aT _ _ _ _ qJ)) cL) (@aH _ _ _ (@aT _ _ _ _ (@dB _ _ _ _ _ _ _ (@dQ _ _ _ _ _ _ _ _ yM (pv 0) (@tV _ _ _ _ T.g_SEA (by rfl) (by decide)) (@bY _ _ (by decide) (by decide))) (@eG _ _ _ _ _ (@aU _ _ _ _ _ _ _ _ _ (@nW _ rfl) rfl T.n_all lK (@aA _ _ _ _ _ (@cE _ _ _ _ _ _ _ _ _ _ _ ["sign"] 1 [] rfl (@aSQ _ _ _ _ (pv 0)) (fun R=>@bC _ _ (0) _ (show Ay (["sign"]:List Str) by decide +kernel) rfl (Or.inl rfl) (by trivial)) (@aZ _ _ (by decide)) (fun R=>cC) (fun R=>(@dQ _ _ _ _ _ _ _ _ aJF (pv 0) (@tV _ _ _ _ T.g_LETTERS (by rfl) (by decide)) (by with_unfolding_all rfl))) (by rfl) (by rfl) (by rfl) (by rfl) (by rfl) (by rfl) (by rfl) (by intro _;rfl)) aD (by rfl)) (by decide) (by decide) (by rfl) (by rfl))))))),?_⟩
 refine ⟨_,rfl,_,_,_,t,_,rfl,rfl,ty,e3,_,rfl,?_⟩
 cases d with
 | str z =>
  cases (show x = .str z from hd)
  have hz:z.length ≤ 1000:=of_decide_eq_true hz
  have q:Q (.bl (fG z)) H:=q
  have hzs:z.length ≤ Ar:=by omega
  refine bS ?_
  refine ⟨_,rfl,z,rfl,hzs,_,_,rfl,rfl,_,rfl,?_⟩
  refine nM (fun h1=>?_) (fun h1=>?_)
  ·refine ⟨_,_,rfl,rfl,_,rfl,?_⟩
   have h1':1 ≤ z.length:=by
    have:=of_decide_eq_true h1
    omega
   refine nM (fun h2=>?_) (fun h2=>?_)
   ·have e:fG z = false:=by
     have h2':¬ z.length ≤ 8:=by
      intro h3
      have:((z.length:Nat):Int) ≤ 8:=by omega
      simp [this] at h2
     simp [fG,h2']
    rw [e] at q
    exact cU.of (.refl _) q
   ·have h2':z.length ≤ 8:=by
     have h3:decide (((z.length:Nat):Int) ≤ 8) = true:=by
      cases h4:decide (((z.length:Nat):Int) ≤ 8) with
      | true=>rfl
      | false=>exact absurd (by rw [h4];rfl) h2
     have:=of_decide_eq_true h3
     omega
    refine ⟨_,rfl,rfl,_,rfl,?_⟩
    refine nM (fun h3=>?_) (fun h3=>?_)
    ·have h3':¬ z = "sea":=by
      intro h4
      subst h4
      simp at h3
     refine ⟨_,rfl,z,rfl,?_⟩
     refine aNY (BI hz (by decide)) (fun i ys H'=>H' = H ∧ ys = (z.cps.toList.take i).map fun c=>V.bl (jV c)) ⟨rfl,rfl⟩ ?_ ?_ ?_
     ·rintro i ys H' ⟨_,rfl⟩
      rw [AA,Ac]
      omega
     ·rintro i c ys H' K1 K2 hc ⟨rfl,rfl⟩ k1 k2
      refine ⟨_,rfl,_,_,rfl,rfl,k1 _ _ ⟨rfl,?_⟩⟩
      have hc':z.cps.toList[i]? = some c:=by simpa using hc
      rw [Ab,hc',aFJ]
      simp
     ·rintro ys H' ⟨rfl,rfl⟩
      intro p hp'
      refine ⟨p,z.cps.toList.map jV,rfl,SqL.of ?_,?_⟩
      ·rw [aF,AH (by simp),Ao]
       rfl
      ·refine ⟨H',iA.lst hp',?_⟩
       have e:fG z = (z.cps.toList.map jV).all id:=by
        rw [Dw]
        simp [fG,h1',h2',h3']
       rw [← e]
       exact q
    ·have e:fG z = false:=by
      have h4:z = "sea":=by
       apply DT
       intro h5
       exact h3 (by simp [h5])
      subst h4
      simp [fG]
     rw [e] at q
     exact cU.of (.refl _) q
  ·have e:fG z = false:=by
    have h1':¬ 1 ≤ z.length:=by
     intro h3
     exact h1 (decide_eq_true (by omega))
    simp [fG,h1']
   rw [e] at q
   exact ⟨_,rfl,cU.of (.refl _) q⟩
 | non=>exact cU.of (.refl _) q
 | bl b=>exact cU.of (.refl _) q
 | int i=>exact cU.of (.refl _) q
 | lst a=>exact cU.of (.refl _) q
 | tup a=>exact cU.of (.refl _) q
 | dct a b=>exact cU.of (.refl _) q
def jI:Sp:=sp1 fun x H Q=>∃ d,Is H d x ∧ Q (.bl (gB d)) H
theorem dW (T:Txt K mg C):Fc P w K mg base 2 "is_height" ["thing"] jI:=by
 have G_p_is_whole:Fc P w K mg base 1 "is_whole" ["thing"] zZ:=oY T
 refine T.d_p_is_height.fc uY oT (fun f cdv A outer s H vs Q E hr h=>?_)
 obtain ⟨x,rfl,d,hd,q⟩:=h
 refine ⟨_,(@aH _ _ _ (@aT _ _ _ _ (@dB _ _ _ _ _ _ _ (@bI _ _ _ _ _ _ _ _ _ _ G_p_is_whole (hr.mono (by decide)) (@aA _ _ _ _ _ (pv 0) aD (by rfl)) (by rfl) (by decide) (by rfl) (by rfl)) (@eG _ _ _ _ _ (@vJ _ _ _ _ _ _ _ _ _ _ _ _ tG tG (@aHF _ _ _ _ _ _ zX (@tV _ _ _ _ T.g_MOST_HEIGHT (by rfl) (by decide))) (pv 0) (@tV _ _ _ _ T.g_MOST_HEIGHT (by rfl) (by decide)) (by with_unfolding_all rfl)))))),?_⟩
 refine ⟨_,rfl,_,rfl,d,hd,_,rfl,?_⟩
 cases d with
 | int i =>
  cases (show x = .int i from hd)
  refine dD ?_
  have q:Q (.bl (decide (-1000000 ≤ i) && decide (i ≤ 1000000))) H:=q
  refine ⟨_,rfl,_,rfl,_,_,rfl,rfl,_,rfl,?_⟩
  refine nM (fun h1=>?_) (fun h1=>?_)
  ·refine ⟨_,_,rfl,rfl,?_⟩
   rw [decide_eq_true (show -1000000 ≤ i from of_decide_eq_true h1),BX] at q
   exact q
  ·rw [show decide (-1000000 ≤ i) = false from by simpa using h1,EI] at q
   exact q
 | _=>exact bS q
def uT:Sp:=sp1 fun x H Q=>∃ d,Is H d x ∧ Q (.bl (lB d)) H
theorem nC (T:Txt K mg C):Fc P w K mg base 2 "is_amount" ["thing"] uT:=by
 have G_p_is_whole:Fc P w K mg base 1 "is_whole" ["thing"] zZ:=oY T
 refine T.d_p_is_amount.fc uZ oT (fun f cdv A outer s H vs Q E hr h=>?_)
 obtain ⟨x,rfl,d,hd,q⟩:=h
 refine ⟨_,(@aH _ _ _ (@aT _ _ _ _ (@dB _ _ _ _ _ _ _ (@bI _ _ _ _ _ _ _ _ _ _ G_p_is_whole (hr.mono (by decide)) (@aA _ _ _ _ _ (pv 0) aD (by rfl)) (by rfl) (by decide) (by rfl) (by rfl)) (@eG _ _ _ _ _ (@vJ _ _ _ _ _ _ _ _ _ _ _ _ tG tG aE (pv 0) (@tV _ _ _ _ T.g_MOST_AMOUNT (by rfl) (by decide)) (by with_unfolding_all rfl)))))),?_⟩
 refine ⟨_,rfl,_,rfl,d,hd,_,rfl,?_⟩
 cases d with
 | int i =>
  cases (show x = .int i from hd)
  refine dD ?_
  have q:Q (.bl (decide (0 ≤ i) && decide (i ≤ 1000000))) H:=q
  refine ⟨_,rfl,_,_,rfl,rfl,_,rfl,?_⟩
  refine nM (fun h1=>?_) (fun h1=>?_)
  ·refine ⟨_,_,rfl,rfl,?_⟩
   rw [decide_eq_true (show 0 ≤ i from of_decide_eq_true h1),BX] at q
   exact q
  ·rw [show decide (0 ≤ i) = false from by simpa using h1,EI] at q
   exact q
 | _=>exact bS q
def uJ (K:AG):Sp:=sp2 fun x y H Q=>∃ (d:Dv) (p:Addr) (zs:List Str),Is H d x ∧ y = .ref p ∧ SqL K H p (zs.map V.str) ∧ Q (.bl (qM zs d)) H
theorem qU (z:Str) (zs:List Str):inV (.str z) (zs.map V.str) = decide (z ∈ zs):=by
 unfold inV
 rw [Bj,Dr,decide_eq_true_iff]
 constructor
 ·rintro ⟨y,hy,e⟩
  obtain ⟨u,hu,rfl⟩:=AR.mp hy
  have e':(u == z) = true:=e
  rw [← beq_iff_eq.mp e']
  exact hu
 ·intro h
  exact ⟨_,AR.mpr ⟨z,h,rfl⟩,beq_self_eq_true z⟩
theorem lE (zs:List Str):(zs.map V.str).all qX = true:=by
 rw [BA]
 intro y hy
 obtain ⟨u,_,rfl⟩:=AR.mp hy
 rfl
theorem jT (T:Txt K mg C):Fc P w K mg base 1 "is_one_of" ["thing","names"] (uJ K):=by
 refine T.d_p_is_one_of.fc uX iX (fun f cdv A outer s H vs Q E hr h=>?_)
 obtain ⟨x,y,rfl,d,p,zs,hd,rfl,hp,q⟩:=h
 obtain ⟨t,ty,e1,e2,e3,_⟩:=sO K hd
 refine ⟨_,(@aH _ _ _ (@aT _ _ _ _ (@dB _ _ _ _ _ _ _ (@aU _ _ _ _ _ _ _ _ _ (@dO _ (K) rfl) rfl T.n_isinstance cK (@aA _ _ _ _ _ (pv 0) (@aA _ _ _ _ _ (@tF _ _ _ _ T.n_str zK (by rfl) (by decide) (by decide)) aD (by rfl)) (by rfl)) (by decide) (by decide) (by rfl) (by rfl)) (@eG _ _ _ _ _ (@dQ _ _ _ _ _ _ _ _ (@pM _ (K) rfl) (pv 0) (pv 1) (by with_unfolding_all rfl)))))),?_⟩
 refine ⟨_,rfl,_,_,_,t,_,rfl,rfl,ty,e3,_,rfl,?_⟩
 cases d with
 | str z =>
  cases (show x = .str z from hd)
  refine dD ⟨_,rfl,_,rfl,p,_,rfl,.inl hp,rfl,lE zs,?_⟩
  show Q (.bl (inV (.str z) (zs.map V.str))) H
  rw [qU]
  exact q
 | _=>exact bS q
def qA:Sp:=sp2 fun x y H Q=>∃ (d:Dv) (n:Int),Is H d x ∧ y = .int n ∧ Q (.bl (aMQ n d)) H
theorem iW (T:Txt K mg C):Fc P w K mg base 1 "is_list_of" ["thing","most"] qA:=by
 refine T.d_p_is_list_of.fc tR iX (fun f cdv A outer s H vs Q E hr h=>?_)
 obtain ⟨x,y,rfl,d,n,hd,rfl,q⟩:=h
 obtain ⟨t,ty,e1,e2,e3,e4,_⟩:=sO K hd
 refine ⟨_,(@aH _ _ _ (@aT _ _ _ _ (@dB _ _ _ _ _ _ _ (@aU _ _ _ _ _ _ _ _ _ (@dO _ (K) rfl) rfl T.n_isinstance cK (@aA _ _ _ _ _ (pv 0) (@aA _ _ _ _ _ (@tF _ _ _ _ T.n_list eK (by rfl) (by decide) (by decide)) aD (by rfl)) (by rfl)) (by decide) (by decide) (by rfl) (by rfl)) (@eG _ _ _ _ _ (@vJ _ _ _ _ _ _ _ _ _ _ _ _ tG tG aE (@aU _ _ _ _ _ _ _ _ _ (@bE _ (K) rfl) rfl T.n_len bN (@aA _ _ _ _ _ (pv 0) aD (by rfl)) (by decide) (by decide) (by rfl) (by rfl)) (pv 1) (by with_unfolding_all rfl)))))),?_⟩
 refine ⟨_,rfl,_,_,_,t,_,rfl,rfl,ty,e4,_,rfl,?_⟩
 cases d with
 | lst ds =>
  obtain ⟨a,vs,rfl,o,hl⟩:=hd
  have hlen:=hl.length
  have q:Q (.bl (decide (1 ≤ ds.length) && decide ((ds.length:Int) ≤ n))) H:=q
  refine dD ⟨_,rfl,a,vs,rfl,.inl (SqL.of o),_,_,rfl,rfl,_,rfl,?_⟩
  rw [hlen]
  refine nM (fun h1=>?_) (fun h1=>?_)
  ·refine ⟨_,rfl,_,_,rfl,rfl,?_⟩
   have h1':1 ≤ ds.length:=by have:=of_decide_eq_true h1;omega
   rw [decide_eq_true h1',BX] at q
   exact q
  ·have h1':¬ 1 ≤ ds.length:=fun c=>h1 (decide_eq_true (by omega))
   rw [decide_eq_false h1',EI] at q
   exact q
 | _=>exact bS q
def uH:Sp:=sp2 fun x y H Q=>∃ (d:Dv) (n:Int),Is H d x ∧ y = .int n ∧ Q (.bl (aGH n d)) H
theorem iE (T:Txt K mg C):Fc P w K mg base 1 "is_tuple_of" ["thing","length"] uH:=by
 refine T.d_p_is_tuple_of.fc rJ iX (fun f cdv A outer s H vs Q E hr h=>?_)
 obtain ⟨x,y,rfl,d,n,hd,rfl,q⟩:=h
 obtain ⟨t,ty,e1,e2,e3,e4,e5⟩:=sO K hd
 refine ⟨_,(@aH _ _ _ (@aT _ _ _ _ (@dB _ _ _ _ _ _ _ (@aU _ _ _ _ _ _ _ _ _ (@dO _ (K) rfl) rfl T.n_isinstance cK (@aA _ _ _ _ _ (pv 0) (@aA _ _ _ _ _ (@tF _ _ _ _ T.n_tuple nX (by rfl) (by decide) (by decide)) aD (by rfl)) (by rfl)) (by decide) (by decide) (by rfl) (by rfl)) (@eG _ _ _ _ _ (@dQ _ _ _ _ _ _ _ _ oX (@aU _ _ _ _ _ _ _ _ _ (@bE _ (K) rfl) rfl T.n_len bN (@aA _ _ _ _ _ (pv 0) aD (by rfl)) (by decide) (by decide) (by rfl) (by rfl)) (pv 1) (@bY _ _ (by decide) (by decide))))))),?_⟩
 refine ⟨_,rfl,_,_,_,t,_,rfl,rfl,ty,e5,_,rfl,?_⟩
 cases d with
 | tup ds =>
  obtain ⟨a,vs,rfl,o,hl⟩:=hd
  have hlen:=hl.length
  have q:Q (.bl (decide ((ds.length:Int) = n))) H:=q
  refine dD ⟨_,rfl,a,vs,rfl,.inr (SqT.of o),_,rfl,rfl,?_⟩
  rw [hlen]
  have e:decide (V.int (ds.length:Int) = V.int n) = decide ((ds.length:Int) = n):=by rw [jD,Bj];simp
  rw [e]
  exact q
 | _=>exact bS q
def uG:Sp:=sp1 fun x H Q=>∃ (p:Addr) (vs:List V) (ds:List Dv) (zs:List Str),x = .ref p ∧ H p = some (.lst vs) ∧ IsL H ds vs ∧ ds.map cH = zs.map some ∧ zs.length ≤ 1000 ∧ Q (.bl (decide zs.Nodup)) H
theorem aJV {H:Hp} {d:Dv} {v:V} {z:Str} (h:Is H d v) (e:cH d = some z):∃ a r,v = .ref a ∧ H a = some (.tup (.str z :: r)):=by
 cases d with
 | tup ds =>
  cases ds with
  | nil=>cases e
  | cons d0 ds =>
   cases d0 with
   | str y =>
    cases e
    obtain ⟨a,vs,rfl,o,v0,r,rfl,h0,_⟩:=h
    cases (show v0 = .str z from h0)
    exact ⟨a,r,rfl,o⟩
   | _=>cases e
 | _=>cases e
theorem iF (zs:List Str):(zs.map (Sum.inr:Str → Key)).Nodup ↔ zs.Nodup:=by
 induction zs with
 | nil=>simp
 | cons z zs ih =>
  rw [AY,Ak,Ak,ih]
  simp
theorem aHK (zs:List Str):(zs.map (Sum.inr:Str → Key)).map kV = zs.map V.str:=by
 rw [Ao];rfl
theorem iV (T:Txt K mg C):Fc P w K mg base 1 "none_twice" ["rows"] uG:=by
 refine T.d_p_none_twice.fcD tQ oT (fun f cdv A outer s H vs Q E hr h=>?_)
 obtain ⟨x,rfl,p,us,ds,zs,rfl,hp,hi,hz,hn,q⟩:=h
 have big:=bT
 have l1:=hi.length
 have l2:ds.length = zs.length:=by have:=congrArg Cz hz;simpa using this
 refine ⟨_,(@aH _ _ _ (@aT _ _ _ _ (@dQ _ _ _ _ _ _ _ _ oX (@aU _ _ _ _ _ _ _ _ _ call_len_set rfl T.n_len bN (@aA _ _ _ _ _ (@cJ _ _ _ _ _ _ _ _ _ (@pF _ rfl) rfl T.n_set zL (@aA _ _ _ _ _ (@cE _ _ _ _ _ _ _ _ _ _ _ ["row"] 1 [] rfl (@bO _ _ _ _ (pv 0)) (fun R=>@bC _ _ (0) _ (show Ay (["row"]:List Str) by decide +kernel) rfl (Or.inl rfl) (by trivial)) (@aZ _ _ (by decide)) (fun R=>cC) (fun R=>(@bG _ _ _ _ _ _ _ (@aQ _ (K) rfl) (pv 0) aE (fun _ _=>rfl))) (by rfl) (by rfl) (by rfl) (by rfl) (by rfl) (by rfl) (by rfl) (by intro _;rfl)) aD (by rfl)) (by decide) (by decide) (by rfl) (by rfl)) aD (by rfl)) (by decide) (by decide) (by rfl) (by rfl)) (@aU _ _ _ _ _ _ _ _ _ (@bE _ (K) rfl) rfl T.n_len bN (@aA _ _ _ _ _ (pv 0) aD (by rfl)) (by decide) (by decide) (by rfl) (by rfl)) (@bY _ _ (by decide) (by decide))))),?_⟩
 refine ⟨_,rfl,p,rfl,⟨_,SqL.of hp⟩,?_⟩
 refine bM (F:=K) (xs:=us) (by omega) (fun i ys H'=>H' = H ∧ ys = (zs.take i).map V.str) ⟨rfl,rfl⟩ ?_ ?_ ?_
 ·rintro i ys H' hi' ⟨rfl,rfl⟩
  exact ⟨SqL.of hp,by rw [AA,Ac];omega⟩
 ·rintro i x ys H' K1 K2 hx ⟨rfl,rfl⟩ k1 k2
  have hil:i < us.length:=(AC.mp hx).1
  obtain ⟨d,ed⟩:∃ d,ds[i]? = some d:=⟨_,AB (by omega)⟩
  obtain ⟨z,ez⟩:∃ z,zs[i]? = some z:=⟨_,AB (by omega)⟩
  obtain ⟨v,ev,iv⟩:=hi.get ed
  rw [hx] at ev
  cases ev
  have ef:cH d = some z:=by
   have:=congrArg (fun l=>l[i]?) hz
   simpa [ed,ez] using this
  obtain ⟨a,r,rfl,o⟩:=aJV iv ef
  refine ⟨_,rfl,a,_,0,.str z,rfl,rfl,SqT.of o,aN (j:=0) rfl,k1 _ _ ⟨rfl,?_⟩⟩
  rw [Ab,ez]
  simp
 ·rintro ys H' ⟨rfl,rfl⟩
  intro p1 hp1
  have hys:(zs.take us.length).map V.str = (zs.map (Sum.inr:Str → Key)).map kV:=by
   rw [AH (by omega),aHK]
  refine ⟨p1,zs.map Sum.inr,rfl,SqL.of (by rw [aF,hys]),by rw [AA];exact hn,fun p2 hp2=>?_⟩
  have hle:=aHZ (zs.map (Sum.inr:Str → Key))
  rw [AA] at hle
  have np:p ≠ p1:=aY hp hp1
  have np2:p ≠ p2:=aY (show upd H' p1 _ p = _ from (aK np).trans hp) hp2
  refine ⟨p2,_,_,rfl,aF,by omega,_,rfl,p,us,rfl,.inl (SqL.of (by rw [aK np2,aK np];exact hp)),rfl,?_⟩
  have e:decide (V.int ((wT (zs.map (Sum.inr:Str → Key))).length:Int) = V.int (us.length:Int)) = decide zs.Nodup:=by
   rw [jD,Bj,decide_eq_true_iff,← iF,← zD,AA,beq_iff_eq]
   omega
  rw [e]
  exact cU.of ((iA.new hp2 rfl).trans (iA.lst hp1)) q
def aGQ:Sp:=sp1 fun x H Q=>∃ d,Is H d x ∧ eV d = true ∧ Q (.bl (cG d)) H
theorem xN (T:Txt K mg C):Fc P w K mg base 3 "is_field" ["thing"] aGQ:=by
 have G_p_is_tuple_of:Fc P w K mg base 1 "is_tuple_of" ["thing","length"] uH:=iE T
 have G_p_is_name:Fc P w K mg base 1 "is_name" ["thing"] aEL:=qO T
 have G_p_is_height:Fc P w K mg base 2 "is_height" ["thing"] jI:=dW T
 have G_p_is_amount:Fc P w K mg base 2 "is_amount" ["thing"] uT:=nC T
 refine T.d_p_is_field.fc xI oT (fun f cdv A outer s H vs Q E hr h=>?_)
 obtain ⟨x,rfl,d,hd,hs,q⟩:=h
 refine ⟨_,(@aG _ _ _ _ _ (@fL _ _ _ _ _ _ _ _ (@eR _ _ _ _ (@eF _ _ _ (@bI _ _ _ _ _ _ _ _ _ _ G_p_is_tuple_of (hr.mono (by decide)) (@aA _ _ _ _ _ (pv 0) (@aA _ _ _ _ _ aE aD (by rfl)) (by rfl)) (by rfl) (by decide) (by rfl) (by rfl)) (by intro _;rfl))) (@aH _ _ _ (@aT _ _ _ _ qJ)) cL) (@aH _ _ _ (@aT _ _ _ _ (@dB _ _ _ _ _ _ _ (@bI _ _ _ _ _ _ _ _ _ _ G_p_is_name (hr.mono (by decide)) (@aA _ _ _ _ _ (@bG _ _ _ _ _ _ _ (@aQ _ (K) rfl) (pv 0) aE (fun _ _=>rfl)) aD (by rfl)) (by rfl) (by decide) (by rfl) (by rfl)) (@dB _ _ _ _ _ _ _ (@bI _ _ _ _ _ _ _ _ _ _ G_p_is_height (hr.mono (by decide)) (@aA _ _ _ _ _ (@bG _ _ _ _ _ _ _ (@aQ _ (K) rfl) (pv 0) aE (fun _ _=>rfl)) aD (by rfl)) (by rfl) (by decide) (by rfl) (by rfl)) (@eG _ _ _ _ _ (@bI _ _ _ _ _ _ _ _ _ _ G_p_is_amount (hr.mono (by decide)) (@aA _ _ _ _ _ (@bG _ _ _ _ _ _ _ (@aQ _ (K) rfl) (pv 0) aE (fun _ _=>rfl)) aD (by rfl)) (by rfl) (by decide) (by rfl) (by rfl)))))))),?_⟩
 refine ⟨_,rfl,_,_,rfl,d,3,hd,rfl,_,rfl,?_⟩
 by_cases h3:∃ a b c,d = .tup [a,b,c]
 ·obtain ⟨a,b,c,rfl⟩:=h3
  obtain ⟨t,us,rfl,o,va,r1,rfl,ha,vb,r2,rfl,hb,vc,r3,rfl,hc,h0⟩:=hd
  cases (show r3 = [] from h0)
  have sa:eV a = true:=by
   exact jJ (yF hs) AU
  have q:Q (.bl (pT a && (gB b && lB c))) H:=q
  refine bS ⟨_,rfl,t,_,0,va,rfl,rfl,SqT.of o,aN (j:=0) rfl,_,rfl,a,ha,sa,_,rfl,?_⟩
  cases ea:pT a with
  | false=>rw [ea] at q;exact bS q
  | true =>
   rw [ea,BX] at q
   refine dD ⟨_,rfl,t,_,1,vb,rfl,rfl,SqT.of o,aN (j:=1) rfl,_,rfl,b,hb,_,rfl,?_⟩
   cases eb:gB b with
   | false=>rw [eb] at q;exact bS q
   | true =>
    rw [eb,BX] at q
    exact dD ⟨_,rfl,t,_,2,vc,rfl,rfl,SqT.of o,aN (j:=2) rfl,_,rfl,c,hc,q⟩
 ·have e1:cG d = false:=by
   unfold cG
   split
   ·rename_i a b c
    exact absurd ⟨a,b,c,rfl⟩ h3
   ·rfl
  have e2:aGH 3 d = false:=by
   cases d with
   | tup ds =>
    refine decide_eq_false (fun e=>?_)
    have e':ds.length = 3:=by omega
    match ds,e',h3 with
    | [a,b,c],_,h3=>exact h3 ⟨a,b,c,rfl⟩
   | _=>rfl
  dsimp only
  rw [e2]
  rw [e1] at q
  exact dD q
theorem oO {p:Dv → Bool} (hp:∀ d,p d = true → ∃ z,cH d = some z):∀ {ds:List Dv},ds.all p = true → ∃ zs:List Str,ds.map cH = zs.map some
 | [],_=>⟨[],rfl⟩
 | d :: ds,h=>by
  rw [Dl,Aj] at h
  obtain ⟨z,e⟩:=hp d h.1
  obtain ⟨zs,e2⟩:=oO hp h.2
  exact ⟨z :: zs,by rw [AY,AY,e,e2]⟩
theorem xS (d:Dv) (h:cG d = true):∃ z,cH d = some z:=by
 unfold cG at h
 split at h
 ·rename_i a b c
  rw [Aj] at h
  cases a with
  | str z=>exact ⟨z,rfl⟩
  | _=>cases h.1
 ·cases h
def aCD:Sp:=sp1 fun x H Q=>∃ d,Is H d x ∧ eV d = true ∧ Q (.bl (lL d)) H
theorem tX (T:Txt K mg C):Fc P w K mg base 4 "are_fields" ["thing"] aCD:=by
 have G_p_is_list_of:Fc P w K mg base 1 "is_list_of" ["thing","most"] qA:=iW T
 have G_p_is_field:Fc P w K mg base 3 "is_field" ["thing"] aGQ:=xN T
 have G_p_none_twice:Fc P w K mg base 1 "none_twice" ["rows"] uG:=iV T
 refine T.d_p_are_fields.fcD tT oT (fun f cdv A outer s H vs Q E hr h=>?_)
 obtain ⟨x,rfl,d,hd,hs,q⟩:=h
 have big:=bT
 refine ⟨_,(@aH _ _ _ (@aT _ _ _ _ (@dB _ _ _ _ _ _ _ (@bI _ _ _ _ _ _ _ _ _ _ G_p_is_list_of (hr.mono (by decide)) (@aA _ _ _ _ _ (pv 0) (@aA _ _ _ _ _ (@tV _ _ _ _ T.g_MOST_FIELDS (by rfl) (by decide)) aD (by rfl)) (by rfl)) (by rfl) (by decide) (by rfl) (by rfl)) (@dB _ _ _ _ _ _ _ (@aU _ _ _ _ _ _ _ _ _ (@nW _ rfl) rfl T.n_all lK (@aA _ _ _ _ _ (@cE _ _ _ _ _ _ _ _ _ _ _ ["row"] 1 [] rfl (@bO _ _ _ _ (pv 0)) (fun R=>@bC _ _ (0) _ (show Ay (["row"]:List Str) by decide +kernel) rfl (Or.inl rfl) (by trivial)) (@aZ _ _ (by decide)) (fun R=>cC) (fun R=>(@bI _ _ _ _ _ _ _ _ _ _ G_p_is_field (hr.mono (by decide)) (@aA _ _ _ _ _ (pv 0) aD (by rfl)) (by rfl) (by decide) (by rfl) (by rfl))) (by rfl) (by rfl) (by rfl) (by rfl) (by rfl) (by rfl) (by rfl) (by intro _;rfl)) aD (by rfl)) (by decide) (by decide) (by rfl) (by rfl)) (@eG _ _ _ _ _ (@bI _ _ _ _ _ _ _ _ _ _ G_p_none_twice (hr.mono (by decide)) (@aA _ _ _ _ _ (pv 0) aD (by rfl)) (by rfl) (by decide) (by rfl) (by rfl))))))),?_⟩
 refine ⟨_,rfl,_,_,rfl,d,12,hd,rfl,_,rfl,?_⟩
 cases d with
 | lst ds =>
  obtain ⟨p,us,rfl,o,hi⟩:=hd
  have l1:=hi.length
  have hs':=BK.mp (show (decide (ds.length ≤ 1000) && iB ds) = true from hs)
  have l2:ds.length ≤ 1000:=of_decide_eq_true hs'.1
  have q:Q (.bl ((decide (1 ≤ ds.length) && decide (ds.length ≤ 12)) && (ds.all cG && decide ((ds.map cH).Nodup)))) H:=q
  have e0:(decide (1 ≤ ds.length) && decide ((ds.length:Int) ≤ 12)) = (decide (1 ≤ ds.length) && decide (ds.length ≤ 12)):=by
   congr 1
   rw [Bj,decide_eq_true_iff,decide_eq_true_iff]
   omega
  show if (decide (1 ≤ ds.length) && decide ((ds.length:Int) ≤ 12)) = true then _ else _
  rw [e0]
  refine nM (fun h1=>?_) (fun h1=>?_)
  ·rw [h1,BX] at q
   refine ⟨_,rfl,p,rfl,⟨_,SqL.of o⟩,?_⟩
   refine bM (F:=K) (xs:=us) (by omega) (fun i ys H'=>H' = H ∧ ys = (ds.take i).map fun d=>V.bl (cG d)) ⟨rfl,rfl⟩ ?_ ?_ ?_
   ·rintro i ys H' hi' ⟨rfl,rfl⟩
    exact ⟨SqL.of o,by rw [AA,Ac];omega⟩
   ·rintro i x ys H' K1 K2 hx ⟨rfl,rfl⟩ k1 k2
    have hil:i < us.length:=(AC.mp hx).1
    obtain ⟨d,ed⟩:∃ d,ds[i]? = some d:=⟨_,AB (by omega)⟩
    obtain ⟨v,ev,iv⟩:=hi.get ed
    rw [hx] at ev
    cases ev
    refine ⟨_,rfl,_,rfl,d,iv,jJ hs'.2 (AN ed),k1 _ _ ⟨rfl,?_⟩⟩
    rw [Ab,ed]
    simp
   ·rintro ys H' ⟨rfl,rfl⟩
    intro p1 hp1
    have np:p ≠ p1:=aY o hp1
    refine ⟨p1,ds.map cG,rfl,SqL.of ?_,_,rfl,?_⟩
    ·rw [aF,AH (by omega),Ao]
     rfl
    have e1:(ds.map cG).all id = ds.all cG:=by rw [Dw];rfl
    rw [e1]
    refine nM (fun h2=>?_) (fun h2=>?_)
    ·rw [h2,BX] at q
     obtain ⟨zs,ez⟩:=oO xS h2
     have l3:zs.length = ds.length:=by have:=congrArg Cz ez;simpa using this.symm
     refine ⟨_,rfl,_,rfl,p,us,ds,zs,rfl,by rw [aK np];exact o,IsL.same (aI.upd hp1) _ _ hi,ez,by omega,?_⟩
     have e2:decide zs.Nodup = decide (ds.map cH).Nodup:=by rw [ez,Bj,decide_eq_true_iff,decide_eq_true_iff,eI]
     rw [e2]
     exact cU.of (iA.lst hp1) q
    ·have h2':ds.all cG = false:=by simpa using h2
     rw [h2'] at q
     exact cU.of (iA.lst hp1) q
  ·have h1':(decide (1 ≤ ds.length) && decide (ds.length ≤ 12)) = false:=by simpa using h1
   rw [h1'] at q
   exact cU.of (.refl _) q
 | _=>exact bS (cU.of (.refl _) q)
def aGL (K:AG):Sp:=sp3 fun x y u H Q=>∃ (a b:Dv) (p:Addr) (zs:List Str),Is H a x ∧ Is H b y ∧ u = .ref p ∧ SqL K H p (zs.map V.str) ∧ Q (.bl (nZ zs a b)) H
theorem vR (T:Txt K mg C):Fc P w K mg base 2 "are_sides" ["one","other","sides"] (aGL K):=by
 have G_p_is_one_of:Fc P w K mg base 1 "is_one_of" ["thing","names"] (uJ K):=jT T
 refine T.d_p_are_sides.fc vC pQ (fun f cdv A outer s H vs Q E hr h=>?_)
 obtain ⟨x,y,u,rfl,a,b,p,zs,ha,hb,rfl,hp,q⟩:=h
 refine ⟨_,(@aH _ _ _ (@aT _ _ _ _ (@dB _ _ _ _ _ _ _ (@bI _ _ _ _ _ _ _ _ _ _ G_p_is_one_of (hr.mono (by decide)) (@aA _ _ _ _ _ (pv 0) (@aA _ _ _ _ _ (pv 2) aD (by rfl)) (by rfl)) (by rfl) (by decide) (by rfl) (by rfl)) (@dB _ _ _ _ _ _ _ (@bI _ _ _ _ _ _ _ _ _ _ G_p_is_one_of (hr.mono (by decide)) (@aA _ _ _ _ _ (pv 1) (@aA _ _ _ _ _ (pv 2) aD (by rfl)) (by rfl)) (by rfl) (by decide) (by rfl) (by rfl)) (@eG _ _ _ _ _ (@dQ _ _ _ _ _ _ _ _ yM (pv 0) (pv 1) (@bY _ _ (by decide) (by decide)))))))),?_⟩
 have q:Q (.bl (qM zs a && (qM zs b && !deq a b))) H:=q
 refine ⟨_,rfl,_,rfl,_,_,rfl,a,p,zs,ha,rfl,hp,_,rfl,?_⟩
 cases ea:qM zs a with
 | false=>rw [ea] at q;exact bS q
 | true =>
  rw [ea,BX] at q
  refine dD ⟨_,rfl,_,rfl,_,_,rfl,b,p,zs,hb,rfl,hp,_,rfl,?_⟩
  cases eb:qM zs b with
  | false=>rw [eb] at q;exact bS q
  | true =>
   rw [eb,BX] at q
   cases a with
   | str z =>
    cases b with
    | str z' =>
     cases (show x = .str z from ha)
     cases (show y = .str z' from hb)
     refine dD ⟨_,rfl,_,rfl,rfl,?_⟩
     have e:(!decide (V.str z = V.str z')) = !deq (.str z) (.str z'):=by rw [lZ];rfl
     rw [e]
     exact q
    | _=>cases eb
   | _=>cases ea
def aKZ:Sp:=sp2 fun x y H Q=>∃ (d:Dv) (j:Int),Is H d x ∧ y = .int j ∧ Q (.bl (nN (.int j) d)) H
theorem aAX (T:Txt K mg C):Fc P w K mg base 3 "is_sill" ["thing","crown"] aKZ:=by
 have G_p_is_height:Fc P w K mg base 2 "is_height" ["thing"] jI:=dW T
 refine T.d_p_is_sill.fc aAJ iX (fun f cdv A outer s H vs Q E hr h=>?_)
 obtain ⟨x,y,rfl,d,j,hd,rfl,q⟩:=h
 refine ⟨_,(@aH _ _ _ (@aT _ _ _ _ (@aRQ _ _ _ _ _ _ _ (@dQ _ _ _ _ _ _ _ _ aSY (pv 0) aAS (@bY _ _ (by decide) (by decide))) (@eG _ _ _ _ _ (@dB _ _ _ _ _ _ _ (@bI _ _ _ _ _ _ _ _ _ _ G_p_is_height (hr.mono (by decide)) (@aA _ _ _ _ _ (pv 0) aD (by rfl)) (by rfl) (by decide) (by rfl) (by rfl)) (@eG _ _ _ _ _ (@dQ _ _ _ _ _ _ _ _ yN (pv 0) (pv 1) (@bY _ _ (by decide) (by decide))))))))),?_⟩
 refine ⟨_,rfl,rfl,_,rfl,?_⟩
 cases d with
 | non =>
  cases (show x = .non from hd)
  rw [decide_eq_true rfl]
  exact dD q
 | int i =>
  cases (show x = .int i from hd)
  rw [decide_eq_false (show ¬ V.int i = V.non by intro z;cases z)]
  refine bS ⟨_,rfl,_,rfl,.int i,rfl,_,rfl,?_⟩
  have q:Q (.bl (hgt i && decide (i < j))) H:=q
  show if hgt i = true then _ else _
  cases e:hgt i with
  | false=>rw [e] at q;exact bS q
  | true=>rw [e,BX] at q;exact dD ⟨_,rfl,_,rfl,_,_,rfl,rfl,q⟩
 | bl b =>
  cases (show x = .bl b from hd)
  rw [decide_eq_false (show ¬ V.bl b = V.non by intro z;cases z)]
  exact bS ⟨_,rfl,_,rfl,.bl b,rfl,_,rfl,bS q⟩
 | str b =>
  cases (show x = .str b from hd)
  rw [decide_eq_false (show ¬ V.str b = V.non by intro z;cases z)]
  exact bS ⟨_,rfl,_,rfl,.str b,rfl,_,rfl,bS q⟩
 | lst b =>
  obtain ⟨a,us,rfl,o⟩:=id hd
  rw [decide_eq_false (show ¬ V.ref a = V.non by intro z;cases z)]
  exact bS ⟨_,rfl,_,rfl,.lst b,hd,_,rfl,bS q⟩
 | tup b =>
  obtain ⟨a,us,rfl,o⟩:=id hd
  rw [decide_eq_false (show ¬ V.ref a = V.non by intro z;cases z)]
  exact bS ⟨_,rfl,_,rfl,.tup b,hd,_,rfl,bS q⟩
 | dct b c =>
  obtain ⟨a,us,rfl,o⟩:=id hd
  rw [decide_eq_false (show ¬ V.ref a = V.non by intro z;cases z)]
  exact bS ⟨_,rfl,_,rfl,.dct b c,hd,_,rfl,bS q⟩
def aLH (K:AG):Sp:=sp2 fun x y H Q=>∃ (d:Dv) (p:Addr) (zs:List Str),Is H d x ∧ eV d = true ∧ y = .ref p ∧ SqL K H p (zs.map V.str) ∧ Q (.bl (dE zs d)) H
theorem aAY (T:Txt K mg C):Fc P w K mg base 4 "is_dyke" ["thing","sides"] (aLH K):=by
 have G_p_is_tuple_of:Fc P w K mg base 1 "is_tuple_of" ["thing","length"] uH:=iE T
 have G_p_is_name:Fc P w K mg base 1 "is_name" ["thing"] aEL:=qO T
 have G_p_are_sides:Fc P w K mg base 2 "are_sides" ["one","other","sides"] (aGL K):=vR T
 have G_p_is_height:Fc P w K mg base 2 "is_height" ["thing"] jI:=dW T
 have G_p_is_amount:Fc P w K mg base 2 "is_amount" ["thing"] uT:=nC T
 have G_p_is_sill:Fc P w K mg base 3 "is_sill" ["thing","crown"] aKZ:=aAX T
 refine T.d_p_is_dyke.fc aAL iX (fun f cdv A outer s H vs Q E hr h=>?_)
 obtain ⟨x,y,rfl,d,p,zs,hd,hs,rfl,hp,q⟩:=h
 refine ⟨_,(@aG _ _ _ _ _ (@fL _ _ _ _ _ _ _ _ (@PW.pt _ _ _ (@qH _ _ _ _ _ _ _ (@eR _ _ _ _ (@eF _ _ _ (@bI _ _ _ _ _ _ _ _ _ _ G_p_is_tuple_of (hr.mono (by decide)) (@aA _ _ _ _ _ (pv 0) (@aA _ _ _ _ _ aE aD (by rfl)) (by rfl)) (by rfl) (by decide) (by rfl) (by rfl)) (by intro _;rfl))) (@qH _ _ _ _ _ _ _ (@eR _ _ _ _ (@eF _ _ _ (@bI _ _ _ _ _ _ _ _ _ _ G_p_is_name (hr.mono (by decide)) (@aA _ _ _ _ _ (@bG _ _ _ _ _ _ _ (@aQ _ (K) rfl) (pv 0) aE (fun _ _=>rfl)) aD (by rfl)) (by rfl) (by decide) (by rfl) (by rfl)) (by intro _;rfl))) (@mX _ _ _ _ (@eR _ _ _ _ (@eF _ _ _ (@bI _ _ _ _ _ _ _ _ _ _ G_p_are_sides (hr.mono (by decide)) (@aA _ _ _ _ _ (@bG _ _ _ _ _ _ _ (@aQ _ (K) rfl) (pv 0) aE (fun _ _=>rfl)) (@aA _ _ _ _ _ (@bG _ _ _ _ _ _ _ (@aQ _ (K) rfl) (pv 0) aE (fun _ _=>rfl)) (@aA _ _ _ _ _ (pv 1) aD (by rfl)) (by rfl)) (by rfl)) (by rfl) (by decide) (by rfl) (by rfl)) (by intro _;rfl))))))) (@aH _ _ _ (@aT _ _ _ _ qJ)) cL) (@aH _ _ _ (@aT _ _ _ _ (@dB _ _ _ _ _ _ _ (@bI _ _ _ _ _ _ _ _ _ _ G_p_is_height (hr.mono (by decide)) (@aA _ _ _ _ _ (@bG _ _ _ _ _ _ _ (@aQ _ (K) rfl) (pv 0) aE (fun _ _=>rfl)) aD (by rfl)) (by rfl) (by decide) (by rfl) (by rfl)) (@dB _ _ _ _ _ _ _ (@bI _ _ _ _ _ _ _ _ _ _ G_p_is_amount (hr.mono (by decide)) (@aA _ _ _ _ _ (@bG _ _ _ _ _ _ _ (@aQ _ (K) rfl) (pv 0) aE (fun _ _=>rfl)) aD (by rfl)) (by rfl) (by decide) (by rfl) (by rfl)) (@eG _ _ _ _ _ (@bI _ _ _ _ _ _ _ _ _ _ G_p_is_sill (hr.mono (by decide)) (@aA _ _ _ _ _ (@bG _ _ _ _ _ _ _ (@aQ _ (K) rfl) (pv 0) aE (fun _ _=>rfl)) (@aA _ _ _ _ _ (@bG _ _ _ _ _ _ _ (@aQ _ (K) rfl) (pv 0) aE (fun _ _=>rfl)) aD (by rfl)) (by rfl)) (by rfl) (by decide) (by rfl) (by rfl)))))))),?_⟩
 refine ⟨_,rfl,_,_,rfl,d,6,hd,rfl,_,rfl,?_⟩
 by_cases h6:∃ n a b c r l,d = .tup [n,a,b,c,r,l]
 ·obtain ⟨n,a,b,c,r,l,rfl⟩:=h6
  obtain ⟨t,us,rfl,o,v0,r0,rfl,i0,v1,r1,rfl,i1,v2,r2,rfl,i2,v3,r3,rfl,i3,v4,r4,rfl,i4,v5,r5,rfl,i5,h0⟩:=hd
  cases (show r5 = [] from h0)
  have sn:eV n = true:=by
   exact jJ (yF hs) AU
  have q:Q (.bl (pT n && nZ zs a b && (gB c && (lB r && nN c l)))) H:=q
  have at_:∀ (j:Nat) (v:V),([v0,v1,v2,v3,v4,v5]:List V)[j]? = some v → atI [v0,v1,v2,v3,v4,v5] (j:Int) = some v:=fun j v e=>aN e
  refine bS ⟨_,rfl,t,_,0,v0,rfl,rfl,SqT.of o,at_ 0 _ rfl,_,rfl,n,i0,sn,_,rfl,?_⟩
  cases en:pT n with
  | false=>rw [en] at q;exact dD q
  | true =>
   rw [en,BX] at q
   refine bS ⟨_,rfl,t,_,1,v1,rfl,rfl,SqT.of o,at_ 1 _ rfl,_,rfl,t,_,2,v2,rfl,rfl,SqT.of o,at_ 2 _ rfl,_,rfl,_,_,_,rfl,a,b,p,zs,i1,i2,rfl,hp,_,rfl,?_⟩
   cases es:nZ zs a b with
   | false=>rw [es] at q;exact dD q
   | true =>
    rw [es,BX] at q
    refine bS ⟨_,rfl,t,_,3,v3,rfl,rfl,SqT.of o,at_ 3 _ rfl,_,rfl,c,i3,_,rfl,?_⟩
    cases ec:gB c with
    | false=>rw [ec] at q;exact bS q
    | true =>
     rw [ec,BX] at q
     refine dD ⟨_,rfl,t,_,4,v4,rfl,rfl,SqT.of o,at_ 4 _ rfl,_,rfl,r,i4,_,rfl,?_⟩
     cases er:lB r with
     | false=>rw [er] at q;exact bS q
     | true =>
      rw [er,BX] at q
      cases c with
      | int j =>
       cases (show v3 = .int j from i3)
       exact dD ⟨_,rfl,t,_,5,v5,rfl,rfl,SqT.of o,at_ 5 _ rfl,_,rfl,t,_,3,_,rfl,rfl,SqT.of o,at_ 3 _ rfl,_,_,rfl,l,j,i5,rfl,q⟩
      | _=>cases ec
 ·have e1:dE zs d = false:=by
   unfold dE
   split
   ·rename_i n a b c r l
    exact absurd ⟨n,a,b,c,r,l,rfl⟩ h6
   ·rfl
  have e2:aGH 6 d = false:=by
   cases d with
   | tup ds =>
    refine decide_eq_false (fun e=>?_)
    have e':ds.length = 6:=by omega
    match ds,e',h6 with
    | [n,a,b,c,r,l],_,h6=>exact h6 ⟨n,a,b,c,r,l,rfl⟩
   | _=>rfl
  dsimp only
  rw [e2]
  rw [e1] at q
  exact dD q
theorem aBH {zs:List Str} (d:Dv) (h:dE zs d = true):∃ z,cH d = some z:=by
 unfold dE at h
 split at h
 ·rename_i n a b c r l
  rw [Aj,Aj] at h
  cases n with
  | str z=>exact ⟨z,rfl⟩
  | _=>cases h.1.1
 ·cases h
def aGR (K:AG):Sp:=sp2 fun x y H Q=>∃ (d:Dv) (p:Addr) (zs:List Str),Is H d x ∧ eV d = true ∧ y = .ref p ∧ H p = some (.lst (zs.map V.str)) ∧ Q (.bl (oA zs d)) H
theorem vS (T:Txt K mg C):Fc P w K mg base 5 "are_dykes" ["thing","sides"] (aGR K):=by
 have G_p_is_list_of:Fc P w K mg base 1 "is_list_of" ["thing","most"] qA:=iW T
 have G_p_is_dyke:Fc P w K mg base 4 "is_dyke" ["thing","sides"] (aLH K):=aAY T
 have G_p_none_twice:Fc P w K mg base 1 "none_twice" ["rows"] uG:=iV T
 refine T.d_p_are_dykes.fcD vD iX (fun f cdv A outer s H vs Q E hr h=>?_)
 obtain ⟨x,y,rfl,d,p0,zs0,hd,hs,rfl,hp0,q⟩:=h
 have big:=bT
 refine ⟨_,(@aH _ _ _ (@aT _ _ _ _ (@dB _ _ _ _ _ _ _ (@bI _ _ _ _ _ _ _ _ _ _ G_p_is_list_of (hr.mono (by decide)) (@aA _ _ _ _ _ (pv 0) (@aA _ _ _ _ _ (@tV _ _ _ _ T.g_MOST_DYKES (by rfl) (by decide)) aD (by rfl)) (by rfl)) (by rfl) (by decide) (by rfl) (by rfl)) (@dB _ _ _ _ _ _ _ (@aU _ _ _ _ _ _ _ _ _ (@nW _ rfl) rfl T.n_all lK (@aA _ _ _ _ _ (@cE _ _ _ _ _ _ _ _ _ _ _ ["row","sides"] 1 [1] rfl (@bO _ _ _ _ (pv 0)) (fun R=>@bC _ _ (0) _ (show Ay (["row","sides"]:List Str) by decide +kernel) rfl (Or.inl rfl) (by trivial)) (@aZ _ _ (by decide)) (fun R=>cC) (fun R=>(@bI _ _ _ _ _ _ _ _ _ _ G_p_is_dyke (hr.mono (by decide)) (@aA _ _ _ _ _ (pv 0) (@aA _ _ _ _ _ (pv 1) aD (by rfl)) (by rfl)) (by rfl) (by decide) (by rfl) (by rfl))) (by rfl) (by rfl) (by rfl) (by rfl) (by rfl) (by rfl) (by rfl) (by intro _;rfl)) aD (by rfl)) (by decide) (by decide) (by rfl) (by rfl)) (@eG _ _ _ _ _ (@bI _ _ _ _ _ _ _ _ _ _ G_p_none_twice (hr.mono (by decide)) (@aA _ _ _ _ _ (pv 0) aD (by rfl)) (by rfl) (by decide) (by rfl) (by rfl))))))),?_⟩
 refine ⟨_,rfl,_,_,rfl,d,40,hd,rfl,_,rfl,?_⟩
 cases d with
 | lst ds =>
  obtain ⟨p,us,rfl,o,hi⟩:=hd
  have l1:=hi.length
  have hs':=BK.mp (show (decide (ds.length ≤ 1000) && iB ds) = true from hs)
  have l2:ds.length ≤ 1000:=of_decide_eq_true hs'.1
  have q:Q (.bl ((decide (1 ≤ ds.length) && decide (ds.length ≤ 40)) && (ds.all (dE zs0) && decide ((ds.map cH).Nodup)))) H:=q
  have e0:(decide (1 ≤ ds.length) && decide ((ds.length:Int) ≤ 40)) = (decide (1 ≤ ds.length) && decide (ds.length ≤ 40)):=by
   congr 1
   rw [Bj,decide_eq_true_iff,decide_eq_true_iff]
   omega
  show if (decide (1 ≤ ds.length) && decide ((ds.length:Int) ≤ 40)) = true then _ else _
  rw [e0]
  refine nM (fun h1=>?_) (fun h1=>?_)
  ·rw [h1,BX] at q
   refine ⟨_,rfl,p,rfl,⟨_,SqL.of o⟩,?_⟩
   refine bM (F:=K) (xs:=us) (by omega) (fun i ys H'=>H' = H ∧ ys = (ds.take i).map fun d=>V.bl (dE zs0 d)) ⟨rfl,rfl⟩ ?_ ?_ ?_
   ·rintro i ys H' hi' ⟨rfl,rfl⟩
    exact ⟨SqL.of o,by rw [AA,Ac];omega⟩
   ·rintro i x ys H' K1 K2 hx ⟨rfl,rfl⟩ k1 k2
    have hil:i < us.length:=(AC.mp hx).1
    obtain ⟨d,ed⟩:∃ d,ds[i]? = some d:=⟨_,AB (by omega)⟩
    obtain ⟨v,ev,iv⟩:=hi.get ed
    rw [hx] at ev
    cases ev
    refine ⟨_,rfl,_,rfl,_,_,rfl,d,p0,zs0,iv,jJ hs'.2 (AN ed),rfl,SqL.of hp0,k1 _ _ ⟨rfl,?_⟩⟩
    rw [Ab,ed]
    simp
   ·rintro ys H' ⟨rfl,rfl⟩
    intro p1 hp1
    have np:p ≠ p1:=aY o hp1
    refine ⟨p1,ds.map (dE zs0),rfl,SqL.of ?_,_,rfl,?_⟩
    ·rw [aF,AH (by omega),Ao]
     rfl
    have e1:(ds.map (dE zs0)).all id = ds.all (dE zs0):=by rw [Dw];rfl
    rw [e1]
    refine nM (fun h2=>?_) (fun h2=>?_)
    ·rw [h2,BX] at q
     obtain ⟨zs,ez⟩:=oO aBH h2
     have l3:zs.length = ds.length:=by have:=congrArg Cz ez;simpa using this.symm
     refine ⟨_,rfl,_,rfl,p,us,ds,zs,rfl,by rw [aK np];exact o,IsL.same (aI.upd hp1) _ _ hi,ez,by omega,?_⟩
     have e2:decide zs.Nodup = decide (ds.map cH).Nodup:=by rw [ez,Bj,decide_eq_true_iff,decide_eq_true_iff,eI]
     rw [e2]
     exact cU.of (iA.lst hp1) q
    ·have h2':ds.all (dE zs0) = false:=by simpa using h2
     rw [h2'] at q
     exact cU.of (iA.lst hp1) q
  ·have h1':(decide (1 ≤ ds.length) && decide (ds.length ≤ 40)) = false:=by simpa using h1
   rw [h1'] at q
   exact cU.of (.refl _) q
 | _=>exact bS (cU.of (.refl _) q)
def aLC (C:Addr):Sp:=sp3 fun x v1 v2 H Q=>∃ (p dx:Addr) (fs ds:List Dv),x = .ref p ∧ H p = some (.ins C dx []) ∧ Is H (.lst fs) v1 ∧ Is H (.lst ds) v2 ∧ eV (.lst fs) = true ∧ eV (.lst ds) = true ∧
 lL (.lst fs) = true ∧ oA ("sea" :: fs.map bA) (.lst ds) = true ∧ ∀ H',LandAt C H' p fs ds → (∀ b o,H b = some o → b ≠ p → H' b = some o) → Q .non H'
def aEJ (C:Addr) (sel:List Dv → List Dv → List Dv):Sp:=sp1 fun x H Q=>∃ (p:Addr) (fs ds:List Dv),x = .ref p ∧ LandAt C H p fs ds ∧ ∀ (l:Addr) (vs:List V) (H':Hp),aI H H' → H l = none → H' l = some (.lst vs) → IsL H' (sel fs ds) vs → Q (.ref l) H'
def aEI (C:Addr) (sel:List Dv → List Dv → List Str):Sp:=sp1 fun x H Q=>∃ (p:Addr) (fs ds:List Dv),x = .ref p ∧ LandAt C H p fs ds ∧ ∀ (l:Addr) (H':Hp),aI H H' → H l = none → H' l = some (.lst ((sel fs ds).map V.str)) → Q (.ref l) H'
def aGM (C:Addr) (sel:List Dv → List Dv → List Dv):Sp:=sp1 fun x H Q=>∃ (p:Addr) (fs ds:List Dv),x = .ref p ∧ LandAt C H p fs ds ∧ ∀ (l:Addr) (vs:List V),H l = none → IsL H (sel fs ds) vs → Q (.ref l) (upd H l (.lst vs))
def uI (C:Addr) (sel:List Dv → List Dv → List Str):Sp:=sp1 fun x H Q=>∃ (p:Addr) (fs ds:List Dv),x = .ref p ∧ LandAt C H p fs ds ∧ ∀ (l:Addr),H l = none → Q (.ref l) (upd H l (.lst ((sel fs ds).map V.str)))
theorem aLP {C:Addr} {sel:List Dv → List Dv → List Dv}:∀ vs H Q E,aEJ C sel vs H Q E → aGM C sel vs H Q E:=by
 rintro vs H Q E ⟨x,rfl,p,fs,ds,rfl,L,q⟩
 exact ⟨_,rfl,p,fs,ds,rfl,L,fun l us hl hi=>q l us _ (aI.upd hl) hl aF (IsL.same (aI.upd hl) _ _ hi)⟩
theorem aKT {C:Addr} {sel:List Dv → List Dv → List Str}:∀ vs H Q E,aEI C sel vs H Q E → uI C sel vs H Q E:=by
 rintro vs H Q E ⟨x,rfl,p,fs,ds,rfl,L,q⟩
 exact ⟨_,rfl,p,fs,ds,rfl,L,fun l hl=>q l _ (aI.upd hl) hl aF⟩
theorem rP (T:Txt K mg C):Mc P w K mg base 1 C "dykes" ["self"] (aGM C fun _ ds=>ds):=by
 refine T.m_land_p_dykes.mcD tU oT (fun f cdv A outer s H vs Q E hr h=>?_)
 obtain ⟨x,rfl,p,fs,ds,rfl,L,q⟩:=h
 obtain ⟨dx,d1,d2,hx,t1,⟨k1,h1,e1,i1⟩⟩:=L.ex
 refine ⟨_,(@aH _ _ _ (@aT _ _ _ _ (@cJ _ _ _ _ _ _ _ _ _ (@sK _ rfl) rfl T.n_list eK (@aA _ _ _ _ _ (@aSV _ _ _ _ _ _ _ _ _ PySem.F.plainAttrs_dict PySem.F.slot_dict_values PySem.F.type_dict_values aJK (@vI _ _ _ _ _ (pv 0) rfl) (by rfl) (by rfl)) aD (by rfl)) (by decide) (by decide) (by rfl) (by rfl)))),?_⟩
 refine ⟨_,rfl,p,C,dx,_,_,rfl,hx,T.cl_Land,T.a_dyke_rows,aBG _ _,.inr (.inr (.inl ⟨rfl,.inl ⟨_,h1⟩⟩)),d2,k1,rfl,rfl,.inl h1,fun v hv=>?_⟩
 have nv:d2 ≠ v:=aY h1 hv
 refine ⟨v,d2,k1,rfl,aF,.inl (by rw [aK nv];exact h1),fun l hl=>?_⟩
 exact cU.of (iA.under hv rfl hl) (q l _ ((aI.upd hv).free hl) i1)
theorem tY (T:Txt K mg C):Mc P w K mg base 1 C "dykes" ["self"] (aEJ C fun _ ds=>ds):=(rP T).imp aLP
theorem wD {kvs:List (Key × V)} {ds:List Dv} (e:kvs.map (·.1) = ds.map nL):(kvs.map fun kv=>kV kv.1) = (ds.map bA).map V.str:=by
 have h:(kvs.map fun kv=>kV kv.1) = (kvs.map (·.1)).map kV:=by rw [Ao];rfl
 rw [h,e,Ao,Ao]
 rfl
theorem lQ (T:Txt K mg C):Mc P w K mg base 1 C "field_names" ["self"] (uI C fun fs _=>fs.map bA):=by
 refine T.m_land_p_field_names.mc mF oT (fun f cdv A outer s H vs Q E hr h=>?_)
 obtain ⟨x,rfl,p,fs,ds,rfl,L,q⟩:=h
 obtain ⟨dx,d1,d2,hx,⟨k1,h1,e1,i1⟩,t2⟩:=L.ex
 refine ⟨_,(@aH _ _ _ (@aT _ _ _ _ (@cJ _ _ _ _ _ _ _ _ _ (@jX _ rfl) rfl T.n_list eK (@aA _ _ _ _ _ (@vI _ _ _ _ _ (pv 0) rfl) aD (by rfl)) (by decide) (by decide) (by rfl) (by rfl)))),?_⟩
 refine ⟨_,rfl,p,C,dx,_,_,rfl,hx,T.cl_Land,T.a_field_rows,aHM _ _,d1,k1,rfl,.inl h1,fun l hl=>?_⟩
 have:=q l hl
 rw [wD e1]
 exact this
theorem mI (T:Txt K mg C):Mc P w K mg base 1 C "dyke_names" ["self"] (uI C fun _ ds=>ds.map bA):=by
 refine T.m_land_p_dyke_names.mc mQ oT (fun f cdv A outer s H vs Q E hr h=>?_)
 obtain ⟨x,rfl,p,fs,ds,rfl,L,q⟩:=h
 obtain ⟨dx,d1,d2,hx,t1,⟨k1,h1,e1,i1⟩⟩:=L.ex
 refine ⟨_,(@aH _ _ _ (@aT _ _ _ _ (@cJ _ _ _ _ _ _ _ _ _ (@jX _ rfl) rfl T.n_list eK (@aA _ _ _ _ _ (@vI _ _ _ _ _ (pv 0) rfl) aD (by rfl)) (by decide) (by decide) (by rfl) (by rfl)))),?_⟩
 refine ⟨_,rfl,p,C,dx,_,_,rfl,hx,T.cl_Land,T.a_dyke_rows,aBG _ _,d2,k1,rfl,.inl h1,fun l hl=>?_⟩
 have:=q l hl
 rw [wD e1]
 exact this
theorem mH (T:Txt K mg C):Mc P w K mg base 1 C "field_names" ["self"] (aEI C fun fs _=>fs.map bA):=(lQ T).imp aKT
theorem lH {H:Hp} {n a b:Str} {c r:Int} {s:Dv} {v:V} (h:Is H (.tup [.str n,.str a,.str b,.int c,.int r,s]) v):∃ t vs,v = .ref t ∧ H t = some (.tup [.str n,.str a,.str b,.int c,.int r,vs]) ∧ Is H s vs:=by
 obtain ⟨t,us,rfl,o,v0,r0,rfl,i0,v1,r1,rfl,i1,v2,r2,rfl,i2,v3,r3,rfl,i3,v4,r4,rfl,i4,v5,r5,rfl,i5,h0⟩:=h
 cases (show r5 = [] from h0)
 cases (show v0 = _ from i0)
 cases (show v1 = _ from i1)
 cases (show v2 = _ from i2)
 cases (show v3 = _ from i3)
 cases (show v4 = _ from i4)
 exact ⟨t,v5,rfl,o,i5⟩
theorem lG {H:Hp} {n:Str} {g e:Int} {v:V} (h:Is H (.tup [.str n,.int g,.int e]) v):∃ t,v = .ref t ∧ H t = some (.tup [.str n,.int g,.int e]):=by
 obtain ⟨t,us,rfl,o,v0,r0,rfl,i0,v1,r1,rfl,i1,v2,r2,rfl,i2,h0⟩:=h
 cases (show r2 = [] from h0)
 cases (show v0 = _ from i0)
 cases (show v1 = _ from i1)
 cases (show v2 = _ from i2)
 exact ⟨t,rfl,o⟩
theorem bZ {C:Addr} {H:Hp} {p:Addr} {fs ds:List Dv} (L:LandAt C H p fs ds):GoodF fs ∧ GoodD ("sea" :: fs.map bA) ds:=⟨(sA _).mp L.okf,(sC _ _).mp L.okd⟩
def aCC (C:Addr):Sp:=sp2 fun x y H Q=>∃ (p:Addr) (fs ds:List Dv) (z:Str) (g e:Int),x = .ref p ∧ y = .str z ∧ LandAt C H p fs ds ∧ Dv.tup [.str z,.int g,.int e] ∈ fs ∧ Q (.int g) H
theorem rO (T:Txt K mg C):Mc P w K mg base 1 C "ground" ["self","field"] (aCC C):=by
 refine T.m_land_p_ground.mc rK iX (fun f cdv A outer s H vs Q E hr h=>?_)
 obtain ⟨x,y,rfl,p,fs,ds,z,g,e,rfl,rfl,L,m,q⟩:=h
 have hu:=lC hr
 obtain ⟨dx,d1,d2,hx,⟨k1,h1,e1,i1⟩,t2⟩:=L.ex
 obtain ⟨v,ev,iv⟩:=zW e1 i1 (bZ L).1.nd m
 obtain ⟨t,rfl,o⟩:=lG iv
 refine ⟨_,(@aH _ _ _ (@aT _ _ _ _ (@bG _ _ _ _ _ _ _ (@aQ _ (K) rfl) (@gH _ _ _ _ _ _ hu (@vI _ _ _ _ _ (pv 0) rfl) (pv 1) (fun _ _=>rfl)) aE (fun _ _=>rfl)))),?_⟩
 refine ⟨_,rfl,p,C,dx,_,_,rfl,hx,T.cl_Land,T.a_field_rows,aHM _ _,_,rfl,d1,.ref t,rfl,?_,t,_,1,.int g,rfl,rfl,SqT.of o,aN (j:=1) rfl,q⟩
 rw [← ev]
 exact sQ.k (k:=Sum.inr z) h1
def uK (C:Addr):Sp:=sp2 fun x y H Q=>∃ (p:Addr) (fs ds:List Dv) (d:Dv),x = .ref p ∧ y = .str (bA d) ∧ LandAt C H p fs ds ∧ d ∈ ds ∧ ∀ v,Is H d v → Q v H
theorem jU (T:Txt K mg C):Mc P w K mg base 1 C "dyke" ["self","name"] (uK C):=by
 refine T.m_land_p_dyke.mc vE iX (fun f cdv A outer s H vs Q E hr h=>?_)
 obtain ⟨x,y,rfl,p,fs,ds,d,rfl,rfl,L,m,q⟩:=h
 have hu:=lC hr
 obtain ⟨dx,d1,d2,hx,t1,⟨k1,h1,e1,i1⟩⟩:=L.ex
 obtain ⟨v,ev,iv⟩:=zW e1 i1 (bZ L).2.nd m
 refine ⟨_,(@aH _ _ _ (@aT _ _ _ _ (@gH _ _ _ _ _ _ hu (@vI _ _ _ _ _ (pv 0) rfl) (pv 1) (fun _ _=>rfl)))),?_⟩
 refine ⟨_,rfl,p,C,dx,_,_,rfl,hx,T.cl_Land,T.a_dyke_rows,aBG _ _,_,rfl,d2,v,rfl,?_,q v iv⟩
 rw [← ev]
 exact sQ.k (k:=Sum.inr (bA d)) h1
theorem aGF {α β:Type}:∀ {xs:List α} {ys:List β},xs.length = ys.length → (xs.zip ys).map (·.1) = xs
 | [],[],_=>rfl
 | x :: xs,y :: ys,h=>by rw [List.zip_cons_cons,AY,aGF (by simpa using h)]
 | [],_ :: _,h=>by simp at h
 | _ :: _,[],h=>by simp at h
theorem aGE {α β:Type}:∀ {xs:List α} {ys:List β},xs.length = ys.length → (xs.zip ys).map (·.2) = ys
 | [],[],_=>rfl
 | x :: xs,y :: ys,h=>by rw [List.zip_cons_cons,AY,aGE (by simpa using h)]
 | [],_ :: _,h=>by simp at h
 | _ :: _,[],h=>by simp at h
def dC (ds:List Dv) (us:List V):List (Key × V):=(ds.map nL).zip us
theorem lP {ds:List Dv} {us:List V} (h:us.length = ds.length):(dC ds us).map (·.1) = ds.map nL:=aGF (by rw [AA];exact h.symm)
theorem vK {ds:List Dv} {us:List V} (h:us.length = ds.length):(dC ds us).map (·.2) = us:=aGE (by rw [AA];exact h.symm)
theorem oM {ds:List Dv} {us:List V} (h:us.length = ds.length):(dC ds us).length = us.length:=by
 unfold dC
 rw [List.length_zip,AA]
 omega
theorem aCV {ds:List Dv} {us:List V} {i:Nat} {d:Dv} {v:V} (e1:ds[i]? = some d) (e2:us[i]? = some v):(dC ds us)[i]? = some (nL d,v):=by
 unfold dC
 rw [List.getElem?_zip_eq_some]
 exact ⟨by rw [AK,e1];rfl,e2⟩
theorem yW {ds:List Dv} (h:(ds.map bA).Nodup):(ds.map nL).Nodup:=by
 have e:ds.map nL = (ds.map bA).map Sum.inr:=by rw [Ao];rfl
 rw [e,iF]
 exact h
theorem xQ (T:Txt K mg C):Ic P w K mg base 6 C ["self","fields","dykes"] (aLC C):=by
 have G_p_are_fields:Fc P w K mg base 4 "are_fields" ["thing"] aCD:=tX T
 have G_p_are_dykes:Fc P w K mg base 5 "are_dykes" ["thing","sides"] (aGR K):=vS T
 refine T.i_Land.ic xL pQ (fun f cdv A outer s H vs Q E hr h=>?_)
 obtain ⟨x,v1,v2,rfl,p,dx,fs,ds,rfl,hx,hf,hd,sf,sd,okf,okd,q⟩:=h
 have big:=bT
 have gf:=(sA _).mp okf
 have gd:=(sC _ _).mp okd
 have lf:=gf.l2
 have ld:=gd.l2
 obtain ⟨a1,us,rfl,o1,i1⟩:=id hf
 obtain ⟨a2,ws,rfl,o2,i2⟩:=id hd
 have l1:=i1.length
 have l2:=i2.length
 refine ⟨_,(@aG _ _ _ _ _ (@fL _ _ _ _ _ _ _ _ (@eR _ _ _ _ (@eF _ _ _ (@bI _ _ _ _ _ _ _ _ _ _ G_p_are_fields (hr.mono (by decide)) (@aA _ _ _ _ _ (pv 1) aD (by rfl)) (by rfl) (by decide) (by rfl) (by rfl)) (by intro _;rfl))) (@aH _ _ _ kW) cL) (@aG _ _ _ _ _ (@fL _ _ _ _ _ _ _ _ (@eR _ _ _ _ (@eF _ _ _ (@bI _ _ _ _ _ _ _ _ _ _ G_p_are_dykes (hr.mono (by decide)) (@aA _ _ _ _ _ (pv 2) (@aA _ _ _ _ _ (@aO _ _ _ _ _ _ _ _ aAU (@dU _ _ _ _ (@aA _ _ _ _ _ (@tV _ _ _ _ T.g_SEA (by rfl) (by decide)) aD (by rfl))) (@cE _ _ _ _ _ _ _ _ _ _ _ ["field"] 1 [] rfl (@bO _ _ _ _ (pv 1)) (fun R=>@bC _ _ (0) _ (show Ay (["field"]:List Str) by decide +kernel) rfl (Or.inl rfl) (by trivial)) (@aZ _ _ (by decide)) (fun R=>cC) (fun R=>(@bG _ _ _ _ _ _ _ (@aQ _ (K) rfl) (pv 0) aE (fun _ _=>rfl))) (by rfl) (by rfl) (by rfl) (by rfl) (by rfl) (by rfl) (by rfl) (by intro _;rfl))) aD (by rfl)) (by rfl)) (by rfl) (by decide) (by rfl) (by rfl)) (by intro _;rfl))) (@aH _ _ _ kW) cL) (@aG _ _ _ _ _ (@aMA _ _ _ _ _ _ _ _ (pv 0) (@cJ _ _ _ _ _ _ _ _ _ (@dJ _ rfl) rfl T.n_dict gK (@aA _ _ _ _ _ (@cE _ _ _ _ _ _ _ _ _ _ _ ["field"] 1 [] rfl (@bO _ _ _ _ (pv 1)) (fun R=>@bC _ _ (0) _ (show Ay (["field"]:List Str) by decide +kernel) rfl (Or.inl rfl) (by trivial)) (@aZ _ _ (by decide)) (fun R=>cC) (fun R=>(@dS _ _ _ _ _ (@aA _ _ _ _ _ (@bG _ _ _ _ _ _ _ (@aQ _ (K) rfl) (pv 0) aE (fun _ _=>rfl)) (@aA _ _ _ _ _ (pv 0) aD (by rfl)) (by rfl)))) (by rfl) (by rfl) (by rfl) (by rfl) (by rfl) (by rfl) (by rfl) (by intro _;rfl)) aD (by rfl)) (by decide) (by decide) (by rfl) (by rfl)) rfl) (@aH _ _ _ (@aMA _ _ _ _ _ _ _ _ (pv 0) (@cJ _ _ _ _ _ _ _ _ _ (@dJ _ rfl) rfl T.n_dict gK (@aA _ _ _ _ _ (@cE _ _ _ _ _ _ _ _ _ _ _ ["dyke"] 1 [] rfl (@bO _ _ _ _ (pv 2)) (fun R=>@bC _ _ (0) _ (show Ay (["dyke"]:List Str) by decide +kernel) rfl (Or.inl rfl) (by trivial)) (@aZ _ _ (by decide)) (fun R=>cC) (fun R=>(@dS _ _ _ _ _ (@aA _ _ _ _ _ (@bG _ _ _ _ _ _ _ (@aQ _ (K) rfl) (pv 0) aE (fun _ _=>rfl)) (@aA _ _ _ _ _ (pv 0) aD (by rfl)) (by rfl)))) (by rfl) (by rfl) (by rfl) (by rfl) (by rfl) (by rfl) (by rfl) (by intro _;rfl)) aD (by rfl)) (by decide) (by decide) (by rfl) (by rfl)) rfl))))),?_⟩
 refine ⟨_,rfl,_,rfl,.lst fs,hf,sf,_,rfl,?_⟩
 rw [okf]
 refine bS ?_
 refine ⟨_,rfl,bB rfl,fun p1 hp1=>?_⟩
 have S1:=aI.upd (o:=.lst [.str "sea"]) hp1
 refine ⟨_,rfl,a1,rfl,⟨_,SqL.of (S1 _ _ o1)⟩,?_⟩
 refine bM (F:=K) (xs:=us) (by omega) (fun i ys H'=>H' = upd H p1 (.lst [.str "sea"]) ∧ ys = ((fs.take i).map bA).map V.str) ⟨rfl,rfl⟩ ?_ ?_ ?_
 ·rintro i ys H' hi' ⟨rfl,rfl⟩
  exact ⟨SqL.of (S1 _ _ o1),by rw [AA,AA,Ac];omega⟩
 ·rintro i x ys H' K1 K2 hx' ⟨rfl,rfl⟩ k1 k2
  have hil:i < us.length:=(AC.mp hx').1
  obtain ⟨d,ed⟩:∃ d,fs[i]? = some d:=⟨_,AB (by omega)⟩
  obtain ⟨v,ev,iv⟩:=i1.get ed
  rw [hx'] at ev
  cases ev
  obtain ⟨z,g,e,rfl,_⟩:=cB (gf.all d (AN ed))
  obtain ⟨t,rfl,o⟩:=lG iv
  refine ⟨_,rfl,t,_,0,.str z,rfl,rfl,SqT.of (S1 _ _ o),aN (j:=0) rfl,k1 _ _ ⟨rfl,?_⟩⟩
  rw [Ab,ed]
  simp [bA,cH]
 ·rintro ys H' ⟨rfl,rfl⟩
  intro p2 hp2
  rw [AH (by omega)]
  have S2:=aI.upd (o:=.lst ((fs.map bA).map V.str)) hp2
  refine ⟨p1,p2,_,_,rfl,rfl,S2 _ _ aF,aF,by simp only [AA,Ag,ED];omega,fun p3 hp3=>?_⟩
  have S3:=aI.upd (o:=.lst ([.str "sea"] ++ (fs.map bA).map V.str)) hp3
  have S:=S1.trans (S2.trans S3)
  generalize hH3:upd (upd (upd H p1 (.lst [.str "sea"])) p2 (.lst ((fs.map bA).map V.str))) p3 (.lst ([.str "sea"] ++ (fs.map bA).map V.str)) = H3 at S
  have hp3':H3 p3 = some (.lst ((("sea":Str) :: fs.map bA).map V.str)):=by rw [← hH3,aF];rfl
  refine ⟨_,_,rfl,.lst ds,p3,_,Is.same S _ _ hd,sd,rfl,hp3',_,rfl,?_⟩
  rw [okd]
  refine bS ?_
  refine ⟨_,rfl,a1,rfl,⟨_,SqL.of (S _ _ o1)⟩,?_⟩
  refine bM (F:=K) (xs:=us) (by omega) (fun i ys H'=>aI H3 H' ∧ bP H' ys ((dC fs us).take i)) ⟨aI.refl _,bP.nil _⟩ ?_ ?_ ?_
  ·rintro i ys H' hi' ⟨S4,pr⟩
   exact ⟨SqL.of (S4 _ _ (S _ _ o1)),by have:=pr.len;rw [Ac] at this;omega⟩
  ·rintro i x ys H' K1 K2 hx' ⟨S4,pr⟩ k1 k2
   have hil:i < us.length:=(AC.mp hx').1
   obtain ⟨d,ed⟩:∃ d,fs[i]? = some d:=⟨_,AB (by omega)⟩
   obtain ⟨v,ev,iv⟩:=i1.get ed
   rw [hx'] at ev
   cases ev
   obtain ⟨z,g,e,rfl,_⟩:=cB (gf.all d (AN ed))
   obtain ⟨t,rfl,o⟩:=lG iv
   have ot:=S4 _ _ (S _ _ o)
   refine ⟨_,rfl,t,_,0,.str z,rfl,rfl,SqT.of ot,aN (j:=0) rfl,_,rfl,bB rfl,fun pt hpt=>k1 _ _ ⟨S4.trans (aI.upd hpt),?_⟩⟩
   rw [Ab,aCV ed hx']
   exact pr.snoc (k:=Sum.inr z) hpt
  ·rintro ys H4 ⟨S4,pr⟩
   rw [AH (by rw [oM l1];omega)] at pr
   intro p4 hp4
   have S5:=aI.upd (o:=.lst ys) hp4
   refine ⟨p4,ys,dC fs us,rfl,SqL.of aF,pr.same S5,by rw [oM l1];omega,by rw [lP l1];exact yW gf.nd,fun d1 hd1=>?_⟩
   have S6:=aI.upd (o:=.dK (dC fs us)) hd1
   have SA:=S.trans (S4.trans (S5.trans S6))
   have hd1':upd (upd H4 p4 (.lst ys)) d1 (.dK (dC fs us)) d1 = some (.dK (dC fs us)):=aF
   generalize upd (upd H4 p4 (.lst ys)) d1 (.dK (dC fs us)) = H6 at SA hd1'
   refine ⟨_,rfl,p,C,dx,[],rfl,SA _ _ hx,T.cl_Land,T.a_field_rows,(by show 0 < 1000;decide),?_⟩
   have SB:∀ b o,H b = some o → b ≠ p → upd H6 p (.ins C dx (jB "field_rows" (.ref d1) [])) b = some o:=fun b o e hb=>by rw [aK hb];exact SA _ _ e
   have nd1:d1 ≠ p:=yQ hd1' (SA _ _ hx) (by intro z;cases z)
   have SD:aEC H (upd H6 p (.ins C dx (jB "field_rows" (.ref d1) []))):=fun b o e dt=>SB b o e (fun z=>by subst z;rw [hx] at e;cases e;cases dt)
   have hp7:upd H6 p (.ins C dx (jB "field_rows" (.ref d1) [])) p = some (.ins C dx (jB "field_rows" (.ref d1) [])):=aF
   have hd7:upd H6 p (.ins C dx (jB "field_rows" (.ref d1) [])) d1 = some (.dK (dC fs us)):=by rw [aK nd1];exact hd1'
   generalize upd H6 p (.ins C dx (jB "field_rows" (.ref d1) [])) = H7 at SB SD hp7 hd7
   refine ⟨_,rfl,a2,rfl,⟨_,SqL.of (SD _ _ o2 rfl)⟩,?_⟩
   refine bM (F:=K) (xs:=ws) (by omega) (fun i ys H'=>aI H7 H' ∧ bP H' ys ((dC ds ws).take i)) ⟨aI.refl _,bP.nil _⟩ ?_ ?_ ?_
   ·rintro i ys H' hi' ⟨S8,pr⟩
    exact ⟨SqL.of (S8 _ _ (SD _ _ o2 rfl)),by have:=pr.len;rw [Ac] at this;omega⟩
   ·rintro i x ys H' K1 K2 hx' ⟨S8,pr⟩ k1 k2
    have hil:i < ws.length:=(AC.mp hx').1
    obtain ⟨d,ed⟩:∃ d,ds[i]? = some d:=⟨_,AB (by omega)⟩
    obtain ⟨v,ev,iv⟩:=i2.get ed
    rw [hx'] at ev
    cases ev
    obtain ⟨n,a,b,c,r,sl,rfl,_⟩:=bV (gd.all d (AN ed))
    obtain ⟨t,vs,rfl,o,_⟩:=lH iv
    have ot:=S8 _ _ (SD _ _ o rfl)
    refine ⟨_,rfl,t,_,0,.str n,rfl,rfl,SqT.of ot,aN (j:=0) rfl,_,rfl,bB rfl,fun pt hpt=>k1 _ _ ⟨S8.trans (aI.upd hpt),?_⟩⟩
    rw [Ab,aCV ed hx']
    exact pr.snoc (k:=Sum.inr n) hpt
   ·rintro ys H8 ⟨S8,pr⟩
    rw [AH (by rw [oM l2];omega)] at pr
    intro p9 hp9
    have S9:=aI.upd (o:=.lst ys) hp9
    refine ⟨p9,ys,dC ds ws,rfl,SqL.of aF,pr.same S9,by rw [oM l2];omega,by rw [lP l2];exact yW gd.nd,fun d2 hd2=>?_⟩
    have S10:=aI.upd (o:=.dK (dC ds ws)) hd2
    have SC:=S8.trans (S9.trans S10)
    have hd2':upd (upd H8 p9 (.lst ys)) d2 (.dK (dC ds ws)) d2 = some (.dK (dC ds ws)):=aF
    generalize upd (upd H8 p9 (.lst ys)) d2 (.dK (dC ds ws)) = H10 at SC hd2'
    refine ⟨_,rfl,p,C,dx,_,rfl,SC _ _ hp7,T.cl_Land,T.a_dyke_rows,(by show 1 < 1000;decide),?_⟩
    have nd2:d2 ≠ p:=yQ hd2' (SC _ _ hp7) (by intro z;cases z)
    have SE:aEC H (upd H10 p (.ins C dx (nK d1 d2))):=fun b o e dt=>by
     have hb:b ≠ p:=fun z=>by subst z;rw [hx] at e;cases e;cases dt
     rw [aK hb]
     exact SC _ _ (SB _ _ e hb)
    refine q _ ⟨⟨dx,d1,d2,aF,⟨_,(aK nd1).trans (SC _ _ hd7),lP l1,?_⟩,⟨_,(aK nd2).trans hd2',lP l2,?_⟩⟩,okf,okd⟩ fun b o e hb=>?_
    ·rw [vK l1]
     exact IsL.sameD SE _ _ i1
    ·rw [vK l2]
     exact IsL.sameD SE _ _ i2
    ·show upd H10 p (.ins C dx (nK d1 d2)) b = some o
     rw [aK hb]
     exact SC _ _ (SB _ _ e hb)
open Mt02
def Scr (K:AG) (H:Hp) (x:V):Prop:=∃ (a:Addr) (ns:List Int),x = .ref a ∧ SqL K H a (ns.map V.int) ∧ ns.length ≤ 63
theorem Scr.same {K:AG} {H H':Hp} {x:V} (S:aI H H') (h:Scr K H x):Scr K H' x:=by
 obtain ⟨a,ns,e,q,l⟩:=h
 exact ⟨a,ns,e,S.seq q,l⟩
theorem at4 {a b c d i:Int} (h0:0 ≤ i) (h1:i < 4):∃ m:Int,atI ([.int a,.int b,.int c,.int d]:List V) i = some (.int m) ∧ (m = a ∨ m = b ∨ m = c ∨ m = d):=by
 obtain ⟨k,rfl⟩:=BH h0
 have hk:k < 4:=by omega
 match k,hk with
 | 0,_=>exact ⟨a,aN rfl,.inl rfl⟩
 | 1,_=>exact ⟨b,aN rfl,.inr (.inl rfl)⟩
 | 2,_=>exact ⟨c,aN rfl,.inr (.inr (.inl rfl))⟩
 | 3,_=>exact ⟨d,aN rfl,.inr (.inr (.inr rfl))⟩
structure Fds (fs:List Dv) (n:Nat):Prop where
 l1:1 ≤ fs.length
 l2:fs.length ≤ n
 all:∀ d ∈ fs,cG d = true
 nd:(fs.map bA).Nodup
theorem aFR {d:Dv} (h:cG d = true):xU d = true:=by
 obtain ⟨z,g,e,rfl,_⟩:=cB h
 rfl
theorem aNO {z:Str} {g e:Int} (hz:fG z = true) (g0:-1000000 ≤ g) (g1:g ≤ 1000000) (e0:0 ≤ e) (e1:e ≤ 1000000):cG (.tup [.str z,.int g,.int e]) = true:=by
 show (fG z && (hgt g && amt e)) = true
 unfold hgt amt
 rw [hz,decide_eq_true g0,decide_eq_true g1,decide_eq_true e0,decide_eq_true e1]
 rfl
structure Dks (zs:List Str) (ds:List Dv) (n:Nat):Prop where
 l1:1 ≤ ds.length
 l2:ds.length ≤ n
 all:∀ d ∈ ds,dE zs d = true
 nd:(ds.map bA).Nodup
theorem aIT {c s:Dv} (h:nN c s = true):xU s = true:=by
 cases s with
 | non=>rfl
 | int i=>rfl
 | _=>cases h
theorem aJY {zs:List Str} {d:Dv} (h:dE zs d = true):xU d = true:=by
 obtain ⟨n,a,b,c,r,s,rfl,_,_,_,_,_,_,hs⟩:=bV h
 have:=aIT hs
 show (true && (true && (true && (true && (true && (xU s && true)))))) = true
 rw [this]
 rfl
theorem aQS {zs:List Str} {n a b:Str} {c r:Int} {s:Dv} (hn:fG n = true) (ha:a ∈ zs) (hb:b ∈ zs) (hab:a ≠ b) (hc:hgt c = true) (hr:amt r = true) (hs:nN (.int c) s = true):dE zs (.tup [.str n,.str a,.str b,.int c,.int r,s]) = true:=by
 show (fG n && (decide (a ∈ zs) && (decide (b ∈ zs) && !(a == b))) && (hgt c && (amt r && nN (.int c) s))) = true
 rw [hn,decide_eq_true ha,decide_eq_true hb,hc,hr,hs,beq_eq_false_iff_ne.mpr hab]
 rfl
theorem aFL {i:Int} (h0:-1000000 ≤ i) (h1:i ≤ 1000000):hgt i = true:=by
 unfold hgt
 rw [decide_eq_true h0,decide_eq_true h1]
 rfl
theorem aTW {i:Int} (h0:0 ≤ i) (h1:i ≤ 1000000):amt i = true:=by
 unfold amt
 rw [decide_eq_true h0,decide_eq_true h1]
 rfl
theorem aAG {z:Str} (h:fG z = true):z ≠ "sea":=by
 intro e
 subst e
 simp [fG] at h
theorem aLK {fs:List Dv} {n:Nat} (h:Fds fs n):("sea" :: fs.map bA:List Str).Nodup:=by
 rw [Ak]
 refine ⟨fun m=>?_,h.nd⟩
 obtain ⟨d,md,e⟩:=AR.mp m
 obtain ⟨z,g,e',rfl,hz,_⟩:=cB (h.all d md)
 exact aAG hz e
theorem aJW {fs:List Dv} {n:Nat} (h:Fds fs n) (hn:n ≤ 12):lL (.lst fs) = true:=(sA fs).mpr ⟨h.l1,BI h.l2 hn,h.all,h.nd⟩
theorem aNS {zs:List Str} {ds:List Dv} {n:Nat} (h:Dks zs ds n) (hn:n ≤ 40):oA zs (.lst ds) = true:=(sC zs ds).mpr ⟨h.l1,BI h.l2 hn,h.all,h.nd⟩
theorem lR {z:Str} (h:fG z = true):z.length ≤ 1000:=by
 unfold fG at h
 rw [Aj,Aj,Aj] at h
 have:=of_decide_eq_true h.1.1.2
 omega
theorem aDO {d:Dv} (h:cG d = true):eV d = true:=by
 obtain ⟨z,g,e,rfl,hz,_⟩:=cB h
 show (decide (3 ≤ 1000) && (decide (z.length ≤ 1000) && (true && (true && true)))) = true
 rw [decide_eq_true (lR hz)]
 rfl
theorem uW {fs:List Dv} (hf:∀ d ∈ fs,cG d = true) {a:Str} (h:a ∈ ("sea" :: fs.map bA:List Str)):a.length ≤ 1000:=by
 rcases Af.mp h with rfl | h
 ·decide +kernel
 ·obtain ⟨d,m,rfl⟩:=AR.mp h
  obtain ⟨z,g,e,rfl,hz,_⟩:=cB (hf d m)
  exact lR hz
theorem aFU {fs:List Dv} (hf:∀ d ∈ fs,cG d = true) {d:Dv} (h:dE ("sea" :: fs.map bA) d = true):eV d = true:=by
 obtain ⟨n,a,b,c,r,s,rfl,hn,ha,hb,_,_,_,hs⟩:=bV h
 have e:eV s = true:=by
  cases s with
  | non=>rfl
  | int i=>rfl
  | _=>cases hs
 show (decide (6 ≤ 1000) && (decide (n.length ≤ 1000) && (decide (a.length ≤ 1000) && (decide (b.length ≤ 1000) && (true && (true && (eV s && true))))))) = true
 rw [decide_eq_true (lR hn),decide_eq_true (uW hf ha),decide_eq_true (uW hf hb),e]
 rfl
theorem rS {ds:List Dv} (h:∀ d ∈ ds,eV d = true) (hl:ds.length ≤ 1000):eV (.lst ds) = true:=by
 show (decide (ds.length ≤ 1000) && iB ds) = true
 rw [decide_eq_true hl,yG h]
 rfl
theorem aNJ {ds:List Dv} (h:∀ d ∈ ds,bD 29 d = true):bD 30 (.lst ds) = true:=by
 have:=wN h
 simpa [bD] using this
theorem kD (zs:List Str):bD 30 (.lst (zs.map Dv.str)) = true:=aNJ fun d m=>by
 obtain ⟨z,_,rfl⟩:=AR.mp m
 rfl
theorem aOV {H:Hp} {l:Addr} {zs:List Str} (h:H l = some (.lst (zs.map V.str))):Is H (.lst (zs.map Dv.str)) (.ref l):=⟨l,_,rfl,h,IsL.strs H zs⟩
open Mt04
def aKV (C:Addr):Sp:=sp2 fun x y H Q=>∃ (p:Addr) (fs ds:List Dv) (d:Dv),x = .ref p ∧ LandAt C H p fs ds ∧ Is H d y ∧ Q (.bl (dY ds d)) H
theorem aAW (T:Txt K mg C):Fc P w K mg base 3 "is_work" ["land","thing"] (aKV C):=by
 have G_p_is_tuple_of:Fc P w K mg base 1 "is_tuple_of" ["thing","length"] uH:=iE T
 have G_p_is_one_of:Fc P w K mg base 1 "is_one_of" ["thing","names"] (uJ K):=jT T
 have G_p_is_height:Fc P w K mg base 2 "is_height" ["thing"] jI:=dW T
 have G_land_p_dyke_names:Mc P w K mg base 1 C "dyke_names" ["self"] (uI C fun _ ds=>ds.map bA):=mI T
 have G_land_p_dyke:Mc P w K mg base 1 C "dyke" ["self","name"] (uK C):=jU T
 refine T.d_p_is_work.fcD aAI iX (fun f cdv A outer s H vs Q E hr h=>?_)
 obtain ⟨x,y,rfl,p,fs,ds,d,rfl,L,hd,q⟩:=h
 obtain ⟨dx,e1,e2,hx,_⟩:=L.ex
 have no:∀ m:Str,¬ m = "dyke_rows" → ¬ m = "field_rows" → (nK e1 e2).lookup m = none:=fun m h1 h2=>kY _ _ h1 h2
 refine ⟨_,(@aG _ _ _ _ _ (@fL _ _ _ _ _ _ _ _ (@PW.pt _ _ _ (@qH _ _ _ _ _ _ _ (@eR _ _ _ _ (@eF _ _ _ (@bI _ _ _ _ _ _ _ _ _ _ G_p_is_tuple_of (hr.mono (by decide)) (@aA _ _ _ _ _ (pv 1) (@aA _ _ _ _ _ aE aD (by rfl)) (by rfl)) (by rfl) (by decide) (by rfl) (by rfl)) (by intro _;rfl))) (@mX _ _ _ _ (@eR _ _ _ _ (@eF _ _ _ (@bI _ _ _ _ _ _ _ _ _ _ G_p_is_one_of (hr.mono (by decide)) (@aA _ _ _ _ _ (@bG _ _ _ _ _ _ _ (@aQ _ (K) rfl) (pv 1) aE (fun _ _=>rfl)) (@aA _ _ _ _ _ (@aMI _ _ _ _ _ _ _ _ _ _ _ T.cl_Land G_land_p_dyke_names (hr.mono (by decide)) (pv 0) (by rfl)) aD (by rfl)) (by rfl)) (by rfl) (by decide) (by rfl) (by rfl)) (by intro _;rfl)))))) (@aH _ _ _ (@aT _ _ _ _ qJ)) cL) (@aH _ _ _ (@aT _ _ _ _ (@dB _ _ _ _ _ _ _ (@bI _ _ _ _ _ _ _ _ _ _ G_p_is_height (hr.mono (by decide)) (@aA _ _ _ _ _ (@bG _ _ _ _ _ _ _ (@aQ _ (K) rfl) (pv 1) aE (fun _ _=>rfl)) aD (by rfl)) (by rfl) (by decide) (by rfl) (by rfl)) (@eG _ _ _ _ _ (@dQ _ _ _ _ _ _ _ _ aRR (@bG _ _ _ _ _ _ _ (@aQ _ (K) rfl) (pv 1) aE (fun _ _=>rfl)) (@bG _ _ _ _ _ _ _ (@aQ _ (K) rfl) (@aPU _ _ _ _ _ _ _ _ _ _ _ _ _ _ T.cl_Land G_land_p_dyke (hr.mono (by decide)) (pv 0) (@aA _ _ _ _ _ (@bG _ _ _ _ _ _ _ (@aQ _ (K) rfl) (pv 1) aE (fun _ _=>rfl)) aD (by rfl)) (by rfl) (by rfl) (by rfl)) aE (fun _ _=>rfl)) (@bY _ _ (by decide) (by decide)))))))),?_⟩
 refine ⟨_,rfl,_,_,rfl,d,2,hd,rfl,_,rfl,?_⟩
 by_cases h2:∃ a b,d = .tup [a,b]
 ·obtain ⟨a,b,rfl⟩:=h2
  obtain ⟨t,us,rfl,o,va,r1,rfl,ha,vb,r2,rfl,hb,h0⟩:=hd
  cases (show r2 = [] from h0)
  refine bS ⟨_,rfl,t,_,0,va,rfl,rfl,SqT.of o,aN (j:=0) rfl,_,rfl,p,dx,_,rfl,hx,no _ (by decide +kernel) (by decide +kernel),_,rfl,p,fs,ds,rfl,L,fun l hl=>?_⟩
  have S:=aI.upd (o:=.lst ((ds.map bA).map V.str)) hl
  refine ⟨_,_,rfl,a,l,ds.map bA,Is.same S _ _ ha,rfl,SqL.of aF,_,rfl,?_⟩
  have dr:=iA.lst (xs:=(ds.map bA).map V.str) hl
  cases ea:qM (ds.map bA) a with
  | false =>
   have e:dY ds (.tup [a,b]) = false:=by
    unfold dY
    split
    ·rename_i z v hq
     cases hq
     have:decide (z ∈ ds.map bA) = false:=ea
     rw [this]
     rfl
    ·rfl
   rw [e] at q
   exact dD (cU.of dr q)
  | true =>
   refine bS ⟨_,rfl,t,_,1,vb,rfl,rfl,SqT.of (S _ _ o),aN (j:=1) rfl,_,rfl,b,Is.same S _ _ hb,_,rfl,?_⟩
   cases eb:gB b with
   | false =>
    have e:dY ds (.tup [a,b]) = false:=by
     unfold dY
     split
     ·rename_i z v hq
      cases hq
      have:hgt v = false:=eb
      rw [this]
      simp
     ·rfl
    rw [e] at q
    exact bS (cU.of dr q)
   | true =>
    cases a with
    | str z =>
     cases b with
     | int v =>
      have mz:z ∈ ds.map bA:=of_decide_eq_true ea
      obtain ⟨d',md,rfl⟩:=AR.mp mz
      cases (show va = .str (bA d') from ha)
      cases (show vb = .int v from hb)
      have gd:=(bZ L).2
      refine dD ⟨_,rfl,t,_,1,_,rfl,rfl,SqT.of (S _ _ o),aN (j:=1) rfl,_,rfl,p,dx,_,rfl,S _ _ hx,no _ (by decide +kernel) (by decide +kernel),_,rfl,t,_,0,_,rfl,rfl,SqT.of (S _ _ o),aN (j:=0) rfl,_,_,rfl,p,fs,ds,d',rfl,rfl,L.same S,md,fun v1 iv1=>?_⟩
      have ec:=wU gd.nd md
      obtain ⟨n,a',b',c,r,sl,rfl,_⟩:=bV (gd.all d' md)
      obtain ⟨t',sv,rfl,o',_⟩:=lH iv1
      refine ⟨t',_,3,.int c,rfl,rfl,SqT.of o',aN (j:=3) rfl,_,_,rfl,rfl,cU.of dr ?_⟩
      have e:dY ds (.tup [.str (bA (.tup [.str n,.str a',.str b',.int c,.int r,sl])),.int v]) = decide (c ≤ v):=by
       show (decide (_ ∈ ds.map bA) && (hgt v && decide (hZ ds _ ≤ v))) = _
       rw [decide_eq_true mz,show hgt v = true from eb,ec]
       rfl
      rw [e] at q
      exact q
     | _=>cases eb
    | _=>cases ea
 ·have e1':dY ds d = false:=by
   unfold dY
   split
   ·rename_i z v
    exact absurd ⟨_,_,rfl⟩ h2
   ·rfl
  have e2':aGH 2 d = false:=by
   cases d with
   | tup ds' =>
    refine decide_eq_false (fun e=>?_)
    have e':ds'.length = 2:=by omega
    match ds',e',h2 with
    | [a,b],_,h2=>exact h2 ⟨a,b,rfl⟩
   | _=>rfl
  dsimp only
  rw [e2']
  rw [e1'] at q
  exact dD (cU.of (.refl _) q)
def aGK (C:Addr):Sp:=sp2 fun x y H Q=>∃ (p:Addr) (fs ds:List Dv) (d:Dv),x = .ref p ∧ LandAt C H p fs ds ∧ Is H d y ∧ eV d = true ∧ Q (.bl (aEA ds d)) H
theorem vQ (T:Txt K mg C):Fc P w K mg base 4 "are_works" ["land","thing"] (aGK C):=by
 have G_p_is_work:Fc P w K mg base 3 "is_work" ["land","thing"] (aKV C):=aAW T
 have G_p_none_twice:Fc P w K mg base 1 "none_twice" ["rows"] uG:=iV T
 refine T.d_p_are_works.fcD vB iX (fun f cdv A outer s H vs Q E hr h=>?_)
 obtain ⟨x,y,rfl,p0,fs,ds0,d,rfl,L,hd,hs,q⟩:=h
 have big:=bT
 obtain ⟨t,ty,e1,e2,e3,e4,_⟩:=sO K hd
 refine ⟨_,(@aH _ _ _ (@aT _ _ _ _ (@dB _ _ _ _ _ _ _ (@aU _ _ _ _ _ _ _ _ _ (@dO _ (K) rfl) rfl T.n_isinstance cK (@aA _ _ _ _ _ (pv 1) (@aA _ _ _ _ _ (@tF _ _ _ _ T.n_list eK (by rfl) (by decide) (by decide)) aD (by rfl)) (by rfl)) (by decide) (by decide) (by rfl) (by rfl)) (@dB _ _ _ _ _ _ _ (@aU _ _ _ _ _ _ _ _ _ (@nW _ rfl) rfl T.n_all lK (@aA _ _ _ _ _ (@cE _ _ _ _ _ _ _ _ _ _ _ ["row","land"] 1 [0] rfl (@bO _ _ _ _ (pv 1)) (fun R=>@bC _ _ (0) _ (show Ay (["row","land"]:List Str) by decide +kernel) rfl (Or.inl rfl) (by trivial)) (@aZ _ _ (by decide)) (fun R=>cC) (fun R=>(@bI _ _ _ _ _ _ _ _ _ _ G_p_is_work (hr.mono (by decide)) (@aA _ _ _ _ _ (pv 1) (@aA _ _ _ _ _ (pv 0) aD (by rfl)) (by rfl)) (by rfl) (by decide) (by rfl) (by rfl))) (by rfl) (by rfl) (by rfl) (by rfl) (by rfl) (by rfl) (by rfl) (by intro _;rfl)) aD (by rfl)) (by decide) (by decide) (by rfl) (by rfl)) (@eG _ _ _ _ _ (@bI _ _ _ _ _ _ _ _ _ _ G_p_none_twice (hr.mono (by decide)) (@aA _ _ _ _ _ (pv 1) aD (by rfl)) (by rfl) (by decide) (by rfl) (by rfl))))))),?_⟩
 refine ⟨_,rfl,_,_,_,t,_,rfl,rfl,ty,e4,_,rfl,?_⟩
 cases d with
 | lst ds =>
  obtain ⟨p,us,rfl,o,hi⟩:=hd
  have l1:=hi.length
  have hs':=BK.mp (show (decide (ds.length ≤ 1000) && iB ds) = true from hs)
  have l2:ds.length ≤ 1000:=of_decide_eq_true hs'.1
  have q:Q (.bl (ds.all (dY ds0) && decide ((ds.map cH).Nodup))) H:=q
  refine dD ⟨_,rfl,p,rfl,⟨_,SqL.of o⟩,?_⟩
  refine bM (F:=K) (xs:=us) (by omega) (fun i ys H'=>H' = H ∧ ys = (ds.take i).map fun d=>V.bl (dY ds0 d)) ⟨rfl,rfl⟩ ?_ ?_ ?_
  ·rintro i ys H' hi' ⟨rfl,rfl⟩
   exact ⟨SqL.of o,by rw [AA,Ac];omega⟩
  ·rintro i x ys H' K1 K2 hx ⟨rfl,rfl⟩ k1 k2
   have hil:i < us.length:=(AC.mp hx).1
   obtain ⟨d,ed⟩:∃ d,ds[i]? = some d:=⟨_,AB (by omega)⟩
   obtain ⟨v,ev,iv⟩:=hi.get ed
   rw [hx] at ev
   cases ev
   refine ⟨_,rfl,_,rfl,_,_,rfl,p0,fs,ds0,d,rfl,L,iv,k1 _ _ ⟨rfl,?_⟩⟩
   rw [Ab,ed]
   simp
  ·rintro ys H' ⟨rfl,rfl⟩
   intro p1 hp1
   have np:p ≠ p1:=aY o hp1
   refine ⟨p1,ds.map (dY ds0),rfl,SqL.of ?_,_,rfl,?_⟩
   ·rw [aF,AH (by omega),Ao]
    rfl
   have e1:(ds.map (dY ds0)).all id = ds.all (dY ds0):=by rw [Dw];rfl
   rw [e1]
   refine nM (fun h2=>?_) (fun h2=>?_)
   ·rw [h2,BX] at q
    obtain ⟨zs,ez⟩:=oO pI h2
    have l3:zs.length = ds.length:=by have:=congrArg Cz ez;simpa using this.symm
    refine ⟨_,rfl,_,rfl,p,us,ds,zs,rfl,by rw [aK np];exact o,IsL.same (aI.upd hp1) _ _ hi,ez,by omega,?_⟩
    have e2:decide zs.Nodup = decide (ds.map cH).Nodup:=by rw [ez,Bj,decide_eq_true_iff,decide_eq_true_iff,eI]
    rw [e2]
    exact cU.of (iA.lst hp1) q
   ·have h2':ds.all (dY ds0) = false:=by simpa using h2
    rw [h2'] at q
    exact cU.of (iA.lst hp1) q
 | _=>exact bS (cU.of (.refl _) q)
theorem aKK {H:Hp} {z:Str} {v:Int} {x:V} (h:Is H (.tup [.str z,.int v]) x):∃ t,x = .ref t ∧ H t = some (.tup [.str z,.int v]):=by
 obtain ⟨t,us,rfl,o,v0,r0,rfl,i0,v1,r1,rfl,i1,h0⟩:=h
 cases (show r1 = [] from h0)
 cases (show v0 = _ from i0)
 cases (show v1 = _ from i1)
 exact ⟨t,rfl,o⟩
def tP (p:Addr) (H H':Hp):Prop:=∀ b o,H b = some o → b ≠ p → H' b = some o
theorem tP.then {p:Addr} {H H' H'':Hp} (X:tP p H H') (S:aI H' H''):tP p H H'':=fun b o e n=>S _ _ (X b o e n)
theorem tP.put {p:Addr} {H H':Hp} {o:HO} (X:tP p H H'):tP p H (upd H' p o):=fun b o' e n=>by rw [aK n];exact X b o' e n
def sp4 (f:V → V → V → V → Hp → VK → Prop):Sp:=fun vs H Q _=>∃ x y z u,vs = [x,y,z,u] ∧ f x y z u H Q
theorem aWR {f:V → V → V → V → Hp → VK → Prop}:∀ vs H Q E,sp4 f vs H Q E → vs.length = 4:=fun vs H Q E ⟨x,y,z,u,e,_⟩=>by rw [e];rfl
open Mt21 Mt46
def aOX (K:AG):Sp:=sp2 fun x y H Q=>∃ k:Int,Scr K H x ∧ y = .int k ∧ 0 ≤ k ∧ ∀ m:Int,0 ≤ m → Q (.int m) H
theorem pP (T:Txt K mg C):Fc P w K mg base 1 "_law_mixed" ["_law_script","_law_k"] (aOX K):=by
 refine T.d_l_mixed.fc pK iX (fun f cdv A outer s H vs Q E hr h=>?_)
 obtain ⟨x,y,rfl,k,⟨a,ns,rfl,hS,hl⟩,rfl,hk,q⟩:=h
 obtain ⟨j,rfl⟩:=BH hk
 refine ⟨_,(@aG _ _ _ _ _ (@aW _ _ (2) _ _ _ _ pK.nd rfl (Or.inl rfl) aE (by rfl) (by trivial)) (@aG _ _ _ _ _ (@fL _ _ _ _ _ _ _ _ (@cD _ _ _ _ _ _ _ _ yN (pv 1) (@aU _ _ _ _ _ _ _ _ _ (@bE _ (K) rfl) rfl T.n_len bN (@aA _ _ _ _ _ (pv 0) aD (by rfl)) (by decide) (by decide) (by rfl) (by rfl)) (@bY _ _ (by decide) (by decide))) (@aH _ _ _ (@aW _ _ (2) _ _ _ _ pK.nd rfl (Or.inl rfl) (@bG _ _ _ _ _ _ _ (@eP _ (K) rfl) (pv 0) (pv 1) (fun _ _=>rfl)) (by rfl) (by trivial))) cL) (@aH _ _ _ (@aT _ _ _ _ (@aO _ _ _ _ _ _ _ _ cV (@aO _ _ _ _ _ _ _ _ iD (pv 2) aE) (@aO _ _ _ _ _ _ _ _ hW aE aE)))))),?_⟩
 have p24:(0:Int) < 10 ^ (24:Int).toNat:=by decide
 have fin:∀ m:Int,Q (.int (m % 10 ^ (24:Int).toNat)) H:=fun m=>q _ (BB _ (by decide))
 refine ⟨_,rfl,_,rfl,a,_,rfl,.inl hS,_,_,rfl,rfl,_,rfl,?_⟩
 rw [AA]
 refine nM (fun h1=>?_) (fun h1=>?_)
 ·have h1':j < ns.length:=by
   have:=of_decide_eq_true h1
   omega
  refine ⟨_,rfl,_,rfl,a,_,_,.int (ns.getD j 0),rfl,rfl,hS,aN ?_,?_⟩
  ·rw [AK,AB h1',Aa,AB h1']
   rfl
  exact ⟨_,rfl,_,_,rfl,rfl,.inr ⟨by decide,by decide⟩,_,_,rfl,rfl,⟨by decide,by decide,by decide⟩,_,_,rfl,rfl,p24,fin _⟩
 ·exact ⟨_,rfl,_,_,rfl,rfl,.inr ⟨by decide,by decide⟩,_,_,rfl,rfl,⟨by decide,by decide,by decide⟩,_,_,rfl,rfl,p24,fin _⟩
def aOY:Sp:=sp1 fun x H Q=>∃ n:Int,x = .int n ∧ ∀ m:Int,hgt m = true → Q (.int m) H
theorem nF (T:Txt K mg C):Fc P w K mg base 1 "_law_height" ["_law_cell"] aOY:=by
 refine T.d_l_height.fc aCL oT (fun f cdv A outer s H vs Q E hr h=>?_)
 obtain ⟨x,rfl,n,rfl,q⟩:=h
 have p6':(10:Int) ^ (6:Int).toNat = 1000000:=by decide
 refine ⟨_,(@aG _ _ _ _ _ (@fL _ _ _ _ _ _ _ _ (@cD _ _ _ _ _ _ _ _ oX (@aO _ _ _ _ _ _ _ _ cV (pv 0) aE) aE (@bY _ _ (by decide) (by decide))) (@aH _ _ _ (@aT _ _ _ _ (@aO _ _ _ _ _ _ _ _ iC (@aO _ _ _ _ _ _ _ _ cV (@aO _ _ _ _ _ _ _ _ bU (pv 0) aE) aE) (@aO _ _ _ _ _ _ _ _ hW aE aE)))) cL) (@aH _ _ _ (@aT _ _ _ _ (@aO _ _ _ _ _ _ _ _ iC (@aO _ _ _ _ _ _ _ _ cV (@aO _ _ _ _ _ _ _ _ bU (pv 0) aE) aE) aE)))),?_⟩
 refine ⟨_,rfl,_,_,rfl,rfl,(qI rfl),rfl,_,rfl,?_⟩
 rw [jD]
 refine nM (fun h1=>?_) (fun h1=>?_)
 ·refine ⟨_,rfl,_,_,rfl,rfl,⟨by decide,by decide⟩,_,_,rfl,rfl,(qI rfl),_,_,rfl,rfl,⟨by decide,by decide,by decide⟩,_,_,rfl,rfl,q _ ?_⟩
  rw [p6']
  have a0:=BB (n / 4) (show (2000001:Int) ≠ 0 by decide)
  have a1:=Az (n / 4) (show (0:Int) < 2000001 by decide)
  exact aFL (by omega) (by omega)
 ·refine ⟨_,rfl,_,_,rfl,rfl,⟨by decide,by decide⟩,_,_,rfl,rfl,(qI rfl),_,_,rfl,rfl,q _ ?_⟩
  have a0:=BB (n / 4) (show (7:Int) ≠ 0 by decide)
  have a1:=Az (n / 4) (show (0:Int) < 7 by decide)
  exact aFL (by omega) (by omega)
theorem aVC:("abcdefghijklmnopqrstuvwxyz":Str).length = 26:=by decide +kernel
def aSH:Sp:=sp1 fun x H Q=>∃ c:Int,x = .int c ∧ ∀ (zs:List Str) (l:Addr) (H':Hp),Nm zs → aI H H' → H l = none → H' l = some (.lst (zs.map V.str)) → Q (.ref l) H'
theorem vU (T:Txt K mg C):Fc P w K mg base 1 "_law_names" ["_law_cell"] aSH:=by
 refine T.d_l_names.fc eC oT (fun f cdv A outer s H vs Q E hr h=>?_)
 obtain ⟨x,rfl,c,rfl,q⟩:=h
 have big:=bT
 have l26:=aVC
 have hss:("abcdefghijklmnopqrstuvwxyz":Str).length ≤ Ar:=by rw [l26];omega
 refine ⟨_,(@aG _ _ _ _ _ (@aW _ _ (1) _ _ _ _ eC.nd rfl (Or.inr rfl) aAR (by rfl) (by trivial)) (@aG _ _ _ _ _ (@aW _ _ (2) _ _ _ _ eC.nd rfl (Or.inl rfl) (@aO _ _ _ _ _ _ _ _ fN aE (@aO _ _ _ _ _ _ _ _ cV (pv 0) aE)) (by rfl) (by trivial)) (@aG _ _ _ _ _ (@aW _ _ (3) _ _ _ _ eC.nd rfl (Or.inl rfl) (@aO _ _ _ _ _ _ _ _ cV (@aO _ _ _ _ _ _ _ _ bU (pv 0) aE) (pv 2)) (by rfl) (by trivial)) (@aG _ _ _ _ _ (@aW _ _ (4) _ _ _ _ eC.nd rfl (Or.inl rfl) (@bG _ _ _ _ _ _ _ (@eP _ (K) rfl) (@dU _ _ _ _ (@aA _ _ _ _ _ aE (@aA _ _ _ _ _ aE (@aA _ _ _ _ _ aE (@aA _ _ _ _ _ aE (@aA _ _ _ _ _ aE (@aA _ _ _ _ _ aE (@aA _ _ _ _ _ aE (@aA _ _ _ _ _ aE (@aA _ _ _ _ _ aE (@aA _ _ _ _ _ aE (@aA _ _ _ _ _ aE (@aA _ _ _ _ _ aE aD (by rfl)) (by rfl)) (by rfl)) (by rfl)) (by rfl)) (by rfl)) (by rfl)) (by rfl)) (by rfl)) (by rfl)) (by rfl)) (by rfl))) (@aO _ _ _ _ _ _ _ _ cV (@aO _ _ _ _ _ _ _ _ bU (pv 0) aE) aE) (fun _ _=>rfl)) (by rfl) (by trivial)) (@aG _ _ _ _ _ (@aW _ _ (5) _ _ _ _ eC.nd rfl (Or.inl rfl) (@mB _ _ _ _ _ _ _ _ _ _ _ _ PySem.F.plainAttrs_str PySem.F.slot_str_join PySem.F.type_str_join aQF aAR (@aA _ _ _ _ _ (@cE _ _ _ _ _ _ _ _ _ _ _ ["_law_j","_law_cell","_law_letters"] 1 [0,1] rfl (@gO _ _ _ _ _ _ rfl T.n_range (@aA _ _ _ _ _ (pv 2) aD (by rfl)) (by rfl)) (fun R=>@bC _ _ (0) _ (show Ay (["_law_j","_law_cell","_law_letters"]:List Str) by decide +kernel) rfl (Or.inl rfl) (by trivial)) (@aZ _ _ (by decide)) (fun R=>cC) (fun R=>(@bG _ _ _ _ _ _ _ aMX (pv 2) (@aO _ _ _ _ _ _ _ _ cV (@aO _ _ _ _ _ _ _ _ fN (@aO _ _ _ _ _ _ _ _ bU (pv 1) aE) (@aO _ _ _ _ _ _ _ _ iD (pv 0) (pv 0))) aE) (fun _ _=>rfl))) (by rfl) (by rfl) (by rfl) (by rfl) (by rfl) (by rfl) (by rfl) (by intro _;rfl)) aD (by rfl)) (by rfl) (by rfl) (by rfl) (by rfl) (by rfl)) (by rfl) (by trivial)) (@aG _ _ _ _ _ (@aW _ _ (6) _ _ _ _ eC.nd rfl (Or.inl rfl) (@dU _ _ _ _ aD) (by rfl) (by trivial)) (@aG _ _ _ _ _ (@hU _ _ _ _ _ _ _ _ BJ rfl (@gO _ _ _ _ _ _ rfl T.n_range (@aA _ _ _ _ _ aE aD (by rfl)) (by rfl)) (@bC _ _ (7) _ eC.nd rfl (Or.inl rfl) (by trivial)) (@aG _ _ _ _ _ (@aW _ _ (8) _ _ _ _ eC.nd rfl (Or.inl rfl) (@bG _ _ _ _ _ _ _ aMX (pv 1) (@aO _ _ _ _ _ _ _ _ cV (@aO _ _ _ _ _ _ _ _ fN (@aO _ _ _ _ _ _ _ _ iD (pv 7) (pv 4)) (@aO _ _ _ _ _ _ _ _ bU (pv 0) aE)) aE) (fun _ _=>rfl)) (by rfl) (by trivial)) (@aH _ _ _ (@hV _ _ _ _ (@mB _ _ _ _ _ _ _ _ _ _ _ _ BM BV BU fK (pv 6) (@aA _ _ _ _ _ (@aO _ _ _ _ _ _ _ _ vM (@aO _ _ _ _ _ _ _ _ vM (@aCU _ _ _ _ _ _ _ _ _ _ aLJ (pv 5) aHE (@aHD _ _ _ (pv 3))) (pv 8)) (@aCU _ _ _ _ _ _ _ _ _ _ aLJ (pv 5) (@aHD _ _ _ (@aO _ _ _ _ _ _ _ _ fN (pv 3) aE)) aHE)) aD (by rfl)) (by rfl) (by rfl) (by rfl) (by rfl) (by rfl)) (by rfl)))) (by intro _;rfl)) (@aH _ _ _ (@aT _ _ _ _ (@cE _ _ _ _ _ _ _ _ _ _ _ ["_law_name"] 1 [] rfl (@bO _ _ _ _ (pv 6)) (fun R=>@bC _ _ (0) _ (show Ay (["_law_name"]:List Str) by decide +kernel) rfl (Or.inl rfl) (by trivial)) (@aZ _ _ (by decide)) (fun R=>@fF _ _ _ (@cD _ _ _ _ _ _ _ _ yM (pv 0) aAR (@bY _ _ (by decide) (by decide)))) (fun R=>(pv 0)) (by rfl) (by rfl) (by rfl) (by rfl) (by rfl) (by rfl) (by rfl) (by intro _;rfl))))))))))),?_⟩
 have z0:0 ≤ c % 8:=BB _ (by decide)
 have z1:c % 8 < 8:=Az _ (by decide)
 obtain ⟨sz,hsz⟩:=BH (show 0 ≤ 1 + c % 8 by omega)
 refine ⟨_,rfl,_,_,rfl,rfl,(qI rfl),_,_,rfl,rfl,?_⟩
 dsimp only
 rw [hsz]
 have szp:(0:Int) < (sz:Int):=by omega
 refine ⟨_,rfl,_,_,rfl,rfl,⟨by decide,by decide⟩,_,rfl,_,_,rfl,rfl,szp,?_⟩
 have a0:0 ≤ c / 8 % (sz:Int):=BB _ (by omega)
 have a1:c / 8 % (sz:Int) < (sz:Int):=Az _ (by omega)
 obtain ⟨at',hat⟩:=BH a0
 dsimp only
 rw [hat]
 refine ⟨bB rfl,fun pb hpb=>?_⟩
 have S0:=aI.upd (o:=.lst [.int 1,.int 3,.int 5,.int 7,.int 9,.int 11,.int 15,.int 17,.int 19,.int 21,.int 23,.int 25]) hpb
 obtain ⟨u,mu,eu⟩:=aXC (i:=c / 64 % 12) (BB _ (by decide)) (Az _ (by decide))
 refine ⟨_,rfl,_,_,rfl,rfl,⟨by decide,by decide⟩,_,_,rfl,rfl,(qI rfl),pb,_,_,.int u,rfl,rfl,SqL.of aF,eu,?_⟩
 generalize upd H pb (.lst [.int 1,.int 3,.int 5,.int 7,.int 9,.int 11,.int 15,.int 17,.int 19,.int 21,.int 23,.int 25]) = H0 at S0
 refine ⟨rfl,_,rfl,_,rfl,by omega,by omega,?_⟩
 refine wW (lo:=0) (n:=sz) (by omega) (fun i ys H'=>H0 = H' ∧ ys = ((Al i).map fun (j:Nat)=>vN (c / 768 + (j:Int) * (j:Int))).map V.str) ⟨rfl,rfl⟩ ?_ ?_ ?_
 ·rintro i ys H' ⟨rfl,rfl⟩
  simp
 ·rintro i ys H' K1 K2 hi ⟨rfl,rfl⟩ k1 k2
  refine ⟨_,rfl,_,rfl,_,_,rfl,rfl,⟨by decide,by decide⟩,_,rfl,_,rfl,_,_,rfl,rfl,.inl ⟨by omega,by omega⟩,_,_,rfl,rfl,_,_,rfl,rfl,(qI rfl),_,_,ab (c / 768 + (0 + (i:Int)) * (0 + (i:Int))),rfl,rfl,hss,aRV _,k1 _ _ ⟨rfl,?_⟩⟩
  rw [EA,AX,AX]
  show _ ++ [V.str (vN _)] = _ ++ [V.str (vN _)]
  rw [DK]
 rintro ys H' ⟨rfl,rfl⟩
 intro p1 hp1
 have S1:=aI.upd (o:=.lst (((Al sz).map fun (j:Nat)=>vN (c / 768 + (j:Int) * (j:Int))).map V.str)) hp1
 have lsum:((((Al sz).map fun (j:Nat)=>vN (c / 768 + (j:Int) * (j:Int)))).map fun y=>y.length).sum = sz:=by
  rw [Ao]
  show ((Al sz).map fun _=>1).sum = sz
  have e:∀ m:Nat,((Al m).map fun _=>1).sum = m:=fun m=>by
   induction m with
   | zero=>rfl
   | succ m ih=>rw [EA,AX,List.sum_append,ih];rfl
  exact e sz
 refine ⟨"",p1,(Al sz).map fun (j:Nat)=>vN (c / 768 + (j:Int) * (j:Int)),rfl,rfl,SqL.of aF,by rw [lsum,AA,CU,show ("":Str).length = 0 by decide +kernel];omega,?_⟩
 generalize hb:Txt.join "" ((Al sz).map fun (j:Nat)=>vN (c / 768 + (j:Int) * (j:Int))) = b
 have bc:b.cps.toList = (Al sz).map fun (j:Nat)=>ab (c / 768 + (j:Int) * (j:Int)):=by
  rw [← hb,aFH,Ao]
  show (((Al sz).map fun j=>[ab _]).flatten) = _
  induction (Al sz) with
  | nil=>rfl
  | cons x r ih=>rw [AY,List.flatten_cons,ih,AY];rfl
 have bl:b.length = sz:=by rw [jF,bc,AA,CU]
 have ball:b.cps.toList.all jV = true:=by
  rw [bc,BA]
  intro x hx
  obtain ⟨j,_,rfl⟩:=AR.mp hx
  exact zV _
 have bs:b.length ≤ Ar:=by omega
 refine ⟨bB rfl,fun l hl=>?_⟩
 have S2:=aI.upd (o:=.lst []) hl
 have hl0:=S1.free hl
 have ub:1 ≤ u ∧ u ≤ 25:=(show ∀ u ∈ units,1 ≤ u ∧ u ≤ 25 by decide +kernel) u mu
 refine ⟨_,rfl,by omega,by omega,?_⟩
 refine iG (lo:=0) (n:=26) (fun i σ H'=>∃ (v7 v8:Option V) (g:Nat → Str),σ = [some (.int c),some (.str "abcdefghijklmnopqrstuvwxyz"),some (.int sz),some (.int at'),some (.int u),some (.str b),some (.ref l),v7,v8] ∧ aI H0 H' ∧ H' l = some (.lst (((Al i).map g).map V.str)) ∧ ∀ k,k < i → (g k).cps.toList = b.cps.toList.take at' ++ [ab ((k:Int) * u + c / 19968)] ++ b.cps.toList.drop (at' + 1))
  ⟨_,_,fun _=>"",rfl,S1.trans S2,aF,(fun k hk=>absurd hk (by omega))⟩ ?_ ?_
 ·rintro i σ H3 hi ⟨v7,v8,g,rfl,S3,hl3,pu⟩
  have ku:0 ≤ (0 + (i:Int)) * u:=FM (by omega) (by omega)
  refine ⟨_,rfl,_,rfl,_,rfl,_,_,rfl,rfl,.inl ⟨by omega,by omega⟩,_,rfl,_,_,rfl,rfl,⟨by decide,by decide⟩,_,_,rfl,rfl,_,_,rfl,rfl,(qI rfl),_,_,ab ((0 + (i:Int)) * u + c / 19968),rfl,rfl,hss,aRV _,?_⟩
  have tl:(Cl b none (some (at':Int))).length ≤ 8:=by
   rw [jF,uP b at' (by omega),Ac]
   omega
  have dl:(Cl b (some ((at':Int) + 1)) none).length ≤ 8:=by
   rw [show ((at':Int) + 1) = ((at' + 1:Nat):Int) from rfl,jF,wQ b (at' + 1) (by omega),Cu,← jF]
   omega
  have ia:(vN ((0 + (i:Int)) * u + c / 19968)).length = 1:=rfl
  have sh1:(vN ((0 + (i:Int)) * u + c / 19968)).cps.toList = [ab ((0 + (i:Int)) * u + c / 19968)]:=rfl
  refine ⟨_,rfl,.inl ⟨rfl,_,SqL.of hl3⟩,_,rfl,_,rfl,_,rfl,b,rfl,bs,_,rfl,_,_,rfl,rfl,?_,_,rfl,_,rfl,_,_,rfl,rfl,_,rfl,b,rfl,bs,_,_,rfl,rfl,?_,l,_,_,rfl,rfl,hl3,by rw [AA,AA,CU];omega,?_⟩
  ·refine BI (FL tl (Dz ia)) (by omega)
  ·rw [Tx.app_len]
   refine BI (FL (FL tl (Dz ia)) dl) (by omega)
  ·refine ⟨_,_,fun k=>if k = i then Cl b none (some (at':Int)) ++ vN ((0 + (i:Int)) * u + c / 19968) ++ Cl b (some ((at':Int) + 1)) none else g k,rfl,S3.over ?_,?_,fun k hk=>?_⟩
   ·exact hl0
   ·rw [aF,EA,AX,AX]
    have e1:(Al i).map (fun k=>if k = i then Cl b none (some (at':Int)) ++ vN ((0 + (i:Int)) * u + c / 19968) ++ Cl b (some ((at':Int) + 1)) none else g k) = (Al i).map g:=BZ fun k m=>by
     rw [if_neg (by have:=Ax.mp m;omega)]
    rw [e1]
    show _ = some (HO.lst (_ ++ [V.str (if i = i then _ else _)]))
    rw [if_pos rfl]
    rfl
   ·by_cases hki:k = i
    ·subst hki
     dsimp only
     rw [if_pos rfl]
     rw [Tx.app_codes,Tx.app_codes,uP b at' (by omega),show ((at':Int) + 1) = ((at' + 1:Nat):Int) from rfl,wQ b (at' + 1) (by omega),sh1,DK]
    ·dsimp only
     rw [if_neg hki]
     exact pu k (by omega)
 ·rintro σ H3 ⟨v7,v8,g,rfl,S3,hl3,pu⟩
  have NM:=aUZ (g:=g) (r:=c / 19968) ball bl (by omega) (by omega) (by omega) mu pu
  refine ⟨_,rfl,l,rfl,⟨_,SqL.of hl3⟩,?_⟩
  generalize hzs:(Al 26).map g = zs at *
  have lz:zs.length = 26:=by rw [← hzs,AA,CU]
  refine bM (F:=K) (xs:=zs.map V.str) (by rw [AA];omega) (fun i ys H'=>H3 = H' ∧ ys = ((zs.take i).filter fun z=>!decide (z = ("sea":Str))).map V.str ∧ ys.length ≤ i) ⟨rfl,rfl,AQ _⟩ ?_ ?_ ?_
  ·rintro i ys H' hi' ⟨rfl,rfl,hy⟩
   exact ⟨SqL.of hl3,hy⟩
  ·rintro i xv ys H' K1 K2 hx ⟨rfl,rfl,hy⟩ k1 k2
   obtain ⟨z,ez⟩:∃ z,zs[i]? = some z:=by
    have:=(AC.mp hx).1
    rw [AA] at this
    exact ⟨_,AB this⟩
   rw [AK,ez] at hx
   cases hx
   refine ⟨_,rfl,rfl,_,rfl,?_⟩
   show if (!decide (V.str z = V.str "sea")) = true then _ else _
   rw [lZ]
   have et:((zs.take (i + 1)).filter fun z=>!decide (z = ("sea":Str))) = ((zs.take i).filter fun z=>!decide (z = ("sea":Str))) ++ (if (!decide (z = ("sea":Str))) = true then [z] else []):=by
    rw [Ab,ez,Bt]
    cases hb:(!decide (z = ("sea":Str))) <;> simp_all
   cases hb:(!decide (z = ("sea":Str))) with
   | true =>
    rw [hb] at et
    refine dD ⟨_,rfl,k1 _ _ ⟨rfl,?_,by rw [Ai,CB];omega⟩⟩
    rw [et,AX]
    rfl
   | false =>
    rw [hb] at et
    refine bS (k2 _ ⟨rfl,?_,by omega⟩)
    rw [et]
    simp
  rintro ys H' ⟨rfl,rfl,hy⟩
  rw [AA,AH (AQ _)]
  intro l2 hl2
  exact q _ l2 _ NM (S0.trans (S3.trans (aI.upd hl2))) (S0.free (S3.free hl2)) aF
theorem aHP {i:Int} (h:hgt i = true):-1000000 ≤ i ∧ i ≤ 1000000:=by
 unfold hgt at h
 rw [Aj,decide_eq_true_iff,decide_eq_true_iff] at h
 exact h
theorem gC:∀ {ds:List Dv},(∀ d ∈ ds,xU d = true) → zA ds = true
 | [],_=>rfl
 | d :: ds,h=>by
  rw [zA,h d AU,gC fun e m=>h e (AO _ m)]
  rfl
def aRK (K:AG):Sp:=sp2 fun x y H Q=>∃ n:Nat,Scr K H x ∧ y = .int n ∧ 1 ≤ n ∧ n ≤ 12 ∧ ∀ (l:Addr) (vs:List V) (fs:List Dv) (H':Hp),aI H H' → H l = none → H' l = some (.lst vs) → IsL H' fs vs → Fds fs n → Q (.ref l) H'
theorem aDA (T:Txt K mg C):Fc P w K mg base 2 "_law_fields" ["_law_script","_law_most"] (aRK K):=by
 have G_l_names:Fc P w K mg base 1 "_law_names" ["_law_cell"] aSH:=vU T
 have G_l_mixed:Fc P w K mg base 1 "_law_mixed" ["_law_script","_law_k"] (aOX K):=pP T
 have G_l_height:Fc P w K mg base 1 "_law_height" ["_law_cell"] aOY:=nF T
 refine T.d_l_fields.fc gN iX (fun f cdv A outer s H vs Q E hr h=>?_)
 obtain ⟨x,y,rfl,n,⟨a,ns,rfl,hS,hns⟩,rfl,n1,n12,q⟩:=h
 have scr:Scr K H (.ref a):=⟨a,ns,rfl,hS,hns⟩
 have big:=bT
 refine ⟨_,(@aG _ _ _ _ _ (@aW _ _ (2) _ _ _ _ gN.nd rfl (Or.inl rfl) (@bI _ _ _ _ _ _ _ _ _ _ G_l_names (hr.mono (by decide)) (@aA _ _ _ _ _ (@bI _ _ _ _ _ _ _ _ _ _ G_l_mixed (hr.mono (by decide)) (@aA _ _ _ _ _ (pv 0) (@aA _ _ _ _ _ aE aD (by rfl)) (by rfl)) (by rfl) (by decide) (by rfl) (by rfl)) aD (by rfl)) (by rfl) (by decide) (by rfl) (by rfl)) (by rfl) (by trivial)) (@aG _ _ _ _ _ (@aW _ _ (3) _ _ _ _ gN.nd rfl (Or.inl rfl) (@dU _ _ _ _ aD) (by rfl) (by trivial)) (@aG _ _ _ _ _ (@hU _ _ _ _ _ _ _ _ BJ rfl (@gO _ _ _ _ _ _ rfl T.n_range (@aA _ _ _ _ _ (@aO _ _ _ _ _ _ _ _ fN aE (@aO _ _ _ _ _ _ _ _ cV (@bI _ _ _ _ _ _ _ _ _ _ G_l_mixed (hr.mono (by decide)) (@aA _ _ _ _ _ (pv 0) (@aA _ _ _ _ _ aE aD (by rfl)) (by rfl)) (by rfl) (by decide) (by rfl) (by rfl)) (pv 1))) aD (by rfl)) (by rfl)) (@bC _ _ (4) _ gN.nd rfl (Or.inl rfl) (by trivial)) (@aG _ _ _ _ _ (@aW _ _ (5) _ _ _ _ gN.nd rfl (Or.inl rfl) (@bI _ _ _ _ _ _ _ _ _ _ G_l_mixed (hr.mono (by decide)) (@aA _ _ _ _ _ (pv 0) (@aA _ _ _ _ _ (@aO _ _ _ _ _ _ _ _ fN aE (pv 4)) aD (by rfl)) (by rfl)) (by rfl) (by decide) (by rfl) (by rfl)) (by rfl) (by trivial)) (@aG _ _ _ _ _ (@aW _ _ (6) _ _ _ _ gN.nd rfl (Or.inl rfl) (@bG _ _ _ _ _ _ _ (@eP _ (K) rfl) (@dU _ _ _ _ (@aA _ _ _ _ _ aE (@aA _ _ _ _ _ aE (@aA _ _ _ _ _ (@aO _ _ _ _ _ _ _ _ fN aE (@aO _ _ _ _ _ _ _ _ cV (@aO _ _ _ _ _ _ _ _ bU (pv 5) aE) aE)) (@aA _ _ _ _ _ (@aO _ _ _ _ _ _ _ _ cV (@aO _ _ _ _ _ _ _ _ bU (pv 5) aE) (@aO _ _ _ _ _ _ _ _ fN (@aO _ _ _ _ _ _ _ _ hW aE aE) aE)) aD (by rfl)) (by rfl)) (by rfl)) (by rfl))) (@aO _ _ _ _ _ _ _ _ cV (pv 5) aE) (fun _ _=>rfl)) (by rfl) (by trivial)) (@aH _ _ _ (@hV _ _ _ _ (@mB _ _ _ _ _ _ _ _ _ _ _ _ BM BV BU fK (pv 3) (@aA _ _ _ _ _ (@dS _ _ _ _ _ (@aA _ _ _ _ _ (@bG _ _ _ _ _ _ _ (@eP _ (K) rfl) (pv 2) (pv 4) (fun _ _=>rfl)) (@aA _ _ _ _ _ (@bI _ _ _ _ _ _ _ _ _ _ G_l_height (hr.mono (by decide)) (@aA _ _ _ _ _ (@aO _ _ _ _ _ _ _ _ bU (pv 5) (@aO _ _ _ _ _ _ _ _ hW aE aE)) aD (by rfl)) (by rfl) (by decide) (by rfl) (by rfl)) (@aA _ _ _ _ _ (pv 6) aD (by rfl)) (by rfl)) (by rfl))) aD (by rfl)) (by rfl) (by rfl) (by rfl) (by rfl) (by rfl)) (by rfl))))) (by intro _;rfl)) (@aH _ _ _ (@aT _ _ _ _ (pv 3)))))),?_⟩
 refine ⟨_,rfl,_,_,rfl,0,scr,rfl,by decide,fun m0 hm0=>?_⟩
 refine ⟨_,rfl,m0,rfl,fun zs ln H1 NM S1 nln hln=>?_⟩
 refine ⟨bB rfl,fun l hl=>?_⟩
 have S2:=aI.upd (o:=.lst []) hl
 have nl:H l = none:=S1.free hl
 have hl2:upd H1 l (.lst []) l = some (.lst []):=aF
 have T2:=S1.trans S2
 have hln2:=S2 _ _ hln
 have nll:ln ≠ l:=fun z=>by rw [z,hl2] at hln2;have:=(HO.lst.inj (Aw hln2));have h1:=NM.l1;rw [← AA (f:=V.str),← this] at h1;exact absurd h1 (by decide)
 generalize upd H1 l (.lst []) = H2 at T2 hl2 hln2
 refine ⟨_,rfl,_,_,rfl,1,scr.same T2,rfl,by decide,fun m1 hm1=>?_⟩
 have np:(0:Int) < (n:Int):=by omega
 have r0:0 ≤ m1 % (n:Int):=BB _ (by omega)
 have r1:m1 % (n:Int) < (n:Int):=Az _ np
 obtain ⟨cnt,hcnt⟩:=BH (show 0 ≤ 1 + m1 % (n:Int) by omega)
 refine ⟨_,rfl,_,_,rfl,rfl,np,_,_,rfl,rfl,_,rfl,by show -(2 ^ 62) ≤ 1 + m1 % (n:Int);omega,by show 1 + m1 % (n:Int) < 2 ^ 62;omega,?_⟩
 rw [show (1 + m1 % (n:Int)).toNat = cnt by omega]
 have nz:=NM.l1
 refine iG (lo:=0) (n:=cnt) (fun i σ H'=>∃ (v4 v5 v6:Option V) (vs:List V) (es:List Dv),σ = [some (.ref a),some (.int n),some (.ref ln),some (.ref l),v4,v5,v6] ∧ tP l H2 H' ∧ H' l = some (.lst vs) ∧ IsL H' es vs ∧ es.map bA = zs.take i ∧ es.length = i ∧ ∀ d ∈ es,cG d = true) ⟨_,_,_,[],[],rfl,(fun b o e _=>e),hl2,rfl,rfl,rfl,fun d m=>by cases m⟩ ?_ ?_
 ·rintro i σ H' hi ⟨v4,v5,v6,ys,es,rfl,X,hly,iy,en,le,all⟩
  have SH:aI H H':=fun b o e=>X _ _ (T2 _ _ e) (fun z=>by rw [z,nl] at e;cases e)
  have ly:=iy.length
  obtain ⟨z,ez⟩:∃ z,zs[i]? = some z:=⟨_,AB (by omega)⟩
  have zi:(0:Int) + (i:Int) = (i:Int):=DK _
  refine ⟨_,rfl,_,rfl,_,_,rfl,rfl,_,_,rfl,_,scr.same SH,rfl,by show 0 ≤ 2 + (0 + (i:Int));omega,fun mc hmc=>?_⟩
  have p6':(10:Int) ^ (6:Int).toNat = 1000000:=by decide
  have pm6:(0:Int) < 10 ^ (6:Int).toNat + 1:=by decide
  refine ⟨_,rfl,_,_,rfl,rfl,⟨by decide,by decide⟩,_,_,rfl,rfl,(qI rfl),_,_,rfl,rfl,_,rfl,_,_,rfl,rfl,⟨by decide,by decide⟩,_,_,rfl,rfl,⟨by decide,by decide,by decide⟩,_,_,rfl,rfl,_,_,rfl,rfl,pm6,bB rfl,fun p1 hp1=>?_⟩
  have A1:=aI.upd (o:=.lst [.int 0,.int 1,.int (1 + mc / 16 % 5),.int (mc / 16 % (10 ^ (6:Int).toNat + 1))]) hp1
  obtain ⟨du,edu,hdu⟩:=at4 (a:=0) (b:=1) (c:=1 + mc / 16 % 5) (d:=mc / 16 % (10 ^ (6:Int).toNat + 1)) (i:=mc % 4) (BB _ (by decide)) (Az _ (by decide))
  have du01:0 ≤ du ∧ du ≤ 1000000:=by
   have b0:=BB (mc / 16) (show (5:Int) ≠ 0 by decide)
   have b1:=Az (mc / 16) (show (0:Int) < 5 by decide)
   rw [p6'] at hdu
   have c0:=BB (mc / 16) (show (1000000 + 1:Int) ≠ 0 by decide)
   have c1:=Az (mc / 16) (show (0:Int) < 1000000 + 1 by decide)
   rcases hdu with rfl | rfl | rfl | rfl <;> omega
  refine ⟨_,rfl,_,_,rfl,rfl,(qI rfl),p1,_,_,.int du,rfl,rfl,SqL.of aF,edu,?_⟩
  generalize upd H' p1 (.lst [.int 0,.int 1,.int (1 + mc / 16 % 5),.int (mc / 16 % (10 ^ (6:Int).toNat + 1))]) = H4 at A1 ⊢
  refine ⟨_,rfl,.inl ⟨rfl,_,SqL.of (A1 _ _ hly)⟩,?_⟩
  refine ⟨_,rfl,_,rfl,ln,_,_,.str z,rfl,rfl,SqL.of (A1 _ _ (X _ _ hln2 nll)),(by rw [zi];exact aN (by rw [AK,ez];rfl)),?_⟩
  refine ⟨_,rfl,_,_,rfl,rfl,⟨by decide,by decide,by decide⟩,_,_,rfl,rfl,⟨by decide,by decide⟩,_,rfl,_,rfl,fun g hg=>?_⟩
  refine ⟨_,rfl,bB rfl,fun t ht=>?_⟩
  have A2:=aI.upd (o:=.tup [.str z,.int g,.int du]) ht
  have A:=A1.trans A2
  have hl5:=A _ _ hly
  refine ⟨l,_,_,rfl,rfl,hl5,by omega,?_⟩
  have nmz:=NM.nm z (AN ez)
  have ntl:t ≠ l:=fun e=>by rw [e,A1 _ _ hly] at ht;cases ht
  have kp:iU H' (upd (upd H4 t (.tup [.str z,.int g,.int du])) l (.lst (ys ++ [.ref t]))):=fun b xs e=>by
   rw [aK (fun z=>by rw [z,hly] at e;cases e)]
   exact A _ _ e
  have hh:=aHP hg
  refine ⟨_,_,_,ys ++ [.ref t],es ++ [.tup [.str z,.int g,.int du]],rfl,(X.then A).put,aF,IsL.snoc ?_ (IsL.keep kp _ _ (gC fun d m=>aFR (all d m)) iy),?_,by rw [Ai,le];rfl,?_⟩
  ·exact ⟨t,_,rfl,by rw [aK ntl,aF],_,_,rfl,rfl,_,_,rfl,rfl,_,_,rfl,rfl,rfl⟩
  ·rw [AX,en,Ab,ez]
   rfl
  ·intro d md
   rcases Au.mp md with md | md
   ·exact all d md
   ·rw [AW.mp md]
    exact aNO nmz hh.1 hh.2 du01.1 du01.2
 ·rintro σ H' ⟨v4,v5,v6,ys,es,rfl,X,hly,iy,en,le,all⟩
  have SH:aI H H':=fun b o e=>X _ _ (T2 _ _ e) (fun z=>by rw [z,nl] at e;cases e)
  refine ⟨_,rfl,q l ys es H' SH nl hly iy ⟨by omega,by omega,all,?_⟩⟩
  rw [en]
  exact NM.nd.sublist (Eh _ _)
open Mt21 Mt46
theorem aIV {c:TT} {a b u:TS} {D:Ends} {σ:L2.St} {H:Hp} (R:L2.St → Hp → Prop) (h:∀ σ' H',R σ' H' → u D σ' H') (k:∀ D':Ends,(∀ σ' H',R σ' H' → D'.nx σ' H') → aSC c a b D' σ H):rE (aSC c a b) u D σ H:=k { D with nx:=u D } h
theorem aWU {b:Bool} {A B X:Prop} (hA:A) (hX:A → b = false → X):if b = true then (if true = true then A else B) else X:=by
 cases b with
 | true=>rw [if_pos rfl,if_pos rfl];exact hA
 | false=>rw [if_neg (by intro z;cases z)];exact hX hA rfl
def aRL (K:AG):Sp:=sp4 fun x y z u H Q=>∃ (ia im:Nat) (lf:Addr) (vf:List V) (fs:List Dv) (nf:Nat),Scr K H x ∧ y = .int ia ∧ ia ≤ 63 ∧ z = .int im ∧ 1 ≤ im ∧ im ≤ 20 ∧ u = .ref lf ∧ H lf = some (.lst vf) ∧ IsL H fs vf ∧ Fds fs nf ∧ nf ≤ 12 ∧
 ∀ (l:Addr) (us:List V) (ds:List Dv) (H':Hp),aI H H' → H l = none → H' l = some (.lst us) → IsL H' ds us → Dks ("sea" :: fs.map bA) ds im → Q (.ref l) H'
theorem aEY (T:Txt K mg C):Fc P w K mg base 2 "_law_dykes" ["_law_script","_law_at","_law_most","_law_fields_here"] (aRL K):=by
 have G_l_names:Fc P w K mg base 1 "_law_names" ["_law_cell"] aSH:=vU T
 have G_l_mixed:Fc P w K mg base 1 "_law_mixed" ["_law_script","_law_k"] (aOX K):=pP T
 have G_l_height:Fc P w K mg base 1 "_law_height" ["_law_cell"] aOY:=nF T
 refine T.d_l_dykes.fc cN aWR (fun f cdv A outer s H vs Q E hr h=>?_)
 obtain ⟨x,y,z,u,rfl,ia,im,lf,vf,fs,nf,⟨a,ns,rfl,hS,hns⟩,rfl,ia63,rfl,im1,im20,rfl,hlf,iff,gf,nf12,q⟩:=h
 have scr:Scr K H (.ref a):=⟨a,ns,rfl,hS,hns⟩
 have big:=bT
 have lvf:=iff.length
 have f1:=gf.l1
 have f2:=gf.l2
 have snd:=aLK gf
 refine ⟨_,(@aG _ _ _ _ _ (@aW _ _ (4) _ _ _ _ cN.nd rfl (Or.inl rfl) (@bI _ _ _ _ _ _ _ _ _ _ G_l_names (hr.mono (by decide)) (@aA _ _ _ _ _ (@aO _ _ _ _ _ _ _ _ bU (@bI _ _ _ _ _ _ _ _ _ _ G_l_mixed (hr.mono (by decide)) (@aA _ _ _ _ _ (pv 0) (@aA _ _ _ _ _ aE aD (by rfl)) (by rfl)) (by rfl) (by decide) (by rfl) (by rfl)) (@aO _ _ _ _ _ _ _ _ hW aE aE)) aD (by rfl)) (by rfl) (by decide) (by rfl) (by rfl)) (by rfl) (by trivial)) (@aG _ _ _ _ _ (@aW _ _ (5) _ _ _ _ cN.nd rfl (Or.inl rfl) (@aO _ _ _ _ _ _ _ _ aAU (@dU _ _ _ _ (@aA _ _ _ _ _ aAR aD (by rfl))) (@cE _ _ _ _ _ _ _ _ _ _ _ ["_law_field"] 1 [] rfl (@bO _ _ _ _ (pv 3)) (fun R=>@bC _ _ (0) _ (show Ay (["_law_field"]:List Str) by decide +kernel) rfl (Or.inl rfl) (by trivial)) (@aZ _ _ (by decide)) (fun R=>cC) (fun R=>(@bG _ _ _ _ _ _ _ (@aQ _ (K) rfl) (pv 0) aE (fun _ _=>rfl))) (by rfl) (by rfl) (by rfl) (by rfl) (by rfl) (by rfl) (by rfl) (by intro _;rfl))) (by rfl) (by trivial)) (@aG _ _ _ _ _ (@aW _ _ (6) _ _ _ _ cN.nd rfl (Or.inl rfl) (@dU _ _ _ _ aD) (by rfl) (by trivial)) (@aG _ _ _ _ _ (@hU _ _ _ _ _ _ _ _ BJ rfl (@gO _ _ _ _ _ _ rfl T.n_range (@aA _ _ _ _ _ (@aU _ _ _ _ _ _ _ _ _ (@zJ _ rfl) rfl T.n_max zM (@aA _ _ _ _ _ aE (@aA _ _ _ _ _ (@aU _ _ _ _ _ _ _ _ _ (@sJ _ rfl) rfl T.n_min oP (@aA _ _ _ _ _ (pv 2) (@aA _ _ _ _ _ (@aO _ _ _ _ _ _ _ _ iC (@aU _ _ _ _ _ _ _ _ _ (@bE _ (K) rfl) rfl T.n_len bN (@aA _ _ _ _ _ (pv 0) aD (by rfl)) (by decide) (by decide) (by rfl) (by rfl)) (pv 1)) aD (by rfl)) (by rfl)) (by decide) (by decide) (by rfl) (by rfl)) aD (by rfl)) (by rfl)) (by decide) (by decide) (by rfl) (by rfl)) aD (by rfl)) (by rfl)) (@bC _ _ (7) _ cN.nd rfl (Or.inl rfl) (by trivial)) (@aG _ _ _ _ _ (@aW _ _ (8) _ _ _ _ cN.nd rfl (Or.inl rfl) (@bI _ _ _ _ _ _ _ _ _ _ G_l_mixed (hr.mono (by decide)) (@aA _ _ _ _ _ (pv 0) (@aA _ _ _ _ _ (@aO _ _ _ _ _ _ _ _ fN (pv 1) (pv 7)) aD (by rfl)) (by rfl)) (by rfl) (by decide) (by rfl) (by rfl)) (by rfl) (by trivial)) (@aG _ _ _ _ _ (@aW _ _ (9) _ _ _ _ cN.nd rfl (Or.inr rfl) (@bG _ _ _ _ _ _ _ (@eP _ (K) rfl) (pv 5) (@aO _ _ _ _ _ _ _ _ cV (pv 8) (@aU _ _ _ _ _ _ _ _ _ (@bE _ (K) rfl) rfl T.n_len bN (@aA _ _ _ _ _ (pv 5) aD (by rfl)) (by decide) (by decide) (by rfl) (by rfl))) (fun _ _=>rfl)) (by rfl) (by trivial)) (@aG _ _ _ _ _ (@gI _ (10) _ _ _ _ _ _ _ _ _ _ _ _ _ cN.nd rfl ["_law_side","_law_one"] 1 [9] rfl (@bO _ _ _ _ (pv 5)) (fun R=>@bC _ _ (0) _ (show Ay (["_law_side","_law_one"]:List Str) by decide +kernel) rfl (Or.inl rfl) (by trivial)) (@aZ _ _ (by decide)) (fun R=>@fF _ _ _ (@cD _ _ _ _ _ _ _ _ yM (pv 0) (pv 1) (@bY _ _ (by decide) (by decide)))) (fun R=>(pv 0)) (by exact Or.inl rfl) (by trivial) (by rfl) (by rfl) (by rfl) (by rfl) (by rfl) (by rfl) (by rfl) (by rfl) (by intro _;rfl)) (@aG _ _ _ _ _ (@aW _ _ (11) _ _ _ _ cN.nd rfl (Or.inl rfl) (@bG _ _ _ _ _ _ _ (@eP _ (K) rfl) (pv 10) (@aO _ _ _ _ _ _ _ _ cV (@aO _ _ _ _ _ _ _ _ bU (pv 8) aE) (@aU _ _ _ _ _ _ _ _ _ (@bE _ (K) rfl) rfl T.n_len bN (@aA _ _ _ _ _ (pv 10) aD (by rfl)) (by decide) (by decide) (by rfl) (by rfl))) (fun _ _=>rfl)) (by rfl) (by trivial)) (@aG _ _ _ _ _ (@aW _ _ (12) _ _ _ _ cN.nd rfl (Or.inl rfl) (@bI _ _ _ _ _ _ _ _ _ _ G_l_height (hr.mono (by decide)) (@aA _ _ _ _ _ (@aO _ _ _ _ _ _ _ _ bU (pv 8) aE) aD (by rfl)) (by rfl) (by decide) (by rfl) (by rfl)) (by rfl) (by trivial)) (@aG _ _ _ _ _ (@aW _ _ (13) _ _ _ _ cN.nd rfl (Or.inl rfl) (@bG _ _ _ _ _ _ _ (@eP _ (K) rfl) (@dU _ _ _ _ (@aA _ _ _ _ _ aE (@aA _ _ _ _ _ aE (@aA _ _ _ _ _ (@aO _ _ _ _ _ _ _ _ fN aE (@aO _ _ _ _ _ _ _ _ cV (@aO _ _ _ _ _ _ _ _ bU (pv 8) (@aO _ _ _ _ _ _ _ _ hW aE aE)) aE)) (@aA _ _ _ _ _ (@aO _ _ _ _ _ _ _ _ cV (@aO _ _ _ _ _ _ _ _ bU (pv 8) (@aO _ _ _ _ _ _ _ _ hW aE aE)) (@aO _ _ _ _ _ _ _ _ fN (@aO _ _ _ _ _ _ _ _ hW aE aE) aE)) aD (by rfl)) (by rfl)) (by rfl)) (by rfl))) (@aO _ _ _ _ _ _ _ _ cV (@aO _ _ _ _ _ _ _ _ bU (pv 8) (@aO _ _ _ _ _ _ _ _ hW aE aE)) aE) (fun _ _=>rfl)) (by rfl) (by trivial)) (@aG _ _ _ _ _ (@aW _ _ (14) _ _ _ _ cN.nd rfl (Or.inl rfl) (@aO _ _ _ _ _ _ _ _ iC (@aO _ _ _ _ _ _ _ _ iC (pv 12) aE) (@bG _ _ _ _ _ _ _ (@eP _ (K) rfl) (@dU _ _ _ _ (@aA _ _ _ _ _ aE (@aA _ _ _ _ _ aE (@aA _ _ _ _ _ aE (@aA _ _ _ _ _ (@aO _ _ _ _ _ _ _ _ hW aE aE) aD (by rfl)) (by rfl)) (by rfl)) (by rfl))) (@aO _ _ _ _ _ _ _ _ cV (@aO _ _ _ _ _ _ _ _ bU (pv 8) (@aO _ _ _ _ _ _ _ _ hW aE aE)) aE) (fun _ _=>rfl))) (by rfl) (by trivial)) (@aG _ _ _ _ _ (@fL _ _ _ _ _ _ _ _ (@PW.pt _ _ _ (@qH _ _ _ _ _ _ _ (@cD _ _ _ _ _ _ _ _ oX (@aO _ _ _ _ _ _ _ _ cV (@aO _ _ _ _ _ _ _ _ bU (pv 8) (@aO _ _ _ _ _ _ _ _ hW aE aE)) aE) aE (@bY _ _ (by decide) (by decide))) (@mX _ _ _ _ (@cD _ _ _ _ _ _ _ _ yN (pv 14) (@aO _ _ _ _ _ _ _ _ iC aE (@aO _ _ _ _ _ _ _ _ hW aE aE)) (@bY _ _ (by decide) (by decide)))))) (@aH _ _ _ (@aW _ _ (14) _ _ _ _ cN.nd rfl (Or.inl rfl) aAS (by rfl) (by trivial))) cL) (@aH _ _ _ (@hV _ _ _ _ (@mB _ _ _ _ _ _ _ _ _ _ _ _ BM BV BU fK (pv 6) (@aA _ _ _ _ _ (@dS _ _ _ _ _ (@aA _ _ _ _ _ (@bG _ _ _ _ _ _ _ (@eP _ (K) rfl) (pv 4) (pv 7) (fun _ _=>rfl)) (@aA _ _ _ _ _ (pv 9) (@aA _ _ _ _ _ (pv 11) (@aA _ _ _ _ _ (pv 12) (@aA _ _ _ _ _ (pv 13) (@aA _ _ _ _ _ (pv 14) aD (by rfl)) (by rfl)) (by rfl)) (by rfl)) (by rfl)) (by rfl))) aD (by rfl)) (by rfl) (by rfl) (by rfl) (by rfl) (by rfl)) (by rfl))))))))))) (by intro _;rfl)) (@aH _ _ _ (@aT _ _ _ _ (pv 6))))))),?_⟩
 refine ⟨_,rfl,_,_,rfl,1,scr,rfl,by decide,fun m0 hm0=>?_⟩
 refine ⟨_,_,rfl,rfl,⟨by decide,by decide,by decide⟩,_,_,rfl,rfl,⟨by decide,by decide⟩,_,rfl,_,rfl,fun zs ln H1 NM S1 nln hln=>?_⟩
 refine ⟨bB rfl,fun p1 hp1=>?_⟩
 have A1:=aI.upd (o:=.lst [.str "sea"]) hp1
 have B1:=S1.trans A1
 refine ⟨_,rfl,lf,rfl,⟨_,SqL.of (B1 _ _ hlf)⟩,?_⟩
 refine bM (F:=K) (xs:=vf) (by omega) (fun i ys H'=>upd H1 p1 (.lst [.str "sea"]) = H' ∧ ys = ((fs.take i).map bA).map V.str) ⟨rfl,rfl⟩ ?_ ?_ ?_
 ·rintro i ys H' hi' ⟨rfl,rfl⟩
  exact ⟨SqL.of (B1 _ _ hlf),by rw [AA,AA,Ac];omega⟩
 ·rintro i xv ys H' K1 K2 hx ⟨rfl,rfl⟩ k1 k2
  have hil:i < vf.length:=(AC.mp hx).1
  obtain ⟨d,ed⟩:∃ d,fs[i]? = some d:=⟨_,AB (by omega)⟩
  obtain ⟨v,ev,iv⟩:=iff.get ed
  rw [hx] at ev
  cases ev
  obtain ⟨z,g,e,rfl,_⟩:=cB (gf.all d (AN ed))
  obtain ⟨t,rfl,o⟩:=lG iv
  refine ⟨_,rfl,t,_,0,.str z,rfl,rfl,SqT.of (B1 _ _ o),aN (j:=0) rfl,k1 _ _ ⟨rfl,?_⟩⟩
  rw [Ab,ed]
  simp [bA,cH]
 rintro ys H' ⟨rfl,rfl⟩
 rw [AH (by omega)]
 intro p2 hp2
 have A2:=aI.upd (o:=.lst ((fs.map bA).map V.str)) hp2
 refine ⟨p1,p2,_,_,rfl,rfl,A2 _ _ aF,aF,by simp only [AA,Ag,ED];omega,fun ls hls=>?_⟩
 have A3:=aI.upd (o:=.lst ([.str "sea"] ++ (fs.map bA).map V.str)) hls
 have B3:=B1.trans (A2.trans A3)
 have C3:=A1.trans (A2.trans A3)
 have hls3:upd (upd (upd H1 p1 (.lst [.str "sea"])) p2 (.lst ((fs.map bA).map V.str))) ls (.lst ([.str "sea"] ++ (fs.map bA).map V.str)) ls = some (.lst ((("sea":Str) :: fs.map bA).map V.str)):=aF
 have hln3:=C3 _ _ hln
 generalize upd (upd (upd H1 p1 (.lst [.str "sea"])) p2 (.lst ((fs.map bA).map V.str))) ls (.lst ([.str "sea"] ++ (fs.map bA).map V.str)) = H3 at B3 hls3 hln3
 generalize hsd:(("sea":Str) :: fs.map bA) = sd at *
 have lsd:2 ≤ sd.length ∧ sd.length ≤ 13:=by rw [← hsd,Ag,AA];omega
 refine ⟨bB rfl,fun l hl=>?_⟩
 have S4:=aI.upd (o:=.lst []) hl
 have T4:=B3.trans S4
 have nl:H l = none:=B3.free hl
 have hl4:upd H3 l (.lst []) l = some (.lst []):=aF
 have hls4:=S4 _ _ hls3
 have hln4:=S4 _ _ hln3
 have nls:ls ≠ l:=fun z=>by rw [z,hl] at hls3;cases hls3
 have nll:ln ≠ l:=fun z=>by rw [z,hl] at hln3;cases hln3
 generalize upd H3 l (.lst []) = H4 at T4 hl4 hls4 hln4
 have lns:(ns.map V.int).length = ns.length:=AA ..
 refine ⟨_,rfl,_,rfl,a,_,rfl,.inl (T4.seq hS),_,rfl,_,_,rfl,rfl,_,_,rfl,_,_,rfl,?_⟩
 obtain ⟨cnt,hcnt,c1,c2⟩:∃ cnt:Nat,(if (if (((ns.map V.int).length:Nat):Int) - (ia:Int) < (im:Int) then (((ns.map V.int).length:Nat):Int) - (ia:Int) else (im:Int)) > 1 then (if (((ns.map V.int).length:Nat):Int) - (ia:Int) < (im:Int) then (((ns.map V.int).length:Nat):Int) - (ia:Int) else (im:Int)) else 1) = (cnt:Int) ∧ 1 ≤ cnt ∧ cnt ≤ im:=by
  generalize (((ns.map V.int).length:Nat):Int) - (ia:Int) = w
  by_cases h1:w < (im:Int)
  ·rw [if_pos h1]
   by_cases h2:w > 1
   ·rw [if_pos h2]
    exact ⟨w.toNat,by omega,by omega,by omega⟩
   ·rw [if_neg h2]
    exact ⟨1,rfl,by omega,by omega⟩
  ·rw [if_neg h1]
   by_cases h2:(im:Int) > 1
   ·rw [if_pos h2]
    exact ⟨im,rfl,by omega,by omega⟩
   ·rw [if_neg h2]
    exact ⟨1,rfl,by omega,by omega⟩
 refine ⟨(cnt:Int),congrArg (fun x=>[V.int x]) hcnt,by omega,by omega,?_⟩
 rw [CF]
 have nz:=NM.l1
 refine iG (lo:=0) (n:=cnt) (fun i σ H'=>∃ (w7 w8 w9 w10 w11 w12 w13 w14:Option V) (vs:List V) (es:List Dv),σ = [some (.ref a),some (.int ia),some (.int im),some (.ref lf),some (.ref ln),some (.ref ls),some (.ref l),w7,w8,w9,w10,w11,w12,w13,w14] ∧ tP l H4 H' ∧ H' l = some (.lst vs) ∧ IsL H' es vs ∧ es.map bA = zs.take i ∧ es.length = i ∧ ∀ d ∈ es,dE sd d = true) ⟨_,_,_,_,_,_,_,_,[],[],rfl,(fun b o e _=>e),hl4,rfl,rfl,rfl,fun d m=>by cases m⟩ ?_ ?_
 ·rintro i σ H' hi ⟨w7,w8,w9,w10,w11,w12,w13,w14,ys,es,rfl,X,hly,iy,en,le,all⟩
  have SH:aI H H':=fun b o e=>X _ _ (T4 _ _ e) (fun z=>by rw [z,nl] at e;cases e)
  have ly:=iy.length
  obtain ⟨z,ez⟩:∃ z,zs[i]? = some z:=⟨_,AB (by omega)⟩
  have nmz:=NM.nm z (AN ez)
  have zi:(0:Int) + (i:Int) = (i:Int):=DK _
  refine ⟨_,rfl,_,rfl,_,rfl,_,_,rfl,rfl,_,_,rfl,_,scr.same SH,rfl,by show 0 ≤ (ia:Int) + (0 + (i:Int));omega,fun mc hmc=>?_⟩
  have hls5:=X _ _ hls4 nls
  have psd:(0:Int) < (((sd.map V.str).length:Nat):Int):=by rw [AA];omega
  have o0:0 ≤ mc % (((sd.map V.str).length:Nat):Int):=BB _ (by omega)
  have o1:mc % (((sd.map V.str).length:Nat):Int) < (((sd.map V.str).length:Nat):Int):=Az _ psd
  obtain ⟨k1',hk1⟩:=BH o0
  have lk1:k1' < sd.length:=by rw [hk1,AA] at o1;omega
  obtain ⟨one,eone⟩:∃ z,sd[k1']? = some z:=⟨_,AB lk1⟩
  refine ⟨_,rfl,_,rfl,_,rfl,ls,_,rfl,.inl (SqL.of hls5),_,_,rfl,rfl,psd,ls,_,_,.str one,rfl,rfl,SqL.of hls5,by rw [hk1];exact aN (by rw [AK,eone];rfl),?_⟩
  refine ⟨_,rfl,ls,rfl,⟨_,SqL.of hls5⟩,?_⟩
  refine bM (F:=K) (xs:=sd.map V.str) (by rw [AA];omega) (fun i ys Hx=>H' = Hx ∧ ys = ((sd.take i).filter fun y=>!decide (y = one)).map V.str ∧ ys.length ≤ i) ⟨rfl,rfl,AQ _⟩ ?_ ?_ ?_
  ·rintro i ys Hx hi' ⟨rfl,rfl,hy⟩
   exact ⟨SqL.of hls5,hy⟩
  ·rintro i xv ys Hx K1 K2 hx ⟨rfl,rfl,hy⟩ k1 k2
   obtain ⟨y,ey⟩:∃ y,sd[i]? = some y:=by
    have:=(AC.mp hx).1
    rw [AA] at this
    exact ⟨_,AB this⟩
   rw [AK,ey] at hx
   cases hx
   refine ⟨_,rfl,_,rfl,rfl,_,rfl,?_⟩
   show if (!decide (V.str y = V.str one)) = true then _ else _
   rw [lZ]
   have et:((sd.take (i + 1)).filter fun y=>!decide (y = one)) = ((sd.take i).filter fun y=>!decide (y = one)) ++ (if (!decide (y = one)) = true then [y] else []):=by
    rw [Ab,ey,Bt]
    cases hb:(!decide (y = one)) <;> simp_all
   cases hb:(!decide (y = one)) with
   | true =>
    rw [hb] at et
    refine dD ⟨_,rfl,k1 _ _ ⟨rfl,?_,by rw [Ai,CB];omega⟩⟩
    rw [et,AX]
    rfl
   | false =>
    rw [hb] at et
    refine bS (k2 _ ⟨rfl,?_,by omega⟩)
    rw [et]
    simp
  rintro ys' Hx ⟨rfl,rfl,hy⟩
  rw [AA,AH (AQ _)]
  intro po hpo
  have A5:=aI.upd (o:=.lst ((sd.filter fun y=>!decide (y = one)).map V.str)) hpo
  have hpo5:upd H' po (.lst ((sd.filter fun y=>!decide (y = one)).map V.str)) po = some (.lst ((sd.filter fun y=>!decide (y = one)).map V.str)):=aF
  have lot:=aFD one sd snd
  have pot:(0:Int) < ((((sd.filter fun y=>!decide (y = one)).map V.str).length:Nat):Int):=by rw [AA];omega
  generalize hot:(sd.filter fun y=>!decide (y = one)) = ot at *
  generalize upd H' po (.lst (ot.map V.str)) = H5 at A5 hpo5 ⊢
  have q0:0 ≤ mc / 16 % (((ot.map V.str).length:Nat):Int):=BB _ (by omega)
  have q1:mc / 16 % (((ot.map V.str).length:Nat):Int) < (((ot.map V.str).length:Nat):Int):=Az _ pot
  obtain ⟨k2',hk2⟩:=BH q0
  have lk2:k2' < ot.length:=by rw [hk2,AA] at q1;omega
  obtain ⟨oth,eoth⟩:∃ z,ot[k2']? = some z:=⟨_,AB lk2⟩
  have moth:=AN eoth
  rw [← hot] at moth
  obtain ⟨moth1,moth2⟩:=Am.mp moth
  have noth:one ≠ oth:=fun e=>by rw [e] at moth2;simp at moth2
  refine ⟨_,rfl,_,rfl,_,_,rfl,rfl,⟨by decide,by decide⟩,_,rfl,po,_,rfl,.inl (SqL.of hpo5),_,_,rfl,rfl,pot,po,_,_,.str oth,rfl,rfl,SqL.of hpo5,by rw [hk2];exact aN (by rw [AK,eoth];rfl),?_⟩
  refine ⟨_,rfl,_,_,rfl,rfl,⟨by decide,by decide⟩,_,rfl,_,rfl,fun cr hcr=>?_⟩
  have hcr':=aHP hcr
  have p6':(10:Int) ^ (6:Int).toNat = 1000000:=by decide
  have pm6:(0:Int) < 10 ^ (6:Int).toNat + 1:=by decide
  refine ⟨_,rfl,_,_,rfl,rfl,⟨by decide,by decide,by decide⟩,_,_,rfl,rfl,⟨by decide,by decide⟩,_,_,rfl,rfl,(qI rfl),_,_,rfl,rfl,_,rfl,_,_,rfl,rfl,⟨by decide,by decide,by decide⟩,_,_,rfl,rfl,⟨by decide,by decide⟩,_,_,rfl,rfl,⟨by decide,by decide,by decide⟩,_,_,rfl,rfl,_,_,rfl,rfl,pm6,bB rfl,fun p6 hp6=>?_⟩
  have A6:=aI.upd (o:=.lst [.int 0,.int 1,.int (1 + mc / 10 ^ (9:Int).toNat % 4),.int (mc / 10 ^ (9:Int).toNat % (10 ^ (6:Int).toNat + 1))]) hp6
  obtain ⟨rt,ert,hrt⟩:=at4 (a:=0) (b:=1) (c:=1 + mc / 10 ^ (9:Int).toNat % 4) (d:=mc / 10 ^ (9:Int).toNat % (10 ^ (6:Int).toNat + 1)) (i:=mc / 10 ^ (8:Int).toNat % 4) (BB _ (by decide)) (Az _ (by decide))
  have rt01:0 ≤ rt ∧ rt ≤ 1000000:=by
   have b0:=BB (mc / 10 ^ (9:Int).toNat) (show (4:Int) ≠ 0 by decide)
   have b1:=Az (mc / 10 ^ (9:Int).toNat) (show (0:Int) < 4 by decide)
   rw [p6'] at hrt
   have c0:=BB (mc / 10 ^ (9:Int).toNat) (show (1000000 + 1:Int) ≠ 0 by decide)
   have c1:=Az (mc / 10 ^ (9:Int).toNat) (show (0:Int) < 1000000 + 1 by decide)
   rcases hrt with rfl | rfl | rfl | rfl <;> omega
  refine ⟨_,rfl,_,_,rfl,rfl,⟨by decide,by decide,by decide⟩,_,_,rfl,rfl,⟨by decide,by decide⟩,_,_,rfl,rfl,(qI rfl),p6,_,_,.int rt,rfl,rfl,SqL.of aF,ert,?_⟩
  generalize upd H5 p6 (.lst [.int 0,.int 1,.int (1 + mc / 10 ^ (9:Int).toNat % 4),.int (mc / 10 ^ (9:Int).toNat % (10 ^ (6:Int).toNat + 1))]) = H6 at A6 ⊢
  refine ⟨_,rfl,_,_,rfl,rfl,_,_,rfl,rfl,⟨by decide,by decide,by decide⟩,bB rfl,fun p7 hp7=>?_⟩
  have A7:=aI.upd (o:=.lst [.int 0,.int 1,.int 2,.int (10 ^ (5:Int).toNat)]) hp7
  obtain ⟨sx,esx,hsx⟩:=at4 (a:=0) (b:=1) (c:=2) (d:=10 ^ (5:Int).toNat) (i:=mc / 10 ^ (15:Int).toNat % 4) (BB _ (by decide)) (Az _ (by decide))
  have sx0:0 ≤ sx:=by rcases hsx with rfl | rfl | rfl | rfl <;> decide
  refine ⟨_,rfl,_,_,rfl,rfl,⟨by decide,by decide,by decide⟩,_,_,rfl,rfl,⟨by decide,by decide⟩,_,_,rfl,rfl,(qI rfl),p7,_,_,.int sx,rfl,rfl,SqL.of aF,esx,_,_,rfl,rfl,?_⟩
  generalize upd H6 p7 (.lst [.int 0,.int 1,.int 2,.int (10 ^ (5:Int).toNat)]) = H7 at A7 ⊢
  have A57:=A5.trans (A6.trans A7)
  unfold wK
  dsimp only
  refine aIV (fun σ' Hz=>Hz = H7 ∧ ∃ (sv:V) (sl:Dv),σ' = [some (.ref a),some (.int ia),some (.int im),some (.ref lf),some (.ref ln),some (.ref ls),some (.ref l),some (.int (0 + (i:Int))),some (.int mc),some (.str one),some (.ref po),some (.str oth),some (.int cr),some (.int rt),some sv] ∧ (∀ G:Hp,Is G sl sv) ∧ nN (.int cr) sl = true ∧ xU sl = true) (fun σ' Hz hR=>?_) (fun D' hD=>?_)
  rotate_left
  ·refine ⟨_,rfl,_,_,rfl,rfl,⟨by decide,by decide,by decide⟩,_,_,rfl,rfl,⟨by decide,by decide⟩,_,_,rfl,rfl,(qI rfl),rfl,_,rfl,?_⟩
   rw [jD]
   dsimp only
   refine aWU ?_ (fun none' c1'=>?_)
   ·exact hD _ _ ⟨rfl,.non,.non,rfl,(fun _=>rfl),rfl,rfl⟩
   refine ⟨_,rfl,_,_,rfl,rfl,⟨by decide,by decide,by decide⟩,_,_,rfl,rfl,_,_,rfl,rfl,_,rfl,?_⟩
   refine nM (fun _=>none') (fun h2=>?_)
   have h2':¬ (cr - 1 - sx < 0 - 10 ^ (6:Int).toNat):=fun h=>h2 (decide_eq_true h)
   rw [p6'] at h2'
   refine hD _ _ ⟨rfl,.int (cr - 1 - sx),.int (cr - 1 - sx),rfl,(fun _=>rfl),?_,rfl⟩
   show (hgt _ && decide _) = true
   rw [aFL (by omega) (by omega),decide_eq_true (by omega)]
   rfl
  obtain ⟨rfl,sv,sl,rfl,isv,okS,hrdS⟩:=hR
  have hly7:=A57 _ _ hly
  refine ⟨_,rfl,.inl ⟨rfl,_,SqL.of hly7⟩,?_⟩
  refine ⟨_,rfl,_,rfl,ln,_,_,.str z,rfl,rfl,SqL.of (A57 _ _ (X _ _ hln4 nll)),(by rw [zi];exact aN (by rw [AK,ez];rfl)),_,rfl,_,rfl,_,rfl,_,rfl,_,rfl,bB rfl,fun t ht=>?_⟩
  have A8:=aI.upd (o:=.tup [.str z,.str one,.str oth,.int cr,.int rt,sv]) ht
  have A58:=A57.trans A8
  refine ⟨l,_,_,rfl,rfl,A58 _ _ hly,by omega,?_⟩
  have ntl:t ≠ l:=fun e=>by rw [e,hly7] at ht;cases ht
  have kp:iU H' (upd (upd Hz t (.tup [.str z,.str one,.str oth,.int cr,.int rt,sv])) l (.lst (ys ++ [.ref t]))):=fun b xs e=>by
   rw [aK (fun z=>by rw [z,hly] at e;cases e)]
   exact A58 _ _ e
  refine ⟨_,_,_,_,_,_,_,_,ys ++ [.ref t],es ++ [.tup [.str z,.str one,.str oth,.int cr,.int rt,sl]],rfl,(X.then A58).put,aF,IsL.snoc ?_ (IsL.keep kp _ _ (gC fun d m=>aJY (all d m)) iy),?_,by rw [Ai,le];rfl,?_⟩
  ·exact ⟨t,_,rfl,by rw [aK ntl,aF],_,_,rfl,rfl,_,_,rfl,rfl,_,_,rfl,rfl,_,_,rfl,rfl,_,_,rfl,rfl,_,_,rfl,isv _,rfl⟩
  ·rw [AX,en,Ab,ez]
   rfl
  ·intro d md
   rcases Au.mp md with md | md
   ·exact all d md
   ·rw [AW.mp md]
    exact aQS nmz (AN eone) moth1 noth hcr (aTW rt01.1 rt01.2) okS
 ·rintro σ H' ⟨w7,w8,w9,w10,w11,w12,w13,w14,ys,es,rfl,X,hly,iy,en,le,all⟩
  have SH:aI H H':=fun b o e=>X _ _ (T4 _ _ e) (fun z=>by rw [z,nl] at e;cases e)
  refine ⟨_,rfl,q l ys es H' SH nl hly iy ⟨by omega,by omega,all,?_⟩⟩
  rw [en]
  exact NM.nd.sublist (Eh _ _)
open Mt53
theorem jD (a b:Int):decide (V.int a = V.int b) = decide (a = b):=by
 by_cases h:a = b
 ·subst h;simp
 ·rw [decide_eq_false h,decide_eq_false (fun c=>h (by cases c;rfl))]
def rH:Sp:=sp2 fun x y H Q=>∃ (t:Addr) (n a b:Str) (c r h:Int) (sv:V),x = .ref t ∧ y = .int h ∧ H t = some (.tup [.str n,.str a,.str b,.int c,.int r,sv]) ∧ 0 ≤ r ∧ r ≤ 1000000 ∧ Q (.int (r * (h - c))) H
theorem oZ (T:Txt K mg C):Fc P w K mg base 1 "coins_to" ["dyke","height"] rH:=by
 refine T.d_p_coins_to.fc xJ iX (fun f cdv A outer s H vs Q E hr h=>?_)
 obtain ⟨x,y,rfl,t,n,a,b,c,r,h,sv,rfl,rfl,o,r0,r1,q⟩:=h
 refine ⟨_,(@aH _ _ _ (@aT _ _ _ _ (@aO _ _ _ _ _ _ _ _ iD (@bG _ _ _ _ _ _ _ (@aQ _ (K) rfl) (pv 0) aE (fun _ _=>rfl)) (@aO _ _ _ _ _ _ _ _ iC (pv 1) (@bG _ _ _ _ _ _ _ (@aQ _ (K) rfl) (pv 0) aE (fun _ _=>rfl)))))),?_⟩
 exact ⟨_,rfl,t,_,4,.int r,rfl,rfl,SqT.of o,aN (j:=4) rfl,_,rfl,_,rfl,t,_,3,.int c,rfl,rfl,SqT.of o,aN (j:=3) rfl,_,_,rfl,rfl,_,_,rfl,rfl,.inl ⟨by omega,by omega⟩,q⟩
theorem aTX {r:Int} (h:amt r = true):0 ≤ r ∧ r ≤ 1000000:=by
 have:=BK.mp h
 exact ⟨of_decide_eq_true this.1,of_decide_eq_true this.2⟩
theorem aBT {zs:List Str} {ds ws:List Dv} (gd:GoodD zs ds) (gw:GoodW ds ws) (lw:ws.length ≤ 1000):eV (.lst ws) = true:=rS (fun d m=>by
  obtain ⟨z,v,rfl,hz,_⟩:=pH (gw.all d m)
  obtain ⟨d',md,rfl⟩:=AR.mp hz
  obtain ⟨n,a,b,c,r,sl,rfl,hn,_⟩:=bV (gd.all d' md)
  have e:=lR hn
  show (decide (2 ≤ 1000) && (decide (n.length ≤ 1000) && (true && true))) = true
  rw [decide_eq_true e]
  rfl) lw
def yD (C:Addr):Sp:=sp2 fun x y H Q=>∃ (p:Addr) (fs ds ws:List Dv),x = .ref p ∧ LandAt C H p fs ds ∧ Is H (.lst ws) y ∧ ws.length ≤ 1000 ∧ GoodW ds ws ∧ Q (.int (aBK ds ws)) H
theorem xP (T:Txt K mg C):Fc P w K mg base 5 "coins_of" ["land","works"] (yD C):=by
 have G_p_are_works:Fc P w K mg base 4 "are_works" ["land","thing"] (aGK C):=vQ T
 have G_p_coins_to:Fc P w K mg base 1 "coins_to" ["dyke","height"] rH:=oZ T
 have G_land_p_dyke:Mc P w K mg base 1 C "dyke" ["self","name"] (uK C):=jU T
 refine T.d_p_coins_of.fcD xK iX (fun f cdv A outer s H vs Q E hr h=>?_)
 obtain ⟨x,y,rfl,p,fs,ds,ws,rfl,L,hw,lw,gw,q⟩:=h
 have big:=bT
 obtain ⟨dx,e1,e2,hx,_⟩:=L.ex
 have no:∀ m:Str,¬ m = "dyke_rows" → ¬ m = "field_rows" → (nK e1 e2).lookup m = none:=fun m h1 h2=>kY _ _ h1 h2
 have gd:=(bZ L).2
 refine ⟨_,(@aG _ _ _ _ _ (@fL _ _ _ _ _ _ _ _ (@eR _ _ _ _ (@eF _ _ _ (@bI _ _ _ _ _ _ _ _ _ _ G_p_are_works (hr.mono (by decide)) (@aA _ _ _ _ _ (pv 0) (@aA _ _ _ _ _ (pv 1) aD (by rfl)) (by rfl)) (by rfl) (by decide) (by rfl) (by rfl)) (by intro _;rfl))) (@aH _ _ _ kW) cL) (@aH _ _ _ (@aT _ _ _ _ (@aU _ _ _ _ _ _ _ _ _ (@aOD _ rfl) rfl T.n_sum aKG (@aA _ _ _ _ _ (@cE _ _ _ _ _ _ _ _ _ _ _ ["work","land"] 1 [0] rfl (@bO _ _ _ _ (pv 1)) (fun R=>@bC _ _ (0) _ (show Ay (["work","land"]:List Str) by decide +kernel) rfl (Or.inl rfl) (by trivial)) (@aZ _ _ (by decide)) (fun R=>cC) (fun R=>(@bI _ _ _ _ _ _ _ _ _ _ G_p_coins_to (hr.mono (by decide)) (@aA _ _ _ _ _ (@aPU _ _ _ _ _ _ _ _ _ _ _ _ _ _ T.cl_Land G_land_p_dyke (hr.mono (by decide)) (pv 1) (@aA _ _ _ _ _ (@bG _ _ _ _ _ _ _ (@aQ _ (K) rfl) (pv 0) aE (fun _ _=>rfl)) aD (by rfl)) (by rfl) (by rfl) (by rfl)) (@aA _ _ _ _ _ (@bG _ _ _ _ _ _ _ (@aQ _ (K) rfl) (pv 0) aE (fun _ _=>rfl)) aD (by rfl)) (by rfl)) (by rfl) (by decide) (by rfl) (by rfl))) (by rfl) (by rfl) (by rfl) (by rfl) (by rfl) (by rfl) (by rfl) (by intro _;rfl)) aD (by rfl)) (by decide) (by decide) (by rfl) (by rfl))))),?_⟩
 refine ⟨_,rfl,_,rfl,_,_,rfl,p,fs,ds,.lst ws,rfl,L,hw,aBT gd gw lw,_,rfl,?_⟩
 rw [(aJT ds ws).mpr gw]
 refine bS ?_
 obtain ⟨a,us,rfl,ho,hi⟩:=hw
 have lu:=hi.length
 refine ⟨_,rfl,a,rfl,⟨_,SqL.of ho⟩,?_⟩
 refine bM (F:=K) (xs:=us) (by omega) (fun i ys H'=>H' = H ∧ ys = ((ws.take i).map (aDU ds)).map V.int) ⟨rfl,rfl⟩ ?_ ?_ ?_
 ·rintro i ys H' hi' ⟨rfl,rfl⟩
  exact ⟨SqL.of ho,by rw [AA,AA,Ac];omega⟩
 ·rintro i x ys H' K1 K2 hx' ⟨rfl,rfl⟩ k1 k2
  have hil:i < us.length:=(AC.mp hx').1
  obtain ⟨d,ed⟩:∃ d,ws[i]? = some d:=⟨_,AB (by omega)⟩
  obtain ⟨v,ev,iv⟩:=hi.get ed
  rw [hx'] at ev
  cases ev
  obtain ⟨z,h,rfl,mz,_⟩:=pH (gw.all d (AN ed))
  obtain ⟨d',md,rfl⟩:=AR.mp mz
  obtain ⟨t,rfl,o⟩:=aKK iv
  have ec:=wU gd.nd md
  have er:=aHB gd.nd md
  refine ⟨_,rfl,p,dx,_,rfl,hx,no _ (by decide +kernel) (by decide +kernel),_,rfl,t,_,0,_,rfl,rfl,SqT.of o,aN (j:=0) rfl,_,_,rfl,p,fs,ds,d',rfl,rfl,L,md,fun v1 iv1=>?_⟩
  obtain ⟨n,a',b',c,r,sl,rfl,_,_,_,_,_,hr',_⟩:=bV (gd.all d' md)
  obtain ⟨t',sv,rfl,o',_⟩:=lH iv1
  obtain ⟨r0,r1⟩:=aTX hr'
  refine ⟨_,rfl,t,_,1,.int h,rfl,rfl,SqT.of o,aN (j:=1) rfl,_,_,rfl,t',n,a',b',c,r,h,sv,rfl,rfl,o',r0,r1,k1 _ _ ⟨rfl,?_⟩⟩
  rw [Ab,ed,AX,AX]
  have e:aDU ds (.tup [.str n,.int h]) = r * (h - c):=by
   show vG ds n * (h - hZ ds n) = _
   rw [show hZ ds n = c from ec,show vG ds n = r from er]
  show _ ++ [V.int _] = _ ++ [V.int (aDU ds (.tup [.str n,.int h]))]
  rw [e]
 ·rintro ys H' ⟨rfl,rfl⟩
  intro p1 hp1
  rw [AH (by omega)] at *
  exact ⟨p1,_,rfl,SqL.of aF,cU.of (iA.lst hp1) q⟩
open Mt22 MtF
theorem aTC {zs:List Str} {n:Int} (h1:1 ≤ zs.length) (h2:(zs.length:Int) ≤ n):aMQ n (.lst (zs.map Dv.str)) = true:=by
 unfold aMQ
 simp only [AA]
 rw [decide_eq_true (by omega),decide_eq_true (by omega)]
 rfl
def aKY (C:Addr):Sp:=sp2 fun x y H Q=>∃ (p l:Addr) (fs ds:List Dv) (zs:List Str),x = .ref p ∧ LandAt C H p fs ds ∧ y = .ref l ∧ H l = some (.lst (zs.map V.str)) ∧ 1 ≤ zs.length ∧ zs.Nodup ∧ (∀ z ∈ zs,z ∈ fs.map bA) ∧ ∀ H',aI H H' → Q (.bl true) H'
theorem nE (T:Txt K mg C):Fc P w K mg base 2 "are_some_fields" ["land","thing"] (aKY C):=by
 have G_land_p_field_names:Mc P w K mg base 1 C "field_names" ["self"] (aEI C fun fs _=>fs.map bA):=mH T
 have G_p_is_list_of:Fc P w K mg base 1 "is_list_of" ["thing","most"] qA:=iW T
 have G_p_is_one_of:Fc P w K mg base 1 "is_one_of" ["thing","names"] (uJ K):=jT T
 refine T.d_p_are_some_fields.fc iL iX (fun f cdv A outer s H vs Q E hr h=>?_)
 obtain ⟨x,y,rfl,p,l,fs,ds,zs,rfl,L,rfl,hl,l1,nd,sub,q⟩:=h
 have big:=bT
 have gf:=(bZ L).1
 have f2:=gf.l2
 have lz:zs.length ≤ fs.length:=by
  have:=wB nd sub
  rw [AA] at this
  exact this
 obtain ⟨dx,d1,d2,hx,_⟩:=L.ex
 refine ⟨_,(@aG _ _ _ _ _ (@aW _ _ (2) _ _ _ _ iL.nd rfl (Or.inr rfl) (@aMI _ _ _ _ _ _ _ _ _ _ _ T.cl_Land G_land_p_field_names (hr.mono (by decide)) (pv 0) (by rfl)) (by rfl) (by trivial)) (@aG _ _ _ _ _ (@fL _ _ _ _ _ _ _ _ (@PW.pt _ _ _ (@qH _ _ _ _ _ _ _ (@eR _ _ _ _ (@eF _ _ _ (@bI _ _ _ _ _ _ _ _ _ _ G_p_is_list_of (hr.mono (by decide)) (@aA _ _ _ _ _ (pv 1) (@aA _ _ _ _ _ (@aU _ _ _ _ _ _ _ _ _ (@bE _ (K) rfl) rfl T.n_len bN (@aA _ _ _ _ _ (pv 2) aD (by rfl)) (by decide) (by decide) (by rfl) (by rfl)) aD (by rfl)) (by rfl)) (by rfl) (by decide) (by rfl) (by rfl)) (by intro _;rfl))) (@mX _ _ _ _ (@eR _ _ _ _ (@eF _ _ _ (@aU _ _ _ _ _ _ _ _ _ (@nW _ rfl) rfl T.n_all lK (@aA _ _ _ _ _ (@cE _ _ _ _ _ _ _ _ _ _ _ ["name","names"] 1 [2] rfl (@bO _ _ _ _ (pv 1)) (fun R=>@bC _ _ (0) _ (show Ay (["name","names"]:List Str) by decide +kernel) rfl (Or.inl rfl) (by trivial)) (@aZ _ _ (by decide)) (fun R=>cC) (fun R=>(@bI _ _ _ _ _ _ _ _ _ _ G_p_is_one_of (hr.mono (by decide)) (@aA _ _ _ _ _ (pv 0) (@aA _ _ _ _ _ (pv 1) aD (by rfl)) (by rfl)) (by rfl) (by decide) (by rfl) (by rfl))) (by rfl) (by rfl) (by rfl) (by rfl) (by rfl) (by rfl) (by rfl) (by intro _;rfl)) aD (by rfl)) (by decide) (by decide) (by rfl) (by rfl)) (by intro _;rfl)))))) (@aH _ _ _ (@aT _ _ _ _ qJ)) cL) (@aH _ _ _ (@aT _ _ _ _ (@dQ _ _ _ _ _ _ _ _ oX (@aU _ _ _ _ _ _ _ _ _ call_len_set rfl T.n_len bN (@aA _ _ _ _ _ (@cJ _ _ _ _ _ _ _ _ _ (@pF _ rfl) rfl T.n_set zL (@aA _ _ _ _ _ (pv 1) aD (by rfl)) (by decide) (by decide) (by rfl) (by rfl)) aD (by rfl)) (by decide) (by decide) (by rfl) (by rfl)) (@aU _ _ _ _ _ _ _ _ _ (@bE _ (K) rfl) rfl T.n_len bN (@aA _ _ _ _ _ (pv 1) aD (by rfl)) (by decide) (by decide) (by rfl) (by rfl)) (@bY _ _ (by decide) (by decide))))))),?_⟩
 refine ⟨_,rfl,p,dx,_,rfl,hx,kY _ _ (by decide +kernel) (by decide +kernel),_,rfl,p,fs,ds,rfl,L,fun ln H1 S1 fln hln=>?_⟩
 have hl1:=S1 _ _ hl
 refine ⟨_,rfl,_,rfl,ln,_,rfl,.inl (SqL.of hln),_,_,rfl,.lst (zs.map Dv.str),_,aOV hl1,rfl,_,rfl,?_⟩
 rw [aTC l1 (by rw [AA,AA];omega)]
 refine bS ?_
 refine ⟨_,rfl,l,rfl,⟨_,SqL.of hl1⟩,?_⟩
 refine bM (F:=K) (xs:=zs.map V.str) (by rw [AA];omega) (fun i ys H'=>H1 = H' ∧ ys = (zs.take i).map fun z=>V.bl true) ⟨rfl,rfl⟩ ?_ ?_ ?_
 ·rintro i ys H' hi' ⟨rfl,rfl⟩
  exact ⟨SqL.of hl1,by rw [AA,Ac];omega⟩
 ·rintro i xv ys H' K1 K2 hx ⟨rfl,rfl⟩ k1 k2
  obtain ⟨z,ez⟩:∃ z,zs[i]? = some z:=by
   have:=(AC.mp hx).1
   rw [AA] at this
   exact ⟨_,AB this⟩
  rw [AK,ez] at hx
  cases hx
  refine ⟨_,rfl,_,rfl,_,_,rfl,.str z,ln,_,rfl,rfl,SqL.of hln,?_⟩
  rw [show qM (fs.map bA) (.str z) = true from decide_eq_true (sub z (AN ez))]
  refine k1 _ _ ⟨rfl,?_⟩
  rw [Ab,ez,AX]
  rfl
 rintro ys H' ⟨rfl,rfl⟩
 rw [AA,AH (AQ _)]
 intro p4 hp4
 have S4:=aI.upd (o:=.lst (zs.map fun z=>V.bl true)) hp4
 refine ⟨p4,zs.map fun _=>true,rfl,SqL.of ?_,_,rfl,?_⟩
 ·rw [aF,Ao]
  rfl
 rw [show (zs.map fun _=>true).all id = true from BA.mpr fun b m=>by obtain ⟨z,_,rfl⟩:=AR.mp m;rfl]
 refine bS ?_
 have hl4:=S4 _ _ hl1
 refine ⟨_,rfl,l,zs.map Sum.inr,rfl,SqL.of (by rw [hl4,aHK]),by rw [AA];omega,fun p5 hp5=>?_⟩
 have hle:=aHZ (zs.map (Sum.inr:Str → Key))
 rw [AA] at hle
 refine ⟨p5,_,_,rfl,aF,by omega,_,rfl,l,zs.map V.str,rfl,.inl (SqL.of (by rw [aK (aY hl4 hp5)];exact hl4)),rfl,?_⟩
 have e:decide (V.int ((wT (zs.map (Sum.inr:Str → Key))).length:Int) = V.int ((zs.map V.str).length:Int)) = true:=by
  rw [jD,AA,(zD _).mpr ((iF zs).mpr nd),AA]
  first | exact decide_eq_true rfl | exact beq_self_eq_true _
 rw [e]
 exact q _ (S1.trans (S4.trans (aI.upd hp5)))
def uR (C:Addr):Sp:=sp3 fun x y u H Q=>∃ (p l:Addr) (fs ds:List Dv) (zs:List Str) (L:Int),x = .ref p ∧ LandAt C H p fs ds ∧ y = .ref l ∧ H l = some (.lst (zs.map V.str)) ∧ 1 ≤ zs.length ∧ zs.Nodup ∧ (∀ z ∈ zs,z ∈ fs.map bA) ∧ u = .int L ∧ hgt L = true ∧ ∀ H',aI H H' → Q .non H'
theorem mC (T:Txt K mg C):Fc P w K mg base 3 "check_wish" ["land","fields","height"] (uR C):=by
 have G_p_are_some_fields:Fc P w K mg base 2 "are_some_fields" ["land","thing"] (aKY C):=nE T
 have G_p_is_height:Fc P w K mg base 2 "is_height" ["thing"] jI:=dW T
 refine T.d_p_check_wish.fc tS pQ (fun f cdv A outer s H vs Q E hr h=>?_)
 obtain ⟨x,y,u,rfl,p,l,fs,ds,zs,lv,rfl,L,rfl,hl,l1,nd,sub,rfl,hL,q⟩:=h
 refine ⟨_,(@aH _ _ _ (@fL _ _ _ _ _ _ _ _ (@PW.pt _ _ _ (@qH _ _ _ _ _ _ _ (@eR _ _ _ _ (@eF _ _ _ (@bI _ _ _ _ _ _ _ _ _ _ G_p_are_some_fields (hr.mono (by decide)) (@aA _ _ _ _ _ (pv 0) (@aA _ _ _ _ _ (pv 1) aD (by rfl)) (by rfl)) (by rfl) (by decide) (by rfl) (by rfl)) (by intro _;rfl))) (@mX _ _ _ _ (@eR _ _ _ _ (@eF _ _ _ (@bI _ _ _ _ _ _ _ _ _ _ G_p_is_height (hr.mono (by decide)) (@aA _ _ _ _ _ (pv 2) aD (by rfl)) (by rfl) (by decide) (by rfl) (by rfl)) (by intro _;rfl)))))) (@aH _ _ _ kW) cL)),?_⟩
 refine ⟨_,rfl,_,rfl,_,_,rfl,p,l,fs,ds,zs,rfl,L,rfl,hl,l1,nd,sub,fun H1 S1=>⟨_,rfl,bS ?_⟩⟩
 refine ⟨_,rfl,_,rfl,.int lv,rfl,_,rfl,?_⟩
 rw [show gB (.int lv) = true from hL]
 exact bS (q H1 S1)
open Mt53 Mt22 MtF Mt31 Mt61
def uA (fs:List Dv) (L:Int) (z:Str):Bool:=decide (z = "sea") || decide (qV fs z < L)
def gOf (L:Int):Dv → Gap
 | .tup [.str n,.str a,.str b,.int c,.int r,_]=>⟨n,a,b,r * (L - c)⟩
 | _=>⟨"","","",0⟩
def isG (fs:List Dv) (L:Int):Dv → Bool
 | .tup [.str _,.str a,.str b,.int c,.int _,_]=>decide (c < L) && (uA fs L a && uA fs L b)
 | _=>false
def aP (fs ds:List Dv) (L:Int):List Gap:=(ds.filter (isG fs L)).map (gOf L)
def dN (G:List Gap):List (Key × V):=G.map fun g=>(Sum.inr g.nm,V.int g.cap)
theorem aNG {zs:List Str} {d:Dv} (h:dE zs d = true) (L:Int):(gOf L d).nm = bA d:=by
 obtain ⟨n,a,b,c,r,s,rfl,_⟩:=bV h
 rfl
theorem lX {fs ds:List Dv} (gf:GoodF fs) (gd:GoodD ("sea" :: fs.map bA) ds) (L:Int):Gaps ("sea" :: fs.map bA) (aP fs ds L):=by
 have mem:∀ g ∈ aP fs ds L,∃ d ∈ ds,isG fs L d = true ∧ g = gOf L d:=fun g m=>by
  obtain ⟨d,md,rfl⟩:=AR.mp m
  rw [Am] at md
  exact ⟨d,md.1,md.2,rfl⟩
 refine ⟨?_,fun g m=>?_,fun g m=>?_,?_,AU⟩
 ·have e:(aP fs ds L).map (·.nm) = (ds.filter (isG fs L)).map bA:=by
   unfold aP
   rw [Ao]
   refine BZ fun d md=>?_
   exact aNG (gd.all d (Am.mp md).1) L
  rw [e]
  exact CZ (List.Sublist.map _ Cb) gd.nd
 ·obtain ⟨d,md,_,rfl⟩:=mem g m
  obtain ⟨n,a,b,c,r,s,rfl,_,ha,hb,hab,_⟩:=bV (gd.all d md)
  exact ⟨ha,hb,hab⟩
 ·obtain ⟨d,md,hg,rfl⟩:=mem g m
  obtain ⟨n,a,b,c,r,s,rfl,_,ha,hb,hab,hc,hr,_⟩:=bV (gd.all d md)
  have h1:c < L:=of_decide_eq_true (BK.mp (show (decide (c < L) && (uA fs L a && uA fs L b)) = true from hg)).1
  have h2:0 ≤ r:=by
   have:=BK.mp (show (decide (0 ≤ r) && decide (r ≤ 1000000)) = true from hr)
   exact of_decide_eq_true this.1
  show 0 ≤ r * (L - c)
  exact FM h2 (by omega)
 ·rw [Ak]
  refine ⟨fun m=>?_,gf.nd⟩
  obtain ⟨d,md,e⟩:=AR.mp m
  obtain ⟨z,g,u,rfl,hz,_⟩:=cB (gf.all d md)
  exact aAG hz e
def aRI (C:Addr):Sp:=sp3 fun x y u H Q=>∃ (p:Addr) (fs ds:List Dv) (z:Str) (L:Int),x = .ref p ∧ LandAt C H p fs ds ∧ y = .str z ∧ z ∈ (("sea":Str) :: fs.map bA) ∧ u = .int L ∧ Q (.bl (uA fs L z)) H
theorem aCX (T:Txt K mg C):Fc P w K mg base 2 "is_low" ["land","side","height"] (aRI C):=by
 have G_land_p_ground:Mc P w K mg base 1 C "ground" ["self","field"] (aCC C):=rO T
 refine T.d_p_is_low.fc aCJ pQ (fun f cdv A outer s H vs Q E hr h=>?_)
 obtain ⟨x,y,u,rfl,p,fs,ds,z,lv,rfl,L,rfl,mz,rfl,q⟩:=h
 obtain ⟨dx,d1,d2,hx,_⟩:=L.ex
 have gf:=(bZ L).1
 refine ⟨_,(@aH _ _ _ (@aT _ _ _ _ (@aRQ _ _ _ _ _ _ _ (@dQ _ _ _ _ _ _ _ _ oX (pv 1) (@tV _ _ _ _ T.g_SEA (by rfl) (by decide)) (@bY _ _ (by decide) (by decide))) (@eG _ _ _ _ _ (@dQ _ _ _ _ _ _ _ _ yN (@aPU _ _ _ _ _ _ _ _ _ _ _ _ _ _ T.cl_Land G_land_p_ground (hr.mono (by decide)) (pv 0) (@aA _ _ _ _ _ (pv 1) aD (by rfl)) (by rfl) (by rfl) (by rfl)) (pv 2) (@bY _ _ (by decide) (by decide))))))),?_⟩
 refine ⟨_,rfl,rfl,?_⟩
 by_cases hz:z = "sea"
 ·subst hz
  rw [decide_eq_true rfl]
  exact ⟨_,rfl,dD q⟩
 ·rw [decide_eq_false (fun c=>hz (V.str.inj c))]
  have mf:z ∈ fs.map bA:=by
   rcases Af.mp mz with h | h
   ·exact absurd h hz
   ·exact h
  obtain ⟨d,md,e⟩:=AR.mp mf
  obtain ⟨z',g,u,rfl,hz',_⟩:=cB (gf.all d md)
  have e':z' = z:=e
  subst e'
  have eg:qV fs z' = g:=aJS gf.nd md
  refine ⟨_,rfl,bS ?_⟩
  refine ⟨_,rfl,p,dx,_,rfl,hx,kY _ _ (by decide +kernel) (by decide +kernel),_,rfl,_,_,rfl,p,fs,ds,z',g,u,rfl,rfl,L,md,_,rfl,_,_,rfl,rfl,?_⟩
  have:uA fs lv z' = decide (g < lv):=by
   unfold uA
   rw [decide_eq_false hz,eg]
   rfl
  show Q (V.bl (decide (g < lv))) H
  rw [← this]
  exact q
def aRJ (C:Addr):Sp:=sp3 fun x y u H Q=>∃ (p:Addr) (fs ds:List Dv) (d:Dv) (L:Int),x = .ref p ∧ LandAt C H p fs ds ∧ Is H d y ∧ d ∈ ds ∧ u = .int L ∧ Q (.bl (isG fs L d)) H
theorem aCY (T:Txt K mg C):Fc P w K mg base 3 "is_gap" ["land","dyke","height"] (aRJ C):=by
 have G_p_is_low:Fc P w K mg base 2 "is_low" ["land","side","height"] (aRI C):=aCX T
 refine T.d_p_is_gap.fc aCK pQ (fun f cdv A outer s H vs Q E hr h=>?_)
 obtain ⟨x,y,u,rfl,p,fs,ds,d,lv,rfl,L,hd,md,rfl,q⟩:=h
 have gd:=(bZ L).2
 obtain ⟨n,a,b,c,r,sl,rfl,_,ha,hb,hab,hc,hr',_⟩:=bV (gd.all d md)
 obtain ⟨t,sv,rfl,o,isv⟩:=lH hd
 refine ⟨_,(@aH _ _ _ (@aT _ _ _ _ (@dB _ _ _ _ _ _ _ (@dQ _ _ _ _ _ _ _ _ yN (@bG _ _ _ _ _ _ _ (@aQ _ (K) rfl) (pv 1) aE (fun _ _=>rfl)) (pv 2) (@bY _ _ (by decide) (by decide))) (@dB _ _ _ _ _ _ _ (@bI _ _ _ _ _ _ _ _ _ _ G_p_is_low (hr.mono (by decide)) (@aA _ _ _ _ _ (pv 0) (@aA _ _ _ _ _ (@bG _ _ _ _ _ _ _ (@aQ _ (K) rfl) (pv 1) aE (fun _ _=>rfl)) (@aA _ _ _ _ _ (pv 2) aD (by rfl)) (by rfl)) (by rfl)) (by rfl) (by decide) (by rfl) (by rfl)) (@eG _ _ _ _ _ (@bI _ _ _ _ _ _ _ _ _ _ G_p_is_low (hr.mono (by decide)) (@aA _ _ _ _ _ (pv 0) (@aA _ _ _ _ _ (@bG _ _ _ _ _ _ _ (@aQ _ (K) rfl) (pv 1) aE (fun _ _=>rfl)) (@aA _ _ _ _ _ (pv 2) aD (by rfl)) (by rfl)) (by rfl)) (by rfl) (by decide) (by rfl) (by rfl))))))),?_⟩
 refine ⟨_,rfl,t,_,3,.int c,rfl,rfl,SqT.of o,aN (j:=3) rfl,_,rfl,_,_,rfl,rfl,?_⟩
 have q:Q (.bl (decide (c < lv) && (uA fs lv a && uA fs lv b))) H:=q
 refine ⟨_,rfl,?_⟩
 cases h1:decide (c < lv) with
 | false =>
  rw [h1] at q
  exact bS q
 | true =>
  rw [h1] at q
  refine dD ?_
  refine ⟨_,rfl,_,rfl,t,_,1,.str a,rfl,rfl,SqT.of o,aN (j:=1) rfl,_,rfl,_,_,_,rfl,p,fs,ds,a,lv,rfl,L,rfl,ha,rfl,?_⟩
  refine ⟨_,rfl,?_⟩
  cases h2:uA fs lv a with
  | false =>
   rw [h2] at q
   exact bS q
  | true =>
   rw [h2] at q
   refine dD ?_
   exact ⟨_,rfl,_,rfl,t,_,2,.str b,rfl,rfl,SqT.of o,aN (j:=2) rfl,_,rfl,_,_,_,rfl,p,fs,ds,b,lv,rfl,L,rfl,hb,rfl,q⟩
theorem lD (G:List Gap):(dN G).length = G.length:=AA _
theorem aFN (G:List Gap):(dN G).map (·.1) = (G.map (·.nm)).map Sum.inr:=by
 unfold dN
 rw [Ao,Ao]
 rfl
theorem qW (fs ds:List Dv) (L:Int):(aP fs ds L).length ≤ ds.length:=by
 unfold aP
 rw [AA]
 exact BP _ _
def aLD (C:Addr):Sp:=sp2 fun x y H Q=>∃ (p:Addr) (fs ds:List Dv) (L:Int),x = .ref p ∧ LandAt C H p fs ds ∧ y = .int L ∧ ∀ (cd:Addr) (H':Hp),aI H H' → H cd = none → H' cd = some (.dK (dN (aP fs ds L))) → Q (.ref cd) H'
theorem vO (T:Txt K mg C):Fc P w K mg base 4 "gap_coins" ["land","height"] (aLD C):=by
 have G_p_is_gap:Fc P w K mg base 3 "is_gap" ["land","dyke","height"] (aRJ C):=aCY T
 have G_p_coins_to:Fc P w K mg base 1 "coins_to" ["dyke","height"] rH:=oZ T
 have G_land_p_dykes:Mc P w K mg base 1 C "dykes" ["self"] (aEJ C fun _ ds=>ds):=tY T
 refine T.d_p_gap_coins.fc vA iX (fun f cdv A outer s H vs Q E hr h=>?_)
 obtain ⟨x,y,rfl,p,fs,ds,lv,rfl,L,rfl,q⟩:=h
 have big:=bT
 have gf:=(bZ L).1
 have gd:=(bZ L).2
 have d2:=gd.l2
 have GG:=lX gf gd lv
 have gl:=qW fs ds lv
 obtain ⟨dx,d1,d2',hx,_⟩:=L.ex
 refine ⟨_,(@aH _ _ _ (@aT _ _ _ _ (@cJ _ _ _ _ _ _ _ _ _ (@dJ _ rfl) rfl T.n_dict gK (@aA _ _ _ _ _ (@cE _ _ _ _ _ _ _ _ _ _ _ ["dyke","land","height"] 1 [0,1] rfl (@bO _ _ _ _ (@aMI _ _ _ _ _ _ _ _ _ _ _ T.cl_Land G_land_p_dykes (hr.mono (by decide)) (pv 0) (by rfl))) (fun R=>@bC _ _ (0) _ (show Ay (["dyke","land","height"]:List Str) by decide +kernel) rfl (Or.inl rfl) (by trivial)) (@aZ _ _ (by decide)) (fun R=>@fF _ _ _ (@eF _ _ _ (@bI _ _ _ _ _ _ _ _ _ _ G_p_is_gap (hr.mono (by decide)) (@aA _ _ _ _ _ (pv 1) (@aA _ _ _ _ _ (pv 0) (@aA _ _ _ _ _ (pv 2) aD (by rfl)) (by rfl)) (by rfl)) (by rfl) (by decide) (by rfl) (by rfl)) (by intro _;rfl))) (fun R=>(@dS _ _ _ _ _ (@aA _ _ _ _ _ (@bG _ _ _ _ _ _ _ (@aQ _ (K) rfl) (pv 0) aE (fun _ _=>rfl)) (@aA _ _ _ _ _ (@bI _ _ _ _ _ _ _ _ _ _ G_p_coins_to (hr.mono (by decide)) (@aA _ _ _ _ _ (pv 0) (@aA _ _ _ _ _ (pv 2) aD (by rfl)) (by rfl)) (by rfl) (by decide) (by rfl) (by rfl)) aD (by rfl)) (by rfl)))) (by rfl) (by rfl) (by rfl) (by rfl) (by rfl) (by rfl) (by rfl) (by intro _;rfl)) aD (by rfl)) (by decide) (by decide) (by rfl) (by rfl)))),?_⟩
 refine ⟨_,rfl,p,dx,_,rfl,hx,kY _ _ (by decide +kernel) (by decide +kernel),_,rfl,p,fs,ds,rfl,L,fun lb vb H2 S2 flb hlb hib=>?_⟩
 have lvb:vb.length = ds.length:=hib.length
 refine ⟨lb,rfl,⟨_,SqL.of hlb⟩,?_⟩
 refine bM (F:=K) (xs:=vb) (by omega) (fun i ys H'=>aI H2 H' ∧ bP H' ys (dN (aP fs (ds.take i) lv))) ⟨aI.refl _,bP.nil _⟩ ?_ ?_ ?_
 ·rintro i ys H' hi' ⟨S',pa⟩
  have:=pa.len
  have:=qW fs (ds.take i) lv
  rw [lD] at *
  rw [Ac] at this
  exact ⟨SqL.of (S' _ _ hlb),by omega⟩
 ·rintro i xv ys H' K1 K2 hx' ⟨S',pa⟩ k1 k2
  have hil:i < vb.length:=(AC.mp hx').1
  obtain ⟨d,ed⟩:∃ d,ds[i]? = some d:=⟨_,AB (by omega)⟩
  obtain ⟨v,ev,iv⟩:=hib.get ed
  rw [hx'] at ev
  cases ev
  have md:=AN ed
  have iv':=Is.same S' _ _ iv
  refine ⟨_,rfl,_,rfl,_,rfl,_,_,_,rfl,p,fs,ds,d,lv,rfl,L.same (S2.trans S'),iv',md,rfl,_,rfl,?_⟩
  have et:aP fs (ds.take (i + 1)) lv = aP fs (ds.take i) lv ++ (if isG fs lv d = true then [gOf lv d] else []):=by
   unfold aP
   rw [Ab,ed,Bt,AX]
   cases h:isG fs lv d <;> simp [h]
  cases hg:isG fs lv d with
  | false =>
   rw [hg] at et
   refine bS (k2 _ ⟨S',?_⟩)
   rw [et]
   simpa using pa
  | true =>
   rw [hg] at et
   refine dD ?_
   obtain ⟨n,a,b,c,r,sl,rfl,_,ha,hb,hab,hc,hr',_⟩:=bV (gd.all d md)
   obtain ⟨t,sv,rfl,o,isv⟩:=lH iv'
   have h2:=BK.mp (show (decide (0 ≤ r) && decide (r ≤ 1000000)) = true from hr')
   refine ⟨_,rfl,t,_,0,.str n,rfl,rfl,SqT.of o,aN (j:=0) rfl,_,rfl,_,rfl,_,_,rfl,t,n,a,b,c,r,lv,sv,rfl,rfl,o,of_decide_eq_true h2.1,of_decide_eq_true h2.2,bB rfl,fun p3 hp3=>k1 _ _ ⟨S'.trans (aI.upd hp3),?_⟩⟩
   rw [et]
   have e2:dN (aP fs (ds.take i) lv ++ [gOf lv (.tup [.str n,.str a,.str b,.int c,.int r,sl])]) = dN (aP fs (ds.take i) lv) ++ [(Sum.inr n,V.int (r * (lv - c)))]:=by
    unfold dN
    rw [AX]
    rfl
   rw [if_pos rfl,e2]
   exact bP.snoc (k:=Sum.inr n) pa hp3
 rintro ys H3 ⟨S3,pa⟩
 rw [AH (by omega)] at pa
 intro p4 hp4
 have S4:=aI.upd (o:=.lst ys) hp4
 refine ⟨p4,ys,dN (aP fs ds lv),rfl,SqL.of aF,pa.same S4,by rw [lD];omega,by rw [aFN];exact (iF _).mpr GG.nd,fun cd hcd=>?_⟩
 have T4:=S2.trans (S3.trans S4)
 exact q cd _ (T4.trans (aI.upd hcd)) (T4.free hcd) aF
open Mt22 MtF
theorem aFV {zs:List Str} {d:Dv} (h:dE zs d = true):xU d = true:=by
 obtain ⟨n,a,b,c,r,s,rfl,_,_,_,_,_,_,hs⟩:=bV h
 cases s with
 | non=>rfl
 | int i=>rfl
 | _=>cases hs
theorem gL (s:Mt22.St):xU (bQ s) = true:=rfl
open Mt22 MtF
theorem aGI {H:Hp} {d d1:Addr} {fs:List Dv} {kvs:List (Key × V)} {o:Obj} (h:rD H d1 fs) (hd:H d = some (.dK kvs)) (nr:∀ v ∈ kvs.map (·.2),∀ a,v ≠ .ref a) (l1:1 ≤ fs.length) (ht:∀ f ∈ fs,∃ us,f = .tup us) (hh:zA fs = true):rD (upd H d (.frz o (.dK kvs))) d1 fs:=by
 obtain ⟨kv1,e,k,i⟩:=h
 have nd:d1 ≠ d:=fun c=>by
  rw [c,hd] at e
  cases e
  cases fs with
  | nil=>exact absurd l1 (by decide)
  | cons f fs =>
   obtain ⟨us,rfl⟩:=ht f AU
   obtain ⟨v,r,ev,⟨a,w,ea,_⟩,_⟩:=i
   exact nr v (by rw [ev];exact AU) a ea
 refine ⟨kv1,by rw [aK nd];exact e,k,IsL.keep (fun b xs hb=>?_) fs _ hh i⟩
 rw [aK (fun c=>by rw [c,hd] at hb;cases hb)]
 exact hb
theorem aMT {H:Hp} {x d:Addr} {fs ds:List Dv} {kvs:List (Key × V)} {o:Obj} (L:LandAt C H x fs ds) (hd:H d = some (.dK kvs)) (nr:∀ v ∈ kvs.map (·.2),∀ a,v ≠ .ref a):LandAt C (upd H d (.frz o (.dK kvs))) x fs ds:=by
 obtain ⟨gf,gd⟩:=bZ L
 obtain ⟨⟨dx,d1,d2,e,t1,t2⟩,a,b⟩:=L
 refine ⟨⟨dx,d1,d2,by rw [aK (fun c=>by rw [c,hd] at e;cases e)];exact e,aGI t1 hd nr gf.l1 (fun f m=>?_) (gC fun f m=>?_),aGI t2 hd nr gd.l1 (fun f m=>?_) (gC fun d m=>aFV (gd.all d m))⟩,a,b⟩
 ·obtain ⟨z,g,e,rfl,_⟩:=cB (gf.all f m)
  exact ⟨_,rfl⟩
 ·obtain ⟨z,g,e,rfl,_⟩:=cB (gf.all f m)
  rfl
 ·obtain ⟨n,a,b,c,r,s,rfl,_⟩:=bV (gd.all f m)
  exact ⟨_,rfl⟩
open Mt53 Mt22 MtF Mt31 Mt61
theorem aDN {fs ds:List Dv} {L:Int} {zs:List Str} (gd:GoodD zs ds) {g:Gap} (m:g ∈ aP fs ds L):∃ d ∈ ds,isG fs L d = true ∧ g = gOf L d ∧ bA d = g.nm:=by
 obtain ⟨d,md,rfl⟩:=AR.mp m
 rw [Am] at md
 exact ⟨d,md.1,md.2,rfl,(aNG (gd.all d md.1) L).symm⟩
theorem oH (G:List Gap):(Mt61.stepsOf G).length = 2 * G.length:=by
 unfold Mt61.stepsOf
 induction G with
 | nil=>rfl
 | cons g G ih =>
  rw [Di,Ai,ih]
  show 2 + 2 * G.length = 2 * (G.length + 1)
  omega
theorem yB {H:Hp} {t:Addr} {s:Mt22.St} (h:H t = some (.tup [.str s.nm,.str s.near,.str s.far,.int s.h])):Is H (bQ s) (.ref t):=⟨t,_,rfl,h,_,_,rfl,rfl,_,_,rfl,rfl,_,_,rfl,rfl,_,_,rfl,rfl,rfl⟩
def aCA (C:Addr):Sp:=sp2 fun x y H Q=>∃ (p d:Addr) (fs ds:List Dv) (L:Int),x = .ref p ∧ LandAt C H p fs ds ∧ y = .ref d ∧ H d = some (.dK (dN (aP fs ds L))) ∧ ∀ (o:Obj) (l:Addr) (us:List V) (H':Hp),aI (upd H d (.frz o (.dK (dN (aP fs ds L))))) H' → H l = none → H' l = some (.lst us) → IsL H' ((Mt61.stepsOf (aP fs ds L)).map bQ) us → Q (.ref l) H'
theorem tW (T:Txt K mg C):Fc P w K mg base 2 "steps_over" ["land","names"] (aCA C):=by
 have G_land_p_dyke:Mc P w K mg base 1 C "dyke" ["self","name"] (uK C):=jU T
 refine T.d_p_steps_over.fc gE iX (fun f cdv A outer s H vs Q E hr h=>?_)
 obtain ⟨x,y,rfl,p,d,fs,ds,lv,rfl,L,rfl,hd,q⟩:=h
 have big:=bT
 have gf:=(bZ L).1
 have gd:=(bZ L).2
 have d2:=gd.l2
 have GG:=lX gf gd lv
 have gl:=qW fs ds lv
 refine ⟨_,(@aG _ _ _ _ _ (@aW _ _ (2) _ _ _ _ gE.nd rfl (Or.inl rfl) (@dU _ _ _ _ aD) (by rfl) (by trivial)) (@aG _ _ _ _ _ (@hU _ _ _ _ _ _ _ _ BJ rfl (@aAQ _ _ _ _ (pv 1)) (@bC _ _ (3) _ gE.nd rfl (Or.inl rfl) (by trivial)) (@aG _ _ _ _ _ (@aW _ _ (4) _ _ _ _ gE.nd rfl (Or.inl rfl) (@aPU _ _ _ _ _ _ _ _ _ _ _ _ _ _ T.cl_Land G_land_p_dyke (hr.mono (by decide)) (pv 0) (@aA _ _ _ _ _ (pv 3) aD (by rfl)) (by rfl) (by rfl) (by rfl)) (by rfl) (by trivial)) (@aG _ _ _ _ _ (@hV _ _ _ _ (@mB _ _ _ _ _ _ _ _ _ _ _ _ BM BV BU fK (pv 2) (@aA _ _ _ _ _ (@dS _ _ _ _ _ (@aA _ _ _ _ _ (pv 3) (@aA _ _ _ _ _ (@bG _ _ _ _ _ _ _ (@aQ _ (K) rfl) (pv 4) aE (fun _ _=>rfl)) (@aA _ _ _ _ _ (@bG _ _ _ _ _ _ _ (@aQ _ (K) rfl) (pv 4) aE (fun _ _=>rfl)) (@aA _ _ _ _ _ aE aD (by rfl)) (by rfl)) (by rfl)) (by rfl))) aD (by rfl)) (by rfl) (by rfl) (by rfl) (by rfl) (by rfl)) (by rfl)) (@aH _ _ _ (@hV _ _ _ _ (@mB _ _ _ _ _ _ _ _ _ _ _ _ BM BV BU fK (pv 2) (@aA _ _ _ _ _ (@dS _ _ _ _ _ (@aA _ _ _ _ _ (pv 3) (@aA _ _ _ _ _ (@bG _ _ _ _ _ _ _ (@aQ _ (K) rfl) (pv 4) aE (fun _ _=>rfl)) (@aA _ _ _ _ _ (@bG _ _ _ _ _ _ _ (@aQ _ (K) rfl) (pv 4) aE (fun _ _=>rfl)) (@aA _ _ _ _ _ (@aHF _ _ _ _ _ _ zX aE) aD (by rfl)) (by rfl)) (by rfl)) (by rfl))) aD (by rfl)) (by rfl) (by rfl) (by rfl) (by rfl) (by rfl)) (by rfl))))) (by intro _;rfl)) (@aH _ _ _ (@aT _ _ _ _ (pv 2))))),?_⟩
 refine ⟨bB rfl,fun l hl=>?_⟩
 have S1:=aI.upd (o:=.lst []) hl
 have nld:d ≠ l:=aY hd hl
 refine ⟨_,rfl,d,_,rfl,by rw [aK nld];exact hd,fun o=>?_⟩
 have nr:∀ v ∈ (dN (aP fs ds lv)).map (·.2),∀ a,v ≠ .ref a:=fun v m a e=>by
  obtain ⟨kv,mk,rfl⟩:=AR.mp m
  obtain ⟨g,_,rfl⟩:=AR.mp mk
  cases e
 have L0:LandAt C (upd H d (.frz o (.dK (dN (aP fs ds lv))))) p fs ds:=aMT L hd nr
 have hl0:upd H d (.frz o (.dK (dN (aP fs ds lv)))) l = none:=by rw [aK (Ne.symm nld)];exact hl
 have SS:aI (upd H d (.frz o (.dK (dN (aP fs ds lv))))) (upd (upd H l (.lst [])) d (.frz o (.dK (dN (aP fs ds lv))))):=fun b u e=>by
  by_cases hb:b = d
  ·subst hb
   rw [aF] at e ⊢
   exact e
  ·rw [aK hb] at e ⊢
   exact S1 _ _ e
 have r1:upd (upd H l (.lst [])) d (.frz o (.dK (dN (aP fs ds lv)))) l = some (.lst []):=by rw [aK (Ne.symm nld),aF]
 have qq:=fun us H'=>q o l us H'
 have dF:upd H d (.frz o (.dK (dN (aP fs ds lv)))) d = some (.frz o (.dK (dN (aP fs ds lv)))):=aF
 generalize upd (upd H l (.lst [])) d (.frz o (.dK (dN (aP fs ds lv)))) = H2 at SS r1
 generalize upd H d (.frz o (.dK (dN (aP fs ds lv)))) = H0 at L0 hl0 SS qq dF
 refine aNH (fun i σ H'=>∃ (v3 v4:Option V) (us:List V),σ = [some (.ref p),some (.ref d),some (.ref l),v3,v4] ∧ aI H0 H' ∧ H' l = some (.lst us) ∧ IsL H' ((Mt61.stepsOf ((aP fs ds lv).take i)).map bQ) us) ⟨_,_,[],rfl,SS,r1,rfl⟩ (fun i σ H' _ ⟨_,_,_,_,S',_⟩=>S' _ _ dF) ?_ ?_
 ·rintro i kv σ H' hk ⟨v3,v4,us,rfl,S',hl',ius⟩
  unfold dN at hk
  rw [AK] at hk
  obtain ⟨g,eg,ekv⟩:=Aq.mp hk
  have hil:=(AC.mp eg).1
  have mg':=AN eg
  obtain ⟨dk,mdk,hg,rfl,en⟩:=aDN gd mg'
  have L':=L0.same S'
  obtain ⟨dx,d1,d2',hx,_⟩:=L'.ex
  have lus:=ius.length
  rw [AA,oH,Ac] at lus
  have et:Mt61.stepsOf ((aP fs ds lv).take (i + 1)) = Mt61.stepsOf ((aP fs ds lv).take i) ++ [up (gOf lv dk),dn (gOf lv dk)]:=by
   unfold Mt61.stepsOf
   rw [Ab,eg,List.flatMap_append]
   rfl
  obtain ⟨n,a,b,c,r,sl,rfl,_⟩:=bV (gd.all dk mdk)
  have ek:kV kv.1 = V.str n:=by rw [← ekv];rfl
  rw [ek]
  refine ⟨_,rfl,p,dx,_,rfl,hx,kY _ _ (by decide +kernel) (by decide +kernel),_,rfl,_,_,rfl,p,fs,ds,_,rfl,rfl,L',mdk,fun v iv=>?_⟩
  obtain ⟨t,sv,rfl,ot,isv⟩:=lH iv
  refine ⟨_,rfl,.inl ⟨rfl,_,SqL.of hl'⟩,_,rfl,_,rfl,t,_,1,.str a,rfl,rfl,SqT.of ot,aN (j:=1) rfl,_,rfl,t,_,2,.str b,rfl,rfl,SqT.of ot,aN (j:=2) rfl,bB rfl,fun ta hta=>?_⟩
  have Sa:=aI.upd (o:=.tup [.str n,.str a,.str b,.int 1]) hta
  have ra:upd H' ta (.tup [.str n,.str a,.str b,.int 1]) ta = _:=aF
  generalize upd H' ta (.tup [.str n,.str a,.str b,.int 1]) = Ha at Sa ra
  have hla:=Sa _ _ hl'
  refine ⟨l,us,.ref ta,rfl,rfl,hla,by omega,?_⟩
  have KT:=iU.lst (o:=.lst (us ++ [.ref ta])) hla
  have Sb:aI H0 (upd Ha l (.lst (us ++ [.ref ta]))):=(S'.trans Sa).over hl0
  have rb:upd Ha l (.lst (us ++ [.ref ta])) l = some (.lst (us ++ [.ref ta])):=aF
  have ib:IsL (upd Ha l (.lst (us ++ [.ref ta]))) ((Mt61.stepsOf ((aP fs ds lv).take i)).map bQ ++ [bQ (up ⟨n,a,b,r * (lv - c)⟩)]) (us ++ [.ref ta]):=by
   refine IsL.keep KT _ _ (gC fun d m=>?_) (IsL.snoc (yB ra) (IsL.same Sa _ _ ius))
   rcases Au.mp m with m | m
   ·obtain ⟨s,_,rfl⟩:=AR.mp m
    exact gL s
   ·rw [AW.mp m]
    exact gL _
  have ob:=KT _ _ (Sa _ _ ot)
  generalize upd Ha l (.lst (us ++ [.ref ta])) = Hb at Sb rb ib ob
  refine ⟨_,rfl,.inl ⟨rfl,_,SqL.of rb⟩,_,rfl,_,rfl,t,_,2,.str b,rfl,rfl,SqT.of ob,aN (j:=2) rfl,_,rfl,t,_,1,.str a,rfl,rfl,SqT.of ob,aN (j:=1) rfl,_,rfl,bB rfl,fun tb htb=>?_⟩
  have Sc:=aI.upd (o:=.tup [.str n,.str b,.str a,.int (-1)]) htb
  have rc:upd Hb tb (.tup [.str n,.str b,.str a,.int (-1)]) tb = _:=aF
  generalize upd Hb tb (.tup [.str n,.str b,.str a,.int (-1)]) = Hc at Sc rc
  have hlc:=Sc _ _ rb
  refine ⟨l,us ++ [.ref ta],.ref tb,rfl,rfl,hlc,by rw [Ai];show _ + 1 < _;omega,?_⟩
  have KT2:=iU.lst (o:=.lst (us ++ [.ref ta] ++ [.ref tb])) hlc
  refine ⟨_,_,us ++ [.ref ta] ++ [.ref tb],rfl,(Sb.trans Sc).over hl0,aF,?_⟩
  rw [et,AX]
  show IsL _ (_ ++ [bQ (up ⟨n,a,b,r * (lv - c)⟩),bQ (dn ⟨n,a,b,r * (lv - c)⟩)]) _
  rw [show ∀ (xs:List Dv) (p q:Dv),xs ++ [p,q] = xs ++ [p] ++ [q] from fun xs p q=>by simp]
  refine IsL.keep KT2 _ _ (gC fun d m=>?_) (IsL.snoc (yB (s:=dn ⟨n,a,b,r * (lv - c)⟩) rc) (IsL.same Sc _ _ ib))
  rcases Au.mp m with m | m
  ·rcases Au.mp m with m | m
   ·obtain ⟨s,_,rfl⟩:=AR.mp m
    exact gL s
   ·rw [AW.mp m]
    exact gL _
  ·rw [AW.mp m]
   exact gL _
 ·rintro σ H' ⟨v3,v4,us,rfl,S',hl',ius⟩
  rw [lD,AH (AQ _)] at ius
  exact ⟨_,rfl,qq us H' S' hl hl' ius⟩
open Mt22 MtF Mt31 Mt61
def CV (H:Hp) (o:Option Mt22.St) (v:V):Prop:=match o with
 | none=>v = .non
 | some s=>Is H (bQ s) v
theorem CV.same {H H':Hp} (S:aI H H') {o:Option Mt22.St} {v:V} (h:CV H o v):CV H' o v:=by
 cases o with
 | none=>exact h
 | some s=>exact Is.same S _ _ h
theorem CV.keep {H H':Hp} (S:iU H H') {o:Option Mt22.St} {v:V} (h:CV H o v):CV H' o v:=by
 cases o with
 | none=>exact h
 | some s=>exact Is.keep S _ _ (gL s) h
structure CamKV (H:Hp) (kvs:List (Key × V)) (cm:Cm):Prop where
 len:kvs.length = cm.length
 at':∀ (i:Nat) (z:Str) (o:Option Mt22.St),cm[i]? = some (z,o) → ∃ v,kvs[i]? = some (Sum.inr z,v) ∧ CV H o v
theorem CamKV.keys {H:Hp} {kvs:List (Key × V)} {cm:Cm} (h:CamKV H kvs cm):kvs.map (·.1) = (Mt31.keys cm).map Sum.inr:=by
 apply List.ext_getElem?
 intro i
 unfold Mt31.keys
 rw [AK,AK,AK]
 cases e:cm[i]? with
 | none =>
  rw [List.getElem?_eq_none_iff] at e
  rw [List.getElem?_eq_none (by rw [h.len];exact e)]
  rfl
 | some x =>
  obtain ⟨z,o⟩:=x
  obtain ⟨v,ev,_⟩:=h.at' i z o e
  rw [ev]
  rfl
theorem CamKV.same {H H':Hp} (S:aI H H') {kvs:List (Key × V)} {cm:Cm} (h:CamKV H kvs cm):CamKV H' kvs cm :=
 ⟨h.len,fun i z o e=>by obtain ⟨v,e1,c⟩:=h.at' i z o e;exact ⟨v,e1,c.same S⟩⟩
theorem CamKV.keep {H H':Hp} (S:iU H H') {kvs:List (Key × V)} {cm:Cm} (h:CamKV H kvs cm):CamKV H' kvs cm :=
 ⟨h.len,fun i z o e=>by obtain ⟨v,e1,c⟩:=h.at' i z o e;exact ⟨v,e1,c.keep S⟩⟩
theorem aBX {κ:Type} [DecidableEq κ]:∀ {kvs:List (κ × V)} {i:Nat} {k:κ} {v:V},(kvs.map (·.1)).Nodup → kvs[i]? = some (k,v) → eU kvs k = some v
 | p :: r,0,k,v,nd,e=>by cases e;exact jG rfl
 | p :: r,i + 1,k,v,nd,e=>by
  rw [AY,Ak] at nd
  have e':r[i]? = some (k,v):=e
  rw [jH (fun c=>nd.1 (by rw [c];exact AR.mpr ⟨_,AN e',rfl⟩))]
  exact aBX nd.2 e'
theorem aFA {zs:List Str} (h:zs.Nodup):(zs.map (Sum.inr:Str → Key)).Nodup:=(iF zs).mpr h
theorem CamKV.val {H:Hp} {S:List Mt22.St} {kvs:List (Key × V)} {cm:Cm} (h:CamKV H kvs cm) (c:Came S cm) {i:Nat} {z:Str} {o:Option Mt22.St} (e:cm[i]? = some (z,o)):∃ v,eU kvs (Sum.inr z) = some v ∧ CV H o v:=by
 obtain ⟨v,ev,cv⟩:=h.at' i z o e
 exact ⟨v,aBX (by rw [h.keys];exact aFA c.nd) ev,cv⟩
theorem CamKV.none {H:Hp} {kvs:List (Key × V)} {cm:Cm} (h:CamKV H kvs cm) {z:Str} (n:¬ z ∈ Mt31.keys cm):eU kvs (Sum.inr z) = none:=by
 cases e:eU kvs (Sum.inr z) with
 | none=>rfl
 | some v =>
  have:=aOM e
  rw [h.keys] at this
  obtain ⟨y,my,ey⟩:=AR.mp this
  cases ey
  exact absurd my n
theorem CamKV.some {H:Hp} {kvs:List (Key × V)} {cm:Cm} (h:CamKV H kvs cm) {z:Str} (n:z ∈ Mt31.keys cm):(eU kvs (Sum.inr z)).isSome = true:=by
 cases e:eU kvs (Sum.inr z) with
 | some v=>rfl
 | none =>
  have:=aKL e
  rw [h.keys] at this
  exact absurd (AR.mpr ⟨z,n,rfl⟩) this
theorem aWV (x:V) (r:List V):seqIndex? 0 (x :: r).length = some 0:=by
 rw [Ag]
 unfold seqIndex?
 simp
 try omega
theorem kK {H:Hp} {s:Mt22.St} {v:V} (h:Is H (bQ s) v):∃ t,v = .ref t ∧ H t = some (.tup [.str s.nm,.str s.near,.str s.far,.int s.h]):=by
 obtain ⟨t,us,rfl,o,v0,r0,rfl,i0,v1,r1,rfl,i1,v2,r2,rfl,i2,v3,r3,rfl,i3,h0⟩:=h
 cases (show r3 = [] from h0)
 cases (show v0 = _ from i0)
 cases (show v1 = _ from i1)
 cases (show v2 = _ from i2)
 cases (show v3 = _ from i3)
 exact ⟨t,rfl,o⟩
theorem lZ (a b:Str):decide (V.str a = V.str b) = decide (a = b):=by
 by_cases h:a = b
 ·subst h;simp
 ·rw [decide_eq_false h,decide_eq_false (fun c=>h (by cases c;rfl))]
def rF:Sp:=sp2 fun x y H Q=>∃ (ls lt:Addr) (us:List V) (S:List Mt22.St) (zs V0:List Str),x = .ref ls ∧ y = .ref lt ∧ zs.Nodup ∧ (∀ z ∈ zs,z ∈ V0) ∧ H ls = some (.lst (zs.map V.str)) ∧ H lt = some (.lst us) ∧ IsL H (S.map bQ) us ∧ S.length ≤ 80 ∧ V0.length ≤ 13 ∧ (∀ s ∈ S,s.far ∈ V0) ∧
 ∀ (d:Addr) (cm:Cm) (kvs:List (Key × V)) (H':Hp),aI H H' → H d = none → H' d = some (.dK kvs) → CamKV H' kvs cm → CameG zs S cm → uD S cm cm.length → cm.length ≤ 13 → Q (.ref d) H'
theorem tH (T:Txt K mg C):Fc P w K mg base 1 "spread" ["starts","steps"] rF:=by
 refine T.d_p_spread.fc iK iX (fun f cdv A outer s H vs Q E hr h=>?_)
 obtain ⟨x,y,rfl,ls,lt,us,S,zs,V0,rfl,rfl,ndz,sV,hls,hlt,ius,lS,lV,farV,q⟩:=h
 have lz:zs.length ≤ 13:=by have:=wB ndz sV;omega
 have big:=bT
 have hu:=lC hr
 have lus:=ius.length
 rw [AA] at lus
 have lcm:∀ cm:Cm,CameG zs S cm → (∀ z ∈ keys cm,z ∈ V0) → cm.length ≤ 13:=fun cm c sub=>by
  have:=wB c.nd sub
  unfold keys at this
  rw [AA] at this
  omega
 refine ⟨_,(@aG _ _ _ _ _ (@aW _ _ (2) _ _ _ _ iK.nd rfl (Or.inl rfl) (@cJ _ _ _ _ _ _ _ _ _ (@dJ _ rfl) rfl T.n_dict gK (@aA _ _ _ _ _ (@cE _ _ _ _ _ _ _ _ _ _ _ ["side"] 1 [] rfl (@bO _ _ _ _ (pv 0)) (fun R=>@bC _ _ (0) _ (show Ay (["side"]:List Str) by decide +kernel) rfl (Or.inl rfl) (by trivial)) (@aZ _ _ (by decide)) (fun R=>cC) (fun R=>(@dS _ _ _ _ _ (@aA _ _ _ _ _ (pv 0) (@aA _ _ _ _ _ aAS aD (by rfl)) (by rfl)))) (by rfl) (by rfl) (by rfl) (by rfl) (by rfl) (by rfl) (by rfl) (by intro _;rfl)) aD (by rfl)) (by decide) (by decide) (by rfl) (by rfl)) (by rfl) (by trivial)) (@aG _ _ _ _ _ (@aW _ _ (3) _ _ _ _ iK.nd rfl (Or.inl rfl) (@cJ _ _ _ _ _ _ _ _ _ (@xW _ (K) rfl) rfl T.n_list eK (@aA _ _ _ _ _ (pv 0) aD (by rfl)) (by decide) (by decide) (by rfl) (by rfl)) (by rfl) (by trivial)) (@aG _ _ _ _ _ (@mY _ _ _ _ _ _ BJ (@aET _ _ _ (pv 3) (by intro _;rfl)) (@aG _ _ _ _ _ (@aW _ _ (4) _ _ _ _ iK.nd rfl (Or.inl rfl) (@mB _ _ _ _ _ _ _ _ _ _ _ _ BM PySem.F.slot_list_pop PySem.F.type_list_pop aDC (pv 3) (@aA _ _ _ _ _ aE aD (by rfl)) (by rfl) (by rfl) (by rfl) (by rfl) (by rfl)) (by rfl) (by trivial)) (@aH _ _ _ (@hU _ _ _ _ _ _ _ _ BJ rfl (@bO _ _ _ _ (pv 1)) (@bC _ _ (5) _ iK.nd rfl (Or.inl rfl) (by trivial)) (@aH _ _ _ (@fL _ _ _ _ _ _ _ _ (@PW.pt _ _ _ (@aES _ _ _ _ _ _ _ (@cD _ _ _ _ _ _ _ _ oX (@bG _ _ _ _ _ _ _ (@aQ _ (K) rfl) (pv 5) aE (fun _ _=>rfl)) (pv 4) (@bY _ _ (by decide) (by decide))) (@aAN _ _ _ _ (@aAO _ _ _ _ _ _ (@yK _ _ _ _ _ hu (@bG _ _ _ _ _ _ _ (@aQ _ (K) rfl) (pv 5) aE (fun _ _=>rfl)) (pv 2)) (by first | exact nobehind _ (by decide) (by decide) | rfl))))) (@aG _ _ _ _ _ (@aPN _ _ _ _ _ _ _ _ _ hu (pv 2) (@bG _ _ _ _ _ _ _ (@aQ _ (K) rfl) (pv 5) aE (fun _ _=>rfl)) (pv 5) rfl) (@aH _ _ _ (@hV _ _ _ _ (@mB _ _ _ _ _ _ _ _ _ _ _ _ BM BV BU fK (pv 3) (@aA _ _ _ _ _ (@bG _ _ _ _ _ _ _ (@aQ _ (K) rfl) (pv 5) aE (fun _ _=>rfl)) aD (by rfl)) (by rfl) (by rfl) (by rfl) (by rfl) (by rfl)) (by rfl)))) cL)) (by intro _;rfl))))) (@aH _ _ _ (@aT _ _ _ _ (pv 2)))))),?_⟩
 refine ⟨_,rfl,ls,rfl,⟨_,SqL.of hls⟩,?_⟩
 refine bM (F:=K) (xs:=zs.map V.str) (by rw [AA];omega) (fun i ys H'=>aI H H' ∧ bP H' ys ((zs.take i).map fun z=>((Sum.inr z,.non):Key × V))) ⟨aI.refl _,bP.nil _⟩ ?_ ?_ ?_
 ·rintro i ys H' hi' ⟨S',pa⟩
  have:=pa.len
  rw [AA,Ac] at this
  exact ⟨SqL.of (S' _ _ hls),by omega⟩
 ·rintro i xv ys H' K1 K2 hx' ⟨S',pa⟩ k1 k2
  rw [AK] at hx'
  obtain ⟨z,ez,rfl⟩:=Aq.mp hx'
  refine ⟨_,rfl,bB rfl,fun p3 hp3=>k1 _ _ ⟨S'.trans (aI.upd hp3),?_⟩⟩
  rw [Ab,ez,AX]
  exact bP.snoc (k:=Sum.inr z) pa hp3
 rintro ys H1 ⟨S1,pa⟩
 rw [AA,AH (AQ _)] at pa
 intro p4 hp4
 have S2:=aI.upd (o:=.lst ys) hp4
 have kz:(zs.map fun z=>((Sum.inr z,.non):Key × V)).map (·.1) = zs.map Sum.inr:=by rw [Ao];rfl
 refine ⟨p4,ys,zs.map fun z=>((Sum.inr z,.non):Key × V),rfl,SqL.of aF,pa.same S2,by rw [AA];omega,by rw [kz];exact (iF zs).mpr ndz,fun d hd=>?_⟩
 have S3:=aI.upd (o:=.dK (zs.map fun z=>((Sum.inr z,.non):Key × V))) hd
 have T3:=S1.trans (S2.trans S3)
 have hd0:=(S1.trans S2).free hd
 refine ⟨_,rfl,ls,_,rfl,.inl (SqL.of (T3 _ _ hls)),fun lw hlw=>?_⟩
 have S4:=aI.upd (o:=.lst (zs.map V.str)) hlw
 have T4:=T3.trans S4
 have hd4:upd (upd (upd H1 p4 (.lst ys)) d (.dK (zs.map fun z=>((Sum.inr z,.non):Key × V)))) lw (.lst (zs.map V.str)) d = some (.dK (zs.map fun z=>((Sum.inr z,.non):Key × V))):=S4 _ _ aF
 have hw4:upd (upd (upd H1 p4 (.lst ys)) d (.dK (zs.map fun z=>((Sum.inr z,.non):Key × V)))) lw (.lst (zs.map V.str)) lw = some (.lst (zs.map V.str)):=aF
 have hlw0:=T3.free hlw
 have ndw:d ≠ lw:=aY (show upd (upd H1 p4 (.lst ys)) d (.dK (zs.map fun z=>((Sum.inr z,.non):Key × V))) d = some _ from aF) hlw
 generalize upd (upd (upd H1 p4 (.lst ys)) d (.dK (zs.map fun z=>((Sum.inr z,.non):Key × V)))) lw (.lst (zs.map V.str)) = H4 at T4 hd4 hw4
 have c0:CameG zs S (zs.map fun z=>(z,none)):=CameG.init S ndz
 have k00:keys (zs.map fun z=>((z,none):Str × Option Mt22.St)) = zs:=by unfold keys;rw [Ao];exact FB _
 have k0:CamKV H4 (zs.map fun z=>((Sum.inr z,.non):Key × V)) (zs.map fun z=>(z,none)):=⟨by rw [AA,AA],fun i z o e=>by
  rw [AK] at e
  obtain ⟨z',ez,e'⟩:=Aq.mp e
  cases e'
  exact ⟨.non,by rw [AK,ez];rfl,rfl⟩⟩
 refine mK (fun σ H'=>∃ (v4 v5:Option V) (p:Nat) (cm:Cm) (kvs:List (Key × V)),σ = [some (.ref ls),some (.ref lt),some (.ref d),some (.ref lw),v4,v5] ∧ aI H H' ∧ H' d = some (.dK kvs) ∧ CamKV H' kvs cm ∧ CameG zs S cm ∧ (∀ z ∈ keys cm,z ∈ V0) ∧ p ≤ cm.length ∧ H' lw = some (.lst (((keys cm).drop p).map V.str)) ∧ uD S cm p)
  (fun _ H'=>match H' d,H' lw with | some (.dK kvs),some (.lst ws)=>14 - (kvs.length - ws.length) | _,_=>0) ⟨_,_,0,zs.map fun z=>(z,none),_,rfl,T4,hd4,k0,c0,(fun z m=>by rw [k00] at m;exact sV z m),BT _,by rw [k00,FJ];exact hw4,(fun i u hi=>absurd hi (by omega))⟩ ?_ ?_
 ·rintro σ H5 ⟨v4,v5,p,cm,kvs,rfl,S5,hd5,ck,c,sub,hp,hw5,op⟩
  have l13:=lcm cm c sub
  refine ⟨_,rfl,lw,_,rfl,SqL.of hw5,?_⟩
  have kl:(keys cm).length = cm.length:=by unfold keys;rw [AA]
  by_cases hpl:p < cm.length
  ·obtain ⟨u,eu⟩:∃ u,(keys cm)[p]? = some u:=⟨_,AB (by omega)⟩
   have ed:(keys cm).drop p = u :: (keys cm).drop (p + 1):=by
    obtain ⟨h1,h2⟩:=AC.mp eu
    rw [← h2]
    exact (List.getElem_cons_drop h1).symm
   rw [ed] at hw5 ⊢
   refine dD ?_
   refine ⟨_,rfl,.inl ⟨rfl,_,SqL.of hw5⟩,lw,_,0,0,.str u,rfl,rfl,hw5,by decide,by decide,aWV _ _,rfl,?_⟩
   have hw6:upd H5 lw (.lst (((u :: (keys cm).drop (p + 1)).map V.str).eraseIdx 0)) lw = some (.lst (((keys cm).drop (p + 1)).map V.str)):=aF
   have hd6:upd H5 lw (.lst (((u :: (keys cm).drop (p + 1)).map V.str).eraseIdx 0)) d = some (.dK kvs):=by rw [aK ndw];exact hd5
   have ck6:=ck.keep (iU.lst (o:=.lst (((u :: (keys cm).drop (p + 1)).map V.str).eraseIdx 0)) hw5)
   have S6:aI H (upd H5 lw (.lst (((u :: (keys cm).drop (p + 1)).map V.str).eraseIdx 0))):=S5.over hlw0
   generalize upd H5 lw (.lst (((u :: (keys cm).drop (p + 1)).map V.str).eraseIdx 0)) = H6 at hw6 hd6 ck6 S6
   refine ⟨_,rfl,lt,rfl,⟨_,SqL.of (S6 _ _ hlt)⟩,nP (K:=K) (a:=lt) (xs:=us)
    (fun j σ H'=>∃ (v5:Option V) (more:Cm) (kvs:List (Key × V)),σ = [some (.ref ls),some (.ref lt),some (.ref d),some (.ref lw),some (.str u),v5] ∧ aI H H' ∧ H' d = some (.dK kvs) ∧ CamKV H' kvs (cm ++ more) ∧ CameG zs S (cm ++ more) ∧ (∀ z ∈ keys (cm ++ more),z ∈ V0) ∧ H' lw = some (.lst (((keys (cm ++ more)).drop (p + 1)).map V.str)) ∧ uD S (cm ++ more) p ∧ ∀ s ∈ S.take j,s.near = u → s.far ∈ keys (cm ++ more))
    ⟨_,[],kvs,rfl,S6,hd6,by rw [Bz];exact ck6,by rw [Bz];exact c,by rw [Bz];exact sub,by rw [Bz];exact hw6,by rw [Bz];exact op,(fun s m=>by cases m)⟩ (fun j σ H' _ ⟨_,_,_,_,S',_⟩=>SqL.of (S' _ _ hlt)) ?_ ?_⟩
   ·rintro j xv σ H7 hj ⟨w5,more,kvs7,rfl,S7,hd7,ck7,c7,sub7,hw7,op7,cl7⟩
    have hjl:j < us.length:=(AC.mp hj).1
    obtain ⟨st,es⟩:∃ st,S[j]? = some st:=⟨_,AB (by omega)⟩
    obtain ⟨v,ev,iv⟩:=ius.get (show (S.map bQ)[j]? = some (bQ st) by rw [AK,es];rfl)
    rw [hj] at ev
    cases ev
    have ms:=AN es
    obtain ⟨t,rfl,o⟩:=kK iv
    have o7:=S7 _ _ o
    have et:S.take (j + 1) = S.take j ++ [st]:=by rw [Ab,es];rfl
    have l7:=lcm _ c7 sub7
    have kl7:(keys (cm ++ more)).length = (cm ++ more).length:=by unfold keys;rw [AA]
    have lw7:(((keys (cm ++ more)).drop (p + 1)).map V.str).length ≤ 13:=by rw [AA,Cu];omega
    have uk:u ∈ keys (cm ++ more):=by rw [lA];exact Bh _ (AN eu)
    refine ⟨_,rfl,t,_,1,.str st.near,rfl,rfl,SqT.of o7,aN (j:=1) rfl,_,rfl,rfl,_,rfl,?_⟩
    rw [lZ]
    refine nM (fun c1=>?_) (fun c1=>?_)
    ·have e1:st.near = u:=of_decide_eq_true c1
     refine ⟨_,rfl,t,_,2,.str st.far,rfl,rfl,SqT.of o7,aN (j:=2) rfl,_,rfl,d,_,rfl,.inl ⟨kvs7,Sum.inr st.far,.inl hd7,rfl,rfl⟩,_,rfl,?_⟩
     by_cases hk:st.far ∈ keys (cm ++ more)
     ·rw [ck7.some hk]
      refine bS ⟨_,more,kvs7,rfl,S7,hd7,ck7,c7,sub7,hw7,op7,fun s m en=>?_⟩
      rw [et] at m
      rcases Au.mp m with m | m
      ·exact cl7 s m en
      ·rw [AW.mp m];exact hk
     ·have hno:=ck7.none hk
      rw [hno]
      refine dD ?_
      have lkv:kvs7.length < Ar:=by rw [ck7.len];omega
      refine ⟨_,rfl,_,rfl,_,rfl,t,_,2,.str st.far,rfl,rfl,SqT.of o7,aN (j:=2) rfl,d,_,rfl,.inl ⟨kvs7,Sum.inr st.far,hd7,rfl,lkv,rfl⟩,?_⟩
      rw [aLY _ hno]
      have KT1:iU H7 (upd H7 d (.dK (kvs7 ++ [(Sum.inr st.far,.ref t)]))):=fun b ys e=>by
       rw [aK (fun eb=>by rw [eb,hd7] at e;cases e)]
       exact e
      have hw8:upd H7 d (.dK (kvs7 ++ [(Sum.inr st.far,.ref t)])) lw = some (.lst (((keys (cm ++ more)).drop (p + 1)).map V.str)):=by rw [aK (Ne.symm ndw)];exact hw7
      have o8:upd H7 d (.dK (kvs7 ++ [(Sum.inr st.far,.ref t)])) t = some (.tup [.str st.nm,.str st.near,.str st.far,.int st.h]):=KT1 _ _ o7
      have hd8:upd H7 d (.dK (kvs7 ++ [(Sum.inr st.far,.ref t)])) d = some (.dK (kvs7 ++ [(Sum.inr st.far,.ref t)])):=aF
      have S8:aI H (upd H7 d (.dK (kvs7 ++ [(Sum.inr st.far,.ref t)]))):=S7.over hd0
      have ck8:=ck7.keep KT1
      generalize upd H7 d (.dK (kvs7 ++ [(Sum.inr st.far,.ref t)])) = H8 at hw8 o8 hd8 S8 ck8
      refine ⟨_,rfl,.inl ⟨rfl,_,SqL.of hw8⟩,_,rfl,t,_,2,.str st.far,rfl,rfl,SqT.of o8,aN (j:=2) rfl,lw,_,.str st.far,rfl,rfl,hw8,by omega,?_⟩
      have KT2:=iU.lst (o:=.lst (((keys (cm ++ more)).drop (p + 1)).map V.str ++ [.str st.far])) hw8
      have c9:=c7.snoc ms (by rw [e1];exact uk) hk
      rw [By] at c9
      have kk:keys (cm ++ (more ++ [(st.far,some st)])) = keys (cm ++ more) ++ [st.far]:=by rw [← By,lA];rfl
      refine ⟨_,more ++ [(st.far,some st)],kvs7 ++ [(Sum.inr st.far,.ref t)],rfl,S8.over hlw0,by rw [aK ndw];exact hd8,?_,c9,?_,?_,?_,?_⟩
      ·rw [← By]
       have ck9:=ck8.keep KT2
       refine ⟨by rw [Ai,Ai,ck9.len];rfl,fun i z o' e=>?_⟩
       by_cases hi:i < (cm ++ more).length
       ·rw [Bd hi] at e
        obtain ⟨v,ev,cv⟩:=ck9.at' i z o' e
        exact ⟨v,by rw [Bd (by rw [ck9.len];exact hi)];exact ev,cv⟩
       ·have hle:=(AC.mp e).1
        rw [Ai] at hle
        have h1':([(st.far,some st)]:Cm).length = 1:=rfl
        have hie:i = (cm ++ more).length:=by omega
        subst hie
        rw [CN (AQ _),Nat.sub_self] at e
        cases e
        refine ⟨.ref t,by rw [CN (by rw [ck9.len];exact AQ _),ck9.len,Nat.sub_self];rfl,?_⟩
        exact ⟨t,_,rfl,KT2 _ _ o8,_,_,rfl,rfl,_,_,rfl,rfl,_,_,rfl,rfl,_,_,rfl,rfl,rfl⟩
      ·intro z m
       rw [kk] at m
       rcases Au.mp m with m | m
       ·exact sub7 z m
       ·rw [AW.mp m];exact farV st ms
      ·rw [aF,kk,List.drop_append_of_le_length (by rw [kl7,Ai];omega),AX]
       rfl
      ·rw [← By]
       exact op7.snoc (by rw [Ai];omega) _
      ·intro s m en
       rw [kk]
       rw [et] at m
       rcases Au.mp m with m | m
       ·exact Bh _ (cl7 s m en)
       ·rw [AW.mp m];exact An _ (AW.mpr rfl)
    ·refine ⟨_,more,kvs7,rfl,S7,hd7,ck7,c7,sub7,hw7,op7,fun s m en=>?_⟩
     rw [et] at m
     rcases Au.mp m with m | m
     ·exact cl7 s m en
     ·rw [AW.mp m] at en
      exact absurd (decide_eq_true en) c1
   ·rintro σ H7 ⟨w5,more,kvs7,rfl,S7,hd7,ck7,c7,sub7,hw7,op7,cl7⟩
    rw [AH (by omega)] at cl7
    have l7:=lcm _ c7 sub7
    have kl7:(keys (cm ++ more)).length = (cm ++ more).length:=by unfold keys;rw [AA]
    have ca:(cm ++ more).length = cm.length + more.length:=Ai
    refine ⟨⟨_,_,p + 1,cm ++ more,kvs7,rfl,S7,hd7,ck7,c7,sub7,by omega,hw7,fun i u' hi e s ms en=>?_⟩,?_⟩
    ·by_cases hip:i < p
     ·exact op7 i u' hip e s ms en
     ·have hie:i = p:=by omega
      subst hie
      rw [lA,Bd (by omega),eu] at e
      cases e
      exact cl7 s ms en
    ·rw [hd7,hw7,hd5,hw5]
     dsimp only
     rw [ck7.len,ck.len,AA,AA,Cu,Ag,Cu]
     omega
  ·have hpe:p = cm.length:=by omega
   subst hpe
   rw [show (keys cm).drop cm.length = [] from DE (by omega)]
   refine bS ⟨_,rfl,q d cm kvs H5 S5 hd0 hd5 ck c op l13⟩
 ·intro σ H Q Q' h hc
  obtain ⟨v,e,p,xs,e2,hq,q⟩:=hc
  exact ⟨v,e,p,xs,e2,hq,h _ _ q⟩
open Mt53 Mt22 MtF Mt31 Mt61
theorem yT {f:Gap → V}:∀ {G:List Gap} {g:Gap},(G.map (·.nm)).Nodup → g ∈ G → eU (G.map fun g=>((Sum.inr g.nm:Key),f g)) (Sum.inr g.nm) = some (f g)
 | e :: G,g,nd,m=>by
  rw [AY] at nd ⊢
  rw [Ak] at nd
  rcases Af.mp m with rfl | m
  ·exact jG rfl
  ·rw [jH (fun c=>nd.1 (by rw [DM c];exact AR.mpr ⟨g,m,rfl⟩))]
   exact yT nd.2 m
def dZ (G:List Gap) (f:Fl):List (Key × V):=G.map fun g=>(Sum.inr g.nm,V.int (f g.nm))
theorem qG {H H':Hp} {a:Addr} {u:HO} (r:Rd H a u) (S:aI H H'):Rd H' a u:=by
 rcases r with h | ⟨o,h⟩
 ·exact .inl (S _ _ h)
 ·exact .inr ⟨o,S _ _ h⟩
theorem pZ {G:List Gap} {s:Mt22.St} (m:s ∈ Mt61.stepsOf G):∃ g ∈ G,g.nm = s.nm ∧ (s.h = 1 ∨ s.h = -1):=by
 obtain ⟨g,mg,e⟩:=jE.mp m
 rcases e with rfl | rfl
 ·exact ⟨g,mg,rfl,.inl rfl⟩
 ·exact ⟨g,mg,rfl,.inr rfl⟩
def aEK:Sp:=sp3 fun x y u H Q=>∃ (dm de:Addr) (V0:List Str) (G:List Gap) (f:Fl) (s:Mt22.St),Is H (bQ s) x ∧ s ∈ Mt61.stepsOf G ∧ Gaps V0 G ∧ y = .ref dm ∧ Rd H dm (.dK (dN G)) ∧ u = .ref de ∧ Rd H de (.dK (dZ G f)) ∧ Q (.int (Mt61.room G f s)) H
theorem yO (T:Txt K mg C):Fc P w K mg base 1 "room" ["step","most","stream"] aEK:=by
 refine T.d_p_room.fc aIX pQ (fun f cdv A outer s H vs Q E hr h=>?_)
 obtain ⟨x,y,u,rfl,dm,de,V0,G,fl,st,hx,ms,GG,rfl,hm,rfl,he,q⟩:=h
 have hu:=lC hr
 obtain ⟨t,rfl,o⟩:=kK hx
 obtain ⟨g,mg',en,hh⟩:=pZ ms
 have v1:eU (dN G) (Sum.inr st.nm) = some (.int g.cap):=by rw [← en];exact yT (f:=fun g=>V.int g.cap) GG.nd mg'
 have v2:eU (dZ G fl) (Sum.inr st.nm) = some (.int (fl st.nm)):=by rw [← en];exact yT (f:=fun g=>V.int (fl g.nm)) GG.nd mg'
 refine ⟨_,(@aH _ _ _ (@aT _ _ _ _ (@aO _ _ _ _ _ _ _ _ iC (@gH _ _ _ _ _ _ hu (pv 1) (@bG _ _ _ _ _ _ _ (@aQ _ (K) rfl) (pv 0) aE (fun _ _=>rfl)) (fun _ _=>rfl)) (@aO _ _ _ _ _ _ _ _ iD (@bG _ _ _ _ _ _ _ (@aQ _ (K) rfl) (pv 0) aE (fun _ _=>rfl)) (@gH _ _ _ _ _ _ hu (pv 2) (@bG _ _ _ _ _ _ _ (@aQ _ (K) rfl) (pv 0) aE (fun _ _=>rfl)) (fun _ _=>rfl)))))),?_⟩
 refine ⟨_,rfl,_,rfl,t,_,0,.str st.nm,rfl,rfl,SqT.of o,aN (j:=0) rfl,dm,_,rfl,.inl ⟨_,Sum.inr st.nm,hm,rfl,v1.symm⟩,?_⟩
 refine ⟨_,rfl,t,_,3,.int st.h,rfl,rfl,SqT.of o,aN (j:=3) rfl,_,rfl,_,rfl,t,_,0,.str st.nm,rfl,rfl,SqT.of o,aN (j:=0) rfl,de,_,rfl,.inl ⟨_,Sum.inr st.nm,he,rfl,v2.symm⟩,?_⟩
 refine ⟨_,_,rfl,rfl,.inl (by rcases hh with h | h <;> rw [h] <;> exact ⟨by decide,by decide⟩),_,_,rfl,rfl,?_⟩
 have e:Mt61.room G fl st = g.cap - st.h * fl st.nm:=by
  unfold Mt61.room
  rw [← en,nV GG mg']
 rw [e] at q
 exact q
def wM (G:List Gap) (f:Fl):List Mt22.St:=(Mt61.stepsOf G).filter fun s=>decide (0 < Mt61.room G f s)
theorem aHW {V0:List Str} {G:List Gap} (GG:Gaps V0 G) {s:Mt22.St} (m:s ∈ Mt61.stepsOf G):s.near ∈ V0 ∧ s.far ∈ V0:=by
 obtain ⟨g,mg,e⟩:=jE.mp m
 obtain ⟨ha,hb,_⟩:=GG.ends g mg
 rcases e with rfl | rfl
 ·exact ⟨ha,hb⟩
 ·exact ⟨hb,ha⟩
def rG:Sp:=sp3 fun x y u H Q=>∃ (l dm de:Addr) (us:List V) (V0:List Str) (G:List Gap) (f:Fl),x = .ref l ∧ H l = some (.lst us) ∧ IsL H ((Mt61.stepsOf G).map bQ) us ∧ G.length ≤ 40 ∧ V0.length ≤ 13 ∧ Gaps V0 G ∧ y = .ref dm ∧ Rd H dm (.dK (dN G)) ∧ u = .ref de ∧ Rd H de (.dK (dZ G f)) ∧
 ∀ (d:Addr) (cm:Cm) (kvs:List (Key × V)) (H':Hp),aI H H' → H d = none → H' d = some (.dK kvs) → CamKV H' kvs cm → CameG [Mt22.sea] (wM G f) cm → uD (wM G f) cm cm.length → cm.length ≤ 13 → Q (.ref d) H'
theorem qN (T:Txt K mg C):Fc P w K mg base 2 "reached" ["steps","most","stream"] rG:=by
 have G_p_room:Fc P w K mg base 1 "room" ["step","most","stream"] aEK:=yO T
 have G_p_spread:Fc P w K mg base 1 "spread" ["starts","steps"] rF:=tH T
 refine T.d_p_reached.fc aAH pQ (fun f cdv A outer s H vs Q E hr h=>?_)
 obtain ⟨x,y,u,rfl,l,dm,de,us,V0,G,fl,rfl,hl,ius,g40,v13,GG,rfl,hm,rfl,he,q⟩:=h
 have big:=bT
 have lus:=ius.length
 have sl:=oH G
 rw [AA,sl] at lus
 refine ⟨_,(@aH _ _ _ (@aT _ _ _ _ (@bI _ _ _ _ _ _ _ _ _ _ G_p_spread (hr.mono (by decide)) (@aA _ _ _ _ _ (@dU _ _ _ _ (@aA _ _ _ _ _ (@tV _ _ _ _ T.g_SEA (by rfl) (by decide)) aD (by rfl))) (@aA _ _ _ _ _ (@cE _ _ _ _ _ _ _ _ _ _ _ ["step","most","stream"] 1 [1,2] rfl (@bO _ _ _ _ (pv 0)) (fun R=>@bC _ _ (0) _ (show Ay (["step","most","stream"]:List Str) by decide +kernel) rfl (Or.inl rfl) (by trivial)) (@aZ _ _ (by decide)) (fun R=>@fF _ _ _ (@cD _ _ _ _ _ _ _ _ aHH (@bI _ _ _ _ _ _ _ _ _ _ G_p_room (hr.mono (by decide)) (@aA _ _ _ _ _ (pv 0) (@aA _ _ _ _ _ (pv 1) (@aA _ _ _ _ _ (pv 2) aD (by rfl)) (by rfl)) (by rfl)) (by rfl) (by decide) (by rfl) (by rfl)) aE (@bY _ _ (by decide) (by decide)))) (fun R=>(pv 0)) (by rfl) (by rfl) (by rfl) (by rfl) (by rfl) (by rfl) (by rfl) (by intro _;rfl)) aD (by rfl)) (by rfl)) (by rfl) (by decide) (by rfl) (by rfl)))),?_⟩
 refine ⟨bB rfl,fun l1 h1=>?_⟩
 have S1:=aI.upd (o:=.lst [.str "sea"]) h1
 have r1:upd H l1 (.lst [.str "sea"]) l1 = some (.lst (([Mt22.sea]:List Str).map V.str)):=aF
 generalize upd H l1 (.lst [.str "sea"]) = H1 at S1 r1
 refine ⟨_,rfl,l,rfl,⟨_,SqL.of (S1 _ _ hl)⟩,?_⟩
 refine bM (F:=K) (xs:=us) (by omega) (fun i ys H'=>H1 = H' ∧ IsL H' ((((Mt61.stepsOf G).take i).filter fun s=>decide (0 < Mt61.room G fl s)).map bQ) ys) ⟨rfl,rfl⟩ ?_ ?_ ?_
 ·rintro i ys H' hi ⟨rfl,iy⟩
  refine ⟨SqL.of (S1 _ _ hl),?_⟩
  have:=iy.length
  have:=BP (fun s=>decide (0 < Mt61.room G fl s)) ((Mt61.stepsOf G).take i)
  rw [Ac] at this
  rw [AA] at *
  omega
 ·rintro i xv ys H' K1 K2 hx' ⟨rfl,iy⟩ k1 k2
  have hil:i < us.length:=(AC.mp hx').1
  obtain ⟨st,es⟩:∃ st,(Mt61.stepsOf G)[i]? = some st:=⟨_,AB (by omega)⟩
  obtain ⟨v,ev,iv⟩:=(IsL.same S1 _ _ ius).get (show ((Mt61.stepsOf G).map bQ)[i]? = some (bQ st) by rw [AK,es];rfl)
  rw [hx'] at ev
  cases ev
  refine ⟨_,rfl,_,rfl,_,rfl,_,_,_,rfl,dm,de,V0,G,fl,st,iv,AN es,GG,rfl,qG hm S1,rfl,qG he S1,_,_,rfl,rfl,_,rfl,?_⟩
  have et:((Mt61.stepsOf G).take (i + 1)).filter (fun s=>decide (0 < Mt61.room G fl s)) = ((Mt61.stepsOf G).take i).filter (fun s=>decide (0 < Mt61.room G fl s)) ++ (if decide (0 < Mt61.room G fl st) = true then [st] else []):=by
   rw [Ab,es,Bt]
   cases h:decide (0 < Mt61.room G fl st) <;> simp [h]
   all_goals simpa using h
  cases hg:decide (0 < Mt61.room G fl st) with
  | false =>
   rw [hg] at et
   refine bS (k2 _ ⟨rfl,?_⟩)
   rw [et]
   simpa using iy
  | true =>
   rw [hg] at et
   refine dD ⟨_,rfl,k1 _ _ ⟨rfl,?_⟩⟩
   rw [et,if_pos rfl,AX]
   exact IsL.snoc iv iy
 rintro ys H2 ⟨rfl,iy⟩
 rw [AH (by omega)] at iy
 intro l2 h2
 have S2:=aI.upd (o:=.lst ys) h2
 refine ⟨_,_,rfl,l1,l2,ys,wM G fl,[Mt22.sea],V0,rfl,rfl,by simp,(fun z m=>by rw [AW.mp m];exact GG.sea),S2 _ _ r1,aF,IsL.same S2 _ _ iy,?_,v13,fun s m=>(aHW GG (Am.mp m).1).2,fun d cm kvs H' S3 nd hd ck cg op l13=>?_⟩
 ·have:=BP (fun s=>decide (0 < Mt61.room G fl s)) (Mt61.stepsOf G)
  unfold wM
  omega
 ·exact q d cm kvs H' (S1.trans (S2.trans S3)) ((S1.trans S2).free nd) hd ck cg op l13
open Mt53 Mt22 MtF Mt31 Mt61
def aLB:Sp:=sp2 fun x y H Q=>∃ (d:Addr) (kvs:List (Key × V)) (cm:Cm) (S:List Mt22.St) (side:Str),x = .ref d ∧ y = .str side ∧ Rd H d (.dK kvs) ∧ CamKV H kvs cm ∧ Came S cm ∧ cm.length ≤ 13 ∧ side ∈ keys cm ∧
 ∀ (l:Addr) (us:List V) (ss:List Mt22.St) (H':Hp),aI H H' → H l = none → H' l = some (.lst us) → IsL H' (ss.map bQ) us → Chain S ss side → ss.length ≤ 13 → Q (.ref l) H'
theorem aMW {cm:Cm} {z:Str} (m:z ∈ keys cm):∃ (i:Nat) (o:Option Mt22.St),cm[i]? = some (z,o):=by
 obtain ⟨i,hi⟩:=BD.mp m
 unfold keys at hi
 rw [AK] at hi
 cases e:cm[i]? with
 | none=>rw [e] at hi;cases hi
 | some x =>
  rw [e] at hi
  obtain ⟨a,o⟩:=x
  cases hi
  exact ⟨i,o,e⟩
theorem aAV (T:Txt K mg C):Fc P w K mg base 1 "path_to" ["came","side"] aLB:=by
 refine T.d_p_path_to.fc jA iX (fun f cdv A outer s H vs Q E hr h=>?_)
 obtain ⟨x,y,rfl,d,kvs,cm,S,side,rfl,rfl,hd,ck,c,l13,ms,q⟩:=h
 have big:=bT
 have hu:=lC hr
 obtain ⟨j0,o0,e0⟩:=aMW ms
 obtain ⟨v0,ev0,cv0⟩:=ck.val c e0
 have hj0:=(AC.mp e0).1
 refine ⟨_,(@aG _ _ _ _ _ (@aW _ _ (2) _ _ _ _ jA.nd rfl (Or.inl rfl) (@dU _ _ _ _ aD) (by rfl) (by trivial)) (@aG _ _ _ _ _ (@aW _ _ (3) _ _ _ _ jA.nd rfl (Or.inl rfl) (@gH _ _ _ _ _ _ hu (pv 0) (pv 1) (fun _ _=>rfl)) (by rfl) (by trivial)) (@aG _ _ _ _ _ (@mY _ _ _ _ _ _ BJ (@cD _ _ _ _ _ _ _ _ aPY (pv 3) aAS (@bY _ _ (by decide) (by decide))) (@aG _ _ _ _ _ (@hV _ _ _ _ (@mB _ _ _ _ _ _ _ _ _ _ _ _ BM BV BU fK (pv 2) (@aA _ _ _ _ _ (pv 3) aD (by rfl)) (by rfl) (by rfl) (by rfl) (by rfl) (by rfl)) (by rfl)) (@aH _ _ _ (@aW _ _ (3) _ _ _ _ jA.nd rfl (Or.inl rfl) (@gH _ _ _ _ _ _ hu (pv 0) (@bG _ _ _ _ _ _ _ (@aQ _ (K) rfl) (pv 3) aE (fun _ _=>rfl)) (fun _ _=>rfl)) (by rfl) (by trivial))))) (@aH _ _ _ (@aT _ _ _ _ (@aEV _ _ _ _ _ _ _ rfl rfl T.n_list rfl T.n_reversed (@aA _ _ _ _ _ (pv 2) aD (by rfl)) (by rfl) (by rfl))))))),?_⟩
 refine ⟨bB rfl,fun lp hlp=>?_⟩
 have S1:=aI.upd (o:=.lst []) hlp
 have h1:upd H lp (.lst []) lp = some (.lst []):=aF
 generalize upd H lp (.lst []) = H1 at S1 h1
 refine ⟨_,rfl,_,rfl,d,v0,rfl,.inl ⟨kvs,Sum.inr side,qG hd S1,rfl,ev0.symm⟩,?_⟩
 refine mK (fun σ H'=>∃ (j:Nat) (z:Str) (o:Option Mt22.St) (v:V) (ps:List Mt22.St) (us:List V),σ = [some (.ref d),some (.str side),some (.ref lp),some v] ∧ aI H H' ∧ H' lp = some (.lst us) ∧ IsL H' (ps.map bQ) us ∧ cm[j]? = some (z,o) ∧ CV H' o v ∧ aTZ S cm j z ps.reverse side ∧ ps.length + j < cm.length)
  (fun _ H'=>match H' lp with | some (.lst us)=>14 - us.length | _=>0) ⟨j0,side,o0,v0,[],[],rfl,S1,h1,rfl,e0,cv0.same S1,(fun ss ch _=>by rw [List.reverse_nil,Bz];exact ch),by show 0 + j0 < _;omega⟩ ?_ ?_
 ·rintro σ H2 ⟨j,z,o,v,ps,us,rfl,S2,h2,ius,ej,cv,tl,lj⟩
  have lus:=ius.length
  rw [AA] at lus
  refine ⟨_,rfl,rfl,_,rfl,?_⟩
  cases o with
  | none =>
   have hv:v = .non:=cv
   subst hv
   have hj:j = 0:=by
    cases j with
    | zero=>rfl
    | succ j =>
     obtain ⟨s',h',_⟩:=c.prev (j + 1) z none (by omega) ej
     cases h'
   subst hj
   have hz:z = Mt22.sea:=by
    have:=c.first
    rw [ej] at this
    cases this
    rfl
   subst hz
   have ch:=tl [] .nil (fun y m=>by cases m)
   rw [EC] at ch
   rw [decide_eq_true rfl]
   refine bS ⟨_,rfl,lp,us,rfl,SqL.of h2,fun l hl=>?_⟩
   refine q l us.reverse ps.reverse _ (S2.trans (aI.upd hl)) (S2.free hl) aF ?_ ch (by rw [Ba];omega)
   rw [List.map_reverse]
   exact IsL.rev (IsL.same (aI.upd hl) _ _ ius)
  | some s =>
   obtain ⟨t,rfl,ot⟩:=kK cv
   have hj:0 < j:=by
    cases j with
    | zero =>
     have:=c.first
     rw [ej] at this
     cases this
    | succ j=>omega
   obtain ⟨s',es',mS,hf,hn⟩:=c.prev j z (some s) hj ej
   cases es'
   obtain ⟨i,oi,ei⟩:=aMW hn
   have hil:=(AC.mp ei).1
   rw [Ac] at hil
   have hij:i < j:=by omega
   rw [Bq hij] at ei
   obtain ⟨v',ev',cv'⟩:=ck.val c ei
   have ki:(keys cm)[i]? = some s.near:=by unfold keys;rw [AK,ei];rfl
   have hne:(!decide (V.ref t = V.non)) = true:=by rw [decide_eq_false (by intro c;cases c)];rfl
   rw [hne]
   refine dD ?_
   refine ⟨_,rfl,.inl ⟨rfl,_,SqL.of h2⟩,_,rfl,lp,us,.ref t,rfl,rfl,h2,by omega,?_⟩
   have KT:=iU.lst (o:=.lst (us ++ [.ref t])) h2
   have S3:aI H (upd H2 lp (.lst (us ++ [.ref t]))):=S2.over hlp
   refine ⟨_,rfl,_,rfl,t,_,1,.str s.near,rfl,rfl,SqT.of (KT _ _ ot),aN (j:=1) rfl,d,v',rfl,.inl ⟨kvs,Sum.inr s.near,qG hd S3,rfl,ev'.symm⟩,?_⟩
   refine ⟨⟨i,s.near,oi,v',ps ++ [s],us ++ [.ref t],rfl,S3,aF,?_,ei,cv'.same S3,?_,by rw [Ai];show _ + 1 + _ < _;omega⟩,?_⟩
   ·refine IsL.keep KT _ _ (gC fun d m=>?_) ?_
    ·obtain ⟨s,_,rfl⟩:=AR.mp m
     exact gL s
    ·rw [AX]
     exact IsL.snoc (d:=bQ s) (v:=.ref t) cv ius
   ·rw [List.reverse_append]
    exact aIN c ej mS hf hij ki tl
   ·rw [h2,aF]
    dsimp only
    rw [Ai]
    show 14 - (us.length + 1) < 14 - us.length
    omega
 ·intro σ H Q Q' h hc
  obtain ⟨v,e,hq,k,e2,q⟩:=hc
  exact ⟨v,e,hq,k,e2,h _ _ q⟩
theorem aKE {S ss:List Mt22.St} {z:Str} (c:Chain S ss z):ss = [] → z = Mt22.sea:=by
 induction c with
 | nil=>intro _;rfl
 | snoc c m n ih=>intro e;simp at e
def aOL (G:List Gap) (f:Fl) (ws:List Str):Prop:=∃ cm:Cm,CameG [Mt22.sea] (wM G f) cm ∧ uD (wM G f) cm cm.length ∧ ∀ z ∈ ws,z ∉ keys cm
def aVW (G:List Gap) (f:Fl) (ws:List Str) (ss:List Mt22.St):Prop:=(ss = [] ∧ aOL G f ws) ∨ ∃ z,Chain (wM G f) ss z ∧ z ∈ ws ∧ ss ≠ [] ∧ ss.length ≤ 13
def aAA:Sp:=fun vs H Q _=>∃ (x y u v:V) (l dm de lw:Addr) (us:List V) (V0:List Str) (G:List Gap) (f:Fl) (ws:List Str),vs = [x,y,u,v] ∧ x = .ref l ∧ H l = some (.lst us) ∧ IsL H ((Mt61.stepsOf G).map bQ) us ∧ G.length ≤ 40 ∧ V0.length ≤ 13 ∧ Gaps V0 G ∧ y = .ref dm ∧ Rd H dm (.dK (dN G)) ∧ u = .ref de ∧ Rd H de (.dK (dZ G f)) ∧ v = .ref lw ∧ H lw = some (.lst (ws.map V.str)) ∧ Mt22.sea ∉ ws ∧
 ∀ (lp:Addr) (us:List V) (ss:List Mt22.St) (H':Hp),aI H H' → H lp = none → H' lp = some (.lst us) → IsL H' (ss.map bQ) us → aVW G f ws ss → Q (.ref lp) H'
theorem aVB:∀ vs H Q E,aAA vs H Q E → vs.length = 4:=fun vs H Q E ⟨x,y,u,v,l,dm,de,lw,us,V0,G,f,ws,e,_⟩=>by rw [e];rfl
theorem oR (T:Txt K mg C):Fc P w K mg base 3 "path_with_room" ["steps","most","stream","fields"] aAA:=by
 have G_p_reached:Fc P w K mg base 2 "reached" ["steps","most","stream"] rG:=qN T
 have G_p_path_to:Fc P w K mg base 1 "path_to" ["came","side"] aLB:=aAV T
 refine T.d_p_path_with_room.fc fM aVB (fun f cdv A outer s H vs Q E hr h=>?_)
 obtain ⟨x,y,u,v,l,dm,de,lw,us,V0,G,fl,ws,rfl,rfl,hl,ius,g40,v13,GG,rfl,hm,rfl,he,rfl,hlw,ns,q⟩:=h
 have big:=bT
 have hu:=lC hr
 refine ⟨_,(@aG _ _ _ _ _ (@aW _ _ (4) _ _ _ _ fM.nd rfl (Or.inl rfl) (@bI _ _ _ _ _ _ _ _ _ _ G_p_reached (hr.mono (by decide)) (@aA _ _ _ _ _ (pv 0) (@aA _ _ _ _ _ (pv 1) (@aA _ _ _ _ _ (pv 2) aD (by rfl)) (by rfl)) (by rfl)) (by rfl) (by decide) (by rfl) (by rfl)) (by rfl) (by trivial)) (@aG _ _ _ _ _ (@gI _ (5) _ _ _ _ _ _ _ _ _ _ _ _ _ fM.nd rfl ["side","fields"] 1 [3] rfl (@aAQ _ _ _ _ (pv 4)) (fun R=>@bC _ _ (0) _ (show Ay (["side","fields"]:List Str) by decide +kernel) rfl (Or.inl rfl) (by trivial)) (@aZ _ _ (by decide)) (fun R=>@fF _ _ _ (@cD _ _ _ _ _ _ _ _ (@pM _ (K) rfl) (pv 0) (pv 1) (by with_unfolding_all rfl))) (fun R=>(pv 0)) (by exact Or.inl rfl) (by trivial) (by rfl) (by rfl) (by rfl) (by rfl) (by rfl) (by rfl) (by rfl) (by rfl) (by intro _;rfl)) (@aH _ _ _ (@aT _ _ _ _ (@aMJ _ _ _ _ _ _ _ _ (@aET _ _ _ (pv 5) (by intro _;rfl)) (@bI _ _ _ _ _ _ _ _ _ _ G_p_path_to (hr.mono (by decide)) (@aA _ _ _ _ _ (pv 4) (@aA _ _ _ _ _ (@bG _ _ _ _ _ _ _ (@eP _ (K) rfl) (pv 5) aE (fun _ _=>rfl)) aD (by rfl)) (by rfl)) (by rfl) (by decide) (by rfl) (by rfl)) (@dU _ _ _ _ aD)))))),?_⟩
 refine ⟨_,rfl,_,rfl,_,rfl,_,_,_,rfl,l,dm,de,us,V0,G,fl,rfl,hl,ius,g40,v13,GG,rfl,hm,rfl,he,fun d cm kvs H1 S1 nd hd ck cg op l13=>?_⟩
 refine ⟨_,rfl,d,kvs,rfl,hd,fun o=>?_⟩
 have SF:aI H (upd H1 d (.frz o (.dK kvs))):=S1.over nd
 have KF:iU H1 (upd H1 d (.frz o (.dK kvs))):=fun b ys e=>by
  rw [aK (fun c=>by rw [c,hd] at e;cases e)]
  exact e
 have ckF:=ck.keep KF
 have dF:upd H1 d (.frz o (.dK kvs)) d = some (.frz o (.dK kvs)):=aF
 generalize upd H1 d (.frz o (.dK kvs)) = H2 at SF ckF dF
 have lk:kvs.length = cm.length:=ck.len
 have hlw2:=SF _ _ hlw
 refine sI (by omega) (fun i ys H'=>H2 = H' ∧ ys = (((keys cm).take i).filter fun z=>decide (z ∈ ws)).map V.str) ⟨rfl,rfl⟩ ?_ ?_ ?_
 ·rintro i ys H' hi ⟨rfl,rfl⟩
  refine ⟨dF,?_⟩
  have:=BP (fun z=>decide (z ∈ ws)) ((keys cm).take i)
  rw [Ac] at this
  rw [AA]
  omega
 ·rintro i kv ys H' K1 K2 hk ⟨rfl,rfl⟩ k1 k2
  have hil:=(AC.mp hk).1
  obtain ⟨⟨z,oo⟩,ez⟩:∃ x,cm[i]? = some x:=⟨_,AB (by omega)⟩
  obtain ⟨vv,ev,_⟩:=ckF.at' i z oo ez
  rw [hk] at ev
  cases ev
  have kz:(keys cm)[i]? = some z:=by unfold keys;rw [AK,ez];rfl
  refine ⟨_,rfl,_,rfl,lw,_,rfl,.inl (SqL.of hlw2),rfl,lE ws,_,rfl,?_⟩
  show (if inV (V.str z) (ws.map V.str) = true then _ else _)
  rw [qU]
  have et:((keys cm).take (i + 1)).filter (fun z=>decide (z ∈ ws)) = ((keys cm).take i).filter (fun z=>decide (z ∈ ws)) ++ (if decide (z ∈ ws) = true then [z] else []):=by
   rw [Ab,kz,Bt]
   cases h:decide (z ∈ ws) <;> simp [h]
   all_goals simpa using h
  cases hg:decide (z ∈ ws) with
  | false =>
   rw [hg] at et
   refine bS (k2 _ ⟨rfl,?_⟩)
   rw [et]
   simp
  | true =>
   rw [hg] at et
   refine dD ⟨_,rfl,k1 _ _ ⟨rfl,?_⟩⟩
   rw [et,if_pos rfl,AX]
   rfl
 rintro ys H3 ⟨rfl,rfl⟩
 rw [AH (by unfold keys;rw [AA];omega)]
 intro le hle
 have S3:=aI.upd (o:=.lst (((keys cm).filter fun z=>decide (z ∈ ws)).map V.str)) hle
 have r3:upd H2 le (.lst (((keys cm).filter fun z=>decide (z ∈ ws)).map V.str)) le = some (.lst (((keys cm).filter fun z=>decide (z ∈ ws)).map V.str)):=aF
 have T3:=SF.trans S3
 have ck3:=ckF.same S3
 have d3:=S3 _ _ dF
 generalize upd H2 le (.lst (((keys cm).filter fun z=>decide (z ∈ ws)).map V.str)) = H3 at S3 r3 T3 ck3 d3
 refine ⟨_,rfl,le,_,rfl,SqL.of r3,?_⟩
 cases ef:(keys cm).filter fun z=>decide (z ∈ ws) with
 | nil =>
  refine bS ⟨bB rfl,fun lp hlp=>?_⟩
  refine q lp [] [] _ (T3.trans (aI.upd hlp)) (T3.free hlp) aF rfl (.inl ⟨rfl,cm,cg,op,fun z mz mk=>?_⟩)
  have:z ∈ (keys cm).filter fun z=>decide (z ∈ ws):=Am.mpr ⟨mk,decide_eq_true mz⟩
  rw [ef] at this
  cases this
 | cons z zr =>
  have mz:z ∈ (keys cm).filter fun z=>decide (z ∈ ws):=by rw [ef];exact AU
  rw [Am] at mz
  have zw:z ∈ ws:=of_decide_eq_true mz.2
  rw [ef] at r3
  refine dD ?_
  refine ⟨_,rfl,_,rfl,le,_,0,.str z,rfl,rfl,SqL.of r3,aN (j:=0) rfl,_,_,rfl,d,kvs,cm,wM G fl,z,rfl,rfl,.inr ⟨o,d3⟩,ck3,cg.came,l13,mz.1,fun lp us' ss H4 S4 nlp hlp iss ch s13=>?_⟩
  refine q lp us' ss H4 (T3.trans S4) (T3.free nlp) hlp iss (.inr ⟨z,ch,zw,fun e=>?_,s13⟩)
  have:=aKE ch e
  rw [this] at zw
  exact ns zw
open Mt53 Mt22 MtF Mt31 Mt61
def aNM (kvs:List (Key × V)):Fl:=fun n=>match eU kvs (Sum.inr n) with
 | some (.int i)=>i
 | _=>0
theorem aHO {H:Hp} {ds:List Dv} {us:List V} (h:IsL H ds us):ds.length = us.length:=by have:=h.length;omega
theorem aHS {G:List Gap} (nd:(G.map (·.nm)).Nodup) (f:Fl) {g:Gap} (m:g ∈ G):aNM (dZ G f) g.nm = f g.nm:=by
 unfold aNM
 rw [show eU (dZ G f) (Sum.inr g.nm) = some (.int (f g.nm)) from yT (f:=fun g=>V.int (f g.nm)) nd m]
theorem xY {G:List Gap} {f f':Fl} (h:∀ g ∈ G,f g.nm = f' g.nm):val G f = val G f':=by
 unfold val net
 rw [cW fun g m=>show aDB f Mt22.sea g = aDB f' Mt22.sea g by unfold aDB;rw [h g m]]
theorem aNK {G:List Gap} {f:Fl} {n:Str} {x:Int} (m:n ∈ G.map (·.nm)):oQ (dZ G f) (Sum.inr n) (.int x) = dZ G (fun k=>if k = n then x else f k):=by
 unfold oQ
 have ha:((dZ G f).any fun kv=>decide (kv.1 = (Sum.inr n:Key))) = true:=by
  obtain ⟨g,mg,e⟩:=AR.mp m
  refine Dr.mpr ⟨_,AR.mpr ⟨g,mg,rfl⟩,?_⟩
  rw [← e]
  exact decide_eq_true rfl
 rw [if_pos ha]
 unfold dZ
 rw [Ao]
 refine BZ fun g _=>?_
 show (if (Sum.inr g.nm:Key) = Sum.inr n then ((Sum.inr g.nm:Key),V.int x) else (Sum.inr g.nm,V.int (f g.nm))) = (Sum.inr g.nm,V.int (if g.nm = n then x else f g.nm))
 by_cases e:g.nm = n
 ·rw [if_pos (by rw [e]),if_pos e]
 ·rw [if_neg (fun c=>e (DM c)),if_neg e]
theorem aNL {G:List Gap} {f:Fl} {s:Mt22.St} {m:Int} (ms:s ∈ Mt61.stepsOf G):oQ (dZ G f) (Sum.inr s.nm) (.int (f s.nm + s.h * m)) = dZ G (kA m f s):=by
 obtain ⟨g,mg,en,_⟩:=pZ ms
 rw [aNK (by rw [← en];exact AR.mpr ⟨g,mg,rfl⟩)]
 unfold dZ
 refine BZ fun g _=>?_
 show (Sum.inr g.nm,V.int (if g.nm = s.nm then f s.nm + s.h * m else f g.nm)) = (Sum.inr g.nm,V.int (if g.nm = s.nm then f g.nm + s.h * m else f g.nm))
 by_cases e:g.nm = s.nm
 ·rw [if_pos e,if_pos e,e]
 ·rw [if_neg e,if_neg e]
theorem nU (G:List Gap) (f:Fl):(dZ G f).length = G.length:=AA _
theorem aJU (G:List Gap) (f:Fl):(dZ G f).map (·.1) = (G.map (·.nm)).map Sum.inr:=by
 unfold dZ
 rw [Ao,Ao]
 rfl
theorem wL {G:List Gap} {f:Fl}:∀ s ∈ wM G f,s ∈ Mt61.stepsOf G:=fun s m=>(Am.mp m).1
def aLE:Sp:=sp3 fun x y u H Q=>∃ (l dm lw:Addr) (o:Obj) (us:List V) (V0:List Str) (G:List Gap) (ws:List Str),x = .ref l ∧ H l = some (.lst us) ∧ IsL H ((Mt61.stepsOf G).map bQ) us ∧ G.length ≤ 40 ∧ V0.length ≤ 13 ∧ Gaps V0 G ∧ y = .ref dm ∧ H dm = some (.frz o (.dK (dN G))) ∧ u = .ref lw ∧ H lw = some (.lst (ws.map V.str)) ∧ Mt22.sea ∉ ws ∧
 ∀ (de:Addr) (f:Fl) (H':Hp),aI H H' → H de = none → H' de = some (.dK (dZ G f)) → Stream V0 G ws f → aOL G f ws → Q (.ref de) H'
theorem oS (T:Txt K mg C):Fc P w K mg base 4 "fullest_stream" ["steps","most","fields"] aLE:=by
 have G_p_path_with_room:Fc P w K mg base 3 "path_with_room" ["steps","most","stream","fields"] aAA:=oR T
 have G_p_room:Fc P w K mg base 1 "room" ["step","most","stream"] aEK:=yO T
 refine T.d_p_fullest_stream.fc cI pQ (fun f cdv A outer s H vs Q E hr h=>?_)
 obtain ⟨x,y,u,rfl,l,dm,lw,o,us,V0,G,ws,rfl,hl,ius,g40,v13,GG,rfl,hm,rfl,hlw,ns,q⟩:=h
 have big:=bT
 have hu:=lC hr
 refine ⟨_,(@aG _ _ _ _ _ (@aW _ _ (3) _ _ _ _ cI.nd rfl (Or.inr rfl) (@cJ _ _ _ _ _ _ _ _ _ (@dJ _ rfl) rfl T.n_dict gK (@aA _ _ _ _ _ (@cE _ _ _ _ _ _ _ _ _ _ _ ["name"] 1 [] rfl (@aME _ _ _ _ (pv 1)) (fun R=>@bC _ _ (0) _ (show Ay (["name"]:List Str) by decide +kernel) rfl (Or.inl rfl) (by trivial)) (@aZ _ _ (by decide)) (fun R=>cC) (fun R=>(@dS _ _ _ _ _ (@aA _ _ _ _ _ (pv 0) (@aA _ _ _ _ _ aE aD (by rfl)) (by rfl)))) (by rfl) (by rfl) (by rfl) (by rfl) (by rfl) (by rfl) (by rfl) (by intro _;rfl)) aD (by rfl)) (by decide) (by decide) (by rfl) (by rfl)) (by rfl) (by trivial)) (@aG _ _ _ _ _ (@aW _ _ (4) _ _ _ _ cI.nd rfl (Or.inl rfl) (@bI _ _ _ _ _ _ _ _ _ _ G_p_path_with_room (hr.mono (by decide)) (@aA _ _ _ _ _ (pv 0) (@aA _ _ _ _ _ (pv 1) (@aA _ _ _ _ _ (pv 3) (@aA _ _ _ _ _ (pv 2) aD (by rfl)) (by rfl)) (by rfl)) (by rfl)) (by rfl) (by decide) (by rfl) (by rfl)) (by rfl) (by trivial)) (@aG _ _ _ _ _ (@mY _ _ _ _ _ _ BJ (@aET _ _ _ (pv 4) (by intro _;rfl)) (@aG _ _ _ _ _ (@aW _ _ (5) _ _ _ _ cI.nd rfl (Or.inl rfl) (@aU _ _ _ _ _ _ _ _ _ (@aKF _ rfl) rfl T.n_min oP (@aA _ _ _ _ _ (@cE _ _ _ _ _ _ _ _ _ _ _ ["step","most","stream"] 1 [1,3] rfl (@bO _ _ _ _ (pv 4)) (fun R=>@bC _ _ (0) _ (show Ay (["step","most","stream"]:List Str) by decide +kernel) rfl (Or.inl rfl) (by trivial)) (@aZ _ _ (by decide)) (fun R=>cC) (fun R=>(@bI _ _ _ _ _ _ _ _ _ _ G_p_room (hr.mono (by decide)) (@aA _ _ _ _ _ (pv 0) (@aA _ _ _ _ _ (pv 1) (@aA _ _ _ _ _ (pv 2) aD (by rfl)) (by rfl)) (by rfl)) (by rfl) (by decide) (by rfl) (by rfl))) (by rfl) (by rfl) (by rfl) (by rfl) (by rfl) (by rfl) (by rfl) (by intro _;rfl)) aD (by rfl)) (by decide) (by decide) (by rfl) (by rfl)) (by rfl) (by trivial)) (@aG _ _ _ _ _ (@hU _ _ _ _ _ _ _ _ BJ rfl (@bO _ _ _ _ (pv 4)) (@bC _ _ (6) _ cI.nd rfl (Or.inl rfl) (by trivial)) (@aH _ _ _ (@aPO _ _ _ _ _ _ _ _ _ _ _ hu (pv 3) (@bG _ _ _ _ _ _ _ (@aQ _ (K) rfl) (pv 6) aE (fun _ _=>rfl)) (@aO _ _ _ _ _ _ _ _ iD (@bG _ _ _ _ _ _ _ (@aQ _ (K) rfl) (pv 6) aE (fun _ _=>rfl)) (pv 5)) aTP (fun _ _ _=>rfl))) (by intro _;rfl)) (@aH _ _ _ (@aW _ _ (4) _ _ _ _ cI.nd rfl (Or.inl rfl) (@bI _ _ _ _ _ _ _ _ _ _ G_p_path_with_room (hr.mono (by decide)) (@aA _ _ _ _ _ (pv 0) (@aA _ _ _ _ _ (pv 1) (@aA _ _ _ _ _ (pv 3) (@aA _ _ _ _ _ (pv 2) aD (by rfl)) (by rfl)) (by rfl)) (by rfl)) (by rfl) (by decide) (by rfl) (by rfl)) (by rfl) (by trivial)))))) (@aH _ _ _ (@aT _ _ _ _ (pv 3)))))),?_⟩
 refine ⟨_,rfl,dm,o,_,rfl,hm,?_⟩
 refine sI (by rw [lD];omega) (fun i ys H'=>aI H H' ∧ bP H' ys (dZ (G.take i) fun _=>0)) ⟨aI.refl _,bP.nil _⟩ ?_ ?_ ?_
 ·rintro i ys H' hi ⟨S',pa⟩
  have:=pa.len
  rw [nU,Ac] at this
  exact ⟨S' _ _ hm,by omega⟩
 ·rintro i kv ys H' K1 K2 hk ⟨S',pa⟩ k1 k2
  unfold dN at hk
  rw [AK] at hk
  obtain ⟨g,eg,ekv⟩:=Aq.mp hk
  have ek:kV kv.1 = V.str g.nm:=by rw [← ekv];rfl
  rw [ek]
  refine ⟨_,rfl,bB rfl,fun p3 hp3=>k1 _ _ ⟨S'.trans (aI.upd hp3),?_⟩⟩
  have e2:dZ (G.take (i + 1)) (fun _=>0) = dZ (G.take i) (fun _=>0) ++ [(Sum.inr g.nm,V.int 0)]:=by
   unfold dZ
   rw [Ab,eg,AX]
   rfl
  rw [e2]
  exact bP.snoc (k:=Sum.inr g.nm) pa hp3
 rintro ys H1 ⟨S1,pa⟩
 rw [lD,AH (AQ _)] at pa
 intro p4 hp4
 have S2:=aI.upd (o:=.lst ys) hp4
 refine ⟨p4,ys,dZ G fun _=>0,rfl,SqL.of aF,pa.same S2,by rw [nU];omega,by rw [aJU];exact (iF _).mpr GG.nd,fun de hde=>?_⟩
 have S3:=aI.upd (o:=.dK (dZ G fun _=>0)) hde
 have T3:=S1.trans (S2.trans S3)
 have nde:=(S1.trans S2).free hde
 have he3:upd (upd H1 p4 (.lst ys)) de (.dK (dZ G fun _=>0)) de = some (.dK (dZ G fun _=>0)):=aF
 generalize upd (upd H1 p4 (.lst ys)) de (.dK (dZ G fun _=>0)) = H3 at S3 T3 he3
 have st0:Stream V0 G ws (fun _=>0):=Stream.none GG ws fun _ _=>rfl
 refine ⟨_,rfl,_,rfl,_,rfl,_,rfl,_,_,_,_,l,dm,de,lw,us,V0,G,fun _=>0,ws,rfl,rfl,T3 _ _ hl,IsL.same T3 _ _ ius,g40,v13,GG,rfl,.inr ⟨o,T3 _ _ hm⟩,rfl,.inl he3,rfl,T3 _ _ hlw,ns,fun lp us4 ss H4 S4 nlp hlp iss go=>?_⟩
 refine mK (fun σ H'=>∃ (f5:Fl) (lp:Addr) (us5:List V) (ss:List Mt22.St) (v5 v6:Option V),σ = [some (.ref l),some (.ref dm),some (.ref lw),some (.ref de),some (.ref lp),v5,v6] ∧ aI H H' ∧ H' de = some (.dK (dZ G f5)) ∧ Stream V0 G ws f5 ∧ H' lp = some (.lst us5) ∧ IsL H' (ss.map bQ) us5 ∧ aVW G f5 ws ss)
  (fun _ H'=>match H' de with | some (.dK kvs)=>(total G - val G (aNM kvs)).toNat | _=>0) ⟨fun _=>0,lp,us4,ss,_,_,rfl,T3.trans S4,S4 _ _ he3,st0,hlp,iss,go⟩ ?_ ?_
 ·rintro σ H5 ⟨f5,lp,us5,ss,v5,v6,rfl,S5,he5,st5,hlp5,iss5,go5⟩
  have lss:=aHO iss5
  rw [AA] at lss
  refine ⟨_,rfl,lp,us5,rfl,SqL.of hlp5,?_⟩
  rcases go5 with ⟨rfl,en⟩ | ⟨z,ch,mz,ne,s13⟩
  ·have:us5 = []:=DQ lss.symm
   subst this
   exact bS ⟨_,rfl,q de f5 H5 S5 nde he5 st5 en⟩
  have une:us5.isEmpty = false:=by
   cases us5 with
   | nil=>exact absurd (DQ lss) ne
   | cons a b=>rfl
  rw [une]
  refine dD ?_
  obtain ⟨csub,cnd⟩:=zI ch
  have rpos:∀ s ∈ ss,0 < Mt61.room G f5 s:=fun s m=>of_decide_eq_true (Am.mp (csub s m)).2
  have hm5:=S5 _ _ hm
  refine ⟨_,rfl,lp,rfl,⟨_,SqL.of hlp5⟩,?_⟩
  refine bM (F:=K) (xs:=us5) (by omega) (fun i ys H'=>H5 = H' ∧ ys = ((ss.take i).map (Mt61.room G f5)).map V.int) ⟨rfl,rfl⟩ ?_ ?_ ?_
  ·rintro i ys H' hi ⟨rfl,rfl⟩
   exact ⟨SqL.of hlp5,by rw [AA,AA,Ac];omega⟩
  ·rintro i xv ys H' K1 K2 hx' ⟨rfl,rfl⟩ k1 k2
   have hil:i < us5.length:=(AC.mp hx').1
   obtain ⟨st,es⟩:∃ st,ss[i]? = some st:=⟨_,AB (by omega)⟩
   obtain ⟨v,ev,iv⟩:=iss5.get (show (ss.map bQ)[i]? = some (bQ st) by rw [AK,es];rfl)
   rw [hx'] at ev
   cases ev
   have ms:=AN es
   refine ⟨_,rfl,_,rfl,_,rfl,_,_,_,rfl,dm,de,V0,G,f5,st,iv,wL _ (csub st ms),GG,rfl,.inr ⟨o,hm5⟩,rfl,.inl he5,k1 _ _ ⟨rfl,?_⟩⟩
   rw [Ab,es,AX,AX]
   rfl
  rintro ys H6 ⟨rfl,rfl⟩
  rw [AH (by omega)]
  intro la hla
  have S6:=aI.upd (o:=.lst ((ss.map (Mt61.room G f5)).map V.int)) hla
  have r6:upd H5 la (.lst ((ss.map (Mt61.room G f5)).map V.int)) la = some (.lst ((ss.map (Mt61.room G f5)).map V.int)):=aF
  generalize upd H5 la (.lst ((ss.map (Mt61.room G f5)).map V.int)) = H6 at S6 r6
  have T6:=S5.trans S6
  refine ⟨la,ss.map (Mt61.room G f5),rfl,SqL.of r6,by rw [AA];exact List.length_pos_iff.mpr ne,fun M mM least=>?_⟩
  have M0:0 < M:=by
   obtain ⟨s,ms,rfl⟩:=AR.mp mM
   exact rpos s ms
  have hM:∀ s ∈ ss,M ≤ Mt61.room G f5 s:=fun s m=>least _ (AR.mpr ⟨s,m,rfl⟩)
  have he6:=S6 _ _ he5
  have hlp6:=S6 _ _ hlp5
  have iss6:=IsL.same S6 _ _ iss5
  refine ⟨_,rfl,lp,rfl,⟨_,SqL.of hlp6⟩,nP (K:=K) (a:=lp) (xs:=us5) (fun i σ H'=>∃ v6,σ = [some (.ref l),some (.ref dm),some (.ref lw),some (.ref de),some (.ref lp),some (.int M),v6] ∧ aI H H' ∧ H' de = some (.dK (dZ G ((ss.take i).foldl (kA M) f5))) ∧ H' lp = some (.lst us5) ∧ IsL H' (ss.map bQ) us5) ⟨_,rfl,T6,he6,hlp6,iss6⟩ ?_ ?_ ?_⟩
  ·rintro i σ H' hi ⟨v6,rfl,S',he',hl',is'⟩
   exact SqL.of hl'
  ·rintro i xv σ H' hx ⟨v6,rfl,S',he',hl',is'⟩
   have hil:i < us5.length:=(AC.mp hx).1
   obtain ⟨st,es⟩:∃ st,ss[i]? = some st:=⟨_,AB (by omega)⟩
   obtain ⟨v,ev,iv⟩:=is'.get (show (ss.map bQ)[i]? = some (bQ st) by rw [AK,es];rfl)
   rw [hx] at ev
   cases ev
   have ms:=wL _ (csub st (AN es))
   obtain ⟨t,rfl,ot⟩:=kK iv
   obtain ⟨g,mg',en,hh⟩:=pZ ms
   have v2:eU (dZ G ((ss.take i).foldl (kA M) f5)) (Sum.inr st.nm) = some (.int (((ss.take i).foldl (kA M) f5) st.nm)):=by rw [← en];exact yT (f:=fun g=>V.int (((ss.take i).foldl (kA M) f5) g.nm)) GG.nd mg'
   refine ⟨_,rfl,_,rfl,t,_,0,.str st.nm,rfl,rfl,SqT.of ot,aN (j:=0) rfl,de,_,rfl,.inl ⟨_,Sum.inr st.nm,.inl he',rfl,v2.symm⟩,?_⟩
   refine ⟨_,rfl,t,_,3,.int st.h,rfl,rfl,SqT.of ot,aN (j:=3) rfl,_,rfl,_,_,rfl,rfl,.inl (by rcases hh with h | h <;> rw [h] <;> exact ⟨by decide,by decide⟩),_,_,rfl,rfl,_,.inl ⟨_,Sum.inr st.nm,he',rfl,by rw [nU];omega,rfl⟩,?_⟩
   rw [aNL ms]
   have nlp':lp ≠ de:=yQ hl' he' (by intro c;cases c)
   have KT:iU H' (upd H' de (.dK (dZ G (kA M ((ss.take i).foldl (kA M) f5) st)))):=fun b ys e=>by
    rw [aK (fun c=>by rw [c,he'] at e;cases e)]
    exact e
   refine ⟨_,rfl,S'.over nde,?_,by rw [aK nlp'];exact hl',IsL.keep KT _ _ (gC fun d m=>?_) is'⟩
   ·rw [aF,Ab,es,List.foldl_append]
    rfl
   ·obtain ⟨s,_,rfl⟩:=AR.mp m
    exact gL s
  ·rintro σ H7 ⟨v6,rfl,S7,he7,hl7,is7⟩
   rw [← lss,AH (AQ _)] at he7
   obtain ⟨st7,va7⟩:=st5.more GG ch wL (DZ M0) hM mz ns
   refine ⟨_,rfl,_,rfl,_,rfl,_,rfl,_,_,_,_,l,dm,de,lw,us,V0,G,ss.foldl (kA M) f5,ws,rfl,rfl,S7 _ _ hl,IsL.same S7 _ _ ius,g40,v13,GG,rfl,.inr ⟨o,S7 _ _ hm⟩,rfl,.inl he7,rfl,S7 _ _ hlw,ns,fun lp8 us8 ss8 H8 S8 nlp8 hlp8 iss8 go8=>?_⟩
   refine ⟨⟨_,lp8,us8,ss8,_,_,rfl,S7.trans S8,S8 _ _ he7,st7,hlp8,iss8,go8⟩,?_⟩
   rw [he5,S8 _ _ he7]
   show (total G - val G (aNM (dZ G (ss.foldl (kA M) f5)))).toNat < (total G - val G (aNM (dZ G f5))).toNat
   rw [xY fun g m=>aHS GG.nd _ m,xY fun g m=>aHS GG.nd f5 m,va7]
   have:=aIL GG st7.fits
   omega
 ·intro σ H Q Q' h hc
  obtain ⟨v,e,p,xs,e2,hq,q⟩:=hc
  exact ⟨v,e,p,xs,e2,hq,h _ _ q⟩
open Mt53 Mt22 MtF Mt31 Mt61
theorem aGA {H:Hp} {kvs:List (Key × V)} {cm:Cm} (h:CamKV H kvs cm) (z:Str):(eU kvs (Sum.inr z)).isSome = decide (z ∈ keys cm):=by
 by_cases m:z ∈ keys cm
 ·rw [h.some m,decide_eq_true m]
 ·rw [h.none m,decide_eq_false m]
  rfl
def aJE (G:List Gap) (R:List Str):List Mt22.St:=(Mt61.stepsOf G).filter fun s=>!decide (s.far ∈ R)
def kF (L:Int) (s:Mt22.St):Dv:=.tup [.str s.nm,.int L]
theorem lF {α:Type} {P:α → Bool} {xs:List α} {i:Nat} {x:α} (e:xs[i]? = some x):(xs.take (i + 1)).filter P = (xs.take i).filter P ++ (if P x = true then [x] else []):=by
 rw [Ab,e,Bt]
 cases h:P x <;> simp [h]
def aLA:Sp:=fun vs H Q _=>∃ (x y u v:V) (l df lw:Addr) (us:List V) (V0:List Str) (G:List Gap) (kvs:List (Key × V)) (cm:Cm) (ws:List Str) (L:Int),vs = [x,y,u,v] ∧ x = .ref l ∧ H l = some (.lst us) ∧ IsL H ((Mt61.stepsOf G).map bQ) us ∧ G.length ≤ 40 ∧ V0.length ≤ 13 ∧ Gaps V0 G ∧ y = .ref df ∧ Rd H df (.dK kvs) ∧ CamKV H kvs cm ∧ u = .ref lw ∧ H lw = some (.lst (ws.map V.str)) ∧ ws.Nodup ∧ (∀ z ∈ ws,z ∈ V0) ∧ v = .int L ∧
 ∀ (cmB:Cm) (lr:Addr) (us':List V) (H':Hp),aI H H' → H lr = none → H' lr = some (.lst us') → IsL H' ((eQ G (keys cm) (keys cmB)).map (kF L)) us' → CameG ws (aJE G (keys cm)) cmB → uD (aJE G (keys cm)) cmB cmB.length → Q (.ref lr) H'
theorem aTE:∀ vs H Q E,aLA vs H Q E → vs.length = 4:=fun vs H Q E ⟨x,y,u,v,l,df,lw,us,V0,G,kvs,cm,ws,L,e,_⟩=>by rw [e];rfl
theorem rN (T:Txt K mg C):Fc P w K mg base 2 "works_round" ["steps","flowed","fields","height"] aLA:=by
 have G_p_spread:Fc P w K mg base 1 "spread" ["starts","steps"] rF:=tH T
 refine T.d_p_works_round.fc kM aTE (fun f cdv A outer s H vs Q E hr h=>?_)
 obtain ⟨x,y,u,v,l,df,lw,us,V0,G,kvs,cm,ws,lv,rfl,rfl,hl,ius,g40,v13,GG,rfl,hf,ck,rfl,hlw,ndw,subw,rfl,q⟩:=h
 have big:=bT
 have hu:=lC hr
 have lus:=aHO ius
 have sl:=oH G
 rw [AA,sl] at lus
 refine ⟨_,(@aG _ _ _ _ _ (@aW _ _ (4) _ _ _ _ kM.nd rfl (Or.inr rfl) (@bI _ _ _ _ _ _ _ _ _ _ G_p_spread (hr.mono (by decide)) (@aA _ _ _ _ _ (pv 2) (@aA _ _ _ _ _ (@cE _ _ _ _ _ _ _ _ _ _ _ ["step","flowed"] 1 [1] rfl (@bO _ _ _ _ (pv 0)) (fun R=>@bC _ _ (0) _ (show Ay (["step","flowed"]:List Str) by decide +kernel) rfl (Or.inl rfl) (by trivial)) (@aZ _ _ (by decide)) (fun R=>@fF _ _ _ (@aAO _ _ _ _ _ _ (@yK _ _ _ _ _ hu (@bG _ _ _ _ _ _ _ (@aQ _ (K) rfl) (pv 0) aE (fun _ _=>rfl)) (pv 1)) (by first | exact nobehind _ (by decide) (by decide) | rfl))) (fun R=>(pv 0)) (by rfl) (by rfl) (by rfl) (by rfl) (by rfl) (by rfl) (by rfl) (by intro _;rfl)) aD (by rfl)) (by rfl)) (by rfl) (by decide) (by rfl) (by rfl)) (by rfl) (by trivial)) (@aH _ _ _ (@aT _ _ _ _ (@cE _ _ _ _ _ _ _ _ _ _ _ ["step","flowed","height","behind"] 1 [1,3,4] rfl (@bO _ _ _ _ (pv 0)) (fun R=>@bC _ _ (0) _ (show Ay (["step","flowed","height","behind"]:List Str) by decide +kernel) rfl (Or.inl rfl) (by trivial)) (@aZ _ _ (by decide)) (fun R=>@fF _ _ _ (@PW.pt _ _ _ (@aES _ _ _ _ _ _ _ (@aAO _ _ _ _ _ _ (@aMK _ _ _ _ _ hu (@bG _ _ _ _ _ _ _ (@aQ _ (K) rfl) (pv 0) aE (fun _ _=>rfl)) (pv 1)) (by first | exact nobehind _ (by decide) (by decide) | rfl)) (@aAN _ _ _ _ (@aAO _ _ _ _ _ _ (@aMK _ _ _ _ _ hu (@bG _ _ _ _ _ _ _ (@aQ _ (K) rfl) (pv 0) aE (fun _ _=>rfl)) (pv 3)) (by first | exact nobehind _ (by decide) (by decide) | rfl)))))) (fun R=>(@dS _ _ _ _ _ (@aA _ _ _ _ _ (@bG _ _ _ _ _ _ _ (@aQ _ (K) rfl) (pv 0) aE (fun _ _=>rfl)) (@aA _ _ _ _ _ (pv 2) aD (by rfl)) (by rfl)))) (by rfl) (by rfl) (by rfl) (by rfl) (by rfl) (by rfl) (by rfl) (by intro _;rfl))))),?_⟩
 refine ⟨_,rfl,_,rfl,l,rfl,⟨_,SqL.of hl⟩,?_⟩
 refine bM (F:=K) (xs:=us) (by omega) (fun i ys H'=>H = H' ∧ IsL H' ((((Mt61.stepsOf G).take i).filter fun s=>!decide (s.far ∈ keys cm)).map bQ) ys) ⟨rfl,rfl⟩ ?_ ?_ ?_
 ·rintro i ys H' hi ⟨rfl,iy⟩
  refine ⟨SqL.of hl,?_⟩
  have:=iy.length
  have:=BP (fun s:Mt22.St=>!decide (s.far ∈ keys cm)) ((Mt61.stepsOf G).take i)
  rw [Ac] at this
  rw [AA] at *
  omega
 ·rintro i xv ys H' K1 K2 hx' ⟨rfl,iy⟩ k1 k2
  have hil:i < us.length:=(AC.mp hx').1
  obtain ⟨st,es⟩:∃ st,(Mt61.stepsOf G)[i]? = some st:=⟨_,AB (by omega)⟩
  obtain ⟨v,ev,iv⟩:=ius.get (show ((Mt61.stepsOf G).map bQ)[i]? = some (bQ st) by rw [AK,es];rfl)
  rw [hx'] at ev
  cases ev
  obtain ⟨t,rfl,o⟩:=kK iv
  have et:=lF (P:=fun s:Mt22.St=>!decide (s.far ∈ keys cm)) es
  refine ⟨_,rfl,t,_,2,.str st.far,rfl,rfl,SqT.of o,aN (j:=2) rfl,_,rfl,df,_,rfl,.inl ⟨kvs,Sum.inr st.far,hf,rfl,rfl⟩,_,rfl,?_⟩
  rw [aGA ck]
  cases hg:(!decide (st.far ∈ keys cm)) with
  | false =>
   rw [hg] at et
   refine bS (k2 _ ⟨rfl,?_⟩)
   rw [et]
   simpa using iy
  | true =>
   rw [hg] at et
   refine dD ⟨_,rfl,k1 _ _ ⟨rfl,?_⟩⟩
   rw [et,if_pos rfl,AX]
   exact IsL.snoc iv iy
 rintro ys H2 ⟨rfl,iy⟩
 rw [AH (by omega)] at iy
 intro l2 h2
 have S2:=aI.upd (o:=.lst ys) h2
 refine ⟨_,_,rfl,lw,l2,ys,aJE G (keys cm),ws,V0,rfl,rfl,ndw,subw,S2 _ _ hlw,aF,IsL.same S2 _ _ iy,?_,v13,fun s m=>(aHW GG (Am.mp m).1).2,fun db cmB kvB H3 S3 ndb hdb ckB cgB opB l13=>?_⟩
 ·have:=BP (fun s:Mt22.St=>!decide (s.far ∈ keys cm)) (Mt61.stepsOf G)
  unfold aJE
  omega
 have T3:=S2.trans S3
 have ius3:=IsL.same T3 _ _ ius
 refine ⟨_,rfl,l,rfl,⟨_,SqL.of (T3 _ _ hl)⟩,?_⟩
 refine bM (F:=K) (xs:=us) (by omega) (fun i ys H'=>aI H3 H' ∧ IsL H' ((((Mt61.stepsOf G).take i).filter fun s=>decide (s.near ∈ keys cm) && decide (s.far ∈ keys cmB)).map (kF lv)) ys) ⟨aI.refl _,rfl⟩ ?_ ?_ ?_
 ·rintro i ys H' hi ⟨S',iy⟩
  refine ⟨SqL.of (S' _ _ (T3 _ _ hl)),?_⟩
  have:=iy.length
  have:=BP (fun s:Mt22.St=>decide (s.near ∈ keys cm) && decide (s.far ∈ keys cmB)) ((Mt61.stepsOf G).take i)
  rw [Ac] at this
  rw [AA] at *
  omega
 ·rintro i xv ys H' K1 K2 hx' ⟨S',iy⟩ k1 k2
  have hil:i < us.length:=(AC.mp hx').1
  obtain ⟨st,es⟩:∃ st,(Mt61.stepsOf G)[i]? = some st:=⟨_,AB (by omega)⟩
  obtain ⟨v,ev,iv⟩:=(IsL.same S' _ _ ius3).get (show ((Mt61.stepsOf G).map bQ)[i]? = some (bQ st) by rw [AK,es];rfl)
  rw [hx'] at ev
  cases ev
  obtain ⟨t,rfl,o⟩:=kK iv
  have et:=lF (P:=fun s:Mt22.St=>decide (s.near ∈ keys cm) && decide (s.far ∈ keys cmB)) es
  have no:(decide (st.near ∈ keys cm) && decide (st.far ∈ keys cmB)) = false → K2 H':=fun hg=>by
   refine k2 _ ⟨S',?_⟩
   rw [et,hg]
   simpa using iy
  refine ⟨_,rfl,t,_,1,.str st.near,rfl,rfl,SqT.of o,aN (j:=1) rfl,_,rfl,df,_,rfl,.inl ⟨kvs,Sum.inr st.near,qG hf (T3.trans S'),rfl,rfl⟩,_,rfl,?_⟩
  rw [aGA ck]
  cases h1:decide (st.near ∈ keys cm) with
  | false=>exact bS (no (by rw [h1];rfl))
  | true =>
   refine dD ?_
   refine ⟨_,rfl,t,_,2,.str st.far,rfl,rfl,SqT.of o,aN (j:=2) rfl,_,rfl,db,_,rfl,.inl ⟨kvB,Sum.inr st.far,.inl (S' _ _ hdb),rfl,rfl⟩,_,rfl,?_⟩
   rw [aGA ckB]
   cases h2:decide (st.far ∈ keys cmB) with
   | false=>exact bS (no (by rw [h1,h2];rfl))
   | true =>
    refine dD ⟨_,rfl,t,_,0,.str st.nm,rfl,rfl,SqT.of o,aN (j:=0) rfl,_,rfl,bB rfl,fun ta hta=>k1 _ _ ⟨S'.trans (aI.upd hta),?_⟩⟩
    rw [h1,h2] at et
    rw [et,AX]
    exact IsL.snoc (show Is _ (kF lv st) (.ref ta) from ⟨ta,_,rfl,aF,_,_,rfl,rfl,_,_,rfl,rfl,rfl⟩) (IsL.same (aI.upd hta) _ _ iy)
 rintro ys4 H4 ⟨S4,iy4⟩
 rw [AH (by omega)] at iy4
 intro lr hlr
 have S5:=aI.upd (o:=.lst ys4) hlr
 exact q cmB lr ys4 _ (T3.trans (S4.trans S5)) ((T3.trans S4).free hlr) aF (IsL.same S5 _ _ iy4) cgB opB
open Mt53 Mt22 MtF Mt31 Mt61
theorem aOC {zs:List Str} {S:List Mt22.St} {cm:Cm} (h:CameG zs S cm) {R:List Str} (hz:∀ z ∈ zs,z ∈ R) (cl:∀ s ∈ S,s.near ∈ R → s.far ∈ R):∀ z ∈ keys cm,z ∈ R:=by
 have:∀ (n i:Nat) (z:Str),i < n → (keys cm)[i]? = some z → z ∈ R:=by
  intro n
  induction n with
  | zero=>intro i z hi;omega
  | succ n ih =>
   intro i z hi e
   unfold keys at e
   rw [AK] at e
   obtain ⟨⟨z',o⟩,e',rfl⟩:=Aq.mp e
   by_cases hl:i < zs.length
   ·obtain ⟨y,ey⟩:∃ y,zs[i]? = some y:=⟨_,AB hl⟩
    have:=h.first i y ey
    rw [e'] at this
    cases this
    exact hz _ (AN ey)
   ·obtain ⟨s,_,ms,ef,hn⟩:=h.prev i z' o (by omega) e'
    obtain ⟨j,hj⟩:=BD.mp hn
    have hjl:=(AC.mp hj).1
    unfold keys at hjl
    rw [AA,Ac] at hjl
    have hj':(keys cm)[j]? = some s.near:=by
     unfold keys at hj ⊢
     rw [AK,Bq (by omega)] at hj
     rw [AK]
     exact hj
    show z' ∈ R
    rw [← ef]
    exact cl s ms (ih j _ (by omega) hj')
 intro z m
 obtain ⟨i,hi⟩:=BD.mp m
 exact this (i + 1) i z (by omega) hi
theorem aLR {V0:List Str} {G:List Gap} (GG:Gaps V0 G) {f:Fl} {ws:List Str} (en:aOL G f ws) {cm cmB:Cm} (cg:CameG [Mt22.sea] (wM G f) cm) (op:uD (wM G f) cm cm.length) (cgB:CameG ws (aJE G (keys cm)) cmB) (opB:uD (aJE G (keys cm)) cmB cmB.length):Round G f ws (keys cm) (keys cmB):=by
 obtain ⟨cm1,cg1,op1,out⟩:=en
 have sub:=aOC cg (R:=keys cm1) (fun z m=>by rw [AW.mp m];exact cg1.start (AW.mpr rfl)) (nA op1)
 have wout:∀ z ∈ ws,z ∉ keys cm:=fun z m k=>out z m (sub z k)
 refine ⟨cg.start (AW.mpr rfl),fun s ms hr hn=>?_,wout,fun z m=>cgB.start m,fun z m=>?_,fun s ms hf hn=>?_⟩
 ·exact nA op s (Am.mpr ⟨ms,decide_eq_true hr⟩) hn
 ·rcases cgB.mem m with m | ⟨s,ms,rfl⟩
  ·exact wout z m
  ·have:=(Am.mp ms).2
   simpa using this
 ·exact nA opB s (Am.mpr ⟨ms,by simpa using hf⟩) hn
theorem aCM {R B:List Str} (out:∀ z ∈ B,z ∉ R):∀ {G:List Gap},(G.map (·.nm)).Nodup → ((eQ G R B).map (·.nm)).Nodup ∧ ∀ n ∈ (eQ G R B).map (·.nm),n ∈ G.map (·.nm)
 | [],_=>⟨by simp [eQ,Mt61.stepsOf],fun n m=>by simp [eQ,Mt61.stepsOf] at m⟩
 | g :: G,nd=>by
  rw [AY,Ak] at nd
  obtain ⟨h1,h2⟩:=aCM out nd.2
  have e:eQ (g :: G) R B = ([up g,dn g].filter fun s=>decide (s.near ∈ R) && decide (s.far ∈ B)) ++ eQ G R B:=by
   unfold eQ Mt61.stepsOf
   rw [Di,Bt]
  have hf:([up g,dn g].filter fun s=>decide (s.near ∈ R) && decide (s.far ∈ B)) = [] ∨ ∃ s,s.nm = g.nm ∧ ([up g,dn g].filter fun s=>decide (s.near ∈ R) && decide (s.far ∈ B)) = [s]:=by
   rw [Bw]
   cases hu:(decide ((up g).near ∈ R) && decide ((up g).far ∈ B)) with
   | true =>
    rw [Aj] at hu
    have ub:g.b ∈ B:=of_decide_eq_true hu.2
    have:(decide ((dn g).near ∈ R) && decide ((dn g).far ∈ B)) = false:=by
     have:(dn g).near ∉ R:=out _ ub
     rw [decide_eq_false this]
     rfl
    rw [Bw,this]
    exact .inr ⟨up g,rfl,rfl⟩
   | false =>
    rw [Bw]
    cases hd:(decide ((dn g).near ∈ R) && decide ((dn g).far ∈ B)) with
    | true=>exact .inr ⟨dn g,rfl,rfl⟩
    | false=>exact .inl rfl
  rw [e]
  rcases hf with hf | ⟨s,en,hf⟩
  ·rw [hf,EC]
   exact ⟨h1,fun n m=>AO _ (h2 n m)⟩
  ·rw [hf]
   refine ⟨?_,fun n m=>?_⟩
   ·rw [AX,AY,Ch,EE,Ak,en]
    exact ⟨fun m=>nd.1 (h2 _ m),h1⟩
   ·rw [AX] at m
    rcases Au.mp m with m | m
    ·rw [AY,Ch,AW,en] at m
     rw [m]
     exact AU
    ·exact AO _ (h2 n m)
theorem yI {G:List Gap} {R B:List Str}:∀ s ∈ eQ G R B,s ∈ Mt61.stepsOf G:=fun s m=>(Am.mp m).1
theorem aDT {fs ds:List Dv} {zs:List Str} (gd:GoodD zs ds) {L:Int} {V0:List Str} (GG:Gaps V0 (aP fs ds L)) {s:Mt22.St} (m:s ∈ Mt61.stepsOf (aP fs ds L)):aDU ds (kF L s) = rB (aP fs ds L) s.nm ∧ s.nm ∈ ds.map bA ∧ hZ ds s.nm ≤ L:=by
 obtain ⟨g,mg,en,_⟩:=pZ m
 obtain ⟨d,md,hg,rfl,ed⟩:=aDN gd mg
 have ec:=wU gd.nd md
 have er:=aHB gd.nd md
 have cap:=nV GG mg
 rw [← en,← ed]
 rw [← ed] at cap
 refine ⟨?_,AR.mpr ⟨d,md,rfl⟩,?_⟩
 ·show vG ds s.nm * (L - hZ ds s.nm) = _
  rw [← en,← ed,cap,ec,er]
  obtain ⟨n,a,b,c,r,sl,rfl,_⟩:=bV (gd.all d md)
  rfl
 ·rw [ec]
  obtain ⟨n,a,b,c,r,sl,rfl,_⟩:=bV (gd.all d md)
  have h1:c < L:=of_decide_eq_true (BK.mp (show (decide (c < L) && (uA fs L a && uA fs L b)) = true from hg)).1
  show c ≤ L
  omega
theorem aED {fs ds:List Dv} {zs:List Str} (gd:GoodD zs ds) {L:Int} (hL:hgt L = true) {V0:List Str} (GG:Gaps V0 (aP fs ds L)) {R B:List Str} (out:∀ z ∈ B,z ∉ R):GoodW ds ((eQ (aP fs ds L) R B).map (kF L)):=by
 refine ⟨fun d m=>?_,?_⟩
 ·obtain ⟨s,ms,rfl⟩:=AR.mp m
  obtain ⟨_,h2,h3⟩:=aDT gd GG (yI s ms)
  show (decide (s.nm ∈ ds.map bA) && (hgt L && decide (hZ ds s.nm ≤ L))) = true
  rw [decide_eq_true h2,hL,decide_eq_true h3]
  rfl
 ·rw [Ao]
  exact (aCM out GG.nd).1
theorem aEE {fs ds:List Dv} {zs:List Str} (gd:GoodD zs ds) {L:Int} {V0:List Str} (GG:Gaps V0 (aP fs ds L)) {f:Fl} {ws R B:List Str} (st:Stream V0 (aP fs ds L) ws f) (r:Round (aP fs ds L) f ws R B):aBK ds ((eQ (aP fs ds L) R B).map (kF L)) = val (aP fs ds L) f:=by
 rw [← aER GG st r]
 unfold aBK
 rw [Ao]
 show sm _ _ = _
 exact cW fun s m=>(aDT gd GG (yI s m)).1
theorem aIZ {G:List Gap} {R B:List Str}:(eQ G R B).length ≤ 2 * G.length:=by
 rw [← oH]
 exact BP _ _
def aRU (f:Fl) (g:Gap):Dv:=.tup [.str g.nm,.int (f g.nm)]
def aOJ (G:List Gap) (f:Fl):List Dv:=(G.filter fun g=>!decide (f g.nm = 0)).map (aRU f)
def uS (C:Addr):Sp:=sp3 fun x y u H Q=>∃ (p l:Addr) (fs ds:List Dv) (zs:List Str) (L:Int),x = .ref p ∧ LandAt C H p fs ds ∧ y = .ref l ∧ H l = some (.lst (zs.map V.str)) ∧ 1 ≤ zs.length ∧ zs.Nodup ∧ (∀ z ∈ zs,z ∈ fs.map bA) ∧ u = .int L ∧ hgt L = true ∧
 ∀ (t lk la:Addr) (uk ua:List V) (f:Fl) (R B:List Str) (H':Hp),aI H H' → H t = none → H lk = none → H la = none → lk ≠ la → H' t = some (.tup [.int (val (aP fs ds L) f),.ref lk,.ref la]) → H' lk = some (.lst uk) → IsL H' ((eQ (aP fs ds L) R B).map (kF L)) uk → H' la = some (.lst ua) → IsL H' (aOJ (aP fs ds L) f) ua → Stream ("sea" :: fs.map bA) (aP fs ds L) zs f → Round (aP fs ds L) f zs R B → Q (.ref t) H'
theorem tI (T:Txt K mg C):Fc P w K mg base 6 "fewest" ["land","fields","height"] (uS C):=by
 have G_p_check_wish:Fc P w K mg base 3 "check_wish" ["land","fields","height"] (uR C):=mC T
 have G_p_gap_coins:Fc P w K mg base 4 "gap_coins" ["land","height"] (aLD C):=vO T
 have G_p_steps_over:Fc P w K mg base 2 "steps_over" ["land","names"] (aCA C):=tW T
 have G_p_fullest_stream:Fc P w K mg base 4 "fullest_stream" ["steps","most","fields"] aLE:=oS T
 have G_p_reached:Fc P w K mg base 2 "reached" ["steps","most","stream"] rG:=qN T
 have G_p_works_round:Fc P w K mg base 2 "works_round" ["steps","flowed","fields","height"] aLA:=rN T
 have G_p_coins_of:Fc P w K mg base 5 "coins_of" ["land","works"] (yD C):=xP T
 refine T.d_p_fewest.fc gM pQ (fun f cdv A outer s H vs Q E hr h=>?_)
 obtain ⟨x,y,u,rfl,p,l,fs,ds,zs,lv,rfl,L,rfl,hl,l1,nd,sub,rfl,hL,q⟩:=h
 have big:=bT
 have hu:=lC hr
 have gf:=(bZ L).1
 have gd:=(bZ L).2
 have d2:=gd.l2
 have f2:=gf.l2
 have GG:=lX gf gd lv
 have gl:=qW fs ds lv
 have v13:(("sea":Str) :: fs.map bA).length ≤ 13:=by rw [Ag,AA];omega
 have ns:Mt22.sea ∉ zs:=fun m=>by
  obtain ⟨d,md,e⟩:=AR.mp (sub _ m)
  obtain ⟨z,g,u,rfl,hz,_⟩:=cB (gf.all d md)
  exact aAG hz e
 refine ⟨_,(@aG _ _ _ _ _ (@hV _ _ _ _ (@bI _ _ _ _ _ _ _ _ _ _ G_p_check_wish (hr.mono (by decide)) (@aA _ _ _ _ _ (pv 0) (@aA _ _ _ _ _ (pv 1) (@aA _ _ _ _ _ (pv 2) aD (by rfl)) (by rfl)) (by rfl)) (by rfl) (by decide) (by rfl) (by rfl)) (by rfl)) (@aG _ _ _ _ _ (@aW _ _ (3) _ _ _ _ gM.nd rfl (Or.inl rfl) (@bI _ _ _ _ _ _ _ _ _ _ G_p_gap_coins (hr.mono (by decide)) (@aA _ _ _ _ _ (pv 0) (@aA _ _ _ _ _ (pv 2) aD (by rfl)) (by rfl)) (by rfl) (by decide) (by rfl) (by rfl)) (by rfl) (by trivial)) (@aG _ _ _ _ _ (@aW _ _ (4) _ _ _ _ gM.nd rfl (Or.inl rfl) (@bI _ _ _ _ _ _ _ _ _ _ G_p_steps_over (hr.mono (by decide)) (@aA _ _ _ _ _ (pv 0) (@aA _ _ _ _ _ (pv 3) aD (by rfl)) (by rfl)) (by rfl) (by decide) (by rfl) (by rfl)) (by rfl) (by trivial)) (@aG _ _ _ _ _ (@aW _ _ (5) _ _ _ _ gM.nd rfl (Or.inr rfl) (@bI _ _ _ _ _ _ _ _ _ _ G_p_fullest_stream (hr.mono (by decide)) (@aA _ _ _ _ _ (pv 4) (@aA _ _ _ _ _ (pv 3) (@aA _ _ _ _ _ (pv 1) aD (by rfl)) (by rfl)) (by rfl)) (by rfl) (by decide) (by rfl) (by rfl)) (by rfl) (by trivial)) (@aG _ _ _ _ _ (@aW _ _ (6) _ _ _ _ gM.nd rfl (Or.inl rfl) (@bI _ _ _ _ _ _ _ _ _ _ G_p_works_round (hr.mono (by decide)) (@aA _ _ _ _ _ (pv 4) (@aA _ _ _ _ _ (@bI _ _ _ _ _ _ _ _ _ _ G_p_reached (hr.mono (by decide)) (@aA _ _ _ _ _ (pv 4) (@aA _ _ _ _ _ (pv 3) (@aA _ _ _ _ _ (pv 5) aD (by rfl)) (by rfl)) (by rfl)) (by rfl) (by decide) (by rfl) (by rfl)) (@aA _ _ _ _ _ (pv 1) (@aA _ _ _ _ _ (pv 2) aD (by rfl)) (by rfl)) (by rfl)) (by rfl)) (by rfl) (by decide) (by rfl) (by rfl)) (by rfl) (by trivial)) (@aG _ _ _ _ _ (@gI _ (7) _ _ _ _ _ _ _ _ _ _ _ _ _ gM.nd rfl ["name","stream"] 1 [5] rfl (@aAQ _ _ _ _ (pv 5)) (fun R=>@bC _ _ (0) _ (show Ay (["name","stream"]:List Str) by decide +kernel) rfl (Or.inl rfl) (by trivial)) (@aZ _ _ (by decide)) (fun R=>@fF _ _ _ (@cD _ _ _ _ _ _ _ _ yM (@gH _ _ _ _ _ _ hu (pv 1) (pv 0) (fun _ _=>rfl)) aE (@bY _ _ (by decide) (by decide)))) (fun R=>(@dS _ _ _ _ _ (@aA _ _ _ _ _ (pv 0) (@aA _ _ _ _ _ (@gH _ _ _ _ _ _ hu (pv 1) (pv 0) (fun _ _=>rfl)) aD (by rfl)) (by rfl)))) (by exact Or.inl rfl) (by trivial) (by rfl) (by rfl) (by rfl) (by rfl) (by rfl) (by rfl) (by rfl) (by rfl) (by intro _;rfl)) (@aH _ _ _ (@aT _ _ _ _ (@dS _ _ _ _ _ (@aA _ _ _ _ _ (@bI _ _ _ _ _ _ _ _ _ _ G_p_coins_of (hr.mono (by decide)) (@aA _ _ _ _ _ (pv 0) (@aA _ _ _ _ _ (pv 6) aD (by rfl)) (by rfl)) (by rfl) (by decide) (by rfl) (by rfl)) (@aA _ _ _ _ _ (pv 6) (@aA _ _ _ _ _ (pv 7) aD (by rfl)) (by rfl)) (by rfl))))))))))),?_⟩
 refine ⟨_,rfl,_,rfl,_,rfl,_,_,_,rfl,p,l,fs,ds,zs,lv,rfl,L,rfl,hl,l1,nd,sub,rfl,hL,fun H1 S1=>?_⟩
 refine ⟨_,rfl,_,rfl,_,_,rfl,p,fs,ds,lv,rfl,L.same S1,rfl,fun dm H2 S2 nm2 hm2=>?_⟩
 have T2:=S1.trans S2
 refine ⟨_,rfl,_,rfl,_,_,rfl,p,dm,fs,ds,lv,rfl,L.same T2,rfl,hm2,fun o ls us H3 S3 nls hls ius=>?_⟩
 have nmH:H dm = none:=S1.free nm2
 have T3:aI H H3:=fun b u e=>S3 _ _ (by rw [aK (fun c=>by rw [c,nmH] at e;cases e)];exact T2 _ _ e)
 have hm3:H3 dm = some (.frz o (.dK (dN (aP fs ds lv)))):=S3 _ _ aF
 refine ⟨_,rfl,_,rfl,_,rfl,_,_,_,rfl,ls,dm,l,o,us,"sea" :: fs.map bA,aP fs ds lv,zs,rfl,hls,ius,by omega,v13,GG,rfl,hm3,rfl,T3 _ _ hl,ns,fun de fl H4 S4 nde hde st en=>?_⟩
 have T4:=T3.trans S4
 have ius4:=IsL.same S4 _ _ ius
 refine ⟨_,rfl,_,rfl,_,rfl,_,rfl,_,_,_,rfl,ls,dm,de,us,"sea" :: fs.map bA,aP fs ds lv,fl,rfl,S4 _ _ hls,ius4,by omega,v13,GG,rfl,.inr ⟨o,S4 _ _ hm3⟩,rfl,.inl hde,fun df cm kvs H5 S5 ndf hdf ck cg op l13=>?_⟩
 have T5:=T4.trans S5
 refine ⟨_,rfl,_,rfl,_,_,_,_,ls,df,l,us,"sea" :: fs.map bA,aP fs ds lv,kvs,cm,zs,lv,rfl,rfl,(S4.trans S5) _ _ hls,IsL.same S5 _ _ ius4,by omega,v13,GG,rfl,.inl hdf,ck,rfl,T5 _ _ hl,nd,fun z m=>AO _ (sub z m),rfl,fun cmB lk uk H6 S6 nlk hlk iuk cgB opB=>?_⟩
 have rd:=aLR GG en cg op cgB opB
 have T6:=T5.trans S6
 have hde6:=(S5.trans S6) _ _ hde
 have ndeH:H de = none:=T3.free nde
 refine ⟨_,rfl,de,_,rfl,hde6,fun o2=>?_⟩
 have T7:aI H (upd H6 de (.frz o2 (.dK (dZ (aP fs ds lv) fl)))):=T6.over ndeH
 have K7:iU H6 (upd H6 de (.frz o2 (.dK (dZ (aP fs ds lv) fl)))):=fun b ys e=>by
  rw [aK (fun c=>by rw [c,hde6] at e;cases e)]
  exact e
 have iuk7:IsL (upd H6 de (.frz o2 (.dK (dZ (aP fs ds lv) fl)))) ((eQ (aP fs ds lv) (keys cm) (keys cmB)).map (kF lv)) uk:=IsL.keep K7 _ _ (gC fun d m=>by obtain ⟨s,_,rfl⟩:=AR.mp m;rfl) iuk
 have hlk7:upd H6 de (.frz o2 (.dK (dZ (aP fs ds lv) fl))) lk = some (.lst uk):=by rw [aK (yQ hlk hde6 (by intro c;cases c))];exact hlk
 have dF:upd H6 de (.frz o2 (.dK (dZ (aP fs ds lv) fl))) de = some (.frz o2 (.dK (dZ (aP fs ds lv) fl))):=aF
 generalize upd H6 de (.frz o2 (.dK (dZ (aP fs ds lv) fl))) = H7 at T7 iuk7 hlk7 dF
 refine sI (by rw [nU];omega) (fun i ys H'=>aI H7 H' ∧ IsL H' (aOJ ((aP fs ds lv).take i) fl) ys) ⟨aI.refl _,rfl⟩ ?_ ?_ ?_
 ·rintro i ys H' hi ⟨S',iy⟩
  refine ⟨S' _ _ dF,?_⟩
  have:=iy.length
  unfold aOJ at this
  have:=BP (fun g:Gap=>!decide (fl g.nm = 0)) ((aP fs ds lv).take i)
  rw [Ac] at this
  rw [AA] at *
  omega
 ·rintro i kv ys H' K1 K2 hk ⟨S',iy⟩ k1 k2
  unfold dZ at hk
  rw [AK] at hk
  obtain ⟨g,eg,ekv⟩:=Aq.mp hk
  have mg':=AN eg
  have ek:kV kv.1 = V.str g.nm:=by rw [← ekv];rfl
  rw [ek]
  have v2:eU (dZ (aP fs ds lv) fl) (Sum.inr g.nm) = some (.int (fl g.nm)):=yT (f:=fun g=>V.int (fl g.nm)) GG.nd mg'
  have et:=lF (P:=fun g:Gap=>!decide (fl g.nm = 0)) eg
  refine ⟨_,rfl,_,rfl,de,_,rfl,.inl ⟨_,Sum.inr g.nm,.inr ⟨o2,S' _ _ dF⟩,rfl,v2.symm⟩,rfl,_,rfl,?_⟩
  rw [jD]
  cases hg:(!decide (fl g.nm = 0)) with
  | false =>
   rw [hg] at et
   refine bS (k2 _ ⟨S',?_⟩)
   unfold aOJ at iy ⊢
   rw [et]
   simpa using iy
  | true =>
   rw [hg] at et
   refine dD ⟨_,rfl,_,rfl,_,rfl,de,_,rfl,.inl ⟨_,Sum.inr g.nm,.inr ⟨o2,S' _ _ dF⟩,rfl,v2.symm⟩,bB rfl,fun ta hta=>k1 _ _ ⟨S'.trans (aI.upd hta),?_⟩⟩
   unfold aOJ
   rw [et,if_pos rfl,AX]
   exact IsL.snoc (show Is _ (aRU fl g) (.ref ta) from ⟨ta,_,rfl,aF,_,_,rfl,rfl,_,_,rfl,rfl,rfl⟩) (IsL.same (aI.upd hta) _ _ iy)
 rintro ua H8 ⟨S8,iua⟩
 rw [nU,AH (AQ _)] at iua
 intro la hla
 have S9:=aI.upd (o:=.lst ua) hla
 have r9:upd H8 la (.lst ua) la = some (.lst ua):=aF
 have T9:=T7.trans (S8.trans S9)
 have nla:=(T7.trans S8).free hla
 have U9:=S8.trans S9
 have iua9:=IsL.same S9 _ _ iua
 have nlka:lk ≠ la:=aY (S8 _ _ hlk7) hla
 generalize upd H8 la (.lst ua) = H9 at S9 r9 T9 U9 iua9
 have iuk9:=IsL.same U9 _ _ iuk7
 have hlk9:=U9 _ _ hlk7
 have rl:=aIZ (G:=aP fs ds lv) (R:=keys cm) (B:=keys cmB)
 refine ⟨_,rfl,_,rfl,_,_,rfl,p,fs,ds,(eQ (aP fs ds lv) (keys cm) (keys cmB)).map (kF lv),rfl,L.same T9,⟨lk,uk,rfl,hlk9,iuk9⟩,by rw [AA];omega,aED gd hL GG rd.bout,_,rfl,_,rfl,bB rfl,fun t ht=>?_⟩
 have S10:=aI.upd (o:=.tup [.int (aBK ds ((eQ (aP fs ds lv) (keys cm) (keys cmB)).map (kF lv))),.ref lk,.ref la]) ht
 refine q t lk la uk ua fl (keys cm) (keys cmB) _ (T9.trans S10) (T9.free ht) (T5.free nlk) nla nlka ?_ (S10 _ _ hlk9) (IsL.same S10 _ _ iuk9) (S10 _ _ r9) (IsL.same S10 _ _ iua9) st rd
 rw [aF,aEE gd GG st rd]
open Mt53 Mt22 MtF Mt31 Mt61
theorem wC {V0:List Str} {G:List Gap} (GG:Gaps V0 G):eS G [] 0:=by
 refine ⟨⟨fun _=>false,rfl,fun z m=>(nomatch m),eB fun g _=>if_pos rfl⟩,fun X _ _=>?_⟩
 have:sm G (fun _=>(0:Int)) ≤ sm G (lJ X):=sU fun g m=>by
  have:=GG.cap g m
  unfold lJ
  split <;> omega
 rw [eB fun _ _=>rfl] at this
 exact this
def aGS:Sp:=sp1 fun x H Q=>∃ L:Int,x = .int L ∧ hgt L = true ∧ Q (.int 0) H
theorem qP (T:Txt K mg C):Fc P w K mg base 3 "cost_of_none" ["height"] aGS:=by
 have G_p_is_height:Fc P w K mg base 2 "is_height" ["thing"] jI:=dW T
 refine T.d_p_cost_of_none.fc qC oT (fun f cdv A outer s H vs Q E hr h=>?_)
 obtain ⟨x,rfl,lv,rfl,hL,q⟩:=h
 refine ⟨_,(@aG _ _ _ _ _ (@fL _ _ _ _ _ _ _ _ (@eR _ _ _ _ (@eF _ _ _ (@bI _ _ _ _ _ _ _ _ _ _ G_p_is_height (hr.mono (by decide)) (@aA _ _ _ _ _ (pv 0) aD (by rfl)) (by rfl) (by decide) (by rfl) (by rfl)) (by intro _;rfl))) (@aH _ _ _ kW) cL) (@aH _ _ _ (@aT _ _ _ _ aE))),?_⟩
 refine ⟨_,rfl,_,rfl,.int lv,rfl,_,rfl,?_⟩
 rw [show gB (.int lv) = true from hL]
 exact bS q
def aLI (C:Addr):Sp:=sp3 fun x y u H Q=>∃ (p l:Addr) (fs ds:List Dv) (zs:List Str) (L:Int),x = .ref p ∧ LandAt C H p fs ds ∧ y = .ref l ∧ H l = some (.lst (zs.map V.str)) ∧ zs.Nodup ∧ (∀ z ∈ zs,z ∈ fs.map bA) ∧ u = .int L ∧ hgt L = true ∧
 ∀ (c:Int) (H':Hp),aI H H' → eS (aP fs ds L) zs c → Q (.int c) H'
theorem aJH (T:Txt K mg C):Fc P w K mg base 7 "cost" ["land","fields","height"] (aLI C):=by
 have G_p_cost_of_none:Fc P w K mg base 3 "cost_of_none" ["height"] aGS:=qP T
 have G_p_fewest:Fc P w K mg base 6 "fewest" ["land","fields","height"] (uS C):=tI T
 refine T.d_p_cost.fc aIY pQ (fun f cdv A outer s H vs Q E hr h=>?_)
 obtain ⟨x,y,u,rfl,p,l,fs,ds,zs,lv,rfl,L,rfl,hl,nd,sub,rfl,hL,q⟩:=h
 have gf:=(bZ L).1
 have gd:=(bZ L).2
 have GG:=lX gf gd lv
 refine ⟨_,(@aG _ _ _ _ _ (@fL _ _ _ _ _ _ _ _ (@PW.pt _ _ _ (@aES _ _ _ _ _ _ _ (@eF _ _ _ (@aU _ _ _ _ _ _ _ _ _ (@dO _ (K) rfl) rfl T.n_isinstance cK (@aA _ _ _ _ _ (pv 1) (@aA _ _ _ _ _ (@tF _ _ _ _ T.n_list eK (by rfl) (by decide) (by decide)) aD (by rfl)) (by rfl)) (by decide) (by decide) (by rfl) (by rfl)) (by intro _;rfl)) (@aAN _ _ _ _ (@cD _ _ _ _ _ _ _ _ oX (@aU _ _ _ _ _ _ _ _ _ (@bE _ (K) rfl) rfl T.n_len bN (@aA _ _ _ _ _ (pv 1) aD (by rfl)) (by decide) (by decide) (by rfl) (by rfl)) aE (@bY _ _ (by decide) (by decide)))))) (@aH _ _ _ (@aT _ _ _ _ (@bI _ _ _ _ _ _ _ _ _ _ G_p_cost_of_none (hr.mono (by decide)) (@aA _ _ _ _ _ (pv 2) aD (by rfl)) (by rfl) (by decide) (by rfl) (by rfl)))) cL) (@aH _ _ _ (@aT _ _ _ _ (@bG _ _ _ _ _ _ _ (@aQ _ (K) rfl) (@bI _ _ _ _ _ _ _ _ _ _ G_p_fewest (hr.mono (by decide)) (@aA _ _ _ _ _ (pv 0) (@aA _ _ _ _ _ (pv 1) (@aA _ _ _ _ _ (pv 2) aD (by rfl)) (by rfl)) (by rfl)) (by rfl) (by decide) (by rfl) (by rfl)) aE (fun _ _=>rfl))))),?_⟩
 refine ⟨_,rfl,_,_,_,_,_,rfl,rfl,TyOf.lst hl,kZ _ _,_,rfl,?_⟩
 refine dD ?_
 refine ⟨_,rfl,l,_,rfl,.inl (SqL.of hl),rfl,_,rfl,?_⟩
 cases zs with
 | nil =>
  show (if true = true then _ else _)
  exact dD ⟨_,rfl,_,rfl,lv,rfl,hL,q 0 H (aI.refl _) (wC GG)⟩
 | cons z zr =>
  rw [decide_eq_false (fun e=>by have:=V.int.inj e;rw [AA,Ag] at this;omega)]
  refine bS ?_
  refine ⟨_,rfl,_,rfl,_,rfl,_,_,_,rfl,p,l,fs,ds,z :: zr,lv,rfl,L,rfl,hl,by rw [Ag];omega,nd,sub,rfl,hL,fun t lk la uk ua f' R B H' S' nt nlk nla nka ht hk ik ha ia st rd=>?_⟩
  exact ⟨t,_,0,_,rfl,rfl,SqT.of ht,aN (j:=0) rfl,q _ H' S' (tD GG st rd)⟩
open Mt53 Mt22 MtF Mt31 Mt61
def aWS:Str:=("lists_of_places":Str) ++ ".<locals>." ++ "<lambda>"
abbrev pW (Tb:Addr) (H:Hp):Prop:=lM Tb ⟨187,29,187,59⟩ aWS H
def aGO (Tb:Addr):Sp:=sp1 fun x H Q=>∃ n:Nat,x = .int n ∧ 1 ≤ n ∧ n ≤ 6 ∧ pW Tb H ∧
 ∀ (D:Addr) (ps:List (Addr × List Int)) (H':Hp),dP Tb H H' → pW Tb H' → H' D = some (.lst (ps.map fun p=>V.ref p.1)) → jY H' ps → (∀ p ∈ ps,H p.1 = none) → ps.map (·.2) = aAP n → Q (.ref D) H'
theorem nxσ {f:L2.St → Hp → Prop} {σ σ':L2.St} {H:Hp} (e:σ = σ') (h:f σ' H):f σ H:=e ▸ h
theorem gσ {i:Nat} {v:V} {σ σ':L2.St} {H:Hp} {Q:L2.St → Hp → Prop} (e:σ.set i (some v) = σ') (h:Q σ' H):wK i v σ H Q:=by
 unfold wK
 rw [e]
 exact h
theorem tM {H:Hp}:∀ {ns:List Int} {xs:List V},IsL H (ns.map Dv.int) xs → xs = ns.map V.int
 | [],xs,h=>h
 | n :: ns,xs,h=>by
  obtain ⟨v,vs,rfl,e,r⟩:=h
  cases (show v = .int n from e)
  rw [tM r]
  rfl
theorem aEX (T:Txt K mg C) {c Tb:Addr} (B:TabB K mg base "lists_of_places" c Tb):Fc P w K mg base 5 "lists_of_places" ["count"] (aGO Tb):=by
 refine T.d_p_lists_of_places.fcC B dL oT (fun f A outer s H vs Q E hr h=>?_)
 obtain ⟨x,rfl,n,rfl,n1,n4,tab,q⟩:=h
 have big:=bT
 have KB:aUA (aUC (aBZ (tCB (fun xs H Q=>∃ a ys,xs = [.ref a] ∧ (SqL K H a ys ∨ SqT K H a ys) ∧ Q (.int ys.length) H) (aBZ (aOR 0) aIP)) (aBZ (aOR 0) aIP))):=fun a ns H Q ea q=>⟨_,rfl,a,_,rfl,.inl (SqL.of ea),_,rfl,bB rfl,fun t nt=>q t _ (aI.upd nt) (by rw [aF,AA])⟩
 refine ⟨_,(@aG _ _ _ _ _ (@aW _ _ (1) _ _ _ _ dL.nd rfl (Or.inl rfl) (@dU _ _ _ _ (@aA _ _ _ _ _ (@dU _ _ _ _ aD) aD (by rfl))) (by rfl) (by trivial)) (@aG _ _ _ _ _ (@hU _ _ _ _ _ _ _ _ BJ rfl (@gO _ _ _ _ _ _ rfl T.n_range (@aA _ _ _ _ _ (pv 0) aD (by rfl)) (by rfl)) (@bC _ _ (2) _ dL.nd rfl (Or.inr rfl) (by trivial)) (@aH _ _ _ (@aW _ _ (1) _ _ _ _ dL.nd rfl (Or.inl rfl) (@aO _ _ _ _ _ _ _ _ aAU (pv 1) (@cE _ _ _ _ _ _ _ _ _ _ _ ["some","place"] 1 [2] rfl (@bO _ _ _ _ (pv 1)) (fun R=>@bC _ _ (0) _ (show Ay (["some","place"]:List Str) by decide +kernel) rfl (Or.inl rfl) (by trivial)) (@aZ _ _ (by decide)) (fun R=>cC) (fun R=>(@aO _ _ _ _ _ _ _ _ aAU (pv 0) (@dU _ _ _ _ (@aA _ _ _ _ _ (pv 1) aD (by rfl))))) (by rfl) (by rfl) (by rfl) (by rfl) (by rfl) (by rfl) (by rfl) (by intro _;rfl))) (by rfl) (by trivial))) (by intro _;rfl)) (@aH _ _ _ (@aT _ _ _ _ (@aMF _ _ _ _ _ _ _ _ _ _ _ _ _ (0) _ (hr.mono (by decide)) rfl T.n_sorted (pv 1) (@aSU _ _ _ _ _ _ _ _ _ B rfl rfl rfl rfl) ⟨rfl,rfl,rfl,by decide +kernel,rfl,by decide +kernel,by decide +kernel⟩ (fun _ _ _ _=>rfl) (fun _ _ _ _ _ _=>(dS (aA (aU (bE (K:=K) rfl) rfl T.n_len bN (aA (pv 0) aD)) (aA (pv 0) aD)))) KB (by rfl) (by rfl)))))),?_⟩
 refine ⟨bB rfl,fun a0 m0=>?_⟩
 have S0:=aI.upd (o:=.lst []) m0
 have r0:upd H a0 (.lst []) a0 = some (.lst []):=aF
 generalize upd H a0 (.lst []) = H0 at S0 r0
 refine ⟨bB rfl,fun l0 m1=>?_⟩
 have S1:=aI.upd (o:=.lst [.ref a0]) m1
 have r1:upd H0 l0 (.lst [.ref a0]) l0 = some (.lst [.ref a0]):=aF
 have i1:IsL (upd H0 l0 (.lst [.ref a0])) ((fO 0).map fun ns=>Dv.lst (ns.map Dv.int)) [.ref a0]:=⟨_,_,rfl,⟨a0,_,rfl,S1 _ _ r0,rfl⟩,rfl⟩
 generalize upd H0 l0 (.lst [.ref a0]) = H1 at S1 r1 i1
 have T1:=S0.trans S1
 refine gσ (σ':=[some (.int n),some (.ref l0),none]) rfl ?_
 refine ⟨_,rfl,n,rfl,by omega,by omega,iG (n:=n) (fun i σ H'=>∃ (l:Addr) (us:List V) (v2:Option V),σ = [some (.int n),some (.ref l),v2] ∧ aI H1 H' ∧ H' l = some (.lst us) ∧ IsL H' ((fO i).map fun ns=>Dv.lst (ns.map Dv.int)) us ∧ ∀ v ∈ us,∃ a,v = .ref a ∧ H a = none) ⟨l0,[.ref a0],_,rfl,aI.refl _,r1,i1,fun v m=>⟨a0,AW.mp m,m0⟩⟩ ?_ ?_⟩
 ·rintro i σ H' hi ⟨l,us,v2,rfl,S',hl,ic,fr⟩
  have cl:(fO i).length ≤ 64:=by
   rw [pY]
   have:2 ^ i ≤ 2 ^ 6:=Cq (by decide) (by omega)
   omega
  have il:∀ ns ∈ fO i,ns.length ≤ 6:=fun ns m=>by have:=lN i ns m;omega
  have es:fO (i + 1) = fO i ++ (fO i).map (· ++ [(i:Int)]):=rfl
  rw [es]
  generalize fO i = cs at ic cl il
  have luc:=ic.length
  rw [AA] at luc
  refine ⟨_,rfl,_,rfl,l,rfl,⟨_,SqL.of hl⟩,?_⟩
  refine bM (F:=K) (xs:=us) (by omega) (fun j ys H''=>aI H' H'' ∧ IsL H'' ((cs.take j).map fun ns=>Dv.lst ((ns ++ [(i:Int)]).map Dv.int)) ys ∧ ∀ v ∈ ys,∃ a,v = .ref a ∧ H a = none) ⟨aI.refl _,rfl,fun _ m=>nomatch m⟩ ?_ ?_ ?_
  ·rintro j ys H'' hj ⟨S2,iy,_⟩
   refine ⟨SqL.of (S2 _ _ hl),?_⟩
   have:=iy.length
   rw [AA,Ac] at this
   omega
  ·rintro j xv ys H'' K1 K2 hx2 ⟨S2,iy,fy⟩ k1 k2
   have hjl:j < us.length:=(AC.mp hx2).1
   obtain ⟨ns,ec⟩:∃ c,cs[j]? = some c:=⟨_,AB (by omega)⟩
   obtain ⟨v,ev,iv⟩:=(IsL.same S2 _ _ ic).get (show (cs.map fun ns=>Dv.lst (ns.map Dv.int))[j]? = some (Dv.lst (ns.map Dv.int)) by rw [AK,ec];rfl)
   rw [hx2] at ev
   cases ev
   obtain ⟨li,xs,rfl,oi,hx⟩:=iv
   have ex:xs = ns.map V.int:=tM hx
   subst ex
   have:=il ns (AN ec)
   refine ⟨_,rfl,_,rfl,bB rfl,fun l1 h1=>?_⟩
   have S3:=aI.upd (o:=.lst [.int (0 + (i:Int))]) h1
   refine ⟨li,l1,_,_,rfl,rfl,S3 _ _ oi,aF,by rw [AA];show _ + 1 ≤ _;omega,fun l2 h2=>k1 _ _ ⟨S2.trans (S3.trans (aI.upd h2)),?_,fun v m=>?_⟩⟩
   rotate_left
   ·rcases Au.mp m with m | m
    ·exact fy v m
    ·exact ⟨l2,AW.mp m,(T1.trans (S'.trans (S2.trans S3))).free h2⟩
   rw [Ab,ec,AX]
   refine IsL.snoc (show Is _ (Dv.lst ((ns ++ [(i:Int)]).map Dv.int)) (.ref l2) from ⟨l2,_,rfl,aF,?_⟩) (IsL.same (S3.trans (aI.upd h2)) _ _ iy)
   rw [show ns.map V.int ++ [V.int (0 + (i:Int))] = (ns ++ [(i:Int)]).map V.int by rw [AX,DK];rfl]
   exact qT _
  rintro ys H2' ⟨S2,iy,fy⟩
  rw [AH (by omega)] at iy
  intro l3 h3
  have S3:=aI.upd (o:=.lst ys) h3
  have ly:=iy.length
  rw [AA] at ly
  refine ⟨l,l3,_,_,rfl,rfl,(S2.trans S3) _ _ hl,aF,by omega,fun l4 h4=>?_⟩
  have S4':=aI.upd (o:=.lst (us ++ ys)) h4
  refine ⟨l4,us ++ ys,_,rfl,S'.trans (S2.trans (S3.trans S4')),aF,?_,fun v m=>(Au.mp m).elim (fr v) (fy v)⟩
  rw [AX,Ao]
  exact IsL.app (IsL.same (S3.trans S4') _ _ iy) (IsL.same (S2.trans (S3.trans S4')) _ _ ic)
 ·rintro σ H2 ⟨l,us,v2,rfl,S2,hl,ic,fr⟩
  obtain ⟨ps,rfl,it,ep⟩:=aDK ic
  obtain ⟨o1,o2,o3,_⟩:=aAD n n1 n4
  have lp:ps.length = (fO n).length:=by rw [← ep,AA]
  have l2:2 ≤ ps.length ∧ ps.length ≤ 64:=by
   rw [lp,pY]
   have:2 ^ 1 ≤ 2 ^ n:=Cq (by decide) n1
   have:2 ^ n ≤ 2 ^ 6:=Cq (by decide) n4
   omega
  have T2:=T1.trans S2
  refine ⟨_,rfl,l,ps,(aCT n).toArray,rfl,hl,it,l2.1,by omega,by rw [ep];exact o1,fun i m=>by rw [lp];exact o2 i (by simpa using m),by rw [lp,AS];exact o3,tab.keep T2,fun D H3 K3 t3 eD=>?_⟩
  have eps:(aCT n).toArray.toList.map (fun i=>(ps.map fun p=>V.ref p.1).getD i .non) = ((aCT n).map fun i=>ps.getD i (0,[])).map fun p=>V.ref p.1:=by
   rw [Ao]
   refine BZ fun i m=>?_
   have hi:=o2 i m
   rw [← lp] at hi
   show (ps.map fun p=>V.ref p.1).getD i .non = V.ref (ps.getD i (0,[])).1
   rw [jW,Aa,AB hi]
   rfl
  rw [eps] at eD
  obtain ⟨qs,eT,_⟩:=tab.keep T2
  refine q D _ H3 (fun b o nb e=>K3 b o nb (T2 _ _ e)) t3 eD (fun p m=>?_) (fun p m=>?_) ?_
  ·obtain ⟨i,mi,rfl⟩:=AR.mp m
   have hi:=o2 i mi
   rw [← lp] at hi
   have mm:ps.getD i (0,[]) ∈ ps:=by
    rw [Aa,AB hi]
    exact Cv hi
   refine K3 _ _ (fun z=>?_) (it _ mm)
   have e2:=it _ mm
   rw [z,eT] at e2
   cases e2
  ·obtain ⟨i,mi,rfl⟩:=AR.mp m
   have hi:=o2 i mi
   rw [← lp] at hi
   have mm:ps.getD i (0,[]) ∈ ps:=by
    rw [Aa,AB hi]
    exact Cv hi
   obtain ⟨a,ea,na⟩:=fr _ (AR.mpr ⟨_,mm,rfl⟩)
   cases ea
   exact na
  ·unfold aAP
   rw [Ao]
   refine BZ fun i m=>?_
   have hi:=o2 i m
   rw [← ep]
   rw [← lp] at hi
   show (ps.getD i (0,[])).2 = (ps.map (·.2)).getD i []
   rw [jW,Aa,AB hi]
   rfl
open Mt53 Mt22 MtF Mt31 Mt61
theorem aVD {Tb:Addr} {H H':Hp} (k:dP Tb H H') (t:pW Tb H):aEC H H':=fun b o e d=>k b o (fun z=>by
 obtain ⟨ps,eT,_⟩:=t
 rw [z,eT] at e
 cases e
 cases d) e
theorem rT {Tb:Addr} {H H':Hp} (k:dP Tb H H') (t:pW Tb H) {x:Addr} {fs ds:List Dv} (h:LandAt C H x fs ds):LandAt C H' x fs ds:=by
 have D:=aVD k t
 have tb:∀ {a:Addr} {ds:List Dv},rD H a ds → rD H' a ds:=fun ⟨kvs,e,k1,i⟩=>⟨kvs,D _ _ e rfl,k1,IsL.sameD D _ _ i⟩
 obtain ⟨⟨dx,d1,d2,e,t1,t2⟩,a,b⟩:=h
 refine ⟨⟨dx,d1,d2,k _ _ (fun z=>?_) e,tb t1,tb t2⟩,a,b⟩
 obtain ⟨ps,eT,_⟩:=t
 rw [z,eT] at e
 cases e
theorem zY:∀ k,∀ ns ∈ fO k,ns.Nodup ∧ ∀ i ∈ ns,0 ≤ i ∧ i < (k:Int)
 | 0,ns,m=>by rw [AW.mp m];exact ⟨.nil,fun _ m=>nomatch m⟩
 | k + 1,ns,m=>by
  unfold fO at m
  rcases Au.mp m with m | m
  ·obtain ⟨a,b⟩:=zY k ns m
   exact ⟨a,fun i mi=>by have:=b i mi;omega⟩
  ·obtain ⟨ms,mm,rfl⟩:=AR.mp m
   obtain ⟨a,b⟩:=zY k ms mm
   refine ⟨Dh.mpr ⟨a,List.pairwise_singleton _ _,fun x hx y hy e=>?_⟩,fun i mi=>?_⟩
   ·have:=b x hx
    rw [e,AW.mp hy] at this
    omega
   ·rcases Au.mp mi with mi | mi
    ·have:=b i mi
     omega
    ·rw [AW.mp mi]
     omega
def atZ (zs:List Str) (i:Int):Str:=zs.getD i.toNat ""
theorem aBP {zs:List Str} {i:Int} (h0:0 ≤ i) (h1:i < zs.length):atI (zs.map V.str) i = some (.str (atZ zs i)) ∧ zs[i.toNat]? = some (atZ zs i):=by
 obtain ⟨k,rfl⟩:=BH h0
 have hk:k < zs.length:=by omega
 have e:zs[k]? = some (atZ zs (k:Int)):=by
  unfold atZ
  rw [CF,Aa,AB hk]
  rfl
 exact ⟨aN (by rw [AK,e];rfl),by rw [CF];exact e⟩
theorem aVS {zs:List Str} (nd:zs.Nodup):∀ {ns:List Int},ns.Nodup → (∀ i ∈ ns,0 ≤ i ∧ i < (zs.length:Int)) → (ns.map (atZ zs)).Nodup ∧ ∀ z ∈ ns.map (atZ zs),z ∈ zs:=fun {ns} h1 h2=>by
 refine ⟨?_,fun z m=>?_⟩
 ·induction ns with
  | nil=>exact .nil
  | cons i ns ih =>
   rw [AY]
   refine Ak.mpr ⟨fun m=>?_,ih (Ak.mp h1).2 fun j mj=>h2 j (AO _ mj)⟩
   obtain ⟨j,mj,e⟩:=AR.mp m
   have a:=(aBP (h2 i AU).1 (h2 i AU).2).2
   have b:=(aBP (h2 j (AO _ mj)).1 (h2 j (AO _ mj)).2).2
   rw [e] at b
   have:=qQ nd a b
   have:=h2 i AU
   have:=h2 j (AO _ mj)
   have ij:i = j:=by omega
   exact (Ak.mp h1).1 (ij ▸ mj)
 ·obtain ⟨i,mi,rfl⟩:=AR.mp m
  exact AN (aBP (h2 i mi).1 (h2 i mi).2).2
def del (X:Addr) (H:Hp):Hp:=fun b=>if b = X then none else H b
theorem aNT (X:Addr) (H:Hp):aI (del X H) H:=fun b o e=>by
 unfold del at e
 by_cases h:b = X
 ·rw [if_pos h] at e;cases e
 ·rw [if_neg h] at e;exact e
theorem aNU {X:Addr} {H:Hp} {b:Addr} {o:HO} (n:b ≠ X) (e:H b = some o):del X H b = some o:=by
 unfold del
 rw [if_neg n]
 exact e
theorem aVQ {X:Addr} {H H':Hp} (S:aI H H'):aI (del X H) (del X H'):=fun b o e=>by
 unfold del at e ⊢
 by_cases h:b = X
 ·rw [if_pos h] at e;cases e
 ·rw [if_neg h] at e ⊢;exact S _ _ e
theorem aXA {X:Addr} {H:Hp} {o:HO}:aI (del X H) (del X (upd H X o)):=fun b o' e=>by
 unfold del at e ⊢
 by_cases h:b = X
 ·rw [if_pos h] at e;cases e
 ·rw [if_neg h] at e ⊢;rw [aK h];exact e
theorem aKQ {T lt:Addr} {pos:Pos} {qual:Str} {H:Hp} {us vs:List V} (x:lM T pos qual H) (h:H lt = some (.lst us)):lM T pos qual (upd H lt (.lst vs)):=by
 obtain ⟨ps,e,t,r⟩:=x
 refine ⟨ps,by rw [aK (fun z=>by rw [z,h] at e;cases e)];exact e,t,r.imp id fun ⟨c,e1,e2⟩=>⟨c,e1,by rw [aK (fun z=>by rw [z,h] at e2;cases e2)];exact e2⟩⟩
def aNZ (r:List Str × Int):Dv:=.tup [.lst (r.1.map Dv.str),.int r.2]
structure Told (G:List Gap) (zs:List Str) (rs:List (List Str × Int)):Prop where
 cos:rs.map (·.1) = (aAP zs.length).map fun ns=>ns.map (atZ zs)
 lst:∀ r ∈ rs,eS G r.1 r.2
def sT (C Tb:Addr):Sp:=sp3 fun x y u H Q=>∃ (p l:Addr) (fs ds:List Dv) (zs:List Str) (L:Int),x = .ref p ∧ LandAt C H p fs ds ∧ y = .ref l ∧ H l = some (.lst (zs.map V.str)) ∧ 1 ≤ zs.length ∧ zs.length ≤ 6 ∧ zs.Nodup ∧ (∀ z ∈ zs,z ∈ fs.map bA) ∧ u = .int L ∧ hgt L = true ∧ pW Tb H ∧
 ∀ (D:Addr) (us:List V) (rs:List (List Str × Int)) (H':Hp),dP Tb H H' → pW Tb H' → H' D = some (.lst us) → IsL H' (rs.map aNZ) us → Told (aP fs ds L) zs rs → Q (.ref D) H'
theorem vP (T:Txt K mg C) {c Tb:Addr} (B:TabB K mg base "lists_of_places" c Tb):Fc P w K mg base 8 "companies" ["land","fields","height"] (sT C Tb):=by
 have G_p_check_wish:Fc P w K mg base 3 "check_wish" ["land","fields","height"] (uR C):=mC T
 have G_p_lists_of_places:Fc P w K mg base 5 "lists_of_places" ["count"] (aGO Tb):=aEX T B
 have G_p_cost:Fc P w K mg base 7 "cost" ["land","fields","height"] (aLI C):=aJH T
 refine T.d_p_companies.fc gU pQ (fun f cdv A outer s H vs Q E hr h=>?_)
 obtain ⟨x,y,u,rfl,p,l,fs,ds,zs,lv,rfl,L,rfl,hl,l1,l4,nd,sub,rfl,hL,tab,q⟩:=h
 have big:=bT
 refine ⟨_,(@aG _ _ _ _ _ (@hV _ _ _ _ (@bI _ _ _ _ _ _ _ _ _ _ G_p_check_wish (hr.mono (by decide)) (@aA _ _ _ _ _ (pv 0) (@aA _ _ _ _ _ (pv 1) (@aA _ _ _ _ _ (pv 2) aD (by rfl)) (by rfl)) (by rfl)) (by rfl) (by decide) (by rfl) (by rfl)) (by rfl)) (@aG _ _ _ _ _ (@fL _ _ _ _ _ _ _ _ (@cD _ _ _ _ _ _ _ _ aHH (@aU _ _ _ _ _ _ _ _ _ (@bE _ (K) rfl) rfl T.n_len bN (@aA _ _ _ _ _ (pv 1) aD (by rfl)) (by decide) (by decide) (by rfl) (by rfl)) (@tV _ _ _ _ T.g_MOST_IN_A_WISH (by rfl) (by decide)) (@bY _ _ (by decide) (by decide))) (@aH _ _ _ kW) cL) (@aG _ _ _ _ _ (@aW _ _ (3) _ _ _ _ gU.nd rfl (Or.inl rfl) (@dU _ _ _ _ aD) (by rfl) (by trivial)) (@aG _ _ _ _ _ (@hU _ _ _ _ _ _ _ _ BJ rfl (@bO _ _ _ _ (@bI _ _ _ _ _ _ _ _ _ _ G_p_lists_of_places (hr.mono (by decide)) (@aA _ _ _ _ _ (@aU _ _ _ _ _ _ _ _ _ (@bE _ (K) rfl) rfl T.n_len bN (@aA _ _ _ _ _ (pv 1) aD (by rfl)) (by decide) (by decide) (by rfl) (by rfl)) aD (by rfl)) (by rfl) (by decide) (by rfl) (by rfl))) (@bC _ _ (4) _ gU.nd rfl (Or.inl rfl) (by trivial)) (@aG _ _ _ _ _ (@gI _ (5) _ _ _ _ _ _ _ _ _ _ _ _ _ gU.nd rfl ["place","fields"] 1 [1] rfl (@bO _ _ _ _ (pv 4)) (fun R=>@bC _ _ (0) _ (show Ay (["place","fields"]:List Str) by decide +kernel) rfl (Or.inl rfl) (by trivial)) (@aZ _ _ (by decide)) (fun R=>cC) (fun R=>(@bG _ _ _ _ _ _ _ (@eP _ (K) rfl) (pv 1) (pv 0) (fun _ _=>rfl))) (by exact Or.inl rfl) (by trivial) (by rfl) (by rfl) (by rfl) (by rfl) (by rfl) (by rfl) (by rfl) (by rfl) (by intro _;rfl)) (@aH _ _ _ (@hV _ _ _ _ (@mB _ _ _ _ _ _ _ _ _ _ _ _ BM BV BU fK (pv 3) (@aA _ _ _ _ _ (@dS _ _ _ _ _ (@aA _ _ _ _ _ (pv 5) (@aA _ _ _ _ _ (@bI _ _ _ _ _ _ _ _ _ _ G_p_cost (hr.mono (by decide)) (@aA _ _ _ _ _ (pv 0) (@aA _ _ _ _ _ (pv 5) (@aA _ _ _ _ _ (pv 2) aD (by rfl)) (by rfl)) (by rfl)) (by rfl) (by decide) (by rfl) (by rfl)) aD (by rfl)) (by rfl))) aD (by rfl)) (by rfl) (by rfl) (by rfl) (by rfl) (by rfl)) (by rfl)))) (by intro _;rfl)) (@aH _ _ _ (@aT _ _ _ _ (pv 3))))))),?_⟩
 refine ⟨_,rfl,_,rfl,_,rfl,_,_,_,rfl,p,l,fs,ds,zs,lv,rfl,L,rfl,hl,l1,nd,sub,rfl,hL,fun H1 S1=>?_⟩
 refine ⟨_,rfl,l,_,rfl,.inl (SqL.of (S1 _ _ hl)),_,_,rfl,rfl,_,rfl,?_⟩
 have e8:decide ((8:Int) < ((zs.map V.str).length:Int)) = false:=decide_eq_false (by rw [AA];omega)
 rw [e8]
 refine bS ?_
 refine ⟨bB rfl,fun lt m1=>?_⟩
 have S2:=aI.upd (o:=.lst []) m1
 have r2:upd H1 lt (.lst []) lt = some (.lst []):=aF
 have nlt:∀ b o,H1 b = some o → b ≠ lt:=fun b o e=>aY e m1
 generalize upd H1 lt (.lst []) = H2 at S2 r2
 refine gσ (σ':=[some (.ref p),some (.ref l),some (.int lv),some (.ref lt),none,none]) rfl ?_
 have T2:=S1.trans S2
 refine ⟨_,rfl,l,_,rfl,.inl (SqL.of (T2 _ _ hl)),_,rfl,zs.length,by rw [AA],l1,l4,tab.keep T2,fun D ps H3 K3 tab3 hD it fr ep=>?_⟩
 have tab2:pW Tb H2:=tab.keep T2
 have eTb:∀ b (ys:List V),H2 b = some (.lst ys) → b ≠ Tb:=fun b ys e z=>by
  obtain ⟨qs,eT,_⟩:=tab2
  rw [z,eT] at e
  cases e
 have hl3:=K3 _ _ (eTb _ _ (T2 _ _ hl)) (T2 _ _ hl)
 have ht3:=K3 _ _ (eTb _ _ r2) r2
 have L3:=rT K3 tab2 (L.same T2)
 have psz:ps.length ≤ 64 ∧ 1 ≤ ps.length:=by
  have:=congrArg Cz ep
  rw [AA] at this
  unfold aAP at this
  rw [AA] at this
  obtain ⟨_,_,o3,_⟩:=aAD zs.length l1 l4
  rw [o3,pY] at this
  have:2 ^ 1 ≤ 2 ^ zs.length:=Cq (by decide) l1
  have:2 ^ zs.length ≤ 2 ^ 6:=Cq (by decide) l4
  omega
 have nDt:D ≠ lt:=fun z=>by
  rw [z,ht3] at hD
  have:=congrArg Cz (HO.lst.inj (Aw hD))
  rw [AA] at this
  simp at this
  omega
 have KH:∀ (H':Hp),dP Tb H2 H' → dP Tb H H':=fun H' k b o n e=>k b o n (T2 _ _ e)
 have K1:dP Tb H1 H3:=fun b o n e=>K3 b o n (S2 _ _ e)
 have tab1:pW Tb H1:=tab.keep S1
 have ipt:∀ q ∈ ps,q.1 ≠ lt:=fun q m z=>by
  have:=fr q m
  rw [z,r2] at this
  cases this
 have iok:∀ q ∈ ps,q.2.Nodup ∧ ∀ i ∈ q.2,0 ≤ i ∧ i < (zs.length:Int):=fun q m=>by
  have:q.2 ∈ aAP zs.length:=by rw [← ep];exact AR.mpr ⟨q,m,rfl⟩
  exact zY _ _ ((vH l1 l4).mp this)
 refine ⟨D,rfl,⟨_,SqL.of hD⟩,nP (K:=K) (a:=D) (xs:=ps.map fun q=>V.ref q.1) (fun i σ H'=>∃ (v4 v5:Option V) (us:List V) (rs:List (List Str × Int)),σ = [some (.ref p),some (.ref l),some (.int lv),some (.ref lt),v4,v5] ∧ dP Tb H1 H' ∧ pW Tb H' ∧ H' D = some (.lst (ps.map fun q=>V.ref q.1)) ∧ jY H' ps ∧ H' lt = some (.lst us) ∧ IsL (del lt H') (rs.map aNZ) us ∧ rs.map (·.1) = (ps.take i).map (fun q=>q.2.map (atZ zs)) ∧ ∀ r ∈ rs,eS (aP fs ds lv) r.1 r.2)
  ⟨_,_,[],[],rfl,K1,tab3,hD,it,ht3,rfl,rfl,fun _ m=>nomatch m⟩ ?_ ?_ ?_⟩
 ·rintro i σ H' hi ⟨v4,v5,us,rs,rfl,k',tb',d',it',t',ir,er,lr⟩
  exact SqL.of d'
 ·rintro i xv σ H' hx ⟨v4,v5,us,rs,rfl,k',tb',d',it',t',ir,er,lr⟩
  rw [AK] at hx
  obtain ⟨⟨pa,ns⟩,ez,rfl⟩:=Aq.mp hx
  have mp:(pa,ns) ∈ ps:=AN ez
  have hpa:H' pa = some (.lst (ns.map V.int)):=it' _ mp
  obtain ⟨nnd,nin⟩:=iok _ mp
  have hns:ns.length ≤ 6:=by
   have:ns ∈ aAP zs.length:=by rw [← ep];exact AR.mpr ⟨_,mp,rfl⟩
   have:=lN _ _ ((vH l1 l4).mp this)
   omega
  have eTl:l ≠ Tb:=fun z=>by
   obtain ⟨qs,eT,_⟩:=tab1
   have:=S1 _ _ hl
   rw [z,eT] at this
   cases this
  have hl':H' l = some (.lst (zs.map V.str)):=k' _ _ eTl (S1 _ _ hl)
  refine gσ (σ':=[some (.ref p),some (.ref l),some (.int lv),some (.ref lt),some (.ref pa),v5]) rfl ?_
  refine ⟨_,rfl,pa,rfl,⟨_,SqL.of hpa⟩,?_⟩
  refine bM (F:=K) (xs:=ns.map V.int) (by rw [AA];omega) (fun j ys H''=>H' = H'' ∧ ys = ((ns.take j).map (atZ zs)).map V.str) ⟨rfl,rfl⟩ ?_ ?_ ?_
  ·rintro j ys H'' hj ⟨rfl,rfl⟩
   exact ⟨SqL.of hpa,by rw [AA,AA,Ac];omega⟩
  ·rintro j yv ys H'' K1' K2' hx2 ⟨rfl,rfl⟩ k1 k2
   rw [AK] at hx2
   obtain ⟨iz,ei,rfl⟩:=Aq.mp hx2
   have hz:=nin iz (AN ei)
   refine ⟨_,rfl,_,rfl,l,_,iz,_,rfl,rfl,SqL.of hl',(aBP hz.1 hz.2).1,k1 _ _ ⟨rfl,?_⟩⟩
   rw [Ab,ei,AX,AX]
   rfl
  rintro ys H'' ⟨rfl,rfl⟩
  rw [AA,AH (AQ _)]
  intro lc mc
  obtain ⟨cnd,csub⟩:=aVS nd nnd nin
  have S4:=aI.upd (o:=.lst ((ns.map (atZ zs)).map V.str)) mc
  have r4:upd H' lc (.lst ((ns.map (atZ zs)).map V.str)) lc = some (.lst ((ns.map (atZ zs)).map V.str)):=aF
  have nlc:lc ≠ lt:=fun z=>by rw [z,t'] at mc;cases mc
  generalize upd H' lc (.lst ((ns.map (atZ zs)).map V.str)) = H4 at S4 r4
  refine gσ (σ':=[some (.ref p),some (.ref l),some (.int lv),some (.ref lt),some (.ref pa),some (.ref lc)]) rfl ?_
  have L4:LandAt C H4 p fs ds:=(rT k' tab1 (L.same S1)).same S4
  refine ⟨_,rfl,.inl ⟨rfl,_,SqL.of (S4 _ _ t')⟩,_,rfl,_,rfl,_,rfl,_,rfl,_,_,_,rfl,p,lc,fs,ds,_,lv,rfl,L4,rfl,r4,cnd,(fun z m=>sub z (csub z m)),rfl,hL,fun cst H5 S5 lst5=>?_⟩
  refine ⟨bB rfl,fun tt mt=>?_⟩
  have S6:=aI.upd (o:=.tup [.ref lc,.int cst]) mt
  have r6:upd H5 tt (.tup [.ref lc,.int cst]) tt = some (.tup [.ref lc,.int cst]):=aF
  have T5:=S4.trans S5
  have ntt:tt ≠ lt:=fun z=>by have:=T5 _ _ t';rw [z,this] at mt;cases mt
  generalize upd H5 tt (.tup [.ref lc,.int cst]) = H6 at S6 r6
  have T6:=T5.trans S6
  have lus:=ir.length
  rw [AA] at lus
  have lrs:=congrArg Cz er
  rw [AA,AA,Ac] at lrs
  refine ⟨lt,us,.ref tt,rfl,rfl,T6 _ _ t',by omega,?_⟩
  refine ⟨_,_,us ++ [.ref tt],rs ++ [(ns.map (atZ zs),cst)],rfl,(fun b o n e=>by rw [aK (nlt b o e)];exact T6 _ _ (k' b o n e)),aKQ (tb'.keep T6) (T6 _ _ t'),by rw [aK nDt];exact T6 _ _ d',(fun r m=>by rw [aK (ipt r m)];exact T6 _ _ (it' r m)),aF,?_,?_,?_⟩
  ·rw [AX]
   refine IsL.same aXA _ _ (IsL.snoc (show Is _ (aNZ (ns.map (atZ zs),cst)) (.ref tt) from ⟨tt,_,rfl,aNU ntt r6,_,_,rfl,⟨lc,_,rfl,aNU nlc ((S5.trans S6) _ _ r4),IsL.strs _ _⟩,_,_,rfl,rfl,rfl⟩) (IsL.same (aVQ T6) _ _ ir))
  ·rw [AX,er,Ab,ez,AX]
   rfl
  ·intro r m
   rcases Au.mp m with m | m
   ·exact lr r m
   ·rw [AW.mp m]
    exact lst5
 ·rintro σ H' ⟨v4,v5,us,rs,rfl,k',tb',d',it',t',ir,er,lr⟩
  rw [AA,AH (AQ _)] at er
  refine ⟨_,rfl,q lt us rs H' (fun b o n e=>k' b o n (S1 _ _ e)) tb' t' (IsL.same (aNT _ _) _ _ ir) ⟨?_,lr⟩⟩
  rw [er,← ep,Ao]
  rfl
open Mt53 Mt22 MtF Mt31 Mt61 Mt73
def aGP:Sp:=sp2 fun x y H Q=>∃ i j:Nat,x = .int i ∧ y = .int j ∧ Q (.int (Nat.gcd i j:Nat)) H
theorem aDM {a b:Nat} (h:b ≠ 0):((a:Int) % (b:Int)) = ((a % b:Nat):Int) ∧ Nat.gcd b (a % b) = Nat.gcd a b ∧ a % b < b :=
 ⟨(Int.natCast_emod a b).symm,by rw [Nat.gcd_comm b,← Nat.gcd_rec,Nat.gcd_comm],Nat.mod_lt _ (by omega)⟩
theorem aQE (a b:Int):(!decide (V.int a = V.int b)) = !decide (a = b):=by
 by_cases h:a = b
 ·subst h;simp
 ·rw [decide_eq_false h,decide_eq_false (fun c=>h (by cases c;rfl))]
theorem mG (T:Txt K mg C):Fc P w K mg base 1 "greatest_divisor" ["one","other"] aGP:=by
 refine T.d_p_greatest_divisor.fc dI iX (fun f cdv A outer s H vs Q E hr h=>?_)
 obtain ⟨x,y,rfl,i,j,rfl,rfl,q⟩:=h
 refine ⟨_,(@aG _ _ _ _ _ (@mY _ _ _ _ _ _ BJ (@cD _ _ _ _ _ _ _ _ yM (pv 1) aE (@bY _ _ (by decide) (by decide))) (@aG _ _ _ _ _ (@aW _ _ (2) _ _ _ _ dI.nd rfl (Or.inl rfl) (@aO _ _ _ _ _ _ _ _ cV (pv 0) (pv 1)) (by rfl) (by trivial)) (@aG _ _ _ _ _ (@aW _ _ (0) _ _ _ _ dI.nd rfl (Or.inl rfl) (pv 1) (by rfl) (by trivial)) (@aH _ _ _ (@aW _ _ (1) _ _ _ _ dI.nd rfl (Or.inl rfl) (pv 2) (by rfl) (by trivial)))))) (@aH _ _ _ (@aT _ _ _ _ (pv 0)))),?_⟩
 refine mK (fun σ H'=>∃ (a b:Nat) (v:Option V),σ = [some (.int a),some (.int b),v] ∧ H' = H ∧ Nat.gcd a b = Nat.gcd i j) (fun σ _=>match σ with | [_,some (.int b),_]=>b.toNat | _=>0) ⟨i,j,_,rfl,rfl,rfl⟩ ?_ ?_
 ·rintro σ H' ⟨a,b,v,rfl,rfl,e⟩
  refine ⟨_,rfl,rfl,_,rfl,?_⟩
  rw [aQE]
  by_cases hb:b = 0
  ·subst hb
   rw [Nat.gcd_zero_right] at e
   refine bS ⟨_,rfl,?_⟩
   rw [e]
   exact q
  ·obtain ⟨e1,e2,e3⟩:=aDM (a:=a) hb
   have hd:(!decide ((b:Int) = 0)) = true:=by
    rw [decide_eq_false (by omega)];rfl
   rw [hd]
   refine dD ⟨_,rfl,_,rfl,_,_,rfl,rfl,(by omega),_,rfl,_,rfl,⟨b,a % b,some (.int ((a:Int) % (b:Int))),?_,rfl,by rw [e2,e]⟩,?_⟩
   ·show [some (V.int b),some (V.int ((a:Int) % (b:Int))),some (V.int ((a:Int) % (b:Int)))] = _
    rw [e1]
   ·show ((a:Int) % (b:Int)).toNat < b
    rw [e1];exact e3
 ·intro σ H Q Q' h hc
  obtain ⟨v,e,hq,k,e2,q⟩:=hc
  exact ⟨v,e,hq,k,e2,h _ _ q⟩
theorem aAZ (T:Txt K mg C):Fc P w K mg base 1 "_law_divisor" ["_law_one","_law_other"] aGP:=by
 refine T.d_l_divisor.fc qD iX (fun f cdv A outer s H vs Q E hr h=>?_)
 obtain ⟨x,y,rfl,i,j,rfl,rfl,q⟩:=h
 refine ⟨_,(@aG _ _ _ _ _ (@mY _ _ _ _ _ _ BJ (@cD _ _ _ _ _ _ _ _ aHH (pv 1) aE (@bY _ _ (by decide) (by decide))) (@aH _ _ _ (@aSN _ _ (0) (1) _ _ _ _ _ _ _ _ _ _ _ rfl qD.nd rfl rfl (by decide) rfl rfl (@aA _ _ _ _ _ (pv 1) (@aA _ _ _ _ _ (@aO _ _ _ _ _ _ _ _ cV (pv 0) (pv 1)) aD (by rfl)) (by rfl)) rfl (by rfl)))) (@aH _ _ _ (@aT _ _ _ _ (pv 0)))),?_⟩
 refine mK (fun σ H'=>∃ (a b:Nat),σ = [some (.int a),some (.int b)] ∧ H' = H ∧ Nat.gcd a b = Nat.gcd i j) (fun σ _=>match σ with | [_,some (.int b)]=>b.toNat | _=>0) ⟨i,j,rfl,rfl,rfl⟩ ?_ ?_
 ·rintro σ H' ⟨a,b,rfl,rfl,e⟩
  refine ⟨_,rfl,_,_,rfl,rfl,_,rfl,?_⟩
  by_cases hb:b = 0
  ·subst hb
   rw [Nat.gcd_zero_right] at e
   refine bS ⟨_,rfl,?_⟩
   rw [e]
   exact q
  ·obtain ⟨e1,e2,e3⟩:=aDM (a:=a) hb
   have hd:decide ((b:Int) > 0) = true:=decide_eq_true (by omega)
   rw [hd]
   refine dD ⟨_,rfl,_,rfl,_,rfl,_,_,rfl,rfl,(by omega),_,_,rfl,⟨b,a % b,?_,rfl,by rw [e2,e]⟩,?_⟩
   ·show [some (V.int b),some (V.int ((a:Int) % (b:Int)))] = _
    rw [e1]
   ·show ((a:Int) % (b:Int)).toNat < b
    rw [e1];exact e3
 ·intro σ H Q Q' h hc
  obtain ⟨v,e,i,j,e1,e3,k,e2,q⟩:=hc
  exact ⟨v,e,i,j,e1,e3,k,e2,h _ _ q⟩
def Fr (H:Hp) (x:V) (a b:Int):Prop:=∃ l,x = .ref l ∧ H l = some (.tup [.int a,.int b])
theorem Fr.same {H H':Hp} {x:V} {a b:Int} (S:aI H H') (h:Fr H x a b):Fr H' x a b:=by
 obtain ⟨l,rfl,e⟩:=h
 exact ⟨l,rfl,S _ _ e⟩
def aGN:Sp:=sp2 fun x y H Q=>∃ a b:Int,x = .int a ∧ y = .int b ∧ 0 < b ∧ b.natAbs ≤ 1000000 ∧ ∀ v H',aI H H' → Fr H' v (low a b).1 (low a b).2 → Q v H'
theorem aIH (a:Int):(if a < 0 then -a else a) = ((a.natAbs:Nat):Int):=by split <;> omega
theorem aHQ {a b:Int} (hb:0 < b):∃ n:Nat,b = n ∧ Nat.gcd a.natAbs n = Int.gcd a b:=by
 obtain ⟨n,rfl⟩:=BH (DZ hb)
 exact ⟨n,rfl,rfl⟩
theorem aNF {a b:Int} (hb:0 < b) (h:b.natAbs ≤ 1000000):(((Int.gcd a b:Nat):Int)).natAbs.log2 < 9000:=by
 refine aTD ?_
 have h1:Int.gcd a b ≤ b.natAbs:=Nat.gcd_le_right _ (by omega)
 show Int.gcd a b ≤ _
 exact BI h1 h
theorem xO (T:Txt K mg C):Fc P w K mg base 2 "fraction" ["top","bottom"] aGN:=by
 have G_p_greatest_divisor:Fc P w K mg base 1 "greatest_divisor" ["one","other"] aGP:=mG T
 refine T.d_p_fraction.fc oU iX (fun f cdv A outer s H vs Q E hr h=>?_)
 obtain ⟨x,y,rfl,a,b,rfl,rfl,hb,hs,q⟩:=h
 obtain ⟨n,rfl,eg⟩:=aHQ (a:=a) hb
 have g0:=aBJ (a:=a) hb
 have g1:=aNF (a:=a) hb hs
 refine ⟨_,(@aG _ _ _ _ _ (@aW _ _ (2) _ _ _ _ oU.nd rfl (Or.inl rfl) (@bI _ _ _ _ _ _ _ _ _ _ G_p_greatest_divisor (hr.mono (by decide)) (@aA _ _ _ _ _ (@aU _ _ _ _ _ _ _ _ _ aDX rfl T.n_abs zN (@aA _ _ _ _ _ (pv 0) aD (by rfl)) (by decide) (by decide) (by rfl) (by rfl)) (@aA _ _ _ _ _ (pv 1) aD (by rfl)) (by rfl)) (by rfl) (by decide) (by rfl) (by rfl)) (by rfl) (by trivial)) (@aH _ _ _ (@aT _ _ _ _ (@dS _ _ _ _ _ (@aA _ _ _ _ _ (@aO _ _ _ _ _ _ _ _ bU (pv 0) (pv 2)) (@aA _ _ _ _ _ (@aO _ _ _ _ _ _ _ _ bU (pv 1) (pv 2)) aD (by rfl)) (by rfl)))))),?_⟩
 refine ⟨_,rfl,_,rfl,_,rfl,_,_,rfl,a.natAbs,n,by rw [aIH],rfl,?_⟩
 rw [eg]
 refine ⟨_,rfl,_,rfl,_,_,rfl,rfl,⟨g0,g1⟩,_,rfl,_,rfl,_,_,rfl,rfl,⟨g0,g1⟩,bB rfl,fun p hp=>?_⟩
 exact q _ _ (aI.upd hp) ⟨p,rfl,aF⟩
theorem aCZ (T:Txt K mg C):Fc P w K mg base 2 "_law_lowest" ["_law_top","_law_bottom"] aGN:=by
 have G_l_divisor:Fc P w K mg base 1 "_law_divisor" ["_law_one","_law_other"] aGP:=aAZ T
 refine T.d_l_lowest.fc sZ iX (fun f cdv A outer s H vs Q E hr h=>?_)
 obtain ⟨x,y,rfl,a,b,rfl,rfl,hb,hs,q⟩:=h
 obtain ⟨n,rfl,eg⟩:=aHQ (a:=a) hb
 have g0:=aBJ (a:=a) hb
 have g1:=aNF (a:=a) hb hs
 refine ⟨_,(@aG _ _ _ _ _ (@aW _ _ (2) _ _ _ _ sZ.nd rfl (Or.inl rfl) (@bI _ _ _ _ _ _ _ _ _ _ G_l_divisor (hr.mono (by decide)) (@aA _ _ _ _ _ (@aU _ _ _ _ _ _ _ _ _ aDX rfl T.n_abs zN (@aA _ _ _ _ _ (pv 0) aD (by rfl)) (by decide) (by decide) (by rfl) (by rfl)) (@aA _ _ _ _ _ (pv 1) aD (by rfl)) (by rfl)) (by rfl) (by decide) (by rfl) (by rfl)) (by rfl) (by trivial)) (@aH _ _ _ (@aT _ _ _ _ (@dS _ _ _ _ _ (@aA _ _ _ _ _ (@aO _ _ _ _ _ _ _ _ bU (pv 0) (pv 2)) (@aA _ _ _ _ _ (@aO _ _ _ _ _ _ _ _ bU (pv 1) (pv 2)) aD (by rfl)) (by rfl)))))),?_⟩
 refine ⟨_,rfl,_,rfl,_,rfl,_,_,rfl,a.natAbs,n,by rw [aIH],rfl,?_⟩
 rw [eg]
 refine ⟨_,rfl,_,rfl,_,_,rfl,rfl,⟨g0,g1⟩,_,rfl,_,rfl,_,_,rfl,rfl,⟨g0,g1⟩,bB rfl,fun p hp=>?_⟩
 exact q _ _ (aI.upd hp) ⟨p,rfl,aF⟩
def aLG:Sp:=sp1 fun x H Q=>∃ n:Nat,x = .int n ∧ n ≤ 8 ∧ Q (.int (fac n:Nat)) H
theorem aFS:∀ n,n ≤ 8 → fac n ≤ 40320:=by
 intro n h
 have:n = 0 ∨ n = 1 ∨ n = 2 ∨ n = 3 ∨ n = 4 ∨ n = 5 ∨ n = 6 ∨ n = 7 ∨ n = 8:=by omega
 rcases this with rfl | rfl | rfl | rfl | rfl | rfl | rfl | rfl | rfl <;> decide
theorem nB (T:Txt K mg C):Fc P w K mg base 1 "orders_of" ["count"] aLG:=by
 refine T.d_p_orders_of.fc gT oT (fun f cdv A outer s H vs Q E hr h=>?_)
 obtain ⟨x,rfl,n,rfl,n8,q⟩:=h
 refine ⟨_,(@aG _ _ _ _ _ (@aW _ _ (1) _ _ _ _ gT.nd rfl (Or.inl rfl) aE (by rfl) (by trivial)) (@aG _ _ _ _ _ (@hU _ _ _ _ _ _ _ _ BJ rfl (@aJD _ _ _ _ _ _ _ rfl T.n_range (@aA _ _ _ _ _ aE (@aA _ _ _ _ _ (@aO _ _ _ _ _ _ _ _ fN (pv 0) aE) aD (by rfl)) (by rfl)) (by rfl) (by rfl)) (@bC _ _ (2) _ gT.nd rfl (Or.inl rfl) (by trivial)) (@aH _ _ _ (@aMB _ _ (1) _ _ _ _ _ _ gT.nd rfl (Or.inl rfl) (pv 2) aTN (by trivial))) (by intro _;rfl)) (@aH _ _ _ (@aT _ _ _ _ (pv 1))))),?_⟩
 refine ⟨_,rfl,_,_,rfl,rfl,_,_,rfl,⟨by decide,by decide,by omega,by omega⟩,?_⟩
 have en:((n:Int) + 1 - 1).toNat = n:=by omega
 rw [en]
 refine iG (lo:=1) (n:=n) (fun i σ H'=>∃ v2:Option V,σ = [some (.int n),some (.int (fac i:Nat)),v2] ∧ H' = H) ⟨_,rfl,rfl⟩ ?_ ?_
 ·rintro i σ H' hi ⟨v2,rfl,rfl⟩
  refine ⟨_,rfl,_,rfl,_,_,rfl,rfl,(show aRB _ _ from .inr ⟨by omega,by omega⟩).ok,some (.int (1 + (i:Int))),?_,rfl⟩
  show [some (V.int n),some (V.int ((fac i:Nat) * (1 + (i:Int)))),some (V.int (1 + (i:Int)))] = _
  rw [show ((fac i:Nat):Int) * (1 + (i:Int)) = ((fac (i + 1):Nat):Int) by rw [show fac (i + 1) = fac i * (i + 1) from rfl,FH,Int.add_comm];rfl]
 ·rintro σ H' ⟨v2,rfl,rfl⟩
  exact ⟨_,rfl,q⟩
def aCE:Sp:=sp2 fun x y H Q=>∃ a n:Nat,x = .int a ∧ y = .int n ∧ a < n ∧ n ≤ 6 ∧ Q (.int (fac a * fac (n - a - 1):Nat)) H
theorem pN (T:Txt K mg C):Fc P w K mg base 2 "orders_behind" ["ahead","count"] aCE:=by
 have G_p_orders_of:Fc P w K mg base 1 "orders_of" ["count"] aLG:=nB T
 refine T.d_p_orders_behind.fc pJ iX (fun f cdv A outer s H vs Q E hr h=>?_)
 obtain ⟨x,y,rfl,a,n,rfl,rfl,an,n4,q⟩:=h
 refine ⟨_,(@aH _ _ _ (@aT _ _ _ _ (@aO _ _ _ _ _ _ _ _ iD (@bI _ _ _ _ _ _ _ _ _ _ G_p_orders_of (hr.mono (by decide)) (@aA _ _ _ _ _ (pv 0) aD (by rfl)) (by rfl) (by decide) (by rfl) (by rfl)) (@bI _ _ _ _ _ _ _ _ _ _ G_p_orders_of (hr.mono (by decide)) (@aA _ _ _ _ _ (@aO _ _ _ _ _ _ _ _ iC (@aO _ _ _ _ _ _ _ _ iC (pv 1) (pv 0)) aE) aD (by rfl)) (by rfl) (by decide) (by rfl) (by rfl))))),?_⟩
 refine ⟨_,rfl,_,rfl,a,rfl,by omega,_,rfl,_,rfl,_,_,rfl,rfl,_,_,rfl,rfl,_,rfl,n - a - 1,?_,by omega,_,_,rfl,rfl,?_,?_⟩
 ·show V.int _ = V.int _
  congr 1
  omega
 ·have:=aFS a (by omega)
  exact .inl ⟨by omega,by omega⟩
 ·show Q (.int (((fac a:Nat):Int) * ((fac (n - a - 1):Nat):Int))) H
  rw [← FH]
  exact q
open Mt53 Mt22 MtF Mt31 Mt61 Mt73
def wE (ss:List Str):List Key:=ss.map Sum.inr
theorem aFG (ss:List Str):(wE ss).map kV = ss.map V.str:=by
 unfold wE
 rw [Ao]
 rfl
theorem aDI {a b:List Str} (h:wE a = wE b):a = b:=by
 induction a generalizing b with
 | nil=>cases b with
  | nil=>rfl
  | cons y b=>cases h
 | cons x a ih=>cases b with
  | nil=>cases h
  | cons y b =>
   have:=List.cons.inj h
   rw [DM this.1,ih this.2]
theorem aUR {H H':Hp} (S:aI H H') {d:Addr} {u:HO} (r:Rd H d u):Rd H' d u:=r.imp (S _ _) fun ⟨o,e⟩=>⟨o,S _ _ e⟩
theorem oF {t:Hp → Prop} {H:Hp} {l:Addr} {o:HO} (n:H l = none) (h:∀ H',aI H H' → H' l = some o → t H'):t (upd H l o):=h _ (aI.upd n) aF
def eA (zs:List Str):List (List Str):=(plN zs.length).map (List.map fun i=>zs.getD i "")
noncomputable def gQ (G:List Gap) (zs:List Str):List (List Key × V):=(eA zs).map fun co=>(wE co,V.int (cF G co))
theorem zG {G:List Gap} {co:List Str}:∀ {cs:List (List Str)},co ∈ cs → eU (cs.map fun co=>(wE co,V.int (cF G co))) (wE co) = some (.int (cF G co))
 | x :: r,m=>by
  rw [AY]
  by_cases e:x = co
  ·subst e
   exact jG rfl
  ·rw [jH (fun h=>e (aDI h))]
   rcases Af.mp m with h | h
   ·exact absurd h.symm e
   ·exact zG h
theorem zH {G:List Gap} {zs co:List Str} (m:co ∈ eA zs):eU (gQ G zs) (wE co) = some (.int (cF G co)):=zG m
theorem aFZ {zs:List Str} (n1:1 ≤ zs.length) (n4:zs.length ≤ 6) (q:Str → Bool):zs.filter q ∈ eA zs:=by
 rw [sF]
 exact AR.mpr ⟨_,aEU _ _ n1 n4,rfl⟩
theorem aQU {zs co:List Str} (n1:1 ≤ zs.length) (n4:zs.length ≤ 6) (m:co ∈ eA zs) {z:Str} (mz:z ∈ zs) (nz:z ∉ co):co.length < zs.length:=by
 obtain ⟨ns,mn,rfl⟩:=AR.mp m
 obtain ⟨i,hi,rfl⟩:=DS mz
 rw [AA]
 refine aPP _ n1 n4 ns mn i (Ax.mpr hi) fun h=>nz (AR.mpr ⟨i,h,?_⟩)
 rw [Aa,AB hi]
 rfl
theorem aQR (y z:Str):decide (V.str y = V.str z) = decide (y = z):=by
 by_cases h:y = z
 ·subst h;simp
 ·rw [decide_eq_false h,decide_eq_false fun e=>h (V.str.inj e)]
theorem qY:∀ n,0 < fac n
 | 0=>Nat.one_pos
 | n + 1=>Nat.mul_pos (qY n) (Nat.succ_pos n)
theorem aHU:∀ n,n ≤ 6 → fac n ≤ 720:=by
 intro n h
 have:n = 0 ∨ n = 1 ∨ n = 2 ∨ n = 3 ∨ n = 4 ∨ n = 5 ∨ n = 6:=by omega
 rcases this with rfl | rfl | rfl | rfl | rfl | rfl | rfl <;> decide
noncomputable def total (G:List Gap) (zs:List Str) (z:Str) (k:Nat):Int:=sm ((eA zs).take k) fun co=>tm (cF G) zs z co
theorem uO {G:List Gap} {zs co:List Str} {z:Str} {i:Nat} (e:(eA zs)[i]? = some co):total G zs z (i + 1) = total G zs z i + tm (cF G) zs z co:=by
 unfold total
 rw [Ab,e,uV]
 show _ + sm [co] _ = _
 rw [aV,kG]
 omega
theorem aWZ {td:TE} {g:TG} {tb:TS} {D:Ends} {σ:L2.St} {H:Hp} {d:Addr} {kvs:List (List Key × V)} {u:TS} (htd:∀ R,R (.ref d) H → td σ H R) (rd:Rd H d (.dT kvs)) (Pv:Obj → Nat → L2.St → Hp → Prop) (h0:∀ o H',dP d H H' → H' d = some (.frz o (.dT kvs)) → Pv o 0 σ H')
  (hl:∀ o i σ H,i ≤ kvs.length → Pv o i σ H → H d = some (.frz o (.dT kvs))) (hs:∀ o i kv b σ H,kvs[i]? = some kv → H b = some (.tup (kv.1.map kV)) → Pv o i σ H → g (.ref b) σ H fun σ2 H2=>tb { D with nx:=Pv o (i + 1),ct:=Pv o (i + 1),bk:=u D } σ2 H2)
  (hd:∀ o σ H,Pv o kvs.length σ H → u D σ H):rE (aUI (aNB td) g tb) u D σ H:=by
 refine htd _ ?_
 rcases rd with e | ⟨o,e⟩
 ·exact ⟨d,kvs,rfl,.inl ⟨e,fun o=>aNI (Pv o) (h0 o _ (fun b u n e=>by rw [aK n];exact e) aF) (hl o) (hs o) (hd o)⟩⟩
 ·exact ⟨d,kvs,rfl,.inr ⟨o,e,aNI (Pv o) (h0 o H (fun _ _ _ e=>e) e) (hl o) (hs o) (hd o)⟩⟩
theorem aHX {H:Hp} {d b:Addr} {kvs:List (List Key × V)} {ss:List Str} {c:Int} (r:Rd H d (.dT kvs)) (hb:H b = some (.tup (ss.map V.str))) (e:eU kvs (wE ss) = some (.int c)):sQ H d (.ref b) (some (.int c)) :=
 .inr ⟨kvs,wE ss,b,r,rfl,by rw [hb,aFG],e.symm⟩
def yC:Sp:=sp3 fun x y u H Q=>∃ (z:Str) (l d:Addr) (G:List Gap) (zs:List Str),x = .str z ∧ y = .ref l ∧ H l = some (.lst (zs.map V.str)) ∧ 1 ≤ zs.length ∧ zs.length ≤ 6 ∧ zs.Nodup ∧ z ∈ zs ∧ u = .ref d ∧ Rd H d (.dT (gQ G zs)) ∧
 ∀ v H',dP d H H' → Rd H' d (.dT (gQ G zs)) → Fr H' v (low (total G zs z (eA zs).length) (fac zs.length:Nat)).1 (low (total G zs z (eA zs).length) (fac zs.length:Nat)).2 → Q v H'
theorem xM (T:Txt K mg C):Fc P w K mg base 3 "share_of" ["field","fields","costs"] yC:=by
 have G_p_orders_of:Fc P w K mg base 1 "orders_of" ["count"] aLG:=nB T
 have G_p_orders_behind:Fc P w K mg base 2 "orders_behind" ["ahead","count"] aCE:=pN T
 have G_p_fraction:Fc P w K mg base 2 "fraction" ["top","bottom"] aGN:=xO T
 refine T.d_p_share_of.fc fP pQ (fun f cdv A outer s H vs Q E hr h=>?_)
 obtain ⟨x,y,u,rfl,z,l,d,G,zs,rfl,rfl,hl,n1,n4,nd,mz,rfl,rd,q⟩:=h
 have big:=bT
 have hu:=lC hr
 refine ⟨_,(@aG _ _ _ _ _ (@aW _ _ (3) _ _ _ _ fP.nd rfl (Or.inl rfl) aE (by rfl) (by trivial)) (@aG _ _ _ _ _ (@hU _ _ _ _ _ _ _ _ BJ rfl (@aMD _ _ _ _ (pv 2)) (@bC _ _ (4) _ fP.nd rfl (Or.inr rfl) (by trivial)) (@aH _ _ _ (@fL _ _ _ _ _ _ _ _ (@cD _ _ _ _ _ _ _ _ (@oW _ (K) rfl) (pv 0) (pv 4) (by with_unfolding_all rfl)) (@aG _ _ _ _ _ (@aW _ _ (5) _ _ _ _ fP.nd rfl (Or.inl rfl) (@cJ _ _ _ _ _ _ _ _ _ pE rfl T.n_tuple nX (@aA _ _ _ _ _ (@cE _ _ _ _ _ _ _ _ _ _ _ ["name","field","company"] 1 [0,4] rfl (@bO _ _ _ _ (pv 1)) (fun R=>@bC _ _ (0) _ (show Ay (["name","field","company"]:List Str) by decide +kernel) rfl (Or.inl rfl) (by trivial)) (@aZ _ _ (by decide)) (fun R=>@fF _ _ _ (@PW.pt _ _ _ (@qH _ _ _ _ _ _ _ (@cD _ _ _ _ _ _ _ _ oX (pv 0) (pv 1) (@bY _ _ (by decide) (by decide))) (@mX _ _ _ _ (@cD _ _ _ _ _ _ _ _ (@pM _ (K) rfl) (pv 0) (pv 2) (by with_unfolding_all rfl)))))) (fun R=>(pv 0)) (by rfl) (by rfl) (by rfl) (by rfl) (by rfl) (by rfl) (by rfl) (by intro _;rfl)) aD (by rfl)) (by decide) (by decide) (by rfl) (by rfl)) (by rfl) (by trivial)) (@aH _ _ _ (@aMB _ _ (3) _ _ _ _ _ _ fP.nd rfl (Or.inl rfl) (@aO _ _ _ _ _ _ _ _ iD (@bI _ _ _ _ _ _ _ _ _ _ G_p_orders_behind (hr.mono (by decide)) (@aA _ _ _ _ _ (@aU _ _ _ _ _ _ _ _ _ (@bE _ (K) rfl) rfl T.n_len bN (@aA _ _ _ _ _ (pv 4) aD (by rfl)) (by decide) (by decide) (by rfl) (by rfl)) (@aA _ _ _ _ _ (@aU _ _ _ _ _ _ _ _ _ (@bE _ (K) rfl) rfl T.n_len bN (@aA _ _ _ _ _ (pv 1) aD (by rfl)) (by decide) (by decide) (by rfl) (by rfl)) aD (by rfl)) (by rfl)) (by rfl) (by decide) (by rfl) (by rfl)) (@aO _ _ _ _ _ _ _ _ iC (@gH _ _ _ _ _ _ hu (pv 2) (pv 5) (fun _ _=>rfl)) (@gH _ _ _ _ _ _ hu (pv 2) (pv 4) (fun _ _=>rfl)))) aTO (by trivial)))) cL)) (by intro _;rfl)) (@aH _ _ _ (@aT _ _ _ _ (@bI _ _ _ _ _ _ _ _ _ _ G_p_fraction (hr.mono (by decide)) (@aA _ _ _ _ _ (pv 3) (@aA _ _ _ _ _ (@bI _ _ _ _ _ _ _ _ _ _ G_p_orders_of (hr.mono (by decide)) (@aA _ _ _ _ _ (@aU _ _ _ _ _ _ _ _ _ (@bE _ (K) rfl) rfl T.n_len bN (@aA _ _ _ _ _ (pv 1) aD (by rfl)) (by decide) (by decide) (by rfl) (by rfl)) aD (by rfl)) (by rfl) (by decide) (by rfl) (by rfl)) aD (by rfl)) (by rfl)) (by rfl) (by decide) (by rfl) (by rfl)))))),?_⟩
 have nl:l ≠ d:=fun e=>by rw [e] at hl;rcases rd with h | ⟨_,h⟩ <;> rw [hl] at h <;> cases h
 refine gσ (σ':=[some (.str z),some (.ref l),some (.ref d),some (.int 0),none,none]) rfl ?_
 dsimp only
 refine aWZ (d:=d) (kvs:=gQ G zs) (fun R h=>⟨_,rfl,h⟩) rd (fun o i σ H'=>∃ v4 v5:Option V,σ = [some (.str z),some (.ref l),some (.ref d),some (.int (total G zs z i)),v4,v5] ∧ dP d H H' ∧ H' d = some (.frz o (.dT (gQ G zs)))) (fun o H1 K1 e1=>⟨_,_,rfl,K1,e1⟩) ?_ ?_ ?_
 ·rintro o i σ H' hi ⟨v4,v5,rfl,k',e'⟩
  exact e'
 ·rintro o i kv b σ H' ek hb ⟨v4,v5,rfl,k',e'⟩
  unfold gQ at ek
  rw [AK] at ek
  obtain ⟨co,ec,rfl⟩:=Aq.mp ek
  have mc:co ∈ eA zs:=AN ec
  have hb:H' b = some (.tup (co.map V.str)):=by rw [hb,aFG]
  have hl':=k' _ _ nl hl
  refine gσ (σ':=[some (.str z),some (.ref l),some (.ref d),some (.int (total G zs z i)),some (.ref b),v5]) rfl ?_
  refine ⟨_,rfl,_,rfl,b,_,rfl,.inr (SqT.of hb),rfl,lE co,_,rfl,?_⟩
  rw [if_pos rfl,qU]
  by_cases mz':z ∈ co
  ·rw [decide_eq_true mz']
   refine bS ⟨some (.ref b),v5,?_,k',e'⟩
   rw [uO ec]
   unfold tm
   rw [if_pos mz',Ep]
  ·rw [decide_eq_false mz']
   refine dD ?_
   have lc:=aQU n1 n4 mc mz mz'
   refine ⟨_,rfl,l,rfl,⟨_,SqL.of hl'⟩,?_⟩
   refine bM (F:=K) (xs:=zs.map V.str) (by rw [AA];omega) (fun j ys H''=>H' = H'' ∧ ys = ((zs.take j).filter fun y=>decide (y = z) || decide (y ∈ co)).map V.str) ⟨rfl,rfl⟩ ?_ ?_ ?_
   ·rintro j ys H'' hj ⟨rfl,rfl⟩
    have:=BP (fun y:Str=>decide (y = z) || decide (y ∈ co)) (zs.take j)
    rw [Ac] at this
    exact ⟨SqL.of hl',by rw [AA];omega⟩
   ·rintro j xv ys H'' K1 K2 hx' ⟨rfl,rfl⟩ k1 k2
    rw [AK] at hx'
    obtain ⟨y,ey,rfl⟩:=Aq.mp hx'
    have et:=lF (P:=fun y:Str=>decide (y = z) || decide (y ∈ co)) ey
    refine ⟨_,rfl,_,rfl,rfl,_,rfl,?_⟩
    rw [aQR]
    by_cases eyz:y = z
    ·rw [decide_eq_true eyz] at et ⊢
     exact dD (dD ⟨_,rfl,k1 _ _ ⟨rfl,by rw [et,Bool.true_or,if_pos rfl,AX];rfl⟩⟩)
    ·rw [decide_eq_false eyz] at et ⊢
     refine bS ⟨_,rfl,_,rfl,b,_,rfl,.inr (SqT.of hb),rfl,lE co,_,rfl,?_⟩
     rw [if_neg AV,qU]
     cases hg:decide (y ∈ co) with
     | false =>
      rw [hg] at et
      exact bS (k2 _ ⟨rfl,by rw [et];simp⟩)
     | true =>
      rw [hg] at et
      exact dD ⟨_,rfl,k1 _ _ ⟨rfl,by rw [et,Bool.or_true,if_pos rfl,AX];rfl⟩⟩
   rintro ys H'' ⟨rfl,rfl⟩
   rw [AA,AH (AQ _)]
   intro lj mj
   refine oF mj fun H2 S2 r2=>?_
   refine ⟨lj,_,rfl,.inl ⟨SqL.of r2,fun tj mt=>?_⟩⟩
   refine oF mt fun H3 S3 r3=>?_
   have T3:=S2.trans S3
   refine gσ (σ':=[some (.str z),some (.ref l),some (.ref d),some (.int (total G zs z i)),some (.ref b),some (.ref tj)]) rfl ?_
   have e3:=T3 _ _ e'
   have rd3:Rd H3 d (.dT (gQ G zs)):=.inr ⟨o,e3⟩
   refine ⟨_,rfl,_,rfl,b,_,rfl,.inr (SqT.of (T3 _ _ hb)),_,rfl,l,_,rfl,.inl (SqL.of (T3 _ _ hl')),_,_,rfl,co.length,zs.length,by rw [AA],by rw [AA],lc,n4,?_⟩
   refine ⟨_,rfl,_,rfl,d,_,rfl,aHX rd3 r3 (zH (aFZ n1 n4 _)),_,rfl,_,rfl,d,_,rfl,aHX rd3 (T3 _ _ hb) (zH mc),_,_,rfl,rfl,_,_,rfl,rfl,?_,_,_,rfl,rfl,some (.ref b),some (.ref tj),?_,(fun b' u' n' e=>T3 _ _ (k' b' u' n' e)),e3⟩
   ·have h1:=aFS co.length (by omega)
    have h2:=aFS (zs.length - co.length - 1) (by omega)
    have h3:fac co.length * fac (zs.length - co.length - 1) ≤ 40320 * 40320:=Nat.mul_le_mul h1 h2
    generalize fac co.length * fac (zs.length - co.length - 1) = x at h3
    exact .inl ⟨by omega,by omega⟩
   ·rw [uO ec]
    unfold tm
    rw [if_neg mz']
    rfl
 ·rintro o σ H' ⟨v4,v5,rfl,k',e'⟩
  have ecl:(gQ G zs).length = (eA zs).length:=by unfold gQ;rw [AA]
  rw [ecl]
  refine ⟨_,rfl,_,rfl,l,_,rfl,.inl (SqL.of (k' _ _ nl hl)),_,rfl,zs.length,by rw [AA],by omega,?_⟩
  have f0:0 < fac zs.length:=qY _
  exact ⟨_,_,rfl,_,_,rfl,rfl,by omega,by have:=aHU _ n4;omega,fun v H2 S2 fr=>q v H2 (fun b u n e=>S2 _ _ (k' b u n e)) (.inr ⟨o,S2 _ _ e'⟩) fr⟩
open Mt53 Mt22 MtF Mt31 Mt61 Mt73
theorem aOO {G:List Gap} {zs:List Str} {rs:List (List Str × Int)} (t:Told G zs rs):rs = (eA zs).map fun co=>(co,cF G co):=by
 have e:rs.map (·.1) = eA zs:=by
  rw [t.cos]
  unfold eA plN
  rw [Ao]
  refine BZ fun ns _=>?_
  show ns.map (atZ zs) = (ns.map Int.toNat).map fun i=>zs.getD i ""
  rw [Ao]
  rfl
 rw [← e,Ao]
 conv=>lhs;rw [← FB rs]
 refine BZ fun r m=>?_
 show r = (r.1,cF G r.1)
 rw [aDY (t.lst r m)]
theorem rQ {α β:Type} {f:α → β}:∀ {l:List α},(∀ a ∈ l,∀ b ∈ l,f a = f b → a = b) → l.Nodup → (l.map f).Nodup
 | [],_,_=>.nil
 | x :: r,inj,nd=>by
  rw [AY]
  refine Ak.mpr ⟨fun m=>?_,rQ (fun a ma b mb=>inj a (AO _ ma) b (AO _ mb)) (Ak.mp nd).2⟩
  obtain ⟨y,my,e⟩:=AR.mp m
  exact (Ak.mp nd).1 (inj y (AO _ my) x AU e ▸ my)
theorem aHL {f:Nat → Str} {n:Nat} (inj:∀ a b,a < n → b < n → f a = f b → a = b):∀ {a b:List Nat},(∀ i ∈ a,i < n) → (∀ i ∈ b,i < n) → a.map f = b.map f → a = b
 | [],[],_,_,_=>rfl
 | [],_ :: _,_,_,e=>by cases e
 | _ :: _,[],_,_,e=>by cases e
 | x :: a,y :: b,ha,hb,e=>by
  rw [AY,AY] at e
  obtain ⟨e1,e2⟩:=List.cons.inj e
  rw [inj x y (ha x AU) (hb y AU) e1,aHL inj (fun i m=>ha i (AO _ m)) (fun i m=>hb i (AO _ m)) e2]
theorem aNW {G:List Gap} {zs:List Str} (nd:zs.Nodup) (n1:1 ≤ zs.length) (n4:zs.length ≤ 6):((gQ G zs).map (·.1)).Nodup:=by
 unfold gQ eA
 rw [Ao,Ao]
 exact rQ (fun a ma b mb e=>aHL (fun i j hi hj h=>kI nd hi hj h) (rL _ n1 n4 a ma) (rL _ n1 n4 b mb) (aDI e)) (aJC _ n1 n4)
theorem aKB {G:List Gap} {zs:List Str} (n1:1 ≤ zs.length) (n4:zs.length ≤ 6):(gQ G zs).length ≤ 64:=by
 unfold gQ eA
 rw [AA,AA]
 exact aMC _ n1 n4
theorem sS {H:Hp}:∀ {zs:List Str} {vs:List V},IsL H (zs.map Dv.str) vs → vs = zs.map V.str
 | [],_,h=>h
 | z :: zs,_,h=>by
  obtain ⟨v,r,rfl,e,t⟩:=h
  cases (show v = .str z from e)
  rw [sS t]
  rfl
def sN (H:Hp) (G:List Gap) (zs ws:List Str) (kvs:List (Key × V)):Prop:=Paired (fun (z:Str) (kv:Key × V)=>kv.1 = Sum.inr z ∧ Fr H kv.2 (low (total G zs z (eA zs).length) (fac zs.length:Nat)).1 (low (total G zs z (eA zs).length) (fac zs.length:Nat)).2) ws kvs
theorem sN.mono {H H':Hp} {G:List Gap} {zs ws:List Str} {kvs:List (Key × V)} (h:sN H G zs ws kvs) (k:∀ a xs,H a = some (.tup xs) → H' a = some (.tup xs)):sN H' G zs ws kvs :=
 Paired.mapP h fun _ _ ⟨e,a,e1,e2⟩=>⟨e,a,e1,k _ _ e2⟩
theorem aEW {H H':Hp} {ys:List V} {kvs:List (Key × V)} (h:bP H ys kvs) (k:∀ a xs,H a = some (.tup xs) → H' a = some (.tup xs)):bP H' ys kvs :=
 Paired.mapP h fun _ _ ⟨a,e1,e2⟩=>⟨a,e1,k _ _ e2⟩
theorem aKP {d:Addr} {H H':Hp} {kvs:List (List Key × V)} (k:dP d H H') (rd:Rd H d (.dT kvs)):∀ a xs,H a = some (.tup xs) → H' a = some (.tup xs):=fun a xs e=>k _ _ (fun z=>by
 rw [z] at e
 rcases rd with h | ⟨o,h⟩ <;> rw [e] at h <;> cases h) e
theorem aIO {T d:Addr} {pos:Pos} {qual:Str} {H H':Hp} {kvs:List (List Key × V)} (k:dP d H H') (rd:Rd H d (.dT kvs)) (x:lM T pos qual H):lM T pos qual H':=by
 have nd:∀ {b:Addr} {o:HO},H b = some o → (∀ kvs,o ≠ .dT kvs) → (∀ q kvs,o ≠ .frz q (.dT kvs)) → H' b = some o:=fun {b o} e n1 n2=>k _ _ (fun z=>by
  rw [z] at e
  rcases rd with h | ⟨q,h⟩ <;> rw [e] at h
  ·exact n1 _ (Aw h)
  ·exact n2 _ _ (Aw h)) e
 obtain ⟨ps,e,t,r⟩:=x
 exact ⟨ps,nd e (fun _=>nofun) (fun _ _=>nofun),t,r.imp id fun ⟨c,e1,e2⟩=>⟨c,e1,nd e2 (fun _=>nofun) (fun _ _=>nofun)⟩⟩
theorem aCH {H:Hp} {G:List Gap} {zs ws:List Str} {kvs:List (Key × V)} (h:sN H G zs ws kvs):kvs.map (·.1) = ws.map Sum.inr:=by
 induction h with
 | nil=>rfl
 | cons a r ih=>rw [AY,AY,ih,a.1]
def aCB (C Tb:Addr):Sp:=sp3 fun x y u H Q=>∃ (p l:Addr) (fs ds:List Dv) (zs:List Str) (L:Int),x = .ref p ∧ LandAt C H p fs ds ∧ y = .ref l ∧ H l = some (.lst (zs.map V.str)) ∧ 1 ≤ zs.length ∧ zs.length ≤ 6 ∧ zs.Nodup ∧ (∀ z ∈ zs,z ∈ fs.map bA) ∧ u = .int L ∧ hgt L = true ∧ pW Tb H ∧
 ∀ (d:Addr) (kvs:List (Key × V)) (H':Hp),dP Tb H H' → pW Tb H' → H d = none → H' d = some (.dK kvs) → sN H' (aP fs ds L) zs zs kvs → Q (.ref d) H'
theorem aCW (T:Txt K mg C) {c Tb:Addr} (B:TabB K mg base "lists_of_places" c Tb):Fc P w K mg base 9 "shares" ["land","fields","height"] (aCB C Tb):=by
 have G_p_companies:Fc P w K mg base 8 "companies" ["land","fields","height"] (sT C Tb):=vP T B
 have G_p_share_of:Fc P w K mg base 3 "share_of" ["field","fields","costs"] yC:=xM T
 refine T.d_p_shares.fc sW pQ (fun f cdv A outer s H vs Q E hr h=>?_)
 obtain ⟨x,y,u,rfl,p,l,fs,ds,zs,lv,rfl,L,rfl,hl,l1,l4,nd,sub,rfl,hL,tab,q⟩:=h
 have big:=bT
 have hu:=lC hr
 refine ⟨_,(@aG _ _ _ _ _ (@aW _ _ (3) _ _ _ _ sW.nd rfl (Or.inr rfl) (@cJ _ _ _ _ _ _ _ _ _ (@sL _ rfl hr.units) rfl T.n_dict gK (@aA _ _ _ _ _ (@cE _ _ _ _ _ _ _ _ _ _ _ ["row"] 1 [] rfl (@bO _ _ _ _ (@bI _ _ _ _ _ _ _ _ _ _ G_p_companies (hr.mono (by decide)) (@aA _ _ _ _ _ (pv 0) (@aA _ _ _ _ _ (pv 1) (@aA _ _ _ _ _ (pv 2) aD (by rfl)) (by rfl)) (by rfl)) (by rfl) (by decide) (by rfl) (by rfl))) (fun R=>@bC _ _ (0) _ (show Ay (["row"]:List Str) by decide +kernel) rfl (Or.inl rfl) (by trivial)) (@aZ _ _ (by decide)) (fun R=>cC) (fun R=>(@dS _ _ _ _ _ (@aA _ _ _ _ _ (@cJ _ _ _ _ _ _ _ _ _ (@xC _ (K) rfl) rfl T.n_tuple nX (@aA _ _ _ _ _ (@bG _ _ _ _ _ _ _ (@aQ _ (K) rfl) (pv 0) aE (fun _ _=>rfl)) aD (by rfl)) (by decide) (by decide) (by rfl) (by rfl)) (@aA _ _ _ _ _ (@bG _ _ _ _ _ _ _ (@aQ _ (K) rfl) (pv 0) aE (fun _ _=>rfl)) aD (by rfl)) (by rfl)))) (by rfl) (by rfl) (by rfl) (by rfl) (by rfl) (by rfl) (by rfl) (by intro _;rfl)) aD (by rfl)) (by decide) (by decide) (by rfl) (by rfl)) (by rfl) (by trivial)) (@aH _ _ _ (@aT _ _ _ _ (@cJ _ _ _ _ _ _ _ _ _ (@dJ _ rfl) rfl T.n_dict gK (@aA _ _ _ _ _ (@cE _ _ _ _ _ _ _ _ _ _ _ ["field","fields","costs"] 1 [1,3] rfl (@bO _ _ _ _ (pv 1)) (fun R=>@bC _ _ (0) _ (show Ay (["field","fields","costs"]:List Str) by decide +kernel) rfl (Or.inl rfl) (by trivial)) (@aZ _ _ (by decide)) (fun R=>cC) (fun R=>(@dS _ _ _ _ _ (@aA _ _ _ _ _ (pv 0) (@aA _ _ _ _ _ (@bI _ _ _ _ _ _ _ _ _ _ G_p_share_of (hr.mono (by decide)) (@aA _ _ _ _ _ (pv 0) (@aA _ _ _ _ _ (pv 1) (@aA _ _ _ _ _ (pv 2) aD (by rfl)) (by rfl)) (by rfl)) (by rfl) (by decide) (by rfl) (by rfl)) aD (by rfl)) (by rfl)))) (by rfl) (by rfl) (by rfl) (by rfl) (by rfl) (by rfl) (by rfl) (by intro _;rfl)) aD (by rfl)) (by decide) (by decide) (by rfl) (by rfl))))),?_⟩
 refine ⟨_,rfl,_,rfl,_,rfl,_,_,_,rfl,p,l,fs,ds,zs,lv,rfl,L,rfl,hl,l1,l4,nd,sub,rfl,hL,tab,fun D us rs H1 K1 tab1 hD ir told=>?_⟩
 have ers:=aOO told
 subst ers
 have eTl:l ≠ Tb:=fun z=>by
  obtain ⟨qs,eT,_⟩:=tab
  rw [z,eT] at hl
  cases hl
 have hl1:=K1 _ _ eTl hl
 have lus:=ir.length
 rw [AA,AA] at lus
 have n16:(eA zs).length ≤ 64:=by have:=aKB (G:=aP fs ds lv) l1 l4;unfold gQ at this;rw [AA] at this;exact this
 refine ⟨D,rfl,⟨_,SqL.of hD⟩,?_⟩
 refine bM (F:=K) (xs:=us) (by omega) (fun j ys H'=>aI H1 H' ∧ iY H' ys ((gQ (aP fs ds lv) zs).take j)) ⟨aI.refl _,iY.nil _⟩ ?_ ?_ ?_
 ·rintro j ys H' hj ⟨S',pr⟩
  have:=pr.len
  rw [Ac] at this
  exact ⟨SqL.of (S' _ _ hD),by omega⟩
 ·rintro j xv ys H' K1' K2' hx ⟨S',pr⟩ k1 k2
  have hjl:=(AC.mp hx).1
  obtain ⟨co,ec⟩:∃ co,(eA zs)[j]? = some co:=⟨_,AB (by omega)⟩
  obtain ⟨v,ev,iv⟩:=ir.get (show (((eA zs).map fun co=>(co,cF (aP fs ds lv) co)).map aNZ)[j]? = some (aNZ (co,cF (aP fs ds lv) co)) by rw [AK,AK,ec];rfl)
  rw [hx] at ev
  cases ev
  obtain ⟨t,ts,rfl,ht,v1,r1',rfl,⟨lc,xs,rfl,hlc,hxs⟩,v2,r2',rfl,e2,e3⟩:=iv
  cases (show v2 = .int (cF (aP fs ds lv) co) from e2)
  cases (show r2' = [] from e3)
  have exs:xs = co.map V.str:=sS hxs
  subst exs
  refine ⟨_,rfl,t,_,0,_,rfl,rfl,SqT.of (S' _ _ ht),aN (j:=0) rfl,lc,_,rfl,.inl ⟨SqL.of (S' _ _ hlc),fun tk mt=>?_⟩⟩
  have S2:=aI.upd (o:=.tup (co.map V.str)) mt
  have r2:upd H' tk (.tup (co.map V.str)) tk = some (.tup (co.map V.str)):=aF
  generalize upd H' tk (.tup (co.map V.str)) = H2 at S2 r2
  refine ⟨_,rfl,t,_,1,_,rfl,rfl,SqT.of (S2 _ _ (S' _ _ ht)),aN (j:=1) rfl,bB rfl,fun tp mp=>?_⟩
  refine oF mp fun H3 S3 r3=>k1 _ _ ⟨S'.trans (S2.trans S3),?_⟩
  have eck:(gQ (aP fs ds lv) zs)[j]? = some (wE co,V.int (cF (aP fs ds lv) co)):=by unfold gQ;rw [AK,ec];rfl
  rw [Ab,eck]
  exact Dd (pr.same (S2.trans S3)) ⟨tp,tk,rfl,r3,by rw [S3 _ _ r2,aFG]⟩
 rintro ys H' ⟨S',pr⟩
 have ecl:(gQ (aP fs ds lv) zs).length = (eA zs).length:=by unfold gQ;rw [AA]
 rw [AH (by omega)] at pr
 intro lp mp
 refine oF mp fun H2 S2 r2=>?_
 refine ⟨lp,ys,_,rfl,SqL.of r2,pr.same S2,by omega,aNW nd l1 l4,fun d md=>?_⟩
 refine oF md fun H3 S3 r3=>?_
 have T3:=S'.trans (S2.trans S3)
 refine gσ (σ':=[some (.ref p),some (.ref l),some (.int lv),some (.ref d)]) rfl ?_
 have hl3:=T3 _ _ hl1
 have nTd:Tb ≠ d:=fun z=>by
  obtain ⟨qs,eT,_⟩:=tab1
  have:=T3 _ _ eT
  rw [z,r3] at this
  cases this
 have nld:l ≠ d:=fun z=>by rw [z,r3] at hl3;cases hl3
 have nH:H d = none:=by
  cases e:H d with
  | none=>rfl
  | some o =>
   have a:=K1 _ _ (fun z=>nTd z.symm) e
   have:=(S'.trans S2) _ _ a
   rw [this] at md
   cases md
 refine ⟨_,rfl,l,rfl,⟨_,SqL.of hl3⟩,?_⟩
 refine bM (F:=K) (xs:=zs.map V.str) (by rw [AA];omega) (fun j ys H'=>∃ kvs,dP d H3 H' ∧ Rd H' d (.dT (gQ (aP fs ds lv) zs)) ∧ bP H' ys kvs ∧ sN H' (aP fs ds lv) zs (zs.take j) kvs) ⟨[],(fun _ _ _ e=>e),.inl r3,bP.nil _,CL⟩ ?_ ?_ ?_
 ·rintro j ys H' hj ⟨kvs,k',rd',pr',sh'⟩
  have h1:=pr'.len
  have h2:(zs.take j).length = kvs.length:=CH sh'
  rw [Ac] at h2
  exact ⟨SqL.of (k' _ _ nld hl3),by omega⟩
 ·rintro j xv ys H' K1' K2' hx ⟨kvs,k',rd',pr',sh'⟩ k1 k2
  rw [AK] at hx
  obtain ⟨z,ez,rfl⟩:=Aq.mp hx
  refine ⟨_,rfl,_,rfl,_,rfl,_,rfl,_,_,_,rfl,z,l,d,aP fs ds lv,zs,rfl,rfl,k' _ _ nld hl3,l1,l4,nd,AN ez,rfl,rd',fun v H4 K4 rd4 fr=>?_⟩
  have tk:=aKP K4 rd'
  refine ⟨bB rfl,fun tp mp=>?_⟩
  refine oF mp fun H5 S5 r5=>k1 _ _ ⟨kvs ++ [(Sum.inr z,v)],(fun b u n e=>S5 _ _ (K4 _ _ n (k' _ _ n e))),aUR S5 rd4,Dd ((aEW pr' tk).same S5) ⟨tp,rfl,r5⟩,?_⟩
  rw [Ab,ez]
  exact Dd (sN.mono sh' fun a xs e=>S5 _ _ (tk _ _ e)) ⟨rfl,fr.same S5⟩
 rintro ys H' ⟨kvs,k',rd',pr',sh'⟩
 rw [AA,AH (AQ _)] at sh'
 intro lq mq
 have lk:zs.length = kvs.length:=CH sh'
 have S6:=aI.upd (o:=.lst ys) mq
 have r6:upd H' lq (.lst ys) lq = some (.lst ys):=aF
 generalize upd H' lq (.lst ys) = H6 at S6 r6
 refine ⟨lq,ys,kvs,rfl,SqL.of r6,pr'.same S6,by omega,?_,fun dd mdd=>?_⟩
 ·rw [aCH sh']
  exact rQ (fun a _ b _ e=>DM e) nd
 have S7:=aI.upd (o:=.dK kvs) mdd
 have r7:upd H6 dd (.dK kvs) dd = some (.dK kvs):=aF
 generalize upd H6 dd (.dK kvs) = H7 at S7 r7
 have T7:=S6.trans S7
 have KK:∀ b o,b ≠ Tb → H b = some o → H6 b = some o:=fun b o n e=>S6 _ _ (k' _ _ (fun z=>by rw [z,nH] at e;cases e) (T3 _ _ (K1 _ _ n e)))
 have tab6:pW Tb H6:=(aIO k' (.inl r3) (tab1.keep T3)).keep S6
 refine q dd kvs H7 (fun b o n e=>S7 _ _ (KK b o n e)) (tab6.keep S7) ?_ r7 (sN.mono sh' fun a xs e=>T7 _ _ e)
 cases e:H dd with
 | none=>rfl
 | some o =>
  by_cases z:dd = Tb
  ·obtain ⟨qs,eT,_⟩:=tab6
   rw [z,eT] at mdd
   cases mdd
  ·rw [KK _ _ z e] at mdd
   cases mdd
open Mt53 Mt22 MtF Mt31 Mt61 Mt73
theorem aIU {j n:Nat} (h:j < n):PySem.seqIndex? (j:Int) n = some j:=by
 unfold PySem.seqIndex?
 have h0:¬ (j:Int) < 0:=by omega
 have h1:(decide (0 ≤ (j:Int)) && decide ((j:Int) < (n:Int))) = true:=by rw [decide_eq_true (by omega),decide_eq_true (by omega)];rfl
 simp only [if_neg h0]
 rw [if_pos h1,CF]
theorem zB {α β:Type} (f:α → β):∀ (l:List α) (k:Nat),(l.map f).eraseIdx k = (l.eraseIdx k).map f
 | [],_=>rfl
 | x :: l,0=>rfl
 | x :: l,k + 1=>by
  show f x :: (l.map f).eraseIdx k = f x :: (l.eraseIdx k).map f
  rw [zB f l k]
theorem wO {α:Type}:∀ (l:List α) (k:Nat) (h:k < l.length),(l[k] :: l.eraseIdx k).Perm l
 | x :: l,0,_=>.refl _
 | x :: l,k + 1,h=>by
  show (l[k]'(by simpa using h) :: x :: l.eraseIdx k).Perm (x :: l)
  exact (List.Perm.swap _ _ _).trans ((wO l k (by simpa using h)).cons x)
def aKW:Sp:=sp3 fun x y u H Q=>∃ (m:Int) (l:Addr) (vf:List V) (fs:List Dv),x = .int m ∧ 0 ≤ m ∧ y = .ref l ∧ H l = some (.lst vf) ∧ IsL H fs vf ∧ Fds fs 6 ∧ u = .int 6 ∧
 ∀ (lw:Addr) (zs:List Str) (H':Hp),aI H H' → H' lw = some (.lst (zs.map V.str)) → H lw = none → 1 ≤ zs.length → zs.length ≤ 6 → zs.Nodup → (∀ z ∈ zs,z ∈ fs.map bA) → Q (.ref lw) H'
theorem aJI (T:Txt K mg C):Fc P w K mg base 1 "_law_wish" ["_law_cell","_law_fields_here","_law_most"] aKW:=by
 refine T.d_l_wish.fc kN pQ (fun f cdv A outer s H vs Q E hr h=>?_)
 obtain ⟨x,y,u,rfl,m,l,vf,fs,rfl,m0,rfl,hl,hi,gf,rfl,q⟩:=h
 have big:=bT
 refine ⟨_,(@aG _ _ _ _ _ (@gI _ (3) _ _ _ _ _ _ _ _ _ _ _ _ _ kN.nd rfl ["_law_field"] 1 [] rfl (@bO _ _ _ _ (pv 1)) (fun R=>@bC _ _ (0) _ (show Ay (["_law_field"]:List Str) by decide +kernel) rfl (Or.inl rfl) (by trivial)) (@aZ _ _ (by decide)) (fun R=>cC) (fun R=>(@bG _ _ _ _ _ _ _ (@aQ _ (K) rfl) (pv 0) aE (fun _ _=>rfl))) (by exact Or.inl rfl) (by trivial) (by rfl) (by rfl) (by rfl) (by rfl) (by rfl) (by rfl) (by rfl) (by rfl) (by intro _;rfl)) (@aG _ _ _ _ _ (@aW _ _ (4) _ _ _ _ kN.nd rfl (Or.inl rfl) (@dU _ _ _ _ aD) (by rfl) (by trivial)) (@aG _ _ _ _ _ (@hU _ _ _ _ _ _ _ _ BJ rfl (@gO _ _ _ _ _ _ rfl T.n_range (@aA _ _ _ _ _ (@aO _ _ _ _ _ _ _ _ fN aE (@aO _ _ _ _ _ _ _ _ cV (pv 0) (@aU _ _ _ _ _ _ _ _ _ (@sJ _ rfl) rfl T.n_min oP (@aA _ _ _ _ _ (pv 2) (@aA _ _ _ _ _ (@aU _ _ _ _ _ _ _ _ _ (@bE _ (K) rfl) rfl T.n_len bN (@aA _ _ _ _ _ (pv 1) aD (by rfl)) (by decide) (by decide) (by rfl) (by rfl)) aD (by rfl)) (by rfl)) (by decide) (by decide) (by rfl) (by rfl)))) aD (by rfl)) (by rfl)) (@bC _ _ (5) _ kN.nd rfl (Or.inl rfl) (by trivial)) (@aG _ _ _ _ _ (@aW _ _ (0) _ _ _ _ kN.nd rfl (Or.inl rfl) (@aO _ _ _ _ _ _ _ _ bU (pv 0) aE) (by rfl) (by trivial)) (@aH _ _ _ (@hV _ _ _ _ (@mB _ _ _ _ _ _ _ _ _ _ _ _ BM BV BU fK (pv 4) (@aA _ _ _ _ _ (@mB _ _ _ _ _ _ _ _ _ _ _ _ BM PySem.F.slot_list_pop PySem.F.type_list_pop aDC (pv 3) (@aA _ _ _ _ _ (@aO _ _ _ _ _ _ _ _ cV (pv 0) (@aU _ _ _ _ _ _ _ _ _ (@bE _ (K) rfl) rfl T.n_len bN (@aA _ _ _ _ _ (pv 3) aD (by rfl)) (by decide) (by decide) (by rfl) (by rfl))) aD (by rfl)) (by rfl) (by rfl) (by rfl) (by rfl) (by rfl)) aD (by rfl)) (by rfl) (by rfl) (by rfl) (by rfl) (by rfl)) (by rfl)))) (by intro _;rfl)) (@aH _ _ _ (@aT _ _ _ _ (pv 4)))))),?_⟩
 have f1:=gf.l1
 have f2:=gf.l2
 have lvf:=hi.length
 refine ⟨_,rfl,l,rfl,⟨_,SqL.of hl⟩,?_⟩
 refine bM (F:=K) (xs:=vf) (by omega) (fun i ys H'=>H = H' ∧ ys = ((fs.take i).map bA).map V.str) ⟨rfl,rfl⟩ ?_ ?_ ?_
 ·rintro i ys H' hi' ⟨rfl,rfl⟩
  exact ⟨SqL.of hl,by rw [AA,AA,Ac];omega⟩
 ·rintro i xv ys H' K1 K2 hx ⟨rfl,rfl⟩ k1 k2
  have hil:i < vf.length:=(AC.mp hx).1
  obtain ⟨d,ed⟩:∃ d,fs[i]? = some d:=⟨_,AB (by omega)⟩
  obtain ⟨v,ev,iv⟩:=hi.get ed
  rw [hx] at ev
  cases ev
  obtain ⟨z,g,e,rfl,_⟩:=cB (gf.all d (AN ed))
  obtain ⟨t,rfl,o⟩:=lG iv
  refine ⟨_,rfl,t,_,0,.str z,rfl,rfl,SqT.of o,aN (j:=0) rfl,k1 _ _ ⟨rfl,?_⟩⟩
  rw [Ab,ed]
  simp [bA,cH]
 rintro ys H' ⟨rfl,rfl⟩
 rw [AH (by omega)]
 intro ll mll
 have S1:=aI.upd (o:=.lst ((fs.map bA).map V.str)) mll
 have r1:upd H ll (.lst ((fs.map bA).map V.str)) ll = some (.lst ((fs.map bA).map V.str)):=aF
 generalize upd H ll (.lst ((fs.map bA).map V.str)) = H1 at S1 r1
 refine gσ (σ':=[some (.int m),some (.ref l),some (.int 6),some (.ref ll),none,none]) rfl ?_
 refine ⟨bB rfl,fun lf mlf=>?_⟩
 have S2:=aI.upd (o:=.lst []) mlf
 have r2:upd H1 lf (.lst []) lf = some (.lst (([]:List Str).map V.str)):=aF
 generalize upd H1 lf (.lst []) = H2 at S2 r2
 refine gσ (σ':=[some (.int m),some (.ref l),some (.int 6),some (.ref ll),some (.ref lf),none]) rfl ?_
 have nlf:ll ≠ lf:=fun z=>by rw [z] at r1;rw [r1] at mlf;cases mlf
 have T2:=S1.trans S2
 have nf:H lf = none:=S1.free mlf
 obtain ⟨mn,emn,mn1,mn2,mn3⟩:∃ mn:Nat,(if (vf.length:Int) < 6 then (vf.length:Int) else 6) = mn ∧ 1 ≤ mn ∧ mn ≤ 6 ∧ mn ≤ fs.length:=by
  by_cases h:(vf.length:Int) < 6
  ·exact ⟨vf.length,by rw [if_pos h],by omega,by omega,by omega⟩
  ·exact ⟨6,by rw [if_neg h];rfl,by omega,by omega,by omega⟩
 refine ⟨_,rfl,_,rfl,_,rfl,l,_,rfl,.inl (SqL.of (T2 _ _ hl)),_,_,rfl,?_⟩
 rw [emn]
 have r0:0 ≤ m % (mn:Int):=BB _ (by omega)
 have r1':m % (mn:Int) < (mn:Int):=Az _ (by omega)
 obtain ⟨cnt,hcnt⟩:=BH (show 0 ≤ 1 + m % (mn:Int) by omega)
 refine ⟨_,_,rfl,rfl,by omega,_,_,rfl,rfl,_,rfl,by show -(2 ^ 62) ≤ 1 + m % (mn:Int);omega,by show 1 + m % (mn:Int) < 2 ^ 62;omega,?_⟩
 rw [show (1 + m % (mn:Int)).toNat = cnt by omega]
 refine iG (lo:=0) (n:=cnt) (fun i σ H'=>∃ (c:Int) (v5:Option V) (ls zs:List Str),σ = [some (.int c),some (.ref l),some (.int 6),some (.ref ll),some (.ref lf),v5] ∧ 0 ≤ c ∧ aI H H' ∧ H' ll = some (.lst (ls.map V.str)) ∧ H' lf = some (.lst (zs.map V.str)) ∧ zs.length = i ∧ (zs ++ ls).Perm (fs.map bA)) ⟨m,_,fs.map bA,[],rfl,m0,T2,S2 _ _ r1,r2,rfl,.refl _⟩ ?_ ?_
 ·rintro i σ H' hi' ⟨c,v5,ls,zs,rfl,c0,S',h1,h2,li,pm⟩
  have lsum:=pm.length_eq
  rw [Ai,AA] at lsum
  refine gσ (σ':=[some (.int c),some (.ref l),some (.int 6),some (.ref ll),some (.ref lf),some (.int (0 + (i:Int)))]) rfl ?_
  refine ⟨_,rfl,_,_,rfl,rfl,⟨by decide,by decide⟩,?_⟩
  refine gσ (σ':=[some (.int (c / 7)),some (.ref l),some (.int 6),some (.ref ll),some (.ref lf),some (.int (0 + (i:Int)))]) rfl ?_
  have c7:0 ≤ c / 7:=Int.ediv_nonneg c0 (by decide)
  have lls:(0:Int) < (ls.length:Int):=by omega
  obtain ⟨k,ek⟩:=BH (BB (c / 7) (show (ls.length:Int) ≠ 0 by omega))
  have kl:k < ls.length:=by have:=Az (c / 7) lls;omega
  have ey:ls[k]? = some ls[k]:=AB kl
  refine ⟨_,rfl,.inl ⟨rfl,_,SqL.of h2⟩,_,rfl,.inl ⟨rfl,_,SqL.of h1⟩,_,rfl,_,rfl,ll,_,rfl,.inl (SqL.of h1),_,_,rfl,rfl,by rw [AA];exact lls,ll,_,k,k,.str ls[k],rfl,by rw [AA];show [V.int (c / 7 % (ls.length:Int))] = _;rw [ek],h1,by omega,by omega,by rw [AA];exact aIU kl,by rw [AK,ey];rfl,?_⟩
  have er:(ls.map V.str).eraseIdx k = (ls.eraseIdx k).map V.str:=zB _ _ _
  rw [er]
  refine ⟨lf,_,_,rfl,rfl,by rw [aK (fun z=>nlf z.symm)];exact h2,by rw [AA];omega,?_⟩
  refine ⟨c / 7,_,ls.eraseIdx k,zs ++ [ls[k]],rfl,c7,(fun b o e=>?_),by rw [aK nlf,aF],by rw [aF,AX];rfl,by rw [Ai,li];rfl,?_⟩
  ·rw [aK (aY e nf),aK (aY e mll)]
   exact S' _ _ e
  ·refine List.Perm.trans ?_ pm
   rw [By]
   refine List.Perm.append_left zs ?_
   exact wO ls k kl
 ·rintro σ H' ⟨c,v5,ls,zs,rfl,c0,S',h1,h2,li,pm⟩
  have nd:(zs ++ ls).Nodup:=pm.nodup_iff.mpr gf.nd
  exact ⟨_,rfl,q lf zs H' S' h2 nf (by omega) (by omega) (Dh.mp nd).1 fun z mz=>pm.mem_iff.mp (Bh _ mz)⟩
open Mt53 Mt22 MtF Mt31 Mt61 Mt73
theorem oG {G:List Gap} {zs:List Str} {z:Str}:total G zs z (eA zs).length = shr (cF G) zs z:=by
 unfold total shr
 rw [AH (AQ _)]
 unfold eA sm
 rw [Ao]
 rfl
structure Told2 (H:Hp) (d:Addr) (G:List Gap) (zs:List Str) (kvs:List (Key × V)):Prop where
 at_:H d = some (.dK kvs)
 sh:sN H G zs zs kvs
theorem Told2.keep {T:Addr} {H H':Hp} {d:Addr} {G:List Gap} {zs:List Str} {kvs:List (Key × V)} (h:Told2 H d G zs kvs) (k:dP T H H') {q:Array Value} (e:H T = some (.tbl q)):Told2 H' d G zs kvs :=
 ⟨k _ _ (fun z=>by have:=h.at_;rw [z,e] at this;cases this) h.at_,sN.mono h.sh fun a xs e'=>k _ _ (fun z=>by rw [z,e] at e';cases e') e'⟩
theorem Told2.same {H H':Hp} {d:Addr} {G:List Gap} {zs:List Str} {kvs:List (Key × V)} (h:Told2 H d G zs kvs) (S:aI H H'):Told2 H' d G zs kvs:=⟨S _ _ h.at_,sN.mono h.sh fun a xs e=>S _ _ e⟩
theorem aAF {H:Hp} {G:List Gap} {zs ws:List Str} {kvs:List (Key × V)} (h:sN H G zs ws kvs) {z:Str}:z ∈ ws → ∃ v,eU kvs (Sum.inr z) = some v ∧ Fr H v (low (total G zs z (eA zs).length) (fac zs.length:Nat)).1 (low (total G zs z (eA zs).length) (fac zs.length:Nat)).2:=by
 induction h with
 | nil=>intro m;cases m
 | @cons y kv ws kvs h r ih =>
  intro m
  by_cases e:y = z
  ·subst e
   exact ⟨kv.2,jG h.1,h.2⟩
  ·rw [jH (fun h'=>e (DM (h.1.symm.trans h')))]
   rcases Af.mp m with m | m
   ·exact absurd m.symm e
   ·exact ih m
theorem aMR {F:Int} (hF:0 < F):low 0 F = (0,1):=by
 unfold low
 rw [Int.gcd_zero_left,Int.zero_ediv,Int.natAbs_of_nonneg (DZ hF),Int.ediv_self (by omega)]
noncomputable def mE (G:List Gap) (zs co:List Str):Int:=sm co (shr (cF G) zs)
def aKX:Sp:=sp2 fun x y H Q=>∃ (d l:Addr) (G:List Gap) (zs co:List Str) (kvs:List (Key × V)),x = .ref d ∧ Told2 H d G zs kvs ∧ y = .ref l ∧ H l = some (.lst (co.map V.str)) ∧ (∀ z ∈ co,z ∈ zs) ∧ zs.length ≤ 6 ∧ co.length ≤ 6 ∧
 ∀ v H',aI H H' → Fr H' v (low (mE G zs co) (fac zs.length:Nat)).1 (low (mE G zs co) (fac zs.length:Nat)).2 → Q v H'
theorem vT (T:Txt K mg C):Fc P w K mg base 3 "_law_total" ["_law_told","_law_company"] aKX:=by
 have G_l_lowest:Fc P w K mg base 2 "_law_lowest" ["_law_top","_law_bottom"] aGN:=aCZ T
 refine T.d_l_total.fc jK iX (fun f cdv A outer s H vs Q E hr h=>?_)
 obtain ⟨x,y,rfl,d,l,G,zs,co,kvs,rfl,td,rfl,hl,cz,z6,c6,q⟩:=h
 have big:=bT
 have hu:=lC hr
 refine ⟨_,(@aG _ _ _ _ _ (@aW _ _ (2) _ _ _ _ jK.nd rfl (Or.inl rfl) (@dS _ _ _ _ _ (@aA _ _ _ _ _ aE (@aA _ _ _ _ _ aE aD (by rfl)) (by rfl))) (by rfl) (by trivial)) (@aG _ _ _ _ _ (@hU _ _ _ _ _ _ _ _ BJ rfl (@bO _ _ _ _ (pv 1)) (@bC _ _ (3) _ jK.nd rfl (Or.inl rfl) (by trivial)) (@aG _ _ _ _ _ (@aW _ _ (4) _ _ _ _ jK.nd rfl (Or.inl rfl) (@gH _ _ _ _ _ _ hu (pv 0) (pv 3) (fun _ _=>rfl)) (by rfl) (by trivial)) (@aH _ _ _ (@aW _ _ (2) _ _ _ _ jK.nd rfl (Or.inl rfl) (@bI _ _ _ _ _ _ _ _ _ _ G_l_lowest (hr.mono (by decide)) (@aA _ _ _ _ _ (@aO _ _ _ _ _ _ _ _ fN (@aO _ _ _ _ _ _ _ _ iD (@bG _ _ _ _ _ _ _ (@aQ _ (K) rfl) (pv 2) aE (fun _ _=>rfl)) (@bG _ _ _ _ _ _ _ (@aQ _ (K) rfl) (pv 4) aE (fun _ _=>rfl))) (@aO _ _ _ _ _ _ _ _ iD (@bG _ _ _ _ _ _ _ (@aQ _ (K) rfl) (pv 4) aE (fun _ _=>rfl)) (@bG _ _ _ _ _ _ _ (@aQ _ (K) rfl) (pv 2) aE (fun _ _=>rfl)))) (@aA _ _ _ _ _ (@aO _ _ _ _ _ _ _ _ iD (@bG _ _ _ _ _ _ _ (@aQ _ (K) rfl) (pv 2) aE (fun _ _=>rfl)) (@bG _ _ _ _ _ _ _ (@aQ _ (K) rfl) (pv 4) aE (fun _ _=>rfl))) aD (by rfl)) (by rfl)) (by rfl) (by decide) (by rfl) (by rfl)) (by rfl) (by trivial)))) (by intro _;rfl)) (@aH _ _ _ (@aT _ _ _ _ (pv 2))))),?_⟩
 have f0:(0:Int) < (fac zs.length:Nat):=by have:=qY zs.length;omega
 have f7:=aHU _ z6
 refine ⟨bB rfl,fun t0 m0=>?_⟩
 have S0:=aI.upd (o:=.tup [.int 0,.int 1]) m0
 have r0:upd H t0 (.tup [.int 0,.int 1]) t0 = some (.tup [.int 0,.int 1]):=aF
 generalize upd H t0 (.tup [.int 0,.int 1]) = H0 at S0 r0
 refine gσ (σ':=[some (.ref d),some (.ref l),some (.ref t0),none,none]) rfl ?_
 refine ⟨_,rfl,l,rfl,⟨_,SqL.of (S0 _ _ hl)⟩,nP (K:=K) (a:=l) (xs:=co.map V.str) (fun i σ H'=>∃ (t:V) (v3 v4:Option V),σ = [some (.ref d),some (.ref l),some t,v3,v4] ∧ aI H H' ∧ Fr H' t (low (mE G zs (co.take i)) (fac zs.length:Nat)).1 (low (mE G zs (co.take i)) (fac zs.length:Nat)).2) ⟨_,_,_,rfl,S0,t0,rfl,by rw [EG,show mE G zs [] = 0 from rfl,aMR f0];exact r0⟩ ?_ ?_ ?_⟩
 ·rintro i σ H' hi ⟨t,v3,v4,rfl,S',fr⟩
  exact SqL.of (S' _ _ hl)
 ·rintro i xv σ H' hx ⟨t,v3,v4,rfl,S',tt,rfl,ht⟩
  rw [AK] at hx
  obtain ⟨z,ez,rfl⟩:=Aq.mp hx
  have td':=td.same S'
  obtain ⟨v,ev,pt,rfl,hp⟩:=aAF td'.sh (cz z (AN ez))
  rw [oG] at hp
  obtain ⟨_,_,_,_,b1,b2⟩:=kX (mE G zs (co.take i)) f0
  obtain ⟨_,_,_,_,d1,d2⟩:=kX (shr (cF G) zs z) f0
  have la:=aQH (X:=mE G zs (co.take i)) (t:=shr (cF G) zs z) f0
  have es:mE G zs (co.take (i + 1)) = mE G zs (co.take i) + shr (cF G) zs z:=by
   unfold mE
   rw [Ab,ez,uV]
   show _ + sm [z] _ = _
   rw [aV,kG,Ep]
  rw [es,← la]
  generalize (low (mE G zs (co.take i)) (fac zs.length:Nat)).1 = aX at *
  generalize (low (mE G zs (co.take i)) (fac zs.length:Nat)).2 = bX at *
  generalize (low (shr (cF G) zs z) (fac zs.length:Nat)).1 = cX at *
  generalize (low (shr (cF G) zs z) (fac zs.length:Nat)).2 = dX at *
  refine gσ (σ':=[some (.ref d),some (.ref l),some (.ref tt),some (.str z),v4]) rfl ?_
  refine ⟨_,rfl,_,rfl,d,_,rfl,.inl ⟨_,Sum.inr z,.inl td'.at_,rfl,ev.symm⟩,?_⟩
  refine gσ (σ':=[some (.ref d),some (.ref l),some (.ref tt),some (.str z),some (.ref pt)]) rfl ?_
  refine ⟨_,rfl,tt,_,0,_,rfl,rfl,SqT.of ht,aN (j:=0) rfl,_,rfl,pt,_,1,_,rfl,rfl,SqT.of hp,aN (j:=1) rfl,_,_,rfl,rfl,.inr ⟨by omega,by omega⟩,?_⟩
  refine ⟨_,rfl,pt,_,0,_,rfl,rfl,SqT.of hp,aN (j:=0) rfl,_,rfl,tt,_,1,_,rfl,rfl,SqT.of ht,aN (j:=1) rfl,_,_,rfl,rfl,.inr ⟨by omega,by omega⟩,_,_,rfl,rfl,?_⟩
  refine ⟨_,rfl,tt,_,1,_,rfl,rfl,SqT.of ht,aN (j:=1) rfl,_,rfl,pt,_,1,_,rfl,rfl,SqT.of hp,aN (j:=1) rfl,_,_,rfl,rfl,.inr ⟨by omega,by omega⟩,?_⟩
  have bd:bX * dX ≤ 720 * 720:=Int.mul_le_mul (by omega) (by omega) (by omega) (by omega)
  have bp:0 < bX * dX:=Int.mul_pos b1 d1
  exact ⟨_,_,rfl,_,_,rfl,rfl,bp,by omega,fun v H2 S2 fr=>⟨v,_,_,rfl,S'.trans S2,fr⟩⟩
 ·rintro σ H' ⟨t,v3,v4,rfl,S',fr⟩
  rw [AA,AH (AQ _)] at fr
  exact ⟨_,rfl,q t H' S' fr⟩
def aAC (C:Addr):Sp:=sp3 fun x y u H Q=>∃ (p l:Addr) (fs ds:List Dv) (co:List Str) (L:Int),x = .ref p ∧ LandAt C H p fs ds ∧ y = .ref l ∧ H l = some (.lst (co.map V.str)) ∧ co.Nodup ∧ (∀ z ∈ co,z ∈ fs.map bA) ∧ u = .int L ∧ hgt L = true ∧ ∀ H',aI H H' → Q (.int (cF (aP fs ds L) co)) H'
theorem vV (T:Txt K mg C):Fc P w K mg base 7 "_law_coins" ["_law_land","_law_company","_law_height_here"] (aAC C):=by
 have G_p_fewest:Fc P w K mg base 6 "fewest" ["land","fields","height"] (uS C):=tI T
 refine T.d_l_coins.fc aEP pQ (fun f cdv A outer s H vs Q E hr h=>?_)
 obtain ⟨x,y,u,rfl,p,l,fs,ds,co,lv,rfl,L,rfl,hl,nd,sub,rfl,hL,q⟩:=h
 have gf:=(bZ L).1
 have gd:=(bZ L).2
 have GG:=lX gf gd lv
 refine ⟨_,(@aG _ _ _ _ _ (@fL _ _ _ _ _ _ _ _ (@cD _ _ _ _ _ _ _ _ (@aMN _ hr.units) (pv 1) (@dU _ _ _ _ aD) (@bY _ _ (by decide) (by decide))) (@aH _ _ _ (@aT _ _ _ _ aE)) cL) (@aH _ _ _ (@aT _ _ _ _ (@bG _ _ _ _ _ _ _ (@aQ _ (K) rfl) (@bI _ _ _ _ _ _ _ _ _ _ G_p_fewest (hr.mono (by decide)) (@aA _ _ _ _ _ (pv 0) (@aA _ _ _ _ _ (pv 1) (@aA _ _ _ _ _ (pv 2) aD (by rfl)) (by rfl)) (by rfl)) (by rfl) (by decide) (by rfl) (by rfl)) aE (fun _ _=>rfl))))),?_⟩
 refine ⟨_,rfl,bB rfl,fun l0 m0=>?_⟩
 have S0:=aI.upd (o:=.lst []) m0
 have r0:upd H l0 (.lst []) l0 = some (.lst []):=aF
 generalize upd H l0 (.lst []) = H0 at S0 r0
 refine ⟨.lst (co.map Dv.str),.lst [],⟨l,_,rfl,S0 _ _ hl,IsL.strs _ _⟩,⟨l0,_,rfl,r0,rfl⟩,kD co,rfl,?_⟩
 rw [if_neg AV]
 cases co with
 | nil =>
  refine ⟨_,rfl,dD ?_⟩
  have:=q H0 S0
  rw [aDY (wC GG)] at this
  exact this
 | cons z zr =>
  refine ⟨_,rfl,bS ?_⟩
  refine ⟨_,rfl,_,rfl,_,rfl,_,_,_,rfl,p,l,fs,ds,z :: zr,lv,rfl,L.same S0,rfl,S0 _ _ hl,by rw [Ag];omega,nd,sub,rfl,hL,fun t lk la uk ua f' R B H' S' nt nlk nla nka ht hk ik ha ia st rd=>?_⟩
  have e:=aDY (tD GG st rd)
  refine ⟨t,_,0,_,rfl,rfl,SqT.of ht,aN (j:=0) rfl,?_⟩
  rw [← e]
  exact q H' (S0.trans S')
open Mt53 Mt22 MtF Mt31 Mt61 Mt73
theorem aBB {X F c:Int} (hF:0 < F):(X ≤ F * c ↔ (low X F).1 ≤ (low X F).2 * c) ∧ (F * c ≤ X ↔ (low X F).2 * c ≤ (low X F).1):=by
 obtain ⟨g,hg,e1,e2,_,_⟩:=kX X hF
 generalize (low X F).1 = a at *
 generalize (low X F).2 = b at *
 subst e1 e2
 rw [Int.mul_assoc]
 exact ⟨⟨fun h=>Int.le_of_mul_le_mul_left h hg,fun h=>Int.mul_le_mul_of_nonneg_left h (DZ hg)⟩,⟨fun h=>Int.le_of_mul_le_mul_left h hg,fun h=>Int.mul_le_mul_of_nonneg_left h (DZ hg)⟩⟩
def sp5 (f:V → V → V → V → V → Hp → VK → Prop):Sp:=fun vs H Q _=>∃ x y z u v,vs = [x,y,z,u,v] ∧ f x y z u v H Q
theorem aWQ {f:V → V → V → V → V → Hp → VK → Prop}:∀ vs H Q E,sp5 f vs H Q E → vs.length = 5:=fun vs H Q E ⟨x,y,z,u,v,e,_⟩=>by rw [e];rfl
def aLF (C:Addr):Sp:=sp5 fun x y u t c H Q=>∃ (p lw d lc:Addr) (fs ds:List Dv) (zs co:List Str) (L:Int) (kvs:List (Key × V)),x = .ref p ∧ LandAt C H p fs ds ∧ y = .ref lw ∧ H lw = some (.lst (zs.map V.str)) ∧ 1 ≤ zs.length ∧ zs.length ≤ 6 ∧ zs.Nodup ∧ (∀ z ∈ zs,z ∈ fs.map bA) ∧ u = .int L ∧ hgt L = true ∧
 t = .ref d ∧ Told2 H d (aP fs ds L) zs kvs ∧ c = .ref lc ∧ H lc = some (.lst (co.map V.str)) ∧ co.Nodup ∧ (∀ z ∈ co,z ∈ zs) ∧ ∀ H',aI H H' → Q (.bl true) H'
theorem aJJ (T:Txt K mg C):Fc P w K mg base 8 "_law_fair" ["_law_land","_law_wish_here","_law_height_here","_law_told","_law_company"] (aLF C):=by
 have G_l_total:Fc P w K mg base 3 "_law_total" ["_law_told","_law_company"] aKX:=vT T
 have G_l_coins:Fc P w K mg base 7 "_law_coins" ["_law_land","_law_company","_law_height_here"] (aAC C):=vV T
 refine T.d_l_fair.fc oJ aWQ (fun f cdv A outer s H vs Q E hr h=>?_)
 obtain ⟨x,y,u,t,c,rfl,p,lw,d,lc,fs,ds,zs,co,lv,kvs,rfl,L,rfl,hw,l1,l6,nd,sub,rfl,hL,rfl,td,rfl,hc,cnd,csub,q⟩:=h
 have big:=bT
 have GG:=lX (bZ L).1 (bZ L).2 lv
 have ns:Mt22.sea ∉ zs:=fun m=>(Ak.mp GG.vnd).1 (sub _ m)
 have F:=aHT GG ns
 have f0:(0:Int) < (fac zs.length:Nat):=by have:=qY zs.length;omega
 have f7:=aHU _ l6
 have le:=aLL nd l1 l6 F cnd csub
 have ge:=aSK nd l1 l6 F cnd csub
 have c6:co.length ≤ 6:=BI (wB cnd csub) l6
 refine ⟨_,(@aG _ _ _ _ _ (@aSO _ _ _ _ _ _ (@bI _ _ _ _ _ _ _ _ _ _ G_l_total (hr.mono (by decide)) (@aA _ _ _ _ _ (pv 3) (@aA _ _ _ _ _ (pv 4) aD (by rfl)) (by rfl)) (by rfl) (by decide) (by rfl) (by rfl)) (@aSR _ _ _ _ _ _ rfl (@aCR _ _ _ _ _ (@bC _ _ (5) _ oJ.nd rfl (Or.inl rfl) (by trivial)) (@aCR _ _ _ _ _ (@bC _ _ (6) _ oJ.nd rfl (Or.inl rfl) (by trivial)) aPR (by rfl)) (by rfl)) (by rfl) (by rfl)) (by rfl) (by rfl) (by rfl)) (@aG _ _ _ _ _ (@fL _ _ _ _ _ _ _ _ (@cD _ _ _ _ _ _ _ _ aHH (pv 5) (@aO _ _ _ _ _ _ _ _ iD (pv 6) (@bI _ _ _ _ _ _ _ _ _ _ G_l_coins (hr.mono (by decide)) (@aA _ _ _ _ _ (pv 0) (@aA _ _ _ _ _ (pv 4) (@aA _ _ _ _ _ (pv 2) aD (by rfl)) (by rfl)) (by rfl)) (by rfl) (by decide) (by rfl) (by rfl))) (@bY _ _ (by decide) (by decide))) (@aH _ _ _ (@aT _ _ _ _ qJ)) cL) (@aG _ _ _ _ _ (@gI _ (7) _ _ _ _ _ _ _ _ _ _ _ _ _ oJ.nd rfl ["_law_name","_law_company"] 1 [4] rfl (@bO _ _ _ _ (pv 1)) (fun R=>@bC _ _ (0) _ (show Ay (["_law_name","_law_company"]:List Str) by decide +kernel) rfl (Or.inl rfl) (by trivial)) (@aZ _ _ (by decide)) (fun R=>@fF _ _ _ (@cD _ _ _ _ _ _ _ _ (@oW _ (K) rfl) (pv 0) (pv 1) (by with_unfolding_all rfl))) (fun R=>(pv 0)) (by exact Or.inl rfl) (by trivial) (by rfl) (by rfl) (by rfl) (by rfl) (by rfl) (by rfl) (by rfl) (by rfl) (by intro _;rfl)) (@aH _ _ _ (@aT _ _ _ _ (@dQ _ _ _ _ _ _ _ _ aRR (pv 5) (@aO _ _ _ _ _ _ _ _ iD (pv 6) (@aO _ _ _ _ _ _ _ _ iC (@bI _ _ _ _ _ _ _ _ _ _ G_l_coins (hr.mono (by decide)) (@aA _ _ _ _ _ (pv 0) (@aA _ _ _ _ _ (pv 1) (@aA _ _ _ _ _ (pv 2) aD (by rfl)) (by rfl)) (by rfl)) (by rfl) (by decide) (by rfl) (by rfl)) (@bI _ _ _ _ _ _ _ _ _ _ G_l_coins (hr.mono (by decide)) (@aA _ _ _ _ _ (pv 0) (@aA _ _ _ _ _ (pv 7) (@aA _ _ _ _ _ (pv 2) aD (by rfl)) (by rfl)) (by rfl)) (by rfl) (by decide) (by rfl) (by rfl)))) (@bY _ _ (by decide) (by decide)))))))),?_⟩
 obtain ⟨cm1,_⟩:=aBB (X:=mE (aP fs ds lv) zs co) (c:=cF (aP fs ds lv) co) f0
 obtain ⟨_,cm2⟩:=aBB (X:=mE (aP fs ds lv) zs co) (c:=cF (aP fs ds lv) zs - cF (aP fs ds lv) (zs.filter fun z=>!decide (z ∈ co))) f0
 have le':=cm1.mp le
 have ge':=cm2.mp ge
 obtain ⟨_,_,_,_,b1,b2⟩:=kX (mE (aP fs ds lv) zs co) f0
 refine ⟨_,rfl,_,rfl,_,_,rfl,d,lc,aP fs ds lv,zs,co,kvs,rfl,td,rfl,hc,csub,l6,c6,fun v H1 S1 fr=>?_⟩
 obtain ⟨tv,rfl,htv⟩:=fr
 generalize (low (mE (aP fs ds lv) zs co) (fac zs.length:Nat)).1 = aX at *
 generalize (low (mE (aP fs ds lv) zs co) (fac zs.length:Nat)).2 = bX at *
 refine ⟨tv,_,rfl,SqT.of htv,rfl,_,_,rfl,_,_,rfl,rfl,?_⟩
 refine nxσ (σ':=[some (.ref p),some (.ref lw),some (.int lv),some (.ref d),some (.ref lc),some (.int aX),some (.int bX),none]) rfl ?_
 refine ⟨_,rfl,_,rfl,_,rfl,_,rfl,_,rfl,_,_,_,rfl,p,lc,fs,ds,co,lv,rfl,L.same S1,rfl,S1 _ _ hc,cnd,(fun z m=>sub z (csub z m)),rfl,hL,fun H2 S2=>?_⟩
 refine ⟨_,_,rfl,rfl,.inl ⟨by omega,by omega⟩,_,_,rfl,rfl,_,rfl,?_⟩
 rw [decide_eq_false (by omega)]
 refine bS ?_
 have T2:=S1.trans S2
 have hw2:=T2 _ _ hw
 have hc2:=T2 _ _ hc
 refine ⟨_,rfl,lw,rfl,⟨_,SqL.of hw2⟩,?_⟩
 refine bM (F:=K) (xs:=zs.map V.str) (by rw [AA];omega) (fun j ys H'=>H2 = H' ∧ ys = ((zs.take j).filter fun z=>!decide (z ∈ co)).map V.str) ⟨rfl,rfl⟩ ?_ ?_ ?_
 ·rintro j ys H' hj ⟨rfl,rfl⟩
  have:=BP (fun z:Str=>!decide (z ∈ co)) (zs.take j)
  rw [Ac] at this
  exact ⟨SqL.of hw2,by rw [AA];omega⟩
 ·rintro j xv ys H' K1 K2 hx ⟨rfl,rfl⟩ k1 k2
  rw [AK] at hx
  obtain ⟨z,ez,rfl⟩:=Aq.mp hx
  have et:=lF (P:=fun z:Str=>!decide (z ∈ co)) ez
  refine ⟨_,rfl,_,rfl,lc,_,rfl,.inl (SqL.of hc2),rfl,lE co,_,rfl,?_⟩
  rw [if_pos rfl,qU]
  cases hg:decide (z ∈ co) with
  | true =>
   rw [hg] at et
   exact bS (k2 _ ⟨rfl,by rw [et];simp⟩)
  | false =>
   rw [hg] at et
   exact dD ⟨_,rfl,k1 _ _ ⟨rfl,by rw [et,if_pos (show (!false) = true from rfl),AX];rfl⟩⟩
 rintro ys H' ⟨rfl,rfl⟩
 rw [AA,AH (AQ _)]
 intro lr mr
 have S3:=aI.upd (o:=.lst ((zs.filter fun z=>!decide (z ∈ co)).map V.str)) mr
 have r3:upd H2 lr (.lst ((zs.filter fun z=>!decide (z ∈ co)).map V.str)) lr = some (.lst ((zs.filter fun z=>!decide (z ∈ co)).map V.str)):=aF
 generalize upd H2 lr (.lst ((zs.filter fun z=>!decide (z ∈ co)).map V.str)) = H3 at S3 r3
 refine gσ (σ':=[some (.ref p),some (.ref lw),some (.int lv),some (.ref d),some (.ref lc),some (.int aX),some (.int bX),some (.ref lr)]) rfl ?_
 have T3:=T2.trans S3
 refine ⟨_,rfl,_,rfl,_,rfl,_,rfl,_,rfl,_,_,_,rfl,p,lw,fs,ds,zs,lv,rfl,L.same T3,rfl,T3 _ _ hw,nd,sub,rfl,hL,fun H4 S4=>?_⟩
 refine ⟨_,rfl,_,rfl,_,rfl,_,_,_,rfl,p,lr,fs,ds,_,lv,rfl,L.same (T3.trans S4),rfl,S4 _ _ r3,CZ Cb nd,(fun z m=>sub z (Am.mp m).1),rfl,hL,fun H5 S5=>?_⟩
 refine ⟨_,_,rfl,rfl,_,_,rfl,rfl,.inl ⟨by omega,by omega⟩,_,_,rfl,rfl,?_⟩
 show Q (.bl (decide (_ ≤ aX))) H5
 rw [decide_eq_true ge']
 exact q H5 (T3.trans (S4.trans S5))
open Mt53 Mt22 MtF Mt31 Mt61 Mt73
theorem aOW {Tb:Addr} {H H':Hp} (k:dP Tb H H') (t:pW Tb H) {a:Addr} {xs:List V} (h:SqL K H a xs):SqL K H' a xs:=by
 obtain ⟨ps,eT,_⟩:=t
 rcases h with h | h
 ·refine .inl (h.imp (fun e=>k _ _ (fun z=>?_) e) fun ⟨o,e⟩=>⟨o,k _ _ (fun z=>?_) e⟩)
  ·rw [z,eT] at e;cases e
  ·rw [z,eT] at e;cases e
 ·exact .inr h
theorem aVT (x:Int):∃ cnt:Nat,(if (if x < 12 then x else 12) > 1 then (if x < 12 then x else 12) else 1) = (cnt:Int) ∧ cnt ≤ 12:=by
 refine ⟨(if (if x < 12 then x else 12) > 1 then (if x < 12 then x else 12) else 1).toNat,?_,?_⟩ <;> split <;> split <;> omega
theorem aPG {H:Hp} {G:List Gap} {zs ws:List Str} {kvs:List (Key × V)} (h:sN H G zs ws kvs):∀ p ∈ kvs,∃ z ∈ ws,p.1 = Sum.inr z ∧ Fr H p.2 (low (total G zs z (eA zs).length) (fac zs.length:Nat)).1 (low (total G zs z (eA zs).length) (fac zs.length:Nat)).2:=by
 induction h with
 | nil=>intro p m;cases m
 | @cons y kv ws kvs h r ih =>
  intro p m
  rcases Af.mp m with rfl | m
  ·exact ⟨y,AU,h.1,h.2⟩
  ·obtain ⟨z,mz,e⟩:=ih p m
   exact ⟨z,AO _ mz,e⟩
theorem aJL {c F:Int} (hF:0 < F):low (F * c) F = (c,1):=by
 have h:=aBA (k:=F) (a:=c) (b:=1) hF (by decide)
 rw [Int.mul_one] at h
 rw [h]
 unfold low
 rw [Int.gcd_one]
 show (c / 1,(1:Int) / 1) = _
 rw [Int.ediv_one]
 rfl
theorem aHY (a b:Int):deq (.tup [.int a,.int b]) (.tup [.int a,.int b]) = true:=rA 5 _ rfl
theorem Fr.is {H:Hp} {x:V} {a b:Int} (h:Fr H x a b):Is H (.tup [.int a,.int b]) x:=by
 obtain ⟨l,rfl,e⟩:=h
 exact ⟨l,_,rfl,e,_,_,rfl,rfl,_,_,rfl,rfl,rfl⟩
theorem aTA {f:Addr} {fd:Bv} (T:Txt K mg C) {c Tb:Addr} (B:TabB K mg base "lists_of_places" c Tb) (F:Fun K "law" "law" oK f fd):FnOk P w K mg base CX0 12 f fd ["_law_script"] (aAB K Tb):=by
 have G_l_fields:Fc P w K mg base 2 "_law_fields" ["_law_script","_law_most"] (aRK K):=aDA T
 have G_l_dykes:Fc P w K mg base 2 "_law_dykes" ["_law_script","_law_at","_law_most","_law_fields_here"] (aRL K):=aEY T
 have G_land_pinit:Ic P w K mg base 6 C ["self","fields","dykes"] (aLC C):=xQ T
 have G_l_height:Fc P w K mg base 1 "_law_height" ["_law_cell"] aOY:=nF T
 have G_l_mixed:Fc P w K mg base 1 "_law_mixed" ["_law_script","_law_k"] (aOX K):=pP T
 have G_l_wish:Fc P w K mg base 1 "_law_wish" ["_law_cell","_law_fields_here","_law_most"] aKW:=aJI T
 have G_l_total:Fc P w K mg base 3 "_law_total" ["_law_told","_law_company"] aKX:=vT T
 have G_l_coins:Fc P w K mg base 7 "_law_coins" ["_law_land","_law_company","_law_height_here"] (aAC C):=vV T
 have G_l_fair:Fc P w K mg base 8 "_law_fair" ["_law_land","_law_wish_here","_law_height_here","_law_told","_law_company"] (aLF C):=aJJ T
 have G_p_shares:Fc P w K mg base 9 "shares" ["land","fields","height"] (aCB C Tb):=aCW T B
 refine F.ok eW oT (fun cdv A outer s H vs Q E hr h=>?_)
 obtain ⟨x,rfl,a,ns,rfl,hS,hns,eT,q⟩:=h
 have big:=bT
 have hu:=lC hr
 have scr:Scr K H (.ref a):=⟨a,ns,rfl,hS,hns⟩
 refine ⟨_,(@aG _ _ _ _ _ (@aW _ _ (1) _ _ _ _ eW.nd rfl (Or.inl rfl) (@bI _ _ _ _ _ _ _ _ _ _ G_l_fields (hr.mono (by decide)) (@aA _ _ _ _ _ (pv 0) (@aA _ _ _ _ _ aE aD (by rfl)) (by rfl)) (by rfl) (by decide) (by rfl) (by rfl)) (by rfl) (by trivial)) (@aG _ _ _ _ _ (@aW _ _ (2) _ _ _ _ eW.nd rfl (Or.inl rfl) (@aUW _ _ _ _ _ _ _ _ _ _ _ T.mg_Land G_land_pinit (hr.mono (by decide)) (@aA _ _ _ _ _ (pv 1) (@aA _ _ _ _ _ (@bI _ _ _ _ _ _ _ _ _ _ G_l_dykes (hr.mono (by decide)) (@aA _ _ _ _ _ (pv 0) (@aA _ _ _ _ _ aE (@aA _ _ _ _ _ aE (@aA _ _ _ _ _ (pv 1) aD (by rfl)) (by rfl)) (by rfl)) (by rfl)) (by rfl) (by decide) (by rfl) (by rfl)) aD (by rfl)) (by rfl)) (by rfl) (by decide) (by rfl) (by rfl)) (by rfl) (by trivial)) (@aG _ _ _ _ _ (@aW _ _ (3) _ _ _ _ eW.nd rfl (Or.inr rfl) (@bI _ _ _ _ _ _ _ _ _ _ G_l_wish (hr.mono (by decide)) (@aA _ _ _ _ _ (@bI _ _ _ _ _ _ _ _ _ _ G_l_mixed (hr.mono (by decide)) (@aA _ _ _ _ _ (pv 0) (@aA _ _ _ _ _ aE aD (by rfl)) (by rfl)) (by rfl) (by decide) (by rfl) (by rfl)) (@aA _ _ _ _ _ (pv 1) (@aA _ _ _ _ _ aE aD (by rfl)) (by rfl)) (by rfl)) (by rfl) (by decide) (by rfl) (by rfl)) (by rfl) (by trivial)) (@aG _ _ _ _ _ (@aW _ _ (4) _ _ _ _ eW.nd rfl (Or.inl rfl) (@bI _ _ _ _ _ _ _ _ _ _ G_l_height (hr.mono (by decide)) (@aA _ _ _ _ _ (@aO _ _ _ _ _ _ _ _ bU (@bI _ _ _ _ _ _ _ _ _ _ G_l_mixed (hr.mono (by decide)) (@aA _ _ _ _ _ (pv 0) (@aA _ _ _ _ _ aE aD (by rfl)) (by rfl)) (by rfl) (by decide) (by rfl) (by rfl)) (@aO _ _ _ _ _ _ _ _ hW aE aE)) aD (by rfl)) (by rfl) (by decide) (by rfl) (by rfl)) (by rfl) (by trivial)) (@aG _ _ _ _ _ (@aW _ _ (5) _ _ _ _ eW.nd rfl (Or.inl rfl) (@bI _ _ _ _ _ _ _ _ _ _ G_p_shares (hr.mono (by decide)) (@aA _ _ _ _ _ (pv 2) (@aA _ _ _ _ _ (pv 3) (@aA _ _ _ _ _ (pv 4) aD (by rfl)) (by rfl)) (by rfl)) (by rfl) (by decide) (by rfl) (by rfl)) (by rfl) (by trivial)) (@aG _ _ _ _ _ (@hU _ _ _ _ _ _ _ _ BJ rfl (@bO _ _ _ _ (pv 3)) (@bC _ _ (6) _ eW.nd rfl (Or.inl rfl) (by trivial)) (@aH _ _ _ (@fL _ _ _ _ _ _ _ _ (@PW.pt _ _ _ (@qH _ _ _ _ _ _ _ (@cD _ _ _ _ _ _ _ _ yN (@bG _ _ _ _ _ _ _ (@aQ _ (K) rfl) (@gH _ _ _ _ _ _ hu (pv 5) (pv 6) (fun _ _=>rfl)) aE (fun _ _=>rfl)) aE (@bY _ _ (by decide) (by decide))) (@mX _ _ _ _ (@eR _ _ _ _ (@eF _ _ _ (@bI _ _ _ _ _ _ _ _ _ _ G_l_fair (hr.mono (by decide)) (@aA _ _ _ _ _ (pv 2) (@aA _ _ _ _ _ (pv 3) (@aA _ _ _ _ _ (pv 4) (@aA _ _ _ _ _ (pv 5) (@aA _ _ _ _ _ (@dU _ _ _ _ (@aA _ _ _ _ _ (pv 6) aD (by rfl))) aD (by rfl)) (by rfl)) (by rfl)) (by rfl)) (by rfl)) (by rfl) (by decide) (by rfl) (by rfl)) (by intro _;rfl)))))) (@aH _ _ _ (@aT _ _ _ _ qJ)) cL)) (by intro _;rfl)) (@aG _ _ _ _ _ (@fL _ _ _ _ _ _ _ _ (@cD _ _ _ _ _ _ _ _ (@aSX _ hr.units) (@bI _ _ _ _ _ _ _ _ _ _ G_l_total (hr.mono (by decide)) (@aA _ _ _ _ _ (pv 5) (@aA _ _ _ _ _ (pv 3) aD (by rfl)) (by rfl)) (by rfl) (by decide) (by rfl) (by rfl)) (@dS _ _ _ _ _ (@aA _ _ _ _ _ (@bI _ _ _ _ _ _ _ _ _ _ G_l_coins (hr.mono (by decide)) (@aA _ _ _ _ _ (pv 2) (@aA _ _ _ _ _ (pv 3) (@aA _ _ _ _ _ (pv 4) aD (by rfl)) (by rfl)) (by rfl)) (by rfl) (by decide) (by rfl) (by rfl)) (@aA _ _ _ _ _ aE aD (by rfl)) (by rfl))) (@bY _ _ (by decide) (by decide))) (@aH _ _ _ (@aT _ _ _ _ qJ)) cL) (@aG _ _ _ _ _ (@hU _ _ _ _ _ _ _ _ BJ rfl (@gO _ _ _ _ _ _ rfl T.n_range (@aA _ _ _ _ _ (@aU _ _ _ _ _ _ _ _ _ (@zJ _ rfl) rfl T.n_max zM (@aA _ _ _ _ _ aE (@aA _ _ _ _ _ (@aU _ _ _ _ _ _ _ _ _ (@sJ _ rfl) rfl T.n_min oP (@aA _ _ _ _ _ aE (@aA _ _ _ _ _ (@aO _ _ _ _ _ _ _ _ iC (@aU _ _ _ _ _ _ _ _ _ (@bE _ (K) rfl) rfl T.n_len bN (@aA _ _ _ _ _ (pv 0) aD (by rfl)) (by decide) (by decide) (by rfl) (by rfl)) aE) aD (by rfl)) (by rfl)) (by decide) (by decide) (by rfl) (by rfl)) aD (by rfl)) (by rfl)) (by decide) (by decide) (by rfl) (by rfl)) aD (by rfl)) (by rfl)) (@bC _ _ (7) _ eW.nd rfl (Or.inl rfl) (by trivial)) (@aG _ _ _ _ _ (@aW _ _ (8) _ _ _ _ eW.nd rfl (Or.inr rfl) (@bI _ _ _ _ _ _ _ _ _ _ G_l_mixed (hr.mono (by decide)) (@aA _ _ _ _ _ (pv 0) (@aA _ _ _ _ _ (@aO _ _ _ _ _ _ _ _ fN aE (pv 7)) aD (by rfl)) (by rfl)) (by rfl) (by decide) (by rfl) (by rfl)) (by rfl) (by trivial)) (@aG _ _ _ _ _ (@gI _ (9) _ _ _ _ _ _ _ _ _ _ _ _ _ eW.nd rfl ["_law_j","_law_wish_here","_law_cell"] 1 [3,8] rfl (@gO _ _ _ _ _ _ rfl T.n_range (@aA _ _ _ _ _ (@aU _ _ _ _ _ _ _ _ _ (@bE _ (K) rfl) rfl T.n_len bN (@aA _ _ _ _ _ (pv 3) aD (by rfl)) (by decide) (by decide) (by rfl) (by rfl)) aD (by rfl)) (by rfl)) (fun R=>@bC _ _ (0) _ (show Ay (["_law_j","_law_wish_here","_law_cell"]:List Str) by decide +kernel) rfl (Or.inl rfl) (by trivial)) (@aZ _ _ (by decide)) (fun R=>@fF _ _ _ (@cD _ _ _ _ _ _ _ _ oX (@aO _ _ _ _ _ _ _ _ cV (@aO _ _ _ _ _ _ _ _ aSW (pv 2) (@aO _ _ _ _ _ _ _ _ fN aE (pv 0))) aE) aE (@bY _ _ (by decide) (by decide)))) (fun R=>(@bG _ _ _ _ _ _ _ (@eP _ (K) rfl) (pv 1) (pv 0) (fun _ _=>rfl))) (by exact Or.inl rfl) (by trivial) (by rfl) (by rfl) (by rfl) (by rfl) (by rfl) (by rfl) (by rfl) (by rfl) (by intro _;rfl)) (@aH _ _ _ (@fL _ _ _ _ _ _ _ _ (@eR _ _ _ _ (@eF _ _ _ (@bI _ _ _ _ _ _ _ _ _ _ G_l_fair (hr.mono (by decide)) (@aA _ _ _ _ _ (pv 2) (@aA _ _ _ _ _ (pv 3) (@aA _ _ _ _ _ (pv 4) (@aA _ _ _ _ _ (pv 5) (@aA _ _ _ _ _ (pv 9) aD (by rfl)) (by rfl)) (by rfl)) (by rfl)) (by rfl)) (by rfl) (by decide) (by rfl) (by rfl)) (by intro _;rfl))) (@aH _ _ _ (@aT _ _ _ _ qJ)) cL)))) (by intro _;rfl)) (@aG _ _ _ _ _ (@aW _ _ (10) _ _ _ _ eW.nd rfl (Or.inl rfl) (@bI _ _ _ _ _ _ _ _ _ _ G_p_shares (hr.mono (by decide)) (@aA _ _ _ _ _ (pv 2) (@aA _ _ _ _ _ (@aMG _ _ _ _ _ _ _ (pv 3) (@aHF _ _ _ _ _ _ zX aE)) (@aA _ _ _ _ _ (pv 4) aD (by rfl)) (by rfl)) (by rfl)) (by rfl) (by decide) (by rfl) (by rfl)) (by rfl) (by trivial)) (@aH _ _ _ (@aT _ _ _ _ (@dB _ _ _ _ _ _ _ (@dQ _ _ _ _ _ _ _ _ (@aMN _ hr.units) (@cJ _ _ _ _ _ _ _ _ _ (@jX _ rfl) rfl T.n_list eK (@aA _ _ _ _ _ (pv 10) aD (by rfl)) (by decide) (by decide) (by rfl) (by rfl)) (@aMG _ _ _ _ _ _ _ (pv 3) (@aHF _ _ _ _ _ _ zX aE)) (@bY _ _ (by decide) (by decide))) (@eG _ _ _ _ _ (@dQ _ _ _ _ _ _ _ _ (@aSZ _ hr.units) (pv 10) (pv 5) (@bY _ _ (by decide) (by decide)))))))))))))))),?_⟩
 refine aLN fun u0 hu0=>?_
 refine ⟨_,rfl,_,_,rfl,6,scr,rfl,by decide,by decide,fun lf vf fs H1 S1 nlf hf0 hif0 gf=>?_⟩
 refine gσ (σ':=[some (.ref a),some (.ref lf),none,none,none,none,none,none,none,none,none]) rfl ?_
 refine ⟨_,rfl,_,rfl,_,rfl,_,_,_,_,rfl,8,10,lf,vf,fs,6,scr.same S1,rfl,by decide,rfl,by decide,by decide,rfl,hf0,hif0,gf,by decide,fun ld vd ds H2 S2 nld hd0 hid0 gd=>?_⟩
 have okf:=aJW gf (by decide)
 have okd:=aNS gd (by decide)
 have f2:=gf.l2
 have d2:=gd.l2
 have smf:eV (.lst fs) = true:=rS (fun d m=>aDO (gf.all d m)) (by omega)
 have smd:eV (.lst ds) = true:=rS (fun d m=>aFU gf.all (gd.all d m)) (by omega)
 have T2:=S1.trans S2
 have hf2:=S2 _ _ hf0
 have hif2:=IsL.same S2 _ _ hif0
 intro p dx np ndx nex
 have S3':aI H2 (upd (upd H2 dx (.own p)) p (.ins C dx [])):=fun b o e=>by
  rw [aK (aY e np),aK (aY e ndx)]
  exact e
 refine ⟨_,_,_,rfl,p,dx,fs,ds,rfl,aF,⟨lf,vf,rfl,S3' _ _ hf2,IsL.same S3' _ _ hif2⟩,⟨ld,vd,rfl,S3' _ _ hd0,IsL.same S3' _ _ hid0⟩,smf,smd,okf,okd,fun H3 L3 fr=>⟨rfl,?_⟩⟩
 have Z3:aI H2 H3:=fun b o e=>fr b o (S3' _ _ e) (aY e np)
 have T3:=T2.trans Z3
 refine gσ (σ':=[some (.ref a),some (.ref lf),some (.ref p),none,none,none,none,none,none,none,none]) rfl ?_
 refine ⟨_,rfl,_,_,rfl,3,scr.same T3,rfl,by decide,fun mw hmw=>?_⟩
 refine ⟨_,rfl,_,_,_,rfl,mw,lf,vf,fs,rfl,hmw,rfl,Z3 _ _ hf2,IsL.same Z3 _ _ hif2,gf,rfl,fun lw zs H4 S4 hw nlw z1 z4 znd zsub=>?_⟩
 refine gσ (σ':=[some (.ref a),some (.ref lf),some (.ref p),some (.ref lw),none,none,none,none,none,none,none]) rfl ?_
 have T4:=T3.trans S4
 have L4:=L3.same S4
 refine ⟨_,rfl,_,_,rfl,4,scr.same T4,rfl,by decide,fun mh hmh=>?_⟩
 refine ⟨_,_,rfl,rfl,⟨by decide,by decide,by decide⟩,_,_,rfl,rfl,⟨by decide,by decide⟩,_,rfl,_,rfl,fun lv hL=>?_⟩
 refine gσ (σ':=[some (.ref a),some (.ref lf),some (.ref p),some (.ref lw),some (.int lv),none,none,none,none,none,none]) rfl ?_
 refine hu0 _ _ _ ?_
 have tab:pW Tb H:=⟨#[],eT,trivial,.inl rfl⟩
 have tab4:pW Tb H4:=tab.keep T4
 have eT4:=T4 _ _ eT
 have nT:∀ {b:Addr} {xs:List V},H4 b = some (.lst xs) → b ≠ Tb:=fun {b xs} e z=>by rw [z,eT4] at e;cases e
 have GG:=lX (bZ L3).1 (bZ L3).2 lv
 have ns':Mt22.sea ∉ zs:=fun m=>(Ak.mp GG.vnd).1 (zsub _ m)
 have FA:=aHT GG ns'
 have f0:(0:Int) < (fac zs.length:Nat):=by have:=qY zs.length;omega
 have f7:=aHU _ z4
 refine qB fun u1 hu1=>?_
 refine ⟨_,rfl,_,rfl,_,rfl,_,_,_,rfl,p,lw,fs,ds,zs,lv,rfl,L4,rfl,hw,z1,z4,znd,zsub,rfl,hL,tab4,fun d kvs H5 K5 tab5 nd5 hd5 sh5=>?_⟩
 refine gσ (σ':=[some (.ref a),some (.ref lf),some (.ref p),some (.ref lw),some (.int lv),some (.ref d),none,none,none,none,none]) rfl ?_
 refine hu1 _ _ _ ?_
 have hw5:=K5 _ _ (nT hw) hw
 have L5:=rT K5 tab4 L4
 have scr5:Scr K H5 (.ref a):=⟨a,ns,rfl,aOW K5 tab4 (T4.seq hS),hns⟩
 have td5:Told2 H5 d (aP fs ds lv) zs kvs:=⟨hd5,sh5⟩
 refine qB fun u2 hu2=>?_
 refine ⟨_,rfl,lw,rfl,⟨_,SqL.of hw5⟩,nP (K:=K) (a:=lw) (xs:=zs.map V.str) (fun i σ H'=>∃ v6,σ = [some (.ref a),some (.ref lf),some (.ref p),some (.ref lw),some (.int lv),some (.ref d),v6,none,none,none,none] ∧ aI H5 H') ⟨_,rfl,aI.refl _⟩ ?_ ?_ ?_⟩
 ·rintro i σ H' hi ⟨v6,rfl,S'⟩
  exact SqL.of (S' _ _ hw5)
 ·rintro i xv σ H' hx ⟨v6,rfl,S'⟩
  rw [AK] at hx
  obtain ⟨z,ez,rfl⟩:=Aq.mp hx
  have mz:=AN ez
  have td':=td5.same S'
  obtain ⟨v,ev,pt,rfl,hp⟩:=aAF td'.sh mz
  rw [oG] at hp
  have nn:=(aBB (X:=shr (cF (aP fs ds lv)) zs z) (c:=0) f0).2.mp (by rw [Eo];exact aSJ z1 z4 FA)
  rw [Eo] at nn
  generalize (low (shr (cF (aP fs ds lv)) zs z) (fac zs.length:Nat)).1 = aX at *
  refine gσ (σ':=[some (.ref a),some (.ref lf),some (.ref p),some (.ref lw),some (.int lv),some (.ref d),some (.str z),none,none,none,none]) rfl ?_
  refine ⟨_,rfl,_,rfl,d,_,rfl,.inl ⟨_,Sum.inr z,.inl td'.at_,rfl,ev.symm⟩,pt,_,0,_,rfl,rfl,SqT.of hp,aN (j:=0) rfl,_,_,rfl,rfl,_,rfl,?_⟩
  rw [decide_eq_false (by omega)]
  refine bS ?_
  refine ⟨_,rfl,_,rfl,_,rfl,_,rfl,_,rfl,bB rfl,fun l1 m1=>?_⟩
  have S1':=aI.upd (o:=.lst [.str z]) m1
  have r1':upd H' l1 (.lst [.str z]) l1 = some (.lst (([z]:List Str).map V.str)):=aF
  generalize upd H' l1 (.lst [.str z]) = H1' at S1' r1'
  exact ⟨_,_,_,_,_,rfl,p,lw,d,l1,fs,ds,zs,[z],lv,kvs,rfl,L5.same (S'.trans S1'),rfl,(S'.trans S1') _ _ hw5,z1,z4,znd,zsub,rfl,hL,rfl,td5.same (S'.trans S1'),rfl,r1',List.pairwise_singleton _ _,(fun y m=>by rw [AW.mp m];exact mz),fun H2' S2'=>⟨_,rfl,bS ⟨_,rfl,S'.trans (S1'.trans S2')⟩⟩⟩
 rintro σ H6 ⟨v6,rfl,S6⟩
 refine hu2 _ _ _ ?_
 have td6:=td5.same S6
 have hw6:=S6 _ _ hw5
 have L6:=L5.same S6
 have scr6:=scr5.same S6
 have tab6:=tab5.keep S6
 refine qB fun u3 hu3=>?_
 refine ⟨_,rfl,_,rfl,_,_,rfl,d,lw,aP fs ds lv,zs,zs,kvs,rfl,td6,rfl,hw6,(fun z m=>m),z4,z4,fun tv H7 S7 fr=>?_⟩
 have es:mE (aP fs ds lv) zs zs = ((fac zs.length:Nat):Int) * cF (aP fs ds lv) zs:=aGX znd z1 z4 FA
 rw [es,aJL f0] at fr
 refine ⟨_,rfl,_,rfl,_,rfl,_,_,_,rfl,p,lw,fs,ds,zs,lv,rfl,L6.same S7,rfl,S7 _ _ hw6,znd,zsub,rfl,hL,fun H8 S8=>?_⟩
 refine ⟨bB rfl,fun t9 m9=>?_⟩
 have S9:=aI.upd (o:=.tup [.int (cF (aP fs ds lv) zs),.int 1]) m9
 have r9:upd H8 t9 (.tup [.int (cF (aP fs ds lv) zs),.int 1]) t9 = some (.tup [.int (cF (aP fs ds lv) zs),.int 1]):=aF
 generalize upd H8 t9 (.tup [.int (cF (aP fs ds lv) zs),.int 1]) = H9 at S9 r9
 refine ⟨_,_,(fr.same (S8.trans S9)).is,(show Fr H9 (.ref t9) _ _ from ⟨t9,rfl,r9⟩).is,rfl,rfl,?_⟩
 rw [if_pos rfl,aHY]
 refine ⟨_,rfl,bS ?_⟩
 refine hu3 _ _ _ ?_
 have T9:=S7.trans (S8.trans S9)
 have td9:=td6.same T9
 have hw9:=T9 _ _ hw6
 have L9:=L6.same T9
 have scr9:=scr6.same T9
 have tab9:=tab6.keep T9
 obtain ⟨a9,ns9,ea9,hS9,hn9⟩:=id scr9
 cases ea9
 obtain ⟨cnt,ec,c12⟩:=aVT (((ns9.map V.int).length:Int) - 4)
 refine qB fun u4 hu4=>?_
 refine ⟨_,rfl,a,_,rfl,.inl hS9,_,_,rfl,rfl,_,_,rfl,_,_,rfl,?_⟩
 refine ⟨_,rfl,?_⟩
 show -(2 ^ 62) ≤ (if (if ((ns9.map V.int).length:Int) - 4 < 12 then ((ns9.map V.int).length:Int) - 4 else 12) > 1 then (if ((ns9.map V.int).length:Int) - 4 < 12 then ((ns9.map V.int).length:Int) - 4 else 12) else 1) ∧ _
 rw [ec]
 refine ⟨by omega,by omega,?_⟩
 rw [CF]
 refine iG (lo:=0) (n:=cnt) (fun i σ H'=>∃ v7 v8 v9,σ = [some (.ref a),some (.ref lf),some (.ref p),some (.ref lw),some (.int lv),some (.ref d),v6,v7,v8,v9,none] ∧ aI H9 H') ⟨_,_,_,rfl,aI.refl _⟩ ?_ ?_
 ·rintro i σ H' hi ⟨v7,v8,v9,rfl,S'⟩
  refine gσ (σ':=[some (.ref a),some (.ref lf),some (.ref p),some (.ref lw),some (.int lv),some (.ref d),v6,some (.int (0 + (i:Int))),v8,v9,none]) rfl ?_
  refine ⟨_,rfl,_,rfl,_,_,rfl,rfl,_,_,rfl,_,scr9.same S',rfl,by show 0 ≤ 4 + (0 + (i:Int));omega,fun mc hmc=>?_⟩
  refine gσ (σ':=[some (.ref a),some (.ref lf),some (.ref p),some (.ref lw),some (.int lv),some (.ref d),v6,some (.int (0 + (i:Int))),some (.int mc),v9,none]) rfl ?_
  have hw':=S' _ _ hw9
  refine ⟨_,rfl,lw,_,rfl,.inl (SqL.of hw'),(zs.length:Int),by rw [AA],by omega,by omega,?_⟩
  rw [CF]
  refine wW (lo:=0) (n:=zs.length) (by omega) (fun j ys H''=>H' = H'' ∧ ∃ cs:List Str,ys = cs.map V.str ∧ cs.Sublist (zs.take j)) ⟨rfl,[],rfl,List.nil_sublist _⟩ ?_ ?_ ?_
  ·rintro j ys H'' ⟨rfl,cs,rfl,sl⟩
   have:=sl.length_le
   rw [Ac] at this
   rw [AA]
   omega
  ·rintro j ys H'' K1 K2 hj ⟨rfl,cs,rfl,sl⟩ k1 k2
   obtain ⟨z,ez⟩:∃ z,zs[j]? = some z:=⟨_,AB hj⟩
   have et:zs.take (j + 1) = zs.take j ++ [z]:=by rw [Ab,ez];rfl
   refine ⟨_,rfl,_,rfl,_,_,rfl,rfl,_,_,rfl,rfl,by show 0 ≤ 10 + (0 + (j:Int));omega,_,_,rfl,rfl,(qI rfl),rfl,_,rfl,?_⟩
   refine nM (fun _=>?_) (fun _=>k2 _ ⟨rfl,cs,rfl,by rw [et];exact sl.trans (List.sublist_append_left _ _)⟩)
   refine ⟨_,rfl,_,rfl,lw,_,_,.str z,rfl,rfl,SqL.of hw',(by rw [DK];exact aN (by rw [AK,ez];rfl)),k1 _ _ ⟨rfl,cs ++ [z],by rw [AX];rfl,by rw [et];exact List.Sublist.append sl (List.Sublist.refl _)⟩⟩
  rintro ys H'' ⟨rfl,cs,rfl,sl⟩
  rw [AH (AQ _)] at sl
  intro lc mc'
  have S2:=aI.upd (o:=.lst (cs.map V.str)) mc'
  have r2:upd H' lc (.lst (cs.map V.str)) lc = some (.lst (cs.map V.str)):=aF
  generalize upd H' lc (.lst (cs.map V.str)) = H2' at S2 r2
  refine gσ (σ':=[some (.ref a),some (.ref lf),some (.ref p),some (.ref lw),some (.int lv),some (.ref d),v6,some (.int (0 + (i:Int))),some (.int mc),some (.ref lc),none]) rfl ?_
  have T2':=S'.trans S2
  exact ⟨_,rfl,_,rfl,_,rfl,_,rfl,_,rfl,_,_,_,_,_,rfl,p,lw,d,lc,fs,ds,zs,cs,lv,kvs,rfl,L9.same T2',rfl,T2' _ _ hw9,z1,z4,znd,zsub,rfl,hL,rfl,td9.same T2',rfl,r2,CZ sl znd,(fun y m=>sl.subset m),fun H3' S3'=>⟨_,rfl,bS ⟨_,_,_,rfl,T2'.trans S3'⟩⟩⟩
 rintro σ H10 ⟨v7,v8,v9,rfl,S10⟩
 refine hu4 _ _ _ ?_
 have td10:=td9.same S10
 have hw10:=S10 _ _ hw9
 have L10:=L9.same S10
 have tab10:=tab9.keep S10
 have erv:(zs.map V.str).reverse = zs.reverse.map V.str:=by rw [List.map_reverse]
 refine ⟨_,rfl,_,rfl,_,rfl,lw,_,rfl,rfl,SqL.of hw10,fun lr mr=>?_⟩
 rw [erv]
 have S11:=aI.upd (o:=.lst (zs.reverse.map V.str)) mr
 have r11:upd H10 lr (.lst (zs.reverse.map V.str)) lr = some (.lst (zs.reverse.map V.str)):=aF
 generalize upd H10 lr (.lst (zs.reverse.map V.str)) = H11 at S11 r11
 have tab11:=tab10.keep S11
 obtain ⟨q11,eT11,_⟩:=id tab11
 refine ⟨_,rfl,_,_,_,rfl,p,lr,fs,ds,zs.reverse,lv,rfl,L10.same S11,rfl,r11,by rw [Ba];exact z1,by rw [Ba];exact z4,(List.reverse_perm zs).nodup_iff.mpr znd,(fun z m=>zsub z (Eu.mp m)),rfl,hL,tab11,fun d' kvs' H12 K12 tab12 nd12 hd12 sh12=>?_⟩
 refine gσ (σ':=[some (.ref a),some (.ref lf),some (.ref p),some (.ref lw),some (.int lv),some (.ref d),v6,v7,v8,v9,some (.ref d')]) rfl ?_
 have td12:=(td10.same S11).keep K12 eT11
 have hw12:=K12 _ _ (fun z=>by have:=S11 _ _ hw10;rw [z,eT11] at this;cases this) (S11 _ _ hw10)
 have ek:kvs'.map (fun kv=>kV kv.1) = zs.reverse.map V.str:=by
  have:=aCH sh12
  have e2:kvs'.map (fun kv=>kV kv.1) = (kvs'.map (·.1)).map kV:=by rw [Ao];rfl
  rw [e2,this,Ao]
  rfl
 refine ⟨_,rfl,d',kvs',rfl,.inl hd12,fun l13 m13=>?_⟩
 rw [ek]
 have S13:=aI.upd (o:=.lst (zs.reverse.map V.str)) m13
 have r13:upd H12 l13 (.lst (zs.reverse.map V.str)) l13 = some (.lst (zs.reverse.map V.str)):=aF
 generalize upd H12 l13 (.lst (zs.reverse.map V.str)) = H13 at S13 r13
 refine ⟨_,rfl,_,rfl,lw,_,rfl,rfl,SqL.of (S13 _ _ hw12),fun l14 m14=>?_⟩
 rw [erv]
 have S14:=aI.upd (o:=.lst (zs.reverse.map V.str)) m14
 have r14:upd H13 l14 (.lst (zs.reverse.map V.str)) l14 = some (.lst (zs.reverse.map V.str)):=aF
 generalize upd H13 l14 (.lst (zs.reverse.map V.str)) = H14 at S14 r14
 refine ⟨.lst (zs.reverse.map Dv.str),.lst (zs.reverse.map Dv.str),⟨l13,_,rfl,S14 _ _ r13,IsL.strs _ _⟩,⟨l14,_,rfl,r14,IsL.strs _ _⟩,kD _,kD _,?_⟩
 rw [if_neg AV,show deq (.lst (zs.reverse.map Dv.str)) (.lst (zs.reverse.map Dv.str)) = true from rA 30 _ (kD _)]
 refine ⟨_,rfl,dD ?_⟩
 have T14:=S13.trans S14
 have td14:=td12.same T14
 have lk:zs.length = kvs.length:=CH td14.sh
 have lk':zs.reverse.length = kvs'.length:=CH sh12
 rw [Ba] at lk'
 refine ⟨_,rfl,_,rfl,d',d,kvs',kvs,rfl,rfl,.inl (T14 _ _ hd12),.inl td14.at_,by omega,fun pr mp=>?_,q H14⟩
 obtain ⟨z,mz,e1,fr⟩:=aPG sh12 pr mp
 have mz':=Eu.mp mz
 obtain ⟨v',ev,fr'⟩:=aAF td14.sh mz'
 rw [oG] at fr'
 rw [oG,aPF znd z1 z4 FA mz',Ba] at fr
 exact ⟨v',_,by rw [e1];exact ev,(fr.same T14).is,fr'.is,rfl,aHY _ _⟩
theorem law_mk {fa c Tb:Addr} (hmg:mg "law" = some (.ref fa)) (T:Txt K mg C) :
  ∃ fd:Bv,(∀ (s:Shared) (u:Value),BindsTo s fd ⟨[u],[]⟩ [("_law_script",u)]) ∧ ∀ base:Heap,K.In base → base.Ns AJ mg → TabB K mg base "lists_of_places" c Tb → FnOk P w K mg base CX0 12 fa fd ["_law_script"] (aAB K Tb):=by
 obtain ⟨f,fd,F,b,m⟩:=T.d_p_law.ex
 rw [hmg] at m
 cases m
 refine ⟨fd,fun s u=>?_,fun base _ _ B=>aTA T B F⟩
 obtain ⟨oc,od,kV,doc,pm,an,cdv,ct,osl,rfl,lk,hcd⟩:=F.ex
 exact .of_eq rfl
end
theorem txt_mk {K:AG} {h:Heap} {mg:Str → Option Value} (X:K.In h) (G:h.Ns AJ mg)
    {C:Addr}
    {fm18:Addr} {ocm18 kVm18 docm18 pmm18 cdm18 ctm18:Value} {odm18 anm18:Option Addr} {slm18:Array (Option Value)}
    {fm19:Addr} {ocm19 kVm19 docm19 pmm19 cdm19 ctm19:Value} {odm19 anm19:Option Addr} {slm19:Array (Option Value)}
    {fm20:Addr} {ocm20 kVm20 docm20 pmm20 cdm20 ctm20:Value} {odm20 anm20:Option Addr} {slm20:Array (Option Value)}
    {fm21:Addr} {ocm21 kVm21 docm21 pmm21 cdm21 ctm21:Value} {odm21 anm21:Option Addr} {slm21:Array (Option Value)}
    {fm22:Addr} {ocm22 kVm22 docm22 pmm22 cdm22 ctm22:Value} {odm22 anm22:Option Addr} {slm22:Array (Option Value)}
    {fm23:Addr} {ocm23 kVm23 docm23 pmm23 cdm23 ctm23:Value} {odm23 anm23:Option Addr} {slm23:Array (Option Value)}
    {fm24:Addr} {ocm24 kVm24 docm24 pmm24 cdm24 ctm24:Value} {odm24 anm24:Option Addr} {slm24:Array (Option Value)}
    {fm25:Addr} {ocm25 kVm25 docm25 pmm25 cdm25 ctm25:Value} {odm25 anm25:Option Addr} {slm25:Array (Option Value)}
    {fm26:Addr} {ocm26 kVm26 docm26 pmm26 cdm26 ctm26:Value} {odm26 anm26:Option Addr} {slm26:Array (Option Value)}
    {fm27:Addr} {ocm27 kVm27 docm27 pmm27 cdm27 ctm27:Value} {odm27 anm27:Option Addr} {slm27:Array (Option Value)}
    {f0:Addr} {oc0 kV0 doc0 pm0 cd0 ct0:Value} {od0 an0:Option Addr} {sl0:Array (Option Value)}
    {f1:Addr} {oc1 kV1 doc1 pm1 cd1 ct1:Value} {od1 an1:Option Addr} {sl1:Array (Option Value)}
    {f2:Addr} {oc2 kV2 doc2 pm2 cd2 ct2:Value} {od2 an2:Option Addr} {sl2:Array (Option Value)}
    {f3:Addr} {oc3 kV3 doc3 pm3 cd3 ct3:Value} {od3 an3:Option Addr} {sl3:Array (Option Value)}
    {f4:Addr} {oc4 kV4 doc4 pm4 cd4 ct4:Value} {od4 an4:Option Addr} {sl4:Array (Option Value)}
    {f5:Addr} {oc5 kV5 doc5 pm5 cd5 ct5:Value} {od5 an5:Option Addr} {sl5:Array (Option Value)}
    {f6:Addr} {oc6 kV6 doc6 pm6 cd6 ct6:Value} {od6 an6:Option Addr} {sl6:Array (Option Value)}
    {f7:Addr} {oc7 kV7 doc7 pm7 cd7 ct7:Value} {od7 an7:Option Addr} {sl7:Array (Option Value)}
    {f8:Addr} {oc8 kV8 doc8 pm8 cd8 ct8:Value} {od8 an8:Option Addr} {sl8:Array (Option Value)}
    {f9:Addr} {oc9 kV9 doc9 pm9 cd9 ct9:Value} {od9 an9:Option Addr} {sl9:Array (Option Value)}
    {f10:Addr} {oc10 kV10 doc10 pm10 cd10 ct10:Value} {od10 an10:Option Addr} {sl10:Array (Option Value)}
    {f11:Addr} {oc11 kV11 doc11 pm11 cd11 ct11:Value} {od11 an11:Option Addr} {sl11:Array (Option Value)}
    {f12:Addr} {oc12 kV12 doc12 pm12 cd12 ct12:Value} {od12 an12:Option Addr} {sl12:Array (Option Value)}
    {f13:Addr} {oc13 kV13 doc13 pm13 cd13 ct13:Value} {od13 an13:Option Addr} {sl13:Array (Option Value)}
    {f14:Addr} {oc14 kV14 doc14 pm14 cd14 ct14:Value} {od14 an14:Option Addr} {sl14:Array (Option Value)}
    {f15:Addr} {oc15 kV15 doc15 pm15 cd15 ct15:Value} {od15 an15:Option Addr} {sl15:Array (Option Value)}
    {f16:Addr} {oc16 kV16 doc16 pm16 cd16 ct16:Value} {od16 an16:Option Addr} {sl16:Array (Option Value)}
    {f17:Addr} {oc17 kV17 doc17 pm17 cd17 ct17:Value} {od17 an17:Option Addr} {sl17:Array (Option Value)}
    {f18:Addr} {oc18 kV18 doc18 pm18 cd18 ct18:Value} {od18 an18:Option Addr} {sl18:Array (Option Value)}
    {f19:Addr} {oc19 kV19 doc19 pm19 cd19 ct19:Value} {od19 an19:Option Addr} {sl19:Array (Option Value)}
    {f20:Addr} {oc20 kV20 doc20 pm20 cd20 ct20:Value} {od20 an20:Option Addr} {sl20:Array (Option Value)}
    {f21:Addr} {oc21 kV21 doc21 pm21 cd21 ct21:Value} {od21 an21:Option Addr} {sl21:Array (Option Value)}
    {f22:Addr} {oc22 kV22 doc22 pm22 cd22 ct22:Value} {od22 an22:Option Addr} {sl22:Array (Option Value)}
    {f23:Addr} {oc23 kV23 doc23 pm23 cd23 ct23:Value} {od23 an23:Option Addr} {sl23:Array (Option Value)}
    {f24:Addr} {oc24 kV24 doc24 pm24 cd24 ct24:Value} {od24 an24:Option Addr} {sl24:Array (Option Value)}
    {f25:Addr} {oc25 kV25 doc25 pm25 cd25 ct25:Value} {od25 an25:Option Addr} {sl25:Array (Option Value)}
    {f26:Addr} {oc26 kV26 doc26 pm26 cd26 ct26:Value} {od26 an26:Option Addr} {sl26:Array (Option Value)}
    {f27:Addr} {oc27 kV27 doc27 pm27 cd27 ct27:Value} {od27 an27:Option Addr} {sl27:Array (Option Value)}
    {f28:Addr} {oc28 kV28 doc28 pm28 cd28 ct28:Value} {od28 an28:Option Addr} {sl28:Array (Option Value)}
    {f29:Addr} {oc29 kV29 doc29 pm29 cd29 ct29:Value} {od29 an29:Option Addr} {sl29:Array (Option Value)}
    {f30:Addr} {oc30 kV30 doc30 pm30 cd30 ct30:Value} {od30 an30:Option Addr} {sl30:Array (Option Value)}
    {f31:Addr} {oc31 kV31 doc31 pm31 cd31 ct31:Value} {od31 an31:Option Addr} {sl31:Array (Option Value)}
    {f32:Addr} {oc32 kV32 doc32 pm32 cd32 ct32:Value} {od32 an32:Option Addr} {sl32:Array (Option Value)}
    {f33:Addr} {oc33 kV33 doc33 pm33 cd33 ct33:Value} {od33 an33:Option Addr} {sl33:Array (Option Value)}
    {f34:Addr} {oc34 kV34 doc34 pm34 cd34 ct34:Value} {od34 an34:Option Addr} {sl34:Array (Option Value)}
    {f35:Addr} {oc35 kV35 doc35 pm35 cd35 ct35:Value} {od35 an35:Option Addr} {sl35:Array (Option Value)}
    {f36:Addr} {oc36 kV36 doc36 pm36 cd36 ct36:Value} {od36 an36:Option Addr} {sl36:Array (Option Value)}
    {f37:Addr} {oc37 kV37 doc37 pm37 cd37 ct37:Value} {od37 an37:Option Addr} {sl37:Array (Option Value)}
    {f38:Addr} {oc38 kV38 doc38 pm38 cd38 ct38:Value} {od38 an38:Option Addr} {sl38:Array (Option Value)}
    {f39:Addr} {oc39 kV39 doc39 pm39 cd39 ct39:Value} {od39 an39:Option Addr} {sl39:Array (Option Value)}
    {f40:Addr} {oc40 kV40 doc40 pm40 cd40 ct40:Value} {od40 an40:Option Addr} {sl40:Array (Option Value)}
    {f41:Addr} {oc41 kV41 doc41 pm41 cd41 ct41:Value} {od41 an41:Option Addr} {sl41:Array (Option Value)}
    {f42:Addr} {oc42 kV42 doc42 pm42 cd42 ct42:Value} {od42 an42:Option Addr} {sl42:Array (Option Value)}
    {f43:Addr} {oc43 kV43 doc43 pm43 cd43 ct43:Value} {od43 an43:Option Addr} {sl43:Array (Option Value)}
    {f44:Addr} {oc44 kV44 doc44 pm44 cd44 ct44:Value} {od44 an44:Option Addr} {sl44:Array (Option Value)}
    {f45:Addr} {oc45 kV45 doc45 pm45 cd45 ct45:Value} {od45 an45:Option Addr} {sl45:Array (Option Value)}
    {f46:Addr} {oc46 kV46 doc46 pm46 cd46 ct46:Value} {od46 an46:Option Addr} {sl46:Array (Option Value)}
    {f47:Addr} {oc47 kV47 doc47 pm47 cd47 ct47:Value} {od47 an47:Option Addr} {sl47:Array (Option Value)}
    {f48:Addr} {oc48 kV48 doc48 pm48 cd48 ct48:Value} {od48 an48:Option Addr} {sl48:Array (Option Value)}
    {f49:Addr} {oc49 kV49 doc49 pm49 cd49 ct49:Value} {od49 an49:Option Addr} {sl49:Array (Option Value)}
    {f50:Addr} {oc50 kV50 doc50 pm50 cd50 ct50:Value} {od50 an50:Option Addr} {sl50:Array (Option Value)}
    {f51:Addr} {oc51 kV51 doc51 pm51 cd51 ct51:Value} {od51 an51:Option Addr} {sl51:Array (Option Value)}
    {f52:Addr} {oc52 kV52 doc52 pm52 cd52 ct52:Value} {od52 an52:Option Addr} {sl52:Array (Option Value)}
    {f53:Addr} {oc53 kV53 doc53 pm53 cd53 ct53:Value} {od53 an53:Option Addr} {sl53:Array (Option Value)}
    {f54:Addr} {oc54 kV54 doc54 pm54 cd54 ct54:Value} {od54 an54:Option Addr} {sl54:Array (Option Value)}
    {u0:Value}
    {u1:Value}
    {u2:Value}
    {u3:Value}
    {u4:Value}
    {u5:Value}
    {u6:Value}
    {u7:Value}
    (aC:AL K AJ "Land" = some (some (.ref C))) (pgC:DJ K C Str.empty = true) (hdC:Dc K C = true) (poC:EY K C = true) (saC:At K (.ref C) "__setattr__" = some (some (.builtin "object.__setattr__"))) (mkC:Dp K C = true) (kpC:AF K (.ref C) = true)
    (n_field_rows:At K (.ref C) "field_rows" = some none)
    (n_dyke_rows:At K (.ref C) "dyke_rows" = some none)
    (iha:At K (.ref C) "__class__" = some (some (.builtin "object.__class__"))) (ihn:Db K (.builtin "object.__class__") "__get__" = some (some (.builtin "getset_descriptor.__get__"))) (iht:El K (.builtin "object.__class__") = some true) (ihm:PySem.W.mroIn K C (.type "object") = some true)
    (ma18:At K (.ref C) "__init__" = some (some (.ref fm18))) (mi18:Bi K (.ref fm18) = true) (ml18:K.lookup fm18 = some ⟨ocm18,odm18,.func (AM "__init__" "Land.__init__" (aL hJ) (aJ hJ) (aB hJ) .none kVm18 docm18 pmm18 anm18 cdm18 ctm18),slm18⟩) (mc18:AI K cdm18 "Land.__init__" = true) (mk18:AF K (.ref fm18) = true)
    (ma19:At K (.ref C) "fields" = some (some (.ref fm19))) (mi19:Bi K (.ref fm19) = true) (ml19:K.lookup fm19 = some ⟨ocm19,odm19,.func (AM "fields" "Land.fields" (aL gG) (aJ gG) (aB gG) .none kVm19 docm19 pmm19 anm19 cdm19 ctm19),slm19⟩) (mc19:AI K cdm19 "Land.fields" = true) (mk19:AF K (.ref fm19) = true)
    (ma20:At K (.ref C) "dykes" = some (some (.ref fm20))) (mi20:Bi K (.ref fm20) = true) (ml20:K.lookup fm20 = some ⟨ocm20,odm20,.func (AM "dykes" "Land.dykes" (aL fE) (aJ fE) (aB fE) .none kVm20 docm20 pmm20 anm20 cdm20 ctm20),slm20⟩) (mc20:AI K cdm20 "Land.dykes" = true) (mk20:AF K (.ref fm20) = true)
    (ma21:At K (.ref C) "field_names" = some (some (.ref fm21))) (mi21:Bi K (.ref fm21) = true) (ml21:K.lookup fm21 = some ⟨ocm21,odm21,.func (AM "field_names" "Land.field_names" (aL cQ) (aJ cQ) (aB cQ) .none kVm21 docm21 pmm21 anm21 cdm21 ctm21),slm21⟩) (mc21:AI K cdm21 "Land.field_names" = true) (mk21:AF K (.ref fm21) = true)
    (ma22:At K (.ref C) "dyke_names" = some (some (.ref fm22))) (mi22:Bi K (.ref fm22) = true) (ml22:K.lookup fm22 = some ⟨ocm22,odm22,.func (AM "dyke_names" "Land.dyke_names" (aL dA) (aJ dA) (aB dA) .none kVm22 docm22 pmm22 anm22 cdm22 ctm22),slm22⟩) (mc22:AI K cdm22 "Land.dyke_names" = true) (mk22:AF K (.ref fm22) = true)
    (ma23:At K (.ref C) "sluices" = some (some (.ref fm23))) (mi23:Bi K (.ref fm23) = true) (ml23:K.lookup fm23 = some ⟨ocm23,odm23,.func (AM "sluices" "Land.sluices" (aL fJ) (aJ fJ) (aB fJ) .none kVm23 docm23 pmm23 anm23 cdm23 ctm23),slm23⟩) (mc23:AI K cdm23 "Land.sluices" = true) (mk23:AF K (.ref fm23) = true)
    (ma24:At K (.ref C) "ground" = some (some (.ref fm24))) (mi24:Bi K (.ref fm24) = true) (ml24:K.lookup fm24 = some ⟨ocm24,odm24,.func (AM "ground" "Land.ground" (aL eO) (aJ eO) (aB eO) .none kVm24 docm24 pmm24 anm24 cdm24 ctm24),slm24⟩) (mc24:AI K cdm24 "Land.ground" = true) (mk24:AF K (.ref fm24) = true)
    (ma25:At K (.ref C) "dues" = some (some (.ref fm25))) (mi25:Bi K (.ref fm25) = true) (ml25:K.lookup fm25 = some ⟨ocm25,odm25,.func (AM "dues" "Land.dues" (aL iI) (aJ iI) (aB iI) .none kVm25 docm25 pmm25 anm25 cdm25 ctm25),slm25⟩) (mc25:AI K cdm25 "Land.dues" = true) (mk25:AF K (.ref fm25) = true)
    (ma26:At K (.ref C) "dyke" = some (some (.ref fm26))) (mi26:Bi K (.ref fm26) = true) (ml26:K.lookup fm26 = some ⟨ocm26,odm26,.func (AM "dyke" "Land.dyke" (aL gA) (aJ gA) (aB gA) .none kVm26 docm26 pmm26 anm26 cdm26 ctm26),slm26⟩) (mc26:AI K cdm26 "Land.dyke" = true) (mk26:AF K (.ref fm26) = true)
    (ma27:At K (.ref C) "raised" = some (some (.ref fm27))) (mi27:Bi K (.ref fm27) = true) (ml27:K.lookup fm27 = some ⟨ocm27,odm27,.func (AM "raised" "Land.raised" (aL gF) (aJ gF) (aB gF) .none kVm27 docm27 pmm27 anm27 cdm27 ctm27),slm27⟩) (mc27:AI K cdm27 "Land.raised" = true) (mk27:AF K (.ref fm27) = true)
    (a0:AL K AJ "_wall" = some (some (.ref f0))) (l0:K.lookup f0 = some ⟨oc0,od0,.func (AM "_wall" "_wall" (aL qE) (aJ qE) (aB qE) .none kV0 doc0 pm0 an0 cd0 ct0),sl0⟩) (c0:AI K cd0 "_wall" = true) (k0:AF K (.ref f0) = true)
    (a1:AL K AJ "is_whole" = some (some (.ref f1))) (l1:K.lookup f1 = some ⟨oc1,od1,.func (AM "is_whole" "is_whole" (aL gX) (aJ gX) (aB gX) .none kV1 doc1 pm1 an1 cd1 ct1),sl1⟩) (c1:AI K cd1 "is_whole" = true) (k1:AF K (.ref f1) = true)
    (a2:AL K AJ "is_name" = some (some (.ref f2))) (l2:K.lookup f2 = some ⟨oc2,od2,.func (AM "is_name" "is_name" (aL iQ) (aJ iQ) (aB iQ) .none kV2 doc2 pm2 an2 cd2 ct2),sl2⟩) (c2:AI K cd2 "is_name" = true) (k2:AF K (.ref f2) = true)
    (a3:AL K AJ "is_height" = some (some (.ref f3))) (l3:K.lookup f3 = some ⟨oc3,od3,.func (AM "is_height" "is_height" (aL fS) (aJ fS) (aB fS) .none kV3 doc3 pm3 an3 cd3 ct3),sl3⟩) (c3:AI K cd3 "is_height" = true) (k3:AF K (.ref f3) = true)
    (a4:AL K AJ "is_amount" = some (some (.ref f4))) (l4:K.lookup f4 = some ⟨oc4,od4,.func (AM "is_amount" "is_amount" (aL fU) (aJ fU) (aB fU) .none kV4 doc4 pm4 an4 cd4 ct4),sl4⟩) (c4:AI K cd4 "is_amount" = true) (k4:AF K (.ref f4) = true)
    (a5:AL K AJ "is_one_of" = some (some (.ref f5))) (l5:K.lookup f5 = some ⟨oc5,od5,.func (AM "is_one_of" "is_one_of" (aL fR) (aJ fR) (aB fR) .none kV5 doc5 pm5 an5 cd5 ct5),sl5⟩) (c5:AI K cd5 "is_one_of" = true) (k5:AF K (.ref f5) = true)
    (a6:AL K AJ "is_list_of" = some (some (.ref f6))) (l6:K.lookup f6 = some ⟨oc6,od6,.func (AM "is_list_of" "is_list_of" (aL fB) (aJ fB) (aB fB) .none kV6 doc6 pm6 an6 cd6 ct6),sl6⟩) (c6:AI K cd6 "is_list_of" = true) (k6:AF K (.ref f6) = true)
    (a7:AL K AJ "is_tuple_of" = some (some (.ref f7))) (l7:K.lookup f7 = some ⟨oc7,od7,.func (AM "is_tuple_of" "is_tuple_of" (aL eN) (aJ eN) (aB eN) .none kV7 doc7 pm7 an7 cd7 ct7),sl7⟩) (c7:AI K cd7 "is_tuple_of" = true) (k7:AF K (.ref f7) = true)
    (a8:AL K AJ "none_twice" = some (some (.ref f8))) (l8:K.lookup f8 = some ⟨oc8,od8,.func (AM "none_twice" "none_twice" (aL fA) (aJ fA) (aB fA) .none kV8 doc8 pm8 an8 cd8 ct8),sl8⟩) (c8:AI K cd8 "none_twice" = true) (k8:AF K (.ref f8) = true)
    (a9:AL K AJ "is_field" = some (some (.ref f9))) (l9:K.lookup f9 = some ⟨oc9,od9,.func (AM "is_field" "is_field" (aL gY) (aJ gY) (aB gY) .none kV9 doc9 pm9 an9 cd9 ct9),sl9⟩) (c9:AI K cd9 "is_field" = true) (k9:AF K (.ref f9) = true)
    (a10:AL K AJ "are_fields" = some (some (.ref f10))) (l10:K.lookup f10 = some ⟨oc10,od10,.func (AM "are_fields" "are_fields" (aL fD) (aJ fD) (aB fD) .none kV10 doc10 pm10 an10 cd10 ct10),sl10⟩) (c10:AI K cd10 "are_fields" = true) (k10:AF K (.ref f10) = true)
    (a11:AL K AJ "are_sides" = some (some (.ref f11))) (l11:K.lookup f11 = some ⟨oc11,od11,.func (AM "are_sides" "are_sides" (aL fY) (aJ fY) (aB fY) .none kV11 doc11 pm11 an11 cd11 ct11),sl11⟩) (c11:AI K cd11 "are_sides" = true) (k11:AF K (.ref f11) = true)
    (a12:AL K AJ "is_sill" = some (some (.ref f12))) (l12:K.lookup f12 = some ⟨oc12,od12,.func (AM "is_sill" "is_sill" (aL iP) (aJ iP) (aB iP) .none kV12 doc12 pm12 an12 cd12 ct12),sl12⟩) (c12:AI K cd12 "is_sill" = true) (k12:AF K (.ref f12) = true)
    (a13:AL K AJ "is_dyke" = some (some (.ref f13))) (l13:K.lookup f13 = some ⟨oc13,od13,.func (AM "is_dyke" "is_dyke" (aL iR) (aJ iR) (aB iR) .none kV13 doc13 pm13 an13 cd13 ct13),sl13⟩) (c13:AI K cd13 "is_dyke" = true) (k13:AF K (.ref f13) = true)
    (a14:AL K AJ "are_dykes" = some (some (.ref f14))) (l14:K.lookup f14 = some ⟨oc14,od14,.func (AM "are_dykes" "are_dykes" (aL fZ) (aJ fZ) (aB fZ) .none kV14 doc14 pm14 an14 cd14 ct14),sl14⟩) (c14:AI K cd14 "are_dykes" = true) (k14:AF K (.ref f14) = true)
    (a15:AL K AJ "is_work" = some (some (.ref f15))) (l15:K.lookup f15 = some ⟨oc15,od15,.func (AM "is_work" "is_work" (aL iO) (aJ iO) (aB iO) .none kV15 doc15 pm15 an15 cd15 ct15),sl15⟩) (c15:AI K cd15 "is_work" = true) (k15:AF K (.ref f15) = true)
    (a16:AL K AJ "are_works" = some (some (.ref f16))) (l16:K.lookup f16 = some ⟨oc16,od16,.func (AM "are_works" "are_works" (aL fX) (aJ fX) (aB fX) .none kV16 doc16 pm16 an16 cd16 ct16),sl16⟩) (c16:AI K cd16 "are_works" = true) (k16:AF K (.ref f16) = true)
    (a17:AL K AJ "are_some_fields" = some (some (.ref f17))) (l17:K.lookup f17 = some ⟨oc17,od17,.func (AM "are_some_fields" "are_some_fields" (aL cZ) (aJ cZ) (aB cZ) .none kV17 doc17 pm17 an17 cd17 ct17),sl17⟩) (c17:AI K cd17 "are_some_fields" = true) (k17:AF K (.ref f17) = true)
    (a18:AL K AJ "spread" = some (some (.ref f18))) (l18:K.lookup f18 = some ⟨oc18,od18,.func (AM "spread" "spread" (aL jL) (aJ jL) (aB jL) .none kV18 doc18 pm18 an18 cd18 ct18),sl18⟩) (c18:AI K cd18 "spread" = true) (k18:AF K (.ref f18) = true)
    (a19:AL K AJ "path_to" = some (some (.ref f19))) (l19:K.lookup f19 = some ⟨oc19,od19,.func (AM "path_to" "path_to" (aL iN) (aJ iN) (aB iN) .none kV19 doc19 pm19 an19 cd19 ct19),sl19⟩) (c19:AI K cd19 "path_to" = true) (k19:AF K (.ref f19) = true)
    (a20:AL K AJ "check_wish" = some (some (.ref f20))) (l20:K.lookup f20 = some ⟨oc20,od20,.func (AM "check_wish" "check_wish" (aL fC) (aJ fC) (aB fC) .none kV20 doc20 pm20 an20 cd20 ct20),sl20⟩) (c20:AI K cd20 "check_wish" = true) (k20:AF K (.ref f20) = true)
    (a21:AL K AJ "coins_to" = some (some (.ref f21))) (l21:K.lookup f21 = some ⟨oc21,od21,.func (AM "coins_to" "coins_to" (aL hE) (aJ hE) (aB hE) .none kV21 doc21 pm21 an21 cd21 ct21),sl21⟩) (c21:AI K cd21 "coins_to" = true) (k21:AF K (.ref f21) = true)
    (a22:AL K AJ "coins_of" = some (some (.ref f22))) (l22:K.lookup f22 = some ⟨oc22,od22,.func (AM "coins_of" "coins_of" (aL hG) (aJ hG) (aB hG) .none kV22 doc22 pm22 an22 cd22 ct22),sl22⟩) (c22:AI K cd22 "coins_of" = true) (k22:AF K (.ref f22) = true)
    (a23:AL K AJ "is_low" = some (some (.ref f23))) (l23:K.lookup f23 = some ⟨oc23,od23,.func (AM "is_low" "is_low" (aL jN) (aJ jN) (aB jN) .none kV23 doc23 pm23 an23 cd23 ct23),sl23⟩) (c23:AI K cd23 "is_low" = true) (k23:AF K (.ref f23) = true)
    (a24:AL K AJ "is_gap" = some (some (.ref f24))) (l24:K.lookup f24 = some ⟨oc24,od24,.func (AM "is_gap" "is_gap" (aL jO) (aJ jO) (aB jO) .none kV24 doc24 pm24 an24 cd24 ct24),sl24⟩) (c24:AI K cd24 "is_gap" = true) (k24:AF K (.ref f24) = true)
    (a25:AL K AJ "gap_coins" = some (some (.ref f25))) (l25:K.lookup f25 = some ⟨oc25,od25,.func (AM "gap_coins" "gap_coins" (aL fV) (aJ fV) (aB fV) .none kV25 doc25 pm25 an25 cd25 ct25),sl25⟩) (c25:AI K cd25 "gap_coins" = true) (k25:AF K (.ref f25) = true)
    (a26:AL K AJ "steps_over" = some (some (.ref f26))) (l26:K.lookup f26 = some ⟨oc26,od26,.func (AM "steps_over" "steps_over" (aL eZ) (aJ eZ) (aB eZ) .none kV26 doc26 pm26 an26 cd26 ct26),sl26⟩) (c26:AI K cd26 "steps_over" = true) (k26:AF K (.ref f26) = true)
    (a27:AL K AJ "room" = some (some (.ref f27))) (l27:K.lookup f27 = some ⟨oc27,od27,.func (AM "room" "room" (aL mR) (aJ mR) (aB mR) .none kV27 doc27 pm27 an27 cd27 ct27),sl27⟩) (c27:AI K cd27 "room" = true) (k27:AF K (.ref f27) = true)
    (a28:AL K AJ "reached" = some (some (.ref f28))) (l28:K.lookup f28 = some ⟨oc28,od28,.func (AM "reached" "reached" (aL iM) (aJ iM) (aB iM) .none kV28 doc28 pm28 an28 cd28 ct28),sl28⟩) (c28:AI K cd28 "reached" = true) (k28:AF K (.ref f28) = true)
    (a29:AL K AJ "path_with_room" = some (some (.ref f29))) (l29:K.lookup f29 = some ⟨oc29,od29,.func (AM "path_with_room" "path_with_room" (aL dG) (aJ dG) (aB dG) .none kV29 doc29 pm29 an29 cd29 ct29),sl29⟩) (c29:AI K cd29 "path_with_room" = true) (k29:AF K (.ref f29) = true)
    (a30:AL K AJ "fullest_stream" = some (some (.ref f30))) (l30:K.lookup f30 = some ⟨oc30,od30,.func (AM "fullest_stream" "fullest_stream" (aL dH) (aJ dH) (aB dH) .none kV30 doc30 pm30 an30 cd30 ct30),sl30⟩) (c30:AI K cd30 "fullest_stream" = true) (k30:AF K (.ref f30) = true)
    (a31:AL K AJ "works_round" = some (some (.ref f31))) (l31:K.lookup f31 = some ⟨oc31,od31,.func (AM "works_round" "works_round" (aL eM) (aJ eM) (aB eM) .none kV31 doc31 pm31 an31 cd31 ct31),sl31⟩) (c31:AI K cd31 "works_round" = true) (k31:AF K (.ref f31) = true)
    (a32:AL K AJ "fewest" = some (some (.ref f32))) (l32:K.lookup f32 = some ⟨oc32,od32,.func (AM "fewest" "fewest" (aL jP) (aJ jP) (aB jP) .none kV32 doc32 pm32 an32 cd32 ct32),sl32⟩) (c32:AI K cd32 "fewest" = true) (k32:AF K (.ref f32) = true)
    (a33:AL K AJ "cost_of_none" = some (some (.ref f33))) (l33:K.lookup f33 = some ⟨oc33,od33,.func (AM "cost_of_none" "cost_of_none" (aL dR) (aJ dR) (aB dR) .none kV33 doc33 pm33 an33 cd33 ct33),sl33⟩) (c33:AI K cd33 "cost_of_none" = true) (k33:AF K (.ref f33) = true)
    (a34:AL K AJ "cost" = some (some (.ref f34))) (l34:K.lookup f34 = some ⟨oc34,od34,.func (AM "cost" "cost" (aL mT) (aJ mT) (aB mT) .none kV34 doc34 pm34 an34 cd34 ct34),sl34⟩) (c34:AI K cd34 "cost" = true) (k34:AF K (.ref f34) = true)
    (a35:AL K AJ "lists_of_places" = some (some (.ref f35))) (l35:K.lookup f35 = some ⟨oc35,od35,.func (AM "lists_of_places" "lists_of_places" (aL cY) (aJ cY) (aB cY) .none kV35 doc35 pm35 an35 cd35 ct35),sl35⟩) (c35:AI K cd35 "lists_of_places" = true) (k35:AF K (.ref f35) = true)
    (a36:AL K AJ "companies" = some (some (.ref f36))) (l36:K.lookup f36 = some ⟨oc36,od36,.func (AM "companies" "companies" (aL fW) (aJ fW) (aB fW) .none kV36 doc36 pm36 an36 cd36 ct36),sl36⟩) (c36:AI K cd36 "companies" = true) (k36:AF K (.ref f36) = true)
    (a37:AL K AJ "greatest_divisor" = some (some (.ref f37))) (l37:K.lookup f37 = some ⟨oc37,od37,.func (AM "greatest_divisor" "greatest_divisor" (aL cP) (aJ cP) (aB cP) .none kV37 doc37 pm37 an37 cd37 ct37),sl37⟩) (c37:AI K cd37 "greatest_divisor" = true) (k37:AF K (.ref f37) = true)
    (a38:AL K AJ "fraction" = some (some (.ref f38))) (l38:K.lookup f38 = some ⟨oc38,od38,.func (AM "fraction" "fraction" (aL gZ) (aJ gZ) (aB gZ) .none kV38 doc38 pm38 an38 cd38 ct38),sl38⟩) (c38:AI K cd38 "fraction" = true) (k38:AF K (.ref f38) = true)
    (a39:AL K AJ "orders_of" = some (some (.ref f39))) (l39:K.lookup f39 = some ⟨oc39,od39,.func (AM "orders_of" "orders_of" (aL fQ) (aJ fQ) (aB fQ) .none kV39 doc39 pm39 an39 cd39 ct39),sl39⟩) (c39:AI K cd39 "orders_of" = true) (k39:AF K (.ref f39) = true)
    (a40:AL K AJ "orders_behind" = some (some (.ref f40))) (l40:K.lookup f40 = some ⟨oc40,od40,.func (AM "orders_behind" "orders_behind" (aL dM) (aJ dM) (aB dM) .none kV40 doc40 pm40 an40 cd40 ct40),sl40⟩) (c40:AI K cd40 "orders_behind" = true) (k40:AF K (.ref f40) = true)
    (a41:AL K AJ "share_of" = some (some (.ref f41))) (l41:K.lookup f41 = some ⟨oc41,od41,.func (AM "share_of" "share_of" (aL gW) (aJ gW) (aB gW) .none kV41 doc41 pm41 an41 cd41 ct41),sl41⟩) (c41:AI K cd41 "share_of" = true) (k41:AF K (.ref f41) = true)
    (a42:AL K AJ "shares" = some (some (.ref f42))) (l42:K.lookup f42 = some ⟨oc42,od42,.func (AM "shares" "shares" (aL jM) (aJ jM) (aB jM) .none kV42 doc42 pm42 an42 cd42 ct42),sl42⟩) (c42:AI K cd42 "shares" = true) (k42:AF K (.ref f42) = true)
    (a43:AL K AJ "_law_mixed" = some (some (.ref f43))) (l43:K.lookup f43 = some ⟨oc43,od43,.func (AM "_law_mixed" "_law_mixed" (aL kQ) (aJ kQ) (aB kQ) .none kV43 doc43 pm43 an43 cd43 ct43),sl43⟩) (c43:AI K cd43 "_law_mixed" = true) (k43:AF K (.ref f43) = true)
    (a44:AL K AJ "_law_names" = some (some (.ref f44))) (l44:K.lookup f44 = some ⟨oc44,od44,.func (AM "_law_names" "_law_names" (aL kP) (aJ kP) (aB kP) .none kV44 doc44 pm44 an44 cd44 ct44),sl44⟩) (c44:AI K cd44 "_law_names" = true) (k44:AF K (.ref f44) = true)
    (a45:AL K AJ "_law_height" = some (some (.ref f45))) (l45:K.lookup f45 = some ⟨oc45,od45,.func (AM "_law_height" "_law_height" (aL jR) (aJ jR) (aB jR) .none kV45 doc45 pm45 an45 cd45 ct45),sl45⟩) (c45:AI K cd45 "_law_height" = true) (k45:AF K (.ref f45) = true)
    (a46:AL K AJ "_law_fields" = some (some (.ref f46))) (l46:K.lookup f46 = some ⟨oc46,od46,.func (AM "_law_fields" "_law_fields" (aL jS) (aJ jS) (aB jS) .none kV46 doc46 pm46 an46 cd46 ct46),sl46⟩) (c46:AI K cd46 "_law_fields" = true) (k46:AF K (.ref f46) = true)
    (a47:AL K AJ "_law_dykes" = some (some (.ref f47))) (l47:K.lookup f47 = some ⟨oc47,od47,.func (AM "_law_dykes" "_law_dykes" (aL kR) (aJ kR) (aB kR) .none kV47 doc47 pm47 an47 cd47 ct47),sl47⟩) (c47:AI K cd47 "_law_dykes" = true) (k47:AF K (.ref f47) = true)
    (a48:AL K AJ "_law_wish" = some (some (.ref f48))) (l48:K.lookup f48 = some ⟨oc48,od48,.func (AM "_law_wish" "_law_wish" (aL mU) (aJ mU) (aB mU) .none kV48 doc48 pm48 an48 cd48 ct48),sl48⟩) (c48:AI K cd48 "_law_wish" = true) (k48:AF K (.ref f48) = true)
    (a49:AL K AJ "_law_divisor" = some (some (.ref f49))) (l49:K.lookup f49 = some ⟨oc49,od49,.func (AM "_law_divisor" "_law_divisor" (aL iS) (aJ iS) (aB iS) .none kV49 doc49 pm49 an49 cd49 ct49),sl49⟩) (c49:AI K cd49 "_law_divisor" = true) (k49:AF K (.ref f49) = true)
    (a50:AL K AJ "_law_lowest" = some (some (.ref f50))) (l50:K.lookup f50 = some ⟨oc50,od50,.func (AM "_law_lowest" "_law_lowest" (aL jQ) (aJ jQ) (aB jQ) .none kV50 doc50 pm50 an50 cd50 ct50),sl50⟩) (c50:AI K cd50 "_law_lowest" = true) (k50:AF K (.ref f50) = true)
    (a51:AL K AJ "_law_total" = some (some (.ref f51))) (l51:K.lookup f51 = some ⟨oc51,od51,.func (AM "_law_total" "_law_total" (aL kO) (aJ kO) (aB kO) .none kV51 doc51 pm51 an51 cd51 ct51),sl51⟩) (c51:AI K cd51 "_law_total" = true) (k51:AF K (.ref f51) = true)
    (a52:AL K AJ "_law_coins" = some (some (.ref f52))) (l52:K.lookup f52 = some ⟨oc52,od52,.func (AM "_law_coins" "_law_coins" (aL kT) (aJ kT) (aB kT) .none kV52 doc52 pm52 an52 cd52 ct52),sl52⟩) (c52:AI K cd52 "_law_coins" = true) (k52:AF K (.ref f52) = true)
    (a53:AL K AJ "_law_fair" = some (some (.ref f53))) (l53:K.lookup f53 = some ⟨oc53,od53,.func (AM "_law_fair" "_law_fair" (aL mW) (aJ mW) (aB mW) .none kV53 doc53 pm53 an53 cd53 ct53),sl53⟩) (c53:AI K cd53 "_law_fair" = true) (k53:AF K (.ref f53) = true)
    (a54:AL K AJ "law" = some (some (.ref f54))) (l54:K.lookup f54 = some ⟨oc54,od54,.func (AM "law" "law" (aL oK) (aJ oK) (aB oK) .none kV54 doc54 pm54 an54 cd54 ct54),sl54⟩) (c54:AI K cd54 "law" = true) (k54:AF K (.ref f54) = true)
    (g0:AL K AJ "SEA" = some (some u0)) (r0:bJ (.str "sea") u0)
    (g1:AL K AJ "LETTERS" = some (some u1)) (r1:bJ (.str "abcdefghijklmnopqrstuvwxyz") u1)
    (g2:AL K AJ "MOST_LETTERS" = some (some u2)) (r2:bJ (.int 8) u2)
    (g3:AL K AJ "MOST_HEIGHT" = some (some u3)) (r3:bJ (.int 1000000) u3)
    (g4:AL K AJ "MOST_AMOUNT" = some (some u4)) (r4:bJ (.int 1000000) u4)
    (g5:AL K AJ "MOST_FIELDS" = some (some u5)) (r5:bJ (.int 12) u5)
    (g6:AL K AJ "MOST_DYKES" = some (some u6)) (r6:bJ (.int 40) u6)
    (g7:AL K AJ "MOST_IN_A_WISH" = some (some u7)) (r7:bJ (.int 8) u7)
    (z0:AL K AJ "abs" = some none)
    (z1:AL K AJ "all" = some none)
    (z2:AL K AJ "bool" = some none)
    (z3:AL K AJ "dict" = some none)
    (z4:AL K AJ "int" = some none)
    (z5:AL K AJ "isinstance" = some none)
    (z6:AL K AJ "len" = some none)
    (z7:AL K AJ "list" = some none)
    (z8:AL K AJ "max" = some none)
    (z9:AL K AJ "min" = some none)
    (z10:AL K AJ "range" = some none)
    (z11:AL K AJ "reversed" = some none)
    (z12:AL K AJ "set" = some none)
    (z13:AL K AJ "sorted" = some none)
    (z14:AL K AJ "str" = some none)
    (z15:AL K AJ "sum" = some none)
    (z16:AL K AJ "tuple" = some none)  :Txt K mg C :=
  ⟨⟨pgC,hdC,poC,saC⟩,
   PySem.W.mg_of X G aC,
   n_field_rows,
   n_dyke_rows,
   ⟨iha,ihn,iht,ihm⟩,
   aQM ma18 mi18 ml18 mc18 mk18 mkC kpC (fun _ _ _ _ _ _ us hl=>match us,hl with | [_,_,_],_=>rfl),
   jC ma19 mi19 ml19 mc19 mk19 (fun _ _ _ _ _ _ us hl=>match us,hl with | [_],_=>rfl),
   jC ma20 mi20 ml20 mc20 mk20 (fun _ _ _ _ _ _ us hl=>match us,hl with | [_],_=>rfl),
   jC ma21 mi21 ml21 mc21 mk21 (fun _ _ _ _ _ _ us hl=>match us,hl with | [_],_=>rfl),
   jC ma22 mi22 ml22 mc22 mk22 (fun _ _ _ _ _ _ us hl=>match us,hl with | [_],_=>rfl),
   jC ma23 mi23 ml23 mc23 mk23 (fun _ _ _ _ _ _ us hl=>match us,hl with | [_],_=>rfl),
   jC ma24 mi24 ml24 mc24 mk24 (fun _ _ _ _ _ _ us hl=>match us,hl with | [_,_],_=>rfl),
   jC ma25 mi25 ml25 mc25 mk25 (fun _ _ _ _ _ _ us hl=>match us,hl with | [_,_],_=>rfl),
   jC ma26 mi26 ml26 mc26 mk26 (fun _ _ _ _ _ _ us hl=>match us,hl with | [_,_],_=>rfl),
   jC ma27 mi27 ml27 mc27 mk27 (fun _ _ _ _ _ _ us hl=>match us,hl with | [_,_],_=>rfl),
   bF X G a0 l0 c0 k0 (fun _ _ _ _ _ _ us hl=>match us,hl with | [_],_=>rfl),
   bF X G a1 l1 c1 k1 (fun _ _ _ _ _ _ us hl=>match us,hl with | [_],_=>rfl),
   bF X G a2 l2 c2 k2 (fun _ _ _ _ _ _ us hl=>match us,hl with | [_],_=>rfl),
   bF X G a3 l3 c3 k3 (fun _ _ _ _ _ _ us hl=>match us,hl with | [_],_=>rfl),
   bF X G a4 l4 c4 k4 (fun _ _ _ _ _ _ us hl=>match us,hl with | [_],_=>rfl),
   bF X G a5 l5 c5 k5 (fun _ _ _ _ _ _ us hl=>match us,hl with | [_,_],_=>rfl),
   bF X G a6 l6 c6 k6 (fun _ _ _ _ _ _ us hl=>match us,hl with | [_,_],_=>rfl),
   bF X G a7 l7 c7 k7 (fun _ _ _ _ _ _ us hl=>match us,hl with | [_,_],_=>rfl),
   bF X G a8 l8 c8 k8 (fun _ _ _ _ _ _ us hl=>match us,hl with | [_],_=>rfl),
   bF X G a9 l9 c9 k9 (fun _ _ _ _ _ _ us hl=>match us,hl with | [_],_=>rfl),
   bF X G a10 l10 c10 k10 (fun _ _ _ _ _ _ us hl=>match us,hl with | [_],_=>rfl),
   bF X G a11 l11 c11 k11 (fun _ _ _ _ _ _ us hl=>match us,hl with | [_,_,_],_=>rfl),
   bF X G a12 l12 c12 k12 (fun _ _ _ _ _ _ us hl=>match us,hl with | [_,_],_=>rfl),
   bF X G a13 l13 c13 k13 (fun _ _ _ _ _ _ us hl=>match us,hl with | [_,_],_=>rfl),
   bF X G a14 l14 c14 k14 (fun _ _ _ _ _ _ us hl=>match us,hl with | [_,_],_=>rfl),
   bF X G a15 l15 c15 k15 (fun _ _ _ _ _ _ us hl=>match us,hl with | [_,_],_=>rfl),
   bF X G a16 l16 c16 k16 (fun _ _ _ _ _ _ us hl=>match us,hl with | [_,_],_=>rfl),
   bF X G a17 l17 c17 k17 (fun _ _ _ _ _ _ us hl=>match us,hl with | [_,_],_=>rfl),
   bF X G a18 l18 c18 k18 (fun _ _ _ _ _ _ us hl=>match us,hl with | [_,_],_=>rfl),
   bF X G a19 l19 c19 k19 (fun _ _ _ _ _ _ us hl=>match us,hl with | [_,_],_=>rfl),
   bF X G a20 l20 c20 k20 (fun _ _ _ _ _ _ us hl=>match us,hl with | [_,_,_],_=>rfl),
   bF X G a21 l21 c21 k21 (fun _ _ _ _ _ _ us hl=>match us,hl with | [_,_],_=>rfl),
   bF X G a22 l22 c22 k22 (fun _ _ _ _ _ _ us hl=>match us,hl with | [_,_],_=>rfl),
   bF X G a23 l23 c23 k23 (fun _ _ _ _ _ _ us hl=>match us,hl with | [_,_,_],_=>rfl),
   bF X G a24 l24 c24 k24 (fun _ _ _ _ _ _ us hl=>match us,hl with | [_,_,_],_=>rfl),
   bF X G a25 l25 c25 k25 (fun _ _ _ _ _ _ us hl=>match us,hl with | [_,_],_=>rfl),
   bF X G a26 l26 c26 k26 (fun _ _ _ _ _ _ us hl=>match us,hl with | [_,_],_=>rfl),
   bF X G a27 l27 c27 k27 (fun _ _ _ _ _ _ us hl=>match us,hl with | [_,_,_],_=>rfl),
   bF X G a28 l28 c28 k28 (fun _ _ _ _ _ _ us hl=>match us,hl with | [_,_,_],_=>rfl),
   bF X G a29 l29 c29 k29 (fun _ _ _ _ _ _ us hl=>match us,hl with | [_,_,_,_],_=>rfl),
   bF X G a30 l30 c30 k30 (fun _ _ _ _ _ _ us hl=>match us,hl with | [_,_,_],_=>rfl),
   bF X G a31 l31 c31 k31 (fun _ _ _ _ _ _ us hl=>match us,hl with | [_,_,_,_],_=>rfl),
   bF X G a32 l32 c32 k32 (fun _ _ _ _ _ _ us hl=>match us,hl with | [_,_,_],_=>rfl),
   bF X G a33 l33 c33 k33 (fun _ _ _ _ _ _ us hl=>match us,hl with | [_],_=>rfl),
   bF X G a34 l34 c34 k34 (fun _ _ _ _ _ _ us hl=>match us,hl with | [_,_,_],_=>rfl),
   bF X G a35 l35 c35 k35 (fun _ _ _ _ _ _ us hl=>match us,hl with | [_],_=>rfl),
   bF X G a36 l36 c36 k36 (fun _ _ _ _ _ _ us hl=>match us,hl with | [_,_,_],_=>rfl),
   bF X G a37 l37 c37 k37 (fun _ _ _ _ _ _ us hl=>match us,hl with | [_,_],_=>rfl),
   bF X G a38 l38 c38 k38 (fun _ _ _ _ _ _ us hl=>match us,hl with | [_,_],_=>rfl),
   bF X G a39 l39 c39 k39 (fun _ _ _ _ _ _ us hl=>match us,hl with | [_],_=>rfl),
   bF X G a40 l40 c40 k40 (fun _ _ _ _ _ _ us hl=>match us,hl with | [_,_],_=>rfl),
   bF X G a41 l41 c41 k41 (fun _ _ _ _ _ _ us hl=>match us,hl with | [_,_,_],_=>rfl),
   bF X G a42 l42 c42 k42 (fun _ _ _ _ _ _ us hl=>match us,hl with | [_,_,_],_=>rfl),
   bF X G a43 l43 c43 k43 (fun _ _ _ _ _ _ us hl=>match us,hl with | [_,_],_=>rfl),
   bF X G a44 l44 c44 k44 (fun _ _ _ _ _ _ us hl=>match us,hl with | [_],_=>rfl),
   bF X G a45 l45 c45 k45 (fun _ _ _ _ _ _ us hl=>match us,hl with | [_],_=>rfl),
   bF X G a46 l46 c46 k46 (fun _ _ _ _ _ _ us hl=>match us,hl with | [_,_],_=>rfl),
   bF X G a47 l47 c47 k47 (fun _ _ _ _ _ _ us hl=>match us,hl with | [_,_,_,_],_=>rfl),
   bF X G a48 l48 c48 k48 (fun _ _ _ _ _ _ us hl=>match us,hl with | [_,_,_],_=>rfl),
   bF X G a49 l49 c49 k49 (fun _ _ _ _ _ _ us hl=>match us,hl with | [_,_],_=>rfl),
   bF X G a50 l50 c50 k50 (fun _ _ _ _ _ _ us hl=>match us,hl with | [_,_],_=>rfl),
   bF X G a51 l51 c51 k51 (fun _ _ _ _ _ _ us hl=>match us,hl with | [_,_],_=>rfl),
   bF X G a52 l52 c52 k52 (fun _ _ _ _ _ _ us hl=>match us,hl with | [_,_,_],_=>rfl),
   bF X G a53 l53 c53 k53 (fun _ _ _ _ _ _ us hl=>match us,hl with | [_,_,_,_,_],_=>rfl),
   bF X G a54 l54 c54 k54 (fun _ _ _ _ _ _ us hl=>match us,hl with | [_],_=>rfl),
   kC X G g0 r0,
   kC X G g1 r1,
   kC X G g2 r2,
   kC X G g3 r3,
   kC X G g4 r4,
   kC X G g5 r5,
   kC X G g6 r6,
   kC X G g7 r7,
   BG X G z0,
   BG X G z1,
   BG X G z2,
   BG X G z3,
   BG X G z4,
   BG X G z5,
   BG X G z6,
   BG X G z7,
   BG X G z8,
   BG X G z9,
   BG X G z10,
   BG X G z11,
   BG X G z12,
   BG X G z13,
   BG X G z14,
   BG X G z15,
   BG X G z16⟩
end K73
namespace PySem.W.Fast
def tw7591847571498770467 := 0
def tw11039922263193042240 := 0
def tw3899331668621863563 := 0
def tw7516532078491942650 := 0
def tw11367842875644765637 := 0
def tw6792529238903291486 := 0
def tw17049046892469206153 := 0
def tw10260015715439477816 := 0
def tw16291580363359577449 := 0
def tw14931139128533299119 := 0
def tw2964896370233603365 := 0
def tw3097618459991901742 := 0
def tw10908098393219017969 := 0
def tw168834308536814611 := 0
def tw3501464952108138253 := 0
def tw12946372148639074799 := 0
def tw5440243386195529251 := 0
def tw12395714128709426496 := 0
def tw9340129738225245044 := 0
def tw15327127997368762440 := 0
def tw10504539353154770894 := 0
def tw17790772455436240386 := 0
def tw11753156232444650859 := 0
def tw16385734773614376657 := 0
def tw3827695560530211425 := 0
def tw11116815095595426426 := 0
def tw3576780350490920427 := 0
def tw10712622661698236365 := 0
def tw13841883726204304580 := 0
def tw8493413795109677351 := 0
def tw4201492179754111253 := 0
def tw5484783862413902551 := 0
def tw6795927203577787281 := 0
def tw4005791022576428877 := 0
def tw17253508572680292913 := 0
def tw3234096278151430552 := 0
def tw2573124255433845246 := 0
def tw778484414538784944 := 0
def tw10702416255817869362 := 0
def tw8152862477331440300 := 0
def tw15928029383862043037 := 0
def tw18116141221672665833 := 0
def tw14341967917538742905 := 0
def tw17335211132870108627 := 0
def tw16437932079556060532 := 0
def tw9535162905411298896 := 0
def tw15668951244079062848 := 0
def tw15325481549155705757 := 0
def tw12240342413140318254 := 0
def tw7185474998755175789 := 0
def tw4303392904596994815 := 0
def tw6876170658367937589 := 0
def tw5255545785681421253 := 0
def tw12399555592402202019 := 0
def tw4950128029091918969 := 0
def tw6810288194646345146 := 0
def tw804304774995250494 := 0
def tw9364533659746571972 := 0
def tw10393992014632868515 := 0
def tw1153827644746056981 := 0
def tw16690139667169298664 := 0
def tw5660836675558385575 := 0
def tw3298675165886171741 := 0
def tw819314461376941405 := 0
def tw16414595295389828038 := 0
def tw12483210288670194548 := 0
def tw927033640292470994 := 0
def tw12704716173719364535 := 0
def tw3543291703804116580 := 0
def tw248250000789833524 := 0
def tw7177218007973462493 := 0
def tw16452605556870285024 := 0
def tw4582329897625570545 := 0
def tw3580950697849585403 := 0
def tw4226934677525706846 := 0
def tw8149403394681714726 := 0
def tw9832980837807969984 := 0
def tw606720733809572083 := 0
def tw12053811991724103650 := 0
def tw12339432689245808464 := 0
def tw8308057202418815496 := 0
def tw12401861021188135092 := 0
def tw3759306243208404692 := 0
def tw18409607105759567759 := 0
def tw8843738009053984011 := 0
def tw11806648658704181953 := 0
def tw12849097805657264085 := 0
def tw10554611436890808958 := 0
def tw4158549680368805539 := 0
def tw10185077995767858497 := 0
def tw5276254991017458487 := 0
def tw5492849412445850857 := 0
def tw3551423190019940452 := 0
def tw10967300401809563863 := 0
def tw909822552736116649 := 0
def tw146928348434991529 := 0
def tw8996932424535587315 := 0
def tw4252320755938126658 := 0
def tw1493977339247842736 := 0
def tw7944645372000816930 := 0
def tw11024529144198783646 := 0
def tw15067024091931938932 := 0
def tw3657630127776504787 := 0
def tw18297969124506526822 := 0
def tw14569689498897223881 := 0
def tw5645006736023443307 := 0
def tw551554755441223547 := 0
def tw2440728514920567534 := 0
def tw16970297160451599609 := 0
end PySem.W.Fast
open PySem PySem.W PyProof.Rows
set_option maxRecDepth 100000 in
set_option maxHeartbeats 0 in
theorem PySem.Challenge.cw_dykemoot_k73_whole_fair_to_every_company_holds : PySem.Challenge.rw_dykemoot_k73_whole_fair_to_every_company.Holds := by
 w_on; o_law; k_head; (case hw => w_witness2)
 k_fill
 refine L2.walk_lawT (l := PySem.Challenge.rw_dykemoot_k73_whole_fair_to_every_company) 12 "lists_of_places" 378 376 ⟨rfl, by decide, by decide⟩ rfl rfl (fun w h Y => PySem.W.km_in_of Y) (fun w h Y => PySem.W.km_tabs_of Y 376 (by k_mem)) (fun w => by kernel_rfl) (fun w => by kernel_rfl) (fun w => by kernel_rfl) ?F
 case F =>
  intro w mg fa h KX G hmg
  refine' K73.law_mk hmg (K73.txt_mk KX G ?xaC ?xpgC ?xhdC ?xpoC ?xsaC ?xmkC ?xkpC ?xn_field_rows ?xn_dyke_rows ?xiha ?xihn ?xiht ?xihm ?xma18 ?xmi18 ?xml18 ?xmc18 ?xmk18 ?xma19 ?xmi19 ?xml19 ?xmc19 ?xmk19 ?xma20 ?xmi20 ?xml20 ?xmc20 ?xmk20 ?xma21 ?xmi21 ?xml21 ?xmc21 ?xmk21 ?xma22 ?xmi22 ?xml22 ?xmc22 ?xmk22 ?xma23 ?xmi23 ?xml23 ?xmc23 ?xmk23 ?xma24 ?xmi24 ?xml24 ?xmc24 ?xmk24 ?xma25 ?xmi25 ?xml25 ?xmc25 ?xmk25 ?xma26 ?xmi26 ?xml26 ?xmc26 ?xmk26 ?xma27 ?xmi27 ?xml27 ?xmc27 ?xmk27 ?xa0 ?xl0 ?xc0 ?xk0 ?xa1 ?xl1 ?xc1 ?xk1 ?xa2 ?xl2 ?xc2 ?xk2 ?xa3 ?xl3 ?xc3 ?xk3 ?xa4 ?xl4 ?xc4 ?xk4 ?xa5 ?xl5 ?xc5 ?xk5 ?xa6 ?xl6 ?xc6 ?xk6 ?xa7 ?xl7 ?xc7 ?xk7 ?xa8 ?xl8 ?xc8 ?xk8 ?xa9 ?xl9 ?xc9 ?xk9 ?xa10 ?xl10 ?xc10 ?xk10 ?xa11 ?xl11 ?xc11 ?xk11 ?xa12 ?xl12 ?xc12 ?xk12 ?xa13 ?xl13 ?xc13 ?xk13 ?xa14 ?xl14 ?xc14 ?xk14 ?xa15 ?xl15 ?xc15 ?xk15 ?xa16 ?xl16 ?xc16 ?xk16 ?xa17 ?xl17 ?xc17 ?xk17 ?xa18 ?xl18 ?xc18 ?xk18 ?xa19 ?xl19 ?xc19 ?xk19 ?xa20 ?xl20 ?xc20 ?xk20 ?xa21 ?xl21 ?xc21 ?xk21 ?xa22 ?xl22 ?xc22 ?xk22 ?xa23 ?xl23 ?xc23 ?xk23 ?xa24 ?xl24 ?xc24 ?xk24 ?xa25 ?xl25 ?xc25 ?xk25 ?xa26 ?xl26 ?xc26 ?xk26 ?xa27 ?xl27 ?xc27 ?xk27 ?xa28 ?xl28 ?xc28 ?xk28 ?xa29 ?xl29 ?xc29 ?xk29 ?xa30 ?xl30 ?xc30 ?xk30 ?xa31 ?xl31 ?xc31 ?xk31 ?xa32 ?xl32 ?xc32 ?xk32 ?xa33 ?xl33 ?xc33 ?xk33 ?xa34 ?xl34 ?xc34 ?xk34 ?xa35 ?xl35 ?xc35 ?xk35 ?xa36 ?xl36 ?xc36 ?xk36 ?xa37 ?xl37 ?xc37 ?xk37 ?xa38 ?xl38 ?xc38 ?xk38 ?xa39 ?xl39 ?xc39 ?xk39 ?xa40 ?xl40 ?xc40 ?xk40 ?xa41 ?xl41 ?xc41 ?xk41 ?xa42 ?xl42 ?xc42 ?xk42 ?xa43 ?xl43 ?xc43 ?xk43 ?xa44 ?xl44 ?xc44 ?xk44 ?xa45 ?xl45 ?xc45 ?xk45 ?xa46 ?xl46 ?xc46 ?xk46 ?xa47 ?xl47 ?xc47 ?xk47 ?xa48 ?xl48 ?xc48 ?xk48 ?xa49 ?xl49 ?xc49 ?xk49 ?xa50 ?xl50 ?xc50 ?xk50 ?xa51 ?xl51 ?xc51 ?xk51 ?xa52 ?xl52 ?xc52 ?xk52 ?xa53 ?xl53 ?xc53 ?xk53 ?xa54 ?xl54 ?xc54 ?xk54 ?xg0 ?xr0 ?xg1 ?xr1 ?xg2 ?xr2 ?xg3 ?xr3 ?xg4 ?xr4 ?xg5 ?xr5 ?xg6 ?xr6 ?xg7 ?xr7 ?xz0 ?xz1 ?xz2 ?xz3 ?xz4 ?xz5 ?xz6 ?xz7 ?xz8 ?xz9 ?xz10 ?xz11 ?xz12 ?xz13 ?xz14 ?xz15 ?xz16)
  (case xaC => k_is)
  (case xpgC => k_is)
  (case xhdC => k_is)
  (case xpoC => k_is)
  (case xsaC => k_is)
  (case xmkC => k_is)
  (case xkpC => k_is)
  (case xn_field_rows => k_is)
  (case xn_dyke_rows => k_is)
  (case xiha => k_is)
  (case xihn => k_is)
  (case xiht => k_is)
  (case xihm => k_is)
  (case xma18 => k_is)
  (case xmi18 => k_is)
  (case xml18 => k_is)
  (case xmc18 => k_is)
  (case xmk18 => k_is)
  (case xma19 => k_is)
  (case xmi19 => k_is)
  (case xml19 => k_is)
  (case xmc19 => k_is)
  (case xmk19 => k_is)
  (case xma20 => k_is)
  (case xmi20 => k_is)
  (case xml20 => k_is)
  (case xmc20 => k_is)
  (case xmk20 => k_is)
  (case xma21 => k_is)
  (case xmi21 => k_is)
  (case xml21 => k_is)
  (case xmc21 => k_is)
  (case xmk21 => k_is)
  (case xma22 => k_is)
  (case xmi22 => k_is)
  (case xml22 => k_is)
  (case xmc22 => k_is)
  (case xmk22 => k_is)
  (case xma23 => k_is)
  (case xmi23 => k_is)
  (case xml23 => k_is)
  (case xmc23 => k_is)
  (case xmk23 => k_is)
  (case xma24 => k_is)
  (case xmi24 => k_is)
  (case xml24 => k_is)
  (case xmc24 => k_is)
  (case xmk24 => k_is)
  (case xma25 => k_is)
  (case xmi25 => k_is)
  (case xml25 => k_is)
  (case xmc25 => k_is)
  (case xmk25 => k_is)
  (case xma26 => k_is)
  (case xmi26 => k_is)
  (case xml26 => k_is)
  (case xmc26 => k_is)
  (case xmk26 => k_is)
  (case xma27 => k_is)
  (case xmi27 => k_is)
  (case xml27 => k_is)
  (case xmc27 => k_is)
  (case xmk27 => k_is)
  (case xa0 => k_is)
  (case xl0 => k_is)
  (case xc0 => k_is)
  (case xk0 => k_is)
  (case xa1 => k_is)
  (case xl1 => k_is)
  (case xc1 => k_is)
  (case xk1 => k_is)
  (case xa2 => k_is)
  (case xl2 => k_is)
  (case xc2 => k_is)
  (case xk2 => k_is)
  (case xa3 => k_is)
  (case xl3 => k_is)
  (case xc3 => k_is)
  (case xk3 => k_is)
  (case xa4 => k_is)
  (case xl4 => k_is)
  (case xc4 => k_is)
  (case xk4 => k_is)
  (case xa5 => k_is)
  (case xl5 => k_is)
  (case xc5 => k_is)
  (case xk5 => k_is)
  (case xa6 => k_is)
  (case xl6 => k_is)
  (case xc6 => k_is)
  (case xk6 => k_is)
  (case xa7 => k_is)
  (case xl7 => k_is)
  (case xc7 => k_is)
  (case xk7 => k_is)
  (case xa8 => k_is)
  (case xl8 => k_is)
  (case xc8 => k_is)
  (case xk8 => k_is)
  (case xa9 => k_is)
  (case xl9 => k_is)
  (case xc9 => k_is)
  (case xk9 => k_is)
  (case xa10 => k_is)
  (case xl10 => k_is)
  (case xc10 => k_is)
  (case xk10 => k_is)
  (case xa11 => k_is)
  (case xl11 => k_is)
  (case xc11 => k_is)
  (case xk11 => k_is)
  (case xa12 => k_is)
  (case xl12 => k_is)
  (case xc12 => k_is)
  (case xk12 => k_is)
  (case xa13 => k_is)
  (case xl13 => k_is)
  (case xc13 => k_is)
  (case xk13 => k_is)
  (case xa14 => k_is)
  (case xl14 => k_is)
  (case xc14 => k_is)
  (case xk14 => k_is)
  (case xa15 => k_is)
  (case xl15 => k_is)
  (case xc15 => k_is)
  (case xk15 => k_is)
  (case xa16 => k_is)
  (case xl16 => k_is)
  (case xc16 => k_is)
  (case xk16 => k_is)
  (case xa17 => k_is)
  (case xl17 => k_is)
  (case xc17 => k_is)
  (case xk17 => k_is)
  (case xa18 => k_is)
  (case xl18 => k_is)
  (case xc18 => k_is)
  (case xk18 => k_is)
  (case xa19 => k_is)
  (case xl19 => k_is)
  (case xc19 => k_is)
  (case xk19 => k_is)
  (case xa20 => k_is)
  (case xl20 => k_is)
  (case xc20 => k_is)
  (case xk20 => k_is)
  (case xa21 => k_is)
  (case xl21 => k_is)
  (case xc21 => k_is)
  (case xk21 => k_is)
  (case xa22 => k_is)
  (case xl22 => k_is)
  (case xc22 => k_is)
  (case xk22 => k_is)
  (case xa23 => k_is)
  (case xl23 => k_is)
  (case xc23 => k_is)
  (case xk23 => k_is)
  (case xa24 => k_is)
  (case xl24 => k_is)
  (case xc24 => k_is)
  (case xk24 => k_is)
  (case xa25 => k_is)
  (case xl25 => k_is)
  (case xc25 => k_is)
  (case xk25 => k_is)
  (case xa26 => k_is)
  (case xl26 => k_is)
  (case xc26 => k_is)
  (case xk26 => k_is)
  (case xa27 => k_is)
  (case xl27 => k_is)
  (case xc27 => k_is)
  (case xk27 => k_is)
  (case xa28 => k_is)
  (case xl28 => k_is)
  (case xc28 => k_is)
  (case xk28 => k_is)
  (case xa29 => k_is)
  (case xl29 => k_is)
  (case xc29 => k_is)
  (case xk29 => k_is)
  (case xa30 => k_is)
  (case xl30 => k_is)
  (case xc30 => k_is)
  (case xk30 => k_is)
  (case xa31 => k_is)
  (case xl31 => k_is)
  (case xc31 => k_is)
  (case xk31 => k_is)
  (case xa32 => k_is)
  (case xl32 => k_is)
  (case xc32 => k_is)
  (case xk32 => k_is)
  (case xa33 => k_is)
  (case xl33 => k_is)
  (case xc33 => k_is)
  (case xk33 => k_is)
  (case xa34 => k_is)
  (case xl34 => k_is)
  (case xc34 => k_is)
  (case xk34 => k_is)
  (case xa35 => k_is)
  (case xl35 => k_is)
  (case xc35 => k_is)
  (case xk35 => k_is)
  (case xa36 => k_is)
  (case xl36 => k_is)
  (case xc36 => k_is)
  (case xk36 => k_is)
  (case xa37 => k_is)
  (case xl37 => k_is)
  (case xc37 => k_is)
  (case xk37 => k_is)
  (case xa38 => k_is)
  (case xl38 => k_is)
  (case xc38 => k_is)
  (case xk38 => k_is)
  (case xa39 => k_is)
  (case xl39 => k_is)
  (case xc39 => k_is)
  (case xk39 => k_is)
  (case xa40 => k_is)
  (case xl40 => k_is)
  (case xc40 => k_is)
  (case xk40 => k_is)
  (case xa41 => k_is)
  (case xl41 => k_is)
  (case xc41 => k_is)
  (case xk41 => k_is)
  (case xa42 => k_is)
  (case xl42 => k_is)
  (case xc42 => k_is)
  (case xk42 => k_is)
  (case xa43 => k_is)
  (case xl43 => k_is)
  (case xc43 => k_is)
  (case xk43 => k_is)
  (case xa44 => k_is)
  (case xl44 => k_is)
  (case xc44 => k_is)
  (case xk44 => k_is)
  (case xa45 => k_is)
  (case xl45 => k_is)
  (case xc45 => k_is)
  (case xk45 => k_is)
  (case xa46 => k_is)
  (case xl46 => k_is)
  (case xc46 => k_is)
  (case xk46 => k_is)
  (case xa47 => k_is)
  (case xl47 => k_is)
  (case xc47 => k_is)
  (case xk47 => k_is)
  (case xa48 => k_is)
  (case xl48 => k_is)
  (case xc48 => k_is)
  (case xk48 => k_is)
  (case xa49 => k_is)
  (case xl49 => k_is)
  (case xc49 => k_is)
  (case xk49 => k_is)
  (case xa50 => k_is)
  (case xl50 => k_is)
  (case xc50 => k_is)
  (case xk50 => k_is)
  (case xa51 => k_is)
  (case xl51 => k_is)
  (case xc51 => k_is)
  (case xk51 => k_is)
  (case xa52 => k_is)
  (case xl52 => k_is)
  (case xc52 => k_is)
  (case xk52 => k_is)
  (case xa53 => k_is)
  (case xl53 => k_is)
  (case xc53 => k_is)
  (case xk53 => k_is)
  (case xa54 => k_is)
  (case xl54 => k_is)
  (case xc54 => k_is)
  (case xk54 => k_is)
  (case xg0 => k_is)
  (case xr0 => exact ⟨_, rfl⟩)
  (case xg1 => k_is)
  (case xr1 => exact ⟨_, rfl⟩)
  (case xg2 => k_is)
  (case xr2 => exact ⟨_, rfl⟩)
  (case xg3 => k_is)
  (case xr3 => exact ⟨_, rfl⟩)
  (case xg4 => k_is)
  (case xr4 => exact ⟨_, rfl⟩)
  (case xg5 => k_is)
  (case xr5 => exact ⟨_, rfl⟩)
  (case xg6 => k_is)
  (case xr6 => exact ⟨_, rfl⟩)
  (case xg7 => k_is)
  (case xr7 => exact ⟨_, rfl⟩)
  (case xz0 => k_is)
  (case xz1 => k_is)
  (case xz2 => k_is)
  (case xz3 => k_is)
  (case xz4 => k_is)
  (case xz5 => k_is)
  (case xz6 => k_is)
  (case xz7 => k_is)
  (case xz8 => k_is)
  (case xz9 => k_is)
  (case xz10 => k_is)
  (case xz11 => k_is)
  (case xz12 => k_is)
  (case xz13 => k_is)
  (case xz14 => k_is)
  (case xz15 => k_is)
  (case xz16 => k_is)
