import PyProof.Rows.All
import Wide.All
import OpenK.AllK
import Wide.FinOn
import Lean
import PyProof.EqAt
import PyProof.EqKinds
import PyProof.TupleCall
import PyProof.StrBlockI
import PyProof.SliceList
import PyProof.StrLawsIn
import PyProof.StrLaws
import PySem.Challenge.RW_dykemoot_k72_means_over_all_orders
open List renaming length_map→AA,getElem?_eq_some_iff→AB,getElem?_eq_getElem→AC,take_of_length_le→AF,getElem?_map→AI,mem_of_getElem?→AM,mem_cons_of_mem→AQ,size_toArray→AR,mem_map→AS,map_append→AT,mem_cons_self→AU,mem_singleton→AV,length_take→AW,take_add_one→AX,map_cons→AY,length_append→Ae,mem_cons→Ah,getD_eq_getElem?_getD→Ai,length_cons→Aj,nodup_cons→Ak,map_map→Al,mem_append_right→Am,range→An,mem_append→Ar,Nodup→Au,mem_filter→Aw,mem_iff_getElem?→BA,all_eq_true→BB,mem_range→BH,lookup_cons→BM,length_filter_le→BN,getElem?_append_left→BX,map_congr_left→Bb,append_assoc→Bc,getElem?_take_of_lt→Bj,find?_cons→Bl,append_nil→Bp,length_singleton→Br,not_mem_nil→Bs,mem_append_left→Bv,lookup→CB,filter_cons→CC,nodup_iff_pairwise_ne→CD,getElem?_append_right→CF,filter_append→CG,length_range→CN,length_drop→CT,getElem_map→CU,eq_nil_of_length_eq_zero→Cb,map_nil→Cc,getElem?_set_ne→Ck,length→Cs,filter_cons_of_pos→Ct,filter_cons_of_neg→Cu,toArray→Cw,drop_eq_nil_of_le→Cy,getElem_mem→DG,any_eq_true→DH,mem_of_mem_take→DK,length_reverse→DM,filter_sublist→DN,pairwise_iff_getElem→DY,drop_eq_getElem_cons→DZ,take_sublist→Da,nodup_append→Db,flatMap_cons→Dd,any_cons→Df,all_cons→Dg,getElem_inj→Dn,all_map→Dp,range_succ→Du,of_mem_zip→Dw,nil_append→Dx,length_nil→Dy,filter_nil→Dz,singleton_append→EA,drop_zero→EC,getElem_of_mem→EK,filter_eq_self→EL,filterMap_cons→EM,map_take→ET,getElem?_drop→EV,forIn_cons→Eo
open PySem renaming wpAny_bind→AD,mainGlobals→AK,wpAny_pure→AZ,sizeLine→Aq,starEach→At,NameKind→BD,wpAny_mono→BL,bootBuiltins→BP,compareOp→BV,PassesOwn→Bd,wpAny_loadPart'→Bf,FuncData→Bi,wpAny_truthy_bool→Bk,codeAny_builtin→CA,wpAny_holding→CI,sizeLine_eq→CJ,tupleKind→CL,wpAny_Call_Name_kw→CM,plainId_quiet→CY,wpAny_typeNameOfWhole_keyiter→Ce,keywordEach→Cf,sysModules→Ci,wpAny_passesOwn→Cj,wpAny_pyIter_list→Co,mem_of_lookup→Cp,codeAny_mono→Cr,wpAny_typeNameOf_keyiter→Cv,tupleKind_room_in1→DB,wpAny_getItem_str_slice→DD,wpAny_newObj_type→DI,attributeBase→DP,sliceBounds→DQ,backToKw→DR,GenState→DV,Arguments→Dh,binaryOp→Di,assignEach→Dj,behindInMarks→Dq,wpAny_typeOf→EE,wpAny_execs_nil→EG,post_val_or_str→EH,letOwnedTupleGo→EI,wpAny_notOrdered_dict→EN,bindArgs→EX,Within→EY,getMethod→EZ,DictEntry→Ea,wpAny_standAt→Eg,wpAny_rule→Ej,closureFor→Ek,wpAny_dictEntries→Er,foldedSetIterable→Es,wpAny_call_entry→Eu,subscripted→Ew,wpAny_updateSeq→Ex,wpAny_specialOf→Ey,wpAny_dictEpoch→Ez,wpAny_seqItems→FA,callType_codes→FB
open PySem.Heap renaming get?_push_of_some→AE,lt_size→Aa,get?_push_size→Ab,get?_update_other→BY,size_push→Cz,SameBut→DA,get?_update_self→DE,size_update→Ei
open PySem.W renaming Frag→AG,keepIn→AH,codeIn→AJ,nsIn→AL,fnOf→AO,findIn→As,mg_none_of→BE,isFn→Be,kia_one→Bh,emptyDict→Bn,kitOne→Bt,instObj→CK,plainGet→DC,specialIn→DW,hasDictIn→DX,cellsFrom_some→Dl,makesIn→Dm,lookIn→Dr,plainGet_of→EB,callWith_K→EF,plainOver→ER,methodObj→ES,takesIn→Ec,takerIn→Ed
open Nat renaming le_refl→AN,ne_of_lt→Af,lt_of_lt_of_le→Ag,le_trans→BG,zero_le→BK,le_succ→CO,lt_irrefl→Ch,pow_le_pow_right→Cl,lt_succ_self→DJ,ne_of_gt→DS,lt_trans→DT,lt_succ_of_lt→De,le_of_eq→Dt,le_of_lt→Ee,le_add_right→Em,min_eq_left→Et,add_le_add→Ev
open Bool renaming and_eq_true→Ac,false_ne_true→Ad,and_eq_true_iff→BJ,true_and→BU,eq_iff_iff→BZ,false_and→ED,false_eq_true→EW
open Option renaming map_eq_some_iff→Ao,some→BS,map_some→Cq,isSome_map→EU
open PySem.Value renaming ref→Ap,none→Bg,type→Ca,int→Dk,bool→EQ
open Int renaming emod_lt_of_pos→Av,emod_nonneg→Ay,eq_ofNat_of_zero_le→BF,toNat_natCast→CP,zero_add→DU,add_zero→Ef,le_refl→Ep
open Option.some renaming inj→Ax
open PySem.NameKind renaming free→Az,cell→Bx
open PySem.PassesOwn renaming never→BC
open PySem.F renaming plainAttrs_list→BI,type_list_append→BQ,slot_list_append→BR,called_set→Bq,slot_dict_keyiterator_next→Bz,slot_list_getattribute→Do
open PySem.Obj renaming mapSeq→BO
open False renaming elim→BT
open PySem.SeqAt renaming EqAt→BW
open Array renaming length_toList→Ba,getElem?_toList→CH,size_push→En
open PySem.Around renaming under_plainId→Bm
open ForInStep renaming yield→Bo
open PyProof.Rows renaming callWith_type1→Bu,get?_update_seq→EJ,listUpdate_at→Eh,assignInOrder_cons→El
open PySem.Paired renaming nil→Bw,length→By,cons→CZ,snoc→DF
open True renaming intro→CQ
open Sum.inr renaming inj→CS
open PyProof.Rows.F renaming plain_set_update_loop→Cd
open PySem.Txt renaming slice→Cg,slice_le→Eb
open PySem.Builtin.Dict renaming updateFrom→Cn
open List.Nodup renaming sublist→DL
open Classical renaming byContradiction→DO
open PySem.Walks renaming list→EO
set_option Elab.async false
set_option linter.all false
set_option maxRecDepth 100000
namespace L2
open PySem PySem.Spec PyProof.Rows
abbrev Key:=Sum Int Str
def vJ:Key → Value → Bool
 | .inl k,v=>Value.isInt k v
 | .inr x,v=>Value.isStrOf x v
def aUR (w:World):Key → Int
 | .inl k=>hashInt k
 | .inr x=>hashStr w x
theorem cN:∀ {k:Key} {v:Value},vJ k v = true → (∃ i t,k = Sum.inl i ∧ v = Dk i t) ∨ (∃ x t,k = Sum.inr x ∧ v = Value.str x t)
 | .inl i,v,h=>by
  obtain ⟨t,e⟩:=Value.isInt_shape (k:=i) (v:=v) h
  exact .inl ⟨i,t,rfl,e⟩
 | .inr x,v,h=>by
  obtain ⟨t,e⟩:=Value.isStrOf_shape (x:=x) (v:=v) h
  exact .inr ⟨x,t,rfl,e⟩
theorem rF (i:Int) (t:Tok):vJ (.inl i) (.int i t) = true:=by simp [vJ,Value.isInt]
theorem rE (x:Str) (t:Tok):vJ (.inr x) (.str x t) = true:=by simp [vJ,Value.isStrOf]
theorem aRJ (a b:Int):decide ((Sum.inl a:Key) = Sum.inl b) = (a == b):=by
 by_cases e:a = b
 ·subst e;simp
 ·have h:¬ (Sum.inl a:Key) = Sum.inl b:=fun q=>e (Sum.inl.inj q)
  rw [decide_eq_false h]
  exact (beq_eq_false_iff_ne.mpr e).symm
theorem aRF (a b:Str):decide ((Sum.inr a:Key) = Sum.inr b) = decide (a = b):=by
 by_cases e:a = b
 ·subst e;simp
 ·have h:¬ (Sum.inr a:Key) = Sum.inr b:=fun q=>e (CS q)
  rw [decide_eq_false h,decide_eq_false e]
theorem aRI (a:Int) (b:Str):decide ((Sum.inl a:Key) = Sum.inr b) = false:=decide_eq_false (fun q=>nomatch q)
theorem aRG (a:Str) (b:Int):decide ((Sum.inr a:Key) = Sum.inl b) = false:=decide_eq_false (fun q=>nomatch q)
def aS (prog:Program) (w:World):PySem.KeyKind prog w Key where
 is:=vJ
 hash:=aUR w
 inj:=fun v a b ha hb=>by
  rcases cN ha with ⟨i,t,rfl,rfl⟩ | ⟨x,t,rfl,rfl⟩
  ·rcases cN hb with ⟨j,u,rfl,e⟩ | ⟨y,u,rfl,e⟩
   ·injection e with e1 _;rw [e1]
   ·exact nomatch e
  ·rcases cN hb with ⟨j,u,rfl,e⟩ | ⟨y,u,rfl,e⟩
   ·exact nomatch e
   ·injection e with e1 _;rw [e1]
 byValue:=fun k v h=>by
  rcases cN h with ⟨i,t,rfl,rfl⟩ | ⟨x,t,rfl,rfl⟩ <;> rfl
 pyHash:=fun hv h=>by
  rcases cN hv with ⟨i,t,rfl,rfl⟩ | ⟨x,t,rfl,rfl⟩
  ·exact wpAny_pyHash_int h
  ·exact wpAny_pyHash_str h
 eqBool:=fun hu hv h=>by
  rcases cN hu with ⟨i,t,rfl,rfl⟩ | ⟨x,t,rfl,rfl⟩
  ·rcases cN hv with ⟨j,u,rfl,rfl⟩ | ⟨y,u,rfl,rfl⟩
   ·rw [aRJ] at h;exact wpAny_eqBool_int h
   ·rw [aRI] at h;exact BW.int_str i t y u _ _ _ _ h
  ·rcases cN hv with ⟨j,u,rfl,rfl⟩ | ⟨y,u,rfl,rfl⟩
   ·rw [aRG] at h;exact BW.str_int x t j u _ _ _ _ h
   ·rw [aRF] at h;exact wpAny_eqBool_str h
 «strs»:=fun k x t v h=>by
  rcases cN h with ⟨i,u,rfl,e⟩ | ⟨y,u,rfl,e⟩
  ·exact nomatch e
  ·injection e with e1 _
   subst e1
   cases v <;> rfl
theorem aCM (prog:Program) (w:World) (i:Int) (t:Tok):(aS prog w).is (.inl i) (.int i t) = true:=rF i t
theorem aCL (prog:Program) (w:World) (x:Str) (t:Tok):(aS prog w).is (.inr x) (.str x t) = true:=rE x t
end L2
namespace L2
open PySem PySem.Spec PyProof.Rows
inductive V where
 | non | bl (b:Bool) | int (i:Int) | str (x:Str) | byt (b:Array UInt8) | flt (b:UInt64) | ref (a:Addr) | ty (n:String)
 deriving DecidableEq
def bI:V → Value → Prop
 | .non,u=>u = Bg
 | .bl b,u=>u = EQ b
 | .int i,u=>∃ t,u = Dk i t
 | .str x,u=>∃ t,u = Value.str x t
 | .byt b,u=>∃ t,u = Value.bytes b t
 | .flt b,u=>∃ t,u = Value.float b t
 | .ref a,u=>u = Ap a
 | .ty n,u=>u = Ca n
abbrev bF:List V → List Value → Prop:=Paired bI
theorem bF.length {xs:List V} {us:List Value} (r:bF xs us):xs.length = us.length:=By r
theorem bF.get:∀ {xs:List V} {us:List Value} {i:Nat} {x:V},bF xs us → xs[i]? = some x → ∃ u,us[i]? = some u ∧ bI x u
 | _,_,_,_,.nil,e=>by simp at e
 | _,_,0,_,.cons r _,e=>by simp at e;subst e;exact ⟨_,rfl,r⟩
 | _,_,i + 1,x,.cons _ t,e=>by
  obtain ⟨u,h1,h2⟩:=bF.get (i:=i) (x:=x) t (by simpa using e)
  exact ⟨u,by simpa using h1,h2⟩
theorem bF.append:∀ {xs ys:List V} {us ws:List Value},bF xs us → bF ys ws → bF (xs ++ ys) (us ++ ws)
 | _,_,_,_,.nil,s=>s
 | _,_,_,_,.cons r t,s=>.cons r (bF.append t s)
theorem bF.take:∀ {xs:List V} {us:List Value} (n:Nat),bF xs us → bF (xs.take n) (us.take n)
 | _,_,0,_=>.nil
 | _,_,_ + 1,.nil=>.nil
 | _,_,n + 1,.cons r t=>.cons r (bF.take n t)
theorem bF.drop:∀ {xs:List V} {us:List Value} (n:Nat),bF xs us → bF (xs.drop n) (us.drop n)
 | _,_,0,r=>r
 | _,_,_ + 1,.nil=>.nil
 | _,_,n + 1,.cons _ t=>bF.drop n t
def oK:Option V → Option Value → Prop
 | some v,some u=>bI v u
 | none,none=>True
 | _,_=>False
def KV {κ:Type}:List (κ × V) → List (κ × Value) → Prop:=Paired fun (p:κ × V) (q:κ × Value)=>p.1 = q.1 ∧ bI p.2 q.2
def kV:Key → V
 | .inl i=>.int i
 | .inr x=>.str x
inductive HO where
 /-- a list -/
 | lst (xs:List V)
 /-- a tuple (never changes) -/
 | tup (xs:List V)
 /-- a dict whose keys are ints and texts;one whose keys are tuples of ints and texts (the empty one is both) -/
 | dK (kvs:List (Key × V)) | dT (kvs:List (List Key × V))
 /-- a set of ints: its members,its size -/
 | set (S:Int → Bool) (n:Nat)
 /-- an instance of the class at C,its dict at dx,its attributes -/
 | ins (C dx:Addr) (fs:List (Str × V))
 /-- the dict of the instance at x -/
 | own (x:Addr)
 /-- the dict of an exception -/
 | xd (fs:List (Str × V))
 /-- a bound method,f of x -/
 | met (f x:Addr)
 /-- a range object lo,lo + 1,.. below hi -/
 | rng (lo hi:Int)
 /-- a thing that is known to the object (the script;a dict while a loop walks it): read,never written while it is so -/
 | frz (o:Obj) (u:HO)
 /-- a code object's table -/
 | tbl (ps:Array Value)
 /-- any other thing,by what is true of its one object (a def of one's own: aIX a S n:=HO.ext fun h=>..) -/
 | ext (φ:Heap → Prop)
abbrev Hp:=Addr → Option HO
def upd (H:Hp) (a:Addr) (o:HO):Hp:=fun b=>if b = a then some o else H b
theorem aE {H:Hp} {a:Addr} {o:HO}:upd H a o a = some o:=by unfold upd;rw [if_pos rfl]
theorem aI {H:Hp} {a b:Addr} {o:HO} (h:b ≠ a):upd H a o b = H b:=by unfold upd;rw [if_neg h]
theorem xT {H:Hp} {a b:Addr} {o u:HO} (h:H a = some o) (h':H b = some u) (d:o ≠ u):a ≠ b:=by
 intro e;subst e;rw [h] at h';exact d (Ax h')
theorem aO {H:Hp} {a b:Addr} {o:HO} (h:H a = some o) (h':H b = none):a ≠ b:=by
 intro e;subst e;rw [h] at h';cases h'
def rW (h:Heap) (a:Addr) (its:Array Value):Prop:=∃ o,h.get? a = some o ∧ o.cls = .type "tuple" ∧ ∃ n,o.data = .seq its n ∧ o.dict = none
theorem rW.tup {h:Heap} {a:Addr} {its:Array Value} (x:rW h a its):IsTup h a its:=by
 obtain ⟨o,e,c,n,d,_⟩:=x
 exact ⟨o,e,c,n,d⟩
theorem rW.new (h:Heap) (its:Array Value):rW (h.push { cls:=.type "tuple",data:=.seq its }) h.objs.size its:=⟨_,Ab _ rfl,rfl,_,rfl,rfl⟩
section
variable (P:Program) (w:World)
def bP (H:Hp) (h:Heap) (a:Addr):HO → Prop
 | .lst xs=>xs.length ≤ Aq ∧ ∃ (its:List Value) (n:Nat),bF xs its ∧ h.get? a = some { cls:=.type "list",data:=.seq its.toArray n }
 | .tup xs=>xs.length ≤ Aq ∧ ∃ its:List Value,bF xs its ∧ rW h a its.toArray
 | .dK kvs=>kvs.length ≤ Aq ∧ (a == Ci) = false ∧ ∃ vs,KV kvs vs ∧ h.DictOf (aS P w) a vs
 | .dT kvs=>kvs.length ≤ Aq ∧ (a == Ci) = false ∧ ∃ xs:List (List Key × Addr × Value),
   Paired (fun (p:List Key × V) (q:List Key × Addr × Value)=>p.1 = q.1 ∧ H q.2.1 = some (.tup (p.1.map kV)) ∧ bI p.2 q.2.2) kvs xs ∧
   ∃ o es ep,h.get? a = some o ∧ o.ExactDict ∧ o.data = .dict es ep ∧ es.toList = xs.map (entryOfKey (CL (aS P w))) ∧ (xs.map (·.1)).Nodup
 | .set S n=>h.SetOf (intKind P w) a S n
 | .ins C dx fs=>H dx = some (.own a) ∧ fs.length ≤ 1000 ∧ dx ≠ a ∧ h.get? a = some (CK C dx) ∧
   ∃ mA,h.Ns1 dx mA ∧ (∀ f,oK (fs.lookup f) (mA f)) ∧ EY mA (fs.map (·.1))
 | .own _=>∃ o,h.get? a = some o
 | .xd fs=>∃ mA,h.Ns1 a mA ∧ ∀ f,oK (fs.lookup f) (mA f)
 | .rng lo hi=>∃ t u v,h.get? a = some { cls:=.type "range",data:=.fields #[.int lo t,.int hi u,.int 1 v] }
 | .frz o u=>h.get? a = some o ∧ bP H h a u
 | .tbl ps=>h.get? a = some { cls:=.none,data:=.fields ps }
 | .met f x=>h.get? a = some (ES (.ref f) (.ref x))
 | .ext φ=>φ h ∧ (∃ o,h.get? a = some o) ∧ ∀ h1 h2:Heap,φ h1 → (∀ o,h1.get? a = some o → h2.get? a = some o) → φ h2
def HOk (H:Hp) (h:Heap):Prop:=∀ a o,H a = some o → bP P w H h a o
end
section
variable {P:Program} {w:World} {H H':Hp} {h h':Heap} {a:Addr} {o:HO}
theorem bP.lt (x:bP P w H h a o):a < h.objs.size:=by
 cases o with
 | lst xs=>obtain ⟨_,_,_,_,e⟩:=x;exact Aa e
 | tup xs=>obtain ⟨_,_,_,_,e,_⟩:=x;exact Aa e
 | dK kvs=>obtain ⟨_,_,_,_,o,_,_,e,_⟩:=x;exact Aa e
 | dT kvs=>obtain ⟨_,_,_,_,o,_,_,e,_⟩:=x;exact Aa e
 | set S n=>obtain ⟨o,_,_,_,e,_⟩:=x;exact Aa e
 | ins C dx fs=>obtain ⟨_,_,_,e,_⟩:=x;exact Aa e
 | own y=>obtain ⟨_,e⟩:=x;exact Aa e
 | xd fs=>obtain ⟨_,⟨_,_,_,e,_⟩,_⟩:=x;exact Aa e
 | rng lo hi=>obtain ⟨_,_,_,e⟩:=x;exact Aa e
 | frz ob u=>obtain ⟨e,_⟩:=x;exact Aa e
 | tbl ps=>exact Aa (show h.get? a = some _ from x)
 | met f y=>exact Aa (show h.get? a = some _ from x)
 | ext φ=>obtain ⟨_,⟨_,e⟩,_⟩:=x;exact Aa e
theorem Paired.mapP {α β:Type} {F G:α → β → Prop}:∀ {l₁:List α} {l₂:List β},Paired F l₁ l₂ → (∀ a b,F a b → G a b) → Paired G l₁ l₂
 | _,_,.nil,_=>.nil
 | _,_,.cons r t,f=>.cons (f _ _ r) (Paired.mapP t f)
theorem bP.stay (x:bP P w H h a o) (k:∀ b u,(b = a ∨ H b = some (.own a)) → h.get? b = some u → h'.get? b = some u)
  (ho:∀ b,H b = some (.own a) → H' b = some (.own a)) (ht:∀ b xs,H b = some (.tup xs) → H' b = some (.tup xs)):bP P w H' h' a o:=by
 induction o with
 | lst xs=>obtain ⟨z,its,n,r,e⟩:=x;exact ⟨z,its,n,r,k _ _ (.inl rfl) e⟩
 | tup xs=>obtain ⟨z,its,r,ob,e,c⟩:=x;exact ⟨z,its,r,ob,k _ _ (.inl rfl) e,c⟩
 | dK kvs=>obtain ⟨z,y,vs,r,ob,es,ep,e,c⟩:=x;exact ⟨z,y,vs,r,ob,es,ep,k _ _ (.inl rfl) e,c⟩
 | dT kvs =>
  obtain ⟨z,y,xs,r,ob,es,ep,e,c⟩:=x
  exact ⟨z,y,xs,Paired.mapP r fun p q z=>⟨z.1,ht _ _ z.2.1,z.2.2⟩,ob,es,ep,k _ _ (.inl rfl) e,c⟩
 | set S n=>obtain ⟨ob,es,ep,t,e,c⟩:=x;exact ⟨ob,es,ep,t,k _ _ (.inl rfl) e,c⟩
 | ins C dx fs =>
  obtain ⟨d,z,ne,e,mA,⟨od,es,ep,e2,c⟩,r⟩:=x
  exact ⟨ho _ d,z,ne,k _ _ (.inl rfl) e,mA,⟨od,es,ep,k _ _ (.inr d) e2,c⟩,r⟩
 | own y=>obtain ⟨ob,e⟩:=x;exact ⟨ob,k _ _ (.inl rfl) e⟩
 | xd fs=>obtain ⟨mA,⟨od,es,ep,e,c⟩,r⟩:=x;exact ⟨mA,⟨od,es,ep,k _ _ (.inl rfl) e,c⟩,r⟩
 | rng lo hi=>obtain ⟨t,u,v,e⟩:=x;exact ⟨t,u,v,k _ _ (.inl rfl) e⟩
 | frz ob u ih=>obtain ⟨e,q⟩:=x;exact ⟨k _ _ (.inl rfl) e,ih q⟩
 | tbl ps =>
  have e:h.get? a = some { cls:=.none,data:=.fields ps }:=x
  show h'.get? a = some { cls:=.none,data:=.fields ps }
  exact k a _ (.inl rfl) e
 | met f y =>
  have e:h.get? a = some (ES (.ref f) (.ref y)):=x
  show h'.get? a = some (ES (.ref f) (.ref y))
  exact k a _ (.inl rfl) e
 | ext φ=>obtain ⟨p,⟨o,e⟩,st⟩:=x;exact ⟨st _ _ p fun o q=>k _ _ (.inl rfl) q,⟨o,k _ _ (.inl rfl) e⟩,st⟩
theorem HOk.lt (x:HOk P w H h) (e:H a = some o):a < h.objs.size:=(x a o e).lt
theorem HOk.fresh (x:HOk P w H h) (e:h.objs.size ≤ a):H a = none:=by
 cases q:H a with
 | none=>rfl
 | some u=>exact absurd (Ag (x.lt q) e) (Ch _)
theorem HOk.kept (x:HOk P w H h) (k:∀ b u,h.get? b = some u → h'.get? b = some u):HOk P w H h':=fun a o e =>
 (x a o e).stay (fun b u _ q=>k b u q) (fun _ q=>q) fun _ _ q=>q
theorem HOk.laid (x:HOk P w H h) (k:∀ b u,h.get? b = some u → h'.get? b = some u) (hp:h.objs.size ≤ a) (new:bP P w (upd H a o) h' a o):HOk P w (upd H a o) h':=fun b u e=>by
 have hn:=x.fresh hp
 by_cases hb:b = a
 ·subst hb;rw [aE] at e;cases e;exact new
 ·rw [aI hb] at e
  exact (x b u e).stay (fun c v _ q=>k c v q) (fun c q=>by rw [aI (aO q hn)];exact q) fun c xs q=>by rw [aI (aO q hn)];exact q
end
def Rd (H:Hp) (a:Addr) (u:HO):Prop:=H a = some u ∨ ∃ o,H a = some (.frz o u)
theorem Rd.ok {P:Program} {w:World} {H:Hp} {h:Heap} {a:Addr} {u:HO} (r:Rd H a u) (x:HOk P w H h):bP P w H h a u:=by
 rcases r with r | ⟨o,r⟩
 ·exact x a u r
 ·obtain ⟨_,q⟩:=x a _ r
  exact q
def Mut:Option HO → Prop
 | some (.lst _)=>True
 | some (.dK _)=>True
 | some (.dT _)=>True
 | some (.set _ _)=>True
 | some (.ins _ _ _)=>True
 | some (.ext _)=>True
 | _=>False
section
variable {P:Program} {w:World} {H:Hp} {h h':Heap} {x e:Addr} {o':HO}
theorem HOk.write (ok:HOk P w H h) (mu:Mut (H x)) (he:e = x ∨ H e = some (.own x)) (k:∀ b u,b ≠ e → h.get? b = some u → h'.get? b = some u) (heo:∃ u,h'.get? e = some u)
  (new:bP P w (upd H x o') h' x o'):HOk P w (upd H x o') h':=fun b u q=>by
 have nown:∀ c y,H c = some (.own y) → c ≠ x:=fun c y r z=>by subst z;rw [r] at mu;exact mu
 have ntup:∀ c xs,H c = some (.tup xs) → c ≠ x:=fun c xs r z=>by subst z;rw [r] at mu;exact mu
 by_cases hb:b = x
 ·subst hb;rw [aE] at q;cases q;exact new
 ·rw [aI hb] at q
  by_cases hbe:b = e
  ·have q':H b = some (.own x):=by
    rcases he with z | z
    ·exact absurd (hbe.trans z) hb
    ·rw [hbe];exact z
   rw [q] at q';cases q'
   obtain ⟨v,hv⟩:=heo
   exact ⟨v,by rw [hbe];exact hv⟩
  ·refine (ok b u q).stay (fun c v hc r=>k c v ?_ r) (fun c r=>by rw [aI (nown c b r)];exact r) fun c xs r=>by rw [aI (ntup c xs r)];exact r
   rcases hc with rfl | hc
   ·exact hbe
   ·rintro rfl
    rcases he with z | z
    ·exact nown c b hc z
    ·rw [hc] at z;cases z;exact hb rfl
end
structure Un (fs ex:List Addr) (H H':Hp) (h h':Heap):Prop where
 keep:∀ b o,h.get? b = some o → H b = none → b ∉ fs → b ∉ ex → h'.get? b = some o
 slot:∀ b o,h.get? b = some o → H b = none → b ∈ fs → b ∉ ex → ∃ sl,h'.get? b = some { o with slots:=sl }
 free:∀ b o,h.get? b = some o → H b = none → b ∉ ex → H' b = none
 there:∀ b o,h.get? b = some o → b ∉ ex → ∃ o',h'.get? b = some o'
 tups:∀ b xs,H b = some (.tup xs) → H' b = some (.tup xs)
 frzs:∀ b o u,H b = some (.frz o u) → H' b = some (.frz o u)
 tbls:∀ b ps,H b = some (.tbl ps) → ∃ more,H' b = some (.tbl (ps ++ more))
section
variable {fs fs' ex ex':List Addr} {H H1 H2:Hp} {h h1 h2 h':Heap} {a x e:Addr} {o:HO}
theorem Un.any (u:Un fs ex H H1 h h1) {b:Addr} {ob:Obj} (q:h.get? b = some ob) (n:H b = none) (hx:b ∉ ex):∃ sl,h1.get? b = some { ob with slots:=sl }:=by
 by_cases hb:b ∈ fs
 ·exact u.slot b ob q n hb hx
 ·exact ⟨ob.slots,u.keep b ob q n hb hx⟩
theorem Un.kept (k:∀ b u,h.get? b = some u → h'.get? b = some u):Un fs ex H H h h' :=
 ⟨fun b ob q _ _ _=>k b ob q,fun b ob q _ _ _=>⟨ob.slots,k b ob q⟩,fun _ _ _ n _=>n,fun b ob q _=>⟨ob,k b ob q⟩,fun _ _ q=>q,fun _ _ _ q=>q,fun _ ps q=>⟨#[],by rw [q];simp⟩⟩
theorem Un.refl:Un fs ex H H h h:=Un.kept fun _ _ q=>q
theorem Un.laid (k:∀ b u,h.get? b = some u → h'.get? b = some u) (hp:h.objs.size ≤ a) (hn:H a = none):Un fs ex H (upd H a o) h h' where
 keep:=fun b u q _ _ _=>k b u q
 slot:=fun b u q _ _ _=>⟨u.slots,k b u q⟩
 free:=fun b u q n _=>by rw [aI (Af (Ag (Aa q) hp))];exact n
 there:=fun b u q _=>⟨u,k b u q⟩
 tups:=fun b xs q=>by rw [aI (aO q hn)];exact q
 frzs:=fun b u xs q=>by rw [aI (aO q hn)];exact q
 tbls:=fun b ps q=>⟨#[],by rw [aI (aO q hn),q];simp⟩
theorem Un.write (mu:Mut (H x)) (he:e = x ∨ H e = some (.own x)) (k:∀ b u,b ≠ e → h.get? b = some u → h'.get? b = some u) (heo:∃ u,h'.get? e = some u):Un fs ex H (upd H x o) h h':=by
 have hx:∀ b,H b = none → b ≠ x:=fun b n z=>by subst z;rw [n] at mu;exact mu
 have hb:∀ b,H b = none → b ≠ e:=fun b n z=>by
  subst z
  rcases he with r | r
  ·exact hx b n r
  ·rw [n] at r;cases r
 have hm:∀ b u,H b = some u → ¬ Mut (some u) → b ≠ x:=fun b u q nm z=>by subst z;rw [q] at mu;exact nm mu
 refine ⟨fun b u q n _ _=>k b u (hb b n) q,fun b u q n _ _=>⟨u.slots,k b u (hb b n) q⟩,fun b u q n _=>by rw [aI (hx b n)];exact n,fun b u q _=>?_,
  fun b xs q=>by rw [aI (hm b _ q fun z=>z)];exact q,fun b u xs q=>by rw [aI (hm b _ q fun z=>z)];exact q,fun b ps q=>⟨#[],by rw [aI (hm b _ q fun z=>z),q];simp⟩⟩
 by_cases hbe:b = e
 ·subst hbe;exact heo
 ·exact ⟨u,k b u hbe q⟩
end
def trk (h:Heap) (H:Hp):List Addr:=(An h.objs.size).filter fun a=>(H a).isSome
def wX (h:Heap) (H:Hp):Heap:=PySem.W.hideAll h (trk h H)
theorem aIE (h:Heap) (H:Hp):(wX h H).objs.size = h.objs.size:=PySem.W.hideAll_size _ _
theorem aLU {h:Heap} {H:Hp} {b:Addr} {o:Obj} (e:h.get? b = some o) (n:H b = none):(wX h H).get? b = some o :=
 PySem.W.hideAll_get _ e fun hm=>by
  have q:(H b).isSome = true:=(Aw.mp hm).2
  rw [n] at q;simp at q
theorem aOK {h:Heap} {H:Hp} {b:Addr} {o:Obj} (e:(wX h H).get? b = some o):h.get? b = some o ∧ H b = none:=by
 have e':h.get? b = some o:=PySem.W.of_hideAll (trk h H) e
 refine ⟨e',?_⟩
 cases q:H b with
 | none=>rfl
 | some x =>
  have hm:b ∈ trk h H:=Aw.mpr ⟨BH.mpr (Aa e'),by simp [q]⟩
  have z:(wX h H).get? b = none:=PySem.W.hideAll_none (trk h H) hm
  rw [z] at e;cases e
def aPF (g h:Heap) (L:Addr):List (Addr × Obj):=(An h.objs.size).filterMap fun a=>if a = L ∨ (g.get? a).isSome = true then none else (h.get? a).map fun o=>(a,o)
def rest (g h:Heap) (L d:Addr):List (Addr × Obj):=(aPF g h L).filter fun p=>decide (p.1 ≠ d)
end L2
namespace L2
open PySem PySem.Spec PyProof.Rows
structure Mod (K:AG) (mg:Str → Option Value) (base:Heap):Prop where
 kin:K.In base
 glob:base.Ns AK mg
 blt:∃ mb,base.Ns builtinsNs mb ∧ ∀ x:Str,x ≠ "__name__" → mb x = BP x
 nolimit:base.NoLimit
structure Cx where
 prog:Program
 w:World
 K:AG
 mg:Str → Option Value
 base:Heap
 A:Around
 N:List Str
 s₀:Shared
 H₀:Hp
 env:Env
 outer:List Env
 stack:List Env
 ex:List Addr
 fn:Str → Bool
 calm:Bool
 pn:List (Addr × Obj)
 xe:Value → Shared → Prop
def frs (l:List Env):List Addr:=l.filterMap (·.frame)
abbrev Cx.fs (X:Cx):List Addr:=frs X.outer
def Vis (sc:Scope) (x:Str):Prop:=sc.names.lookup x = some .local ∨ sc.names.lookup x = some .cell ∨ sc.names.lookup x = some .free
def Loc (sc:Scope) (x:Str):Prop:=sc.names.lookup x = some .local ∨ sc.names.lookup x = some .cell
def aVC (env:Env) (h:Heap) (m:Str → Option Value) (x:Str) (u:Value):Prop :=
 (env.kindOf x = some .local ∧ m x = some u) ∨ ((env.kindOf x = some .cell ∨ env.kindOf x = some .free) ∧ ∃ c,env.cells.lookup x = some c ∧ h.IsCell c (some u))
structure Cx.Ok (X:Cx):Prop where
 mod:Mod X.K X.mg X.base
 kind:X.env.scope.kind = .function
 glob:X.env.globals = AK
 blt:X.env.builtins = builtinsNs
 above:X.s₀.heap.objs.size ≤ X.env.locals
 inj:∀ x y c,X.env.cells.lookup x = some c → X.env.cells.lookup y = some c → x = y
 has:∀ x,(X.env.kindOf x = some .cell ∨ X.env.kindOf x = some .free) → ∃ c,X.env.cells.lookup x = some c
 cab:∀ x c,X.fn x = true → X.env.cells.lookup x = some c → X.s₀.heap.objs.size ≤ c
 hd:X.calm = true → X.A.handled = none
 frames:X.A.frames = some X.stack
 stk:X.stack = X.outer ∨ (X.stack = X.env :: X.outer ∧ X.env.frame = some X.env.locals)
 exf:∀ b ∈ X.ex,b ≠ X.env.locals ∧ ∀ x c,X.env.cells.lookup x = some c → c ≠ b
 bs:∀ b o,X.base.get? b = some o → X.s₀.heap.get? b = some o ∧ X.H₀ b = none
 bsz:X.base.objs.size ≤ X.s₀.heap.objs.size
 noex:∀ b o,X.base.get? b = some o → b ∉ X.ex
 exfs:∀ b ∈ X.ex,b ∉ X.fs
 funs:X.s₀.heap.FunFrames X.base X.outer
 frf:∀ b ∈ X.fs,X.H₀ b = none
structure Inv (X:Cx) (pins:List (Addr × Obj)) (σ:List (Option V)) (H:Hp) (s:Shared):Prop where
 ok:X.Ok
 os:s.os = X.s₀.os
 bare:AllBare s.gens
 base:Un X.fs X.ex X.H₀ H X.s₀.heap s.heap
 loc:∃ m,s.heap.Ns X.env.locals m ∧ ∀ (i:Nat) (x:Str) (v:V),X.N[i]? = some x → σ[i]? = some (some v) → Vis X.env.scope x → ∃ u,bI v u ∧ aVC X.env s.heap m x u
 cell:∀ x c,X.env.cells.lookup x = some c → ∃ v,s.heap.IsCell c v
 free:H X.env.locals = none
 freeC:∀ x c,X.env.cells.lookup x = some c → H c = none
 pin:∀ p ∈ X.pn ++ pins,s.heap.get? p.1 = some p.2 ∧ H p.1 = none ∧ p.1 ≠ X.env.locals ∧ p.1 ∉ X.fs ∧ ∀ v,p.2.data ≠ .cell v
 hok:HOk X.prog X.w H s.heap
 len:σ.length = X.N.length
section
variable {X:Cx} {pins:List (Addr × Obj)} {σ:List (Option V)} {H H':Hp} {s:Shared} {h':Heap}
theorem Cx.Ok.nofr (ok:X.Ok) {b:Addr} {o:Obj} (e:X.base.get? b = some o):b ∉ X.fs:=fun hb=>by
 have:=(ok.funs.mem hb).1
 rw [e] at this;cases this
theorem Inv.bs (I:Inv X pins σ H s):∀ b o,X.base.get? b = some o → s.heap.get? b = some o ∧ H b = none:=fun b o e =>
 ⟨I.base.keep b o (I.ok.bs b o e).1 (I.ok.bs b o e).2 (I.ok.nofr e) (I.ok.noex b o e),I.base.free b o (I.ok.bs b o e).1 (I.ok.bs b o e).2 (I.ok.noex b o e)⟩
theorem Inv.bk (I:Inv X pins σ H s):∀ b o,X.base.get? b = some o → s.heap.get? b = some o:=fun b o e=>(I.bs b o e).1
theorem Inv.mod (I:Inv X pins σ H s):Mod X.K X.mg X.base:=I.ok.mod
theorem Inv.kIn (I:Inv X pins σ H s):X.K.In s.heap:=I.ok.mod.kin.keeps I.bk
theorem Inv.fr (I:Inv X pins σ H s):∃ m,Fr X.base X.env.locals s.heap m :=
 let ⟨m,hn,_⟩:=I.loc
 ⟨m,hn,I.bk,BG I.ok.bsz I.ok.above⟩
theorem Inv.lt (I:Inv X pins σ H s):X.env.locals < s.heap.objs.size:=let ⟨_,hn,_⟩:=I.loc;hn.lt
theorem Inv.sz (I:Inv X pins σ H s):X.s₀.heap.objs.size ≤ s.heap.objs.size:=BG I.ok.above (Ee I.lt)
theorem Inv.nofs (I:Inv X pins σ H s) {a:Addr} (h:s.heap.objs.size ≤ a):a ∉ X.fs:=fun hb=>by
 obtain ⟨_,o,ho,_⟩:=I.ok.funs.mem hb
 exact absurd (Ag (Aa ho) (BG I.sz h)) (Ch _)
theorem Inv.cne (I:Inv X pins σ H s):∀ x c,X.env.cells.lookup x = some c → c ≠ X.env.locals:=fun x c e z=>by
 obtain ⟨v,o,ho,hd⟩:=I.cell x c e
 obtain ⟨m,⟨o',es,ep,ho',hd',_⟩,_⟩:=I.loc
 rw [z,ho'] at ho;cases ho;rw [hd'] at hd;cases hd
theorem Inv.funs (I:Inv X pins σ H s):s.heap.FunFrames X.base X.outer:=by
 have all:∀ (l:List Env),(∀ b ∈ frs l,b ∈ X.fs) → X.s₀.heap.FunFrames X.base l → s.heap.FunFrames X.base l:=by
  intro l
  induction l with
  | nil=>intro _ _;trivial
  | cons env r ih =>
   intro hs hl
   obtain ⟨hk,⟨L,o,hf,hn,ho,hd⟩,hr⟩:=hl
   have hL:L ∈ X.fs:=hs L (by unfold frs;rw [EM,hf];exact AU)
   obtain ⟨sl,e⟩:=I.base.slot L o ho (I.ok.frf L hL) hL fun z=>I.ok.exfs L z hL
   exact ⟨hk,⟨L,_,hf,hn,e,hd⟩,ih (fun b hb=>hs b (by unfold frs;rw [EM,hf];exact AQ _ hb)) hr⟩
 exact all X.outer (fun _ hb=>hb) I.ok.funs
theorem Inv.stack (I:Inv X pins σ H s):s.heap.FunFrames X.base X.stack:=by
 rcases I.ok.stk with e | ⟨e,hf⟩
 ·rw [e];exact I.funs
 ·rw [e]
  obtain ⟨m,hn,_⟩:=I.loc
  refine .cons (by rw [I.ok.kind];decide) hf hn ?_ I.funs
  exact Heap.get?_none_of_le (BG I.ok.bsz I.ok.above)
theorem Inv.stkSub (I:Inv X pins σ H s):∀ b ∈ frs X.stack,b ∈ X.env.locals :: X.fs:=fun b hb=>by
 rcases I.ok.stk with e | ⟨e,hf⟩
 ·rw [e] at hb;exact AQ _ hb
 ·rw [e] at hb
  unfold frs at hb
  rw [EM,hf] at hb
  exact hb
theorem Inv.stkFree (I:Inv X pins σ H s):∀ b ∈ frs X.stack,H b = none:=fun b hb=>by
 rcases Ah.mp (I.stkSub b hb) with e | hb
 ·rw [e];exact I.free
 ·obtain ⟨_,o,ho,_⟩:=I.ok.funs.mem hb
  exact I.base.free b o ho (I.ok.frf b hb) fun z=>I.ok.exfs b z hb
theorem Inv.step {g':Array DV} {t':Nat} {d':Drawn} {ch:List Addr} (I:Inv X pins σ H s)
  (hch:∀ b ∈ ch,(b ∈ X.ex ∨ X.s₀.heap.objs.size ≤ b) ∧ b ≠ X.env.locals ∧ (∀ x c,X.env.cells.lookup x = some c → c ≠ b) ∧ ∀ p ∈ X.pn ++ pins,p.1 ≠ b)
  (keep:∀ b o,b ≠ X.env.locals → b ∉ X.fs → b ∉ ch → s.heap.get? b = some o → H b = none → h'.get? b = some o)
  (slot:∀ b o,b ≠ X.env.locals → b ∈ X.fs → b ∉ ch → s.heap.get? b = some o → H b = none → ∃ sl,h'.get? b = some { o with slots:=sl }) (free:∀ b o,b ∉ ch → s.heap.get? b = some o → H b = none → H' b = none)
  (there:∀ b o,b ∉ ch → s.heap.get? b = some o → ∃ o',h'.get? b = some o')
  (tups:∀ b xs,H b = some (.tup xs) → H' b = some (.tup xs)) (frzs:∀ b o u,H b = some (.frz o u) → H' b = some (.frz o u)) (tbls:∀ b ps,H b = some (.tbl ps) → ∃ more,H' b = some (.tbl (ps ++ more)))
  (ns:∀ m,s.heap.Ns X.env.locals m → h'.Ns X.env.locals m) (hok:HOk X.prog X.w H' h') (hg:AllBare g') :
  Inv X pins σ H' { s with heap:=h',gens:=g',drawn:=d',toks:=t' }:=by
 have neL:∀ b o,X.s₀.heap.get? b = some o → b ≠ X.env.locals:=fun b o e=>Af (Ag (Aa e) I.ok.above)
 have neC:∀ b o,X.s₀.heap.get? b = some o → b ∉ X.ex → b ∉ ch:=fun b o e hx hb=>by
  rcases (hch b hb).1 with z | z
  ·exact hx z
  ·exact absurd (Ag (Aa e) z) (Ch _)
 have cellK:∀ x c,X.env.cells.lookup x = some c → ∀ v,s.heap.IsCell c v → h'.IsCell c v:=fun x c e v ⟨o,ho,hd⟩=>by
  have nch:c ∉ ch:=fun z=>(hch c z).2.2.1 x c e rfl
  by_cases hc:c ∈ X.fs
  ·obtain ⟨sl,q⟩:=slot c o (I.cne x c e) hc nch ho (I.freeC x c e)
   exact ⟨_,q,hd⟩
  ·exact ⟨o,keep c o (I.cne x c e) hc nch ho (I.freeC x c e),hd⟩
 refine ⟨I.ok,I.os,hg,⟨fun b o e n hb hx=>?_,fun b o e n hb hx=>?_,fun b o e n hx=>?_,fun b o e hx=>?_,fun b xs e=>tups b xs (I.base.tups b xs e),fun b o xs e=>frzs b o xs (I.base.frzs b o xs e),fun b ps e=>?_⟩,?_,fun x c e=>?_,?_,fun x c e=>?_,fun p hp=>?_,hok,I.len⟩
 ·exact keep b o (neL b o e) hb (neC b o e hx) (I.base.keep b o e n hb hx) (I.base.free b o e n hx)
 ·obtain ⟨sl,e1⟩:=I.base.slot b o e n hb hx
  obtain ⟨sl',e2⟩:=slot b _ (neL b o e) hb (neC b o e hx) e1 (I.base.free b o e n hx)
  exact ⟨sl',e2⟩
 ·obtain ⟨o',e1⟩:=I.base.there b o e hx
  exact free b o' (neC b o e hx) e1 (I.base.free b o e n hx)
 ·obtain ⟨o',e1⟩:=I.base.there b o e hx
  exact there b o' (neC b o e hx) e1
 ·obtain ⟨m1,e1⟩:=I.base.tbls b ps e
  obtain ⟨m2,e2⟩:=tbls b _ e1
  exact ⟨m1 ++ m2,by rw [e2,Array.append_assoc]⟩
 ·obtain ⟨m,hn,hl⟩:=I.loc
  refine ⟨m,ns m hn,fun i x v e1 e2 e3=>?_⟩
  obtain ⟨u,r,l⟩:=hl i x v e1 e2 e3
  refine ⟨u,r,?_⟩
  rcases l with l | ⟨k,c,e,z⟩
  ·exact .inl l
  ·exact .inr ⟨k,c,e,cellK x c e _ z⟩
 ·obtain ⟨v,z⟩:=I.cell x c e
  exact ⟨v,cellK x c e v z⟩
 ·obtain ⟨m,⟨o,_,_,ho,_⟩,_⟩:=I.loc
  exact free _ o (fun z=>(hch _ z).2.1 rfl) ho I.free
 ·obtain ⟨v,o,ho,hd⟩:=I.cell x c e
  exact free c o (fun z=>(hch c z).2.2.1 x c e rfl) ho (I.freeC x c e)
 ·obtain ⟨e,n,ne,nf,d⟩:=I.pin p hp
  have nch:p.1 ∉ ch:=fun z=>(hch p.1 z).2.2.2 p hp rfl
  exact ⟨keep p.1 p.2 ne nf nch e n,free p.1 p.2 nch e n,ne,nf,d⟩
theorem Inv.un {t':Nat} (I:Inv X pins σ H s) (u:Un X.fs [] H H' s.heap h') (hok:HOk X.prog X.w H' h'):Inv X pins σ H' { s with heap:=h',toks:=t' }:=by
 obtain ⟨m,⟨o,es,ep,ho,r⟩,_⟩:=id I.loc
 obtain ⟨sl,hL⟩:=u.any ho I.free (by simp)
 exact I.step (g':=s.gens) (d':=s.drawn) (ch:=[]) (fun _ z=>nomatch z) (fun b o _ hb _ e n=>u.keep b o e n hb (by simp)) (fun b o _ hb _ e n=>u.slot b o e n hb (by simp)) (fun b o _ e n=>u.free b o e n (by simp)) (fun b o _ e=>u.there b o e (by simp)) u.tups u.frzs u.tbls (fun m' hm=>by
  obtain ⟨o',es',ep',ho',r'⟩:=hm
  rw [ho] at ho';cases ho'
  exact ⟨_,es',ep',hL,r'⟩) hok I.bare
theorem Inv.call {g':Array DV} {t':Nat} {d':Drawn} {ch:List Addr} (I:Inv X pins σ H s) (u:Un (frs X.stack) ch H H' s.heap h') (hok:HOk X.prog X.w H' h') (hg:AllBare g')
  (hch:∀ b ∈ ch,(b ∈ X.ex ∨ X.s₀.heap.objs.size ≤ b) ∧ b ≠ X.env.locals ∧ (∀ x c,X.env.cells.lookup x = some c → c ≠ b) ∧ ∀ p ∈ X.pn ++ pins,p.1 ≠ b) :
  Inv X pins σ H' { s with heap:=h',gens:=g',drawn:=d',toks:=t' }:=by
 obtain ⟨m,⟨o,es,ep,ho,r⟩,_⟩:=id I.loc
 obtain ⟨sl,hL⟩:=u.any ho I.free fun z=>(hch _ z).2.1 rfl
 exact I.step (ch:=ch) hch (fun b o hL hb hc e n=>u.keep b o e n (fun z=>(Ah.mp (I.stkSub b z)).elim hL hb) hc) (fun b o _ _ hc e n=>u.any e n hc) (fun b o hc e n=>u.free b o e n hc) (fun b o hc e=>u.there b o e hc) u.tups u.frzs u.tbls (fun m' hm=>by
  obtain ⟨o',es',ep',ho',r'⟩:=hm
  rw [ho] at ho';cases ho'
  exact ⟨_,es',ep',hL,r'⟩) hok hg
theorem Inv.turned {t':Nat} {it:Addr} (I:Inv X pins σ H s) (k:∀ b o,b ≠ it → s.heap.get? b = some o → h'.get? b = some o) (hn:H it = none) (hL:it ≠ X.env.locals)
  (h1:it ∈ X.ex ∨ X.s₀.heap.objs.size ≤ it) (h2:∀ x c,X.env.cells.lookup x = some c → c ≠ it) (h3:∀ p ∈ X.pn ++ pins,p.1 ≠ it):Inv X pins σ H { s with heap:=h',toks:=t' }:=by
 have nit:∀ b u,H b = some u → b ≠ it:=fun b u e z=>by rw [z,hn] at e;cases e
 refine I.step (g':=s.gens) (d':=s.drawn) (ch:=[it]) (fun b hb=>?_) (fun b o _ _ hc e _=>k b o (fun z=>hc (by simp [z])) e) (fun b o _ _ hc e _=>⟨o.slots,k b o (fun z=>hc (by simp [z])) e⟩) (fun _ _ _ _ n=>n)
  (fun b o hc e=>⟨o,k b o (fun z=>hc (by simp [z])) e⟩) (fun _ _ e=>e) (fun _ _ _ e=>e) (fun b ps e=>⟨#[],by rw [e];simp⟩) (fun m hm=>?_) (fun b u e=>?_) I.bare
 ·have e:b = it:=by simpa using hb
  subst e
  exact ⟨h1,hL,h2,h3⟩
 ·obtain ⟨o,es,ep,ho,r⟩:=hm
  exact ⟨o,es,ep,k _ o (Ne.symm hL) ho,r⟩
 ·refine (I.hok b u e).stay (fun c v hc q=>k c v ?_ q) (fun _ q=>q) fun _ _ q=>q
  rcases hc with z | z
  ·rw [z];exact nit b u e
  ·exact nit c _ z
theorem Inv.tok (I:Inv X pins σ H s) (t:Nat):Inv X pins σ H { s with toks:=t }:=I.un (h':=s.heap) (t':=t) Un.refl I.hok
theorem Inv.kept {t':Nat} (I:Inv X pins σ H s) (k:∀ b u,s.heap.get? b = some u → h'.get? b = some u):Inv X pins σ H { s with heap:=h',toks:=t' }:=I.un (Un.kept k) (I.hok.kept k)
theorem Inv.laid {a:Addr} {o:HO} {t':Nat} (I:Inv X pins σ H s) (k:∀ b u,s.heap.get? b = some u → h'.get? b = some u) (hp:s.heap.objs.size ≤ a) (new:bP X.prog X.w (upd H a o) h' a o) :
  Inv X pins σ (upd H a o) { s with heap:=h',toks:=t' }:=I.un (Un.laid k hp (I.hok.fresh hp)) (I.hok.laid k hp new)
theorem Inv.write {x e:Addr} {o:HO} {t':Nat} (I:Inv X pins σ H s) (mu:Mut (H x)) (he:e = x ∨ H e = some (.own x)) (k:∀ b u,b ≠ e → s.heap.get? b = some u → h'.get? b = some u) (heo:∃ u,h'.get? e = some u)
  (new:bP X.prog X.w (upd H x o) h' x o):Inv X pins σ (upd H x o) { s with heap:=h',toks:=t' }:=I.un (Un.write mu he k heo) (I.hok.write mu he k heo new)
theorem Inv.weak {σ':List (Option V)} (I:Inv X pins σ H s) (hl:σ'.length = σ.length) (w:∀ (i:Nat) v,σ'[i]? = some (some v) → σ[i]? = some (some v)):Inv X pins σ' H s :=
 ⟨I.ok,I.os,I.bare,I.base,let ⟨m,hn,hl'⟩:=I.loc;⟨m,hn,fun i x v e1 e2 e3=>hl' i x v e1 (w i v e2) e3⟩,I.cell,I.free,I.freeC,I.pin,I.hok,hl.trans I.len⟩
theorem Inv.pins_of {pins':List (Addr × Obj)} (I:Inv X pins σ H s) (h:∀ p ∈ pins',s.heap.get? p.1 = some p.2 ∧ H p.1 = none ∧ p.1 ≠ X.env.locals ∧ p.1 ∉ X.fs ∧ ∀ v,p.2.data ≠ .cell v):Inv X pins' σ H s :=
 ⟨I.ok,I.os,I.bare,I.base,I.loc,I.cell,I.free,I.freeC,fun p hp=>(Ar.mp hp).elim (fun z=>I.pin p (Bv _ z)) (h p),I.hok,I.len⟩
theorem qA {N:List Str} (hN:N.Nodup) {i j:Nat} {x:Str} (a:N[i]? = some x) (b:N[j]? = some x):i = j:=by
 obtain ⟨h1,e1⟩:=AB.mp a
 obtain ⟨h2,e2⟩:=AB.mp b
 exact (Dn hN).mp (e1.trans e2.symm)
theorem aHG {M:Model} {A:Around} {E:Value → Shared → Prop} {i:Nat} {x:Str} {v:V} {u:Value} {Q:Unit → Shared → Prop} (I:Inv X pins σ H s) (hN:X.N.Nodup) (hi:X.N[i]? = some x) (hx:Loc X.env.scope x) (r:bI v u)
  (h:∀ s',Inv X pins (σ.set i (some v)) H s' → (∃ a,DA a s.heap s'.heap ∧ (a = X.env.locals ∨ X.env.cells.lookup x = some a)) → Q () s') (hf:X.fn x = true ∨ X.env.scope.names.lookup x = some .local:=by first | exact .inl rfl | exact .inr rfl | assumption):wpAny M A (storeName X.env x u) Q E s:=by
 obtain ⟨m,hn,hl⟩:=id I.loc
 have hcls:(X.env.scope.kind == .class || (X.env.scope.kind == .module && X.env.locals != X.env.globals)) = false:=by rw [I.ok.kind];rfl
 have hiσ:i < σ.length:=by rw [I.len];exact (AB.mp hi).1
 have cne:=I.cne
 have tracked:∀ {a:Addr} {h':Heap},(∃ o,s.heap.get? a = some o ∧ H a = none) → DA a s.heap h' → HOk X.prog X.w H h':=fun {a h'} ha hs b ob e=>by
  obtain ⟨_,_,hfree⟩:=ha
  refine (I.hok b ob e).stay (fun c w' hc q=>(hs.2 c ?_).trans q) (fun _ q=>q) fun _ _ q=>q
  rintro rfl
  rcases hc with rfl | hc
  ·rw [hfree] at e;cases e
  ·rw [hfree] at hc;cases hc
 rcases hx with hk | hk
 ·refine wpAny_storeName_local hk hn (fun h' hn' hs=>?_) hcls
  obtain ⟨oL,_,_,hoL,_⟩:=id hn
  refine h _ ⟨I.ok,I.os,I.bare,⟨fun b o e n hb hx=>?_,fun b o e n hb hx=>?_,I.base.free,fun b o e hx=>?_,I.base.tups,I.base.frzs,I.base.tbls⟩,⟨_,hn',fun j y v' e1 e2 e3=>?_⟩,fun y c e=>?_,I.free,I.freeC,fun p hp=>?_,tracked ⟨oL,hoL,I.free⟩ hs,by simpa using I.len⟩ ⟨_,hs,.inl rfl⟩
  ·exact (hs.2 b (Af (Ag (Aa e) I.ok.above))).trans (I.base.keep b o e n hb hx)
  ·obtain ⟨sl,e1⟩:=I.base.slot b o e n hb hx
   exact ⟨sl,(hs.2 b (Af (Ag (Aa e) I.ok.above))).trans e1⟩
  ·obtain ⟨o',e1⟩:=I.base.there b o e hx
   exact ⟨o',(hs.2 b (Af (Ag (Aa e) I.ok.above))).trans e1⟩
  ·by_cases hj:j = i
   ·subst hj
    rw [hi] at e1;cases e1
    rw [List.getElem?_set_self hiσ] at e2
    cases e2
    exact ⟨u,r,.inl ⟨hk,by simp⟩⟩
   ·rw [Ck (Ne.symm hj)] at e2
    obtain ⟨u',r',q⟩:=hl j y v' e1 e2 e3
    refine ⟨u',r',?_⟩
    rcases q with ⟨k,e⟩ | ⟨k,c,e,z⟩
    ·refine .inl ⟨k,?_⟩
     have:y ≠ x:=fun e=>hj (qA hN e1 (e ▸ hi))
     simp [this,e]
    ·exact .inr ⟨k,c,e,z.sameBut hs (cne y c e)⟩
  ·obtain ⟨w',z⟩:=I.cell y c e
   exact ⟨w',z.sameBut hs (cne y c e)⟩
  ·obtain ⟨e,n,ne,nf,d⟩:=I.pin p hp
   exact ⟨(hs.2 p.1 ne).trans e,n,ne,nf,d⟩
 ·have hfn:X.fn x = true:=by
   rcases hf with z | z
   ·exact z
   ·rw [z] at hk;cases hk
  obtain ⟨c,hc⟩:=I.ok.has x (.inl hk)
  obtain ⟨w',z⟩:=I.cell x c hc
  refine wpAny_storeName_cell I.ok.kind hk hc z (fun h' hc' hs=>?_)
  obtain ⟨oc,hoc,hocd⟩:=id z
  refine h { s with heap:=h' } ⟨I.ok,I.os,I.bare,⟨fun b o e n hb hx=>?_,fun b o e n hb hx=>?_,I.base.free,fun b o e hx=>?_,I.base.tups,I.base.frzs,I.base.tbls⟩,⟨m,hn.sameBut hs (Ne.symm (cne x c hc)),fun j y v' e1 e2 e3=>?_⟩,fun y c' e=>?_,I.free,I.freeC,fun p hp=>?_,tracked ⟨oc,hoc,I.freeC x c hc⟩ hs,by simpa using I.len⟩ ⟨c,hs,.inr hc⟩
  ·exact (hs.2 b (Af (Ag (Aa e) (I.ok.cab x c hfn hc)))).trans (I.base.keep b o e n hb hx)
  ·obtain ⟨sl,e1⟩:=I.base.slot b o e n hb hx
   exact ⟨sl,(hs.2 b (Af (Ag (Aa e) (I.ok.cab x c hfn hc)))).trans e1⟩
  ·obtain ⟨o',e1⟩:=I.base.there b o e hx
   exact ⟨o',(hs.2 b (Af (Ag (Aa e) (I.ok.cab x c hfn hc)))).trans e1⟩
  ·by_cases hj:j = i
   ·subst hj
    rw [hi] at e1;cases e1
    rw [List.getElem?_set_self hiσ] at e2
    cases e2
    exact ⟨u,r,.inr ⟨.inl hk,c,hc,hc'⟩⟩
   ·rw [Ck (Ne.symm hj)] at e2
    obtain ⟨u',r',q⟩:=hl j y v' e1 e2 e3
    refine ⟨u',r',?_⟩
    rcases q with q | ⟨k,c',e,z'⟩
    ·exact .inl q
    ·refine .inr ⟨k,c',e,z'.sameBut hs ?_⟩
     rintro rfl
     exact hj (qA hN e1 (I.ok.inj _ _ _ e hc ▸ hi))
  ·by_cases hcc:c' = c
   ·subst hcc;exact ⟨_,hc'⟩
   ·obtain ⟨w2,z2⟩:=I.cell y c' e
    exact ⟨w2,z2.sameBut hs hcc⟩
  ·obtain ⟨e,n,ne,nf,d⟩:=I.pin p hp
   refine ⟨(hs.2 p.1 ?_).trans e,n,ne,nf,d⟩
   intro q
   rw [q,hoc] at e
   have q':oc = p.2:=Ax e
   exact d w' (by rw [← q'];exact hocd)
theorem mI {M:Model} {A:Around} {E:Value → Shared → Prop} {i:Nat} {x:Str} {v:V} {u:Value} {Q:Unit → Shared → Prop} (I:Inv X pins σ H s) (hN:X.N.Nodup) (hi:X.N[i]? = some x) (hx:Loc X.env.scope x) (r:bI v u)
  (h:∀ s',Inv X pins (σ.set i (some v)) H s' → Q () s') (hf:X.fn x = true ∨ X.env.scope.names.lookup x = some .local:=by first | exact .inl rfl | exact .inr rfl | assumption):wpAny M A (storeName X.env x u) Q E s :=
 aHG I hN hi hx r (fun s' I' _=>h s' I') hf
theorem Inv.call' {s':Shared} {ch:List Addr} (I:Inv X pins σ H s) (ho:s'.os = s.os) (u:Un (frs X.stack) ch H H' s.heap s'.heap) (hok:HOk X.prog X.w H' s'.heap) (hg:AllBare s'.gens)
  (hch:∀ b ∈ ch,(b ∈ X.ex ∨ X.s₀.heap.objs.size ≤ b) ∧ b ≠ X.env.locals ∧ (∀ x c,X.env.cells.lookup x = some c → c ≠ b) ∧ ∀ p ∈ X.pn ++ pins,p.1 ≠ b):Inv X pins σ H' s':=by
 obtain ⟨h',g',d',t',o'⟩:=s'
 have e:o' = s.os:=ho
 subst e
 exact I.call (g':=g') (t':=t') (d':=d') u hok hg hch
end
abbrev XK:=Value → Option Addr → Hp → Prop
abbrev St:=List (Option V)
abbrev VK:=V → Hp → Prop
abbrev TE:=St → Hp → VK → Prop
abbrev TT:=St → Hp → (Bool → Hp → Prop) → Prop
abbrev TA:=St → Hp → (List V → Hp → Prop) → Prop
structure Ends where
 nx:St → Hp → Prop
 rt:VK
 bk:St → Hp → Prop:=fun _ _=>False
 ct:St → Hp → Prop:=fun _ _=>False
abbrev TS:=Ends → St → Hp → Prop
def EP (X:Cx) (pins:List (Addr × Obj)) (σ:St) (Q:VK) (u:Value) (s':Shared):Prop:=∃ v H',Inv X pins σ H' s' ∧ bI v u ∧ Q v H'
def TP (X:Cx) (pins:List (Addr × Obj)) (σ:St) (Q:Bool → Hp → Prop) (b:Bool) (s':Shared):Prop:=∃ H',Inv X pins σ H' s' ∧ Q b H'
def AP (X:Cx) (pins:List (Addr × Obj)) (σ:St) (Q:List V → Hp → Prop) (us:List Value) (s':Shared):Prop:=∃ vs H',Inv X pins σ H' s' ∧ bF vs us ∧ Q vs H'
def SP (X:Cx) (pins:List (Addr × Obj)) (D:Ends) (f:Flow) (s':Shared):Prop :=
 match f with
 | .next=>∃ σ' H',Inv X pins σ' H' s' ∧ D.nx σ' H'
 | .brk=>∃ σ' H',Inv X pins σ' H' s' ∧ D.bk σ' H'
 | .cont=>∃ σ' H',Inv X pins σ' H' s' ∧ D.ct σ' H'
 | .ret u=>∃ v σ' H',Inv X pins σ' H' s' ∧ bI v u ∧ D.rt v H'
def PE (X:Cx) (e:Expr) (t:TE):Prop :=
 ∀ (pins:List (Addr × Obj)) (s:Shared) (σ:St) (H:Hp) (Q:VK),Inv X pins σ H s → t σ H Q → wpAny (model X.prog X.w) X.A (eval e X.env) (EP X pins σ Q) X.xe s
def PT (X:Cx) (e:Expr) (t:TT):Prop :=
 ∀ (pins:List (Addr × Obj)) (s:Shared) (σ:St) (H:Hp) (Q:Bool → Hp → Prop),Inv X pins σ H s → t σ H Q → wpAny (model X.prog X.w) X.A (isTrue e X.env (eval e X.env)) (TP X pins σ Q) X.xe s
def PW (X:Cx) (e:Expr) (t:TT):Prop :=
 ∀ (whole:Sem Value) (pins:List (Addr × Obj)) (s:Shared) (σ:St) (H:Hp) (Q:Bool → Hp → Prop),Inv X pins σ H s → t σ H Q → wpAny (model X.prog X.w) X.A (isTrue e X.env whole) (TP X pins σ Q) X.xe s
theorem PW.pt {X:Cx} {e:Expr} {t:TT} (h:PW X e t):PT X e t:=h _
def PA (X:Cx) (es:List Expr) (t:TA):Prop :=
 ∀ (pos:Pos) (pins:List (Addr × Obj)) (s:Shared) (σ:St) (H:Hp) (Q:List V → Hp → Prop),Inv X pins σ H s → t σ H Q → wpAny (model X.prog X.w) X.A (spliced (backTo pos (At es X.env))) (AP X pins σ Q) X.xe s
def PS (X:Cx) (st:Stmt) (t:TS):Prop :=
 ∀ (pins:List (Addr × Obj)) (s:Shared) (σ:St) (H:Hp) (D:Ends),Inv X pins σ H s → t D σ H → wpAny (model X.prog X.w) X.A (exec st X.env) (SP X pins D) X.xe s
def PSs (X:Cx) (st:List Stmt) (t:TS):Prop :=
 ∀ (pins:List (Addr × Obj)) (s:Shared) (σ:St) (H:Hp) (D:Ends),Inv X pins σ H s → t D σ H → wpAny (model X.prog X.w) X.A (execs st X.env) (SP X pins D) X.xe s
theorem thn {α:Type} {t:Sem α} {Q Q':α → Shared → Prop} {M:Model} {A:Around} {E:Value → Shared → Prop} {s:Shared} (h:wpAny M A t Q E s) (hQ:∀ a s,Q a s → Q' a s):wpAny M A t Q' E s:=BL h hQ fun _ _ x=>x
end L2
namespace L2
open PySem PySem.Spec PyProof.Rows
section
variable {X:Cx}
def aNI (i:Nat):TE:=fun σ H Q=>∃ v,σ[i]? = some (some v) ∧ Q v H
def tC (v:V):TE:=fun _ H Q=>Q v H
theorem aQX {i:Nat} {x:Str} {pos:Pos} (hN:X.N[i]? = some x) (hv:Vis X.env.scope x) (hd:(x == ("__debug__":Str)) = false:=by decide) (hcd:(x == ("__classdict__":Str)) = false:=by decide):PE X (.Name x pos) (aNI i):=by
 intro pins s σ H Q I h
 obtain ⟨v,e,h⟩:=h
 obtain ⟨m,hn,hl⟩:=I.loc
 obtain ⟨u,r,l⟩:=hl i x v hN e hv
 have fin:EP X pins σ Q u s:=⟨v,H,I,r,h⟩
 rcases l with ⟨hk,hm⟩ | ⟨hk,c,hc,hcell⟩
 ·exact wpAny_Name (wpAny_loadName_local I.ok.kind hk hn hm fin) hd
 ·rcases hk with hk | hk
  ·exact wpAny_Name (wpAny_loadName_cell I.ok.kind hk hc hcell fin) hd
  ·exact wpAny_Name (wpAny_loadName_free I.ok.kind hk hc hcell fin hcd) hd
theorem aF {i j pos}:PE X (.Constant (.int i) j pos) (tC (.int i)):=fun _ _ _ H _ I h=>wpAny_Constant_int ⟨.int i,H,I.tok _,⟨_,rfl⟩,h⟩
theorem sG {b j pos}:PE X (.Constant (.bool b) j pos) (tC (.bl b)):=fun _ _ _ H _ I h=>Constant_bool ⟨.bl b,H,I,rfl,h⟩
theorem zT {j pos}:PE X (.Constant .none j pos) (tC .non):=fun _ _ _ H _ I h=>Constant_none ⟨.non,H,I,rfl,h⟩
theorem zS {x j pos}:PE X (.Constant (.str x) j pos) (tC (.str x)):=fun _ _ _ H _ I h=>Calls.Constant_str ⟨.str x,H,I.tok _,⟨_,rfl⟩,h⟩
def Gl (X:Cx) (x:Str):Prop:=X.env.kindOf x = some .globalImplicit
theorem aAF {E:Value → Shared → Prop} {pins:List (Addr × Obj)} {s:Shared} {σ:St} {H:Hp} {x:Str} {u:Value} {pos:Pos} {Q:Value → Shared → Prop} (I:Inv X pins σ H s) (hg:Gl X x) (hm:X.mg x = some u) (h:Q u s)
  (hd:(x == ("__debug__":Str)) = false:=by decide):wpAny (model X.prog X.w) X.A (eval (.Name x pos) X.env) Q E s :=
 Calls.Name_function_global I.ok.kind hg (Calls.loadGlobal_global (by rw [I.ok.glob];exact I.mod.glob.keeps I.bk) hm h) hd
theorem nB {E:Value → Shared → Prop} {pins:List (Addr × Obj)} {s:Shared} {σ:St} {H:Hp} {x:Str} {u:Value} {pos:Pos} {Q:Value → Shared → Prop} (I:Inv X pins σ H s) (hg:Gl X x) (hm:X.mg x = none) (hv:BP x = some u) (h:Q u s)
  (hn:x ≠ "__name__":=by decide) (hd:(x == ("__debug__":Str)) = false:=by decide):wpAny (model X.prog X.w) X.A (eval (.Name x pos) X.env) Q E s:=by
 obtain ⟨mb,h1,h2⟩:=I.mod.blt
 exact Calls.Name_function_global I.ok.kind hg (Calls.loadGlobal_builtin (by rw [I.ok.glob];exact I.mod.glob.keeps I.bk) hm (by rw [I.ok.blt];exact h1.keeps I.bk) ((h2 x hn).trans hv) h) hd
theorem aOE {x:Str} {v:V} {u:Value} {pos:Pos} (hg:Gl X x) (hm:X.mg x = some u) (r:bI v u) (hd:(x == ("__debug__":Str)) = false:=by decide):PE X (.Name x pos) (tC v) :=
 fun _ _ _ H _ I h=>aAF I hg hm ⟨v,H,I,r,h⟩ hd
theorem aOG {x:Str} {v:V} {u:Value} {pos:Pos} (hg:Gl X x) (hm:X.mg x = none) (hv:BP x = some u) (r:bI v u) (hn:x ≠ "__name__":=by decide) (hd:(x == ("__debug__":Str)) = false:=by decide):PE X (.Name x pos) (tC v) :=
 fun _ _ _ H _ I h=>nB I hg hm hv ⟨v,H,I,r,h⟩ hn hd
def t2I (ta tb:TE) (k:Int → Int → Hp → Prop):St → Hp → Prop:=fun σ H=>ta σ H fun x H1=>tb σ H1 fun y H2=>∃ i j,x = .int i ∧ y = .int j ∧ k i j H2
variable {a b:Expr} {ta tb:TE} {pos:Pos}
def PC (X:Cx) (op:CmpOp) (a b:Expr) (t:TE):Prop :=
 ∀ (pins:List (Addr × Obj)) (s:Shared) (σ:St) (H:Hp) (Q:VK),Inv X pins σ H s → t σ H Q →
  wpAny (model X.prog X.w) X.A (eval a X.env) (fun v s₁=>wpAny (model X.prog X.w) X.A (eval b X.env) (fun u s₂=>wpAny (model X.prog X.w) X.A (BV op v u) (EP X pins σ Q) X.xe s₂) X.xe s₁) X.xe s
def tCmp (p:Int → Int → Bool) (ta tb:TE):TE:=fun σ H Q=>t2I ta tb (fun i j H2=>Q (.bl (p i j)) H2) σ H
def tB (t:TE):TT:=fun σ H Q=>t σ H fun x H1=>∃ c,x = .bl c ∧ Q c H1
theorem uM {op:CmpOp} {t:TE} (h:PC X op a b t) (h1:Dq op b = false:=by first | exact nobehind _ (by decide) (by decide) | rfl):PT X (.Compare a [op] [b] pos) (tB t):=by
 intro pins s σ H Q I hw
 refine wpAny_isTrue_Compare1 (thn (h pins s σ H _ I hw) fun v s1 h1=>thn h1 fun u s2 h2=>thn h2 fun c s3 ⟨x,H1,I1,r1,q1⟩=>?_) h1
 obtain ⟨d,rfl,q⟩:=q1
 cases r1
 exact Bk ⟨H1,I1,q⟩
theorem dG {e:Expr} {t:TE} (h:PE X e t) (he:∀ whole,isTrue e X.env whole = (do let v ← whole;standAt e.pos;holding [v] (truthy v)):=by intro _;rfl):PT X e (tB t):=by
 intro pins s σ H Q I hw
 refine isTrue_plain (thn (h pins s σ H _ I hw) fun v s1 ⟨x,H1,I1,r1,q1⟩=>?_) (he _)
 obtain ⟨d,rfl,q⟩:=q1
 cases r1
 exact Bk ⟨H1,I1,q⟩
variable {tA tB':TT} {rest:List Expr}
def aUI (t u:TT):TT:=fun σ H Q=>t σ H fun c H1=>if c = true then u σ H1 Q else Q false H1
def tOr (t u:TT):TT:=fun σ H Q=>t σ H fun c H1=>if c = true then Q true H1 else u σ H1 Q
def aUC (t:TT):TT:=fun σ H Q=>t σ H fun c H1=>Q (!c) H1
theorem zN (ha:PT X a tA):PW X (.BoolOp .And [a] pos) tA:=by
 intro wh pins s σ H Q I h
 refine isTrue_and (thn (ha pins s σ H Q I h) fun c s1 e=>?_)
 cases c with
 | true=>exact isTrue_and_nil e
 | false=>exact e
theorem kE (ha:PT X a tA):PW X (.BoolOp .Or [a] pos) tA:=by
 intro wh pins s σ H Q I h
 refine isTrue_or (thn (ha pins s σ H Q I h) fun c s1 e=>?_)
 cases c with
 | false=>exact isTrue_or_nil e
 | true=>exact e
theorem aEA (ha:PT X a tA) (hb:PW X (.BoolOp .And (b :: rest) pos) tB'):PW X (.BoolOp .And (a :: b :: rest) pos) (aUI tA tB'):=by
 intro wh pins s σ H Q I h
 refine isTrue_and (thn (ha pins s σ H _ I h) fun c s1 ⟨H1,I1,q1⟩=>?_)
 cases c with
 | true=>exact hb wh pins s1 σ H1 Q I1 q1
 | false=>exact ⟨H1,I1,q1⟩
theorem kU (ha:PT X a tA) (hb:PW X (.BoolOp .Or (b :: rest) pos) tB'):PW X (.BoolOp .Or (a :: b :: rest) pos) (tOr tA tB'):=by
 intro wh pins s σ H Q I h
 refine isTrue_or (thn (ha pins s σ H _ I h) fun c s1 ⟨H1,I1,q1⟩=>?_)
 cases c with
 | true=>exact ⟨H1,I1,q1⟩
 | false=>exact hb wh pins s1 σ H1 Q I1 q1
theorem dJ (ha:PT X a tA):PT X (.UnaryOp .Not a pos) (aUC tA):=by
 intro pins s σ H Q I h
 exact isTrue_not (ha pins s σ H (fun c H1=>Q (!c) H1) I h)
def aSM (ta tb:TE):TE:=fun σ H Q=>ta σ H fun x H1=>∃ c,x = .bl c ∧ if c = true then tb σ H1 Q else Q (.bl false) H1
def aUB (ta tb:TE):TE:=fun σ H Q=>ta σ H fun x H1=>∃ c,x = .bl c ∧ if c = true then Q (.bl true) H1 else tb σ H1 Q
def aSF (ta:TE):TE:=fun σ H Q=>ta σ H fun x H1=>∃ c,x = .bl c ∧ Q (.bl (!c)) H1
theorem eA {op} {t:TE} (h:PE X a t):PE X (.BoolOp op [a] pos) t:=fun pins s σ H Q I hw=>BoolOp_one (h pins s σ H Q I hw)
theorem cZ (ha:PE X a ta) (hb:PE X (.BoolOp .And (b :: rest) pos) tb):PE X (.BoolOp .And (a :: b :: rest) pos) (aSM ta tb):=by
 intro pins s σ H Q I h
 refine BoolOp_and (thn (ha pins s σ H _ I h) fun v s1 ⟨x,H1,I1,r1,q1⟩=>?_)
 obtain ⟨c,rfl,q1⟩:=q1
 cases r1
 refine Bk ?_
 cases c with
 | true=>exact hb pins s1 σ H1 Q I1 q1
 | false=>exact ⟨.bl false,H1,I1,rfl,q1⟩
theorem aPX (ha:PE X a ta) (hb:PE X (.BoolOp .Or (b :: rest) pos) tb):PE X (.BoolOp .Or (a :: b :: rest) pos) (aUB ta tb):=by
 intro pins s σ H Q I h
 refine BoolOp_or (thn (ha pins s σ H _ I h) fun v s1 ⟨x,H1,I1,r1,q1⟩=>?_)
 obtain ⟨c,rfl,q1⟩:=q1
 cases r1
 refine Bk ?_
 cases c with
 | false=>exact hb pins s1 σ H1 Q I1 q1
 | true=>exact ⟨.bl true,H1,I1,rfl,q1⟩
theorem aKV (ha:PE X a ta):PE X (.UnaryOp .Not a pos) (aSF ta):=by
 intro pins s σ H Q I h
 refine UnaryOp_ (thn (ha pins s σ H _ I h) fun v s1 ⟨x,H1,I1,r1,q1⟩=>?_)
 obtain ⟨c,rfl,q1⟩:=q1
 cases r1
 exact not_of (Bk ⟨.bl (!c),H1,I1,rfl,q1⟩)
def tIf (t:TT) (ta tb:TE):TE:=fun σ H Q=>t σ H fun c H1=>if c = true then ta σ H1 Q else tb σ H1 Q
theorem aKY {c:Expr} (hc:PT X c tA) (ha:PE X a ta) (hb:PE X b tb):PE X (.IfExp c a b pos) (tIf tA ta tb):=by
 intro pins s σ H Q I h
 refine wpAny_IfExp (thn (hc pins s σ H _ I h) fun d s1 ⟨H1,I1,q1⟩=>?_)
 cases d with
 | true=>exact ha pins s1 σ H1 Q I1 q1
 | false=>exact hb pins s1 σ H1 Q I1 q1
end
end L2
namespace L2
open PySem PySem.Spec PyProof.Rows
def SqL (K:AG) (H:Hp) (a:Addr) (xs:List V):Prop :=
 Rd H a (.lst xs) ∨
  ∃ (o:Obj) (its:Array Value) (n:Nat),K.lookup a = some o ∧ o.cls = .type "list" ∧ o.dict = none ∧ o.data = .seq its n ∧ its.size ≤ Aq ∧ bF xs its.toList
def SqT (K:AG) (H:Hp) (a:Addr) (xs:List V):Prop :=
 Rd H a (.tup xs) ∨
  ∃ (o:Obj) (its:Array Value) (n:Nat),K.lookup a = some o ∧ o.cls = .type "tuple" ∧ o.data = .seq its n ∧ its.size ≤ Aq ∧ bF xs its.toList
def aVA:Value → Option V
 | .none=>some .non
 | .bool b=>some (.bl b)
 | .int i _=>some (.int i)
 | .str x _=>some (.str x)
 | .bytes b _=>some (.byt b)
 | .float b _=>some (.flt b)
 | .ref a=>some (.ref a)
 | .type n=>some (.ty n)
 | _=>none
theorem bI.abs {x:V} {u:Value} (r:bI x u):aVA u = some x:=by
 cases x with
 | non=>cases r;rfl
 | bl _=>cases r;rfl
 | int _=>obtain ⟨t,rfl⟩:=r;rfl
 | str _=>obtain ⟨t,rfl⟩:=r;rfl
 | byt _=>obtain ⟨t,rfl⟩:=r;rfl
 | flt _=>obtain ⟨t,rfl⟩:=r;rfl
 | ref _=>cases r;rfl
 | ty _=>cases r;rfl
theorem bI.inj {x y:V} {u:Value} (r:bI x u) (q:bI y u):x = y:=Ax (r.abs.symm.trans q.abs)
theorem bF.inj:∀ {xs ys:List V} {us:List Value},bF xs us → bF ys us → xs = ys
 | _,_,_,.nil,.nil=>rfl
 | _,_,_,.cons r t,.cons r' t'=>by rw [r.inj r',bF.inj t t']
section
variable {X:Cx} {pins:List (Addr × Obj)} {σ:St} {H:Hp} {s:Shared} {a:Addr} {xs ys:List V}
theorem SqL.of {K:AG} (h:H a = some (.lst xs)):SqL K H a xs:=.inl (.inl h)
theorem SqT.of {K:AG} (h:H a = some (.tup xs)):SqT K H a xs:=.inl (.inl h)
theorem Inv.list (I:Inv X pins σ H s) (h:SqL X.K H a xs):∃ its:List Value,bF xs its ∧ PlainL s.heap a its.toArray ∧ xs.length ≤ Aq:=by
 rcases h with h | ⟨o,its,n,hk,hc,hd,hs,hz,r⟩
 ·obtain ⟨z,its,n,r,e⟩:=h.ok I.hok
  exact ⟨its,r,⟨_,n,e,rfl,rfl,rfl⟩,z⟩
 ·refine ⟨its.toList,r,⟨o,n,I.kIn a o hk,hc,hd,by simpa using hs⟩,?_⟩
  have e:=r.length
  simp only [Ba] at e
  omega
theorem Inv.tuple (I:Inv X pins σ H s) (h:SqT X.K H a xs):∃ its:List Value,bF xs its ∧ IsTup s.heap a its.toArray ∧ xs.length ≤ Aq:=by
 rcases h with h | ⟨o,its,n,hk,hc,hs,hz,r⟩
 ·obtain ⟨z,its,r,p⟩:=h.ok I.hok
  exact ⟨its,r,p.tup,z⟩
 ·refine ⟨its.toList,r,⟨o,I.kIn a o hk,hc,n,by simpa using hs⟩,?_⟩
  have e:=r.length
  simp only [Ba] at e
  omega
theorem Inv.list_inj (I:Inv X pins σ H s) (h:SqL X.K H a xs) (h':SqL X.K H a ys):xs = ys:=by
 obtain ⟨its,r,⟨o,n,e,_,_,d⟩,_⟩:=I.list h
 obtain ⟨its',r',⟨o',n',e',_,_,d'⟩,_⟩:=I.list h'
 rw [e] at e';cases e'
 rw [d] at d'
 injection d' with d1 _
 have:its = its':=by simpa using congrArg Array.toList d1
 subst this
 exact r.inj r'
end
abbrev Cx.wish (X:Cx) (E:Value → Shared → Prop):Cx:={ X with xe:=E }
abbrev Cx.nox (X:Cx):Cx:=X.wish fun _ _=>False
theorem Cx.Ok.wish {X:Cx} (ok:X.Ok) (E:Value → Shared → Prop):(X.wish E).Ok :=
 ⟨ok.mod,ok.kind,ok.glob,ok.blt,ok.above,ok.inj,ok.has,ok.cab,ok.hd,ok.frames,ok.stk,ok.exf,ok.bs,ok.bsz,ok.noex,ok.exfs,ok.funs,ok.frf⟩
theorem Cx.Ok.unwish {X:Cx} {E:Value → Shared → Prop} (ok:(X.wish E).Ok):X.Ok :=
 ⟨ok.mod,ok.kind,ok.glob,ok.blt,ok.above,ok.inj,ok.has,ok.cab,ok.hd,ok.frames,ok.stk,ok.exf,ok.bs,ok.bsz,ok.noex,ok.exfs,ok.funs,ok.frf⟩
section
variable {X:Cx} {pins:List (Addr × Obj)} {σ:St} {H:Hp} {s:Shared} {E:Value → Shared → Prop}
theorem Inv.wish (I:Inv X pins σ H s) (E:Value → Shared → Prop):Inv (X.wish E) pins σ H s:=⟨I.ok.wish E,I.os,I.bare,I.base,I.loc,I.cell,I.free,I.freeC,I.pin,I.hok,I.len⟩
theorem Inv.unwish (I:Inv (X.wish E) pins σ H s):Inv X pins σ H s:=⟨I.ok.unwish,I.os,I.bare,I.base,I.loc,I.cell,I.free,I.freeC,I.pin,I.hok,I.len⟩
theorem SP.unwish {D:Ends} {f:Flow} {s':Shared} (h:SP (X.wish E) pins D f s'):SP X pins D f s':=by
 cases f with
 | next=>obtain ⟨σ',H',I,q⟩:=h;exact ⟨σ',H',I.unwish,q⟩
 | brk=>obtain ⟨σ',H',I,q⟩:=h;exact ⟨σ',H',I.unwish,q⟩
 | cont=>obtain ⟨σ',H',I,q⟩:=h;exact ⟨σ',H',I.unwish,q⟩
 | ret u=>obtain ⟨v,σ',H',I,r,q⟩:=h;exact ⟨v,σ',H',I.unwish,r,q⟩
theorem PSs.nox {st:List Stmt} {t:TS} (h:PSs X.nox st t):PSs X st t:=fun pins s σ H D I hw =>
 BL (h pins s σ H D (I.wish _) hw) (fun _ _ q=>q.unwish) fun _ _ z=>BT z
end
section
variable {X:Cx} {st:Stmt} {rest:List Stmt} {t u:TS} {e:Expr} {te:TE} {pos:Pos}
def aSG:TS:=fun D σ H=>D.nx σ H
def tY (t u:TS):TS:=fun D σ H=>t { D with nx:=u D } σ H
theorem cG:PSs X [] aSG:=fun _ _ σ H _ I h=>EG ⟨σ,H,I,h⟩
theorem aG (h1:PS X st t) (h2:PSs X rest u):PSs X (st :: rest) (tY t u):=by
 intro pins s σ H D I h
 refine wpAny_execs_cons (thn (h1 pins s σ H { D with nx:=u D } I h) fun f s1 q=>?_)
 cases f with
 | next =>
  obtain ⟨σ',H',I',q⟩:=q
  exact h2 pins s1 σ' H' D I' q
 | ret v=>exact q
 | brk=>exact q
 | cont=>exact q
theorem aH (h1:PS X st t):PSs X [st] t:=by
 intro pins s σ H D I h
 refine wpAny_execs_cons (thn (h1 pins s σ H D I h) fun f s1 q=>?_)
 cases f with
 | next=>exact EG q
 | ret v=>exact q
 | brk=>exact q
 | cont=>exact q
theorem Inv.quiet {pins:List (Addr × Obj)} {σ:St} {H:Hp} {s:Shared} (I:Inv X pins σ H s):interactive X.env = false:=by simp [interactive,I.ok.kind]
def aSJ (te:TE):TS:=fun D σ H=>te σ H fun _ H1=>D.nx σ H1
theorem fD (he:PE X e te) (hs:swapsWith e none pos.line X.env = pure false:=by rfl):PS X (.Expr e pos) (aSJ te):=by
 intro pins s σ H D I h
 exact wpAny_Expr_any (thn (he pins s σ H _ I h) fun v s1 ⟨x,H1,I1,r1,q1⟩=>⟨σ,H1,I1,q1⟩) I.quiet hs
def aTZ (te:TE):TS:=fun D σ H=>te σ H D.rt
theorem aT (he:PE X e te):PS X (.Return (some e) pos) (aTZ te):=by
 intro pins s σ H D I h
 exact wpAny_Return_some (thn (he pins s σ H _ I h) fun v s1 ⟨x,H1,I1,r1,q1⟩=>⟨x,σ,H1,I1,r1,q1⟩)
def aQK (c:TT) (t u:TS):TS:=fun D σ H=>c σ H fun b H1=>if b = true then t D σ H1 else u D σ H1
theorem fE {c:Expr} {a b:List Stmt} {tc:TT} (hc:PT X c tc) (ha:PSs X a t) (hb:PSs X b u):PS X (.If c a b pos) (aQK tc t u):=by
 intro pins s σ H D I h
 refine wpAny_If (thn (hc pins s σ H _ I h) fun d s1 ⟨H1,I1,q1⟩=>?_)
 cases d with
 | true=>exact ha pins s1 σ H1 D I1 q1
 | false=>exact hb pins s1 σ H1 D I1 q1
def aQJ:TS:=fun _ _ _=>False
theorem kW:PS X st aQJ:=fun _ _ _ _ _ _ h=>h.elim
end
abbrev TG:=V → St → Hp → (St → Hp → Prop) → Prop
abbrev TGs:=List V → St → Hp → (St → Hp → Prop) → Prop
def PG (X:Cx) (target:Expr) (t:TG):Prop :=
 ∀ (pins:List (Addr × Obj)) (s:Shared) (σ:St) (H:Hp) (v:V) (u:Value) (Q:St → Hp → Prop),Inv X pins σ H s → bI v u → t v σ H Q →
  wpAny (model X.prog X.w) X.A (assign target X.env u) (fun _ s'=>∃ σ' H',Inv X pins σ' H' s' ∧ Q σ' H') X.xe s
def PGs (X:Cx) (ts:List Expr) (t:TGs):Prop :=
 ∀ (pins:List (Addr × Obj)) (s:Shared) (σ:St) (H:Hp) (vs:List V) (us:List Value) (Q:St → Hp → Prop),Inv X pins σ H s → bF vs us → t vs σ H Q →
  wpAny (model X.prog X.w) X.A (assignInOrder ((Dj ts X.env).map (·.2)) us) (fun _ s'=>∃ σ' H',Inv X pins σ' H' s' ∧ Q σ' H') X.xe s
abbrev TSet:=V → V → V → Hp → (Hp → Prop) → Prop
abbrev TIp:=V → V → Hp → VK → Prop
def PIp (X:Cx) (op:Operator) (t:TIp):Prop :=
 ∀ (pins:List (Addr × Obj)) (s:Shared) (σ:St) (H:Hp) (x y:V) (v u:Value) (Q:VK),Inv X pins σ H s → bI x v → bI y u → t x y H Q →
  wpAny (model X.prog X.w) X.A (inplaceOp op v u) (EP X pins σ Q) X.xe s
section
variable {X:Cx} {pos:Pos}
def sM (i:Nat):TG:=fun v σ H Q=>Q (σ.set i (some v)) H
theorem aW {i:Nat} {x:Str} (hN:X.N.Nodup) (hi:X.N[i]? = some x) (hx:Loc X.env.scope x) (hf:X.fn x = true ∨ X.env.scope.names.lookup x = some .local:=by first | exact .inl rfl | exact .inr rfl | assumption):PG X (.Name x pos) (sM i):=by
 intro pins s σ H v u Q I r h
 exact wpAny_assign_Name (mI I hN hi hx r (fun s' I'=>⟨_,H,I',h⟩) hf)
def aTR:TGs:=fun vs σ H Q=>vs = [] ∧ Q σ H
def aPY (t:TG) (u:TGs):TGs:=fun vs σ H Q=>∃ v r,vs = v :: r ∧ t v σ H fun σ' H'=>u r σ' H' Q
theorem aGG:PGs X [] aTR:=by
 intro pins s σ H vs us Q I r h
 obtain ⟨e,h⟩:=h
 subst e
 cases r
 exact assignInOrder_nil ⟨σ,H,I,h⟩
theorem pQ {e:Expr} {es:List Expr} {t:TG} {u:TGs} (h1:PG X e t) (h2:PGs X es u)
  (hs:(Dj (e :: es) X.env).map (·.2) = assign e X.env :: (Dj es X.env).map (·.2):=by rfl):PGs X (e :: es) (aPY t u):=by
 intro pins s σ H vs us Q I r h
 obtain ⟨v,vr,e1,h⟩:=h
 subst e1
 cases r with
 | cons r rr =>
  rw [hs]
  refine El (thn (h1 pins s σ H _ _ _ I r h) fun _ s1 ⟨σ1,H1,I1,q1⟩=>?_)
  exact h2 pins s1 σ1 H1 _ _ Q I1 rr q1
def aRR (K:AG) (n:Nat) (t:TGs):TG:=fun v σ H Q=>∃ a xs,v = .ref a ∧ SqT K H a xs ∧ xs.length = n ∧ t xs σ H Q
theorem aQW {es:List Expr} {k:Nat} {t:TGs} {n:Nat} (hc:X.calm = true) (h:PGs X es t)
  (hn:(Dj es X.env).length = n:=by rfl) (hst:(Dj es X.env).findIdx? (·.1) = none:=by rfl):PG X (.Tuple es k pos) (aRR X.K n t):=by
 intro pins s σ H v u Q I r hw
 obtain ⟨a,xs,e1,hq,hl,hw⟩:=hw
 subst e1
 cases r
 obtain ⟨its,rv,ht,hz⟩:=I.tuple hq
 refine assign_Tuple_tuple (I.ok.hd hc) ht (by simp [hn,← hl,rv.length]) hst fun h' hx=>?_
 have I1:Inv X pins σ H { s with heap:=h' }:=I.kept (t':=s.toks) fun b o e=>hx b o (Af (Aa e)) e
 exact h pins _ σ H xs _ Q I1 (by simpa using rv) hw
def aSL (te:TE) (g:TG):TS:=fun D σ H=>te σ H fun x H1=>g x σ H1 D.nx
theorem aU {i:Nat} {x:Str} {e:Expr} {te:TE} {pos':Pos} (hN:X.N.Nodup) (hi:X.N[i]? = some x) (hx:Loc X.env.scope x) (he:PE X e te) (hs:swapsWith e (some (.Name x pos')) pos.line X.env = pure false:=by rfl) (hf:X.fn x = true ∨ X.env.scope.names.lookup x = some .local:=by first | exact .inl rfl | exact .inr rfl | assumption) :
  PS X (.Assign [.Name x pos'] e pos) (aSL te (sM i)):=by
 intro pins s σ H D I h
 refine wpAny_Assign_Name (thn (he pins s σ H _ I h) fun v s1 ⟨y,H1,I1,r1,q1⟩=>?_) hs
 exact mI I1 hN hi hx r1 (fun s2 I2=>⟨_,H1,I2,q1⟩) hf
def aUA (i j:Nat) (ta:TA):TS:=fun D σ H=>ta σ H fun vs H1=>∃ v w,vs = [v,w] ∧ D.nx ((σ.set i (some v)).set j (some w)) H1
theorem aQT {i j:Nat} {x y:Str} {a b:Expr} {ta:TA} {px py pt:Pos} {kt k2 pt2} (hc:X.calm = true) (hN:X.N.Nodup) (hi:X.N[i]? = some x) (hj:X.N[j]? = some y) (hij:i ≠ j)
  (hx:X.env.scope.names.lookup x = some .local) (hy:X.env.scope.names.lookup y = some .local) (ha:PA X [a,b] ta)
  (hw:swappedStores [.Tuple [.Name x px,.Name y py] kt pt] (.Tuple [a,b] k2 pt2) X.env = pure (some [x,y]))
  (hs:swapsWithSole [.Tuple [.Name x px,.Name y py] kt pt] (.Tuple [a,b] k2 pt2) pos.line X.env = pure false:=by rfl) :
  PS X (.Assign [.Tuple [.Name x px,.Name y py] kt pt] (.Tuple [a,b] k2 pt2) pos) (aUA i j ta):=by
 intro pins s σ H D I h
 rw [exec_Assign_arm]
 refine AD (Eg ?_)
 rw [hs]
 refine AD (AZ ?_)
 rw [if_neg (by decide)]
 refine AD (Tuple_ (thn (ha _ pins s σ H _ I h) fun us s1 ⟨vs,H1,I1,r1,q1⟩=>?_))
 obtain ⟨v,w,e1,q1⟩:=q1
 subst e1
 obtain ⟨u1,u2,rfl,rv,rw'⟩:∃ u1 u2,us = [u1,u2] ∧ bI v u1 ∧ bI w u2:=by
  cases r1 with
  | cons p q =>
   cases q with
   | cons p' q' =>
    cases q'
    exact ⟨_,_,rfl,p,p'⟩
 refine DI ?_ (by show 2 ≤ Aq;decide)
 have I2:Inv X pins σ H1 { s1 with heap:=s1.heap.push { cls:=.type "tuple",data:=.seq [u1,u2].toArray } }:=I1.kept (t':=s1.toks) fun b o e=>AE _ e
 rw [hw]
 refine AD (AZ ?_)
 show wpAny (model X.prog X.w) X.A (do rule "assign.swapped-stores";let items ← unpackItems (.ref s1.heap.objs.size) 2 none;assignInOrder [fun v=>bindName X.env y v,fun v=>bindName X.env x v] items.reverse;pure Flow.next) _ _ _
 refine AD (Ej (AD (unpackItems_tuple (items:=#[u1,u2]) (I.ok.hd hc) (IsTup.new s1.heap _) fun h' hx'=>?_)))
 have I3:=I2.kept (h':=h') (t':=s1.toks) fun b o e=>hx' b o (Af (Aa e)) e
 show wpAny _ _ (assignInOrder [fun v=>bindName X.env y v,fun v=>bindName X.env x v] [u2,u1] >>= fun _=>pure Flow.next) _ _ _
 refine AD (El (wpAny_bindName (mI I3 hN hj (.inl hy) rw' (fun s2 I4=>?_) (.inr hy))))
 refine El (wpAny_bindName (mI I4 hN hi (.inl hx) rv (fun s3 I5=>assignInOrder_nil (AZ ?_)) (.inr hx)))
 rw [List.set_comm _ _ (Ne.symm hij)] at I5
 exact ⟨_,H1,I5,q1⟩
def aUH (i:Nat) (te:TE) (ti:TIp):TS:=fun D σ H=>∃ x,σ[i]? = some (some x) ∧ te σ H fun y H1=>ti x y H1 fun z H2=>D.nx (σ.set i (some z)) H2
theorem aKQ {i:Nat} {x:Str} {e:Expr} {te:TE} {op:Operator} {ti:TIp} {pos':Pos} (hN:X.N.Nodup) (hi:X.N[i]? = some x) (hx:Loc X.env.scope x) (he:PE X e te) (ho:PIp X op ti) (hf:X.fn x = true ∨ X.env.scope.names.lookup x = some .local:=by first | exact .inl rfl | exact .inr rfl | assumption) :
  PS X (.AugAssign (.Name x pos') op e pos) (aUH i te ti):=by
 intro pins s σ H D I h
 obtain ⟨v,e1,h⟩:=h
 obtain ⟨m,hn,hl⟩:=I.loc
 have vis:Vis X.env.scope x:=by rcases hx with k | k;exact .inl k;exact .inr (.inl k)
 obtain ⟨u,r,l⟩:=hl i x v hi e1 vis
 refine wpAny_AugAssign_Name ?_
 have go:wpAny (model X.prog X.w) X.A (eval e X.env) (fun w s₂=>wpAny (model X.prog X.w) X.A (inplaceOp op u w) (fun r s₃=>wpAny (model X.prog X.w) X.A (storeName X.env x r) (fun _=>SP X pins D .next) X.xe s₃) X.xe s₂) X.xe s:=by
  refine thn (he pins s σ H _ I h) fun w s1 ⟨y,H1,I1,r1,q1⟩=>?_
  refine thn (ho pins s1 σ H1 v y u w _ I1 r r1 q1) fun z s2 ⟨zv,H2,I2,r2,q2⟩=>?_
  exact mI I2 hN hi hx r2 (fun s3 I3=>⟨_,H2,I3,q2⟩) hf
 rcases l with ⟨hk,hm⟩ | ⟨hk,c,hc,hcell⟩
 ·exact wpAny_loadName_local I.ok.kind hk hn hm go
 ·rcases hk with hk | hk
  ·exact wpAny_loadName_cell I.ok.kind hk hc hcell go
  ·rcases hx with k | k
   ·have:X.env.scope.names.lookup x = some .free:=hk
    rw [k] at this;cases this
   ·have:X.env.scope.names.lookup x = some .free:=hk
    rw [k] at this;cases this
def ipI (f:Int → Int → Int):TIp:=fun x y H Q=>∃ i j,x = .int i ∧ y = .int j ∧ Q (.int (f i j)) H
theorem aRO:PIp X .Add (ipI fun i j=>i + j):=by
 intro pins s σ H x y v u Q I r1 r2 h
 obtain ⟨i,j,e1,e2,q⟩:=h
 subst e1;subst e2
 obtain ⟨t,rfl⟩:=r1
 obtain ⟨t',rfl⟩:=r2
 exact iadd_int ⟨.int _,H,I.tok _,⟨_,rfl⟩,q⟩
end
section
variable {X:Cx} {pos:Pos}
def aJJ (c:TT) (tb:TS):TS:=fun D σ H=>∃ W:Nat → St → Hp → Prop,(∃ m,W m σ H) ∧ ∀ m σ H,W m σ H →
 c σ H fun b H1=>if b = true then ∃ N:St → Hp → Prop,(∀ σ' H',N σ' H' → ∃ m',m' < m ∧ W m' σ' H') ∧ tb { D with nx:=N,ct:=N,bk:=D.nx } σ H1 else D.nx σ H1
theorem mP {c:Expr} {body:List Stmt} {tc:TT} {tb:TS} (hp:Bd (model X.prog X.w) X.A X.env X.xe) (hc:PT X c tc) (hb:PSs X body tb):PS X (.While c body [] pos) (aJJ tc tb):=by
 intro pins s σ H D I h
 obtain ⟨W,⟨m0,w0⟩,turn⟩:=h
 refine wpAny_While (codeAny_whileLoop (fun n s'=>∃ σ' H',Inv X pins σ' H' s' ∧ W n σ' H') ?_ m0 ⟨σ,H,I,w0⟩)
 rintro n s1 ⟨σ1,H1,I1,w1⟩
 refine Cj hp (thn (hc pins s1 σ1 H1 _ I1 (turn n σ1 H1 w1)) fun b s2 ⟨H2,I2,q2⟩=>?_)
 cases b with
 | true =>
  obtain ⟨N,hN,q2⟩:=q2
  rw [if_pos rfl]
  refine Cj hp (thn (hb pins s2 σ1 H2 _ I2 q2) fun f s3 q3=>?_)
  cases f with
  | next =>
   obtain ⟨σ3,H3,I3,n3⟩:=q3
   obtain ⟨m',hm,w3⟩:=hN σ3 H3 n3
   exact ⟨m',hm,σ3,H3,I3,w3⟩
  | cont =>
   obtain ⟨σ3,H3,I3,n3⟩:=q3
   obtain ⟨m',hm,w3⟩:=hN σ3 H3 n3
   exact ⟨m',hm,σ3,H3,I3,w3⟩
  | brk=>exact q3
  | ret v=>exact q3
 | false =>
  rw [if_neg Ad]
  exact EG ⟨σ1,H2,I2,q2⟩
end
structure It where
 go:Nat → Hp → Prop
 yld:Nat → Hp → V → Hp → Prop
 stop:Nat → Hp → Prop
def aAU (X:Cx) (pins:List (Addr × Obj)) (H:Hp) (b:Addr):Prop :=
 H b = none ∧ b ≠ X.env.locals ∧ b ∉ X.fs ∧ (b ∈ X.ex ∨ X.s₀.heap.objs.size ≤ b) ∧ (∀ x c,X.env.cells.lookup x = some c → c ≠ b) ∧ ∀ p ∈ X.pn ++ pins,p.1 ≠ b
theorem Inv.fpOk {X:Cx} {pins:List (Addr × Obj)} {σ:St} {H H':Hp} {s:Shared} {b:Addr} (I:Inv X pins σ H s) (hb:s.heap.objs.size ≤ b) (hn:H' b = none):aAU X pins H' b:=by
 refine ⟨hn,DS (Ag I.lt hb),I.nofs hb,.inr (BG I.sz hb),fun x c e z=>?_,fun p hp z=>?_⟩
 ·obtain ⟨v,q⟩:=I.cell x c e
  exact absurd (Ag q.lt (by rw [z];exact hb)) (Ch _)
 ·exact absurd (Ag (Aa (I.pin p hp).1) (by rw [z];exact hb)) (Ch _)
structure Turn (P:Program) (w:World) (K:AG) (tg:Expr) (J:It) (fp:List Addr) (it:Addr) (tn:Nat → Heap → Prop):Prop where
 mem:it ∈ fp
 obj:∀ i h,tn i h → ∀ b ∈ fp,∃ o,h.get? b = some o ∧ ∀ v,o.data ≠ .cell v
 keep:∀ i h h',tn i h → (∀ b ∈ fp,∀ o,h.get? b = some o → h'.get? b = some o) → tn i h'
 item:∀ (X:Cx),X.prog = P → X.w = w → X.K = K → X.calm = true → ∀ (i:Nat) (pins:List (Addr × Obj)) (s:Shared) (σ:St) (H:Hp) (E:Value → Shared → Prop),Inv X pins σ H s → (∀ b ∈ fp,aAU X pins H b) → tn i s.heap → J.go i H →
  wpAny (model P w) X.A (pyNext (.ref it)) (fun r s1=>∃ u,r = some u ∧
   wpAny (model P w) X.A (EI tg (.ref it) u) (fun _ s2=>∃ x H',Inv X pins σ H' s2 ∧ bI x u ∧ J.yld i H x H' ∧ tn (i + 1) s2.heap ∧ ∀ b ∈ fp,H' b = none) E s1) E s
 done:∀ (X:Cx),X.prog = P → X.w = w → X.K = K → X.calm = true → ∀ (i:Nat) (pins:List (Addr × Obj)) (s:Shared) (σ:St) (H:Hp) (E:Value → Shared → Prop),Inv X pins σ H s → (∀ b ∈ fp,aAU X pins H b) → tn i s.heap → J.stop i H →
  wpAny (model P w) X.A (pyNext (.ref it)) (fun r s1=>r = none ∧ Inv X pins σ H s1) E s
 self:∀ (A:Around) (i:Nat) (s:Shared) (Q:Value → Shared → Prop) (E:Value → Shared → Prop),tn i s.heap → Q (.ref it) s → wpAny (model P w) A (pyIter (.ref it)) Q E s
abbrev TI:=St → Hp → (It → Hp → Prop) → Prop
def PIE (X:Cx) (pins:List (Addr × Obj)) (σ:St) (tg:Expr) (R:It → Hp → Prop) (itv:Value) (s2:Shared):Prop :=
 ∃ (it:Addr) (fp:List Addr) (tn:Nat → Heap → Prop) (J:It) (H':Hp),itv = .ref it ∧ Inv X pins σ H' s2 ∧ Turn X.prog X.w X.K tg J fp it tn ∧ tn 0 s2.heap ∧ (∀ b ∈ fp,aAU X pins H' b) ∧ R J H'
def PI (X:Cx) (tg iter:Expr) (wi:TI):Prop :=
 ∀ (pins:List (Addr × Obj)) (s:Shared) (σ:St) (H:Hp) (R:It → Hp → Prop),Inv X pins σ H s → wi σ H R →
  wpAny (model X.prog X.w) X.A (eval iter X.env) (fun v s1=>wpAny (model X.prog X.w) X.A (pyIter v) (PIE X pins σ tg R) X.xe s1) X.xe s
theorem aCS {M:Model} {A:Around} {E:Value → Shared → Prop} {s:Shared} {tg:Expr} {it:Addr} {u:Value} {o:Obj} {n:String} {vs:Array Value} {Q:Unit → Shared → Prop} (ho:s.heap.get? it = some o) (hc:o.cls = .type n) (hd:o.data = .fields vs)
    (hn:["enumerate","zip","dict_itemiterator","dict_reverseitemiterator","odict_iterator","itertools.zip_longest","itertools.pairwise"].contains n = false) (hQ:Q () s):wpAny M A (EI tg (.ref it) u) Q E s:=by
  unfold EI
  cases tg <;> first
    | exact AZ hQ
    | (cases u <;> first
        | exact AZ hQ
        | (refine AD (wpAny_load ho ?_)
           rw [hc,hd]
           show wpAny M A (if (["enumerate","zip","dict_itemiterator","dict_reverseitemiterator","odict_iterator","itertools.zip_longest","itertools.pairwise"].contains n && vs[0]? == some (rawInt _)) = true then _ else _) Q E s
           rw [if_neg (by intro h;rw [hn,ED] at h;cases h)]
           exact AZ hQ))
def Itl (K:AG) (a:Addr):It :=
 ⟨fun i H=>∃ xs x,SqL K H a xs ∧ xs[i]? = some x,fun i H x H'=>H' = H ∧ ∀ xs,SqL K H a xs → xs[i]? = some x,fun i H=>∃ xs,SqL K H a xs ∧ xs.length ≤ i⟩
def Itt (K:AG) (a:Addr):It :=
 ⟨fun i H=>∃ xs x,SqT K H a xs ∧ xs[i]? = some x,fun i H x H'=>H' = H ∧ ∀ xs,SqT K H a xs → xs[i]? = some x,fun i H=>∃ xs,SqT K H a xs ∧ xs.length ≤ i⟩
def Itr (lo:Int) (n:Nat):It:=⟨fun i _=>i < n,fun i H x H'=>H' = H ∧ x = .int (lo + i),fun i _=>n ≤ i⟩
theorem aHC {P:Program} {w:World} {K:AG} {tg:Expr} (a it:Addr):Turn P w K tg (Itl K a) [it] it (fun i h=>h.IsListIter it a i) where
 mem:=by simp
 obj:=fun i h st b hb=>by
  have e:b = it:=by simpa using hb
  subst e
  obtain ⟨o,e,c,d⟩:=st
  exact ⟨o,e,fun v z=>by rw [d] at z;cases z⟩
 keep:=fun i h h' st k=>st.at fun o e=>k it (by simp) o e
 item:=by
  intro X hP hw hK hc i pins s σ H E I hf st hg
  subst hP hw hK
  obtain ⟨xs,x,hq,hx⟩:=hg
  obtain ⟨its,rv,p,hz⟩:=I.list hq
  obtain ⟨u,hu,ru⟩:=rv.get hx
  obtain ⟨f0,f1,f2,f3,f4,f5⟩:=hf it (by simp)
  refine wpAny_pyNext_list_item st p.isList (x:=u) (by simpa using hu) fun h' st' sb=>?_
  have I1:Inv X pins σ H { s with heap:=h' }:=I.turned (t':=s.toks) (fun b o hb e=>(sb.2 b hb).trans e) f0 f1 f3 f4 f5
  obtain ⟨o,e,c,d⟩:=id st'
  exact ⟨u,rfl,aCS (s:={ s with heap:=h' }) e c d (by decide) ⟨x,H,I1,ru,⟨rfl,fun ys hy=>by rw [I.list_inj hy hq];exact hx⟩,st',fun b hb=>(hf b hb).1⟩⟩
 done:=by
  intro X hP hw hK hc i pins s σ H E I hf st hg
  subst hP hw hK
  obtain ⟨xs,hq,hx⟩:=hg
  obtain ⟨its,rv,p,hz⟩:=I.list hq
  obtain ⟨f0,f1,f2,f3,f4,f5⟩:=hf it (by simp)
  have hl:=rv.length
  exact wpAny_pyNext_list_end (I.ok.hd hc) st p.isList (by simp;omega) fun h' eb=>⟨rfl,I.turned (t':=s.toks) (fun b o hb e=>eb b o hb e) f0 f1 f3 f4 f5⟩
 self:=fun _ _ _ _ _ st h=>wpAny_pyIter_listiter st h
theorem aDO {P:Program} {w:World} {K:AG} {tg:Expr} (it:Addr) (lo:Int) (n:Nat):Turn P w K tg (Itr lo n) [it] it (fun i h=>IsRangeIter h it (lo + (i:Nat) * 1) ((n:Int) - (i:Nat)) 1) where
 mem:=by simp
 obj:=fun i h st b hb=>by
  have e:b = it:=by simpa using hb
  subst e
  exact ⟨_,st,fun v z=>by
   have z':Data.fields _ = Data.cell v:=z
   cases z'⟩
 keep:=fun i h h' st k=>k it (by simp) _ st
 item:=by
  intro X hP hw hK hc i pins s σ H E I hf st hg
  subst hP hw hK
  obtain ⟨f0,f1,f2,f3,f4,f5⟩:=hf it (by simp)
  have W:=Walks.range (prog:=X.prog) (w:=X.w) (I.ok.hd hc) it lo 1 n
  refine W.item i s _ _ hg st fun v h' tk hv st' kk=>?_
  obtain ⟨t,rfl⟩:=hv
  have I1:Inv X pins σ H { s with heap:=h',toks:=tk }:=I.turned (fun b o hb e=>kk b o (by simpa using hb) e) f0 f1 f3 f4 f5
  refine ⟨_,rfl,aCS (s:={ s with heap:=h',toks:=tk }) (n:="range_iterator") st' rfl rfl (by decide) ⟨.int (lo + i),H,I1,⟨t,?_⟩,⟨rfl,rfl⟩,st',fun b hb=>(hf b hb).1⟩⟩
  rw [Int.mul_one]
 done:=by
  intro X hP hw hK hc i pins s σ H E I hf st hg
  subst hP hw hK
  obtain ⟨f0,f1,f2,f3,f4,f5⟩:=hf it (by simp)
  exact wpAny_pyNext_range_end (I.ok.hd hc) st (by have:n ≤ i:=hg;omega) fun h' eb=>⟨rfl,I.turned (t':=s.toks) (fun b o hb e=>eb b o hb e) f0 f1 f3 f4 f5⟩
 self:=fun _ _ _ _ _ st h=>wpAny_pyIter_rangeiter st h
end L2
namespace L2
open PySem PySem.Spec PyProof.Rows
section
variable {X:Cx} {tg:Expr}
def aTP (K:AG) (tl:TE):TI:=fun σ H R=>tl σ H fun x H1=>∃ a,x = .ref a ∧ (∃ xs,SqL K H1 a xs) ∧ R (Itl K a) H1
theorem bJ {l:Expr} {tl:TE} (hl:PE X l tl):PI X tg l (aTP X.K tl):=by
 intro pins s σ H R I h
 refine thn (hl pins s σ H _ I h) fun v s1 ⟨x,H1,I1,r1,q1⟩=>?_
 obtain ⟨a,e,⟨xs,hq⟩,q⟩:=q1
 subst e
 cases r1
 obtain ⟨its,rv,p,hz⟩:=I1.list hq
 refine Co p.isList ?_
 refine ⟨s1.heap.objs.size,[s1.heap.objs.size],_,_,H1,rfl,I1.kept (t':=s1.toks) fun b o e=>AE _ e,aHC a _,⟨_,Ab _ rfl,rfl,rfl⟩,fun b hb=>?_,q⟩
 have e:b = s1.heap.objs.size:=by simpa using hb
 subst e
 exact I1.fpOk (AN _) (I1.hok.fresh (AN _))
theorem aBV {pins:List (Addr × Obj)} {σ:St} {H:Hp} {s:Shared} {R:It → Hp → Prop} {E:Value → Shared → Prop} {lo hi:Int} {t u v:Tok} {tk:Nat} (I:Inv X pins σ H s) (h1:-(2 ^ 62) ≤ lo) (h2:lo < 2 ^ 62) (h3:-(2 ^ 62) ≤ hi) (h4:hi < 2 ^ 62)
  (q:R (Itr lo (hi - lo).toNat) H):wpAny (model X.prog X.w) X.A (pyIter (.ref s.heap.objs.size)) (PIE X pins σ tg R) E { s with heap:=s.heap.push { cls:=.type "range",data:=.fields #[.int lo t,.int hi u,.int 1 v] },toks:=tk }:=by
 refine wpAny_pyIter_range (IsRange.new ..) (small_one h1 h2 h3 h4) ?_
 have I1:Inv X pins σ H { s with heap:=s.heap.push { cls:=.type "range",data:=.fields #[.int lo t,.int hi u,.int 1 v] },toks:=tk }:=I.kept fun b o e=>AE _ e
 refine ⟨(s.heap.push { cls:=.type "range",data:=.fields #[.int lo t,.int hi u,.int 1 v] }).objs.size,[(s.heap.push { cls:=.type "range",data:=.fields #[.int lo t,.int hi u,.int 1 v] }).objs.size],_,_,H,rfl,
  I1.kept (t':=tk) fun b o e=>AE _ e,aDO _ lo (hi - lo).toNat,?_,fun b hb=>?_,q⟩
 ·have e1:lo + ((0:Nat):Int) * 1 = lo:=by simp
  have e2:(((hi - lo).toNat:Nat):Int) - ((0:Nat):Int) = Builtin.Range.rangeSize lo hi 1:=by rw [rangeSize_one];split <;> omega
  show IsRangeIter _ _ (lo + ((0:Nat):Int) * 1) ((((hi - lo).toNat:Nat):Int) - ((0:Nat):Int)) 1
  rw [e1,e2]
  exact Ab _ rfl
 ·have e:b = (s.heap.push { cls:=.type "range",data:=.fields #[.int lo t,.int hi u,.int 1 v] }).objs.size:=by simpa using hb
  subst e
  exact I1.fpOk (AN _) (I1.hok.fresh (AN _))
def aTO (ta:TA):TI:=fun σ H R=>ta σ H fun vs H1=>∃ j:Int,vs = [.int j] ∧ -(2 ^ 62) ≤ j ∧ j < 2 ^ 62 ∧ R (Itr 0 j.toNat) H1
def aTN (ta:TA):TI:=fun σ H R=>ta σ H fun vs H1=>∃ i j:Int,vs = [.int i,.int j] ∧ (-(2 ^ 62) ≤ i ∧ i < 2 ^ 62 ∧ -(2 ^ 62) ≤ j ∧ j < 2 ^ 62) ∧ R (Itr i (j - i).toNat) H1
theorem gZ {a:Expr} {ta:TA} {p pos:Pos} (hg:Gl X "range") (hm:X.mg "range" = none) (ha:PA X [a] ta) (hs:At [a] X.env = [(false,eval a X.env)]:=by rfl):PI X tg (.Call (.Name "range" p) [a] [] pos) (aTO ta):=by
 intro pins s σ H R I h
 refine Call_ (nB I hg hm boot_range (Bu (thn (ha pos pins s σ H _ I h) fun us s1 ⟨vs,H1,I1,r1,q1⟩=>?_) hs rfl))
 obtain ⟨j,e,q1,q2,q⟩:=q1
 subst e
 cases r1 with
 | cons r rr =>
  cases rr
  obtain ⟨t,rfl⟩:=r
  exact call_range_1 (aBV I1 (by omega) (by omega) q1 q2 (by simpa using q))
theorem aHS {a b:Expr} {ta:TA} {p pos:Pos} (hg:Gl X "range") (hm:X.mg "range" = none) (ha:PA X [a,b] ta) (hs:At [a,b] X.env = [(false,eval a X.env),(false,eval b X.env)]:=by rfl) (hs2:At [b] X.env = [(false,eval b X.env)]:=by rfl) :
  PI X tg (.Call (.Name "range" p) [a,b] [] pos) (aTN ta):=by
 intro pins s σ H R I h
 refine Call_ (nB I hg hm boot_range (Bu (thn (ha pos pins s σ H _ I h) fun us s1 ⟨vs,H1,I1,r1,q1⟩=>?_) (by rw [hs,hs2]) (by rw [hs2];rfl)))
 obtain ⟨i,j,e,⟨q1,q2,q3,q4⟩,q⟩:=q1
 subst e
 cases r1 with
 | cons r rr =>
  cases rr with
  | cons r' rr =>
   cases rr
   obtain ⟨t,rfl⟩:=r
   obtain ⟨t',rfl⟩:=r'
   exact call_range_2 (aBV I1 q1 q2 q3 q4 q)
def aSI (wi:TI) (g:TG) (tb:TS):TS:=fun D σ H=>wi σ H fun J H1=>∃ W:Nat → Nat → St → Hp → Prop,(∃ m,W 0 m σ H1) ∧ ∀ i m σ H,W i m σ H →
 (J.stop i H ∧ D.nx σ H) ∨ (J.go i H ∧ ∃ N:St → Hp → Prop,(∀ σ' H',N σ' H' → ∃ m',m' < m ∧ W (i + 1) m' σ' H') ∧ ∀ x H',J.yld i H x H' → g x σ H' fun σ2 H2=>tb { D with nx:=N,ct:=N,bk:=D.nx } σ2 H2)
def mQ (fp:List Addr) (h:Heap):List (Addr × Obj):=fp.filterMap fun b=>(h.get? b).map fun o=>(b,o)
theorem lQ {fp:List Addr} {h:Heap} {b:Addr} {o:Obj} (hb:b ∈ fp) (e:h.get? b = some o):(b,o) ∈ mQ fp h:=List.mem_filterMap.mpr ⟨b,hb,by rw [e];rfl⟩
theorem xS {fp:List Addr} {h:Heap} {p:Addr × Obj} (hp:p ∈ mQ fp h):p.1 ∈ fp ∧ h.get? p.1 = some p.2:=by
 obtain ⟨b,hb,e⟩:=List.mem_filterMap.mp hp
 cases q:h.get? b with
 | none=>rw [q] at e;cases e
 | some o =>
  rw [q] at e
  have e':(b,o) = p:=Ax e
  subst e'
  exact ⟨hb,q⟩
theorem Inv.pinned {pins:List (Addr × Obj)} {σ:St} {H:Hp} {s:Shared} {fp:List Addr} (I:Inv X pins σ H s) (hf:∀ b ∈ fp,aAU X pins H b) (ho:∀ b ∈ fp,∃ o,s.heap.get? b = some o ∧ ∀ v,o.data ≠ .cell v):Inv X (pins ++ mQ fp s.heap) σ H s :=
 I.pins_of fun p hp=>(Ar.mp hp).elim (fun z=>I.pin p (Am _ z)) fun z=>by
  obtain ⟨hb,e⟩:=xS z
  obtain ⟨f0,f1,f2,_⟩:=hf p.1 hb
  obtain ⟨o,e',d⟩:=ho p.1 hb
  rw [e] at e';cases e'
  exact ⟨e,f0,f1,f2,d⟩
theorem Inv.unpinned {pins pl:List (Addr × Obj)} {σ:St} {H:Hp} {s:Shared} (I:Inv X (pins ++ pl) σ H s):Inv X pins σ H s:=I.pins_of fun p hp=>I.pin p (Am _ (Bv _ hp))
theorem fG {iter:Expr} {body:List Stmt} {wi:TI} {g:TG} {tb:TS} {pos:Pos} (hp:Bd (model X.prog X.w) X.A X.env X.xe) (hc:X.calm = true) (hi:PI X tg iter wi) (hg:PG X tg g) (hb:PSs X body tb)
  (hs:∀ x,Es iter X.env x = pure x:=by intro _;rfl):PS X (.For tg iter body [] pos) (aSI wi g tb):=by
 intro pins s σ H D I h
 refine wpAny_For (thn (hi pins s σ H _ I h) fun v s1 h1=>thn h1 fun itv s2 h2=>?_) hs
 obtain ⟨it,fp,tn,J,H2,e,I2,T,st2,f2,W,⟨m0,w0⟩,turn⟩:=h2
 subst e
 have stat:∀ {H':Hp},(∀ b ∈ fp,H' b = none) → ∀ b ∈ fp,aAU X pins H' b:=fun hn b hb=>⟨hn b hb,(f2 b hb).2⟩
 refine codeAny_forLoop_any (fun n s'=>∃ i σ' H',Inv X pins σ' H' s' ∧ tn i s'.heap ∧ (∀ b ∈ fp,H' b = none) ∧ W i n σ' H') ?_ m0 ⟨0,σ,H2,I2,st2,fun b hb=>(f2 b hb).1,w0⟩
 rintro n s3 ⟨i,σ3,H3,I3,st3,fr3,w3⟩
 rcases turn i n σ3 H3 w3 with ⟨stop,qn⟩ | ⟨go,N,hN,step⟩
 ·refine Cj hp (thn (T.done X rfl rfl rfl hc i pins s3 σ3 H3 X.xe I3 (stat fr3) st3 stop) fun r s4 ⟨hr,I4⟩=>?_)
  subst hr
  exact EG ⟨σ3,H3,I4,qn⟩
 ·refine Cj hp (thn (T.item X rfl rfl rfl hc i pins s3 σ3 H3 X.xe I3 (stat fr3) st3 go) fun r s4 ⟨u,hr,h4⟩=>?_)
  subst hr
  refine Cj hp (thn h4 fun _ s5 ⟨x,H5,I5,r5,y5,st5,fr5⟩=>?_)
  have I5':=I5.pinned (stat fr5) (T.obj _ _ st5)
  refine Cj hp (thn (hg _ s5 σ3 H5 x u _ I5' r5 (step x H5 y5)) fun _ s6 ⟨σ6,H6,I6,q6⟩=>?_)
  refine Cj hp (thn (hb _ s6 σ6 H6 _ I6 q6) fun f s7 q7=>?_)
  have again:∀ {σ7:St} {H7:Hp},Inv X (pins ++ mQ fp s5.heap) σ7 H7 s7 → N σ7 H7 → ∃ m,m < n ∧ ∃ i σ' H',Inv X pins σ' H' s7 ∧ tn i s7.heap ∧ (∀ b ∈ fp,H' b = none) ∧ W i m σ' H':=fun {σ7 H7} I7 n7=>by
   obtain ⟨m',hm,w7⟩:=hN σ7 H7 n7
   refine ⟨m',hm,i + 1,σ7,H7,I7.unpinned,T.keep _ _ _ st5 fun b hb o e=>(I7.pin (b,o) (Am _ (Am _ (lQ hb e)))).1,fun b hb=>?_,w7⟩
   obtain ⟨o,e,d⟩:=T.obj _ _ st5 b hb
   exact (I7.pin (b,o) (Am _ (Am _ (lQ hb e)))).2.1
  cases f with
  | next=>obtain ⟨σ7,H7,I7,n7⟩:=q7;exact again I7 n7
  | cont=>obtain ⟨σ7,H7,I7,n7⟩:=q7;exact again I7 n7
  | brk=>obtain ⟨σ7,H7,I7,q7⟩:=q7;exact ⟨σ7,H7,I7.unpinned,q7⟩
  | ret v=>obtain ⟨x7,σ7,H7,I7,r7,q7⟩:=q7;exact ⟨x7,σ7,H7,I7.unpinned,r7,q7⟩
end
theorem jR {K:AG} {a:Addr} {xs:List V} {g:TG} {tb:TS} {D:Ends} {σ:St} {H:Hp} (Pv:Nat → St → Hp → Prop) (h0:Pv 0 σ H) (hl:∀ i σ H,i ≤ xs.length → Pv i σ H → SqL K H a xs)
  (hs:∀ i x σ H,xs[i]? = some x → Pv i σ H → g x σ H fun σ2 H2=>tb { D with nx:=Pv (i + 1),ct:=Pv (i + 1),bk:=D.nx } σ2 H2) (hd:∀ σ H,Pv xs.length σ H → D.nx σ H) :
  ∃ W:Nat → Nat → St → Hp → Prop,(∃ m,W 0 m σ H) ∧ ∀ i m σ H,W i m σ H →
   ((Itl K a).stop i H ∧ D.nx σ H) ∨ ((Itl K a).go i H ∧ ∃ N:St → Hp → Prop,(∀ σ' H',N σ' H' → ∃ m',m' < m ∧ W (i + 1) m' σ' H') ∧ ∀ x H',(Itl K a).yld i H x H' → g x σ H' fun σ2 H2=>tb { D with nx:=N,ct:=N,bk:=D.nx } σ2 H2):=by
 refine ⟨fun i m σ H=>m = xs.length - i ∧ i ≤ xs.length ∧ Pv i σ H,⟨xs.length,by simp,BK _,h0⟩,?_⟩
 rintro i m σ H ⟨rfl,hi,p⟩
 have q:=hl i σ H hi p
 by_cases hlt:i < xs.length
 ·refine .inr ⟨⟨xs,xs[i],q,by simp [hlt]⟩,Pv (i + 1),fun σ' H' p'=>⟨xs.length - (i + 1),by omega,rfl,hlt,p'⟩,fun x H' y=>?_⟩
  obtain ⟨e,y⟩:=y
  subst e
  exact hs i x σ _ (y xs q) p
 ·have e:i = xs.length:=by omega
  subst e
  exact .inl ⟨⟨xs,q,AN _⟩,hd σ H p⟩
theorem hJ {lo:Int} {n:Nat} {g:TG} {tb:TS} {D:Ends} {σ:St} {H:Hp} (Pv:Nat → St → Hp → Prop) (h0:Pv 0 σ H)
  (hs:∀ i σ H,i < n → Pv i σ H → g (.int (lo + i)) σ H fun σ2 H2=>tb { D with nx:=Pv (i + 1),ct:=Pv (i + 1),bk:=D.nx } σ2 H2) (hd:∀ σ H,Pv n σ H → D.nx σ H) :
  ∃ W:Nat → Nat → St → Hp → Prop,(∃ m,W 0 m σ H) ∧ ∀ i m σ H,W i m σ H →
   ((Itr lo n).stop i H ∧ D.nx σ H) ∨ ((Itr lo n).go i H ∧ ∃ N:St → Hp → Prop,(∀ σ' H',N σ' H' → ∃ m',m' < m ∧ W (i + 1) m' σ' H') ∧ ∀ x H',(Itr lo n).yld i H x H' → g x σ H' fun σ2 H2=>tb { D with nx:=N,ct:=N,bk:=D.nx } σ2 H2):=by
 refine ⟨fun i m σ H=>m = n - i ∧ i ≤ n ∧ Pv i σ H,⟨n,by simp,BK _,h0⟩,?_⟩
 rintro i m σ H ⟨rfl,hi,p⟩
 by_cases hlt:i < n
 ·refine .inr ⟨hlt,Pv (i + 1),fun σ' H' p'=>⟨n - (i + 1),by omega,rfl,hlt,p'⟩,fun x H' y=>?_⟩
  obtain ⟨e,y⟩:=y
  subst e y
  exact hs i σ _ hlt p
 ·have e:i = n:=by omega
  subst e
  exact .inl ⟨AN _,hd σ H p⟩
theorem mH {c:TT} {tb:TS} {D:Ends} {σ:St} {H:Hp} (Pv:St → Hp → Prop) (μ:St → Hp → Nat) (h0:Pv σ H)
  (hs:∀ σ H,Pv σ H → c σ H fun b H1=>if b = true then tb { D with nx:=fun σ' H'=>Pv σ' H' ∧ μ σ' H' < μ σ H,ct:=fun σ' H'=>Pv σ' H' ∧ μ σ' H' < μ σ H,bk:=D.nx } σ H1 else D.nx σ H1)
  (mono:∀ σ H Q Q',(∀ b H1,Q b H1 → Q' b H1) → c σ H Q → c σ H Q'):aJJ c tb D σ H:=by
 refine ⟨fun m σ H=>m = μ σ H ∧ Pv σ H,⟨_,rfl,h0⟩,?_⟩
 rintro m σ H ⟨rfl,p⟩
 refine mono σ H _ _ (fun b H1 q=>?_) (hs σ H p)
 cases b with
 | true=>exact ⟨_,fun σ' H' ⟨p',l⟩=>⟨_,l,rfl,p'⟩,q⟩
 | false=>exact q
end L2
namespace L2
open PySem PySem.Spec PyProof.Rows
abbrev R2:=V → V → Hp → VK → Prop
def OpR (X:Cx) (f:Value → Value → Sem Value) (r:R2):Prop :=
 ∀ (pins:List (Addr × Obj)) (s:Shared) (σ:St) (H:Hp) (x y:V) (v u:Value) (Q:VK),Inv X pins σ H s → bI x v → bI y u → r x y H Q →
  wpAny (model X.prog X.w) X.A (f v u) (EP X pins σ Q) X.xe s
def UnR (X:Cx) (f:Value → Sem Value) (r:V → Hp → VK → Prop):Prop :=
 ∀ (pins:List (Addr × Obj)) (s:Shared) (σ:St) (H:Hp) (x:V) (v:Value) (Q:VK),Inv X pins σ H s → bI x v → r x H Q →
  wpAny (model X.prog X.w) X.A (f v) (EP X pins σ Q) X.xe s
def eO (X:Cx) (f:Value) (r:List V → Hp → VK → Prop):Prop :=
 ∀ (pins:List (Addr × Obj)) (s:Shared) (σ:St) (H:Hp) (xs:List V) (us:List Value) (Q:VK),Inv X pins σ H s → bF xs us → r xs H Q →
  wpAny (model X.prog X.w) X.A (call f us) (EP X pins σ Q) X.xe s
def tOp (r:R2) (ta tb:TE):TE:=fun σ H Q=>ta σ H fun x H1=>tb σ H1 fun y H2=>r x y H2 Q
def tUn (r:V → Hp → VK → Prop) (ta:TE):TE:=fun σ H Q=>ta σ H fun x H1=>r x H1 Q
def rI (C:Int → Int → Prop) (g:Int → Int → V):R2:=fun x y H Q=>∃ i j,x = .int i ∧ y = .int j ∧ C i j ∧ Q (g i j) H
def rI0 (g:Int → Int → V):R2:=fun x y H Q=>∃ i j,x = .int i ∧ y = .int j ∧ Q (g i j) H
def rU (g:Int → V):V → Hp → VK → Prop:=fun x H Q=>∃ i,x = .int i ∧ Q (g i) H
section
variable {X:Cx} {a b c:Expr} {ta tb tc:TE} {pos:Pos}
theorem aRU (ha:PE X a ta) (hb:PE X b tb) {pins:List (Addr × Obj)} {s:Shared} {σ:St} {H:Hp} {R:V → V → Hp → Prop} (I:Inv X pins σ H s)
  (h:ta σ H fun x H1=>tb σ H1 fun y H2=>R x y H2) {Q:Value → Shared → Prop} {f:Value → Value → Sem Value}
  (hf:∀ v u s2 x y H2,Inv X pins σ H2 s2 → bI x v → bI y u → R x y H2 → wpAny (model X.prog X.w) X.A (f v u) Q X.xe s2) :
  wpAny (model X.prog X.w) X.A (eval a X.env) (fun v s₁=>wpAny (model X.prog X.w) X.A (eval b X.env) (fun u s₂=>wpAny (model X.prog X.w) X.A (f v u) Q X.xe s₂) X.xe s₁) X.xe s:=by
 refine thn (ha pins s σ H _ I h) fun v s1 ⟨x,H1,I1,r1,q1⟩=>?_
 refine thn (hb pins s1 σ H1 _ I1 q1) fun u s2 ⟨y,H2,I2,r2,q2⟩=>?_
 exact hf v u s2 x y H2 I2 r1 r2 q2
theorem aM {op:Operator} {r:R2} (ho:OpR X (Di op) r) (ha:PE X a ta) (hb:PE X b tb):PE X (.BinOp a op b pos) (tOp r ta tb):=by
 intro pins s σ H Q I h
 exact wpAny_BinOp (aRU ha hb I h fun v u s2 x y H2 I2 rx ry q=>ho pins s2 σ H2 x y v u Q I2 rx ry q)
theorem aPW {op:UnaryOp} {r:V → Hp → VK → Prop} (ho:UnR X (unaryOp op) r) (ha:PE X a ta):PE X (.UnaryOp op a pos) (tUn r ta):=by
 intro pins s σ H Q I h
 exact UnaryOp_ (thn (ha pins s σ H _ I h) fun v s1 ⟨x,H1,I1,r1,q1⟩=>ho pins s1 σ H1 x v Q I1 r1 q1)
theorem opI {f:Value → Value → Sem Value} {C:Int → Int → Prop} {g:Int → Int → Int}
  (rule:∀ (i j:Int) (t u:Tok) (s:Shared) (Q:Value → Shared → Prop) (E:Value → Shared → Prop),C i j → Q (.int (g i j) s.toks) { s with toks:=s.toks + 1 } → wpAny (model X.prog X.w) X.A (f (.int i t) (.int j u)) Q E s) :
  OpR X f (rI C fun i j=>.int (g i j)):=by
 intro pins s σ H x y v u Q I rx ry h
 obtain ⟨i,j,rfl,rfl,hc,q⟩:=h
 obtain ⟨t,rfl⟩:=rx
 obtain ⟨t',rfl⟩:=ry
 exact rule i j t t' s _ _ hc ⟨.int (g i j),H,I.tok _,⟨_,rfl⟩,q⟩
theorem aTA {f:Value → Value → Sem Value} {g:Int → Int → Int}
  (rule:∀ (i j:Int) (t u:Tok) (s:Shared) (Q:Value → Shared → Prop) (E:Value → Shared → Prop),Q (.int (g i j) s.toks) { s with toks:=s.toks + 1 } → wpAny (model X.prog X.w) X.A (f (.int i t) (.int j u)) Q E s) :
  OpR X f (rI0 fun i j=>.int (g i j)):=by
 intro pins s σ H x y v u Q I rx ry h
 obtain ⟨i,j,rfl,rfl,q⟩:=h
 obtain ⟨t,rfl⟩:=rx
 obtain ⟨t',rfl⟩:=ry
 exact rule i j t t' s _ _ ⟨.int (g i j),H,I.tok _,⟨_,rfl⟩,q⟩
theorem aOJ {f:Value → Value → Sem Value} {g:Int → Int → Bool}
  (rule:∀ (i j:Int) (t u:Tok) (s:Shared) (Q:Value → Shared → Prop) (E:Value → Shared → Prop),Q (.bool (g i j)) s → wpAny (model X.prog X.w) X.A (f (.int i t) (.int j u)) Q E s) :
  OpR X f (rI0 fun i j=>.bl (g i j)):=by
 intro pins s σ H x y v u Q I rx ry h
 obtain ⟨i,j,rfl,rfl,q⟩:=h
 obtain ⟨t,rfl⟩:=rx
 obtain ⟨t',rfl⟩:=ry
 exact rule i j t t' s _ _ ⟨.bl (g i j),H,I,rfl,q⟩
def aVD (i j:Int):Prop:=0 ≤ j ∧ j ≤ 1000000 ∧ i.natAbs < 2 ^ 64
def aPK (i j:Int):Prop:=(-(2 ^ 64) < i ∧ i < 2 ^ 64) ∨ (-(2 ^ 64) < j ∧ j < 2 ^ 64)
theorem aPK.ok {i j:Int} (h:aPK i j):IntMulOk i j:=by
 rcases h with ⟨h1,h2⟩ | ⟨h1,h2⟩
 ·exact .of_left (intBits_le_64 h1 h2)
 ·exact .of_right (intBits_le_64 h1 h2)
theorem fZ:OpR X (Di .Add) (rI0 fun i j=>.int (i + j)):=aTA fun _ _ _ _ _ _ _ q=>add_int q
theorem iO:OpR X (Di .Sub) (rI0 fun i j=>.int (i - j)):=aTA fun _ _ _ _ _ _ _ q=>sub_int q
theorem mT:OpR X (Di .Mult) (rI aPK fun i j=>.int (i * j)):=opI fun _ _ _ _ _ _ _ hc q=>mul_int q hc.ok
theorem dB:OpR X (Di .Mod) (rI (fun _ j=>0 < j) fun i j=>.int (i % j)):=opI fun i j _ _ _ _ _ hc q=>by
 have h1:(0:Int) < j:=hc
 exact mod_int' (by omega) (by rw [Int.fmod_eq_emod_of_nonneg i (by omega)];exact q)
theorem gR:OpR X (Di .Pow) (rI aVD fun i j=>.int (i ^ j.toNat)):=opI fun _ _ _ _ _ _ _ hc q=>pow_int_small hc.1 hc.2.1 hc.2.2 q
theorem unI {f:Value → Sem Value} {g:Int → Int}
  (rule:∀ (i:Int) (t:Tok) (s:Shared) (Q:Value → Shared → Prop) (E:Value → Shared → Prop),Q (.int (g i) s.toks) { s with toks:=s.toks + 1 } → wpAny (model X.prog X.w) X.A (f (.int i t)) Q E s) :
  UnR X f (rU fun i=>.int (g i)):=by
 intro pins s σ H x v Q I rx h
 obtain ⟨i,rfl,q⟩:=h
 obtain ⟨t,rfl⟩:=rx
 exact rule i t s _ _ ⟨.int (g i),H,I.tok _,⟨_,rfl⟩,q⟩
theorem aJC:UnR X (unaryOp .USub) (rU fun i=>.int (-i)):=unI fun _ _ _ _ _ q=>neg_int q
end
def aSN:V → V → Bool
 | .non,.non=>true | .non,.int _=>true | .int _,.non=>true | .non,.bl _=>true | .bl _,.non=>true | .non,.str _=>true | .str _,.non=>true
 | .int _,.int _=>true | .bl _,.bl _=>true | .str _,.str _=>true | .byt _,.byt _=>true
 | .int _,.str _=>true | .str _,.int _=>true | .bl _,.str _=>true | .str _,.bl _=>true
 | _,_=>false
def rEq:R2:=fun x y H Q=>aSN x y = true ∧ Q (.bl (decide (x = y))) H
def rNe:R2:=fun x y H Q=>aSN x y = true ∧ Q (.bl (!decide (x = y))) H
theorem iX {i j:Int}:decide (V.int i = V.int j) = (i == j):=by
 rw [BZ]
 simp
theorem aMR {i j:Bool}:decide (V.bl i = V.bl j) = (i == j):=by
 rw [BZ]
 simp
theorem lU {i j:Str}:decide (V.str i = V.str j) = (i == j):=by
 rw [BZ]
 simp
theorem aGX {i j:Array UInt8}:decide (V.byt i = V.byt j) = (i.toList == j.toList):=by
 rw [BZ]
 cases i
 cases j
 simp
section
variable {X:Cx} {a b c:Expr} {ta tb tc:TE} {pos:Pos}
theorem bY {pins:List (Addr × Obj)} {σ:St} {H:Hp} {s:Shared} {Q:VK} {k k':Bool} (I:Inv X pins σ H s) (q:Q (.bl k) H) (e:k = k'):EP X pins σ Q (.bool k') s:=by
 subst e
 exact ⟨.bl k,H,I,rfl,q⟩
theorem pV:OpR X (BV .Eq) rEq:=by
 intro pins s σ H x y v u Q I rx ry h
 obtain ⟨hs,q⟩:=h
 cases x with
 | non =>
  cases rx
  cases y with
  | non=>cases ry;exact PySem.EqNone.eq_none_none (bY I q (by simp))
  | bl j=>cases ry;exact PySem.EqNone.eq_none_bool (bY I q (by simp))
  | int j=>obtain ⟨t',rfl⟩:=ry;exact PySem.EqNone.eq_none_int (bY I q (by simp))
  | str j=>obtain ⟨t',rfl⟩:=ry;exact PySem.EqNone.eq_none_str (bY I q (by simp))
  | _=>exact absurd (show false = true from hs) Ad
 | bl i =>
  cases rx
  cases y with
  | non=>cases ry;exact PySem.EqNone.eq_bool_none (bY I q (by simp))
  | bl j=>cases ry;exact eq_bool (bY I q aMR)
  | str j=>obtain ⟨t',rfl⟩:=ry;exact PySem.EqMixed.eq_bool_str (bY I q (by simp))
  | _=>exact absurd (show false = true from hs) Ad
 | int i =>
  obtain ⟨t,rfl⟩:=rx
  cases y with
  | non=>cases ry;exact PySem.EqNone.eq_int_none (bY I q (by simp))
  | int j=>obtain ⟨t',rfl⟩:=ry;exact eq_int (bY I q iX)
  | str j=>obtain ⟨t',rfl⟩:=ry;exact PySem.EqMixed.eq_int_str (bY I q (by simp))
  | _=>exact absurd (show false = true from hs) Ad
 | str i =>
  obtain ⟨t,rfl⟩:=rx
  cases y with
  | non=>cases ry;exact PySem.EqNone.eq_str_none (bY I q (by simp))
  | bl j=>cases ry;exact PySem.EqMixed.eq_str_bool (bY I q (by simp))
  | int j=>obtain ⟨t',rfl⟩:=ry;exact PySem.EqMixed.eq_str_int (bY I q (by simp))
  | str j=>obtain ⟨t',rfl⟩:=ry;exact eq_str (bY I q lU)
  | _=>exact absurd (show false = true from hs) Ad
 | byt i =>
  obtain ⟨t,rfl⟩:=rx
  cases y with
  | byt j=>obtain ⟨t',rfl⟩:=ry;exact PySem.W.eq_bytes (bY I q aGX)
  | _=>exact absurd (show false = true from hs) Ad
 | _=>cases y <;> exact absurd (show false = true from hs) Ad
theorem sH:OpR X (BV .NotEq) rNe:=by
 intro pins s σ H x y v u Q I rx ry h
 obtain ⟨hs,q⟩:=h
 cases x with
 | non =>
  cases rx
  cases y with
  | non=>cases ry;exact PySem.EqNone.ne_none_none (bY I q (by simp))
  | bl j=>cases ry;exact PySem.EqNone.ne_none_bool (bY I q (by simp))
  | int j=>obtain ⟨t',rfl⟩:=ry;exact PySem.EqNone.ne_none_int (bY I q (by simp))
  | str j=>obtain ⟨t',rfl⟩:=ry;exact PySem.EqNone.ne_none_str (bY I q (by simp))
  | _=>exact absurd (show false = true from hs) Ad
 | bl i =>
  cases rx
  cases y with
  | non=>cases ry;exact PySem.EqNone.ne_bool_none (bY I q (by simp))
  | bl j=>cases ry;exact ne_bool (bY I q (congrArg not aMR))
  | str j=>obtain ⟨t',rfl⟩:=ry;exact PySem.EqMixed.ne_bool_str (bY I q (by simp))
  | _=>exact absurd (show false = true from hs) Ad
 | int i =>
  obtain ⟨t,rfl⟩:=rx
  cases y with
  | non=>cases ry;exact PySem.EqNone.ne_int_none (bY I q (by simp))
  | int j=>obtain ⟨t',rfl⟩:=ry;exact ne_int (bY I q (congrArg not iX))
  | str j=>obtain ⟨t',rfl⟩:=ry;exact PySem.EqMixed.ne_int_str (bY I q (by simp))
  | _=>exact absurd (show false = true from hs) Ad
 | str i =>
  obtain ⟨t,rfl⟩:=rx
  cases y with
  | non=>cases ry;exact PySem.EqNone.ne_str_none (bY I q (by simp))
  | bl j=>cases ry;exact PySem.EqMixed.ne_str_bool (bY I q (by simp))
  | int j=>obtain ⟨t',rfl⟩:=ry;exact PySem.EqMixed.ne_str_int (bY I q (by simp))
  | str j=>obtain ⟨t',rfl⟩:=ry;exact ne_str (bY I q (congrArg not lU))
  | _=>exact absurd (show false = true from hs) Ad
 | byt i =>
  obtain ⟨t,rfl⟩:=rx
  cases y with
  | byt j=>obtain ⟨t',rfl⟩:=ry;exact PySem.W.ne_bytes (bY I q (congrArg not aGX))
  | _=>exact absurd (show false = true from hs) Ad
 | _=>cases y <;> exact absurd (show false = true from hs) Ad
theorem aCB:OpR X (BV .Lt) (rI0 fun i j=>.bl (decide (i < j))):=aOJ fun _ _ _ _ _ _ _ q=>lt_int q
theorem sI:OpR X (BV .LtE) (rI0 fun i j=>.bl (decide (i ≤ j))):=aOJ fun _ _ _ _ _ _ _ q=>le_int q
theorem aLF:OpR X (BV .Gt) (rI0 fun i j=>.bl (decide (j < i))):=aOJ fun _ _ _ _ _ _ _ q=>gt_int q
theorem aSZ:OpR X (BV .GtE) (rI0 fun i j=>.bl (decide (j ≤ i))):=aOJ fun _ _ _ _ _ _ _ q=>ge_int q
theorem aHV:OpR X (BV .In) (fun x y H Q=>∃ i j,x = .str i ∧ y = .str j ∧ Q (.bl (!(Builtin.Str.occurrences j i 0 j.length 1).isEmpty)) H):=by
 intro pins s σ H x y v u Q I rx ry h
 obtain ⟨i,j,rfl,rfl,q⟩:=h
 obtain ⟨t,rfl⟩:=rx
 obtain ⟨t',rfl⟩:=ry
 exact in_str (bY I q rfl)
theorem aQZ:OpR X (BV .Is) (fun x y H Q=>y = .non ∧ Q (.bl (decide (x = .non))) H):=by
 intro pins s σ H x y v u Q I rx ry h
 obtain ⟨rfl,q⟩:=h
 cases ry
 refine is_none_gen (bY I q ?_)
 cases x <;> first
  | (cases rx;rfl)
  | (obtain ⟨t,rfl⟩:=rx;rfl)
theorem aOI:OpR X (BV .IsNot) (fun x y H Q=>y = .non ∧ Q (.bl (!decide (x = .non))) H):=by
 intro pins s σ H x y v u Q I rx ry h
 obtain ⟨rfl,q⟩:=h
 cases ry
 refine isnot_none_gen (bY I q ?_)
 cases x <;> first
  | (cases rx;rfl)
  | (obtain ⟨t,rfl⟩:=rx;rfl)
theorem bX (b:Expr) {op:CmpOp} (h:op ≠ .In:=by decide) (h2:op ≠ .NotIn:=by decide):Dq op b = false:=by
 have e1:(op == CmpOp.In) = false:=by cases op <;> first | rfl | exact absurd rfl h
 have e2:(op == CmpOp.NotIn) = false:=by cases op <;> first | rfl | exact absurd rfl h2
 cases b <;> simp [Dq,e1,e2]
theorem eC {op:CmpOp} {r:R2} (ho:OpR X (BV op) r) (ha:PE X a ta) (hb:PE X b tb) (hm:Dq op b = false):PE X (.Compare a [op] [b] pos) (tOp r ta tb):=by
 intro pins s σ H Q I h
 exact wpAny_Compare1 (aRU ha hb I h fun v u s2 x y H2 I2 rx ry q=>ho pins s2 σ H2 x y v u Q I2 rx ry q) hm
def aPM (t:TE):TT:=fun σ H Q=>t σ H fun x H'=>∃ k,x = .bl k ∧ Q k H'
theorem cC {op:CmpOp} {r:R2} (ho:OpR X (BV op) r) (ha:PE X a ta) (hb:PE X b tb) (hm:Dq op b = false):PT X (.Compare a [op] [b] pos) (aPM (tOp r ta tb)):=by
 intro pins s σ H Q I h
 refine wpAny_isTrue_Compare1 (thn (ha pins s σ H _ I h) fun v s1 ⟨x,H1,I1,r1,q1⟩=>thn (hb pins s1 σ H1 _ I1 q1) fun u s2 ⟨y,H2,I2,r2,q2⟩ =>
  thn (ho pins s2 σ H2 x y v u _ I2 r1 r2 q2) fun c s3 ⟨z,H3,I3,r3,k,e,q3⟩=>?_) hm
 subst e
 cases r3
 exact Bk ⟨H3,I3,q3⟩
def aJK (r r':R2) (ta tb tc:TE):TE:=fun σ H Q=>ta σ H fun x H1=>tb σ H1 fun y H2=>r x y H2 fun z H3=>∃ k,z = .bl k ∧
 (if k = true then tc σ H3 fun w' H4=>r' y w' H4 Q else Q (.bl false) H3)
theorem uP {op op':CmpOp} {r r':R2} (ho:OpR X (BV op) r) (ho':OpR X (BV op') r') (ha:PE X a ta) (hb:PE X b tb) (hc:PE X c tc)
  (hm:lastMarks [op,op'] [b,c] = false:=by with_unfolding_all rfl):PE X (.Compare a [op,op'] [b,c] pos) (aJK r r' ta tb tc):=by
 intro pins s σ H Q I h
 refine Compare_chain (thn (ha pins s σ H _ I h) fun v s1 ⟨x,H1,I1,r1,q1⟩=>chain_link (thn (hb pins s1 σ H1 _ I1 q1) fun u s2 ⟨y,H2,I2,r2,q2⟩ =>
  thn (ho pins s2 σ H2 x y v u _ I2 r1 r2 q2) fun d s3 ⟨z,H3,I3,r3,k,e,q3⟩=>?_)) hm
 subst e
 cases r3
 refine Bk ?_
 cases k with
 | false=>exact ite_ff ⟨.bl false,H3,I3,rfl,q3⟩
 | true=>exact ite_tt (chain_last (thn (hc pins s3 σ H3 _ I3 q3) fun w' s4 ⟨z',H4,I4,r4,q4⟩=>ho' pins s4 σ H4 y z' u w' Q I4 r2 r4 q4))
theorem aKO {op op':CmpOp} {r r':R2} (ho:OpR X (BV op) r) (ho':OpR X (BV op') r') (ha:PE X a ta) (hb:PE X b tb) (hc:PE X c tc)
  (hm:lastMarks [op,op'] [b,c] = false:=by with_unfolding_all rfl):PT X (.Compare a [op,op'] [b,c] pos) (aPM (aJK r r' ta tb tc)):=by
 intro pins s σ H Q I h
 refine isTrue_chain (thn (ha pins s σ H _ I h) fun v s1 ⟨x,H1,I1,r1,q1⟩=>test_link (thn (hb pins s1 σ H1 _ I1 q1) fun u s2 ⟨y,H2,I2,r2,q2⟩ =>
  thn (ho pins s2 σ H2 x y v u _ I2 r1 r2 q2) fun d s3 ⟨z,H3,I3,r3,k,e,q3⟩=>?_)) hm
 subst e
 cases r3
 refine Bk ?_
 cases k with
 | false =>
  obtain ⟨k',e',q'⟩:=q3
  cases e'
  exact ite_ff ⟨H3,I3,q'⟩
 | true =>
  refine ite_tt (test_last (thn (hc pins s3 σ H3 _ I3 q3) fun w' s4 ⟨z',H4,I4,r4,q4⟩=>thn (ho' pins s4 σ H4 y z' u w' _ I4 r2 r4 q4) fun d' s5 ⟨z2,H5,I5,r5,k2,e2,q5⟩=>?_))
  subst e2
  cases r5
  exact Bk ⟨H5,I5,q5⟩
theorem vC:(Aq:Nat) < 2 ^ 63:=by rw [CJ];decide
theorem uS:OpR X (Di .Add) (fun x y H Q=>∃ i j,x = .str i ∧ y = .str j ∧ i.length + j.length ≤ Aq ∧ Q (.str (i ++ j)) H):=by
 intro pins s σ H x y v u Q I rx ry h
 obtain ⟨i,j,rfl,rfl,hz,q⟩:=h
 obtain ⟨t,rfl⟩:=rx
 obtain ⟨t',rfl⟩:=ry
 exact add_str (fun t' tk=>⟨.str (i ++ j),H,I.tok _,⟨_,rfl⟩,q⟩) hz
theorem aAX {x:V} {us:List Value} (r:bF [x] us):∃ u,us = [u] ∧ bI x u:=by
 cases r with
 | cons r1 r2=>cases r2;exact ⟨_,rfl,r1⟩
theorem aPL {x y:V} {us:List Value} (r:bF [x,y] us):∃ u w',us = [u,w'] ∧ bI x u ∧ bI y w':=by
 cases r with
 | cons r1 r2 =>
  cases r2 with
  | cons r3 r4=>cases r4;exact ⟨_,_,rfl,r1,r3⟩
theorem aDG:eO X (.builtin "abs") (fun xs H Q=>∃ i,xs = [.int i] ∧ Q (.int (if i < 0 then -i else i)) H):=by
 intro pins s σ H xs us Q I r h
 obtain ⟨i,rfl,q⟩:=h
 obtain ⟨u,rfl,t,rfl⟩:=aAX r
 exact call_abs_int fun u tk=>⟨.int (if i < 0 then -i else i),H,I.tok _,⟨_,rfl⟩,q⟩
theorem aIT (hc:X.calm = true):eO X (.builtin "max") (fun xs H Q=>∃ i j,xs = [.int i,.int j] ∧ Q (.int (if j > i then j else i)) H):=by
 intro pins s σ H xs us Q I r h
 obtain ⟨i,j,rfl,q⟩:=h
 obtain ⟨u,w',rfl,⟨t,rfl⟩,⟨t',rfl⟩⟩:=aPL r
 refine max_two_ints (I.ok.hd hc) fun h' tk k=>⟨_,H,I.kept k,?_,q⟩
 by_cases hj:j > i
 ·rw [if_pos hj,if_pos hj];exact ⟨_,rfl⟩
 ·rw [if_neg hj,if_neg hj];exact ⟨_,rfl⟩
theorem yO (hc:X.calm = true):eO X (.builtin "min") (fun xs H Q=>∃ i j,xs = [.int i,.int j] ∧ Q (.int (if j < i then j else i)) H):=by
 intro pins s σ H xs us Q I r h
 obtain ⟨i,j,rfl,q⟩:=h
 obtain ⟨u,w',rfl,⟨t,rfl⟩,⟨t',rfl⟩⟩:=aPL r
 refine min_two_ints (I.ok.hd hc) fun h' tk k=>⟨_,H,I.kept k,?_,q⟩
 by_cases hj:j < i
 ·rw [if_pos hj,if_pos hj];exact ⟨_,rfl⟩
 ·rw [if_neg hj,if_neg hj];exact ⟨_,rfl⟩
end
end L2
namespace L2
open PySem PySem.Spec PyProof.Rows
structure ObjM (h:Heap) (x dx C:Addr) (mA:Str → Option Value):Prop where
 obj:h.get? x = some (CK C dx)
 ns:h.Ns1 dx mA
 ne:dx ≠ x
theorem aIA {h:Heap} {dx:Addr} {mA:Str → Option Value} (n:h.Ns1 dx mA):∃ od,h.get? dx = some od ∧ ∀ name,Dr name od = some (mA name):=by
 obtain ⟨o,es,ep,ho,hd,hk,_,hm⟩:=n
 refine ⟨o,ho,fun name=>?_⟩
 have e:=hm name
 unfold nsFind findBy at e
 rw [← Array.find?_toList] at e
 unfold Dr
 rw [hd]
 dsimp only
 split
 ·rename_i y q
  rw [q] at e
  exact congrArg some e
 ·rename_i q
  rw [q] at e
  have a:es.toList.any (·.refKey) = false:=by
   rw [List.any_eq_false]
   intro y hy
   obtain ⟨z,t,hkey⟩:=hk y (Array.mem_toList_iff.mp hy)
   simp [Ea.refKey,hkey]
  have a':¬ es.toList.any (·.refKey) = true:=by rw [a];exact Ad
  rw [if_neg a']
  exact congrArg some e
theorem ObjM.look {h:Heap} {x dx C:Addr} {mA:Str → Option Value} (I:ObjM h x dx C mA):∃ od,PySem.W.InstAt h x (CK C dx) C (some od) ∧ ∀ name,Dr name od = some (mA name) :=
 let ⟨od,ho,hl⟩:=aIA I.ns
 ⟨od,⟨I.obj,rfl,rfl,ho⟩,hl⟩
section
variable {prog:Program} {w:World} {A:Around} {E:Value → Shared → Prop} {s:Shared} {K:AG} {x dx C f:Addr} {mA:Str → Option Value} {name:Str} {v:Value}
theorem aOU {expr:Bool} {Q:Value → Shared → Prop} (X:K.In s.heap) (I:ObjM s.heap x dx C mA) (hg:DC K C name = true) (hh:DX K C = true)
  (ha:As K (.ref C) name = some none) (hv:mA name = some v) (hv':PySem.W.handedIn v = true) (h:Q v { s with toks:=s.toks + 1 }) :
  wpAny (model prog w) A (getAttr (.ref x) name expr) Q E s:=by
 obtain ⟨od,J,hl⟩:=I.look
 exact PySem.W.get_value X J (EB hg).1 (PySem.W.findObj_own hh ha rfl (by rw [hl,hv])) hv' h
theorem aLV {pl:Sem Bool} {Q:Value × List Value → Shared → Prop} (X:K.In s.heap) (I:ObjM s.heap x dx C mA) (hg:DC K C name = true)
  (hf:As K (.ref C) name = some (some (.ref f))) (ht:Be K (.ref f) = true) (hv:mA name = none) (h:Q (.ref f,[.ref x]) s) :
  wpAny (model prog w) A (EZ (.ref x) name pl) Q E s:=by
 obtain ⟨od,J,hl⟩:=I.look
 exact PySem.W.method_fn X J (EB hg).1 (EB hg).2 hf (beq_iff_eq.mp ht) (by show (Dr name od).map (·.isSome) = some false;rw [hl,hv];rfl) h
theorem aNV {ns:List Str} {Q:Unit → Shared → Prop} (X:K.In s.heap) (I:ObjM s.heap x dx C mA)
  (hs:As K (.ref C) "__setattr__" = some (some (.builtin "object.__setattr__"))) (hp:ER K C = true) (ht:Ed K C name = some none) (hh:DX K C = true)
  (hw:EY mA ns) (hsz:ns.length ≤ Aq)
  (h:∀ h',ObjM h' x dx C (fun y=>if y = name then some v else mA y) → DA dx s.heap h' → Q () { s with heap:=h',toks:=s.toks + 2 }) :
  wpAny (model prog w) A (setAttr (.ref x) name v) Q E s:=by
 obtain ⟨od,J,hl⟩:=I.look
 refine PySem.W.set_plain X J hs (PySem.W.osa_open (s:={ s with toks:=s.toks + 1 }) (r:=none) X J hp ht fun b=>?_)
 obtain ⟨cd,hc,hd'⟩:=PySem.W.any_some hh
 have hx:s.heap.get? x = some ⟨.ref C,some dx,.plain,#[]⟩:=I.obj
 refine AD (AZ (AD (AD (wpAny_loadPart hx (AD (PySem.W.Looks.here (s:={ s with toks:=s.toks + 1 }) (PySem.W.looks_clsIn X hc) ?_))))))
 rw [hd']
 refine AZ (a:=some dx) (AD (AZ (AD ?_)))
 refine wpAny_nsSet1 (s:={ s with toks:=s.toks + 1 }) I.ns fun h' hn2 hs2=>?_
 obtain ⟨oD,esD,epD,hoD,hdD,hcD⟩:=hn2.count (EY.cons name v hw)
 refine AD (wpAny_lookBehind hoD (by rw [hdD];exact pastItsLine_dict (BG hcD (by rw [Aj];omega))) ?_)
 exact AZ (h _ ⟨(hs2.2 _ (Ne.symm I.ne)).trans I.obj,hn2,I.ne⟩ hs2)
theorem aLI {R:Result → Shared → Prop} {vs:List Value} {kw:List (Str × Value)} (X:K.In s.heap) (hm:Dm K C = true)
  (hi:As K (.ref C) "__init__" = some (some (.ref f))) (hf:PySem.W.typeIn K (.ref f) = some (.type "function"))
  (h:codeAny (model prog w) (A.under (.builtin "type.__call__" ⟨.ref C :: vs,kw⟩)) (.call (.ref f) ⟨.ref (s.heap.objs.size + 1) :: vs,kw⟩) (PySem.W.InitBack (s.heap.objs.size + 1) R)
   { s with heap:=(s.heap.push Bn).push (CK C s.heap.objs.size) }) :
  codeAny (model prog w) A (.call (.ref C) ⟨vs,kw⟩) R s:=by
 obtain ⟨hh,g,d,t,os⟩:=s
 exact PySem.W.make_core (PySem.W.makes_of X hm) (PySem.W.looks_findIn X hi) (fun self=>PySem.W.bind_fn X self hf) (.inl rfl) h
end
def iV (f:Str) (v:V):List (Str × V) → List (Str × V)
 | []=>[(f,v)]
 | (g,x) :: r=>if g = f then (g,v) :: r else (g,x) :: iV f v r
theorem eZ (f g:Str) (v:V):∀ fs:List (Str × V),(iV f v fs).lookup g = if g = f then some v else fs.lookup g
 | []=>by
  show CB g [(f,v)] = _
  by_cases h:g = f
  ·have hb:(g == f) = true:=beq_iff_eq.mpr h
   simp only [CB,hb,if_pos h]
  ·have hb:(g == f) = false:=beq_eq_false_iff_ne.mpr h
   simp only [CB,hb,if_neg h]
 | (k,x) :: r=>by
  have ih:=eZ f g v r
  rw [show iV f v ((k,x) :: r) = (if k = f then (k,v) :: r else (k,x) :: iV f v r) from rfl]
  by_cases hk:k = f
  ·rw [if_pos hk]
   by_cases h:g = k
   ·have hb:(g == k) = true:=beq_iff_eq.mpr h
    simp only [CB,hb,if_pos (h.trans hk)]
   ·have hb:(g == k) = false:=beq_eq_false_iff_ne.mpr h
    simp only [CB,hb,if_neg (fun e:g = f=>h (e.trans hk.symm))]
  ·rw [if_neg hk]
   by_cases h:g = k
   ·have hb:(g == k) = true:=beq_iff_eq.mpr h
    simp only [CB,hb,if_neg (fun e:g = f=>hk (h.symm.trans e))]
   ·have hb:(g == k) = false:=beq_eq_false_iff_ne.mpr h
    simp only [CB,hb]
    exact ih
theorem rC (f:Str) (v:V):∀ fs:List (Str × V),f ∈ (iV f v fs).map (·.1) ∧ ∀ g,g ∈ fs.map (·.1) → g ∈ (iV f v fs).map (·.1)
 | []=>⟨by simp [iV],fun g h=>by simp at h⟩
 | (k,x) :: r=>by
  obtain ⟨i1,i2⟩:=rC f v r
  rw [show iV f v ((k,x) :: r) = (if k = f then (k,v) :: r else (k,x) :: iV f v r) from rfl]
  by_cases hk:k = f
  ·rw [if_pos hk]
   subst hk
   exact ⟨by simp,fun g h=>by simpa using h⟩
  ·rw [if_neg hk]
   refine ⟨?_,fun g h=>?_⟩
   ·rw [AY]
    exact AQ _ i1
   ·rw [AY] at h ⊢
    rcases Ah.mp h with e | e
    ·exact Ah.mpr (.inl e)
    ·exact AQ _ (i2 g e)
theorem sK (f:Str) (v:V):∀ fs:List (Str × V),(iV f v fs).length ≤ fs.length + 1
 | []=>by simp [iV]
 | (k,x) :: r=>by
  have ih:=sK f v r
  rw [show iV f v ((k,x) :: r) = (if k = f then (k,v) :: r else (k,x) :: iV f v r) from rfl]
  by_cases hk:k = f
  ·rw [if_pos hk,Aj,Aj];omega
  ·rw [if_neg hk,Aj,Aj];omega
theorem oK.some_of {v:V} {o:Option Value} (r:oK (some v) o):∃ u,o = some u ∧ bI v u:=by
 cases o with
 | none=>exact (show False from r).elim
 | some u=>exact ⟨u,rfl,r⟩
theorem oK.none_of {o:Option Value} (r:oK none o):o = none:=by
 cases o with
 | none=>rfl
 | some u=>exact (show False from r).elim
theorem aIF {v:V} {u:Value} (r:bI v u):PySem.W.handedIn u = true:=by
 cases v with
 | non=>cases (show u = Bg from r);rfl
 | bl b=>cases (show u = EQ b from r);rfl
 | int i=>obtain ⟨t,e⟩:=(show ∃ t,u = Dk i t from r);cases e;rfl
 | str x=>obtain ⟨t,e⟩:=(show ∃ t,u = Value.str x t from r);cases e;rfl
 | byt b=>obtain ⟨t,e⟩:=(show ∃ t,u = Value.bytes b t from r);cases e;rfl
 | flt b=>obtain ⟨t,e⟩:=(show ∃ t,u = Value.float b t from r);cases e;rfl
 | ref a=>cases (show u = Ap a from r);rfl
 | ty n=>cases (show u = Ca n from r);rfl
section
variable {P:Program} {w:World} {H H':Hp} {h h':Heap} {a C dx:Addr} {fs fs':List (Str × V)}
theorem tS (hok:HOk P w H h) (e:H a = some (.ins C dx fs)):∃ mA,ObjM h a dx C mA ∧ (∀ f,oK (fs.lookup f) (mA f)) ∧ EY mA (fs.map (·.1)) ∧ fs.length ≤ 1000 ∧ H dx = some (.own a):=by
 obtain ⟨d,z,ne,ob,mA,n,r,q⟩:=(show bP P w H h a (.ins C dx fs) from hok a _ e)
 exact ⟨mA,⟨ob,n,ne⟩,r,q,z,d⟩
end
structure Cls (K:AG) (C:Addr):Prop where
 pg:DC K C Str.empty = true
 hd:DX K C = true
 po:ER K C = true
 sa:As K (.ref C) "__setattr__" = some (some (.builtin "object.__setattr__"))
theorem Cls.get {K:AG} {C:Addr} (c:Cls K C) (f:Str):DC K C f = true:=c.pg
def nV (K:AG) (C:Addr) (f:Str):Prop:=As K (.ref C) f = some none
theorem nV.taker {K:AG} {C:Addr} {f:Str} (n:nV K C f):Ed K C f = some none:=by
 unfold Ed
 rw [show As K (.ref C) f = some none from n]
 rfl
structure Con (K:AG) (C:Addr) (f:Str) (v:V) (u:Value):Prop where
 at_:As K (.ref C) f = some (some u)
 rel:bI v u
 get:DW K u "__get__" = some none
 cp:PySem.W.copiedNames.contains f = false
structure Meth (K:AG) (C:Addr) (m:Str) (f:Addr):Prop where
 at_:As K (.ref C) m = some (some (.ref f))
 fn:Be K (.ref f) = true
 kp:AH K (.ref f) = true
section
variable {X:Cx} {pins:List (Addr × Obj)} {σ:St} {H:Hp} {s:Shared} {a C dx:Addr} {fs:List (Str × V)} {f:Str} {v:V} {A:Around} {E:Value → Shared → Prop}
theorem aES {b:Bool} {Q:Value → Shared → Prop} (I:Inv X pins σ H s) (e:H a = some (.ins C dx fs)) (c:Cls X.K C) (n:nV X.K C f) (l:fs.lookup f = some v)
  (h:∀ u s',Inv X pins σ H s' → bI v u → Q u s'):wpAny (model X.prog X.w) A (getAttr (.ref a) f b) Q E s:=by
 obtain ⟨mA,O,r,_,_,_⟩:=tS I.hok e
 obtain ⟨u,hu,ru⟩:=oK.some_of (v:=v) (o:=mA f) (by rw [← l];exact r f)
 exact aOU I.kIn O (c.get f) c.hd n hu (aIF ru) (h u _ (I.tok _) ru)
theorem vN {m:Str} {g:Addr} {pl:Sem Bool} {Q:Value × List Value → Shared → Prop} (I:Inv X pins σ H s) (e:H a = some (.ins C dx fs)) (c:Cls X.K C) (k:Meth X.K C m g) (l:fs.lookup m = none)
  (h:Q (.ref g,[.ref a]) s):wpAny (model X.prog X.w) A (EZ (.ref a) m pl) Q E s:=by
 obtain ⟨mA,O,r,_,_,_⟩:=tS I.hok e
 have hn:mA m = none:=oK.none_of (by rw [← l];exact r m)
 exact aLV I.kIn O (c.get m) k.at_ k.fn hn h
theorem aDV {y:V} {u:Value} {Q:Unit → Shared → Prop} (I:Inv X pins σ H s) (e:H a = some (.ins C dx fs)) (c:Cls X.K C) (n:nV X.K C f) (hl:fs.length < 1000) (ry:bI y u)
  (h:∀ s',Inv X pins σ (upd H a (.ins C dx (iV f y fs))) s' → Q () s'):wpAny (model X.prog X.w) A (setAttr (.ref a) f u) Q E s:=by
 obtain ⟨mA,O,r,wi,_,ho⟩:=tS I.hok e
 have hz:(fs.map (·.1)).length ≤ Aq:=by rw [AA,CJ];omega
 refine aNV I.kIn O c.sa c.po n.taker c.hd wi hz fun h' O' sb=>h _ ?_
 have hd:∃ o,h'.get? dx = some o:=let ⟨o,_,_,e',_⟩:=O'.ns;⟨o,e'⟩
 refine I.write (x:=a) (e:=dx) (by rw [e];exact CQ) (.inr ho) (fun b q hb z=>(sb.2 b hb).trans z) hd ?_
 refine ⟨by rw [aI O.ne];exact ho,?_,O.ne,O'.obj,_,O'.ns,fun g=>?_,fun g hg=>?_⟩
 ·have:=sK f y fs;omega
 ·show oK ((iV f y fs).lookup g) (if g = f then some u else mA g)
  rw [eZ]
  by_cases q:g = f
  ·rw [if_pos q,if_pos q];exact ry
  ·rw [if_neg q,if_neg q];exact r g
 ·by_cases q:g = f
  ·rw [q];exact (rC f y fs).1
  ·refine (rC f y fs).2 g (wi g fun z=>hg ?_)
   show (if g = f then some u else mA g) = none
   rw [if_neg q];exact z
theorem Inv.made (I:Inv X pins σ H s):Inv X pins σ (upd (upd H s.heap.objs.size (.own (s.heap.objs.size + 1))) (s.heap.objs.size + 1) (.ins C s.heap.objs.size []))
  { s with heap:=(s.heap.push Bn).push (CK C s.heap.objs.size) }:=by
 have e1:(s.heap.push Bn).get? s.heap.objs.size = some Bn:=Ab s.heap rfl
 have e2:((s.heap.push Bn).push (CK C s.heap.objs.size)).get? (s.heap.objs.size + 1) = some (CK C s.heap.objs.size):=by
  have:=Ab (s.heap.push Bn) (o:=CK C s.heap.objs.size) rfl
  rwa [Cz] at this
 have e3:(s.heap.push Bn).Ns s.heap.objs.size (fun _=>none):=⟨Bn,#[],_,e1,rfl,(fun e he=>absurd he (by simp)),fun _=>rfl⟩
 have I1:=I.laid (a:=s.heap.objs.size) (o:=.own (s.heap.objs.size + 1)) (h':=s.heap.push Bn) (t':=s.toks) (fun b u q=>AE _ q) (AN _) ⟨_,e1⟩
 refine I1.laid (a:=s.heap.objs.size + 1) (o:=.ins C s.heap.objs.size []) (t':=s.toks) (fun b u q=>AE _ q) (Dt (Cz _ _)) ?_
 have ne:s.heap.objs.size ≠ s.heap.objs.size + 1:=Af (DJ _)
 refine ⟨by rw [aI ne,aE],BK _,ne,e2,fun _=>none,(Heap.Ns1.of_empty e3).at fun o q=>AE _ q,fun _=>CQ,fun y hy=>absurd rfl hy⟩
theorem aPE {prog:Program} {w:World} {env:Env} {e:Expr} {f:Str} {pos:Pos} {s:Shared} {Q:Value → Shared → Prop} (hb:DP e f env (eval e env) = eval e env)
  (h:wpAny (model prog w) A (eval e env) (fun o s₁=>wpAny (model prog w) A (getAttr o f true) Q E s₁) E s):wpAny (model prog w) A (eval (.Attribute e f pos) env) Q E s :=
 Attribute_any_ h (by rw [arm_eval_Attribute,hb])
end
def aUE (K:AG) (ta:TE) (f:Str):TE:=fun σ H Q=>ta σ H fun x H1=>∃ a C dx fs v,x = .ref a ∧ H1 a = some (.ins C dx fs) ∧ Cls K C ∧ nV K C f ∧ fs.lookup f = some v ∧ Q v H1
def aUJ (K:AG) (ta tv:TE) (f:Str):TS:=fun D σ H=>tv σ H fun y H1=>ta σ H1 fun x H2=>∃ a C dx fs,x = .ref a ∧ H2 a = some (.ins C dx fs) ∧ Cls K C ∧ nV K C f ∧ fs.length < 1000 ∧
 D.nx σ (upd H2 a (.ins C dx (iV f y fs)))
def aTX (X:Cx) (op:Operator) (rd:V → V → Hp → VK → Prop):Prop :=
 ∀ (pins:List (Addr × Obj)) (s:Shared) (σ:St) (H:Hp) (x y:V) (u v:Value) (Q:VK),Inv X pins σ H s → bI x u → bI y v → rd x y H Q → wpAny (model X.prog X.w) X.A (inplaceOp op u v) (EP X pins σ Q) X.xe s
section
variable {X:Cx} {o e value:Expr} {f:Str} {pos pos' tpos:Pos} {ta tv:TE}
theorem uO (he:PE X e ta) (hb:DP e f X.env (eval e X.env) = eval e X.env):PE X (.Attribute e f pos) (aUE X.K ta f):=by
 intro pins s σ H Q I h
 refine aPE hb (thn (he pins s σ H _ I h) fun u s1 ⟨x,H1,I1,rx,a,C,dx,fs,v,ex,ea,c,n,l,q⟩=>?_)
 subst ex
 obtain rfl:u = Ap a:=rx
 exact aES I1 ea c n l fun u' s2 I2 ru=>⟨v,H1,I2,ru,q⟩
theorem aKP (ha:PE X o ta) (hv:PE X value tv) (hs:swapsWith value (some (.Attribute o f pos')) pos.line X.env = pure false):PS X (.Assign [.Attribute o f pos'] value pos) (aUJ X.K ta tv f):=by
 intro pins s σ H D I h
 refine plainObj_wpAny_Assign_Attribute (thn (hv pins s σ H _ I h) fun u s1 ⟨y,H1,I1,ry,q⟩=>thn (ha pins s1 σ H1 _ I1 q) fun ov s2 ⟨x,H2,I2,rx,a,C,dx,fs,ex,ea,c,n,l,q2⟩=>?_) hs
 subst ex
 obtain rfl:ov = Ap a:=rx
 exact aDV I2 ea c n l ry fun s3 I3=>⟨σ,_,I3,q2⟩
def aUM:V → V → Hp → VK → Prop:=fun x y H Q=>∃ i j,x = .int i ∧ y = .int j ∧ Q (.int (i + j)) H
theorem aRP:aTX X .Add aUM:=by
 rintro pins s σ H x y u v Q I rx ry ⟨i,j,rfl,rfl,q⟩
 obtain ⟨t,rfl⟩:=(show ∃ t,u = Dk i t from rx)
 obtain ⟨t',rfl⟩:=(show ∃ t',v = Dk j t' from ry)
 exact PyProof.Rows.iadd_int ⟨.int (i + j),H,I.tok _,⟨_,rfl⟩,q⟩
end
section
variable {X:Cx} {pins:List (Addr × Obj)} {σ:St} {H:Hp} {s:Shared} {A:Around} {E:Value → Shared → Prop} {Q:Value → Shared → Prop} {c:Value} {b:Bool}
inductive TyOf (K:AG) (H:Hp):V → Value → Prop where
 | non:TyOf K H .non (.type "NoneType")
 | bl (x:Bool):TyOf K H (.bl x) (.type "bool")
 | int (i:Int):TyOf K H (.int i) (.type "int")
 | str (x:Str):TyOf K H (.str x) (.type "str")
 | flt (x:UInt64):TyOf K H (.flt x) (.type "float")
 | lst {a:Addr} {xs:List V} (e:H a = some (.lst xs)):TyOf K H (.ref a) (.type "list")
 | frz {a:Addr} {o:Obj} {xs:List V} (e:H a = some (.frz o (.lst xs))):TyOf K H (.ref a) (.type "list")
 | tup {a:Addr} {xs:List V} (e:H a = some (.tup xs)):TyOf K H (.ref a) (.type "tuple")
 | dK {a:Addr} {kvs:List (Key × V)} (e:H a = some (.dK kvs)):TyOf K H (.ref a) (.type "dict")
 | dT {a:Addr} {kvs:List (List Key × V)} (e:H a = some (.dT kvs)):TyOf K H (.ref a) (.type "dict")
 | ins {a C dx:Addr} {fs:List (Str × V)} (e:H a = some (.ins C dx fs)) (cl:Cls K C) (ha:As K (.ref C) "__class__" = some (some (.builtin "object.__class__")))
   (hn:DW K (.builtin "object.__class__") "__get__" = some (some (.builtin "getset_descriptor.__get__"))) (htk:Ec K (.builtin "object.__class__") = some true)
   (hm:PySem.W.mroIn K C (.type "object") = some true):TyOf K H (.ref a) (.ref C)
theorem aIC {x:V} {u t:Value} (I:Inv X pins σ H s) (rx:bI x u) (ty:TyOf X.K H x t) (e:Bt X.K t c = some b) (h:∀ tk,Q (.bool b) { s with toks:=tk }) :
  wpAny (model X.prog X.w) A (call (.builtin "isinstance") [u,c]) Q E s:=by
 cases ty with
 | non=>cases (show u = Bg from rx);exact Bh PySem.W.kitx_none I.kIn CQ e (fun z=>nomatch z) h
 | bl y=>cases (show u = EQ y from rx);exact Bh PySem.W.kitx_bool I.kIn CQ e (fun z=>nomatch z) h
 | int i=>obtain ⟨t,q⟩:=(show ∃ t,u = Dk i t from rx);cases q;exact Bh PySem.W.kitx_int I.kIn CQ e (fun z=>nomatch z) h
 | str y=>obtain ⟨t,q⟩:=(show ∃ t,u = Value.str y t from rx);cases q;exact Bh PySem.W.kitx_str I.kIn CQ e (fun z=>nomatch z) h
 | flt y=>obtain ⟨t,q⟩:=(show ∃ t,u = Value.float y t from rx);cases q;exact Bh PySem.W.kitx_float I.kIn CQ e (fun z=>nomatch z) h
 | @lst a xs ea =>
  cases (show u = Ap a from rx)
  obtain ⟨_,_,n,_,h1⟩:=(show bP X.prog X.w H s.heap a (.lst xs) from I.hok a _ ea)
  exact Bh PySem.W.kitx_list I.kIn ⟨_,h1,rfl⟩ e (fun z=>nomatch z) h
 | @frz a ob xs ea =>
  cases (show u = Ap a from rx)
  obtain ⟨_,_,_,n,_,h1⟩:=(show bP X.prog X.w H s.heap a (.frz ob (.lst xs)) from I.hok a _ ea)
  exact Bh PySem.W.kitx_list I.kIn ⟨_,h1,rfl⟩ e (fun z=>nomatch z) h
 | @tup a xs ea =>
  cases (show u = Ap a from rx)
  obtain ⟨_,_,_,p⟩:=(show bP X.prog X.w H s.heap a (.tup xs) from I.hok a _ ea)
  obtain ⟨o,h1,h2,_⟩:=p
  exact Bh PySem.W.kitx_tuple I.kIn ⟨o,h1,h2⟩ e (fun z=>nomatch z) h
 | @dK a kvs ea =>
  cases (show u = Ap a from rx)
  obtain ⟨_,_,vs,_,p⟩:=(show bP X.prog X.w H s.heap a (.dK kvs) from I.hok a _ ea)
  obtain ⟨o,es,ep,h1,h2,_⟩:=p
  exact Bh PySem.W.kitx_dict I.kIn ⟨o,h1,h2.1⟩ e (fun z=>nomatch z) h
 | @dT a kvs ea =>
  cases (show u = Ap a from rx)
  obtain ⟨_,_,xs,_,o,es,ep,h1,h2,_⟩:=(show bP X.prog X.w H s.heap a (.dT kvs) from I.hok a _ ea)
  exact Bh PySem.W.kitx_dict I.kIn ⟨o,h1,h2.1⟩ e (fun z=>nomatch z) h
 | @ins a C dx fs ea cl ha hn htk hm =>
  cases (show u = Ap a from rx)
  obtain ⟨mA,O,_⟩:=tS I.hok ea
  obtain ⟨od,J,_⟩:=O.look
  exact Bh (PySem.W.kitx_own (cl.get _) cl.hd ha hn htk hm) I.kIn J e (fun z=>nomatch z) h
end
end L2
namespace L2
open PySem PySem.Spec PyProof.Rows
structure Room (k:Nat) (A:Around):Prop where
 hd:A.handled = none
 dp:A.depth + 3 * k + 5 < recursionLimit
 un:A.units + 16 * k + 200 < cLine
theorem Room.mono {j k:Nat} {A:Around} (r:Room k A) (h:j ≤ k):Room j A:=⟨r.hd,by have:=r.dp;omega,by have:=r.un;omega⟩
theorem Room.deeper {k:Nat} {A:Around} (r:Room (k + 1) A) (env:Env):Room k (A.deeper env) :=
 ⟨r.hd,by have:=r.dp;show A.depth + 1 + 3 * k + 5 < _;omega,by have:=r.un;show A.units + 3 + 16 * k + 200 < _;omega⟩
theorem Room.in1 {k:Nat} {A:Around} (r:Room (k + 1) A):Room k A.in1 :=
 ⟨r.hd,by have:=r.dp;show A.depth + 3 * k + 5 < _;omega,by have:=r.un;show A.units + 1 + 16 * k + 200 < _;omega⟩
theorem aEM {A:Around} {C:Addr} {us:List Value} {kw:List (Str × Value)}:(A.under (.builtin "type.__call__" ⟨.ref C :: us,kw⟩)).depth = A.depth + 1:=by
 first | rfl | simp [Around.under,Code.weight,Code.isCreation,Code.isGuard,Code.isCaller,Code.frames,Code.isFrame,guardIds]
theorem aEL {A:Around} {C:Addr} {us:List Value} {kw:List (Str × Value)}:(A.under (.builtin "type.__call__" ⟨.ref C :: us,kw⟩)).units = A.units + 1:=by
 first | rfl | simp [Around.under,Code.cUnits,Code.frames,Code.isFrame]
theorem Room.make {k:Nat} {A:Around} (r:Room (k + 1) A) (C:Addr) (us:List Value) (kw:List (Str × Value)):Room k (A.under (.builtin "type.__call__" ⟨.ref C :: us,kw⟩)) :=
 ⟨r.hd,by have:=r.dp;rw [aEM];omega,by have:=r.un;rw [aEL];omega⟩
theorem Room.depth {k:Nat} {A:Around} (r:Room k A):A.depth < recursionLimit:=by have:=r.dp;omega
theorem Room.units {k:Nat} {A:Around} (r:Room k A):A.units + 64 < cLine:=by have:=r.un;omega
def aHF:TA:=fun _ H Q=>Q [] H
def aBE (ta:TE) (tr:TA):TA:=fun σ H Q=>ta σ H fun x H1=>tr σ H1 fun xs H2=>Q (x :: xs) H2
section
variable {X:Cx} {e:Expr} {es:List Expr} {te:TE} {t:TA} {pos:Pos}
theorem aD:PA X [] aHF:=fun _ _ _ _ H Q I h=>Calls.spliced_nil ⟨[],H,I,.nil,h⟩
theorem aA (ha:PE X e te) (hr:PA X es t) (hs:At (e :: es) X.env = (false,eval e X.env) :: At es X.env:=by rfl):PA X (e :: es) (aBE te t):=by
 intro pos pins s σ H Q I h
 rw [hs]
 show wpAny _ _ (spliced ((false,eval e X.env) :: backTo pos (At es X.env))) _ _ s
 refine Calls.spliced_cons (thn (ha pins s σ H _ I h) fun u s1 ⟨x,H1,I1,r1,q1⟩=>?_)
 exact thn (hr pos pins s1 σ H1 _ I1 q1) fun us s2 ⟨xs,H2,I2,r2,q2⟩=>⟨x :: xs,H2,I2,.cons r1 r2,q2⟩
def aSC (t:TA):TE:=fun σ H Q=>t σ H fun xs H1=>xs.length ≤ Aq ∧ ∀ p,H1 p = none → Q (.ref p) (upd H1 p (.tup xs))
def aUD (t:TA):TE:=fun σ H Q=>t σ H fun xs H1=>xs.length ≤ Aq ∧ ∀ p,H1 p = none → Q (.ref p) (upd H1 p (.lst xs))
theorem dZ {x1} (h:PA X es t):PE X (.Tuple es x1 pos) (aSC t):=by
 intro pins s σ H Q I hq
 refine wpAny_Tuple_spliced (thn (h pos pins s σ H _ I hq) fun us s1 ⟨xs,H1,I1,r,z,q⟩=>⟨by rw [← r.length];exact z,?_⟩)
 have hf:H1 s1.heap.objs.size = none:=I1.hok.fresh (AN _)
 refine ⟨.ref s1.heap.objs.size,upd H1 s1.heap.objs.size (.tup xs),I1.laid (t':=s1.toks) (fun b u e=>AE _ e) (AN _) ?_,rfl,q _ hf⟩
 exact ⟨z,us,r,⟨_,Ab _ rfl,rfl,_,rfl,rfl⟩⟩
theorem cY (h:PA X es t):PE X (.List es pos) (aUD t):=by
 intro pins s σ H Q I hq
 refine wpAny_List_spliced (thn (h pos pins s σ H _ I hq) fun us s1 ⟨xs,H1,I1,r,z,q⟩=>⟨by rw [← r.length];exact z,?_⟩)
 have hf:H1 s1.heap.objs.size = none:=I1.hok.fresh (AN _)
 refine ⟨.ref s1.heap.objs.size,upd H1 s1.heap.objs.size (.lst xs),I1.laid (t':=s1.toks) (fun b u e=>AE _ e) (AN _) ?_,rfl,q _ hf⟩
 exact ⟨z,us,0,r,Ab _ rfl⟩
end
abbrev Sp:=List V → Hp → VK → XK → Prop
abbrev CXT:=List Env → Hp → Shared → XK → Value → Shared → Prop
structure Env0 (P:Program) (w:World) (K:AG) (mg:Str → Option Value) (base:Heap) (A:Around) (outer:List Env) (s:Shared) (H:Hp):Prop where
 frames:A.frames = some outer
 mod:Mod K mg base
 bs:∀ b o,base.get? b = some o → s.heap.get? b = some o ∧ H b = none
 bsz:base.objs.size ≤ s.heap.objs.size
 funs:s.heap.FunFrames base outer
 frf:∀ b ∈ frs outer,H b = none
 hok:HOk P w H s.heap
 bare:AllBare s.gens
def CE (outer:List Env) (P:Program) (w:World) (H:Hp) (s:Shared) (Q:VK) (u:Value) (s':Shared):Prop :=
 ∃ v H',s'.os = s.os ∧ AllBare s'.gens ∧ Un (frs outer) [] H H' s.heap s'.heap ∧ HOk P w H' s'.heap ∧ bI v u ∧ Q v H'
def CR (CX:CXT) (outer:List Env) (P:Program) (w:World) (H:Hp) (s:Shared) (Q:VK) (E:XK) (r:Result) (s':Shared):Prop :=
 match r with
 | .ok (.ret u)=>CE outer P w H s Q u s'
 | .ok _=>False
 | .error e=>CX outer H s E e s'
structure FnOk (P:Program) (w:World) (K:AG) (mg:Str → Option Value) (base:Heap) (CX:CXT) (k:Nat) (f:Addr) (fd:Bi) (ps:List Str) (sp:Sp):Prop where
 len:∀ vs H Q E,sp vs H Q E → vs.length = ps.length
 run:∀ (A:Around) (outer:List Env) (s:Shared) (H:Hp) (args:Args) (us:List Value) (vs:List V) (Q:VK) (E:XK),Room k A → Env0 P w K mg base A outer s H → BindsTo s fd args (ps.zip us) → bF vs us → sp vs H Q E →
  codeAny (model P w) A (.call (.ref f) args) (CR CX outer P w H s Q E) s
theorem FnOk.mono {P:Program} {w:World} {K:AG} {mg:Str → Option Value} {base:Heap} {CX:CXT} {j k:Nat} {f:Addr} {fd:Bi} {ps:List Str} {sp:Sp} (F:FnOk P w K mg base CX j f fd ps sp) (h:j ≤ k) :
  FnOk P w K mg base CX k f fd ps sp:=⟨F.len,fun A outer s H args us vs Q E hr=>F.run A outer s H args us vs Q E (hr.mono h)⟩
theorem FnOk.imp {P:Program} {w:World} {K:AG} {mg:Str → Option Value} {base:Heap} {CX:CXT} {k:Nat} {f:Addr} {fd:Bi} {ps:List Str} {sp sp':Sp} (F:FnOk P w K mg base CX k f fd ps sp)
  (h:∀ vs H Q E,sp' vs H Q E → sp vs H Q E):FnOk P w K mg base CX k f fd ps sp' :=
 ⟨fun vs H Q E q=>F.len vs H Q E (h _ _ _ _ q),fun A outer s H args us vs Q E hr he hb hv hs=>F.run A outer s H args us vs Q E hr he hb hv (h _ _ _ _ hs)⟩
theorem Env0.make {P:Program} {w:World} {K:AG} {mg:Str → Option Value} {base:Heap} {A:Around} {outer:List Env} {s:Shared} {H:Hp} (e:Env0 P w K mg base A outer s H) (C:Addr) (us:List Value) (kw:List (Str × Value)) :
  Env0 P w K mg base (A.under (.builtin "type.__call__" ⟨.ref C :: us,kw⟩)) outer s H:=⟨by first | exact e.frames | (simpa [Around.under,Code.envs,Code.isFrame,pushEnvs] using e.frames),e.mod,e.bs,e.bsz,e.funs,e.frf,e.hok,e.bare⟩
theorem Env0.in1 {P:Program} {w:World} {K:AG} {mg:Str → Option Value} {base:Heap} {A:Around} {outer:List Env} {s:Shared} {H:Hp} (e:Env0 P w K mg base A outer s H) :
  Env0 P w K mg base A.in1 outer s H:=⟨e.frames,e.mod,e.bs,e.bsz,e.funs,e.frf,e.hok,e.bare⟩
section
variable {X:Cx} {pins:List (Addr × Obj)} {σ:St} {H:Hp} {s s':Shared}
theorem Inv.env0 (I:Inv X pins σ H s):Env0 X.prog X.w X.K X.mg X.base X.A X.stack s H :=
 ⟨I.ok.frames,I.ok.mod,I.bs,BG I.ok.bsz I.sz,I.stack,I.stkFree,I.hok,I.bare⟩
theorem Inv.after {Q:VK} {u:Value} (I:Inv X pins σ H s) (h:CE X.stack X.prog X.w H s Q u s'):EP X pins σ Q u s':=by
 obtain ⟨v,H',os,bare,un,hok,r,q⟩:=h
 obtain ⟨hh,g,d,t,os'⟩:=s'
 obtain rfl:os' = s.os:=os
 exact ⟨v,H',I.call (h':=hh) (g':=g) (d':=d) (t':=t) (ch:=[]) un hok bare (fun b z=>absurd z (by simp)),r,q⟩
end
def aPP (sp:Sp) (dvs:List V) (E:XK) (t:TA):TE:=fun σ H Q=>t σ H fun vs H1=>sp (vs ++ dvs) H1 Q E
def aFO (C:Addr) (m:Str) (sp:Sp) (dvs:List V) (E:XK) (ta:TE) (t:TA):TE:=fun σ H Q=>ta σ H fun x H1=>∃ a dx fs,x = .ref a ∧ H1 a = some (.ins C dx fs) ∧ fs.lookup m = none ∧
 t σ H1 fun vs H2=>sp (x :: (vs ++ dvs)) H2 Q E
def aPN (C:Addr) (sp:Sp) (dvs:List V) (E:XK) (t:TA):TE:=fun σ H Q=>t σ H fun vs H1=>∀ x dx,H1 x = none → H1 dx = none → dx ≠ x →
 sp (.ref x :: (vs ++ dvs)) (upd (upd H1 dx (.own x)) x (.ins C dx [])) (fun v H2=>v = .non ∧ Q (.ref x) H2) E
def jV (K:AG) (fd:Bi) (ps:List Str) (ds:List Value):Prop :=
 ∀ (s:Shared) (us:List Value),K.In s.heap → (us ++ ds).length = ps.length → BindsTo s fd ⟨us,[]⟩ (ps.zip (us ++ ds))
theorem jV.all {K:AG} {fd:Bi} {ps:List Str} (h:∀ us:List Value,us.length = ps.length → EX fd ⟨us,[]⟩ = pure (ps.zip us)):jV K fd ps []:=fun s us _ hl=>by
 rw [Bp] at hl ⊢
 exact .of_eq (h us hl)
def pH (CX:CXT) (X:Cx) (E:XK):Prop:=∀ (pins:List (Addr × Obj)) (σ:St) (H:Hp) (s:Shared) (e:Value) (s':Shared),Inv X pins σ H s → CX X.stack H s E e s' → X.xe e s'
section
variable {X:Cx} {CX:CXT} {k:Nat} {f C:Addr} {fd:Bi} {ps:List Str} {sp:Sp} {dvs:List V} {ds:List Value} {E:XK} {x m:Str} {p pos apos:Pos} {e o:Expr} {es:List Expr} {ta:TE} {t:TA}
theorem aDY {pins:List (Addr × Obj)} {σ:St} {H:Hp} {s:Shared} {Q:VK} {us:List Value} {vs:List V} (F:FnOk X.prog X.w X.K X.mg X.base CX k f fd ps sp) (hr:Room k X.A) (hb:jV X.K fd ps ds) (hd:bF dvs ds) (hx:pH CX X E)
  (I:Inv X pins σ H s) (r:bF vs us) (h:sp (vs ++ dvs) H Q E):wpAny (model X.prog X.w) X.A (call (.ref f) us) (EP X pins σ Q) X.xe s:=by
 have r2:bF (vs ++ dvs) (us ++ ds):=r.append hd
 have hl:(us ++ ds).length = ps.length:=by rw [← r2.length];exact F.len _ _ _ _ h
 refine wpAny_call (Cr (F.run X.A X.stack s H ⟨us,[]⟩ (us ++ ds) (vs ++ dvs) Q E hr I.env0 (hb s us I.kIn hl) r2 h) fun r s' hq=>?_)
 cases r with
 | error e=>exact hx pins σ H s e s' I hq
 | ok fl =>
  cases fl with
  | ret u=>exact I.after hq
  | next=>exact BT hq
  | brk=>exact BT hq
  | cont=>exact BT hq
theorem aOF (F:FnOk X.prog X.w X.K X.mg X.base CX k f fd ps sp) (hr:Room k X.A) (hg:Gl X x) (hm:X.mg x = some (.ref f)) (hk:AH X.K (.ref f) = true) (hb:jV X.K fd ps ds) (hd:bF dvs ds) (hx:pH CX X E)
  (ha:PA X (e :: es) t) (hdb:(x == ("__debug__":Str)) = false:=by decide) (he:At (e :: es) X.env = (false,eval e X.env) :: At es X.env:=by rfl) (hpl:(backTo pos (At es X.env)).any (·.1) = false:=by rfl) :
  PE X (.Call (.Name x p) (e :: es) [] pos) (aPP sp dvs E t):=by
 intro pins s σ H Q I h
 refine CM (aAF I hg hm ?_ hdb)
 refine EF (h₀:=X.base) I.ok.mod.kin hk (thn (ha pos pins s σ H _ I h) fun us s1 ⟨vs,H1,I1,r,q⟩=>⟨I1.kIn,?_⟩) he hpl
 exact aDY F hr hb hd hx I1 r q
theorem aOB {pl:Sem Bool} (he:PE X o ta) (c:Cls X.K C) (hm:Meth X.K C m f) (F:FnOk X.prog X.w X.K X.mg X.base CX k f fd ps sp) (hr:Room k X.A) (hb:jV X.K fd ps ds) (hd:bF dvs ds) (hx:pH CX X E) (ha:PA X (e :: es) t)
  (hst:At (e :: es) X.env = (false,eval e X.env) :: At es X.env:=by rfl) (hpl:(backTo pos (At es X.env)).any (·.1) = false:=by rfl)
  (ht:eval (.Call (.Attribute o m apos) (e :: es) [] pos) X.env = (do
   let ov ← eval o X.env
   standAt apos.atName
   let (f,first) ← holding [ov] (EZ ov m pl)
   callWith pos f first (backTo pos (At (e :: es) X.env)) (DR pos (Cf [] X.env))):=by rfl) :
  PE X (.Call (.Attribute o m apos) (e :: es) [] pos) (aFO C m sp dvs E ta t):=by
 intro pins s σ H Q I h
 refine PySem.W.methodCall_KW (pl:=pl) (thn (he pins s σ H _ I h) fun u s1 ⟨x,H1,I1,rx,a,dx,fs,ex,ea,l,q⟩=>?_) ht
 subst ex
 obtain rfl:u = Ap a:=rx
 refine vN I1 ea c hm l ?_
 refine EF (first:=[.ref a]) (h₀:=X.base) I.ok.mod.kin hm.kp (thn (ha pos pins s1 σ H1 _ I1 q) fun us s2 ⟨vs,H2,I2,r,q2⟩=>⟨I2.kIn,?_⟩) hst hpl
 exact aDY (us:=.ref a :: us) (vs:=.ref a :: vs) F hr hb hd hx I2 (.cons rfl r) q2
theorem aKW {pl:Sem Bool} (he:PE X o ta) (c:Cls X.K C) (hm:Meth X.K C m f) (F:FnOk X.prog X.w X.K X.mg X.base CX k f fd ps sp) (hr:Room k X.A) (hb:jV X.K fd ps ds) (hd:bF dvs ds) (hx:pH CX X E)
  (ht:eval (.Call (.Attribute o m apos) [] [] pos) X.env = (do
   let ov ← eval o X.env
   standAt apos.atName
   let (f,first) ← holding [ov] (EZ ov m pl)
   callWith pos f first (backTo pos (At [] X.env)) (DR pos (Cf [] X.env))):=by rfl) :
  PE X (.Call (.Attribute o m apos) [] [] pos) (aFO C m sp dvs E ta aHF):=by
 intro pins s σ H Q I h
 refine PySem.W.methodCall_KW (pl:=pl) (thn (he pins s σ H _ I h) fun u s1 ⟨x,H1,I1,rx,a,dx,fs,ex,ea,l,q⟩=>?_) ht
 subst ex
 obtain rfl:u = Ap a:=rx
 refine vN I1 ea c hm l ?_
 exact PySem.W.callWith_K0 (first:=[.ref a]) I1.kIn hm.kp (aDY (us:=[.ref a]) (vs:=[.ref a]) F hr hb hd hx I1 (.cons rfl .nil) q)
structure Mk (K:AG) (C f:Addr):Prop where
 makes:Dm K C = true
 init:As K (.ref C) "__init__" = some (some (.ref f))
 fn:Be K (.ref f) = true
 kp:AH K (.ref C) = true
theorem aKG {pins:List (Addr × Obj)} {σ:St} {H:Hp} {s:Shared} {Q:VK} {us:List Value} {vs:List V} (M:Mk X.K C f) (F:FnOk X.prog X.w X.K X.mg X.base CX k f fd ps sp) (hr:Room (k + 1) X.A) (hb:jV X.K fd ps ds) (hd:bF dvs ds)
  (hx:pH CX X E) (I:Inv X pins σ H s) (r:bF vs us)
  (h:∀ x dx,H x = none → H dx = none → dx ≠ x → sp (.ref x :: (vs ++ dvs)) (upd (upd H dx (.own x)) x (.ins C dx [])) (fun v H2=>v = .non ∧ Q (.ref x) H2) E) :
  wpAny (model X.prog X.w) X.A (call (.ref C) us) (EP X pins σ Q) X.xe s:=by
 have hq:=h (s.heap.objs.size + 1) s.heap.objs.size (I.hok.fresh (CO _)) (I.hok.fresh (AN _)) (Af (DJ _))
 have I2:=Inv.made (C:=C) I
 have r2:bF (V.ref (s.heap.objs.size + 1) :: (vs ++ dvs)) (Ap (s.heap.objs.size + 1) :: (us ++ ds)):=.cons rfl (r.append hd)
 have hl:(Ap (s.heap.objs.size + 1) :: us ++ ds).length = ps.length:=by
  have e:=r2.length
  rw [F.len _ _ _ _ hq] at e
  exact e.symm
 refine wpAny_call (aLI (f:=f) I.kIn M.makes M.init (beq_iff_eq.mp M.fn) (Cr (F.run _ X.stack _ _ ⟨Ap (s.heap.objs.size + 1) :: us,[]⟩ (Ap (s.heap.objs.size + 1) :: (us ++ ds)) _ _ E (hr.make C us [])
  (I2.env0.make C us []) (hb _ (Ap (s.heap.objs.size + 1) :: us) I2.kIn hl) r2 hq) fun r s' hq'=>?_))
 cases r with
 | error e=>exact hx pins σ _ _ e s' I2 hq'
 | ok fl =>
  cases fl with
  | ret u =>
   obtain ⟨v,H',I3,rv,ev,q3⟩:=I2.after hq'
   subst ev
   exact ⟨rv,⟨V.ref (s.heap.objs.size + 1),H',I3,rfl,q3⟩⟩
  | next=>exact BT hq'
  | brk=>exact BT hq'
  | cont=>exact BT hq'
theorem aOC (M:Mk X.K C f) (F:FnOk X.prog X.w X.K X.mg X.base CX k f fd ps sp) (hr:Room (k + 1) X.A) (hg:Gl X x) (hm:X.mg x = some (.ref C)) (hb:jV X.K fd ps ds) (hd:bF dvs ds) (hx:pH CX X E)
  (ha:PA X (e :: es) t) (hdb:(x == ("__debug__":Str)) = false:=by decide) (he:At (e :: es) X.env = (false,eval e X.env) :: At es X.env:=by rfl) (hpl:(backTo pos (At es X.env)).any (·.1) = false:=by rfl) :
  PE X (.Call (.Name x p) (e :: es) [] pos) (aPN C sp dvs E t):=by
 intro pins s σ H Q I h
 refine CM (aAF I hg hm ?_ hdb)
 refine EF (h₀:=X.base) I.ok.mod.kin M.kp (thn (ha pos pins s σ H _ I h) fun us s1 ⟨vs,H1,I1,r,q⟩=>⟨I1.kIn,?_⟩) he hpl
 exact aKG M F hr hb hd hx I1 r q
end
def PK (X:Cx) (kws:List Keyword) (t:TA):Prop :=
 ∀ (pos:Pos) (pins:List (Addr × Obj)) (s:Shared) (σ:St) (H:Hp) (Q:List V → Hp → Prop),Inv X pins σ H s → t σ H Q → wpAny (model X.prog X.w) X.A (evalAll ((DR pos (Cf kws X.env)).map (·.2))) (AP X pins σ Q) X.xe s
section
variable {X:Cx} {CX:CXT} {k:Nat} {f C:Addr} {fd:Bi} {ps ks:List Str} {sp:Sp} {E:XK} {x m:Str} {p pos apos kpos:Pos} {e o:Expr} {es:List Expr} {kws:List Keyword} {te ta:TE} {t tk:TA} {nm:Option Str}
theorem aQU:PK X [] aHF:=fun _ _ _ _ H Q I h=>wpAny_evalAll_nil ⟨[],H,I,.nil,h⟩
theorem aOA (ha:PE X e te) (hr:PK X kws t):PK X (⟨nm,e,kpos⟩ :: kws) (aBE te t):=by
 intro pos pins s σ H Q I h
 show wpAny _ _ (evalAll ((do let v ← eval e X.env;standAt pos;pure v) :: (DR pos (Cf kws X.env)).map (·.2))) _ _ s
 refine wpAny_evalAll_cons (AD (thn (ha pins s σ H _ I h) fun u s1 ⟨x,H1,I1,r1,q1⟩=>AD (Eg (AZ ?_))))
 exact thn (hr pos pins s1 σ H1 _ I1 q1) fun us s2 ⟨xs,H2,I2,r2,q2⟩=>⟨x :: xs,H2,I2,.cons r1 r2,q2⟩
structure KBinds (K:AG) (fd:Bi) (ps ks:List Str) (g:List Value → List Value → List Value) (gV:List V → List V → List V):Prop where
 to:∀ (s:Shared) (us ws:List Value),K.In s.heap → (g us ws).length = ps.length → BindsTo s fd ⟨us,ks.zip ws⟩ (ps.zip (g us ws))
 rel:∀ {vs:List V} {us:List Value} {zs:List V} {ws:List Value},bF vs us → bF zs ws → bF (gV vs zs) (g us ws)
variable {g:List Value → List Value → List Value} {gV:List V → List V → List V}
end
structure FnScope (N P:List Str) (sc:Scope):Prop where
 kind:sc.kind = .function
 co:sc.isCoroutine = false
 gen:sc.isGenerator = false
 nd:N.Nodup
 pre:N.take P.length = P
 par:∀ x ∈ P,sc.names.lookup x = some .local ∨ sc.names.lookup x = some .cell
 nofree:∀ y ∈ sc.names,y.2 ≠ .free
theorem yU {kindOf:Str → Option BD} {x:Str}:∀ {binds:List (Str × Value)} {m:Str → Option Value},(∀ v,(x,v) ∉ binds) → bindL kindOf binds m x = m x
 | [],_,_=>rfl
 | (n,v) :: r,m,h=>by
  unfold bindL
  rw [yU fun w hw=>h w (AQ _ hw)]
  split
  ·have:x ≠ n:=by rintro rfl;exact h v AU
   simp [this]
  ·rfl
theorem yW {kindOf:Str → Option BD} {x:Str}:∀ {binds:List (Str × Value)} {m:Str → Option Value},(∀ v,(x,v) ∉ binds) → bindC kindOf binds m x = m x
 | [],_,_=>rfl
 | (n,v) :: r,m,h=>by
  unfold bindC
  rw [yW fun w hw=>h w (AQ _ hw)]
  split
  ·rfl
  ·have:x ≠ n:=by rintro rfl;exact h v AU
   simp [this]
theorem yV {kindOf:Str → Option BD} {x:Str} {v:Value}:∀ {P:List Str} {vs:List Value} {i:Nat} {m:Str → Option Value},P.Nodup → P[i]? = some x → vs[i]? = some v → kindOf x = some .local →
  bindL kindOf (P.zip vs) m x = some v
 | [],_,_,_,_,h,_,_=>by simp at h
 | _ :: _,[],_,_,_,_,h,_=>by simp at h
 | p :: P,w :: vs,0,m,nd,h1,h2,hk=>by
  simp at h1 h2;subst h1;subst h2
  show bindL kindOf ((p,w) :: P.zip vs) m p = _
  unfold bindL
  rw [yU fun v hv=>(Ak.mp nd).1 (Dw hv).1,if_pos hk]
  simp
 | p :: P,w :: vs,i + 1,m,nd,h1,h2,hk=>by
  show bindL kindOf ((p,w) :: P.zip vs) m x = _
  unfold bindL
  exact yV (i:=i) (Ak.mp nd).2 (by simpa using h1) (by simpa using h2) hk
theorem yX {kindOf:Str → Option BD} {x:Str} {v:Value}:∀ {P:List Str} {vs:List Value} {i:Nat} {m:Str → Option Value},P.Nodup → P[i]? = some x → vs[i]? = some v → kindOf x ≠ some .local →
  bindC kindOf (P.zip vs) m x = some v
 | [],_,_,_,_,h,_,_=>by simp at h
 | _ :: _,[],_,_,_,_,h,_=>by simp at h
 | p :: P,w :: vs,0,m,nd,h1,h2,hk=>by
  simp at h1 h2;subst h1;subst h2
  show bindC kindOf ((p,w) :: P.zip vs) m p = _
  unfold bindC
  rw [yW fun v hv=>(Ak.mp nd).1 (Dw hv).1,if_neg hk]
  simp
 | p :: P,w :: vs,i + 1,m,nd,h1,h2,hk=>by
  show bindC kindOf ((p,w) :: P.zip vs) m x = _
  unfold bindC
  exact yX (i:=i) (Ak.mp nd).2 (by simpa using h1) (by simpa using h2) hk
def start (N:List Str) (vs:List V):St:=vs.map some ++ List.replicate (N.length - vs.length) none
def mG (CX:CXT) (P:Program) (w:World) (K:AG) (mg:Str → Option Value) (base:Heap) (N:List Str) (qual:Str) (scope:Scope) (f:Addr) (cd:Value) (A:Around) (outer:List Env) (s:Shared) (H:Hp) (E:XK):Cx where
 prog:=P
 w:=w
 K:=K
 mg:=mg
 base:=base
 A:=A.deeper (envOfC qual scope s.heap.objs.size f cd)
 N:=N
 s₀:=s
 H₀:=H
 env:=envOfC qual scope s.heap.objs.size f cd
 outer:=outer
 stack:=envOfC qual scope s.heap.objs.size f cd :: outer
 ex:=[]
 calm:=true
 fn:=fun _=>true
 pn:=[]
 xe:=fun e s'=>wpAny (model P w) (A.deeper (envOfC qual scope s.heap.objs.size f cd)) (leaving (envOfC qual scope s.heap.objs.size f cd) e) (fun _ s''=>CX outer H s E e s'') (fun e' s''=>CX outer H s E e' s'') s'
theorem aDE {sc:Scope} {n:Nat} {x:Str} (h:sc.names.lookup x = some .cell):∃ c,(cellsFrom n sc.names []).lookup x = some c:=by
 have q:=Dl sc.names n [] (.inl h)
 exact Option.isSome_iff_exists.mp q
theorem yC {CX:CXT} {P:Program} {w:World} {K:AG} {mg:Str → Option Value} {base:Heap} {N ps:List Str} {qual:Str} {scope:Scope} {f:Addr} {cd:Value} {A:Around} {outer:List Env} {s s1:Shared} {H:Hp} {E:XK} {us:List Value} {vs:List V}
  (S:FnScope N ps scope) (hd:A.handled = none) (e0:Env0 P w K mg base A outer s H) (hl:vs.length = ps.length) (r:bF vs us)
  (x:InCallC s s.heap.objs.size (bindL (envOfC qual scope s.heap.objs.size f cd).kindOf (ps.zip us) fun _=>none) (cellsFrom (s.heap.objs.size + 1) scope.names []) (bindC (envOfC qual scope s.heap.objs.size f cd).kindOf (ps.zip us) fun _=>none) s1) :
  Inv (mG CX P w K mg base N qual scope f cd A outer s H E) [] (start N vs) H s1:=by
 have hpl:ps.length ≤ N.length:=by have:=congrArg Cs S.pre;rw [AW] at this;omega
 obtain ⟨h1,tk,rfl,hk⟩:=x.done
 have noA:∀ b:Addr,b ∉ (mG CX P w K mg base N qual scope f cd A outer s H E).ex:=fun b z=>absurd (show b ∈ ([]:List Addr) from z) (by simp)
 refine ⟨⟨e0.mod,S.kind,rfl,rfl,AN _,fun y z c h1 h2=>?_,fun y hy=>?_,fun y c _ h=>?_,fun _=>hd,Around.frames_deeper e0.frames,.inr ⟨rfl,rfl⟩,fun b z=>absurd z (noA b),e0.bs,e0.bsz,fun b _ _=>noA b,fun b z=>absurd z (noA b),e0.funs,e0.frf⟩,
  rfl,e0.bare,Un.kept hk,⟨_,x.toInCall.ns,fun i y v h1 h2 h3=>?_⟩,fun y c h=>⟨_,x.cell y c h⟩,e0.hok.fresh (AN _),fun y c h=>?_,fun p hp=>absurd (show p ∈ ([]:List (Addr × Obj)) from hp) (by simp),e0.hok.kept hk,?_⟩
 ·exact name_of_addr x.apart (Cp h1) (Cp h2)
 ·have hy:scope.names.lookup y = some .cell ∨ scope.names.lookup y = some .free:=hy
  rcases hy with hy | hy
  ·exact aDE hy
  ·exact absurd rfl (S.nofree _ (Cp hy))
 ·exact Ee (x.above y c (Cp h))
 ·have hi:i < vs.length:=by
   unfold start at h2
   by_cases hi:i < vs.length
   ·exact hi
   ·rw [CF (by simpa using hi)] at h2
    rw [List.getElem?_replicate] at h2
    split at h2 <;> cases h2
  have ha:vs[i]? = some v:=by
   unfold start at h2
   rw [BX (by simpa using hi),AI] at h2
   cases e:vs[i]? with
   | none=>rw [e] at h2;cases h2
   | some a=>rw [e] at h2;cases h2;rfl
  obtain ⟨u,hu,rv⟩:=r.get ha
  have hp:ps[i]? = some y:=by
   rw [← S.pre,Bj (by omega)];exact h1
  have ndP:ps.Nodup:=by rw [← S.pre];exact S.nd.sublist (Da _ _)
  refine ⟨u,rv,?_⟩
  rcases S.par y (AM hp) with k | k
  ·exact .inl ⟨k,yV ndP hp hu k⟩
  ·obtain ⟨c,e⟩:=aDE (n:=s.heap.objs.size + 1) k
   refine .inr ⟨.inl k,c,e,?_⟩
   have q:=x.cell y c e
   rw [yX ndP hp hu (by show scope.names.lookup y ≠ _;rw [k];decide)] at q
   exact q
 ·exact e0.hok.fresh (Ee (x.above y c (Cp h)))
 ·unfold start
  show _ = N.length
  rw [Ae,AA,List.length_replicate]
  omega
theorem aPZ {CX:CXT} {P:Program} {w:World} {K:AG} {mg:Str → Option Value} {base:Heap} {k:Nat} {f:Addr} {name qual:Str} {params:Dh} {body:List Stmt} {scope:Scope} {dV kV doc pm cdv ct oc:Value} {an od:Option Addr}
  {osl:Array (Option Value)} {N ps:List Str} {sp:Sp} (lk:K.lookup f = some ⟨oc,od,.func (AO name qual params body scope dV kV doc pm an cdv ct),osl⟩) (hcd:AJ K cdv qual = true) (S:FnScope N ps scope)
  (len:∀ vs H Q E,sp vs H Q E → vs.length = ps.length)
  (hbody:∀ (A:Around) (outer:List Env) (s:Shared) (H:Hp) (vs:List V) (Q:VK) (E:XK),Room k (A.deeper (envOfC qual scope s.heap.objs.size f cdv)) → sp vs H Q E →
   ∃ t,PSs (mG CX P w K mg base N qual scope f cdv A outer s H E) body t ∧ t { nx:=fun _ H'=>Q .non H',rt:=Q } (start N vs) H) :
  FnOk P w K mg base CX (k + 1) f (AO name qual params body scope dV kV doc pm an cdv ct) ps sp:=by
 refine ⟨len,fun A outer s H args us vs Q E hr e0 hb r hsp=>?_⟩
 have hl:=len _ _ _ _ hsp
 have KX:K.In s.heap:=e0.mod.kin.keeps fun b o e=>(e0.bs b o e).1
 have lim:s.heap.NoLimit:=e0.mod.nolimit.keeps fun b o e=>(e0.bs b o e).1
 have hkind:∀ y ∈ ps.zip us,scope.names.lookup y.1 = some .local ∨ (scope.names.lookup y.1 = some .cell ∧ ((cellsFrom (s.heap.objs.size + 1) scope.names []).lookup y.1).isSome = true):=fun ⟨n,v⟩ hy=>by
  rcases S.par n (Dw hy).1 with q | q
  ·exact .inl q
  ·exact .inr ⟨q,Dl _ _ _ (.inl q)⟩
 refine codeAny_call_function hr.depth (KX _ _ lk) rfl S.co S.gen rfl (PySem.W.codeRec_of KX hcd) (hb _ _ _ _ ?_)
 refine wpAny_newFunctionEnv_cells S.kind hkind fun env he s1 x=>?_
 subst he
 refine ⟨lim.keeps x.toInCall.keep,codeAny_func ?_⟩
 obtain ⟨t,ht,hq⟩:=hbody A outer s H vs Q E (hr.deeper _) hsp
 have I:Inv (mG CX P w K mg base N qual scope f cdv A outer s H E) [] (start N vs) H s1:=yC S hr.hd e0 hl r x
 refine BL (ht [] s1 (start N vs) H _ I hq) (fun fl s' hs=>?_) fun e s' hs=>hs
 have fin:∀ {σ':St} {H':Hp} {v:V} {u:Value},Inv (mG CX P w K mg base N qual scope f cdv A outer s H E) [] σ' H' s' → bI v u → Q v H' → CE outer P w H s Q u s' :=
  fun {σ' H' v u} J rv q=>⟨v,H',J.os,J.bare,J.base,J.hok,rv,q⟩
 cases fl with
 | ret u =>
  obtain ⟨v,σ',H',J,rv,q⟩:=hs
  exact fin J rv q
 | next =>
  obtain ⟨σ',H',J,q⟩:=hs
  exact fin (v:=V.non) (u:=Bg) J rfl q
 | brk =>
  obtain ⟨_,_,_,q⟩:=hs
  exact BT q
 | cont =>
  obtain ⟨_,_,_,q⟩:=hs
  exact BT q
end L2
namespace L2
open PySem PySem.Spec PyProof.Rows
section
variable {X:Cx} {x:Str} {p pos:Pos} {e:Expr} {es:List Expr} {t:TA} {id T:String} {r:List V → Hp → VK → Prop}
def tCB (r:List V → Hp → VK → Prop) (t:TA):TE:=fun σ H Q=>t σ H fun vs H1=>r vs H1 Q
theorem aP (hc:eO X (.builtin id) r) (hg:Gl X x) (hm:X.mg x = none) (hv:BP x = some (.builtin id)) (ha:PA X (e :: es) t) (hn:x ≠ "__name__":=by decide) (hdb:(x == ("__debug__":Str)) = false:=by decide)
  (he:At (e :: es) X.env = (false,eval e X.env) :: At es X.env:=by rfl) (hpl:(backTo pos (At es X.env)).any (·.1) = false:=by rfl):PE X (.Call (.Name x p) (e :: es) [] pos) (tCB r t):=by
 intro pins s σ H Q I h
 refine CM (nB I hg hm hv ?_ hn hdb)
 exact PyProof.Rows.callWith_builtin1 (thn (ha pos pins s σ H _ I h) fun us s1 ⟨vs,H1,I1,r1,q1⟩=>hc pins s1 σ H1 vs us Q I1 r1 q1) he hpl
theorem bV (hc:eO X (.type T) r) (hg:Gl X x) (hm:X.mg x = none) (hv:BP x = some (.type T)) (ha:PA X (e :: es) t) (hn:x ≠ "__name__":=by decide) (hdb:(x == ("__debug__":Str)) = false:=by decide)
  (he:At (e :: es) X.env = (false,eval e X.env) :: At es X.env:=by rfl) (hpl:(backTo pos (At es X.env)).any (·.1) = false:=by rfl):PE X (.Call (.Name x p) (e :: es) [] pos) (tCB r t):=by
 intro pins s σ H Q I h
 refine CM (nB I hg hm hv ?_ hn hdb)
 exact Bu (thn (ha pos pins s σ H _ I h) fun us s1 ⟨vs,H1,I1,r1,q1⟩=>hc pins s1 σ H1 vs us Q I1 r1 q1) he hpl
end
end L2
namespace L2
open PySem PySem.Spec PyProof.Rows
section
variable {κ:Type} [DecidableEq κ]
def cX (kvs:List (κ × V)) (k:κ):Option V:=(kvs.find? fun kv=>decide (kv.1 = k)).map (·.2)
def iU (kvs:List (κ × V)) (k:κ) (v:V):List (κ × V) :=
 if (kvs.any fun kv=>decide (kv.1 = k)) = true then kvs.map (fun kv=>if kv.1 = k then (kv.1,v) else kv) else kvs ++ [(k,v)]
def dropK (kvs:List (κ × V)) (k:κ):List (κ × V):=kvs.filter fun kv=>decide (kv.1 ≠ k)
theorem cP {p:κ × V} {r:List (κ × V)} {k:κ} (e:p.1 = k):cX (p :: r) k = some p.2:=by simp [cX,Bl,e]
theorem cQ {p:κ × V} {r:List (κ × V)} {k:κ} (e:¬ p.1 = k):cX (p :: r) k = cX r k:=by simp [cX,Bl,e]
theorem jA (k:κ):∀ kvs:List (κ × V),(kvs.any fun kv=>decide (kv.1 = k)) = (cX kvs k).isSome
 | []=>rfl
 | p :: r=>by
  rw [Df]
  by_cases e:p.1 = k
  ·simp only [cP e,decide_eq_true e,Bool.true_or,Option.isSome_some]
  ·rw [cQ e,decide_eq_false e,Bool.false_or];exact jA k r
theorem aBA (k j:κ) (y:V):∀ kvs:List (κ × V),cX (kvs.map fun kv=>if kv.1 = k then (kv.1,y) else kv) j = (cX kvs j).map fun x=>if j = k then y else x
 | []=>rfl
 | p :: r=>by
  have ih:=aBA k j y r
  rw [AY]
  by_cases h:p.1 = k
  ·rw [if_pos h]
   by_cases e:p.1 = j
   ·rw [cP (p:=(p.1,y)) e,cP e,Cq,if_pos (e.symm.trans h)]
   ·rw [cQ (p:=(p.1,y)) e,cQ e,ih]
  ·rw [if_neg h]
   by_cases e:p.1 = j
   ·rw [cP (p:=p) e,cP e,Cq,if_neg (fun z=>h (e.trans z))]
   ·rw [cQ (p:=p) e,cQ e,ih]
theorem xE (k j:κ) (y:V):∀ kvs:List (κ × V),cX kvs k = none → cX (kvs ++ [(k,y)]) j = if j = k then some y else cX kvs j
 | [],_=>by
  by_cases e:k = j
  ·rw [if_pos e.symm];exact cP (p:=(k,y)) e
  ·rw [if_neg (fun z=>e z.symm)];exact cQ (p:=(k,y)) e
 | p :: r,hn=>by
  rw [List.cons_append]
  have hk:¬ p.1 = k:=fun z=>by rw [cP z] at hn;cases hn
  rw [cQ hk] at hn
  have ih:=xE k j y r hn
  by_cases e:p.1 = j
  ·rw [cP e,cP e,if_neg (fun z=>hk (e.trans z))]
  ·rw [cQ e,cQ e,ih]
theorem aAZ (kvs:List (κ × V)) (k j:κ) (y:V):cX (iU kvs k y) j = if j = k then some y else cX kvs j:=by
 unfold iU
 by_cases a:(kvs.any fun kv=>decide (kv.1 = k)) = true
 ·rw [if_pos a,aBA]
  rw [jA] at a
  by_cases e:j = k
  ·obtain ⟨x,hx⟩:=Option.isSome_iff_exists.mp a
   rw [if_pos e,e,hx,Cq,if_pos rfl]
  ·rw [if_neg e]
   cases cX kvs j with
   | none=>rfl
   | some x=>rw [Cq,if_neg e]
 ·rw [if_neg a]
  refine xE k j y kvs ?_
  rw [jA] at a
  cases q:cX kvs k with
  | none=>rfl
  | some x=>rw [q] at a;exact (a rfl).elim
theorem nA (kvs:List (κ × V)) (k:κ) (v:V):(iU kvs k v).length ≤ kvs.length + 1:=by
 unfold iU
 split
 ·rw [AA];omega
 ·rw [Ae,Aj,Dy];omega
theorem aKN {kvs:List (κ × V)} {k:κ} (v:V) (h:cX kvs k = none):iU kvs k v = kvs ++ [(k,v)]:=by
 unfold iU
 rw [jA,h]
 exact if_neg (by decide)
theorem oK.isSome_eq {o:Option V} {u:Option Value} (r:oK o u):o.isSome = u.isSome:=by
 cases o with
 | none=>cases u with
  | none=>rfl
  | some _=>exact (show False from r).elim
 | some _=>cases u with
  | none=>exact (show False from r).elim
  | some _=>rfl
theorem KV.val {kvs:List (κ × V)} {vs:List (κ × Value)} (r:KV kvs vs) (k:κ):oK (cX kvs k) (valueAt vs k):=by
 unfold KV at r
 induction r with
 | nil=>exact CQ
 | @cons p q ps qs h t ih =>
  obtain ⟨h1,h2⟩:=h
  by_cases e:p.1 = k
  ·have e':q.1 = k:=h1.symm.trans e
   have b:valueAt (q :: qs) k = some q.2:=by simp [valueAt,Bl,e']
   rw [cP e,b];exact h2
  ·have e':¬ q.1 = k:=fun z=>e (h1.trans z)
   have b:valueAt (q :: qs) k = valueAt qs k:=by simp [valueAt,Bl,e']
   rw [cQ e,b];exact ih
theorem KV.any {kvs:List (κ × V)} {vs:List (κ × Value)} (r:KV kvs vs) (k:κ):(kvs.any fun kv=>decide (kv.1 = k)) = vs.any fun kv=>decide (kv.1 = k):=by
 unfold KV at r
 induction r with
 | nil=>rfl
 | cons h t ih=>rw [Df,Df,ih,h.1]
theorem KV.repl {kvs:List (κ × V)} {vs:List (κ × Value)} (r:KV kvs vs) (k:κ) {y:V} {u:Value} (ry:bI y u) :
  KV (kvs.map fun kv=>if kv.1 = k then (kv.1,y) else kv) (vs.map fun kv=>if kv.1 = k then (kv.1,u) else kv):=by
 unfold KV at r ⊢
 induction r with
 | nil=>exact .nil
 | @cons p q ps qs h t ih =>
  rw [AY,AY]
  refine .cons ?_ ih
  obtain ⟨h1,h2⟩:=h
  by_cases e:p.1 = k
  ·rw [if_pos e,if_pos (h1.symm.trans e)];exact ⟨h1,ry⟩
  ·rw [if_neg e,if_neg (fun z=>e (h1.trans z))];exact ⟨h1,h2⟩
theorem KV.put {kvs:List (κ × V)} {vs:List (κ × Value)} (r:KV kvs vs) (k:κ) {y:V} {u:Value} (ry:bI y u):KV (iU kvs k y) (stored vs k u):=by
 unfold iU stored
 rw [r.any k]
 by_cases e:(vs.any fun kv=>decide (kv.1 = k)) = true
 ·rw [if_pos e,if_pos e];exact r.repl k ry
 ·rw [if_neg e,if_neg e];exact DF r ⟨rfl,ry⟩
theorem KV.keys {kvs:List (κ × V)} {vs:List (κ × Value)} (r:KV kvs vs):kvs.map (·.1) = vs.map (·.1):=by
 unfold KV at r
 induction r with
 | nil=>rfl
 | cons h t ih=>rw [AY,AY,ih,h.1]
theorem KV.length {kvs:List (κ × V)} {vs:List (κ × Value)} (r:KV kvs vs):kvs.length = vs.length:=By r
end
theorem aCQ {P:Program} {w:World} {k:Key} {u:Value} (r:bI (kV k) u):(aS P w).is k u = true:=by
 cases k with
 | inl i=>obtain ⟨t,e⟩:=(show ∃ t,u = Dk i t from r);subst e;exact aCM P w i t
 | inr x=>obtain ⟨t,e⟩:=(show ∃ t,u = Value.str x t from r);subst e;exact aCL P w x t
theorem yB {P:Program} {w:World}:∀ {ks:List Key} {us:List Value},bF (ks.map kV) us → ItemsAre (aS P w) ks us
 | [],_,r=>by rw [Cc] at r;cases r;exact .nil
 | k :: ks,_,r=>by
  rw [AY] at r
  cases r with
  | cons h t=>exact .cons (aCQ h) (yB t)
abbrev KT (H:Hp):List (List Key × V) → List (List Key × Addr × Value) → Prop:=Paired fun p q=>p.1 = q.1 ∧ H q.2.1 = some (.tup (p.1.map kV)) ∧ bI p.2 q.2.2
theorem KT.val {H:Hp} {kvs:List (List Key × V)} {xs:List (List Key × Addr × Value)} (r:KT H kvs xs) (k:List Key):oK (cX kvs k) ((atKey xs k).map (·.2)):=by
 induction r with
 | nil=>exact CQ
 | @cons p q ps qs h t ih =>
  obtain ⟨h1,_,h2⟩:=h
  by_cases e:p.1 = k
  ·have e':q.1 = k:=h1.symm.trans e
   have b:atKey (q :: qs) k = some q.2:=by simp [atKey,Bl,e']
   rw [cP e,b];exact h2
  ·have e':¬ q.1 = k:=fun z=>e (h1.trans z)
   have b:atKey (q :: qs) k = atKey qs k:=by simp [atKey,Bl,e']
   rw [cQ e,b];exact ih
theorem KT.repl {H:Hp} {kvs:List (List Key × V)} {xs:List (List Key × Addr × Value)} (r:KT H kvs xs) (k:List Key) {y:V} {u:Value} (ry:bI y u) :
  KT H (kvs.map fun kv=>if kv.1 = k then (kv.1,y) else kv) (xs.map (putAt k u)):=by
 induction r with
 | nil=>exact .nil
 | @cons p q ps qs h t ih =>
  rw [AY,AY]
  refine .cons ?_ ih
  obtain ⟨h1,h2,h3⟩:=h
  unfold putAt
  by_cases e:p.1 = k
  ·rw [if_pos e,if_pos (h1.symm.trans e)];exact ⟨h1,h2,ry⟩
  ·rw [if_neg e,if_neg (fun z=>e (h1.trans z))];exact ⟨h1,h2,h3⟩
theorem KT.put {H:Hp} {kvs:List (List Key × V)} {xs:List (List Key × Addr × Value)} (r:KT H kvs xs) (k:List Key) {b:Addr} {y:V} {u:Value} (hb:H b = some (.tup (k.map kV))) (ry:bI y u) :
  KT H (iU kvs k y) (storedH xs k b u):=by
 have e:(kvs.any fun kv=>decide (kv.1 = k)) = (atKey xs k).isSome:=by
  rw [jA,(r.val k).isSome_eq,EU]
 unfold iU storedH
 rw [e]
 by_cases q:(atKey xs k).isSome = true
 ·rw [if_pos q,if_pos q];exact r.repl k ry
 ·rw [if_neg q,if_neg q];exact DF r ⟨rfl,hb,ry⟩
theorem KT.keeps {H H':Hp} {kvs:List (List Key × V)} {xs:List (List Key × Addr × Value)} (r:KT H kvs xs) (ht:∀ b ys,H b = some (.tup ys) → H' b = some (.tup ys)):KT H' kvs xs :=
 Paired.mapP r fun _ _ z=>⟨z.1,ht _ _ z.2.1,z.2.2⟩
section
variable {P:Program} {w:World} {H:Hp} {h:Heap} {a:Addr}
theorem aPV {u:HO} (ok:HOk P w H h) (e:Rd H a u):bP P w H h a u:=e.ok ok
theorem aCY {kvs:List (Key × V)} (ok:HOk P w H h) (e:Rd H a (.dK kvs)):kvs.length ≤ Aq ∧ (a == Ci) = false ∧ ∃ vs,KV kvs vs ∧ h.DictOf (aS P w) a vs :=
 show bP P w H h a (.dK kvs) from aPV ok e
theorem aQA {kvs:List (Key × V)} (ok:HOk P w H h) (e:H a = some (.dK kvs)):kvs.length ≤ Aq ∧ (a == Ci) = false ∧ ∃ vs,KV kvs vs ∧ h.DictOf (aS P w) a vs:=aCY ok (.inl e)
theorem rD {ks:List Key} (ok:HOk P w H h) (e:H a = some (.tup (ks.map kV))):(CL (aS P w)).is h ks a:=by
 obtain ⟨_,its,r,o,h1,h2,n,h3,_⟩:=(show bP P w H h a (.tup (ks.map kV)) from ok a _ e)
 exact ⟨o,its.toArray,n,h1,h2,h3,by simpa using yB r⟩
theorem aCX {kvs:List (List Key × V)} (ok:HOk P w H h) (e:Rd H a (.dT kvs)):kvs.length ≤ Aq ∧ (a == Ci) = false ∧
  ∃ xs,KT H kvs xs ∧ h.DictOfH (CL (aS P w)) a xs:=by
 obtain ⟨z,y,xs,r,o,es,ep,h1,h2,h3,h4,h5⟩:=(show bP P w H h a (.dT kvs) from aPV ok e)
 refine ⟨z,y,xs,r,o,es,ep,h1,h2,h3,h4,fun x hx=>?_,h5⟩
 have all:∀ {l:List (List Key × V)} {m:List (List Key × Addr × Value)},KT H l m → ∀ x ∈ m,(CL (aS P w)).is h x.1 x.2.1:=by
  intro l m q
  induction q with
  | nil=>intro x hx;exact nomatch hx
  | @cons p q ps qs hq t ih =>
   intro x hx
   rcases Ah.mp hx with e | hx
   ·subst e
    exact rD ok (by rw [← hq.1];exact hq.2.1)
   ·exact ih x hx
 exact all r x hx
theorem aTT {kvs:List (List Key × V)} (ok:HOk P w H h) (e:H a = some (.dT kvs)):kvs.length ≤ Aq ∧ (a == Ci) = false ∧
  ∃ xs,KT H kvs xs ∧ h.DictOfH (CL (aS P w)) a xs:=aCX ok (.inl e)
end
def rX (H:Hp) (a:Addr) (y:V) (r:Option V):Prop :=
 (∃ kvs k,Rd H a (.dK kvs) ∧ y = kV k ∧ r = cX kvs k) ∨ ∃ kvs k b,Rd H a (.dT kvs) ∧ y = .ref b ∧ H b = some (.tup (k.map kV)) ∧ r = cX kvs k
def xB (H:Hp) (a:Addr) (y v:V) (H':Hp):Prop :=
 (∃ kvs k,H a = some (.dK kvs) ∧ y = kV k ∧ kvs.length < Aq ∧ H' = upd H a (.dK (iU kvs k v))) ∨
 ∃ kvs k b,H a = some (.dT kvs) ∧ y = .ref b ∧ H b = some (.tup (k.map kV)) ∧ kvs.length < Aq ∧ H' = upd H a (.dT (iU kvs k v))
theorem rX.k {H:Hp} {a:Addr} {kvs:List (Key × V)} {k:Key} (e:H a = some (.dK kvs)):rX H a (kV k) (cX kvs k):=.inl ⟨kvs,k,.inl e,rfl,rfl⟩
theorem xB.k {H:Hp} {a:Addr} {kvs:List (Key × V)} {k:Key} {v:V} (e:H a = some (.dK kvs)) (hl:kvs.length < Aq):xB H a (kV k) v (upd H a (.dK (iU kvs k v))):=.inl ⟨kvs,k,e,rfl,hl,rfl⟩
theorem xB.t {H:Hp} {a b:Addr} {kvs:List (List Key × V)} {k:List Key} {v:V} (e:H a = some (.dT kvs)) (eb:H b = some (.tup (k.map kV))) (hl:kvs.length < Aq) :
  xB H a (.ref b) v (upd H a (.dT (iU kvs k v))):=.inr ⟨kvs,k,b,e,rfl,eb,hl,rfl⟩
section
variable {X:Cx} {pins:List (Addr × Obj)} {σ:St} {H:Hp} {s:Shared} {a:Addr} {y v:V} {u r:Value} {o:Option V} {A:Around} {E:Value → Shared → Prop}
theorem Inv.big (I:Inv X pins σ H s):Ci < s.heap.objs.size:=by
 have h:AK < s.heap.objs.size:=(I.mod.glob.keeps I.bk).lt
 exact DT (by decide) h
theorem yK {Q:Value → Shared → Prop} (hu:A.units + 1 < cLine) (I:Inv X pins σ H s) (g:rX H a y (some v)) (ry:bI y u) (h:∀ w' s',Inv X pins σ H s' → bI v w' → Q w' s') :
  wpAny (model X.prog X.w) A (getItem (.ref a) u) Q E s:=by
 rcases g with ⟨kvs,k,e,ey,l⟩ | ⟨kvs,k,b,e,ey,eb,l⟩
 ·subst ey
  obtain ⟨z,hd,vs,rel,dd⟩:=aCY I.hok e
  obtain ⟨w',hw,rw'⟩:=oK.some_of (v:=v) (o:=valueAt vs k) (by rw [l];exact rel.val k)
  exact wpAny_getItem_of (aCQ ry) dd.mapOf hw (h w' _ (I.tok _) rw')
 ·subst ey
  cases (show u = Ap b from ry)
  obtain ⟨z,hd,xs,rel,dd⟩:=aCX I.hok e
  obtain ⟨w',hw,rw'⟩:=oK.some_of (v:=v) (o:=(atKey xs k).map (·.2)) (by rw [l];exact rel.val k)
  obtain ⟨p,hp,hp2⟩:=Ao.mp hw
  refine wpAny_getItem_heap (DB hu) (rD I.hok eb) dd hp ?_
  rw [hp2]
  exact h w' _ (I.tok _) rw'
theorem aUX {Q:Value → Shared → Prop} (hu:A.units + 1 < cLine) (I:Inv X pins σ H s) (g:rX H a y o) (ry:bI y u) (h:∀ s',Inv X pins σ H s' → Q (.bool o.isSome) s') :
  wpAny (model X.prog X.w) A (BV .In u (.ref a)) Q E s:=by
 rcases g with ⟨kvs,k,e,ey,l⟩ | ⟨kvs,k,b,e,ey,eb,l⟩
 ·subst ey
  obtain ⟨z,hd,vs,rel,dd⟩:=aCY I.hok e
  refine wpAny_in_of (aCQ ry) hd dd.mapOf ?_
  rw [← (rel.val k).isSome_eq,← l]
  exact h _ (I.tok _)
 ·subst ey
  cases (show u = Ap b from ry)
  obtain ⟨z,hd,xs,rel,dd⟩:=aCX I.hok e
  refine wpAny_in_heap (DB hu) (rD I.hok eb) hd dd ?_
  have q:=(rel.val k).isSome_eq
  rw [EU] at q
  rw [← q,← l]
  exact h _ (I.tok _)
theorem aPA {Q:Value → Shared → Prop} (hu:A.units + 1 < cLine) (I:Inv X pins σ H s) (g:rX H a y o) (ry:bI y u) (h:∀ s',Inv X pins σ H s' → Q (.bool (!o.isSome)) s') :
  wpAny (model X.prog X.w) A (BV .NotIn u (.ref a)) Q E s:=by
 rcases g with ⟨kvs,k,e,ey,l⟩ | ⟨kvs,k,b,e,ey,eb,l⟩
 ·subst ey
  obtain ⟨z,hd,vs,rel,dd⟩:=aCY I.hok e
  refine wpAny_notIn_of (aCQ ry) hd dd.mapOf ?_
  rw [← (rel.val k).isSome_eq,← l]
  exact h _ (I.tok _)
 ·subst ey
  cases (show u = Ap b from ry)
  obtain ⟨z,hd,xs,rel,dd⟩:=aCX I.hok e
  refine wpAny_notIn_heap (DB hu) (rD I.hok eb) hd dd ?_
  have q:=(rel.val k).isSome_eq
  rw [EU] at q
  rw [← q,← l]
  exact h _ (I.tok _)
theorem aAL {h':Heap} {t':Nat} {ob:HO} (I:Inv X pins σ H s) (mu:Mut (H a)) (hs:DA a s.heap h') (he:∃ q,h'.get? a = some q) (new:bP X.prog X.w (upd H a ob) h' a ob) :
  Inv X pins σ (upd H a ob) { s with heap:=h',toks:=t' } :=
 I.write (x:=a) (e:=a) mu (.inl rfl) (fun b q hb z=>(hs.2 b hb).trans z) he new
theorem aMN {P:Program} {w:World} {H':Hp} {h':Heap} {kvs:List (Key × V)} {vs:List (Key × Value)} (z:kvs.length ≤ Aq) (hd:(a == Ci) = false) (rel:KV kvs vs) (dd:h'.DictOf (aS P w) a vs) :
  bP P w H' h' a (.dK kvs):=⟨z,hd,vs,rel,dd⟩
theorem yJ {H':Hp} {Q:Unit → Shared → Prop} (hu:A.units + 1 < cLine) (I:Inv X pins σ H s) (g:xB H a y v H') (ry:bI y u) (rv:bI v r) (h:∀ s',Inv X pins σ H' s' → Q () s') :
  wpAny (model X.prog X.w) A (setItem (.ref a) u r) Q E s:=by
 rcases g with ⟨kvs,k,e,ey,l,eH⟩ | ⟨kvs,k,b,e,ey,eb,l,eH⟩
 ·subst ey eH
  obtain ⟨z,hd,vs,rel,dd⟩:=aQA I.hok e
  have hz:vs.length ≤ Aq:=by rw [← rel.length];exact z
  have hl:(iU kvs k v).length ≤ Aq:=by have:=nA kvs k v;omega
  refine wpAny_setItem_pairs (hsz:=hz) (aCQ ry) dd fun h' dd' hs=>h _ ?_
  have he:∃ q,h'.get? a = some q:=let ⟨q,_,_,hq,_⟩:=dd';⟨q,hq⟩
  exact aAL I (by rw [e];exact CQ) hs he (aMN hl hd (rel.put k rv) dd')
 ·subst ey eH
  cases (show u = Ap b from ry)
  obtain ⟨z,hd,xs,rel,dd⟩:=aTT I.hok e
  have hz:xs.length ≤ Aq:=by rw [← By rel];exact z
  have hl:(iU kvs k v).length ≤ Aq:=by have:=nA kvs k v;omega
  refine wpAny_setItem_heap (hsz:=hz) (DB hu) (rD I.hok eb) dd fun h' dd' hs=>h _ ?_
  obtain ⟨q,es,ep,hq,h2,h3,h4,_,h5⟩:=dd'
  refine aAL I (by rw [e];exact CQ) hs ⟨q,hq⟩ ⟨hl,hd,_,(rel.put k eb rv).keeps fun c ys ec=>?_,q,es,ep,hq,h2,h3,h4,h5⟩
  rw [aI (xT ec e (fun z=>nomatch z))]
  exact ec
end
section
variable {X:Cx} {pins:List (Addr × Obj)} {σ:St} {H:Hp} {s:Shared} {a:Addr} {kvs:List (Key × V)} {k:Key} {u:Value} {A:Around} {E:Value → Shared → Prop}
theorem aPB {Q:Value → Shared → Prop} (I:Inv X pins σ H s) (e:H a = some (.dK kvs)) (h:∀ s',Inv X pins σ (upd H a (.dK [])) s' → Q .none s'):wpAny (model X.prog X.w) A (call (.builtin "dict.clear") [.ref a]) Q E s:=by
 obtain ⟨z,hd,vs,rel,dd⟩:=aQA I.hok e
 refine call_meetsIn PySem.F.slot_dict_clear dd.typeIs PySem.F.entry_dict_clear (PySem.F.args_dict_clear_1 _) (meets_dict_clear (aS X.prog X.w) a) ⟨vs,dd,by rw [← rel.length];exact z,fun h' dd' hs=>h _ ?_⟩
 have he:∃ q,h'.get? a = some q:=let ⟨q,_,_,hq,_⟩:=dd';⟨q,hq⟩
 exact aAL (t':=s.toks) I (by rw [e];exact CQ) hs he (aMN (BK _) hd .nil dd')
end
def aTW (i:Expr):Prop:=∀ ov iv,Ew i false ov iv = operate [ov,iv] (getItem ov iv)
theorem aNL {prog:Program} {w:World} {A:Around} {E:Value → Shared → Prop} {s:Shared} {env:Env} {value slice:Expr} {pos:Pos} {T id:String} {Q:Value → Shared → Prop}
  (hl:typeLookup (.type T) "__getitem__" = pure (some (.builtin id))) (hs:aTW slice)
  (h:wpAny (model prog w) A (eval value env) (fun o s₁=>wpAny (model prog w) A (eval slice env) (fun i s₂=>s₂.TypeIs o T ∧ wpAny (model prog w) A (getItem o i) Q E s₂) E s₁) E s) :
  wpAny (model prog w) A (eval (.Subscript value slice pos) env) Q E s:=by
 refine Subscript_ (BL h (fun o s₁ h₁=>BL h₁ (fun i s₂ h₂=>?_) fun _ _ x=>x) fun _ _ x=>x)
 obtain ⟨hT,h₂⟩:=h₂
 unfold subscriptTail
 refine AD ?_
 rw [getitemInPython_of_ne hT.not_modules]
 refine AD (Ey hT hl ?_)
 have fin:wpAny (model prog w) A (Ew slice false o i) (fun r s₃=>wpAny (model prog w) A (letTemporaryGo value o r >>= fun _=>pure r) Q E s₃) E s₂:=by
  rw [hs o i]
  exact wpAny_operating (BL h₂ (fun r s₃ h₃=>AD (wpAny_letTemporaryGo (AZ h₃))) fun _ _ x=>x)
 first
  | exact AZ (AD fin)
  | exact AD (AZ (AD fin))
  | exact AD fin
theorem aCZ {X:Cx} {pins:List (Addr × Obj)} {σ:St} {H:Hp} {s:Shared} {a:Addr} {y:V} {o:Option V} (I:Inv X pins σ H s) (g:rX H a y o):s.TypeIs (.ref a) "dict":=by
 rcases g with ⟨kvs,k,e,_,_⟩ | ⟨kvs,k,b,e,_,_,_⟩
 ·obtain ⟨_,_,vs,_,dd⟩:=aCY I.hok e
  exact dd.typeIs
 ·obtain ⟨_,_,xs,_,dd⟩:=aCX I.hok e
  exact dd.typeIs
def aSK (td ty:TE):TE:=fun σ H Q=>td σ H fun x H1=>ty σ H1 fun y H2=>∃ a v,x = .ref a ∧ rX H2 a y (some v) ∧ Q v H2
def aUF (ty td:TE):TE:=fun σ H Q=>ty σ H fun y H1=>td σ H1 fun x H2=>∃ a o,x = .ref a ∧ rX H2 a y o ∧ Q (.bl o.isSome) H2
def aNK (ty td:TE):TE:=fun σ H Q=>ty σ H fun y H1=>td σ H1 fun x H2=>∃ a o,x = .ref a ∧ rX H2 a y o ∧ Q (.bl (!o.isSome)) H2
def aSO (td ty tv:TE):TS:=fun D σ H=>tv σ H fun v H1=>td σ H1 fun x H2=>ty σ H2 fun y H3=>∃ a H4,x = .ref a ∧ xB H3 a y v H4 ∧ D.nx σ H4
def aSP (td ty tv:TE) (rd:V → V → Hp → VK → Prop):TS:=fun D σ H=>td σ H fun x H1=>ty σ H1 fun y H2=>∃ a v,x = .ref a ∧ rX H2 a y (some v) ∧
 tv σ H2 fun y2 H3=>rd v y2 H3 fun z H4=>∃ H5,xB H4 a y z H5 ∧ D.nx σ H5
section
variable {X:Cx} {o i e value:Expr} {pos pos' tpos:Pos} {td ty tv:TE}
theorem eB (hu:X.A.units + 1 < cLine) (ho:PE X o td) (hi:PE X i ty) (hs:aTW i):PE X (.Subscript o i pos) (aSK td ty):=by
 intro pins s σ H Q I h
 refine aNL PySem.F.slot_dict_getitem.lookup hs (thn (ho pins s σ H _ I h) fun u s1 ⟨x,H1,I1,rx,q1⟩=>thn (hi pins s1 σ H1 _ I1 q1) fun iv s2 ⟨y,H2,I2,ry,a,v,ex,g,q2⟩=>?_)
 subst ex
 obtain rfl:u = Ap a:=rx
 exact ⟨aCZ I2 g,yK hu I2 g ry fun w' s3 I3 rw'=>⟨v,H2,I3,rw',q2⟩⟩
theorem aLC (hu:X.A.units + 1 < cLine) (hi:PE X i ty) (ho:PE X o td):PC X .In i o (aUF ty td):=by
 intro pins s σ H Q I h
 refine thn (hi pins s σ H _ I h) fun iv s1 ⟨y,H1,I1,ry,q1⟩=>thn (ho pins s1 σ H1 _ I1 q1) fun u s2 ⟨x,H2,I2,rx,a,ov,ex,g,q2⟩=>?_
 subst ex
 obtain rfl:u = Ap a:=rx
 exact aUX hu I2 g ry fun s3 I3=>⟨.bl ov.isSome,H2,I3,rfl,q2⟩
theorem qU (hu:X.A.units + 1 < cLine) (hi:PE X i ty) (ho:PE X o td):PC X .NotIn i o (aNK ty td):=by
 intro pins s σ H Q I h
 refine thn (hi pins s σ H _ I h) fun iv s1 ⟨y,H1,I1,ry,q1⟩=>thn (ho pins s1 σ H1 _ I1 q1) fun u s2 ⟨x,H2,I2,rx,a,ov,ex,g,q2⟩=>?_
 subst ex
 obtain rfl:u = Ap a:=rx
 exact aPA hu I2 g ry fun s3 I3=>⟨.bl (!ov.isSome),H2,I3,rfl,q2⟩
theorem tQ (hu:X.A.units + 1 < cLine) (ho:PE X o td) (hi:PE X i ty) (hv:PE X value tv) (hs:swapsWith value (some (.Subscript o i pos')) pos.line X.env = pure false) :
  PS X (.Assign [.Subscript o i pos'] value pos) (aSO td ty tv):=by
 intro pins s σ H D I h
 refine wpAny_Assign_Subscript (thn (hv pins s σ H _ I h) fun r s1 ⟨v,H1,I1,rv,q1⟩=>thn (ho pins s1 σ H1 _ I1 q1) fun u s2 ⟨x,H2,I2,rx,q2⟩=>thn (hi pins s2 σ H2 _ I2 q2) fun iv s3 ⟨y,H3,I3,ry,a,H4,ex,g,q3⟩=>?_) hs
 subst ex
 obtain rfl:u = Ap a:=rx
 exact yJ hu I3 g ry rv fun s4 I4=>⟨σ,H4,I4,q3⟩
theorem aNY {op:Operator} {rd:V → V → Hp → VK → Prop} (hu:X.A.units + 1 < cLine) (ho:PE X o td) (hi:PE X i ty) (hv:PE X value tv) (hop:aTX X op rd)
  (ha:∀ ov iv new,augStore i ov iv new = (do holding [new,ov,iv] (setItem ov iv new);release [new,ov,iv] [];pure .next)):PS X (.AugAssign (.Subscript o i tpos) op value pos) (aSP td ty tv rd):=by
 intro pins s σ H D I h
 refine wpAny_AugAssign_SubscriptAny (thn (ho pins s σ H _ I h) fun u s1 ⟨x,H1,I1,rx,q1⟩=>thn (hi pins s1 σ H1 _ I1 q1) fun iv s2 ⟨y,H2,I2,ry,a,v,ex,g,q2⟩=>?_) ha
 subst ex
 obtain rfl:u = Ap a:=rx
 refine yK hu I2 g ry fun w' s3 I3 rw'=>thn (hv pins s3 σ H2 _ I3 q2) fun w2 s4 ⟨y2,H3,I4,ry2,q3⟩=>thn (hop pins s4 σ H3 v y2 w' w2 _ I4 rw' ry2 q3) fun w3 s5 ⟨z,H4,I5,rz,H5,g5,q4⟩=>?_
 exact yJ hu I5 g5 ry rz fun s6 I6=>⟨σ,H5,I6,q4⟩
end
theorem aMO {P:Program} {w:World} {H:Hp} (h:Heap) (hb:Ci < h.objs.size):bP P w H (h.push { cls:=.type "dict",data:=.dict #[] }) h.objs.size (.dK []) :=
 ⟨BK _,beq_eq_false_iff_ne.mpr (Ne.symm (Af hb)),[],.nil,Heap.DictOf.new h⟩
theorem aMM {P:Program} {w:World} {H:Hp} (h:Heap) (hb:Ci < h.objs.size):bP P w H (h.push { cls:=.type "dict",data:=.dict #[] }) h.objs.size (.dT []) :=
 ⟨BK _,beq_eq_false_iff_ne.mpr (Ne.symm (Af hb)),[],.nil,_,#[],0,Ab _ rfl,⟨rfl,rfl,rfl⟩,rfl,rfl,List.nodup_nil⟩
def aQM:TE:=fun _ H Q=>∀ p,H p = none → Q (.ref p) (upd H p (.dK []))
def aQL:TE:=fun _ H Q=>∀ p,H p = none → Q (.ref p) (upd H p (.dT []))
section
variable {X:Cx} {pos:Pos}
theorem aLA:PE X (.Dict [] [] pos) aQM:=fun pins s σ H Q I h =>
 wpAny_Dict_empty ⟨.ref s.heap.objs.size,_,I.laid (a:=s.heap.objs.size) (o:=.dK []) (t':=s.toks) (fun _ _ q=>AE _ q) (AN _) (aMO s.heap I.big),rfl,h _ (I.hok.fresh (AN _))⟩
theorem aKZ:PE X (.Dict [] [] pos) aQL:=fun pins s σ H Q I h =>
 wpAny_Dict_empty ⟨.ref s.heap.objs.size,_,I.laid (a:=s.heap.objs.size) (o:=.dT []) (t':=s.toks) (fun _ _ q=>AE _ q) (AN _) (aMM s.heap I.big),rfl,h _ (I.hok.fresh (AN _))⟩
end
def aQI:List (TE × TE) → St → Hp → (List (V × V) → Hp → Prop) → Prop
 | [],_,H,Q=>Q [] H
 | (tk,tv) :: r,σ,H,Q=>tk σ H fun x H1=>tv σ H1 fun y H2=>aQI r σ H2 fun ps H3=>Q ((x,y) :: ps) H3
abbrev VV:List (V × V) → List (Value × Value) → Prop:=Paired fun p q=>bI p.1 q.1 ∧ bI p.2 q.2
def mergeK (kvs more:List (Key × V)):List (Key × V):=more.foldl (fun acc kv=>iU acc kv.1 kv.2) kvs
structure M1 (X:Cx) (o:Expr) (m:Str) (apos:Pos) (e:Expr) (cpos:Pos):Prop where
 base:DP o m X.env (eval o X.env) = eval o X.env
 few:((backTo cpos (At [e] X.env)).all (fun x=>!x.1) && (DR cpos (Cf [] X.env)).all (fun x=>x.1.isSome)
  && decide (([e]:List Expr).length + ([]:List Keyword).length + (if ([]:List Keyword).isEmpty then 0 else 1) < 30)) = true
 line:(apos.endLine == cpos.line) = true
 trees:backTo cpos (At [e] X.env) = [(false,eval e X.env)]
structure M2 (X:Cx) (o:Expr) (m:Str) (apos:Pos) (e f:Expr) (cpos:Pos):Prop where
 base:DP o m X.env (eval o X.env) = eval o X.env
 few:((backTo cpos (At [e,f] X.env)).all (fun x=>!x.1) && (DR cpos (Cf [] X.env)).all (fun x=>x.1.isSome)
  && decide (([e,f]:List Expr).length + ([]:List Keyword).length + (if ([]:List Keyword).isEmpty then 0 else 1) < 30)) = true
 line:(apos.endLine == cpos.line) = true
 trees:backTo cpos (At [e,f] X.env) = [(false,eval e X.env),(false,eval f X.env)]
def IsD (H:Hp) (a:Addr):Prop:=(∃ kvs,Rd H a (.dK kvs)) ∨ ∃ kvs,Rd H a (.dT kvs)
section
variable {X:Cx} {pins:List (Addr × Obj)} {σ:St} {H:Hp} {s:Shared} {a:Addr} {y d:V} {u r:Value} {o:Option V} {A:Around} {E:Value → Shared → Prop}
end
section
variable {X:Cx} {o e f:Expr} {apos cpos:Pos} {td ty tx:TE}
end
section
variable {X:Cx} {pins:List (Addr × Obj)} {σ:St} {H:Hp} {s:Shared} {a:Addr} {kvs:List (Key × V)} {A:Around} {E:Value → Shared → Prop}
end
section
variable {X:Cx} {pins:List (Addr × Obj)} {σ:St} {H:Hp} {s:Shared} {a:Addr} {y:V} {u:Value} {A:Around} {E:Value → Shared → Prop}
end
end L2
namespace HT
open PySem PyProof.Rows
def lexLt:List Int → List Int → Bool
 | [],[]=>false
 | [],_ :: _=>true
 | _ :: _,[]=>false
 | x :: xs,y :: ys=>if x = y then lexLt xs ys else decide (x < y)
theorem lexLt_cons (x y:Int) (xs ys:List Int):lexLt (x :: xs) (y :: ys) = if x = y then lexLt xs ys else decide (x < y):=rfl
theorem wV:lexLt [] [] = false:=rfl
theorem vD (y:Int) (ys:List Int):lexLt [] (y :: ys) = true:=rfl
theorem vE (x:Int) (xs:List Int):lexLt (x :: xs) [] = false:=rfl
theorem aMK (A:Around) (s:Shared) (a:Int) (t:Tok) (c:Int) (u:Tok):∃ e,BW A s (.int a t) (.int c u) e ∧ (e = true ↔ a = c) :=
 ⟨(a == c),BW.int_int a t c u,by simp⟩
theorem aKL (A:Around) (s:Shared) (a:Int) (t:Tok) (c:Int) (u:Tok) (prog:Program) (w:World) (E:Value → Shared → Prop) (Q:Value → Shared → Prop) (h:Q (.bool (decide (a < c))) s) :
  wpAny (model prog w) A (richCompare .Lt (.int a t) (.int c u)) Q E s :=
 (PyProof.Rows.lt_int h:wpAny (model prog w) A (BV .Lt (.int a t) (.int c u)) Q E s)
section
open PySem.SeqAt
open PySem.AutoSeq1 (wpAny_loadPart')
open PySem.MeetsSeq PySem.MeetsSeq2 PySem.MeetsSeq3
end
section
variable {prog:Program} {w:World} {A:Around} {E:Value → Shared → Prop} {s:Shared}
def sIx (n d:Nat):Option Int → Nat
 | none=>d
 | some v=>if v < 0 then (v + (n:Int)).toNat else min v.toNat n
theorem sIx_none (n d:Nat):sIx n d none = d:=rfl
theorem sIx_nat (n d k:Nat):sIx n d (some (k:Int)) = min k n:=by
 show (if (k:Int) < 0 then ((k:Int) + (n:Int)).toNat else min (k:Int).toNat n) = min k n
 rw [if_neg (by omega),CP]
end
end HT
namespace L2
open PySem PySem.Spec PyProof.Rows
abbrev TO:=St → Hp → (Option Int → Hp → Prop) → Prop
def PO (X:Cx) (e:Option Expr) (t:TO):Prop :=
 ∀ (pins:List (Addr × Obj)) (s:Shared) (σ:St) (H:Hp) (Q:Option Int → Hp → Prop),Inv X pins σ H s → t σ H Q →
  wpAny (model X.prog X.w) X.A (evalPart e X.env) (fun u s'=>∃ o H',Inv X pins σ H' s' ∧ IsPart u o ∧ Q o H') X.xe s
def aNJ:TO:=fun _ H Q=>Q none H
def aSE (t:TE):TO:=fun σ H Q=>t σ H fun x H1=>∃ i,x = .int i ∧ Q (some i) H1
theorem vL {ns:List Int}:∀ {us:List Value},bF (ns.map V.int) us → IntsAre us ns:=by
 induction ns with
 | nil=>intro us r;rw [Cc] at r;cases r;exact .nil
 | cons n ns ih =>
  intro us r
  rw [AY] at r
  cases r with
  | cons r1 r2 =>
   obtain ⟨t,e⟩:=r1
   subst e
   exact .cons n t (ih r2)
section
variable {X:Cx} {e:Expr} {te:TE} {lo hi:Option Expr} {tl th:TO} {pos p2:Pos}
theorem zP:PO X none aNJ:=by
 intro pins s σ H Q I h
 rw [evalPart_none]
 exact AZ ⟨none,H,I,.none,h⟩
theorem zO (h:PE X e te):PO X (some e) (aSE te):=by
 intro pins s σ H Q I hw
 rw [evalPart_some]
 refine thn (h pins s σ H _ I hw) fun u s1 ⟨x,H1,I1,r1,q1⟩=>?_
 obtain ⟨i,rfl,q⟩:=q1
 obtain ⟨t,rfl⟩:=r1
 exact ⟨some i,H1,I1,.int i t,q⟩
def SlR (X:Cx) (r:V → Option Int → Option Int → Hp → VK → Prop):Prop :=
 ∀ (pins:List (Addr × Obj)) (s:Shared) (σ:St) (H:Hp) (x:V) (v vl vu:Value) (lo hi:Option Int) (sl:Addr) (Q:VK),Inv X pins σ H s → bI x v → s.heap.IsSliceOf sl vl vu .none → IsPart vl lo → IsPart vu hi → r x lo hi H Q →
  ∃ T id,typeLookup (.type T) "__getitem__" = pure (some (.builtin id)) ∧ s.TypeIs v T ∧ wpAny (model X.prog X.w) X.A (getItem v (.ref sl)) (EP X pins σ Q) X.xe s
def tSl (r:V → Option Int → Option Int → Hp → VK → Prop) (te:TE) (tl th:TO):TE:=fun σ H Q=>te σ H fun x H1=>tl σ H1 fun l H2=>th σ H2 fun u H3=>r x l u H3 Q
theorem uN {r:V → Option Int → Option Int → Hp → VK → Prop} (hr:SlR X r) (he:PE X e te) (hl:PO X lo tl) (hu:PO X hi th):PE X (.Subscript e (.Slice lo hi none p2) pos) (tSl r te tl th):=by
 intro pins s σ H Q I h
 refine Subscript_ (thn (he pins s σ H _ I h) fun v s1 ⟨x,H1,I1,r1,q1⟩=>?_)
 refine wpAny_Slice (thn (hl pins s1 σ H1 _ I1 q1) fun vl s2 ⟨l,H2,I2,pl,q2⟩=>thn (hu pins s2 σ H2 _ I2 q2) fun vu s3 ⟨u,H3,I3,pu,q3⟩=>?_)
 rw [evalPart_none]
 refine AZ ?_
 have I4:Inv X pins σ H3 { s3 with heap:=s3.heap.push { cls:=.type "slice",data:=.fields #[vl,vu,.none] } }:=I3.kept (t':=s3.toks) fun b ob q=>AE _ q
 obtain ⟨T,id,hT,ht,hg⟩:=hr pins { s3 with heap:=s3.heap.push { cls:=.type "slice",data:=.fields #[vl,vu,.none] } } σ H3 x v vl vu l u s3.heap.objs.size Q I4 r1 (Heap.IsSliceOf.new ..) pl pu q3
 show wpAny (model X.prog X.w) X.A (subscriptTail e (.Slice lo hi none p2) v (.ref s3.heap.objs.size)) (EP X pins σ Q) X.xe { s3 with heap:=s3.heap.push { cls:=.type "slice",data:=.fields #[vl,vu,.none] } }
 exact tail_any (ops:=[.ref s3.heap.objs.size,v]) ht hT hg (by with_unfolding_all rfl)
def aFC (xs:List V) (lo hi:Option Int):List V:=(xs.drop (HT.sIx xs.length 0 lo)).take (HT.sIx xs.length xs.length hi - HT.sIx xs.length 0 lo)
theorem aDA (xs:List V) (lo hi:Option Int):(aFC xs lo hi).length ≤ xs.length:=by
 unfold aFC
 rw [AW,CT]
 omega
end
end L2
namespace L2
open PySem PySem.Spec PyProof.Rows
def ixN (n:Nat) (i:Int):Option Nat:=if 0 ≤ i then (if i < n then some i.toNat else none) else if -(n:Int) ≤ i then some (i + n).toNat else none
def atI {α:Type} (xs:List α) (i:Int):Option α:=(ixN xs.length i).bind fun j=>xs[j]?
theorem aOR {n:Nat} {i:Int} {j:Nat} (h:ixN n i = some j):seqIndex? i n = some j ∧ j < n ∧ -(n:Int) ≤ i ∧ i < n:=by
 unfold ixN at h
 by_cases h0:0 ≤ i
 ·rw [if_pos h0] at h
  by_cases h1:i < n
  ·rw [if_pos h1] at h
   have e:i.toNat = j:=Ax h
   exact ⟨by rw [seqIndex_of h0 h1,e],by omega,by omega,h1⟩
  ·rw [if_neg h1] at h;cases h
 ·rw [if_neg h0] at h
  by_cases h1:-(n:Int) ≤ i
  ·rw [if_pos h1] at h
   have e:(i + n).toNat = j:=Ax h
   exact ⟨by rw [seqIndex_neg (by omega) h1,e],by omega,h1,by omega⟩
  ·rw [if_neg h1] at h;cases h
theorem aAS {α:Type} {xs:List α} {i:Int} {v:α} (h:atI xs i = some v):∃ j,seqIndex? i xs.length = some j ∧ xs[j]? = some v ∧ j < xs.length ∧ -(xs.length:Int) ≤ i ∧ i < xs.length:=by
 unfold atI at h
 cases e:ixN xs.length i with
 | none=>rw [e] at h;cases h
 | some j =>
  rw [e] at h
  obtain ⟨h1,h2,h3,h4⟩:=aOR e
  exact ⟨j,h1,h,h2,h3,h4⟩
theorem aN {α:Type} {xs:List α} {j:Nat} {v:α} (h:xs[j]? = some v):atI xs (j:Int) = some v:=by
 have hj:j < xs.length:=(AB.mp h).1
 have e:ixN xs.length (j:Int) = some j:=by
  unfold ixN
  rw [if_pos (by omega),if_pos (by omega)];simp
 unfold atI;rw [e];exact h
def aPH (b:Expr):Prop:=∀ o i,Ew b false o i = operate [o,i] (getItem o i)
def IxR (X:Cx) (r:R2):Prop :=
 ∀ (value slice:Expr) (pins:List (Addr × Obj)) (s:Shared) (σ:St) (H:Hp) (x y:V) (v u:Value) (Q:VK),Inv X pins σ H s → bI x v → bI y u → r x y H Q →
  Ew slice false v u = operate [v,u] (getItem v u) → wpAny (model X.prog X.w) X.A (subscriptTail value slice v u) (EP X pins σ Q) X.xe s
def MtR (X:Cx) (id:String) (r:V → List V → Hp → VK → Prop):Prop :=
 ∀ (pins:List (Addr × Obj)) (s:Shared) (σ:St) (H:Hp) (x:V) (xs:List V) (v:Value) (us:List Value) (Q:VK),Inv X pins σ H s → bI x v → bF xs us → r x xs H Q →
  wpAny (model X.prog X.w) X.A (call (.builtin id) (v :: us)) (EP X pins σ Q) X.xe s
section
variable {X:Cx} {a b:Expr} {ta tb:TE} {pos:Pos}
theorem bE {r:R2} (hr:IxR X r) (ha:PE X a ta) (hb:PE X b tb) (hs:aPH b):PE X (.Subscript a b pos) (tOp r ta tb):=by
 intro pins s σ H Q I h
 exact Subscript_ (aRU ha hb I h fun v u s2 x y H2 I2 rx ry q=>hr a b pins s2 σ H2 x y v u Q I2 rx ry q (hs _ _))
def aSW (K:AG):R2:=fun x y H Q=>∃ p xs i v,x = .ref p ∧ y = .int i ∧ SqL K H p xs ∧ atI xs i = some v ∧ Q v H
def aSV (K:AG):R2:=fun x y H Q=>∃ p xs i v,x = .ref p ∧ y = .int i ∧ SqT K H p xs ∧ atI xs i = some v ∧ Q v H
def aUK:R2:=fun x y H Q=>∃ z i c,x = .str z ∧ y = .int i ∧ z.length ≤ Aq ∧ atI z.cps.toList i = some c ∧ Q (.str ⟨#[c]⟩) H
theorem aOQ:IxR X (aSW X.K):=by
 intro value slice pins s σ H x y v u Q I rx ry h hs
 obtain ⟨p,xs,i,z,rfl,rfl,hq,he,q⟩:=h
 cases rx
 obtain ⟨t,rfl⟩:=ry
 obtain ⟨its,r,pl,hz⟩:=I.list hq
 obtain ⟨j,h1,h2,h3,h4,h5⟩:=aAS he
 obtain ⟨w,ew,rw'⟩:=r.get h2
 have hl:=r.length
 have hn:=vC
 have fin:EP X pins σ Q w s:=⟨z,H,I,rw',q⟩
 by_cases h0:0 ≤ i
 ·have hj:i.toNat = j:=by
   rw [seqIndex_of h0 h5] at h1
   exact Ax h1
  exact item_listR pl.isList h0 (by omega) (by rw [hj];simpa using ew) fin hs
 ·have hj:(i + (its.toArray.size:Int)).toNat = j:=by
   rw [seqIndex_neg (by omega) h4] at h1
   rw [AR,← hl]
   exact Ax h1
  exact subscriptTail_builtinR (x:=w) pl.isList.typeIs slot_list_getitem.lookup
   (wpAny_getItem_list_neg (Q:=fun r s'=>r = w ∧ EP X pins σ Q r s') pl.isList (by omega) (by rw [AR] <;> omega) (by omega) (by rw [hj];simpa using ew) ⟨rfl,fin⟩) hs
theorem aRL:IxR X (aSV X.K):=by
 intro value slice pins s σ H x y v u Q I rx ry h hs
 obtain ⟨p,xs,i,z,rfl,rfl,hq,he,q⟩:=h
 cases rx
 obtain ⟨t,rfl⟩:=ry
 obtain ⟨its,r,pl,hz⟩:=I.tuple hq
 obtain ⟨j,h1,h2,h3,h4,h5⟩:=aAS he
 obtain ⟨w,ew,rw'⟩:=r.get h2
 have hl:=r.length
 have hn:=vC
 have fin:EP X pins σ Q w s:=⟨z,H,I,rw',q⟩
 exact subscriptTail_builtinR (x:=w) pl.typeIs slot_tuple_getitem.lookup
  (getItem_tuple (j:=j) (Q:=fun r s'=>r = w ∧ EP X pins σ Q r s') pl (by omega) (by omega) (by rw [AR,← hl];exact h1) (by simpa using ew) ⟨rfl,fin⟩) hs
theorem aLO:IxR X aUK:=by
 intro value slice pins s σ H x y v u Q I rx ry h hs
 obtain ⟨z,i,c,rfl,rfl,hz,he,q⟩:=h
 obtain ⟨t,rfl⟩:=rx
 obtain ⟨t',rfl⟩:=ry
 obtain ⟨j,h1,h2,h3,h4,h5⟩:=aAS he
 have hl:z.cps.toList.length = z.length:=by simp [Str.length]
 rw [hl] at h1 h4 h5
 have hn:=vC
 exact tail_any (typeIs_str s z t) slot_str_getitem.lookup (getItem_str (c:=c) (by
  have e1:decide (i < -(2 ^ 63:Int)) = false:=decide_eq_false (by omega)
  have e2:decide (i ≥ 2 ^ 63) = false:=decide_eq_false (by omega)
  rw [e1,e2,Bool.or_false]) (by rw [h1];simpa using h2) ⟨.str ⟨#[c]⟩,H,I.tok _,⟨_,rfl⟩,q⟩) hs
theorem zG (lo hi:Option Int) (n:Nat):(DQ lo hi none n).1 = ((HT.sIx n 0 lo:Nat):Int) ∧ (DQ lo hi none n).2.1 = ((HT.sIx n n hi:Nat):Int) ∧ (DQ lo hi none n).2.2 = 1:=by
 refine ⟨?_,?_,rfl⟩
 ·cases lo with
  | none=>simp [DQ,HT.sIx]
  | some i =>
   simp only [DQ,HT.sIx,Option.getD_none,show (1:Int) > 0 by decide,if_true]
   by_cases h:i < 0
   ·simp only [h,if_true] <;> omega
   ·simp only [h,if_false] <;> omega
 ·cases hi with
  | none=>simp [DQ,HT.sIx]
  | some i =>
   simp only [DQ,HT.sIx,Option.getD_none,show (1:Int) > 0 by decide,if_true]
   by_cases h:i < 0
   ·simp only [h,if_true] <;> omega
   ·simp only [h,if_false] <;> omega
theorem wH (its:List Value) (lo hi:Option Int):slicePick its.toArray lo hi none = ((its.drop (HT.sIx its.length 0 lo)).take (HT.sIx its.length its.length hi - HT.sIx its.length 0 lo)).toArray:=by
 obtain ⟨h1,h2,h3⟩:=zG lo hi its.toArray.size
 unfold slicePick
 rw [h1,h2,h3]
 simp only [sliceRange_one,pick_run,AR] <;> rfl
def aST (K:AG):V → Option Int → Option Int → Hp → VK → Prop:=fun x lo hi H Q=>∃ a xs,x = .ref a ∧ SqL K H a xs ∧ ∀ p,H p = none → Q (.ref p) (upd H p (.lst (aFC xs lo hi)))
theorem aNT:SlR X (aST X.K):=by
 intro pins s σ H x v vl vu lo hi sl Q I rx hs pl pu h
 obtain ⟨a,xs,rfl,hx,q⟩:=h
 cases rx
 obtain ⟨its,r,ht,hz⟩:=I.list hx
 have hlen:=r.length
 refine ⟨"list",_,slot_list_getitem.lookup,ht.isList.typeIs,?_⟩
 refine wpAny_getItem_list_slice ht.isList hs pl pu .none (by simp) ?_ (by rw [AR] <;> omega)
 rw [wH,← hlen]
 refine ⟨.ref s.heap.objs.size,_,I.laid (t':=s.toks) (o:=.lst (aFC xs lo hi)) (fun b ob q=>AE _ q) (AN _) ?_,rfl,q _ (I.hok.fresh (AN _))⟩
 exact ⟨BG (aDA xs lo hi) hz,_,0,(r.drop (HT.sIx xs.length 0 lo)).take (HT.sIx xs.length xs.length hi - HT.sIx xs.length 0 lo),Ab _ rfl⟩
def qH:V → Bool
 | .non=>true
 | .bl _=>true
 | .int _=>true
 | .str _=>true
 | _=>false
def eqV:V → V → Bool
 | .non,.non=>true
 | .bl a,.bl b=>a == b
 | .bl a,.int b=>(if a then 1 else 0) == b
 | .int a,.bl b=>a == (if b then 1 else 0)
 | .int a,.int b=>a == b
 | .str a,.str b=>a == b
 | _,_=>false
theorem lT {A:Around} {s:Shared} {y x:V} {u v:Value} (ry:bI y u) (rx:bI x v) (fy:qH y = true) (fx:qH x = true):BW A s u v (eqV y x):=by
 cases y with
 | non =>
  cases ry
  cases x with
  | non=>cases rx;exact BW.same _
  | bl b=>cases rx;exact BW.none_bool b
  | int b=>obtain ⟨t,rfl⟩:=rx;exact BW.none_int b t
  | str b=>obtain ⟨t,rfl⟩:=rx;exact BW.none_str b t
  | _=>exact absurd (show false = true from fx) Ad
 | bl a =>
  cases ry
  cases x with
  | non=>cases rx;exact BW.bool_none a
  | bl b=>cases rx;exact BW.bool_bool a b
  | int b=>obtain ⟨t,rfl⟩:=rx;exact BW.bool_int a b t
  | str b=>obtain ⟨t,rfl⟩:=rx;exact BW.bool_str a b t
  | _=>exact absurd (show false = true from fx) Ad
 | int a =>
  obtain ⟨t',rfl⟩:=ry
  cases x with
  | non=>cases rx;exact BW.int_none a t'
  | bl b=>cases rx;exact BW.int_bool a t' b
  | int b=>obtain ⟨t,rfl⟩:=rx;exact BW.int_int a t' b t
  | str b=>obtain ⟨t,rfl⟩:=rx;exact BW.int_str a t' b t
  | _=>exact absurd (show false = true from fx) Ad
 | str a =>
  obtain ⟨t',rfl⟩:=ry
  cases x with
  | non=>cases rx;exact BW.str_none a t'
  | bl b=>cases rx;exact BW.str_bool a t' b
  | int b=>obtain ⟨t,rfl⟩:=rx;exact BW.str_int a t' b t
  | str b=>obtain ⟨t,rfl⟩:=rx;exact BW.str_str a t' b t
  | _=>exact absurd (show false = true from fx) Ad
 | _=>exact absurd (show false = true from fy) Ad
def eqU (x:V) (u:Value):Bool:=match u with
 | .none=>eqV .non x
 | .bool b=>eqV (.bl b) x
 | .int i _=>eqV (.int i) x
 | .str z _=>eqV (.str z) x
 | _=>false
theorem aMJ {x y:V} {u:Value} (r:bI y u) (f:qH y = true):eqU x u = eqV y x:=by
 cases y with
 | non=>cases r;rfl
 | bl b=>cases r;rfl
 | int i=>obtain ⟨t,rfl⟩:=r;rfl
 | str z=>obtain ⟨t,rfl⟩:=r;rfl
 | _=>exact absurd (show false = true from f) Ad
theorem qK {x:V}:∀ {xs:List V} {us:List Value},bF xs us → xs.all qH = true → us.any (eqU x) = xs.any fun y=>eqV y x
 | _,_,.nil,_=>rfl
 | y :: xs,u :: us,.cons r t,f=>by
  rw [Dg,Ac] at f
  rw [Df,Df,aMJ r f.1,qK t f.2]
theorem mZ {A:Around} {s:Shared} {x:V} {v:Value} (rx:bI x v) (fx:qH x = true):∀ {xs:List V} {us:List Value},bF xs us → xs.all qH = true → ∀ u ∈ us,BW A s u v (eqU x u)
 | _,_,.nil,_=>fun u hu=>by cases hu
 | y :: xs,u :: us,.cons r t,f=>fun u' hu=>by
  rw [Dg,Ac] at f
  rcases Ah.mp hu with rfl | hu
  ·rw [aMJ r f.1];exact lT r rx f.1 fx
  ·exact mZ rx fx t f.2 u' hu
def inV (x:V) (xs:List V):Bool:=xs.any fun y=>eqV y x
def rIn (K:AG) (neg:Bool):R2:=fun x y H Q=>∃ p xs,y = .ref p ∧ (SqL K H p xs ∨ SqT K H p xs) ∧ qH x = true ∧ xs.all qH = true ∧ Q (.bl (if neg then !inV x xs else inV x xs)) H
theorem aHW:OpR X (BV .In) (rIn X.K false):=by
 intro pins s σ H x y v u Q I rx ry h
 obtain ⟨p,xs,rfl,hq,fx,fs,q⟩:=h
 cases ry
 rcases hq with hq | hq
 ·obtain ⟨its,r,pl,hz⟩:=I.list hq
  refine SeqAt.in_listAt (eqU x) pl.isList (fun w hw=>mZ rx fx r fs w (by simpa using hw)) ⟨.bl _,H,I,rfl,?_⟩
  rw [show its.toArray.any (eqU x) = its.any (eqU x) by simp,qK r fs]
  exact q
 ·obtain ⟨its,r,pl,hz⟩:=I.tuple hq
  refine SeqAt.in_tupleAt (eqU x) pl (fun w hw=>mZ rx fx r fs w (by simpa using hw)) ⟨.bl _,H,I,rfl,?_⟩
  rw [show its.toArray.any (eqU x) = its.any (eqU x) by simp,qK r fs]
  exact q
theorem zU:OpR X (BV .NotIn) (rIn X.K true):=by
 intro pins s σ H x y v u Q I rx ry h
 obtain ⟨p,xs,rfl,hq,fx,fs,q⟩:=h
 cases ry
 rcases hq with hq | hq
 ·obtain ⟨its,r,pl,hz⟩:=I.list hq
  refine SeqAt.notIn_listAt (eqU x) pl.isList (fun w hw=>mZ rx fx r fs w (by simpa using hw)) ⟨.bl _,H,I,rfl,?_⟩
  rw [show its.toArray.any (eqU x) = its.any (eqU x) by simp,qK r fs]
  exact q
 ·obtain ⟨its,r,pl,hz⟩:=I.tuple hq
  refine SeqAt.notIn_tupleAt (eqU x) pl (fun w hw=>mZ rx fx r fs w (by simpa using hw)) ⟨.bl _,H,I,rfl,?_⟩
  rw [show its.toArray.any (eqU x) = its.any (eqU x) by simp,qK r fs]
  exact q
theorem aAQ:eO X (.builtin "len") (fun xs H Q=>∃ p ys,xs = [.ref p] ∧ (SqL X.K H p ys ∨ SqT X.K H p ys) ∧ Q (.int ys.length) H):=by
 intro pins s σ H xs us Q I r h
 obtain ⟨p,ys,rfl,hq,q⟩:=h
 obtain ⟨u,rfl,rx⟩:=aAX r
 cases rx
 have hn:=vC
 rcases hq with hq | hq
 ·obtain ⟨its,r',pl,hz⟩:=I.list hq
  have hlen:=r'.length
  exact Calls.call_len_list pl.isList (by simp only [AR] <;> omega) ⟨.int ys.length,H,I.tok _,⟨s.toks + 1,by rw [AR,hlen]⟩,q⟩
 ·obtain ⟨its,r',pl,hz⟩:=I.tuple hq
  have hlen:=r'.length
  exact len_tuple pl (by simp only [AR] <;> omega) ⟨.int ys.length,H,I.tok _,⟨s.toks + 1,by rw [AR,hlen]⟩,q⟩
theorem aAP:eO X (.builtin "len") (fun xs H Q=>∃ z,xs = [.str z] ∧ z.length ≤ Aq ∧ Q (.int z.length) H):=by
 intro pins s σ H xs us Q I r h
 obtain ⟨z,rfl,hz,q⟩:=h
 obtain ⟨u,rfl,t,rfl⟩:=aAX r
 have hn:=vC
 exact len_str (by omega) ⟨.int z.length,H,I.tok _,⟨_,rfl⟩,q⟩
theorem aAO:eO X (.type "list") (fun xs H Q=>∃ p ys,xs = [.ref p] ∧ (SqL X.K H p ys ∨ SqT X.K H p ys) ∧ ∀ l,H l = none → Q (.ref l) (upd H l (.lst ys))):=by
 intro pins s σ H xs us Q I r h
 obtain ⟨p,ys,rfl,hq,q⟩:=h
 obtain ⟨u,rfl,rx⟩:=aAX r
 cases rx
 have fin:∀ (its:List Value),bF ys its → ys.length ≤ Aq → ∀ (h':Heap) (c':Nat),(∀ b o',s.heap.get? b = some o' → h'.get? b = some o') →
   h'.get? s.heap.objs.size = some { cls:=.type "list",dict:=none,data:=.seq its.toArray c',slots:=#[] } → EP X pins σ Q (.ref s.heap.objs.size) { s with heap:=h' }:=fun its r' hz h' c' kp e =>
  ⟨.ref s.heap.objs.size,_,I.laid (t':=s.toks) kp (AN _) (show bP X.prog X.w _ h' _ (.lst ys) from ⟨hz,its,c',r',e⟩),rfl,q _ (I.hok.fresh (AN _))⟩
 rcases hq with hq | hq
 ·obtain ⟨its,r',pl,hz⟩:=I.list hq
  have hlen:=r'.length
  obtain ⟨o,ho,hc,n,hd⟩:=pl.isList
  exact call_list_seq p (.inl rfl) ho hc hd (fun h' c' kp e=>fin its r' hz h' c' kp e) (by simp only [AR] <;> omega)
 ·obtain ⟨its,r',pl,hz⟩:=I.tuple hq
  have hlen:=r'.length
  obtain ⟨o,ho,hc,n,hd⟩:=pl
  exact call_list_seq p (.inr rfl) ho hc hd (fun h' c' kp e=>fin its r' hz h' c' kp e) (by simp only [AR] <;> omega)
theorem kG:eO X (.type "tuple") (fun xs H Q=>∃ p ys,xs = [.ref p] ∧ ((SqL X.K H p ys ∧ ∀ l,H l = none → Q (.ref l) (upd H l (.tup ys))) ∨ (SqT X.K H p ys ∧ Q (.ref p) H))):=by
 intro pins s σ H xs us Q I r h
 obtain ⟨p,ys,rfl,h⟩:=h
 obtain ⟨u,rfl,rx⟩:=aAX r
 cases rx
 rcases h with ⟨hq,q⟩ | ⟨hq,q⟩
 ·obtain ⟨its,r',pl,hz⟩:=I.list hq
  have hlen:=r'.length
  refine call_tuple_list pl.isList (fun h' kp=>?_) (by simp only [AR] <;> omega)
  have I1:Inv X pins σ H { s with heap:=h' }:=I.kept (t':=s.toks) kp
  have I2:Inv X pins σ (upd H h'.objs.size (.tup ys)) { s with heap:=h'.push { cls:=.type "tuple",data:=.seq its.toArray } } :=
   I1.laid (t':=s.toks) (fun b o e=>AE _ e) (AN _) (show bP X.prog X.w _ _ _ (.tup ys) from ⟨hz,its,r',rW.new _ _⟩)
  exact ⟨.ref h'.objs.size,_,I2,rfl,q _ (I1.hok.fresh (AN _))⟩
 ·obtain ⟨its,r',pl,hz⟩:=I.tuple hq
  exact call_tuple_same pl ⟨.ref p,H,I,rfl,q⟩
def tyV (K:AG) (T:String) (x:V) (H:Hp):Prop:=match x with
 | .str _=>T = "str"
 | .int _=>T = "int"
 | .ref p=>(T = "list" ∧ ∃ xs,SqL K H p xs) ∨ (T = "tuple" ∧ ∃ o,K.lookup p = some o ∧ o.cls = .type "tuple" ∧ o.dict = none) ∨
   (T = "dict" ∧ ((∃ kvs,H p = some (.dK kvs)) ∨ ∃ kvs,H p = some (.dT kvs))) ∨ (T = "set" ∧ ∃ S n,H p = some (.set S n)) ∨ (T = "tuple" ∧ ∃ xs,H p = some (.tup xs))
 | _=>False
theorem aJD {pins:List (Addr × Obj)} {σ:St} {H:Hp} {s:Shared} {T:String} {x:V} {v:Value} (I:Inv X pins σ H s) (r:bI x v) (ty:tyV X.K T x H) :
  s.TypeIs v T ∧ ∀ a,v = .ref a → ∃ ob,s.heap.get? a = some ob ∧ ob.dict = none:=by
 cases x with
 | str z =>
  obtain ⟨t,rfl⟩:=r
  cases (show T = "str" from ty)
  exact ⟨typeIs_str s z t,fun _ e=>nomatch e⟩
 | int i =>
  obtain ⟨t,rfl⟩:=r
  cases (show T = "int" from ty)
  exact ⟨typeIs_int s i t,fun _ e=>nomatch e⟩
 | ref p =>
  cases r
  rcases ty with ⟨rfl,xs,hq⟩ | ⟨rfl,o,hk,hc,hd⟩ | ⟨rfl,hk⟩ | ⟨rfl,S,n,hk⟩ | ⟨rfl,xs,hk⟩
  ·obtain ⟨its,_,pl,_⟩:=I.list hq
   refine ⟨pl.isList.typeIs,fun a e=>?_⟩
   cases e
   obtain ⟨o,n,e,c,hd,_⟩:=pl
   exact ⟨o,e,hd⟩
  ·refine ⟨⟨o,I.kIn p o hk,hc⟩,fun a e=>?_⟩
   cases e
   exact ⟨o,I.kIn _ o hk,hd⟩
  ·have z:∃ o,s.heap.get? p = some o ∧ o.ExactDict:=by
    rcases hk with ⟨kvs,hk⟩ | ⟨kvs,hk⟩
    ·obtain ⟨_,_,_,_,o,_,_,e,ex,_⟩:=I.hok p _ hk
     exact ⟨o,e,ex⟩
    ·obtain ⟨_,_,_,_,o,_,_,e,ex,_⟩:=I.hok p _ hk
     exact ⟨o,e,ex⟩
   obtain ⟨o,e,ex⟩:=z
   refine ⟨⟨o,e,ex.1⟩,fun a e2=>?_⟩
   cases e2
   exact ⟨o,e,ex.2.1⟩
  ·obtain ⟨o,_,_,_,e,ex,_⟩:=I.hok p _ hk
   refine ⟨⟨o,e,ex.1⟩,fun a e2=>?_⟩
   cases e2
   exact ⟨o,e,ex.2.1⟩
  ·obtain ⟨_,_,_,o,e,hc,_,_,hd⟩:=(show bP X.prog X.w H s.heap p (.tup xs) from I.hok p _ hk)
   refine ⟨⟨o,e,hc⟩,fun a e2=>?_⟩
   cases e2
   exact ⟨o,e,hd⟩
 | _=>exact BT ty
def aUG (K:AG) (T:String) (r:V → List V → Hp → VK → Prop) (to:TE):TE:=fun σ H Q=>to σ H fun x H1=>tyV K T x H1 ∧ r x [] H1 Q
def tBM (K:AG) (T:String) (r:V → List V → Hp → VK → Prop) (to:TE) (t:TA):TE:=fun σ H Q=>to σ H fun x H1=>tyV K T x H1 ∧ t σ H1 fun xs H2=>r x xs H2 Q
variable {o e:Expr} {es:List Expr} {to:TE} {t:TA} {name:Str} {apos cpos:Pos} {T id:String} {r:V → List V → Hp → VK → Prop}
theorem aLB (pa:PlainAttrs T) (slot:Slot T name id) (hty:typeOf (.builtin id) = pure (.type "method_descriptor")) (hm:MtR X id r) (ho:PE X o to)
  (hbase:DP o name X.env (eval o X.env) = eval o X.env:=by rfl) (hline:(apos.endLine == cpos.line) = true:=by rfl):PE X (.Call (.Attribute o name apos) [] [] cpos) (aUG X.K T r to):=by
 intro pins s σ H Q I h
 refine wpAny_Call_method0_late hbase hline (thn (ho pins s σ H _ I h) fun v s1 ⟨x,H1,I1,r1,ty,q1⟩=>?_)
 obtain ⟨h1,h2⟩:=aJD I1 r1 ty
 exact ⟨T,id,pa,slot,hty,h1,h2,Calls.callWith_builtin rfl (PySem.evalArgs_none (hm pins s1 σ H1 x [] v [] Q I1 r1 .nil q1))⟩
theorem kX (pa:PlainAttrs T) (slot:Slot T name id) (hty:typeOf (.builtin id) = pure (.type "method_descriptor")) (hm:MtR X id r) (ho:PE X o to) (ha:PA X (e :: es) t)
  (hbase:DP o name X.env (eval o X.env) = eval o X.env:=by rfl)
  (hfew:((backTo cpos (At (e :: es) X.env)).all (fun x=>!x.1) && (DR cpos (Cf [] X.env)).all (fun x=>x.1.isSome)
   && decide ((e :: es).length + ([]:List Keyword).length + (if ([]:List Keyword).isEmpty then 0 else 1) < 30)) = true:=by rfl)
  (hline:(apos.endLine == cpos.line) = true:=by rfl) (hs:At (e :: es) X.env = (false,eval e X.env) :: At es X.env:=by rfl) (hplain:(backTo cpos (At es X.env)).any (·.1) = false:=by rfl) :
  PE X (.Call (.Attribute o name apos) (e :: es) [] cpos) (tBM X.K T r to t):=by
 intro pins s σ H Q I h
 refine wpAny_Call_method_late hbase hfew hline rfl (thn (ho pins s σ H _ I h) fun v s1 ⟨x,H1,I1,r1,ty,q1⟩=>?_)
 obtain ⟨h1,h2⟩:=aJD I1 r1 ty
 refine ⟨T,id,pa,slot,hty,h1,h2,?_⟩
 have hA:=ha cpos pins s1 σ H1 _ I1 q1
 rw [hs] at hA ⊢
 refine Calls.callWith_builtin (by show (false || (backTo cpos (At es X.env)).any (·.1)) = false;rw [hplain] <;> rfl) (Calls.evalArgs_plain ?_)
 exact thn hA fun us s2 ⟨vs,H2,I2,r2,q2⟩=>hm pins s2 σ H2 x vs v us Q I2 r1 r2 q2
end
end L2
namespace L2
open PySem PySem.Spec PyProof.Rows
def MtM (X:Cx) (id:String) (r:V → List V → Hp → VK → Prop):Prop :=
 ∀ (pins:List (Addr × Obj)) (s:Shared) (σ:St) (H:Hp) (x:V) (xs:List V) (v:Value) (us:List Value) (Q:VK),Inv X pins σ H s → bI x v → bF xs us → r x xs H Q →
  wpAny (model X.prog X.w) X.A (call (.builtin id) (v :: us)) (EP X pins σ Q) X.xe s
theorem bF.one:∀ {x:V} {us:List Value},bF [x] us → ∃ u,us = [u] ∧ bI x u
 | _,_,.cons r .nil=>⟨_,rfl,r⟩
theorem bF.two:∀ {x y:V} {us:List Value},bF [x,y] us → ∃ u v,us = [u,v] ∧ bI x u ∧ bI y v
 | _,_,_,.cons r (.cons q .nil)=>⟨_,_,rfl,r,q⟩
theorem bF.zero:∀ {us:List Value},bF [] us → us = []
 | _,.nil=>rfl
theorem bF.eraseIdx:∀ {xs:List V} {us:List Value} (i:Nat),bF xs us → bF (xs.eraseIdx i) (us.eraseIdx i)
 | _,_,_,.nil=>.nil
 | _,_,0,.cons _ t=>t
 | _,_,i + 1,.cons r t=>.cons r (bF.eraseIdx i t)
theorem xV {α:Type}:∀ (l:List α) (i:Nat),(l.eraseIdx i).length ≤ l.length
 | [],_=>AN _
 | _ :: _,0=>CO _
 | _ :: r,i + 1=>Nat.succ_le_succ (xV r i)
section
variable {X:Cx} {pins:List (Addr × Obj)} {σ:St} {H:Hp} {s:Shared} {l b:Addr} {xs ys zs:List V}
theorem Inv.lset {its its':List Value} {n:Nat} {f:Array Value → Array Value} {t':Nat} (I:Inv X pins σ H s) (hH:H l = some (.lst xs))
  (e:s.heap.get? l = some { cls:=.type "list",data:=.seq its.toArray n }) (hf:f its.toArray = its'.toArray) (hv:bF ys its') (hz:ys.length ≤ Aq) :
  Inv X pins σ (upd H l (.lst ys)) { s with heap:=s.heap.update l (BO f),toks:=t' }:=by
 have q:=PySem.IsL.update e f
 rw [hf] at q
 refine I.write (x:=l) (e:=l) (by rw [hH];exact trivial) (.inl rfl) (fun b' u hb hu=>(BY s.heap (BO f) (Ne.symm hb)).trans hu) ⟨_,q⟩ ?_
 exact ⟨hz,its',_,hv,q⟩
theorem Inv.lnew {its:List Value} {t':Nat} (I:Inv X pins σ H s) (hv:bF ys its) (hz:ys.length ≤ Aq) :
  Inv X pins σ (upd H s.heap.objs.size (.lst ys)) { s with heap:=s.heap.push { cls:=.type "list",data:=.seq its.toArray },toks:=t' } :=
 I.laid (fun _ _ q=>AE _ q) (AN _) ⟨hz,its,0,hv,Ab _ rfl⟩
theorem Inv.fresh (I:Inv X pins σ H s):H s.heap.objs.size = none:=I.hok.fresh (AN _)
theorem Inv.lstM (I:Inv X pins σ H s) (hH:H l = some (.lst xs)):xs.length ≤ Aq ∧ ∃ (its:List Value) (n:Nat),bF xs its ∧ xs.length = its.length ∧ s.heap.get? l = some { cls:=.type "list",data:=.seq its.toArray n }:=by
 obtain ⟨z,its,n,r,e⟩:=I.hok l _ hH
 exact ⟨z,its,n,r,r.length,e⟩
end
section
variable {X:Cx}
def aNX:V → List V → Hp → VK → Prop:=fun x vs H Q=>∃ l xs y,x = .ref l ∧ vs = [y] ∧ H l = some (.lst xs) ∧ xs.length < Aq ∧ Q .non (upd H l (.lst (xs ++ [y])))
theorem eM:MtM X "list.append" aNX:=by
 intro pins s σ H x vs v us Q I rx rv h
 obtain ⟨l,xs,y,rfl,rfl,hH,hz,q⟩:=h
 cases rx
 obtain ⟨u,rfl,ru⟩:=rv.one
 obtain ⟨z,its,n,r,hl,e⟩:=I.lstM hH
 refine call_meets F.slot_list_append ⟨_,e,rfl⟩ F.entry_list_append (F.args_list_append_2 _ _) (PySem.list_append l its.toArray n u (by rw [AR];omega)) ⟨e,?_⟩
 refine ⟨.non,_,I.lset (its':=its ++ [u]) hH e (by simp) (r.append (.cons ru .nil)) ?_,rfl,q⟩
 rw [Ae,Br]
 omega
def aQS:V → List V → Hp → VK → Prop:=fun x vs H Q=>∃ l xs i k y,x = .ref l ∧ vs = [.int i] ∧ H l = some (.lst xs) ∧ -(2 ^ 63) ≤ i ∧ i < 2 ^ 63 ∧ seqIndex? i xs.length = some k ∧ xs[k]? = some y ∧ Q y (upd H l (.lst (xs.eraseIdx k)))
theorem aCK:MtM X "list.pop" aQS:=by
 intro pins s σ H x vs v us Q I rx rv h
 obtain ⟨l,xs,i,k,y,rfl,rfl,hH,h1,h2,hk,hy,q⟩:=h
 cases rx
 obtain ⟨u,rfl,ru⟩:=rv.one
 obtain ⟨t,rfl⟩:=ru
 obtain ⟨z,its,n,r,hl,e⟩:=I.lstM hH
 obtain ⟨w,hw,rw'⟩:=r.get hy
 refine call_meets F.slot_list_pop ⟨_,e,rfl⟩ F.entry_list_pop (F.args_list_pop_2 _ _)
  (MeetsSeq.list_pop_at l its.toArray n i t k w (fitsIndex_both h1 h2) (by rw [AR,← hl];exact hk) (by rw [← CH];exact hw) (by rw [AR];omega)) ⟨e,?_⟩
 refine ⟨y,_,I.lset (its':=its.eraseIdx k) hH e ?_ (r.eraseIdx k) ?_,rw',q⟩
 ·show its.toArray.eraseIdxIfInBounds k = (its.eraseIdx k).toArray
  rw [List.eraseIdxIfInBounds_toArray]
 ·have:=xV xs k
  omega
def aUL:R2:=fun x y H Q=>∃ l b xs zs,x = .ref l ∧ y = .ref b ∧ H l = some (.lst xs) ∧ H b = some (.lst zs) ∧ xs.length + zs.length ≤ Aq ∧ ∀ p,H p = none → Q (.ref p) (upd H p (.lst (xs ++ zs)))
theorem uR:OpR X (Di .Add) aUL:=by
 intro pins s σ H x y v u Q I rx ry h
 obtain ⟨l,b,xs,zs,rfl,rfl,hH,hB,hz,q⟩:=h
 cases rx
 cases ry
 obtain ⟨z,its,n,r,hl,e⟩:=I.lstM hH
 obtain ⟨z2,its2,n2,r2,hl2,e2⟩:=I.lstM hB
 refine PySem.P.add_list e e2 ?_ (by rw [AR,AR];omega)
 have ea:its.toArray ++ its2.toArray = (its ++ its2).toArray:=by simp
 rw [ea]
 exact ⟨.ref _,_,I.lnew (t':=s.toks) (r.append r2) (by rw [Ae];omega),rfl,q _ I.fresh⟩
end
section
variable {prog:Program} {w:World} {A:Around} {E:Value → Shared → Prop} {s:Shared}
end
section
variable {X:Cx}
end
end L2
namespace Att
open PySem PySem.W PySem.Calls PyProof.Rows
theorem tE {P:Params} {h:Heap}:∀ (ns:List Int) (vs:List Value),WellAll P h vs (ns.map WData.int) → IntsAre vs ns:=by
 intro ns
 induction ns with
 | nil =>
  intro vs w
  rw [Cc] at w
  cases w
  exact .nil
 | cons n ns ih =>
  intro vs w
  rw [AY] at w
  cases w with
  | cons a b =>
   cases a
   exact .cons _ _ (ih _ b)
theorem aHL {l:OpenLaw} {n:Nat} (hn:l.most = some n) {P:Params} {h:Heap} {args:List WData} {vals:List Value}
  (hpre:l.row.toRowW.claim.pre args = true) (hwl:WellAll P h vals args) :
  ∃ a vs ns,vals = [Ap a] ∧ args = [WData.list (ns.map WData.int)] ∧ h.get? a = some { cls:=.type "list",data:=.seq vs.toArray } ∧ IntsAre vs ns ∧ ns.length ≤ n:=by
 have hsh:WShape.hasAll [] args [.list .int] = true:=(pre_splitW hpre).1
 have hc:l.pre.holds [] { args:=args } = true:=(pre_splitW hpre).2
 obtain ⟨d,r,rfl,h1,h2⟩:=hasAllW_cons hsh
 obtain rfl:=hasAllW_nil h2
 obtain ⟨xs,rfl,h3⟩:=hasW_list h1
 obtain ⟨ns,rfl⟩:=items_int h3
 have hlen:ns.length ≤ n:=by
  unfold OpenLaw.pre at hc
  have h4:(WTm.not (.lt (.lit (.int (n:Int))) (.len (.arg 0)))).holds [] { args:=[.list (ns.map .int)] } = true:=by
   have h4:=(holds_andW hc).1
   rw [hn] at h4
   exact h4
  have h5:=condW_of h4 (w_not (w_lt w_lit (w_len_list (w_arg rfl))))
  rw [AA] at h5
  refine Nat.le_of_not_lt fun q=>?_
  have q':(n:Int) < ((ns.length:Nat):Int):=by omega
  first
   | (rw [decide_eq_true q'] at h5;exact absurd h5 (by decide))
   | (simp at h5;omega)
 cases hwl with
 | cons w1 w2 =>
  cases w2
  cases w1 with
  | list ho hall=>exact ⟨_,_,ns,rfl,rfl,ho,tE ns _ hall,hlen⟩
theorem aHQ (l:OpenLaw) (args:List WData):l.row.toRowW.claim.post args (.bool true) args = true :=
 postW_of (r:=l.row.toRowW) (X:=(true == true))
  (show WShape.has [] (.bool true) .bool = true by first | rfl | decide | simp [WShape.has,WShape.arms,WShape.armsAll])
  (show (WTm.eq .res (.lit (.bool true))).value [] { args:=args,res:=some (.bool true),after:=args } = some (.bool (true == true)) from w_eq_bool (w_res rfl) w_lit) rfl
theorem attach_call {l:OpenLaw} {n:Nat} {q:Program} {loose:List Str} {XP:(Str → Option Value) → Heap → Prop} {YP:World → Heap → Prop} {d:DefRec}
  (hn:l.most = some n) (hdf:d.params.defaults = [])
  (call:∀ (w:World) (s₀ s₁:Shared) (mg mb:Str → Option Value) (fa:Addr) (o:Obj) (pm cd doc:Value) (a:Addr) (vs:List Value) (ns:List Int),
   Ground q loose [] XP w s₀ mg mb s₁.heap → YP w s₁.heap →
   s₁.heap.get? fa = some o → o.data = .func (docDef d.name d.params d.body d.scope pm cd doc) → s₁.heap.CodeRec cd d.name → mg d.name = some (.ref fa) →
   s₁.heap.get? a = some { cls:=.type "list",data:=.seq vs.toArray } → IntsAre vs ns → ns.length ≤ n → s₁.gens = #[] →
   codeAny (model l.prog w) callerA (.call (.ref fa) ⟨[.ref a],[]⟩) (fun r s'=>r = .ok (.ret (.bool true)) ∧ OldK s₁.heap s'.heap ∧ s'.os = s₁.os ∧ AllBare s'.gens) s₁) :
  WalkO q loose XP YP l.row.toRowW d [] (fun f vs=>PySem.call f vs):=by
 intro w s₀ s₁ mg mb G Y fa o pm cd doc dV kV ho hd hcd hD hmg hg args vals as hpre hlay hrd hwl hlo
 obtain rfl:dV = .none:=Dflts.none hD hdf
 obtain rfl:kV = .none:=Dflts.noKw hD
 obtain ⟨a,vs,ns,rfl,rfl,hobj,hints,hlen⟩:=aHL hn hpre hwl
 refine enter_call (Cr (call w s₀ s₁ mg mb fa o pm cd doc a vs ns G Y ho (fd_plain hd) hcd hmg hobj hints hlen hg) fun r s' hq=>?_)
 obtain ⟨rfl,h2,h3,h4⟩:=hq
 exact ⟨.inl ⟨.bool true,.bool true,[],rfl,fun _=>rfl,.bool true,aHQ l _,fun _=>⟨List.Pairwise.nil,fun _ hm=>(nomatch hm)⟩⟩,h2,h3,h4⟩
section
variable {prog:Program} {w:World} {A:Around} {E:Value → Shared → Prop} {s:Shared} {K:Frag}
def noObjs (h:Heap):Heap:={ h with objs:=#[] }
def ledger (h:Heap) (L d:Addr):List (Addr × Obj):=(An h.objs.size).filterMap fun a=>if a = L ∨ a = d then none else (h.get? a).map fun o=>(a,o)
end
end Att
namespace L2
open PySem PySem.Spec PyProof.Rows
theorem xC:∀ {vs:List Value} {ns:List Int},IntsAre vs ns → bF (ns.map V.int) vs
 | _,_,.nil=>.nil
 | _,_,.cons n t h=>.cons ⟨t,rfl⟩ (xC h)
end L2
namespace L2
open PySem PySem.Spec PyProof.Rows
end L2
namespace L2
open PySem PySem.Spec PyProof.Rows
def hW (s:Stmt) (j:Nat):Stmt:=match s with
 | .ClassDef _ _ _ body _ _ _ _ _ _ _=>body.getD j (.Pass ⟨0,0,0,0⟩)
 | _=>.Pass ⟨0,0,0,0⟩
def aL (s:Stmt):Dh:=match s with
 | .FunctionDef _ a _ _ _ _ _ _ _ _=>a
 | _=>{ posonlyargs:=[],args:=[],vararg:=none,kwonlyargs:=[],kw_defaults:=[],kwarg:=none,defaults:=[] }
def aK (s:Stmt):List Stmt:=match s with
 | .FunctionDef _ _ b _ _ _ _ _ _ _=>b
 | _=>[]
def aB (s:Stmt):Scope:=match s with
 | .FunctionDef _ _ _ _ _ _ sc _ _ _=>sc
 | _=>{ kind:=.function,names:=[],isGenerator:=false,isCoroutine:=false }
abbrev CX0:CXT:=fun _ _ _ _ _ _=>False
abbrev E0:XK:=fun _ _ _=>False
theorem aGI {X:Cx}:pH CX0 X E0:=fun _ _ _ _ _ _ _ h=>h.elim
structure Fun (K:AG) (x qual:Str) (st:Stmt) (f:Addr) (fd:Bi):Prop where
 ex:∃ (oc:Value) (od:Option Addr) (kV doc pm:Value) (an:Option Addr) (cdv ct:Value) (osl:Array (Option Value)),
  fd = AO x qual (aL st) (aK st) (aB st) .none kV doc pm an cdv ct ∧ K.lookup f = some ⟨oc,od,.func fd,osl⟩ ∧ AJ K cdv qual = true
 kp:AH K (.ref f) = true
section
variable {P:Program} {w:World} {K:AG} {mg:Str → Option Value} {base:Heap}
theorem Fun.ok {x qual:Str} {st:Stmt} {f:Addr} {fd:Bi} {N ps:List Str} {k:Nat} {sp:Sp} (F:Fun K x qual st f fd) (S:FnScope N ps (aB st)) (len:∀ vs H Q E,sp vs H Q E → vs.length = ps.length)
  (hbody:∀ (cdv:Value) (A:Around) (outer:List Env) (s:Shared) (H:Hp) (vs:List V) (Q:VK) (E:XK),Room k (A.deeper (envOfC qual (aB st) s.heap.objs.size f cdv)) → sp vs H Q E →
   ∃ t,PSs (mG CX0 P w K mg base N qual (aB st) f cdv A outer s H E).nox (aK st) t ∧ t { nx:=fun _ H'=>Q .non H',rt:=Q } (start N vs) H):FnOk P w K mg base CX0 (k + 1) f fd ps sp:=by
 obtain ⟨oc,od,kV,doc,pm,an,cdv,ct,osl,rfl,lk,hcd⟩:=F.ex
 refine aPZ lk hcd S len fun A outer s H vs Q E hr hsp=>?_
 obtain ⟨t,h,q⟩:=hbody cdv A outer s H vs Q E hr hsp
 exact ⟨t,h.nox,q⟩
theorem Fun.binds {x qual:Str} {st:Stmt} {f:Addr} {fd:Bi} {ps:List Str} (F:Fun K x qual st f fd)
  (h:∀ (kV doc pm:Value) (an:Option Addr) (cdv ct:Value) (us:List Value),us.length = ps.length → EX (AO x qual (aL st) (aK st) (aB st) .none kV doc pm an cdv ct) ⟨us,[]⟩ = pure (ps.zip us)):jV K fd ps []:=by
 obtain ⟨oc,od,kV,doc,pm,an,cdv,ct,osl,rfl,lk,hcd⟩:=F.ex
 exact .all (h kV doc pm an cdv ct)
theorem rK {x qual:Str} {st:Stmt} {f:Addr} {oc:Value} {od an:Option Addr} {osl:Array (Option Value)} {kV doc pm cdv ct:Value} (l:K.lookup f = some ⟨oc,od,.func (AO x qual (aL st) (aK st) (aB st) .none kV doc pm an cdv ct),osl⟩)
  (c:AJ K cdv qual = true) (k:AH K (.ref f) = true):Fun K x qual st f (AO x qual (aL st) (aK st) (aB st) .none kV doc pm an cdv ct):=⟨⟨oc,od,kV,doc,pm,an,cdv,ct,osl,rfl,l,c⟩,k⟩
end
theorem jZ {A:Around} {k:Nat} (hr:Room k A):A.units + 1 < cLine:=Nat.lt_of_le_of_lt (Nat.add_le_add_left (by decide:1 ≤ 64) _) hr.units
section
variable {X:Cx}
theorem pv (i:Nat) {x:Str} {pos:Pos} (hN:X.N[i]? = some x:=by rfl) (hv:Vis X.env.scope x:=by first | exact Or.inl rfl | exact Or.inr (Or.inl rfl) | exact Or.inr (Or.inr rfl)) (hd:(x == ("__debug__":Str)) = false:=by decide)
  (hcd:(x == ("__classdict__":Str)) = false:=by decide):PE X (.Name x pos) (aNI i):=aQX hN hv hd hcd
end
theorem bM {A B:Prop} (h:B):if false = true then A else B:=by
 rw [if_neg Ad]
 exact h
theorem cW {A B:Prop} (h:A):if true = true then A else B:=by
 rw [if_pos rfl]
 exact h
theorem oJ {c A B:Prop} [Decidable c] (h1:c → A) (h2:¬ c → B):if c then A else B:=by
 by_cases h:c
 ·rw [if_pos h]
  exact h1 h
 ·rw [if_neg h]
  exact h2 h
def aJ (H H':Hp):Prop:=∀ b o,H b = some o → H' b = some o
theorem aJ.refl (H:Hp):aJ H H:=fun _ _ h=>h
theorem aJ.trans {H H1 H2:Hp} (a:aJ H H1) (b:aJ H1 H2):aJ H H2:=fun c o h=>b c o (a c o h)
theorem aJ.free {H H':Hp} (e:aJ H H') {l:Addr} (h:H' l = Option.none):H l = Option.none:=by
 cases q:H l with
 | none=>rfl
 | some o =>
  rw [e l o q] at h
  cases h
theorem aJ.seq {K:AG} {H H':Hp} {a:Addr} {xs:List V} (e:aJ H H') (h:SqL K H a xs):SqL K H' a xs:=by
 rcases h with (h | ⟨o,h⟩) | h
 ·exact .inl (.inl (e _ _ h))
 ·exact .inl (.inr ⟨o,e _ _ h⟩)
 ·exact .inr h
end L2
namespace L2
open PySem PySem.Spec PyProof.Rows
section
variable {X:Cx}
end
section
variable {κ:Type} [DecidableEq κ]
theorem aIZ {kvs:List (κ × V)} {k:κ} (h:cX kvs k = none):¬ k ∈ kvs.map (·.1):=by
 intro m
 obtain ⟨p,hp,e⟩:=AS.mp m
 have q:(kvs.any fun kv=>decide (kv.1 = k)) = true:=DH.mpr ⟨p,hp,decide_eq_true e⟩
 rw [jA,h] at q
 exact absurd q (by simp)
theorem aND {kvs:List (κ × V)} {k:κ} {v:V} (h:cX kvs k = some v):k ∈ kvs.map (·.1):=by
 have q:(kvs.any fun kv=>decide (kv.1 = k)) = true:=by
  rw [jA,h]
  all_goals rfl
 obtain ⟨p,hp,e⟩:=DH.mp q
 exact AS.mpr ⟨p,hp,of_decide_eq_true e⟩
end
end L2
namespace Tx
open PySem PySem.Builtin PySem.Builtin.Str
def cl (n d:Nat):Option Int → Nat
 | none=>d
 | some i=>(max 0 (min (if i < 0 then i + n else i) n)).toNat
theorem cl_nat (n d k:Nat):cl n d (some (k:Int)) = min k n:=by
 show (max 0 (min (if (k:Int) < 0 then (k:Int) + n else (k:Int)) n)).toNat = min k n
 rw [if_neg (by omega)]
 omega
theorem aQB (n d:Nat) (hd:d ≤ n):∀ o,cl n d o ≤ n
 | none=>hd
 | some i=>by
  show (max 0 (min (if i < 0 then i + n else i) n)).toNat ≤ n
  omega
theorem aEP (lo hi:Option Int) (n:Nat):strSliceIndices lo hi 1 n = (An (cl n n hi - cl n 0 lo)).map (cl n 0 lo + ·):=by
 have h1:∀ (v:Option Int) (d:Nat),d ≤ n → (match v with | none=>(d:Int) | some i=>if (1:Int) > 0 then max 0 (min (if i < 0 then i + n else i) n) else max (-1) (min (if i < 0 then i + n else i) (n - 1))) = ((cl n d v:Nat):Int):=by
  intro v d hd
  cases v with
  | none=>rfl
  | some i =>
   show (if (1:Int) > 0 then max 0 (min (if i < 0 then i + n else i) n) else max (-1) (min (if i < 0 then i + n else i) (n - 1))) = (((max 0 (min (if i < 0 then i + n else i) n)).toNat:Nat):Int)
   rw [if_pos (by decide)]
   omega
 rw [← sliceRange_one]
 unfold strSliceIndices
 have a:=h1 lo 0 (BK _)
 have b:=h1 hi n (AN _)
 simp only [show (1:Int) > 0 by decide,if_true] at a b ⊢
 congr 1
theorem slice_codes (x:Str) (lo hi:Option Int):(Cg x lo hi).cps.toList = (x.cps.toList.drop (cl x.length 0 lo)).take (cl x.length x.length hi - cl x.length 0 lo):=by
 unfold Cg
 rw [aEP]
 split
 ·rename_i h
  have h':cl x.length x.length hi - cl x.length 0 lo = x.length:=by
   have:=(BJ.mp h).2
   have:=beq_iff_eq.mp this
   simpa using this
  have h2:=aQB x.length x.length (AN _) hi
  have h4:=aQB x.length 0 (BK _) lo
  have h3:cl x.length 0 lo = 0:=by omega
  rw [h',h3,EC,AF]
  show x.cps.toList.length ≤ x.cps.size
  simp
 ·rw [pick_run]
theorem app_codes (a b:Str):(a ++ b).cps.toList = a.cps.toList ++ b.cps.toList:=by
 simp [Str.cps_append]
theorem app_len (a b:Str):(a ++ b).length = a.length + b.length:=Str.length_append a b
end Tx
set_option maxHeartbeats 4000000
namespace L2
open PySem PySem.Spec PyProof.Rows
theorem nJ {env:Env} {f:(Str × BD) → List (Str × Addr) → Sem (ForInStep (List (Str × Addr)))}
  (hf:∀ n k cs,f (n,k) cs = if (k == Az) = true then (cellOf env n >>= fun c=>pure (Bo ((n,c) :: cs))) else pure (Bo cs)) :
  ∀ (names:List (Str × BD)) (acc:List (Str × Addr)),
  (∀ y ∈ names,y.2 = .free → ∃ c,env.cells.lookup y.1 = some c) →
  (∀ x c,acc.lookup x = some c → env.cells.lookup x = some c) →
  ∃ cl,forIn names acc f = (pure cl:Sem _) ∧ (∀ x c,cl.lookup x = some c → env.cells.lookup x = some c) ∧ (∀ x c,acc.lookup x = some c → ∃ d,cl.lookup x = some d) ∧
   ∀ x,(x,Az) ∈ names → ∃ c,cl.lookup x = some c
 | [],acc,_,ha=>⟨acc,rfl,ha,fun x c e=>⟨c,e⟩,fun x m=>absurd m (by simp)⟩
 | (n,k) :: r,acc,hn,ha=>by
  have hr:∀ y ∈ r,y.2 = .free → ∃ c,env.cells.lookup y.1 = some c:=fun y hy=>hn y (AQ _ hy)
  by_cases hk:k = .free
  ·subst hk
   obtain ⟨c,hc⟩:=hn (n,.free) AU rfl
   have hcell:cellOf env n = pure c:=by
    have hc':env.cells.lookup n = some c:=hc
    unfold cellOf
    rw [hc']
   have ha':∀ x d,CB x ((n,c) :: acc) = some d → env.cells.lookup x = some d:=fun x d e=>by
    by_cases hx:(x == n) = true
    ·rw [BM,hx] at e
     obtain rfl:=beq_iff_eq.mp hx
     cases e
     exact hc
    ·have hx':(x == n) = false:=by simpa using hx
     rw [BM,hx'] at e
     exact ha x d e
   obtain ⟨cl,e1,e2,e3,e4⟩:=nJ hf r ((n,c) :: acc) hr ha'
   refine ⟨cl,?_,e2,fun x d e=>?_,fun x m=>?_⟩
   ·rw [Eo,hf,if_pos (beq_self_eq_true _),hcell,pure_bind,pure_bind]
    exact e1
   ·by_cases hx:(x == n) = true
    ·exact e3 x c (by rw [BM,hx])
    ·have hx':(x == n) = false:=by simpa using hx
     exact e3 x d (by rw [BM,hx'];exact e)
   ·rcases Ah.mp m with q | q
    ·have q':x = n:=congrArg Prod.fst q
     subst q'
     exact e3 x c (by rw [BM,beq_self_eq_true])
    ·exact e4 x q
  ·have hk':(k == Az) = false:=by simpa using hk
   obtain ⟨cl,e1,e2,e3,e4⟩:=nJ hf r acc hr ha
   refine ⟨cl,?_,e2,e3,fun x m=>?_⟩
   ·rw [Eo,hf,hk',if_neg Ad,pure_bind]
    exact e1
   ·rcases Ah.mp m with q | q
    ·exact absurd (congrArg Prod.snd q).symm hk
    ·exact e4 x q
theorem wD {scope:Scope} {env:Env} (h:∀ y ∈ scope.names,y.2 = .free → ∃ c,env.cells.lookup y.1 = some c) :
  ∃ cl,Ek scope env = pure cl ∧ (∀ x c,cl.lookup x = some c → env.cells.lookup x = some c) ∧ ∀ x,(x,Az) ∈ scope.names → ∃ c,cl.lookup x = some c:=by
 obtain ⟨cl,e1,e2,_,e4⟩:=nJ (env:=env) (f:=fun (x:Str × BD) cs=>match x with | (name,kind)=>if (kind == Az) = true then (cellOf env name >>= fun c=>pure (Bo ((name,c) :: cs))) else pure (Bo cs)) (fun n k cs=>rfl) scope.names [] h (fun x c e=>by cases e)
 refine ⟨cl,?_,e2,e4⟩
 have:Ek scope env = (forIn scope.names [] (fun (x:Str × BD) cs=>match x with | (name,kind)=>if (kind == Az) = true then (cellOf env name >>= fun c=>pure (Bo ((name,c) :: cs))) else pure (Bo cs)) >>= fun cs=>pure cs):=by
  first | rfl | (unfold Ek;rfl) | (unfold Ek;simp only [pure_bind,bind_pure])
 rw [this,e1,pure_bind]
theorem iS {env:Env}:∀ {names:List (Str × BD)} {x:Str},names.lookup x = some .free →
  (names.map fun (n,k)=>if (k == Az && env.scope.kind == .function && env.kindOf n == some .cell) then (n,Bx) else (n,k)).lookup x = some .cell ∨
  (names.map fun (n,k)=>if (k == Az && env.scope.kind == .function && env.kindOf n == some .cell) then (n,Bx) else (n,k)).lookup x = some .free
 | [],_,h=>by simp at h
 | (n,k) :: r,x,h=>by
  have ih:=@iS env r x
  show CB x ((if (k == Az && env.scope.kind == .function && env.kindOf n == some .cell) = true then (n,Bx) else (n,k)) :: _) = _ ∨ CB x ((if (k == Az && env.scope.kind == .function && env.kindOf n == some .cell) = true then (n,Bx) else (n,k)) :: _) = _
  cases hx:x == n with
  | true =>
   simp only [BM,hx] at h
   cases h
   by_cases hc:(Az == Az && env.scope.kind == .function && env.kindOf n == some .cell) = true
   ·rw [if_pos hc];left;simp only [BM,hx]
   ·rw [if_neg hc];right;simp only [BM,hx]
  | false =>
   simp only [BM,hx] at h
   by_cases hc:(k == Az && env.scope.kind == .function && env.kindOf n == some .cell) = true
   ·rw [if_pos hc];simp only [BM,hx];exact ih h
   ·rw [if_neg hc];simp only [BM,hx];exact ih h
theorem kT {env:Env}:∀ {names:List (Str × BD)} {x:Str},(∀ y ∈ names,y.2 ≠ .cell) →
  ((names.map fun (n,k)=>if (k == Az && env.scope.kind == .function && env.kindOf n == some .cell) then (n,Bx) else (n,k)).lookup x = some .cell ∨
  (names.map fun (n,k)=>if (k == Az && env.scope.kind == .function && env.kindOf n == some .cell) then (n,Bx) else (n,k)).lookup x = some .free) → (x,Az) ∈ names
 | [],_,_,h=>by rcases h with h | h <;> simp at h
 | (n,k) :: r,x,hn,h=>by
  have ih:=@kT env r x (fun y hy=>hn y (AQ _ hy))
  have h':CB x ((if (k == Az && env.scope.kind == .function && env.kindOf n == some .cell) = true then (n,Bx) else (n,k)) :: (r.map fun (n,k)=>if (k == Az && env.scope.kind == .function && env.kindOf n == some .cell) then (n,Bx) else (n,k))) = some .cell ∨
   CB x ((if (k == Az && env.scope.kind == .function && env.kindOf n == some .cell) = true then (n,Bx) else (n,k)) :: (r.map fun (n,k)=>if (k == Az && env.scope.kind == .function && env.kindOf n == some .cell) then (n,Bx) else (n,k))) = some .free:=h
  cases hx:x == n with
  | true =>
   obtain rfl:=beq_iff_eq.mp hx
   have hk:k = .free:=by
    by_cases hc:(k == Az && env.scope.kind == .function && env.kindOf x == some .cell) = true
    ·have:=(BJ.mp (BJ.mp hc).1).1
     exact beq_iff_eq.mp this
    ·rw [if_neg hc] at h'
     simp only [BM,hx] at h'
     rcases h' with e | e
     ·cases e;exact absurd rfl (hn (x,.cell) AU)
     ·cases e;rfl
   subst hk
   exact AU
  | false =>
   refine AQ _ (ih ?_)
   by_cases hc:(k == Az && env.scope.kind == .function && env.kindOf n == some .cell) = true
   ·rw [if_pos hc] at h';simp only [BM,hx] at h';exact h'
   ·rw [if_neg hc] at h';simp only [BM,hx] at h';exact h'
structure BlkR where
 cl:List (Str × Addr)
 C:Addr
 s₀:Shared
 H₀:Hp
 ex:List Addr
abbrev blk (X:Cx) (scope:Scope) (N':List Str) (R:BlkR):Cx :=
 { prog:=X.prog,w:=X.w,K:=X.K,mg:=X.mg,base:=X.base,A:=X.A,N:=N',s₀:=R.s₀,H₀:=R.H₀,env:=compEnvC scope R.cl R.C X.env,outer:=X.stack,stack:=X.stack,ex:=R.ex,fn:=fun _=>false,calm:=X.calm,pn:=[],xe:=fun _ _=>False }
def aNA (X:Cx) (ifs:List Expr) (t:TT):Prop :=
 ∀ (pins:List (Addr × Obj)) (s:Shared) (σ:St) (H:Hp) (Q:Bool → Hp → Prop),Inv X pins σ H s → t σ H Q →
  wpAny (model X.prog X.w) X.A (forIn ifs true fun c r=>if r = true then do let ok ← isTrue c X.env (eval c X.env);pure (Bo ok) else pure (Bo r)) (TP X pins σ Q) X.xe s
def aSD:TT:=fun _ H Q=>Q true H
theorem bW {X:Cx}:aNA X [] aSD:=fun pins s σ H Q I h=>wpAny_tests_nil ⟨H,I,h⟩
theorem eX {X:Cx} {c:Expr} {t:TT} (h:PT X c t):aNA X [c] t:=fun pins s σ H Q I hw=>wpAny_tests_one (h pins s σ H Q I hw)
def aDL (nt:Nat) (g:TG):Prop:=∀ x σ H Q,g x σ H Q → g x σ H fun σ2 H2=>Q σ2 H2 ∧ σ2.length = σ.length ∧ ∀ i,nt ≤ i → σ2[i]? = σ[i]?
theorem aY {nt i:Nat} (h:i < nt):aDL nt (sM i):=fun x σ H Q q =>
 ⟨q,by simp,fun j hj=>Ck (by omega)⟩
def nP (nt:Nat) (cap:List Nat) (σ:St):St:=List.replicate nt none ++ cap.map fun j=>(σ[j]?).join
theorem aIW {nt:Nat} {cap:List Nat} {σ:St}:(nP nt cap σ).length = nt + cap.length:=by simp [nP]
theorem yT {nt:Nat} {cap:List Nat} {σ:St} {i:Nat} {v:V} (h:(nP nt cap σ)[i]? = some (some v)):∃ j,nt ≤ i ∧ cap[i - nt]? = some j ∧ σ[j]? = some (some v):=by
 unfold nP at h
 by_cases hi:i < nt
 ·rw [BX (by simpa using hi),List.getElem?_replicate] at h
  rw [if_pos hi] at h
  cases h
 ·rw [CF (by simp;omega),List.length_replicate,AI] at h
  cases e:cap[i - nt]? with
  | none=>rw [e] at h;cases h
  | some j =>
   rw [e] at h
   refine ⟨j,by omega,rfl,?_⟩
   have h':(σ[j]?).join = some v:=by simpa using h
   cases q:σ[j]? with
   | none=>rw [q] at h';cases h'
   | some o=>rw [q] at h';cases o with
    | none=>cases h'
    | some z=>cases h';rfl
theorem wC {prog:Program} {w:World} {A:Around} {R:Result → Shared → Prop} {s:Shared} {elt target iter:Expr} {ifs:List Expr} {scope:Scope} {pos:Pos} {it acc:Value} {env:Env} (I:Nat → Shared → Prop)
  (turn:∀ n s,I n s → wpAny (model prog w) A (pyNext it) (fun r s₁=>match r with
   | none=>R (.ok .next) s₁
   | some v=>wpAny (model prog w) A (EI target it v) (fun _ s₁=>wpAny (model prog w) A (assign target env v) (fun _ s₂ =>
     wpAny (model prog w) A (forIn ifs true fun c r=>if r = true then do let ok ← isTrue c env (eval c env);pure (Bo ok) else pure (Bo r)) (fun ok s₃ =>
      if ok = true then wpAny (model prog w) A (eval elt env) (fun x s₄ =>
       wpAny (model prog w) A (call (.builtin "list.append") [acc,x]) (fun _ s₅=>∃ m,m < n ∧ I m s₅) (notedBy (model prog w) A env fun e s'=>R (.error e) s') s₄) (notedBy (model prog w) A env fun e s'=>R (.error e) s') s₃
      else ∃ m,m < n ∧ I m s₃) (notedBy (model prog w) A env fun e s'=>R (.error e) s') s₂) (notedBy (model prog w) A env fun e s'=>R (.error e) s') s₁) (notedBy (model prog w) A env fun e s'=>R (.error e) s') s₁) (notedBy (model prog w) A env fun e s'=>R (.error e) s') s)
  (n:Nat) (h:I n s) :
  codeAny (model prog w) A (.compLoop (.ListComp elt [⟨target,iter,ifs,0⟩] scope pos) 0 it acc env) R s:=by
 refine codeAny_loop rfl I (fun n s hI=>?_) n h
 show wpAny _ A ((compTurn (.ListComp elt [⟨target,iter,ifs,0⟩] scope pos) 0 it acc env).onRaise (fun x=>do noteFrame x env;theTreesLotGoes x)) _ _ s
 refine wpAny_noted ?_
 rw [compTurn_list]
 refine AD (Eg (AD (BL (turn n s hI) (fun r s₁ h₁=>?_) fun _ _ h'=>h')))
 cases r with
 | none=>exact AZ h₁
 | some v =>
  refine AD (BL h₁ (fun _ s₁' h₁'=>?_) fun _ _ h'=>h')
  refine AD (BL h₁' (fun _ s₂ h₂=>AD (BL h₂ (fun ok s₃ h₃=>?_) fun _ _ h'=>h')) fun _ _ h'=>h')
  cases ok with
  | false=>exact AZ ⟨rfl,h₃⟩
  | true =>
   exact AD (AD (BL h₃ (fun x s₄ h₄=>AD (BL h₄ (fun _ s₅ h₅=>AZ (AZ ⟨rfl,h₅⟩)) fun _ _ h'=>h')) fun _ _ h'=>h'))
abbrev CW:=Nat → Nat → List V → Hp → Prop
def xG (σb:St) (J:It) (g:TG) (tt:TT) (te:TE) (W:CW) (fin:List V → Hp → Prop) (i m:Nat) (ys:List V) (H:Hp):Prop :=
 (J.stop i H ∧ fin ys H) ∨
 (J.go i H ∧ ys.length < Aq ∧ ∀ x H',J.yld i H x H' → g x σb H' fun σ2 H2=>tt σ2 H2 fun b H3 =>
  if b = true then te σ2 H3 fun y H4=>∃ m',m' < m ∧ W (i + 1) m' (ys ++ [y]) H4 else ∃ m',m' < m ∧ W (i + 1) m' ys H3)
structure BlkEnd (X:Cx) (pins:List (Addr × Obj)) (H:Hp) (C:Addr) (s:Shared):Prop where
 ns:∃ m,s.heap.Ns C m
 fr:H C = none
 ne:C ≠ X.env.locals
 ab:X.s₀.heap.objs.size ≤ C
 cl:∀ x c,X.env.cells.lookup x = some c → c ≠ C
 pn:∀ p ∈ X.pn ++ pins,p.1 ≠ C
theorem wB {X:Cx} {pins:List (Addr × Obj)} {σ:St} {s₂:Shared} {H₂:Hp} {elt iter tg:Expr} {ifs:List Expr} {scope:Scope} {pos:Pos} {N':List Str} {nt:Nat} {cap:List Nat} {g:TG} {tt:TT} {te:TE} {cl:List (Str × Addr)}
  {it:Addr} {fp:List Addr} {tn:Nat → Heap → Prop} {J:It} {Q:List V → Hp → Prop} {E:Value → Shared → Prop}
  (hc:X.calm = true) (I₂:Inv X pins σ H₂ s₂) (T:Turn X.prog X.w X.K tg J fp it tn) (st:tn 0 s₂.heap) (hf:∀ b ∈ fp,aAU X pins H₂ b)
  (hclk:∀ x c,cl.lookup x = some c → X.env.cells.lookup x = some c) (hclh:∀ x,(x,Az) ∈ scope.names → ∃ c,cl.lookup x = some c)
  (hcell:∀ y ∈ scope.names,y.2 ≠ .cell) (hkind:scope.kind = .function)
  (hfr:∀ y ∈ scope.names,y.2 = .free → (X.env.kindOf y.1 = some .cell ∨ X.env.kindOf y.1 = some .free))
  (hN:N'.length = nt + cap.length) (hcapN:∀ (k j:Nat),cap[k]? = some j → N'[nt + k]? = X.N[j]?) (hcapF:∀ x ∈ N'.drop nt,scope.names.lookup x = some .free)
  (hg:∀ R,PG (blk X scope N' R) tg g) (hgk:aDL nt g) (ht:∀ R,aNA (blk X scope N' R) ifs tt) (he:∀ R,PE (blk X scope N' R) elt te)
  (h:∃ W:CW,(∃ m,W 0 m [] H₂) ∧ ∀ i m ys H,W i m ys H → xG (nP nt cap σ) J g tt te W Q i m ys H)
  {RR:Value → Addr → Result → Shared → Prop}
  (hRR:∀ D C s' H' ys,H' D = none → Q ys H' → Inv X pins σ (upd H' D (.lst ys)) s' → BlkEnd X pins (upd H' D (.lst ys)) C s' → RR (.ref D) C (.ok .next) s') :
  wpAny (model X.prog X.w) X.A (newList []) (fun acc s₃=>wpAny (model X.prog X.w) X.A (newFunctionEnv scope X.env.globals cl [] X.env.qual none .none (some X.env)) (fun cenv s₄ =>
   codeAny (model X.prog X.w) X.A (.compStart (.ListComp elt [⟨tg,iter,ifs,0⟩] scope pos) 0 (.ref it) acc { cenv with scope:=relabel scope X.env }) (RR acc cenv.locals) s₄) E s₃) E s₂:=by
 obtain ⟨W,⟨m0,w0⟩,turn⟩:=h
 refine DI (wpAny_newFunctionEnv hcell (by intro y hy;simp at hy) (fun h₁ hns₁ hsb₁=>?_) hkind)
 dsimp only at hns₁ hsb₁ ⊢
 generalize hH2:s₂.heap.push { cls:=.type "list",dict:=none,data:=.seq ([]:List Value).toArray } = Hx at hns₁ hsb₁ ⊢
 have hC:Hx.objs.size = s₂.heap.objs.size + 1:=by rw [← hH2,Cz]
 generalize hD:s₂.heap.objs.size = D at hC ⊢
 generalize hCC:Hx.objs.size = C at hns₁ hsb₁ hC ⊢
 have hDC:D ≠ C:=by omega
 have below:∀ b,b < s₂.heap.objs.size → b ≠ C ∧ b ≠ D:=fun b hb=>by omega
 have old:∀ b o,s₂.heap.get? b = some o → h₁.get? b = some o:=fun b o e=>hsb₁.extBut b o (below b (Aa e)).1 (AE _ (hH2 ▸ AE _ e))
 have hacc:h₁.get? D = some { cls:=.type "list",data:=.seq ([]:List Value).toArray }:=hsb₁.extBut _ _ hDC (AE _ (by rw [← hH2,← hD];exact Ab _ rfl))
 have freshD:H₂ D = none:=I₂.hok.fresh (by omega)
 have freshC:H₂ C = none:=I₂.hok.fresh (by omega)
 have fpo:∀ b ∈ fp,∃ o,s₂.heap.get? b = some o ∧ ∀ v,o.data ≠ .cell v:=T.obj 0 _ st
 have fplt:∀ b ∈ fp,b < s₂.heap.objs.size:=fun b hb=>let ⟨o,e,_⟩:=fpo b hb;Aa e
 have celllt:∀ x c,X.env.cells.lookup x = some c → c < s₂.heap.objs.size:=fun x c e=>let ⟨v,z⟩:=I₂.cell x c e;z.lt
 have pinlt:∀ p ∈ X.pn ++ pins,p.1 < s₂.heap.objs.size:=fun p hp=>Aa (I₂.pin p hp).1
 let R:BlkR:=⟨cl,C,s₂,H₂,fp⟩
 have okb:(blk X scope N' R).Ok:={
  mod:=I₂.mod
  kind:=hkind
  glob:=I₂.ok.glob
  blt:=I₂.ok.blt
  above:=(by show s₂.heap.objs.size ≤ C;omega)
  inj:=fun x y c e1 e2=>I₂.ok.inj x y c (hclk x c e1) (hclk y c e2)
  has:=fun x hx=>hclh x (kT hcell hx)
  cab:=fun x c hx _=>by cases hx
  hd:=I₂.ok.hd
  frames:=I₂.ok.frames
  stk:=.inl rfl
  exf:=fun b hb=>⟨(below b (fplt b hb)).1,fun x c e=>(hf b hb).2.2.2.2.1 x c (hclk x c e)⟩
  bs:=I₂.bs
  bsz:=BG I₂.ok.bsz I₂.sz
  noex:=fun b o e hb=>by
   rcases (hf b hb).2.2.2.1 with z | z
   ·exact I₂.ok.noex b o e z
   ·exact absurd (Ag (Aa e) (BG I₂.ok.bsz z)) (Ch _)
  exfs:=fun b hb z=>by
   rcases Ah.mp (I₂.stkSub b z) with q | q
   ·exact (hf b hb).2.1 q
   ·exact (hf b hb).2.2.1 q
  funs:=I₂.stack
  frf:=I₂.stkFree }
 have nofs:∀ a,s₂.heap.objs.size ≤ a → a ∉ frs X.stack:=fun a ha z=>by
  rcases Ah.mp (I₂.stkSub a z) with q | q
  ·exact absurd (Ag I₂.lt ha) (by rw [q];exact Ch _)
  ·exact I₂.nofs ha q
 have hDle:s₂.heap.objs.size ≤ D:=by omega
 have hCle:s₂.heap.objs.size ≤ C:=by omega
 have stat:∀ {H':Hp} {ob:Obj},(∀ b ∈ fp,H' b = none) → ∀ b ∈ fp,aAU (blk X scope N' R) [(D,ob)] H' b:=fun {H' ob} hn b hb =>
  ⟨hn b hb,(below b (fplt b hb)).1,okb.exfs b hb,.inl hb,fun x c e=>(hf b hb).2.2.2.2.1 x c (hclk x c e),fun p hp=>by
   have e:p = (D,ob):=by simpa using hp
   rw [e]
   exact Ne.symm (below b (fplt b hb)).2⟩
 have entry:∀ tk,Inv (blk X scope N' R) [(D,{ cls:=.type "list",data:=.seq ([]:List Value).toArray })] (nP nt cap σ) H₂ { s₂ with heap:=h₁,toks:=tk }:=fun tk=>{
  ok:=okb
  os:=rfl
  bare:=I₂.bare
  base:=Un.kept old
  loc:=by
   refine ⟨_,hns₁,fun i x v e1 e2 e3=>?_⟩
   obtain ⟨j,hi,hj,hv⟩:=yT e2
   have hx:X.N[j]? = some x:=by
    rw [← hcapN _ _ hj,show nt + (i - nt) = i by omega]
    exact e1
   have hxm:x ∈ N'.drop nt:=by
    refine AM (i:=i - nt) ?_
    rw [EV,show nt + (i - nt) = i by omega]
    exact e1
   have hfree:=hcapF x hxm
   have hmem:(x,Az) ∈ scope.names:=by
    have:∀ (l:List (Str × BD)),l.lookup x = some .free → (x,Az) ∈ l:=by
     intro l
     induction l with
     | nil=>intro q;cases q
     | cons a r ih =>
      intro q
      obtain ⟨n,k⟩:=a
      cases hxn:x == n with
      | true =>
       rw [BM,hxn] at q
       obtain rfl:=beq_iff_eq.mp hxn
       cases q
       exact AU
      | false =>
       rw [BM,hxn] at q
       exact AQ _ (ih q)
    exact this _ hfree
   have hk:=hfr (x,.free) hmem rfl
   obtain ⟨m,hn,hl⟩:=I₂.loc
   have vis:Vis X.env.scope x:=by
    rcases hk with k | k
    ·exact .inr (.inl k)
    ·exact .inr (.inr k)
   obtain ⟨u,ru,lk⟩:=hl j x v hx hv vis
   refine ⟨u,ru,?_⟩
   rcases lk with ⟨k,_⟩ | ⟨k,c,hc1,hc2⟩
   ·exfalso
    rcases hk with z | z
    ·rw [z] at k;cases k
    ·rw [z] at k;cases k
   ·obtain ⟨d,hd⟩:=hclh x hmem
    have hd':=hclk x d hd
    rw [hc1] at hd'
    cases hd'
    refine .inr ⟨iS hfree,c,hd,?_⟩
    obtain ⟨o,ho,hdat⟩:=hc2
    exact ⟨o,old c o ho,hdat⟩
  cell:=fun x c e=>by
   obtain ⟨v,o,ho,hdat⟩:=I₂.cell x c (hclk x c e)
   exact ⟨v,o,old c o ho,hdat⟩
  free:=freshC
  freeC:=fun x c e=>I₂.freeC x c (hclk x c e)
  pin:=fun p hp=>by
   have e:p = (D,{ cls:=.type "list",data:=.seq ([]:List Value).toArray }):=by simpa using hp
   subst e
   exact ⟨hacc,freshD,hDC,nofs D hDle,fun v z=>by cases z⟩
  hok:=I₂.hok.kept old
  len:=by rw [aIW,hN] }
 have loop:∀ tk,codeAny (model X.prog X.w) X.A (.compLoop (.ListComp elt [⟨tg,iter,ifs,0⟩] scope pos) 0 (.ref it) (.ref D) (compEnvC scope cl C X.env)) (RR (.ref D) C) { s₂ with heap:=h₁,toks:=tk }:=by
  intro tk
  refine wC (fun n s'=>∃ i ys H' its k,Inv (blk X scope N' R) [(D,{ cls:=.type "list",data:=.seq its.toArray k })] (nP nt cap σ) H' s' ∧ tn i s'.heap ∧ (∀ b ∈ fp,H' b = none) ∧ bF ys its ∧ ys.length ≤ Aq ∧ W i n ys H') ?_ m0
   ⟨0,[],H₂,[],0,entry tk,T.keep _ _ _ st fun b hb o e=>old b o e,fun b hb=>(hf b hb).1,.nil,BK _,w0⟩
  rintro n s3 ⟨i,ys,H3,its,k,I3,st3,fr3,rv,hz,w3⟩
  have pD:=I3.pin (D,{ cls:=.type "list",data:=.seq its.toArray k }) (by simp)
  rcases turn i n ys H3 w3 with ⟨stop,qn⟩ | ⟨go,hlt,step⟩
  ·-- the end
   refine BL (T.done (blk X scope N' R) rfl rfl rfl hc i _ s3 _ H3 (fun _ _=>False) I3 (stat fr3) st3 stop) (fun r s4 ⟨hr,I4⟩=>?_) fun _ _ z=>z.elim
   subst hr
   have pD4:=I4.pin (D,{ cls:=.type "list",data:=.seq its.toArray k }) (by simp)
   have b4:Un (frs X.stack) fp H₂ H3 s₂.heap s4.heap:=I4.base
   have u4:Un (frs X.stack) fp H₂ (upd H3 D (.lst ys)) s₂.heap s4.heap:={
    keep:=b4.keep
    slot:=b4.slot
    free:=fun b o e n hx=>by
     rw [aI (below b (Aa e)).2]
     exact b4.free b o e n hx
    there:=b4.there
    tups:=fun b xs e=>by
     have z:=b4.tups b xs e
     rw [aI (aO z pD4.2.1)]
     exact z
    frzs:=fun b o u e=>by
     have z:=b4.frzs b o u e
     rw [aI (aO z pD4.2.1)]
     exact z
    tbls:=fun b ps e=>by
     obtain ⟨more,z⟩:=b4.tbls b ps e
     exact ⟨more,by rw [aI (aO z pD4.2.1)];exact z⟩ }
   have hok4:HOk X.prog X.w (upd H3 D (.lst ys)) s4.heap:=fun b u e=>by
    by_cases hb:b = D
    ·subst hb
     rw [aE] at e
     cases e
     exact ⟨hz,its,k,rv,pD4.1⟩
    ·rw [aI hb] at e
     exact (I4.hok b u e).stay (fun c v _ q=>q) (fun c q=>by rw [aI (aO q pD4.2.1)];exact q) fun c xs q=>by rw [aI (aO q pD4.2.1)];exact q
   have I5:Inv X pins σ (upd H3 D (.lst ys)) s4:=I₂.call' I4.os u4 hok4 I4.bare fun b hb=>⟨(hf b hb).2.2.2.1,(hf b hb).2.1,(hf b hb).2.2.2.2.1,(hf b hb).2.2.2.2.2⟩
   refine hRR D C s4 H3 ys pD4.2.1 qn I5 ?_
   obtain ⟨m,hn,_⟩:=I4.loc
   exact ⟨⟨m,hn⟩,by rw [aI (Ne.symm hDC)];exact I4.free,fun z=>absurd I₂.lt (by rw [← z];exact Nat.not_lt.mpr hCle),BG I₂.sz hCle,fun x c e=>Af (Ag (celllt x c e) hCle),fun p hp=>Af (Ag (pinlt p hp) hCle)⟩
  ·-- a turn
   refine BL (T.item (blk X scope N' R) rfl rfl rfl hc i _ s3 _ H3 (fun _ _=>False) I3 (stat fr3) st3 go) (fun r s4 ⟨u,hr,h4⟩=>?_) fun _ _ z=>z.elim
   subst hr
   refine BL h4 (fun _ s5 ⟨x,H5,I5,r5,y5,st5,fr5⟩=>?_) fun _ _ z=>z.elim
   have I5':=I5.pinned (stat fr5) (T.obj _ _ st5)
   refine BL (hg R _ s5 _ H5 x u _ I5' r5 (hgk _ _ _ _ (step x H5 y5))) (fun _ s6 ⟨σ6,H6,I6,q6,l6,k6⟩=>?_) fun _ _ z=>z.elim
   refine BL (ht R _ s6 σ6 H6 _ I6 q6) (fun ok s7 ⟨H7,I7,q7⟩=>?_) fun _ _ z=>z.elim
   have weak:∀ {H8:Hp} {s8:Shared} {ps:List (Addr × Obj)},Inv (blk X scope N' R) ps σ6 H8 s8 → Inv (blk X scope N' R) ps (nP nt cap σ) H8 s8:=fun I8=>I8.weak (by rw [l6]) fun j v e=>by
    obtain ⟨_,hj,_,_⟩:=yT e
    rw [k6 j hj]
    exact e
   have tnK:∀ {H8:Hp} {s8:Shared} {σ8:St},Inv (blk X scope N' R) ([(D,{ cls:=.type "list",data:=.seq its.toArray k })] ++ mQ fp s5.heap) σ8 H8 s8 → tn (i + 1) s8.heap ∧ ∀ b ∈ fp,H8 b = none:=fun {H8 s8 σ8} I8 =>
    ⟨T.keep _ _ _ st5 fun b hb o e=>(I8.pin (b,o) (Am _ (Am _ (lQ hb e)))).1,fun b hb=>by
     obtain ⟨o,e,_⟩:=T.obj _ _ st5 b hb
     exact (I8.pin (b,o) (Am _ (Am _ (lQ hb e)))).2.1⟩
   cases ok with
   | false =>
    rw [if_neg Ad] at q7 ⊢
    obtain ⟨m',hm,w7⟩:=q7
    exact ⟨m',hm,i + 1,ys,H7,its,k,weak I7.unpinned,(tnK I7).1,(tnK I7).2,rv,hz,w7⟩
   | true =>
    rw [if_pos rfl] at q7 ⊢
    refine BL (he R _ s7 σ6 H7 _ I7 q7) (fun xv s8 ⟨y,H8,I8,ry,q8⟩=>?_) fun _ _ z=>z.elim
    obtain ⟨m',hm,w8⟩:=q8
    have pD8:=I8.pin (D,{ cls:=.type "list",data:=.seq its.toArray k }) (by simp)
    have hsz:its.toArray.size ≤ Aq:=by rw [AR,← rv.length];omega
    refine wpAny_list_append_plain (hsz:=hsz) ⟨k,pD8.1⟩ fun h9 hl9 hs9=>?_
    obtain ⟨k9,hl9⟩:=hl9
    have tn8:=tnK I8
    have I8':Inv (blk X scope N' R) (mQ fp s5.heap) (nP nt cap σ) H8 s8:=(weak I8).pins_of fun p hp=>I8.pin p (Am _ (Am _ hp))
    have I9:Inv (blk X scope N' R) (mQ fp s5.heap) (nP nt cap σ) H8 { s8 with heap:=h9 }:=I8'.turned (it:=D) (t':=s8.toks) (fun b o hb e=>hs9.extBut b o hb e) pD8.2.1 pD8.2.2.1 (.inr hDle)
     (fun x c e=>Af (Ag (celllt x c (hclk x c e)) hDle)) fun p hp=>by
      have hp':p ∈ mQ fp s5.heap:=by simpa using hp
      exact Af (Ag (fplt p.1 (xS hp').1) hDle)
    have e9:h9.get? D = some { cls:=.type "list",data:=.seq (its ++ [xv]).toArray k9 }:=by
     rw [hl9]
     simp
    refine ⟨m',hm,i + 1,ys ++ [y],H8,its ++ [xv],k9,I9.pins_of fun p hp=>?_,T.keep _ _ _ tn8.1 fun b hb o e=>hs9.extBut b o (Af (Ag (fplt b hb) hDle)) e,tn8.2,rv.append (.cons ry .nil),by rw [Ae];exact hlt,w8⟩
    have e:p = (D,{ cls:=.type "list",data:=.seq (its ++ [xv]).toArray k9 }):=by simpa using hp
    subst e
    exact ⟨e9,pD8.2.1,pD8.2.2.1,pD8.2.2.2.1,fun v z=>by cases z⟩
 exact codeAny_compStart_list (loop _) (T.self _ 0 _ _ _ (T.keep _ _ _ st fun b hb o e=>old b o e) (loop _))
def aPO (nt:Nat) (cap:List Nat) (wi:TI) (g:TG) (tt:TT) (te:TE):TE:=fun σ H Q=>wi σ H fun J H1=>∃ W:CW,(∃ m,W 0 m [] H1) ∧ ∀ i m ys H,W i m ys H → xG (nP nt cap σ) J g tt te W (fun ys H'=>∀ p,H' p = none → Q (.ref p) (upd H' p (.lst ys))) i m ys H
theorem kC {α:Type} {l:List α} {p:α → Bool} (h:l.all p = true):∀ x ∈ l,p x = true:=fun x hx=>BB.mp h x hx
theorem bS {X:Cx} {elt iter tg:Expr} {ifs:List Expr} {scope:Scope} {pos:Pos} {wi:TI} {g:TG} {tt:TT} {te:TE} (N':List Str) (nt:Nat) (cap:List Nat)
  (hc:X.calm = true) (hi:PI X tg iter wi) (hg:∀ R,PG (blk X scope N' R) tg g) (hgk:aDL nt g) (ht:∀ R,aNA (blk X scope N' R) ifs tt) (he:∀ R,PE (blk X scope N' R) elt te)
  (hcell:(scope.names.all fun y=>!(y.2 == .cell)) = true:=by rfl) (hkind:scope.kind = .function:=by rfl)
  (hnames:(scope.names.all fun y=>!(y.2 == .local) || (scope.names.lookup y.1 == some .local)) = true:=by rfl)
  (hfr:(scope.names.all fun y=>!(y.2 == .free) || (X.env.kindOf y.1 == some .cell || X.env.kindOf y.1 == some .free)) = true:=by rfl)
  (hN:N'.length = nt + cap.length:=by rfl) (hcapN:(cap.map fun j=>X.N[j]?) = (N'.drop nt).map some:=by rfl) (hcapF:((N'.drop nt).all fun x=>scope.names.lookup x == some .free) = true:=by rfl)
  (hs:∀ x,Es iter X.env x = pure x:=by intro _;rfl) :
  PE X (.ListComp elt [⟨tg,iter,ifs,0⟩] scope pos) (aPO nt cap wi g tt te):=by
 intro pins s σ H Q I h
 have hfr':∀ y ∈ scope.names,y.2 = .free → (X.env.kindOf y.1 = some .cell ∨ X.env.kindOf y.1 = some .free):=fun y hy e=>by
  have z:=kC hfr y hy
  rw [e] at z
  have z':(X.env.kindOf y.1 == some .cell || X.env.kindOf y.1 == some .free) = true:=z
  rcases Bool.or_eq_true_iff.mp z' with q | q
  ·exact .inl (beq_iff_eq.mp q)
  ·exact .inr (beq_iff_eq.mp q)
 have hcell':∀ y ∈ scope.names,y.2 ≠ .cell:=fun y hy e=>by
  have z:=kC hcell y hy
  rw [e] at z
  cases z
 obtain ⟨cl,hcl,hclk,hclh⟩:=wD (scope:=scope) (env:=X.env) fun y hy e=>I.ok.has y.1 (hfr' y hy e)
 have hnames':∀ y ∈ scope.names,y.2 = .local → scope.names.lookup y.1 = some .local:=fun y hy e=>by
  have z:=kC hnames y hy
  rw [e] at z
  exact beq_iff_eq.mp z
 have hcapN':∀ (k j:Nat),cap[k]? = some j → N'[nt + k]? = X.N[j]?:=fun k j e=>by
  have z:=congrArg (fun l:List (Option Str)=>l[k]?) hcapN
  simp only [AI,e,Cq,EV] at z
  cases q:N'[nt + k]? with
  | none=>rw [q] at z;cases z
  | some x=>rw [q] at z;exact (Ax z).symm
 rw [eval_ListComp]
 refine wpAny_comprehension_free (use:=none) rfl hs hcl hkind hnames' (thn (hi pins s σ H _ I h) fun v s1 h1=>thn h1 fun itv s2 h2=>?_)
 obtain ⟨it,fp,tn,J,H2,e,I2,T,st2,f2,hw⟩:=h2
 subst e
 refine wB (RR:=fun acc C=>compPost (model X.prog X.w) X.A X.xe none (EP X pins σ Q) acc C) hc I2 T st2 f2 hclk hclh hcell' hkind hfr' hN hcapN' (fun x hx=>beq_iff_eq.mp (kC hcapF x hx)) hg hgk ht he hw ?_
 intro D C s' H' ys hD q I' B
 obtain ⟨m,hn⟩:=B.ns
 refine ⟨m,hn,fun h' hs'=>⟨.ref D,_,I'.turned (it:=C) (t':=s'.toks) (fun b o hb e=>hs'.extBut b o hb e) B.fr B.ne (.inr B.ab) B.cl B.pn,rfl,q D hD⟩⟩
end L2
namespace L2
open PySem PySem.Spec PyProof.Rows
section
variable {X:Cx}
def aRS:V → Option Value
 | .ty n=>some (.type n)
 | .ref a=>some (.ref a)
 | _=>none
theorem aMV {y:V} {c u:Value} (h:aRS y = some c) (r:bI y u):u = c:=by
 cases y with
 | ty n=>cases h;exact r
 | ref a=>cases h;exact r
 | non=>cases h
 | bl b=>cases h
 | int i=>cases h
 | str x=>cases h
 | byt b=>cases h
 | flt b=>cases h
theorem aDF:eO X (.builtin "isinstance") (fun xs H Q=>∃ x y c t b,xs = [x,y] ∧ aRS y = some c ∧ TyOf X.K H x t ∧ Bt X.K t c = some b ∧ Q (.bl b) H):=by
 intro pins s σ H xs us Q I r h
 obtain ⟨x,y,c,t,b,rfl,hc,ty,e,q⟩:=h
 obtain ⟨u,v,rfl,ru,rv⟩:=bF.two r
 obtain rfl:=aMV hc rv
 exact aIC I ru ty e fun tk=>⟨.bl b,H,I.tok tk,rfl,q⟩
theorem sO:∀ {bs:List Bool} {us:List Value},bF (bs.map V.bl) us → LSm.BoolsAre us bs
 | [],us,r=>by
  rw [Cc] at r
  cases r
  exact .nil
 | b :: bs,us,r=>by
  rw [AY] at r
  cases r with
  | cons r1 r2 =>
   cases r1
   exact .cons b (sO r2)
theorem nO (hc:X.calm = true):eO X (.builtin "all") (fun xs H Q=>∃ (p:Addr) (bs:List Bool),xs = [.ref p] ∧ SqL X.K H p (bs.map V.bl) ∧ Q (.bl (bs.all id)) H):=by
 intro pins s σ H xs us Q I r h
 obtain ⟨p,bs,rfl,hq,q⟩:=h
 obtain ⟨u,rfl,ru⟩:=bF.one r
 cases ru
 obtain ⟨its,rv,pl,hz⟩:=I.list hq
 obtain ⟨m,F⟩:=I.fr
 have hb:=sO rv
 have hl:=pl.isList
 have hlt:p < s.heap.objs.size:=by obtain ⟨_,e,_⟩:=hl;exact Aa e
 refine call_all_walk (Co hl ?_)
 refine ⟨s.heap.objs.size,[s.heap.objs.size,p],[s.heap.objs.size],its.toArray.size,_,_,fun i=>(bs[i]?).getD true,rfl,EO (A:=X.A.in1) (I.ok.hd hc) _ p (Af hlt) its.toArray,
  ⟨⟨_,Ab _ rfl,rfl,rfl⟩,hl.push _⟩,fun i v s' Q' E' hP hQ=>?_,fun h' tk hk=>?_⟩
 ·obtain ⟨b,e,rfl⟩:=hb.get i v (by simpa using hP)
  simp only [e,Option.getD_some] at hQ
  exact Bk hQ
 ·have e:((An its.toArray.size).all fun i=>(bs[i]?).getD true) = bs.all id:=by
   rw [AR,hb.length];exact LSm.range_all bs
  rw [e]
  exact ⟨.bl _,H,I.kept (LSm.kept_iter hk),rfl,q⟩
theorem aKB:SlR X (fun x lo hi H Q=>∃ z,x = .str z ∧ z.length ≤ Aq ∧ Q (.str (Cg z lo hi)) H):=by
 intro pins s σ H x v vl vu lo hi sl Q I rx hs pl pu h
 obtain ⟨z,rfl,hz,q⟩:=h
 obtain ⟨t,rfl⟩:=rx
 refine ⟨"str",_,F.slot_str_getitem.lookup,typeIs_str _ _ _,?_⟩
 have fin:∀ (t':Tok) (k:Nat),EP X pins σ Q (.str (Cg z lo hi) t') { s with toks:=k }:=fun t' k=>⟨.str _,H,I.tok k,⟨t',rfl⟩,q⟩
 cases pl with
 | none =>
  cases pu with
  | none=>exact DD (l:=none) (u:=none) (st:=none) hs rfl (EH ⟨BG (Eb z _ _) hz,fun t' k=>fin t' k⟩)
  | int j uj=>exact DD (l:=none) (u:=some (j,uj)) (st:=none) hs rfl (EH ⟨BG (Eb z _ _) hz,fun t' k=>fin t' k⟩)
 | int i ui =>
  cases pu with
  | none=>exact DD (l:=some (i,ui)) (u:=none) (st:=none) hs rfl (EH ⟨BG (Eb z _ _) hz,fun t' k=>fin t' k⟩)
  | int j uj=>exact DD (l:=some (i,ui)) (u:=some (j,uj)) (st:=none) hs rfl (EH ⟨BG (Eb z _ _) hz,fun t' k=>fin t' k⟩)
theorem bT:OpR X (Di .FloorDiv) (rI (fun _ j=>0 < j ∧ j.natAbs.log2 < 9000) fun i j=>.int (i / j)):=opI fun i j _ _ _ _ _ hc q=>by
 have h1:(0:Int) < j:=hc.1
 exact floordiv_int (by omega) (by rw [Int.fdiv_eq_ediv_of_nonneg i (by omega)];exact q) (.inl (PyProof.noPylong_of_log2 hc.2))
def Its (x:Str):It where
 go:=fun i _=>i < x.cps.size
 yld:=fun i H v H'=>H' = H ∧ ∃ c,x.cps[i]? = some c ∧ v = .str ⟨#[c]⟩
 stop:=fun i _=>i = x.cps.size
theorem aBC {P:Program} {w:World} {K:AG} {tg:Expr} (it:Addr) (x:Str) (t:Tok) (ty:String)
  (W:∀ A:Around,A.handled = none → Walks P w A it [it] [it] x.cps.size (SignAt x) (fun i h=>h.IsStrIter it ty x t i))
  (hn:["enumerate","zip","dict_itemiterator","dict_reverseitemiterator","odict_iterator","itertools.zip_longest","itertools.pairwise"].contains ty = false)
  (self:∀ (A:Around) (i:Nat) (s:Shared) (Q:Value → Shared → Prop) (E:Value → Shared → Prop),s.heap.IsStrIter it ty x t i → Q (.ref it) s → wpAny (model P w) A (pyIter (.ref it)) Q E s) :
  Turn P w K tg (Its x) [it] it (fun i h=>h.IsStrIter it ty x t i) where
 mem:=by simp
 obj:=fun i h st b hb=>by
  have e:b = it:=by simpa using hb
  subst e
  obtain ⟨o,e,c,d⟩:=st
  exact ⟨o,e,fun v z=>by rw [d] at z;cases z⟩
 keep:=fun i h h' st k=>let ⟨o,ho,r⟩:=st;⟨o,k it (by simp) o ho,r⟩
 item:=by
  intro X hP hw hK hc i pins s σ H E I hf st hg
  subst hP hw hK
  obtain ⟨f0,f1,f2,f3,f4,f5⟩:=hf it (by simp)
  refine (W X.A (I.ok.hd hc)).item i s _ _ hg st fun v h' tk hv st' kk=>?_
  obtain ⟨c,u,hx,rfl⟩:=hv
  have I1:Inv X pins σ H { s with heap:=h',toks:=tk }:=I.turned (fun b o hb e=>kk b o (by simpa using hb) e) f0 f1 f3 f4 f5
  obtain ⟨o,e,cc,d⟩:=id st'
  exact ⟨_,rfl,aCS (s:={ s with heap:=h',toks:=tk }) e cc d hn ⟨.str ⟨#[c]⟩,H,I1,⟨u,rfl⟩,⟨rfl,c,hx,rfl⟩,st',fun b hb=>(hf b hb).1⟩⟩
 done:=by
  intro X hP hw hK hc i pins s σ H E I hf st hg
  subst hP hw hK
  obtain ⟨f0,f1,f2,f3,f4,f5⟩:=hf it (by simp)
  have hg':i = x.cps.size:=hg
  subst hg'
  exact (W X.A (I.ok.hd hc)).done s _ _ st fun h' tk kk=>⟨rfl,I.turned (fun b o hb e=>kk b o (by simpa using hb) e) f0 f1 f3 f4 f5⟩
 self:=self
def aUU (tl:TE):TI:=fun σ H R=>tl σ H fun x H1=>∃ z,x = .str z ∧ R (Its z) H1
theorem aQV {tg l:Expr} {tl:TE} (hl:PE X l tl):PI X tg l (aUU tl):=by
 intro pins s σ H R I h
 refine thn (hl pins s σ H _ I h) fun v s1 ⟨x,H1,I1,r1,q1⟩=>?_
 obtain ⟨z,e,q⟩:=q1
 subst e
 obtain ⟨t,rfl⟩:=r1
 have fp:∀ b ∈ [s1.heap.objs.size],aAU X pins H1 b:=fun b hb=>by
  have e:b = s1.heap.objs.size:=by simpa using hb
  subst e
  exact I1.fpOk (AN _) (I1.hok.fresh (AN _))
 cases ha:z.cps.all (· < 128)
 ·refine wpAny_pyIter_wide ha ?_
  exact ⟨s1.heap.objs.size,[s1.heap.objs.size],_,_,H1,rfl,I1.kept (t':=s1.toks) fun b o e=>AE _ e,aBC _ z t "str_iterator" (fun A hA=>Walks.strWide hA _ z t) (by decide) (fun A i s Q E st h=>wpAny_pyIter_striter_wide st h),
   ⟨_,Ab _ rfl,rfl,rfl⟩,fp,q⟩
 ·refine wpAny_pyIter_ascii ha ?_
  exact ⟨s1.heap.objs.size,[s1.heap.objs.size],_,_,H1,rfl,I1.kept (t':=s1.toks) fun b o e=>AE _ e,aBC _ z t "str_ascii_iterator" (fun A hA=>Walks.strAscii hA _ z t) (by decide) (fun A i s Q E st h=>wpAny_pyIter_striter_ascii st h),
   ⟨_,Ab _ rfl,rfl,rfl⟩,fp,q⟩
end
theorem aMT {σb:St} {x:Str} {g:TG} {tt:TT} {te:TE} {fin:List V → Hp → Prop} {H:Hp} (hz:x.cps.size ≤ Aq) (Pv:Nat → List V → Hp → Prop) (h0:Pv 0 [] H) (hl:∀ i ys H,Pv i ys H → ys.length ≤ i)
  (hs:∀ i c ys H (K:VK) (K':Hp → Prop),x.cps[i]? = some c → Pv i ys H → (∀ y H4,Pv (i + 1) (ys ++ [y]) H4 → K y H4) → (∀ H3,Pv (i + 1) ys H3 → K' H3) →
   g (.str ⟨#[c]⟩) σb H fun σ2 H2=>tt σ2 H2 fun b H3=>if b = true then te σ2 H3 K else K' H3)
  (hd:∀ ys H,Pv x.cps.size ys H → fin ys H):∃ W:CW,(∃ m,W 0 m [] H) ∧ ∀ i m ys H,W i m ys H → xG σb (Its x) g tt te W fin i m ys H:=by
 refine ⟨fun i m ys H=>m = x.cps.size - i ∧ i ≤ x.cps.size ∧ Pv i ys H,⟨x.cps.size,by simp,BK _,h0⟩,?_⟩
 rintro i m ys H ⟨rfl,hi,p⟩
 by_cases hlt:i < x.cps.size
 ·refine .inr ⟨hlt,?_,fun v H' y=>?_⟩
  ·have:=hl i ys H p;omega
  ·obtain ⟨e,c,hx,rfl⟩:=y
   subst e
   exact hs i c ys _ _ _ hx p (fun y H4 q=>⟨x.cps.size - (i + 1),by omega,rfl,hlt,q⟩) fun H3 q=>⟨x.cps.size - (i + 1),by omega,rfl,hlt,q⟩
 ·have e:i = x.cps.size:=by omega
  subst e
  exact .inl ⟨rfl,hd ys H p⟩
theorem bG {F:AG} {a:Addr} {xs:List V} {σb:St} {g:TG} {tt:TT} {te:TE} {fin:List V → Hp → Prop} {H:Hp} (hz:xs.length ≤ Aq) (Pv:Nat → List V → Hp → Prop) (h0:Pv 0 [] H)
  (hl:∀ i ys H,i ≤ xs.length → Pv i ys H → SqL F H a xs ∧ ys.length ≤ i)
  (hs:∀ i x ys H (K:VK) (K':Hp → Prop),xs[i]? = some x → Pv i ys H → (∀ y H4,Pv (i + 1) (ys ++ [y]) H4 → K y H4) → (∀ H3,Pv (i + 1) ys H3 → K' H3) →
   g x σb H fun σ2 H2=>tt σ2 H2 fun b H3=>if b = true then te σ2 H3 K else K' H3)
  (hd:∀ ys H,Pv xs.length ys H → fin ys H):∃ W:CW,(∃ m,W 0 m [] H) ∧ ∀ i m ys H,W i m ys H → xG σb (Itl F a) g tt te W fin i m ys H:=by
 refine ⟨fun i m ys H=>m = xs.length - i ∧ i ≤ xs.length ∧ Pv i ys H,⟨xs.length,by simp,BK _,h0⟩,?_⟩
 rintro i m ys H ⟨rfl,hi,p⟩
 obtain ⟨q,ql⟩:=hl i ys H hi p
 by_cases hlt:i < xs.length
 ·refine .inr ⟨⟨xs,xs[i],q,by simp [hlt]⟩,by omega,fun x H' y=>?_⟩
  obtain ⟨e,y⟩:=y
  subst e
  exact hs i x ys _ _ _ (y xs q) p (fun y H4 q=>⟨xs.length - (i + 1),by omega,rfl,hlt,q⟩) fun H3 q=>⟨xs.length - (i + 1),by omega,rfl,hlt,q⟩
 ·have e:i = xs.length:=by omega
  subst e
  exact .inl ⟨⟨xs,q,AN _⟩,hd ys H p⟩
theorem aFF {lo:Int} {n:Nat} {σb:St} {g:TG} {tt:TT} {te:TE} {fin:List V → Hp → Prop} {H:Hp} (hz:n ≤ Aq) (Pv:Nat → List V → Hp → Prop) (h0:Pv 0 [] H) (hl:∀ i ys H,Pv i ys H → ys.length ≤ i)
  (hs:∀ i ys H (K:VK) (K':Hp → Prop),i < n → Pv i ys H → (∀ y H4,Pv (i + 1) (ys ++ [y]) H4 → K y H4) → (∀ H3,Pv (i + 1) ys H3 → K' H3) →
   g (.int (lo + i)) σb H fun σ2 H2=>tt σ2 H2 fun b H3=>if b = true then te σ2 H3 K else K' H3)
  (hd:∀ ys H,Pv n ys H → fin ys H):∃ W:CW,(∃ m,W 0 m [] H) ∧ ∀ i m ys H,W i m ys H → xG σb (Itr lo n) g tt te W fin i m ys H:=by
 refine ⟨fun i m ys H=>m = n - i ∧ i ≤ n ∧ Pv i ys H,⟨n,by simp,BK _,h0⟩,?_⟩
 rintro i m ys H ⟨rfl,hi,p⟩
 by_cases hlt:i < n
 ·refine .inr ⟨hlt,?_,fun v H' y=>?_⟩
  ·have:=hl i ys H p;omega
  ·obtain ⟨e,y⟩:=y
   subst e y
   exact hs i ys _ _ _ hlt p (fun y H4 q=>⟨n - (i + 1),by omega,rfl,hlt,q⟩) fun H3 q=>⟨n - (i + 1),by omega,rfl,hlt,q⟩
 ·have e:i = n:=by omega
  subst e
  exact .inl ⟨AN _,hd ys H p⟩
end L2
namespace L2
open PySem PySem.Spec PyProof.Rows
structure DefAt (K:AG) (mg:Str → Option Value) (x:Str) (st:Stmt) (ps:List Str):Prop where
 ex:∃ (f:Addr) (fd:Bi),Fun K x x st f fd ∧ jV K fd ps [] ∧ mg x = some (.ref f)
structure Fc (P:Program) (w:World) (K:AG) (mg:Str → Option Value) (base:Heap) (k:Nat) (x:Str) (ps:List Str) (sp:Sp):Prop where
 ex:∃ (f:Addr) (fd:Bi),FnOk P w K mg base CX0 k f fd ps sp ∧ jV K fd ps [] ∧ mg x = some (.ref f) ∧ AH K (.ref f) = true
section
variable {P:Program} {w:World} {K:AG} {mg:Str → Option Value} {base:Heap}
theorem DefAt.fc {x:Str} {st:Stmt} {N ps:List Str} {k:Nat} {sp:Sp} (D:DefAt K mg x st ps) (S:FnScope N ps (aB st)) (len:∀ vs H Q E,sp vs H Q E → vs.length = ps.length)
  (hbody:∀ (f:Addr) (cdv:Value) (A:Around) (outer:List Env) (s:Shared) (H:Hp) (vs:List V) (Q:VK) (E:XK),Room k (A.deeper (envOfC x (aB st) s.heap.objs.size f cdv)) → sp vs H Q E →
   ∃ t,PSs (mG CX0 P w K mg base N x (aB st) f cdv A outer s H E).nox (aK st) t ∧ t { nx:=fun _ H'=>Q .non H',rt:=Q } (start N vs) H):Fc P w K mg base (k + 1) x ps sp:=by
 obtain ⟨f,fd,F,b,m⟩:=D.ex
 exact ⟨f,fd,F.ok S len fun cdv A outer s H vs Q E hr h=>hbody f cdv A outer s H vs Q E hr h,b,m,F.kp⟩
theorem bC {h:Heap} {x:Str} {st:Stmt} {ps:List Str} {f:Addr} {oc:Value} {od an:Option Addr} {osl:Array (Option Value)} {kV doc pm cdv ct:Value} (X:K.In h) (G:h.Ns AK mg)
  (a:AL K AK x = some (some (.ref f))) (l:K.lookup f = some ⟨oc,od,.func (AO x x (aL st) (aK st) (aB st) .none kV doc pm an cdv ct),osl⟩)
  (c:AJ K cdv x = true) (k:AH K (.ref f) = true)
  (hb:∀ (kV doc pm:Value) (an:Option Addr) (cdv ct:Value) (us:List Value),us.length = ps.length → EX (AO x x (aL st) (aK st) (aB st) .none kV doc pm an cdv ct) ⟨us,[]⟩ = pure (ps.zip us)):DefAt K mg x st ps :=
 ⟨f,_,rK l c k,(rK l c k).binds hb,PySem.W.mg_of X G a⟩
end
section
variable {X:Cx} {k:Nat} {ps:List Str} {sp:Sp} {x:Str} {p pos:Pos} {e:Expr} {es:List Expr} {t:TA}
theorem bH (F:Fc X.prog X.w X.K X.mg X.base k x ps sp) (hr:Room k X.A) (ha:PA X (e :: es) t) (hg:Gl X x:=by rfl) (hdb:(x == ("__debug__":Str)) = false:=by decide)
  (he:At (e :: es) X.env = (false,eval e X.env) :: At es X.env:=by rfl) (hpl:(backTo pos (At es X.env)).any (·.1) = false:=by rfl) :
  PE X (.Call (.Name x p) (e :: es) [] pos) (aPP sp [] E0 t):=by
 obtain ⟨f,fd,G,b,m,kp⟩:=F.ex
 exact aOF G hr hg m kp b .nil aGI ha hdb he hpl
end
def sp1 (f:V → Hp → VK → Prop):Sp:=fun vs H Q _=>∃ x,vs = [x] ∧ f x H Q
def sp2 (f:V → V → Hp → VK → Prop):Sp:=fun vs H Q _=>∃ x y,vs = [x,y] ∧ f x y H Q
def sp3 (f:V → V → V → Hp → VK → Prop):Sp:=fun vs H Q _=>∃ x y z,vs = [x,y,z] ∧ f x y z H Q
theorem mF {f:V → Hp → VK → Prop}:∀ vs H Q E,sp1 f vs H Q E → vs.length = 1:=fun vs H Q E ⟨x,e,_⟩=>by rw [e];rfl
theorem iL {f:V → V → Hp → VK → Prop}:∀ vs H Q E,sp2 f vs H Q E → vs.length = 2:=fun vs H Q E ⟨x,y,e,_⟩=>by rw [e];rfl
theorem pB {f:V → V → V → Hp → VK → Prop}:∀ vs H Q E,sp3 f vs H Q E → vs.length = 3:=fun vs H Q E ⟨x,y,z,e,_⟩=>by rw [e];rfl
theorem bL:BP "isinstance" = some (.builtin "isinstance"):=by decide +kernel
theorem lH:BP "all" = some (.builtin "all"):=by decide +kernel
theorem bK:BP "len" = some (.builtin "len"):=by decide +kernel
theorem aIV:BP "max" = some (.builtin "max"):=by decide +kernel
theorem rT:BP "min" = some (.builtin "min"):=by decide +kernel
theorem yP:BP "str" = some (.type "str"):=by decide +kernel
theorem yR:BP "int" = some (.type "int"):=by decide +kernel
theorem wG:BP "bool" = some (.type "bool"):=by decide +kernel
theorem dH:BP "list" = some (.type "list"):=by decide +kernel
theorem iM:BP "tuple" = some (.type "tuple"):=by decide +kernel
theorem fB:BP "dict" = some (.type "dict"):=by decide +kernel
theorem yQ:BP "set" = some (.type "set"):=by decide +kernel
inductive Pl (K:AG) (H:Hp):V → Prop where
 | non:Pl K H .non
 | bl (b:Bool):Pl K H (.bl b)
 | int (i:Int):Pl K H (.int i)
 | str (x:Str):Pl K H (.str x)
 | lst {a:Addr} {xs:List V} (e:H a = some (.lst xs)):Pl K H (.ref a)
 | frz {a:Addr} {o:Obj} {xs:List V} (e:H a = some (.frz o (.lst xs))):Pl K H (.ref a)
 | tup {a:Addr} {xs:List V} (e:H a = some (.tup xs)):Pl K H (.ref a)
 | dK {a:Addr} {kvs:List (Key × V)} (e:H a = some (.dK kvs)):Pl K H (.ref a)
theorem gT (K:AG) (n:String):Bt K (.type n) (.type n) = some true:=by
 unfold Bt
 rw [if_pos (by simp)]
end L2
namespace L2
open PySem PySem.Spec PyProof.Rows
def kJ (mg:Str → Option Value) (x:Str) (v:V):Prop:=∃ u,mg x = some u ∧ bI v u
theorem sW {X:Cx} {x:Str} {v:V} {pos:Pos} (h:kJ X.mg x v) (hg:Gl X x:=by rfl) (hd:(x == ("__debug__":Str)) = false:=by decide):PE X (.Name x pos) (tC v):=by
 obtain ⟨u,hm,r⟩:=h
 exact aOE hg hm r hd
theorem kA {K:AG} {mg:Str → Option Value} {h:Heap} {x:Str} {v:V} {u:Value} (X:K.In h) (G:h.Ns AK mg) (a:AL K AK x = some (some u)) (r:bI v u):kJ mg x v:=⟨u,PySem.W.mg_of X G a,r⟩
end L2
namespace L2
open PySem PySem.Spec PyProof.Rows
def rN:HO → Bool
 | .lst _=>true
 | .dK _=>true
 | .set _ _=>true
 | .ext _=>true
 | .rng _ _=>true
 | _=>false
def gW (H' H'':Hp):Prop:=∀ b,H'' b = H' b ∨ (H'' b = none ∧ ∃ o,H' b = some o ∧ rN o = true)
theorem gW.refl (H:Hp):gW H H:=fun _=>.inl rfl
theorem gW.trans {H1 H2 H3:Hp} (a:gW H1 H2) (b:gW H2 H3):gW H1 H3:=fun c=>by
 rcases b c with e | ⟨e,o,q,d⟩
 ·rcases a c with e' | ⟨e',o,q,d⟩
  ·exact .inl (e.trans e')
  ·exact .inr ⟨e.trans e',o,q,d⟩
 ·rcases a c with e' | ⟨e',_⟩
  ·exact .inr ⟨e,o,e' ▸ q,d⟩
  ·rw [e'] at q;cases q
theorem gW.new {H:Hp} {p:Addr} {o:HO} (h:H p = none) (d:rN o = true):gW (upd H p o) H:=fun b=>by
 by_cases hb:b = p
 ·subst hb
  exact .inr ⟨h,o,aE,d⟩
 ·exact .inl (aI hb).symm
theorem gW.lst {H:Hp} {p:Addr} {xs:List V} (h:H p = none):gW (upd H p (.lst xs)) H:=gW.new h rfl
def cO (Q:VK):VK:=fun v H'=>∃ H'',gW H' H'' ∧ Q v H''
theorem cO.of {Q:VK} {v:V} {H H':Hp} (d:gW H' H) (q:Q v H):cO Q v H':=⟨H,d,q⟩
theorem HOk.drop {P:Program} {w:World} {H' H'':Hp} {h:Heap} (d:gW H' H'') (ok:HOk P w H' h):HOk P w H'' h:=fun b o e=>by
 have e':H' b = some o:=by
  rcases d b with z | ⟨z,_⟩
  ·exact z.symm.trans e
  ·rw [z] at e;cases e
 refine (ok b o e').stay (fun _ _ _ q=>q) (fun c q=>?_) fun c xs q=>?_
 ·rcases d c with z | ⟨_,o',z',dr⟩
  ·exact z.trans q
  ·rw [q] at z';cases z';cases dr
 ·rcases d c with z | ⟨_,o',z',dr⟩
  ·exact z.trans q
  ·rw [q] at z';cases z';cases dr
theorem Un.drop {fs ex:List Addr} {H H' H'':Hp} {h h':Heap} (d:gW H' H'') (u:Un fs ex H H' h h'):Un fs ex H H'' h h' where
 keep:=u.keep
 slot:=u.slot
 free:=fun b o e n hx=>by
  rcases d b with z | ⟨z,_⟩
  ·exact z.trans (u.free b o e n hx)
  ·exact z
 there:=u.there
 tups:=fun b xs e=>by
  have q:=u.tups b xs e
  rcases d b with z | ⟨_,o',z',dr⟩
  ·exact z.trans q
  ·rw [q] at z';cases z';cases dr
 frzs:=fun b o v e=>by
  have q:=u.frzs b o v e
  rcases d b with z | ⟨_,o',z',dr⟩
  ·exact z.trans q
  ·rw [q] at z';cases z';cases dr
 tbls:=fun b ps e=>by
  obtain ⟨m,q⟩:=u.tbls b ps e
  rcases d b with z | ⟨_,o',z',dr⟩
  ·exact ⟨m,z.trans q⟩
  ·rw [q] at z';cases z';cases dr
theorem FnOk.drop {P:Program} {w:World} {K:AG} {mg:Str → Option Value} {base:Heap} {k:Nat} {f:Addr} {fd:Bi} {ps:List Str} {sp:Sp} (len:∀ vs H Q E,sp vs H Q E → vs.length = ps.length)
  (F:FnOk P w K mg base CX0 k f fd ps (fun vs H Qd E=>∃ Q,sp vs H Q E ∧ Qd = cO Q)):FnOk P w K mg base CX0 k f fd ps sp:=by
 refine ⟨len,fun A outer s H args us vs Q E hr he hb hv hs=>Cr (F.run A outer s H args us vs (cO Q) E hr he hb hv ⟨Q,hs,rfl⟩) fun r s' h=>?_⟩
 cases r with
 | error e=>exact h
 | ok fl =>
  cases fl with
  | ret u =>
   obtain ⟨v,H',os,bare,un,hok,rv,H'',d,q⟩:=h
   exact ⟨v,H'',os,bare,un.drop d,hok.drop d,rv,q⟩
  | next=>exact h
  | brk=>exact h
  | cont=>exact h
theorem DefAt.fcD {P:Program} {w:World} {K:AG} {mg:Str → Option Value} {base:Heap} {x:Str} {st:Stmt} {N ps:List Str} {k:Nat} {sp:Sp} (D:DefAt K mg x st ps) (S:FnScope N ps (aB st)) (len:∀ vs H Q E,sp vs H Q E → vs.length = ps.length)
  (hbody:∀ (f:Addr) (cdv:Value) (A:Around) (outer:List Env) (s:Shared) (H:Hp) (vs:List V) (Q:VK) (E:XK),Room k (A.deeper (envOfC x (aB st) s.heap.objs.size f cdv)) → sp vs H Q E →
   ∃ t,PSs (mG CX0 P w K mg base N x (aB st) f cdv A outer s H E).nox (aK st) t ∧ t { nx:=fun _ H'=>cO Q .non H',rt:=cO Q } (start N vs) H):Fc P w K mg base (k + 1) x ps sp:=by
 obtain ⟨f,fd,F,b,m⟩:=D.ex
 refine ⟨f,fd,FnOk.drop len (F.ok S (fun vs H Q E ⟨Q',h,_⟩=>len vs H Q' E h) fun cdv A outer s H vs Q E hr ⟨Q',h,e⟩=>?_),b,m,F.kp⟩
 subst e
 exact hbody f cdv A outer s H vs Q' E hr h
end L2
namespace L2
open PySem PySem.Spec PyProof.Rows
theorem aJ.upd {H:Hp} {p:Addr} {o:HO} (h:H p = none):aJ H (upd H p o):=fun b u e=>by
 rw [aI (aO e h)]
 exact e
end L2
namespace L2
open PySem PySem.Spec PyProof.Rows
theorem lY {X:Cx} {x:Str} {n:String} {pos:Pos} (hm:X.mg x = none) (hv:BP x = some (.type n)) (hg:Gl X x:=by rfl) (hn:x ≠ "__name__":=by decide) (hd:(x == ("__debug__":Str)) = false:=by decide):PE X (.Name x pos) (tC (.ty n)) :=
 aOG hg hm hv rfl hn hd
end L2
namespace L2
theorem aX {n:Nat} (h:Nat.ble n 1000 = true):n ≤ PySem.sizeLine:=BG (Nat.le_of_ble_eq_true h) (by decide)
end L2
namespace L2
open PySem PySem.Spec PyProof.Rows
def Ite (K:AG) (a:Addr):It where
 go:=fun i H=>∃ xs x,SqL K H a xs ∧ xs[i]? = some x
 yld:=fun i H v H'=>∃ p x,H p = none ∧ v = .ref p ∧ H' = upd H p (.tup [.int i,x]) ∧ ∀ ys,SqL K H a ys → ys[i]? = some x
 stop:=fun i H=>∃ xs,SqL K H a xs ∧ xs.length ≤ i
end L2
namespace L2
open PySem PySem.Spec PyProof.Rows
inductive Dv where
 | non | bl (b:Bool) | int (i:Int) | str (x:Str) | lst (ds:List Dv) | tup (ds:List Dv) | dct (ks:List Key) (ds:List Dv)
mutual
def Is (H:Hp):Dv → V → Prop
 | .non,v=>v = .non
 | .bl b,v=>v = .bl b
 | .int i,v=>v = .int i
 | .str x,v=>v = .str x
 | .lst ds,v=>∃ a vs,v = .ref a ∧ H a = some (.lst vs) ∧ IsL H ds vs
 | .tup ds,v=>∃ a vs,v = .ref a ∧ H a = some (.tup vs) ∧ IsL H ds vs
 | .dct ks ds,v=>∃ a vs,v = .ref a ∧ H a = some (.dK (ks.zip vs)) ∧ vs.length = ks.length ∧ IsL H ds vs
def IsL (H:Hp):List Dv → List V → Prop
 | [],vs=>vs = []
 | d :: ds,vs=>∃ v r,vs = v :: r ∧ Is H d v ∧ IsL H ds r
end
def aRM:HO → Bool
 | .lst _=>true
 | .tup _=>true
 | .dK _=>true
 | _=>false
def aDK (H H':Hp):Prop:=∀ b o,H b = some o → aRM o = true → H' b = some o
mutual
theorem Is.sameD {H H':Hp} (S:aDK H H'):∀ (d:Dv) (v:V),Is H d v → Is H' d v
 | .non,_,h=>h
 | .bl _,_,h=>h
 | .int _,_,h=>h
 | .str _,_,h=>h
 | .lst ds,_,⟨a,vs,e,o,h⟩=>⟨a,vs,e,S _ _ o rfl,IsL.sameD S ds vs h⟩
 | .tup ds,_,⟨a,vs,e,o,h⟩=>⟨a,vs,e,S _ _ o rfl,IsL.sameD S ds vs h⟩
 | .dct ks ds,_,⟨a,vs,e,o,l,h⟩=>⟨a,vs,e,S _ _ o rfl,l,IsL.sameD S ds vs h⟩
theorem IsL.sameD {H H':Hp} (S:aDK H H'):∀ (ds:List Dv) (vs:List V),IsL H ds vs → IsL H' ds vs
 | [],_,h=>h
 | d :: ds,_,⟨v,r,e,h,t⟩=>⟨v,r,e,Is.sameD S d v h,IsL.sameD S ds r t⟩
end
theorem Is.same {H H':Hp} (S:aJ H H') (d:Dv) (v:V) (h:Is H d v):Is H' d v:=Is.sameD (fun b o e _=>S b o e) d v h
theorem IsL.same {H H':Hp} (S:aJ H H') (ds:List Dv) (vs:List V) (h:IsL H ds vs):IsL H' ds vs:=IsL.sameD (fun b o e _=>S b o e) ds vs h
mutual
def wY:Dv → Bool
 | .lst _=>false
 | .dct _ _=>false
 | .tup ds=>yD ds
 | _=>true
def yD:List Dv → Bool
 | []=>true
 | d :: ds=>wY d && yD ds
end
def iN (H H':Hp):Prop:=∀ a xs,H a = some (.tup xs) → H' a = some (.tup xs)
mutual
theorem Is.keep {H H':Hp} (S:iN H H'):∀ (d:Dv) (v:V),wY d = true → Is H d v → Is H' d v
 | .non,_,_,h=>h
 | .bl _,_,_,h=>h
 | .int _,_,_,h=>h
 | .str _,_,_,h=>h
 | .lst ds,_,f,_=>by cases f
 | .tup ds,_,f,⟨a,vs,e,o,h⟩=>⟨a,vs,e,S _ _ o,IsL.keep S ds vs f h⟩
 | .dct ks ds,_,f,_=>by cases f
theorem IsL.keep {H H':Hp} (S:iN H H'):∀ (ds:List Dv) (vs:List V),yD ds = true → IsL H ds vs → IsL H' ds vs
 | [],_,_,h=>h
 | d :: ds,_,f,⟨v,r,e,h,t⟩=>⟨v,r,e,Is.keep S d v (BJ.mp f).1 h,IsL.keep S ds r (BJ.mp f).2 t⟩
end
mutual
def deq:Dv → Dv → Bool
 | .non,.non=>true
 | .bl a,.bl b=>a == b
 | .bl a,.int b=>(if a then 1 else 0) == b
 | .int a,.bl b=>a == (if b then 1 else 0)
 | .int a,.int b=>a == b
 | .str a,.str b=>a == b
 | .lst a,.lst b=>tF a b
 | .tup a,.tup b=>tF a b
 | _,_=>false
def tF:List Dv → List Dv → Bool
 | [],[]=>true
 | a :: r,b :: q=>deq a b && tF r q
 | _,_=>false
end
mutual
def bB:Nat → Dv → Bool
 | _,.dct _ _=>false
 | 0,.lst _=>false
 | 0,.tup _=>false
 | n + 1,.lst ds=>cH n ds
 | n + 1,.tup ds=>cH n ds
 | _,_=>true
def cH:Nat → List Dv → Bool
 | _,[]=>true
 | n,d :: ds=>bB n d && cH n ds
end
mutual
theorem nM:∀ (n:Nat) (d:Dv),bB n d = true → deq d d = true
 | _,.non,_=>rfl
 | _,.bl b,_=>beq_self_eq_true b
 | _,.int i,_=>beq_self_eq_true i
 | _,.str x,_=>beq_self_eq_true x
 | 0,.lst ds,f=>by simp [bB] at f
 | 0,.tup ds,f=>by simp [bB] at f
 | n + 1,.lst ds,f=>rO n ds (by simpa [bB] using f)
 | n + 1,.tup ds,f=>rO n ds (by simpa [bB] using f)
 | n,.dct ks ds,f=>by simp [bB] at f
theorem rO:∀ (n:Nat) (ds:List Dv),cH n ds = true → tF ds ds = true
 | _,[],_=>rfl
 | n,d :: ds,f=>by
  rw [cH,Ac] at f
  show (deq d d && tF ds ds) = true
  rw [nM n d f.1,rO n ds f.2];rfl
end
theorem IsL.length {H:Hp}:∀ {ds:List Dv} {vs:List V},IsL H ds vs → vs.length = ds.length
 | [],_,h=>by rw [show _ = [] from h];rfl
 | d :: ds,_,⟨v,r,e,_,t⟩=>by rw [e,Aj,Aj,IsL.length t]
mutual
theorem Is.inj {H:Hp}:∀ (d e:Dv) (v:V),Is H d v → Is H e v → (∃ n,bB n d = true) → (∃ n,bB n e = true) → d = e
 | .non,e,v,h,h',_,_=>by
  cases e <;> simp_all [Is]
 | .bl b,e,v,h,h',_,_=>by
  cases e <;> simp_all [Is]
 | .int b,e,v,h,h',_,_=>by
  cases e <;> simp_all [Is]
 | .str b,e,v,h,h',_,_=>by
  cases e <;> simp_all [Is]
 | .lst ds,e,v,⟨a,vs,q,o,h⟩,h',⟨n,f⟩,⟨m,g⟩=>by
  subst q
  cases e with
  | lst es =>
   obtain ⟨a',vs',q',o',h'⟩:=h'
   cases q'
   rw [o] at o'
   cases o'
   cases n with
   | zero=>simp [bB] at f
   | succ n =>
    cases m with
    | zero=>simp [bB] at g
    | succ m=>rw [IsL.inj ds es vs h h' ⟨n,by simpa [bB] using f⟩ ⟨m,by simpa [bB] using g⟩]
  | tup es =>
   obtain ⟨a',vs',q',o',h'⟩:=h'
   cases q'
   rw [o] at o'
   cases o'
  | dct ks es=>simp [bB] at g
  | _=>simp_all [Is]
 | .tup ds,e,v,⟨a,vs,q,o,h⟩,h',⟨n,f⟩,⟨m,g⟩=>by
  subst q
  cases e with
  | tup es =>
   obtain ⟨a',vs',q',o',h'⟩:=h'
   cases q'
   rw [o] at o'
   cases o'
   cases n with
   | zero=>simp [bB] at f
   | succ n =>
    cases m with
    | zero=>simp [bB] at g
    | succ m=>rw [IsL.inj ds es vs h h' ⟨n,by simpa [bB] using f⟩ ⟨m,by simpa [bB] using g⟩]
  | lst es =>
   obtain ⟨a',vs',q',o',h'⟩:=h'
   cases q'
   rw [o] at o'
   cases o'
  | dct ks es=>simp [bB] at g
  | _=>simp_all [Is]
 | .dct ks ds,e,v,_,h',⟨n,f⟩,_=>by simp [bB] at f
theorem IsL.inj {H:Hp}:∀ (ds es:List Dv) (vs:List V),IsL H ds vs → IsL H es vs → (∃ n,cH n ds = true) → (∃ n,cH n es = true) → ds = es
 | [],es,vs,h,h',_,_=>by
  rw [show vs = [] from h] at h'
  cases es with
  | nil=>rfl
  | cons e es=>obtain ⟨v,r,q,_⟩:=h';cases q
 | d :: ds,es,vs,⟨v,r,q,h,t⟩,h',⟨n,f⟩,⟨m,g⟩=>by
  subst q
  cases es with
  | nil=>cases (show v :: r = [] from h')
  | cons e es =>
   obtain ⟨v',r',q',h',t'⟩:=h'
   cases q'
   rw [cH,Ac] at f g
   rw [Is.inj d e v h h' ⟨n,f.1⟩ ⟨m,g.1⟩,IsL.inj ds es r t t' ⟨n,f.2⟩ ⟨m,g.2⟩]
end
theorem IsL.get {H:Hp}:∀ {ds:List Dv} {vs:List V} {i:Nat} {d:Dv},IsL H ds vs → ds[i]? = some d → ∃ v,vs[i]? = some v ∧ Is H d v
 | [],_,_,_,_,e=>by simp at e
 | d :: ds,_,0,d',⟨v,r,e,h,t⟩,q=>by
  simp at q
  subst q e
  exact ⟨v,rfl,h⟩
 | d :: ds,_,i + 1,d',⟨v,r,e,h,t⟩,q=>by
  subst e
  obtain ⟨u,h1,h2⟩:=IsL.get (i:=i) t (by simpa using q)
  exact ⟨u,by simpa using h1,h2⟩
theorem pF:∀ (ds es:List Dv),ds.length = es.length → (An ds.length).all (fun j=>deq (ds.getD j .non) (es.getD j .non)) = tF ds es
 | [],[],_=>rfl
 | d :: ds,e :: es,h=>by
  have ih:=pF ds es (by simpa using h)
  rw [Aj,List.range_succ_eq_map,Dg,Dp]
  show (deq d e && (An ds.length).all (fun j=>deq (ds.getD j .non) (es.getD j .non))) = (deq d e && tF ds es)
  rw [ih]
 | [],_ :: _,h=>by simp at h
 | _ :: _,[],h=>by simp at h
theorem vW:∀ (ds es:List Dv),ds.length ≠ es.length → tF ds es = false
 | [],[],h=>absurd rfl h
 | d :: ds,e :: es,h=>by
  show (deq d e && tF ds es) = false
  rw [vW ds es (fun q=>h (by simp [q]))]
  simp
 | [],_ :: _,_=>rfl
 | _ :: _,[],_=>rfl
theorem nK:∀ {n:Nat} {ds:List Dv} {i:Nat} {d:Dv},cH n ds = true → ds[i]? = some d → bB n d = true
 | n,[],_,_,_,e=>by simp at e
 | n,d :: ds,0,d',f,e=>by
  simp at e
  subst e
  rw [cH,Ac] at f
  exact f.1
 | n,d :: ds,i + 1,d',f,e=>by
  rw [cH,Ac] at f
  exact nK (i:=i) f.2 (by simpa using e)
theorem IsL.snoc {H:Hp} {d:Dv} {v:V} (h:Is H d v):∀ {ds:List Dv} {vs:List V},IsL H ds vs → IsL H (ds ++ [d]) (vs ++ [v])
 | [],_,e=>by
  rw [show _ = [] from e]
  exact ⟨v,[],rfl,h,rfl⟩
 | d' :: ds,_,⟨v',r,e,h',t⟩=>by
  subst e
  exact ⟨v',r ++ [v],rfl,h',IsL.snoc h t⟩
theorem IsL.rev {H:Hp}:∀ {ds:List Dv} {vs:List V},IsL H ds vs → IsL H ds.reverse vs.reverse
 | [],_,e=>by rw [show _ = [] from e];exact rfl
 | d :: ds,_,⟨v,r,e,h,t⟩=>by
  subst e
  rw [List.reverse_cons,List.reverse_cons]
  exact IsL.snoc h (IsL.rev t)
theorem IsL.app {H:Hp} {es:List Dv} {us:List V} (h:IsL H es us):∀ {ds:List Dv} {vs:List V},IsL H ds vs → IsL H (ds ++ es) (vs ++ us)
 | [],_,e=>by rw [show _ = [] from e];exact h
 | d :: ds,_,⟨v,r,e,h',t⟩=>by
  subst e
  exact ⟨v,r ++ us,rfl,h',IsL.app h t⟩
theorem IsL.strs (H:Hp):∀ zs:List Str,IsL H (zs.map Dv.str) (zs.map V.str)
 | []=>rfl
 | z :: zs=>⟨.str z,zs.map V.str,rfl,rfl,IsL.strs H zs⟩
theorem iN.lst {H:Hp} {l:Addr} {xs:List V} {o:HO} (h:H l = some (.lst xs)):iN H (upd H l o):=fun a ys e=>by
 have:a ≠ l:=xT e h (by intro z;cases z)
 rw [aI this]
 exact e
theorem aJ.over {H H':Hp} {l:Addr} {o:HO} (S:aJ H H') (hl:H l = none):aJ H (L2.upd H' l o):=fun b u e=>by
 rw [aI (aO e hl)]
 exact S b u e
theorem vQ {n:Nat}:∀ {ds:List Dv},(∀ d ∈ ds,bB n d = true) → cH n ds = true
 | [],_=>by rw [cH]
 | d :: ds,h=>by
  rw [cH,h d AU,vQ fun e m=>h e (AQ _ m)]
  rfl
inductive View (s:Shared) (H:Hp):Dv → Value → Prop where
 | non:View s H .non .none
 | bl (b:Bool):View s H (.bl b) (.bool b)
 | int (i:Int) (t:Tok):View s H (.int i) (.int i t)
 | str (x:Str) (t:Tok):View s H (.str x) (.str x t)
 | lst {ds:List Dv} {l:Addr} {its:List Value} {vs:List V} (hl:s.heap.IsList l its.toArray) (r:bF vs its) (h:IsL H ds vs):View s H (.lst ds) (.ref l)
 | tup {ds:List Dv} {l:Addr} {its:List Value} {vs:List V} (hl:s.heap.IsTuple l its.toArray) (r:bF vs its) (h:IsL H ds vs):View s H (.tup ds) (.ref l)
section
variable {X:Cx} {pins:List (Addr × Obj)} {σ:St} {H:Hp} {s:Shared}
theorem Is.view (I:Inv X pins σ H s) {n:Nat} {d:Dv} {v:V} {u:Value} (f:bB n d = true) (h:Is H d v) (r:bI v u):View s H d u:=by
 cases d with
 | non=>cases (show v = .non from h);cases r;exact .non
 | bl b=>cases (show v = .bl b from h);cases r;exact .bl b
 | int b=>cases (show v = .int b from h);obtain ⟨t,rfl⟩:=r;exact .int b t
 | str b=>cases (show v = .str b from h);obtain ⟨t,rfl⟩:=r;exact .str b t
 | lst ds =>
  obtain ⟨a,vs,rfl,o,h⟩:=h
  cases r
  obtain ⟨its,rv,pl,hz⟩:=I.list (SqL.of o)
  exact .lst pl.isList rv h
 | tup ds =>
  obtain ⟨a,vs,rfl,o,h⟩:=h
  cases r
  obtain ⟨its,rv,pl,hz⟩:=I.tuple (SqT.of o)
  exact .tup pl rv h
 | dct ks ds=>simp [bB] at f
open PySem.SeqAt in
theorem lR {n:Nat} {A:Around} (hu:A.units + n < cLine)
  (ih:∀ (d e:Dv) (v v':V) (u u':Value) (A:Around),A.units + n < cLine → bB n d = true → bB n e = true → Is H d v → Is H e v' → bI v u → bI v' u' → EqAt A s u u' (deq d e))
  {ds es:List Dv} {vs vs':List V} {its its':List Value} (f:cH n ds = true) (g:cH n es = true) (h:IsL H ds vs) (h':IsL H es vs') (r:bF vs its) (r':bF vs' its')
  (j:Nat) (h1:j < its.toArray.size) (h2:j < its'.toArray.size):EqAt A s its.toArray[j] its'.toArray[j] (deq (ds.getD j .non) (es.getD j .non)):=by
 have l1:=r.length
 have l2:=r'.length
 have l3:=h.length
 have l4:=h'.length
 rw [AR] at h1 h2
 have e1:ds[j]? = some (ds.getD j .non):=by
  rw [Ai,AC (by omega)];rfl
 have e2:es[j]? = some (es.getD j .non):=by
  rw [Ai,AC (by omega)];rfl
 obtain ⟨v,q1,i1⟩:=h.get e1
 obtain ⟨v',q2,i2⟩:=h'.get e2
 obtain ⟨u,p1,k1⟩:=r.get q1
 obtain ⟨u',p2,k2⟩:=r'.get q2
 have z1:its.toArray[j] = u:=by
  have:=AB.mp p1
  obtain ⟨_,e⟩:=this
  simpa using e
 have z2:its'.toArray[j] = u':=by
  have:=AB.mp p2
  obtain ⟨_,e⟩:=this
  simpa using e
 rw [z1,z2]
 exact ih _ _ v v' u u' A hu (nK f e1) (nK g e2) i1 i2 k1 k2
open PySem.SeqAt in
theorem aKK (I:Inv X pins σ H s) {n:Nat}
  (ih:∀ (d e:Dv) (v v':V) (u u':Value) (A:Around),A.units + n < cLine → bB n d = true → bB n e = true → Is H d v → Is H e v' → bI v u → bI v' u' → EqAt A s u u' (deq d e))
  (d e:Dv) (v v':V) (u u':Value) (A:Around) (hu:A.units + (n + 1) < cLine) (f:bB (n + 1) d = true) (g:bB (n + 1) e = true) (h:Is H d v) (h':Is H e v') (r:bI v u) (r':bI v' u') :
  RcAt A s u u' (deq d e) ∧ RcNeAt A s u u' (!deq d e):=by
 have hu0:A.units < cLine:=by omega
 have hu1:A.in1.units + n < cLine:=by show A.units + 1 + n < cLine;omega
 have w:=Is.view I f h r
 have w':=Is.view I g h' r'
 cases w with
 | non =>
  cases w' with
  | non=>exact ⟨RcAt.none_none,RcNeAt.none_none⟩
  | bl b=>exact ⟨RcAt.none_bool _,RcNeAt.none_bool _⟩
  | int b t=>exact ⟨RcAt.none_int _ _,RcNeAt.none_int _ _⟩
  | str b t=>exact ⟨RcAt.none_str _ _,RcNeAt.none_str _ _⟩
  | lst hl _ _=>exact ⟨RcAt.none_list hl hu0,RcNeAt.none_list hl hu0⟩
  | tup hl _ _=>exact ⟨RcAt.none_tuple hl hu0,RcNeAt.none_tuple hl hu0⟩
 | bl a =>
  cases w' with
  | non=>exact ⟨RcAt.bool_none _,RcNeAt.bool_none _⟩
  | bl b=>exact ⟨RcAt.bool_bool _ _,RcNeAt.bool_bool _ _⟩
  | int b t=>exact ⟨RcAt.bool_int _ _ _,RcNeAt.bool_int _ _ _⟩
  | str b t=>exact ⟨RcAt.bool_str _ _ _,RcNeAt.bool_str _ _ _⟩
  | lst hl _ _=>exact ⟨RcAt.bool_list _ hl hu0,RcNeAt.bool_list _ hl hu0⟩
  | tup hl _ _=>exact ⟨RcAt.bool_tuple _ hl hu0,RcNeAt.bool_tuple _ hl hu0⟩
 | int a t =>
  cases w' with
  | non=>exact ⟨RcAt.int_none _ _,RcNeAt.int_none _ _⟩
  | bl b=>exact ⟨RcAt.int_bool _ _ _,RcNeAt.int_bool _ _ _⟩
  | int b t=>exact ⟨RcAt.int_int _ _ _ _,RcNeAt.int_int _ _ _ _⟩
  | str b t=>exact ⟨RcAt.int_str _ _ _ _,RcNeAt.int_str _ _ _ _⟩
  | lst hl _ _=>exact ⟨RcAt.int_list _ _ hl hu0,RcNeAt.int_list _ _ hl hu0⟩
  | tup hl _ _=>exact ⟨RcAt.int_tuple _ _ hl hu0,RcNeAt.int_tuple _ _ hl hu0⟩
 | str a t =>
  cases w' with
  | non=>exact ⟨RcAt.str_none _ _,RcNeAt.str_none _ _⟩
  | bl b=>exact ⟨RcAt.str_bool _ _ _,RcNeAt.str_bool _ _ _⟩
  | int b t=>exact ⟨RcAt.str_int _ _ _ _,RcNeAt.str_int _ _ _ _⟩
  | str b t=>exact ⟨RcAt.str_str _ _ _ _,RcNeAt.str_str _ _ _ _⟩
  | lst hl _ _=>exact ⟨RcAt.str_list _ _ hl hu0,RcNeAt.str_list _ _ hl hu0⟩
  | tup hl _ _=>exact ⟨RcAt.str_tuple _ _ hl hu0,RcNeAt.str_tuple _ _ hl hu0⟩
 | @lst ds l its vs hl rv hi =>
  cases w' with
  | non=>exact ⟨RcAt.list_none hl hu0,RcNeAt.list_none hl hu0⟩
  | bl b=>exact ⟨RcAt.list_bool _ hl hu0,RcNeAt.list_bool _ hl hu0⟩
  | int b t=>exact ⟨RcAt.list_int _ _ hl hu0,RcNeAt.list_int _ _ hl hu0⟩
  | str b t=>exact ⟨RcAt.list_str _ _ hl hu0,RcNeAt.list_str _ _ hl hu0⟩
  | @lst es l' its' vs' hl' rv' hi' =>
   have f':cH n ds = true:=by simpa [bB] using f
   have g':cH n es = true:=by simpa [bB] using g
   have l1:=rv.length
   have l2:=rv'.length
   have l3:=hi.length
   have l4:=hi'.length
   by_cases hq:ds.length = es.length
   ·have hsz:its.toArray.size = its'.toArray.size:=by rw [AR,AR];omega
    have key:(An its.toArray.size).all (fun j=>deq (ds.getD j .non) (es.getD j .non)) = deq (.lst ds) (.lst es):=by
     rw [AR,show its.length = ds.length by omega]
     exact pF ds es hq
    rw [← key]
    exact ⟨RcAt.lists hl hl' hsz hu0 (lR hu1 ih f' g' hi hi' rv rv'),RcNeAt.lists hl hl' hsz hu0 (lR hu1 ih f' g' hi hi' rv rv')⟩
   ·have key:deq (.lst ds) (.lst es) = false:=vW ds es hq
    have hsz:(its.toArray.size != its'.toArray.size) = true:=by
     rw [AR,AR,bne_iff_ne];omega
    rw [key]
    exact ⟨RcAt.lists_lengths hl hl' hsz hu0,RcNeAt.lists_lengths hl hl' hsz hu0⟩
  | tup hl' _ _=>exact ⟨RcAt.list_tuple hl hl' hu0,RcNeAt.list_tuple hl hl' hu0⟩
 | @tup ds l its vs hl rv hi =>
  cases w' with
  | non=>exact ⟨RcAt.tuple_none hl hu0,RcNeAt.tuple_none hl hu0⟩
  | bl b=>exact ⟨RcAt.tuple_bool _ hl hu0,RcNeAt.tuple_bool _ hl hu0⟩
  | int b t=>exact ⟨RcAt.tuple_int _ _ hl hu0,RcNeAt.tuple_int _ _ hl hu0⟩
  | str b t=>exact ⟨RcAt.tuple_str _ _ hl hu0,RcNeAt.tuple_str _ _ hl hu0⟩
  | lst hl' _ _=>exact ⟨RcAt.tuple_list hl hl' hu0,RcNeAt.tuple_list hl hl' hu0⟩
  | @tup es l' its' vs' hl' rv' hi' =>
   have f':cH n ds = true:=by simpa [bB] using f
   have g':cH n es = true:=by simpa [bB] using g
   have l1:=rv.length
   have l2:=rv'.length
   have l3:=hi.length
   have l4:=hi'.length
   have key:((An (min its.toArray.size its'.toArray.size)).all (fun j=>deq (ds.getD j .non) (es.getD j .non)) && its.toArray.size == its'.toArray.size) = deq (.tup ds) (.tup es):=by
    rw [AR,AR,show its.length = ds.length by omega,show its'.length = es.length by omega]
    show _ = tF ds es
    by_cases hq:ds.length = es.length
    ·rw [← hq,Nat.min_self,pF ds es hq]
     simp
    ·rw [vW ds es hq,beq_eq_false_iff_ne.mpr hq]
     simp
   rw [← key]
   exact ⟨RcAt.tuples hl hl' hu0 (lR hu1 ih f' g' hi hi' rv rv'),RcNeAt.tuples hl hl' hu0 (lR hu1 ih f' g' hi hi' rv rv')⟩
open PySem.SeqAt in
theorem Is.eqAt (I:Inv X pins σ H s):∀ (n:Nat) (d e:Dv) (v v':V) (u u':Value) (A:Around),A.units + n < cLine → bB n d = true → bB n e = true → Is H d v → Is H e v' → bI v u → bI v' u' → EqAt A s u u' (deq d e):=by
 intro n
 induction n with
 | zero =>
  intro d e v v' u u' A hu f g h h' r r'
  cases d with
  | lst _=>simp [bB] at f
  | tup _=>simp [bB] at f
  | dct _ _=>simp [bB] at f
  | non =>
   cases e with
   | lst _=>simp [bB] at g
   | tup _=>simp [bB] at g
   | dct _ _=>simp [bB] at g
   | _=>cases h;cases h';exact lT r r' rfl rfl
  | bl b =>
   cases e with
   | lst _=>simp [bB] at g
   | tup _=>simp [bB] at g
   | dct _ _=>simp [bB] at g
   | _=>cases h;cases h';exact lT r r' rfl rfl
  | int b =>
   cases e with
   | lst _=>simp [bB] at g
   | tup _=>simp [bB] at g
   | dct _ _=>simp [bB] at g
   | _=>cases h;cases h';exact lT r r' rfl rfl
  | str b =>
   cases e with
   | lst _=>simp [bB] at g
   | tup _=>simp [bB] at g
   | dct _ _=>simp [bB] at g
   | _=>cases h;cases h';exact lT r r' rfl rfl
 | succ n ih =>
  intro d e v v' u u' A hu f g h h' r r'
  have rc:=(aKK I ih d e v v' u u' A hu f g h h' r r').1
  have w:=Is.view I f h r
  have w':=Is.view I g h' r'
  have fin:∀ (l l':Addr),u = .ref l → u' = .ref l' → EqAt A s u u' (deq d e):=by
   rintro l l' rfl rfl
   by_cases hq:l = l'
   ·subst hq
    have e1:v = .ref l:=r.inj (show bI (.ref l) (.ref l) from rfl)
    have e2:v' = .ref l:=r'.inj (show bI (.ref l) (.ref l) from rfl)
    subst e1 e2
    have e3:=Is.inj d e _ h h' ⟨_,f⟩ ⟨_,g⟩
    subst e3
    rw [nM _ d f]
    exact EqAt.same _
   ·exact EqAt.of_refs hq rc
  cases w with
  | lst hl _ _ =>
   cases w' with
   | lst hl' _ _=>exact fin _ _ rfl rfl
   | tup hl' _ _=>exact fin _ _ rfl rfl
   | non=>exact EqAt.list_none hl (by omega)
   | bl b=>exact EqAt.list_bool _ hl (by omega)
   | int b t=>exact EqAt.list_int _ _ hl (by omega)
   | str b t=>exact EqAt.list_str _ _ hl (by omega)
  | tup hl _ _ =>
   cases w' with
   | lst hl' _ _=>exact fin _ _ rfl rfl
   | tup hl' _ _=>exact fin _ _ rfl rfl
   | non=>exact EqAt.tuple_none hl (by omega)
   | bl b=>exact EqAt.tuple_bool _ hl (by omega)
   | int b t=>exact EqAt.tuple_int _ _ hl (by omega)
   | str b t=>exact EqAt.tuple_str _ _ hl (by omega)
  | non =>
   cases w' with
   | lst hl' _ _=>exact EqAt.none_list hl' (by omega)
   | tup hl' _ _=>exact EqAt.none_tuple hl' (by omega)
   | _=>cases h;cases h';exact lT r r' rfl rfl
  | bl b =>
   cases w' with
   | lst hl' _ _=>exact EqAt.bool_list _ hl' (by omega)
   | tup hl' _ _=>exact EqAt.bool_tuple _ hl' (by omega)
   | _=>cases h;cases h';exact lT r r' rfl rfl
  | int b t =>
   cases w' with
   | lst hl' _ _=>exact EqAt.int_list _ _ hl' (by omega)
   | tup hl' _ _=>exact EqAt.int_tuple _ _ hl' (by omega)
   | _=>cases h;cases h';exact lT r r' rfl rfl
  | str b t =>
   cases w' with
   | lst hl' _ _=>exact EqAt.str_list _ _ hl' (by omega)
   | tup hl' _ _=>exact EqAt.str_tuple _ _ hl' (by omega)
   | _=>cases h;cases h';exact lT r r' rfl rfl
end
def aSX (neg:Bool):R2:=fun x y H Q=>∃ d e,Is H d x ∧ Is H e y ∧ bB 30 d = true ∧ bB 30 e = true ∧ Q (.bl (if neg then !deq d e else deq d e)) H
theorem aEG {X:Cx} (hu:X.A.units + 64 < cLine):OpR X (BV .Eq) (aSX false):=by
 intro pins s σ H x y v u Q I rx ry h
 obtain ⟨d,e,h,h',f,g,q⟩:=h
 exact (aKK (n:=29) I (Is.eqAt I 29) d e x y v u X.A (by omega) f g h h' rx ry).1 _ _ _ _ ⟨.bl _,H,I,rfl,q⟩
theorem aLE {X:Cx} (hu:X.A.units + 64 < cLine):OpR X (BV .NotEq) (aSX true):=by
 intro pins s σ H x y v u Q I rx ry h
 obtain ⟨d,e,h,h',f,g,q⟩:=h
 exact (aKK (n:=29) I (Is.eqAt I 29) d e x y v u X.A (by omega) f g h h' rx ry).2 _ _ _ _ ⟨.bl _,H,I,rfl,q⟩
end L2
namespace L2
open PySem PySem.Spec PyProof.Rows
instance keyMem (k:Key) (l:List Key):Decidable (k ∈ l):=decidable_of_iff (l.any (fun x=>decide (x = k)) = true) (by simp)
def eF (key:Nat → Key):Nat → List Key
 | 0=>[]
 | i + 1=>if key i ∈ eF key i then eF key i else eF key i ++ [key i]
theorem tR (key:Nat → Key):∀ i,(eF key i).length ≤ i
 | 0=>AN _
 | i + 1=>by
  have ih:=tR key i
  show (if key i ∈ eF key i then eF key i else eF key i ++ [key i]).length ≤ i + 1
  split
  ·omega
  ·rw [Ae,Br];omega
theorem aCN (key:Nat → Key) (k:Key):∀ i,k ∈ eF key i ↔ ∃ j,j < i ∧ key j = k
 | 0=>by
  constructor
  ·intro h;cases h
  ·rintro ⟨j,h,_⟩;omega
 | i + 1=>by
  have ih:=aCN key k i
  show k ∈ (if key i ∈ eF key i then eF key i else eF key i ++ [key i]) ↔ _
  have step:(k ∈ eF key i ∨ k = key i) ↔ ∃ j,j < i + 1 ∧ key j = k:=by
   rw [ih]
   constructor
   ·rintro (⟨j,h,e⟩ | e)
    ·exact ⟨j,by omega,e⟩
    ·exact ⟨i,by omega,e.symm⟩
   ·rintro ⟨j,h,e⟩
    by_cases hj:j = i
    ·subst hj;exact .inr e.symm
    ·exact .inl ⟨j,by omega,e⟩
  rw [← step]
  split
  ·rename_i h
   constructor
   ·exact .inl
   ·rintro (h' | rfl)
    ·exact h'
    ·exact h
  ·rw [Ar,AV]
theorem xU (key:Nat → Key):∀ n,(eF key n).length = n ↔ ∀ i j,i < j → j < n → key i ≠ key j
 | 0=>⟨fun _ i j _ h=>absurd h (Nat.not_lt_zero _),fun _=>rfl⟩
 | n + 1=>by
  have ih:=xU key n
  have le:=tR key n
  have mm:=aCN key (key n) n
  show (if key n ∈ eF key n then eF key n else eF key n ++ [key n]).length = n + 1 ↔ _
  split
  ·rename_i h
   constructor
   ·intro e;omega
   ·intro e
    obtain ⟨j,hj,q⟩:=mm.mp h
    exact absurd q (e j n hj (DJ n))
  ·rename_i h
   rw [Ae,Br,Nat.add_right_cancel_iff,ih]
   constructor
   ·intro e i j hi hj
    by_cases q:j = n
    ·subst q
     exact fun z=>h (mm.mpr ⟨i,hi,z⟩)
    ·exact e i j hi (by omega)
   ·intro e i j hi hj
    exact e i j hi (by omega)
def vX (ks:List Key):List Key:=eF (fun i=>ks.getD i (.inl 0)) ks.length
theorem yI (ks:List Key):(vX ks).length = ks.length ↔ ks.Nodup:=by
 unfold vX
 rw [xU,CD,DY]
 constructor
 ·intro h i j hi hj hij
  have:=h i j hij hj
  simpa [Ai,hi,hj] using this
 ·intro h i j hij hj
  have hi:i < ks.length:=by omega
  have:=h i j hi hj hij
  simpa [Ai,hi,hj] using this
theorem aGW (ks:List Key):(vX ks).length ≤ ks.length:=tR _ _
def aIX (P:Program) (w:World) (a:Addr) (S:Key → Bool) (n:Nat):HO:=.ext fun h=>h.SetOf (aS P w) a S n
theorem aIX.ok {P:Program} {w:World} {H:Hp} {h:Heap} {a:Addr} {S:Key → Bool} {n:Nat} (x:h.SetOf (aS P w) a S n):bP P w H h a (aIX P w a S n) :=
 ⟨x,let ⟨o,_,_,_,ho,_⟩:=x;⟨o,ho⟩,fun _ _ ⟨o,es,ep,t,ho,r⟩ k=>⟨o,es,ep,t,k o ho,r⟩⟩
theorem aLM {P:Program} {w:World} {k:Key} {v:Value} (h:(aS P w).is k v = true):v.scannable = true:=by
 rcases cN h with ⟨i,t,rfl,rfl⟩ | ⟨x,t,rfl,rfl⟩ <;> rfl
section
variable {P:Program} {w:World} {A:Around} {R:Result → Shared → Prop} {I:Addr} {fp wr:List Addr} {G:Array DV → Array DV → Prop} {n:Nat} {Pv:Nat → Value → Prop} {Stt:Nat → Shared → Prop}
theorem aDW {h:Heap} {a:Addr} {S S':Key → Bool} {n n':Nat} (x:h.SetOf (aS P w) a S n) (e:∀ k,S k = S' k) (q:n = n'):h.SetOf (aS P w) a S' n':=by
 obtain rfl:S = S':=funext e
 subst q
 exact x
theorem aKE (W:WalksS P w A.in1 I fp wr G n Pv Stt) (D:Addr) (hD:D ∉ fp) (key:Nat → Key) (hv:∀ i v,Pv i v → (aS P w).is (key i) v = true) (hb:n + 1 < scanBound) (fin:∀ s s',Moved (D :: wr) G s s' → s'.heap.SetOf (aS P w) D (fun k=>decide (k ∈ eF key n)) (eF key n).length → True) :
  ∀ (m i:Nat) (s:Shared),n - i = m → i ≤ n → Stt i s → s.heap.SetOf (aS P w) D (fun k=>decide (k ∈ eF key i)) (eF key i).length →
   (∀ s',Moved (D :: wr) G s s' → s'.heap.SetOf (aS P w) D (fun k=>decide (k ∈ eF key n)) (eF key n).length → R (.ok (.ret .none)) s') →
   codeAny (model P w) A (.builtin "set.update.loop" ⟨[.ref D,.ref I],[]⟩) R s:=by
 have hDw:D ∉ wr:=fun z=>hD (W.sub _ z)
 have sub:∀ b ∈ wr,b ∈ D :: wr:=fun b z=>AQ _ z
 have moved:∀ {s s':Shared} {S:Key → Bool} {c:Nat},Moved wr G s s' → s.heap.SetOf (aS P w) D S c → s'.heap.SetOf (aS P w) D S c:=fun mv ⟨o,es,ep,t,ho,r⟩=>⟨o,es,ep,t,mv.heap D _ hDw ho,r⟩
 intro m
 induction m with
 | zero =>
  intro i s e1 e2 st hS hR
  obtain rfl:i = n:=by omega
  refine CA PyProof.Rows.F.entry_set_update_loop ?_
  rw [Bm Cd _]
  show wpAny _ A.in1 (pyNext (.ref I) >>= _) _ _ s
  refine AD (W.done s _ _ st fun s' mv=>?_)
  exact AZ (hR s' (mv.mono sub) (moved mv hS))
 | succ m ih =>
  intro i s e1 e2 st hS hR
  have lt:i < n:=by omega
  refine CA PyProof.Rows.F.entry_set_update_loop ?_
  rw [Bm Cd _]
  show wpAny _ A.in1 (pyNext (.ref I) >>= _) _ _ s
  refine AD (W.item i s _ _ lt st fun v s' pv st' mv=>?_)
  have hk:=hv i v pv
  have hS1:=moved mv hS
  show wpAny _ A.in1 (holding [v] (setAdd D v) >>= _) _ _ s'
  refine AD (CI ?_)
  unfold setAdd
  refine CI (AD ((aS P w).pyHash (k:=key i) hk ?_))
  have room:(eF key i).length + 1 < scanBound:=by have:=tR key i;omega
  refine wpAny_setAddHashed_of (knd:=aS P w) (s:={ s' with toks:=s'.toks + 1 }) hk (aLM hk) hS1 room fun h' sb hS2=>?_
  have hS3:h'.SetOf (aS P w) D (fun k=>decide (k ∈ eF key (i + 1))) (eF key (i + 1)).length:=by
   refine aDW hS2 (fun k=>?_) ?_
   ·show (decide (k ∈ eF key i) || decide (k = key i)) = decide (k ∈ if key i ∈ eF key i then eF key i else eF key i ++ [key i])
    by_cases z:key i ∈ eF key i
    ·rw [if_pos z]
     by_cases y:k = key i
     ·subst y;simp [z]
     ·simp [y]
    ·rw [if_neg z]
     simp
   ·show (if decide (key i ∈ eF key i) = true then (eF key i).length else (eF key i).length + 1) = (if key i ∈ eF key i then eF key i else eF key i ++ [key i]).length
    by_cases z:key i ∈ eF key i
    ·rw [if_pos z,if_pos (decide_eq_true z)]
    ·rw [if_neg z,if_neg (by simpa using z)]
     simp
  refine AZ ⟨CY Cd _,ih (i + 1) _ (by omega) lt (W.frame _ s' _ _ st' (CO _) fun b hb o e=>?_) hS3 fun s2 mv2 hS4=>?_⟩
  ·rw [sb.2 b (fun z:b = D=>hD (by rw [← z];exact hb))]
   exact e
  ·refine hR s2 (Moved.trans W.gtrans ((mv.mono sub).then_heap (CO _) fun b o hb e=>?_) mv2) hS4
   rw [sb.2 b (fun z:b = D=>hb (by rw [z];exact AU))]
   exact e
end
section
variable {P:Program} {w:World} {A:Around} {E:Value → Shared → Prop} {s:Shared}
abbrev vA (led:Bool):Obj:={ cls:=.type "set",dict:=none,data:=.set #[] 0 (.fresh 0 0 led) }
set_option maxHeartbeats 8000000 in
theorem aBP {l:Addr} {its:List Value} {ks:List Key} {Q:Value → Shared → Prop} (hh:A.handled = none) (hl:s.heap.IsList l its.toArray) (hk:∀ i v,its[i]? = some v → (aS P w).is (ks.getD i (.inl 0)) v = true) (hn:its.length = ks.length) (hb:its.length + 1 < scanBound)
  (h:∀ (h':Heap) (tk:Nat),h'.SetOf (aS P w) s.heap.objs.size (fun k=>decide (k ∈ vX ks)) (vX ks).length → (∀ b o,s.heap.get? b = some o → h'.get? b = some o) → Q (.ref s.heap.objs.size) { s with heap:=h',toks:=tk }) :
  wpAny (model P w) A (call (.type "set") [.ref l]) Q E s:=by
 obtain ⟨c,tl,hmro⟩:=Bq.mro
 have m1:=Bq.made
 have m2:=Bq.sub
 refine wpAny_call (codeAny_of_tree ?_)
 show wpAny _ _ (callAny (.type "set") _) _ _ _
 refine AZ ⟨Code.quiet_builtin _ (by decide +kernel),CA PySem.F.entry_type_call ?_⟩
 rw [Around.under_plain (weight_type_call_type "set" [.ref l] []) rfl]
 have m3:=Bq.notType
 have m4:=Bq.canCreate
 have m5:=PySem.F.typeCall_set_1 (.ref l)
 repeat (any_goals (first | assumption | wp_step))
 refine Cr (code_set_new_1 (.ref l) (E:=E) (Q₁:=fun ob s1=>∃ led:Bool,ob = .ref s.heap.objs.size ∧ s1 = { s with heap:=s.heap.push (vA led) }) fun led=>⟨led,rfl,rfl⟩) fun r s1 hr=>?_
 cases r with
 | error e=>exact hr
 | ok fl =>
  cases fl with
  | ret ob =>
   obtain ⟨led,rfl,rfl⟩:=hr
   have hS:(s.heap.push (vA led)).get? s.heap.objs.size = some (vA led):=Ab _ rfl
   have hT:Shared.TypeIs { s with heap:=s.heap.push (vA led) } (.ref s.heap.objs.size) "set":=⟨_,hS,rfl⟩
   have m6:=Bq.init.lookup
   have m7:=Bq.init.bind (.ref s.heap.objs.size)
   repeat (any_goals (first | assumption | wp_step))
   refine Cr (codeAny_call_builtin (R:=wants (fun r s2=>r = .none ∧ ∃ h' tk,s2 = { s with heap:=h',toks:=tk } ∧ h'.SetOf (aS P w) s.heap.objs.size (fun k=>decide (k ∈ vX ks)) (vX ks).length ∧ (∀ b o,s.heap.get? b = some o → h'.get? b = some o)) E)
    Bq.init.plain PySem.F.entry_set_init (check_set_init_1 hT ?_)) fun r2 s2 hr2=>?_
   ·obtain ⟨⟨oc,od,oda,osl⟩,hol,hcl,nl,hdl⟩:=hl
    simp only at hcl hdl
    subst hcl hdl
    have hol1:(s.heap.push (vA led)).get? l = some { cls:=.type "list",dict:=od,data:=.seq its.toArray nl,slots:=osl }:=AE _ hol
    have m8:=PySem.F.sub_list_set
    have m9:=PySem.F.sub_list_frozenset
    have m10:(Ca "list" == Ca "dict") = false:=by decide
    have hl1:(s.heap.push (vA led)).IsList l its.toArray:=⟨_,hol1,rfl,nl,rfl⟩
    have lS:l < s.heap.objs.size:=Aa hol
    unfold Builtin.«set.__init__» noKeywords Builtin.Frozenset.updateFrom
    generalize hPI:pyIter = PI
    wp_walk
    subst hPI
    refine Co hl1 (AD (wpAny_runValue ?_))
    have hh3:A.in1.in1.in1.handled = none:=by simp [hh]
    have nI:l ≠ (s.heap.push (vA led)).objs.size:=by rw [Cz];exact Af (De lS)
    have nS:s.heap.objs.size ∉ [(s.heap.push (vA led)).objs.size,l]:=by
     rw [Cz]
     simp only [Ah,AV,Bs,or_false,not_or]
     exact ⟨Af (DJ _),DS lS⟩
    have sz:its.toArray.size = ks.length:=by rw [AR,hn]
    refine aKE ((EO hh3 _ l nI its.toArray).toS) s.heap.objs.size nS (fun i=>ks.getD i (.inl 0)) (fun i v pv=>hk i v (by simpa using pv)) (by rw [AR];exact hb) (fun _ _ _ _=>trivial) (its.toArray.size - 0) 0 _ (by omega) (BK _)
     ⟨⟨_,Ab _ rfl,rfl,rfl⟩,(hl1.push _)⟩ ?_ ?_
    ·have g:((s.heap.push (vA led)).push { cls:=.type "list_iterator",data:=.fields #[.ref l,.int 0 0] }).get? s.heap.objs.size = some (vA led):=AE _ hS
     exact ⟨_,#[],0,_,g,⟨rfl,rfl,rfl⟩,rfl,fun e he=>by simp at he,fun k=>by simp [eF],by decide,by rfl,rfl⟩
    ·intro s3 mv hS3
     obtain ⟨h3,g3,d3,t3,o3⟩:=s3
     have e1:g3 = s.gens:=mv.gens
     have e2:d3 = s.drawn:=mv.drawn
     have e3:o3 = s.os:=mv.os
     subst e1 e2 e3
     rw [sz] at hS3
     show wpAny _ _ _ _ _ _
     refine AZ ?_
     show wpAny _ _ (ret Bg) _ _ _
     refine AZ ⟨rfl,h3,t3,rfl,hS3,fun b o e=>?_⟩
     have lb:=Aa e
     have b1:b ≠ s.heap.objs.size:=Af lb
     have b2:b ≠ (s.heap.push (vA led)).objs.size:=by rw [Cz];exact Af (De lb)
     exact mv.heap b o (by simp only [Ah,AV,Bs,or_false,not_or];exact ⟨b1,b2⟩) (AE _ (AE _ e))
   ·cases r2 with
    | error e=>exact hr2
    | ok f2 =>
     cases f2 with
     | ret r =>
      obtain ⟨rfl,h',tk,rfl,hS2,hk2⟩:=hr2
      repeat (any_goals (first | assumption | wp_step))
      exact h _ _ hS2 hk2
     | _=>exact hr2.elim
  | _=>exact hr.elim
end
section
variable {X:Cx}
theorem aGN {P:Program} {w:World}:∀ {ks:List Key} {us:List Value},bF (ks.map kV) us → ∀ i v,us[i]? = some v → (aS P w).is (ks.getD i (.inl 0)) v = true
 | [],us,r,i,v,e=>by
  rw [Cc] at r
  cases r
  simp at e
 | k :: ks,us,r,i,v,e=>by
  rw [AY] at r
  cases r with
  | cons r1 r2 =>
   cases i with
   | zero =>
    simp at e
    subst e
    cases k with
    | inl z=>obtain ⟨t,rfl⟩:=r1;exact rF z t
    | inr z=>obtain ⟨t,rfl⟩:=r1;exact rE z t
   | succ i =>
    have:=aGN (P:=P) (w:=w) r2 i v (by simpa using e)
    simpa using this
theorem oQ (hc:X.calm = true):eO X (.type "set") (fun xs H Q=>∃ (p:Addr) (ks:List Key),xs = [.ref p] ∧ SqL X.K H p (ks.map kV) ∧ ks.length ≤ 1000 ∧
  ∀ l,H l = none → Q (.ref l) (upd H l (aIX X.prog X.w l (fun k=>decide (k ∈ vX ks)) (vX ks).length))):=by
 intro pins s σ H xs us Q I r h
 obtain ⟨p,ks,rfl,hq,hn,q⟩:=h
 obtain ⟨u,rfl,ru⟩:=bF.one r
 cases ru
 obtain ⟨its,rv,pl,hz⟩:=I.list hq
 have hlen:=rv.length
 rw [AA] at hlen
 refine aBP (ks:=ks) (I.ok.hd hc) pl.isList (aGN rv) hlen.symm (by unfold scanBound;omega) fun h' tk hS hk=>?_
 exact ⟨.ref s.heap.objs.size,_,I.laid (t':=tk) hk (AN _) (aIX.ok hS),rfl,q _ (I.hok.fresh (AN _))⟩
theorem call_len_set:eO X (.builtin "len") (fun xs H Q=>∃ l S n,xs = [.ref l] ∧ H l = some (aIX X.prog X.w l S n) ∧ n ≤ 1000 ∧ Q (.int n) H):=by
 intro pins s σ H xs us Q I r h
 obtain ⟨l,S,n,rfl,e,hn,q⟩:=h
 obtain ⟨u,rfl,ru⟩:=bF.one r
 cases ru
 obtain ⟨⟨o,es,ep,t,ho,hex,hd,hel,hmem,hb,hf,hes⟩,_⟩:=I.hok l _ e
 refine PySem.call_len_set ho hex hd hf (by rw [hes];omega) ⟨.int n,H,I.tok _,⟨s.toks + 1,by rw [hes]⟩,q⟩
end
end L2
namespace L2
open PySem PySem.Spec PyProof.Rows
section
variable {X:Cx}
theorem yA {k:Key} {v:Value} (h:vJ k v = true):bI (kV k) v:=by
 rcases cN h with ⟨i,t,rfl,rfl⟩ | ⟨x,t,rfl,rfl⟩
 ·exact ⟨t,rfl⟩
 ·exact ⟨t,rfl⟩
theorem tJ:∀ {xs:List V} {us:List Value},us.length = xs.length → (∀ (j:Nat) (u:Value) (x:V),us[j]? = some u → xs[j]? = some x → bI x u) → bF xs us
 | [],[],_,_=>.nil
 | x :: xs,u :: us,hl,h=>.cons (h 0 u x rfl rfl) (tJ (by simpa using hl) fun j v y e1 e2=>h (j + 1) v y (by simpa using e1) (by simpa using e2))
 | [],_ :: _,hl,_=>by simp at hl
 | _ :: _,[],hl,_=>by simp at hl
theorem KV.get:∀ {kvs:List (Key × V)} {vs:List (Key × Value)} {i:Nat} {p:Key × Value},KV kvs vs → vs[i]? = some p → ∃ q,kvs[i]? = some q ∧ q.1 = p.1 ∧ bI q.2 p.2
 | _,_,_,_,.nil,e=>by simp at e
 | _,_,0,_,.cons r _,e=>by simp at e;subst e;exact ⟨_,rfl,r.1,r.2⟩
 | _,_,i + 1,p,.cons _ t,e=>by
  obtain ⟨q,h1,h2⟩:=KV.get (i:=i) (p:=p) t (by simpa using e)
  exact ⟨q,by simpa using h1,h2⟩
theorem jS (hc:X.calm = true):eO X (.type "list") (fun xs H Q=>∃ p kvs,xs = [.ref p] ∧ Rd H p (.dK kvs) ∧ ∀ l,H l = none → Q (.ref l) (upd H l (.lst (kvs.map fun kv=>kV kv.1)))):=by
 intro pins s σ H xs us Q I r h
 obtain ⟨p,kvs,rfl,hq,q⟩:=h
 obtain ⟨u,rfl,ru⟩:=bF.one r
 cases ru
 obtain ⟨hz,lo,vs,kv,hD⟩:=hq.ok I.hok
 obtain ⟨ep,hat⟩:=hD.dictAt
 have hl:=KV.length kv
 refine PySem.W.kdl_call (PySem.W.kdl_dict (knd:=aS X.prog X.w) (kvs:=vs) (ep:=ep) lo) (I.ok.hd hc) hat (by omega) fun h' tk acc c hk hg hi=>?_
 refine ⟨.ref s.heap.objs.size,_,I.laid (t':=tk) hk (AN _) (show bP X.prog X.w _ h' _ (.lst (kvs.map fun kv=>kV kv.1)) from ⟨by rw [AA];exact hz,acc.toList,c,?_,by simpa using hg⟩),rfl,q _ (I.hok.fresh (AN _))⟩
 refine tJ (by rw [AA,Ba,hi.1,hl]) fun j u x e1 e2=>?_
 obtain ⟨k,y,e3,e4⟩:=hi.2 j u (by rw [← CH];exact e1)
 obtain ⟨z,e5,e6,_⟩:=KV.get kv e3
 rw [AI,e5] at e2
 have e2':kV z.1 = x:=by simpa using e2
 subst e2'
 rw [show z.1 = k from e6]
 exact yA e4
def aDJ (v d:Addr):HO:=.ext fun h=>h.IsValuesView v d
theorem aDJ.ok {P:Program} {w:World} {H:Hp} {h:Heap} {v d:Addr} (x:h.IsValuesView v d):bP P w H h v (aDJ v d) :=
 ⟨x,let ⟨o,ho,_⟩:=x;⟨o,ho⟩,fun _ _ ⟨o,ho,r⟩ k=>⟨o,k o ho,r⟩⟩
theorem aHZ:MtR X "dict.values" (fun x vs H Q=>∃ d kvs,x = .ref d ∧ vs = [] ∧ Rd H d (.dK kvs) ∧ ∀ v,H v = none → Q (.ref v) (upd H v (aDJ v d))):=by
 intro pins s σ H x vs v us Q I rx rv h
 obtain ⟨d,kvs,rfl,rfl,hq,q⟩:=h
 cases rx
 have hus:=rv.zero
 subst hus
 obtain ⟨hz,lo,ws,kv,hD⟩:=hq.ok I.hok
 refine call_meetsIn PySem.F.slot_dict_values hD.typeIs PySem.F.entry_dict_values (PySem.F.args_dict_values_1 _) (meets_dict_values (aS X.prog X.w) d lo) ⟨⟨ws,hD⟩,?_⟩
 exact ⟨.ref s.heap.objs.size,_,I.laid (t':=s.toks) (fun b ob e=>AE _ e) (AN _) (aDJ.ok ⟨_,Ab _ rfl,rfl,rfl⟩),rfl,q _ (I.hok.fresh (AN _))⟩
theorem rR (hc:X.calm = true):eO X (.type "list") (fun xs H Q=>∃ v d kvs,xs = [.ref v] ∧ H v = some (aDJ v d) ∧ Rd H d (.dK kvs) ∧ ∀ l,H l = none → Q (.ref l) (upd H l (.lst (kvs.map (·.2))))):=by
 intro pins s σ H xs us Q I r h
 obtain ⟨v,d,kvs,rfl,ev,hq,q⟩:=h
 obtain ⟨u,rfl,ru⟩:=bF.one r
 cases ru
 obtain ⟨hz,lo,vs,kv,hD⟩:=hq.ok I.hok
 obtain ⟨hv,_⟩:=I.hok v _ ev
 obtain ⟨ep,hat⟩:=hD.dictAt
 have hl:=KV.length kv
 refine PySem.W.kdl_call (PySem.W.kdl_values (knd:=aS X.prog X.w) (kvs:=vs) (ep:=ep)) (I.ok.hd hc) ⟨hv,hat⟩ (by omega) fun h' tk acc c hk hg hi=>?_
 refine ⟨.ref s.heap.objs.size,_,I.laid (t':=tk) hk (AN _) (show bP X.prog X.w _ h' _ (.lst (kvs.map (·.2))) from ⟨by rw [AA];exact hz,acc.toList,c,?_,by simpa using hg⟩),rfl,q _ (I.hok.fresh (AN _))⟩
 refine tJ (by rw [AA,Ba,hi.1,hl]) fun j u x e1 e2=>?_
 obtain ⟨k,e3⟩:=hi.2 j u (by rw [← CH];exact e1)
 obtain ⟨z,e5,_,e6⟩:=KV.get kv e3
 rw [AI,e5] at e2
 have e2':z.2 = x:=by simpa using e2
 subst e2'
 exact e6
end
section
variable {X:Cx} {e se:Expr} {te ts:TE} {p2 pos:Pos}
end
end L2
namespace L2
open PySem PySem.Spec PyProof.Rows
theorem vB:typeLookup (.type "list") "keys" = pure none:=by rw [typeLookup_type,builtinLookup_eq_fast];kernel_rfl
section
variable {P:Program} {w:World} {A:Around} {E:Value → Shared → Prop} {s:Shared}
theorem qB {a:Addr} {xs:Array Value} {k:Nat} {sl:Array (Option Value)} {Q:Option Value → Shared → Prop} (hA:A.handled = none) (hx:s.heap.get? a = some { cls:=.type "list",dict:=none,data:=.seq xs k,slots:=sl })
  (h:∀ h' tk,(∀ b o,s.heap.get? b = some o → h'.get? b = some o) → Q none { s with heap:=h',toks:=tk }):wpAny (model P w) A (getAttr? (.ref a) "keys") Q E s:=by
 obtain ⟨hp,g,d,tk,os⟩:=s
 have hT:∀ tk',(⟨hp,g,d,tk',os⟩:Shared).TypeIs (.ref a) "list":=fun _=>⟨_,hx,rfl⟩
 have f1:=sub_AttributeError
 have f3:=Do.lookup
 have f4:=Do.bind (.ref a)
 have f5:=am_list_getattr_none
 unfold getAttr? getAttrBy? getAttrBy
 repeat (any_goals (first | assumption | exact hT _ | ((with_reducible show wpAny _ _ (call (Value.builtin "list.__getattribute__") _ _) _ _ _);refine call_meets Do (hT _) am_entry_list_getattribute (F.args_list_getattribute_2 _ _) (meets_getattribute_miss_list a xs k sl "keys" _ vB (by decide +kernel)) ⟨hx,hA,fun h' tk' e hx'=>?_⟩) | wp_step))
 obtain ⟨t',u',he⟩:=hx'.there
 show wpAny _ _ (getattributeRaised _ _ _ _ _ _ _) _ _ _
 unfold getattributeRaised
 repeat (any_goals (first | assumption | wp_step))
 exact h _ _ hx'.keeps
end
theorem gF:entryFor table "dict.update.loop" = some Builtin.«dict.update.loop»:=entryFor_of_tree (by kernel_rfl)
theorem cK:plainId "dict.update.loop" = true:=by decide +kernel
section
variable {P:Program} {w:World} {A:Around} {R:Result → Shared → Prop} {I:Addr} {fp wr:List Addr} {G:Array DV → Array DV → Prop} {n:Nat} {Pv:Nat → Value → Prop} {Stt:Nat → Shared → Prop}
theorem aIM (W:WalksS P w A.in1 I fp wr G n Pv Stt) (D:Addr) (hD:D ∉ fp) (res:Value) (kvs:List (Key × Value)) (hn:kvs.length = n) (hz:n ≤ Aq) (s₀:Shared)
  (hv:∀ (i:Nat) (v:Value),Pv i v → ∃ (a:Addr) (k:Key) (kv x:Value) (ob:Obj) (c:Nat),v = .ref a ∧ a ∉ D :: wr ∧ s₀.heap.get? a = some ob ∧ ob.cls = .type "tuple" ∧ ob.data = .seq #[kv,x] c ∧ kvs[i]? = some (k,x) ∧ (aS P w).is k kv = true) :
  ∀ (m i:Nat) (s:Shared),n - i = m → i ≤ n → Stt i s → (∀ b o,b ∉ D :: wr → s₀.heap.get? b = some o → s.heap.get? b = some o) → s.heap.DictOf (aS P w) D (merged [] (kvs.take i)) →
   (∀ s',Moved (D :: wr) G s s' → s'.heap.DictOf (aS P w) D (merged [] kvs) → R (.ok (.ret res)) s') →
   codeAny (model P w) A (.builtin "dict.update.loop" ⟨[.ref D,.ref I,rawInt i,res],[]⟩) R s:=by
 have hDw:D ∉ wr:=fun z=>hD (W.sub _ z)
 have sub:∀ b ∈ wr,b ∈ D :: wr:=fun b z=>AQ _ z
 have moved:∀ {s s':Shared} {l:List (Key × Value)},Moved wr G s s' → s.heap.DictOf (aS P w) D l → s'.heap.DictOf (aS P w) D l:=fun mv ⟨o,es,ep,ho,r⟩=>⟨o,es,ep,mv.heap D _ hDw ho,r⟩
 intro m
 induction m with
 | zero =>
  intro i s e1 e2 st kp hS hR
  obtain rfl:i = n:=by omega
  rw [AF (by omega)] at hS
  refine CA gF ?_
  rw [Bm cK _]
  show wpAny _ A.in1 (pyNext (.ref I) >>= _) _ _ s
  refine AD (W.done s _ _ st fun s' mv=>?_)
  show wpAny _ A.in1 (Builtin.Dict.addKeywords D [] >>= _) _ _ s'
  refine AD (AZ ?_)
  exact AZ (hR s' (mv.mono sub) (moved mv hS))
 | succ m ih =>
  intro i s e1 e2 st kp hS hR
  have lt:i < n:=by omega
  refine CA gF ?_
  rw [Bm cK _]
  show wpAny _ A.in1 (pyNext (.ref I) >>= _) _ _ s
  refine AD (W.item i s _ _ lt st fun v s' pv st' mv=>?_)
  obtain ⟨a,k,kv,x,ob,c,rfl,ha,hg,hc,hd,hi,hk⟩:=hv i v pv
  have hS1:=moved mv hS
  have hg1:s'.heap.get? a = some ob:=mv.heap a ob (fun z=>ha (sub a z)) (kp a ob ha hg)
  have hT:s'.TypeIs (.ref a) "tuple":=⟨ob,hg1,hc⟩
  refine AD (CI (AD (wpAny_tryCatch ?_)))
  unfold Builtin.Dict.pairItems
  refine AD (EE hT ?_)
  rw [if_pos (by decide)]
  refine AD (FA hg1 hd (AZ ?_))
  show wpAny _ _ (holding [kv,x] (dictSet D kv x)) _ _ s'
  refine CI (wpAny_dictSet_pairs hk hS1 (fun h' hS2 sb=>?_) ?_)
  ·have e:merged [] (kvs.take (i + 1)) = stored (merged [] (kvs.take i)) k x:=merged_take_succ [] kvs i (k,x) hi
   rw [← e] at hS2
   refine AZ ⟨CY cK _,ih (i + 1) _ (by omega) lt (W.frame _ s' _ _ st' (CO _) fun b hb o e=>?_) (fun b o hb e=>?_) hS2 fun s2 mv2 hS4=>?_⟩
   ·rw [sb.2 b (fun z:b = D=>hD (by rw [← z];exact hb))]
    exact e
   ·rw [sb.2 b (fun z:b = D=>hb (by rw [z];exact AU))]
    exact mv.heap b o (fun z=>hb (sub b z)) (kp b o hb e)
   ·refine hR s2 (Moved.trans W.gtrans ((mv.mono sub).then_heap (CO _) fun b o hb e=>?_) mv2) hS4
    rw [sb.2 b (fun z:b = D=>hb (by rw [z];exact AU))]
    exact e
  ·have:=merged_length_le ([]:List (Key × Value)) (kvs.take i)
   rw [AW] at this
   simp only [Dy] at this
   omega
end
section
variable {P:Program} {w:World} {A:Around} {E:Value → Shared → Prop} {s:Shared}
theorem wZ {l:Addr} {its:List Value} {kvs:List (Key × Value)} {Q:Value → Shared → Prop} (hh:A.handled = none) (hl:PlainL s.heap l its.toArray) (hn:its.length = kvs.length) (hz:its.length ≤ Aq)
  (hv:∀ (i:Nat) (v:Value),its[i]? = some v → ∃ (a:Addr) (k:Key) (kv x:Value) (ob:Obj) (c:Nat),v = .ref a ∧ s.heap.get? a = some ob ∧ ob.cls = .type "tuple" ∧ ob.data = .seq #[kv,x] c ∧ kvs[i]? = some (k,x) ∧ (aS P w).is k kv = true)
  (h:∀ (h':Heap) (tk:Nat),h'.DictOf (aS P w) s.heap.objs.size (merged [] kvs) → (∀ b o,s.heap.get? b = some o → h'.get? b = some o) → Q (.ref s.heap.objs.size) { s with heap:=h',toks:=tk }) :
  wpAny (model P w) A (call (.type "dict") [.ref l]) Q E s:=by
 refine FB (Q₁:=fun (obj:Value) (s₁:Shared)=>obj = Ap s.heap.objs.size ∧ s₁ = { s with heap:=s.heap.push { cls:=.type "dict",data:=.dict #[] } }) F.kt_called_dict (F.kt_typeCall_dict_1 _) F.entry_dict_init (kt_code_dict_new _ ⟨rfl,rfl⟩) ?_
 rintro obj s₁ ⟨rfl,rfl⟩
 have hnew:(s.heap.push { cls:=.type "dict",data:=.dict #[] }).DictOf (aS P w) s.heap.objs.size []:=Heap.DictOf.new s.heap
 obtain ⟨⟨oc,od,oda,osl⟩,nl,hol,hcl,hod,hdl⟩:=id hl
 simp only at hcl hod hdl
 subst hcl hod hdl
 have lS:l < s.heap.objs.size:=Aa hol
 have hol1:=AE (h:=s.heap) { cls:=.type "dict",data:=.dict #[] } hol
 refine ⟨hnew.typeIs,F.args_dict_init_2 _ _,?_⟩
 unfold Builtin.«dict.__init__»
 refine AD ?_
 unfold Builtin.Dict.selfAndRest
 refine AD (EN hnew.typeIs ?_)
 show wpAny _ _ (pure (s.heap.objs.size,[Ap l])) _ _ _
 refine AZ ?_
 show wpAny _ _ (Cn "dict.__init__" s.heap.objs.size (.ref l) [] .none) _ _ _
 unfold Cn
 refine AD (EE (T:="list") ⟨_,hol1,rfl⟩ ?_)
 rw [if_pos (by decide)]
 refine AD (qB (by simp [hh]) hol1 fun h1 t1 k1=>?_)
 show wpAny _ _ (rule _ >>= _) _ _ _
 refine AD (Ej ?_)
 have hol2:=k1 _ _ hol1
 have hl2:h1.IsList l its.toArray:=⟨_,hol2,rfl,nl,rfl⟩
 refine AD (Co (s:={ s with heap:=h1,toks:=t1 }) hl2 ?_)
 have sz1:s.heap.objs.size < h1.objs.size:=by
  obtain ⟨o,es,ep,ho,_⟩:=hnew
  exact Aa (k1 _ _ ho)
 have nI:l ≠ h1.objs.size:=Af (Aa hol2)
 have nD:s.heap.objs.size ∉ [h1.objs.size,l]:=by
  simp only [Ah,AV,Bs,or_false,not_or]
  exact ⟨Af sz1,DS lS⟩
 refine AZ ⟨CY cK _,?_⟩
 have hh2:A.in1.in1.handled = none:=by simp [hh]
 refine aIM ((EO hh2 _ l nI its.toArray).toS) s.heap.objs.size nD .none kvs (by rw [AR,hn]) (by rw [AR];exact hz) { s with heap:=h1.push { cls:=.type "list_iterator",data:=.fields #[.ref l,.int 0 0] },toks:=t1 } (fun i v pv=>?_) (its.toArray.size - 0) 0 _ (by omega) (BK _)
  ⟨⟨_,Ab _ rfl,rfl,rfl⟩,(hl2.push _)⟩ (fun _ _ _ e=>e) ?_ ?_
 ·obtain ⟨a,k,kv,x,ob,c,rfl,hg,hc,hd,hi,hk⟩:=hv i v (by simpa using pv)
  have la:=Aa hg
  refine ⟨a,k,kv,x,ob,c,rfl,?_,AE _ (k1 _ _ (AE _ hg)),hc,hd,hi,hk⟩
  simp only [Ah,AV,Bs,or_false,not_or]
  exact ⟨Af la,Af (DT la sz1)⟩
 ·obtain ⟨o,es,ep,ho,r⟩:=hnew
  exact ⟨o,es,ep,AE _ (k1 _ _ ho),r⟩
 ·intro s3 mv hS3
  obtain ⟨h3,g3,d3,t3,o3⟩:=s3
  have e1:g3 = s.gens:=mv.gens
  have e2:d3 = s.drawn:=mv.drawn
  have e3:o3 = s.os:=mv.os
  subst e1 e2 e3
  refine ⟨rfl,h h3 t3 hS3 fun b o e=>?_⟩
  have lb:=Aa e
  refine mv.heap b o ?_ (AE _ (k1 _ _ (AE _ e)))
  simp only [Ah,AV,Bs,or_false,not_or]
  exact ⟨Af lb,Af (DT lb sz1)⟩
end
def bN (H:Hp) (ys:List V) (kvs:List (Key × V)):Prop:=Paired (fun (y:V) (kv:Key × V)=>∃ a,y = .ref a ∧ H a = some (.tup [kV kv.1,kv.2])) ys kvs
theorem bN.nil (H:Hp):bN H [] []:=Bw
theorem bN.len {H:Hp} {ys:List V} {kvs:List (Key × V)} (h:bN H ys kvs):ys.length = kvs.length:=By h
theorem bN.same {H H':Hp} (S:aJ H H'):∀ {ys:List V} {kvs:List (Key × V)},bN H ys kvs → bN H' ys kvs
 | _,_,Bw=>Bw
 | _,_,CZ ⟨a,e,o⟩ t=>CZ ⟨a,e,S _ _ o⟩ (bN.same S t)
theorem bN.snoc {H:Hp} {ys:List V} {kvs:List (Key × V)} {p:Addr} {k:Key} {v:V} (h:bN H ys kvs) (hp:H p = none):bN (upd H p (.tup [kV k,v])) (ys ++ [.ref p]) (kvs ++ [(k,v)]) :=
 DF (h.same (aJ.upd hp)) ⟨p,rfl,aE⟩
section
variable {X:Cx}
theorem aNW {P:Program} {w:World} {k:Key} {u:Value} (r:bI (kV k) u):(aS P w).is k u = true:=by
 cases k with
 | inl z=>obtain ⟨t,rfl⟩:=r;exact rF z t
 | inr z=>obtain ⟨t,rfl⟩:=r;exact rE z t
theorem pR {pins:List (Addr × Obj)} {σ:St} {H:Hp} {s:Shared} (I:Inv X pins σ H s):∀ {ys:List V} {kvs:List (Key × V)} {its:List Value},bN H ys kvs → bF ys its →
  ∃ vk:List (Key × Value),KV kvs vk ∧ its.length = vk.length ∧ ∀ (i:Nat) (v:Value),its[i]? = some v → ∃ (a:Addr) (k:Key) (kv x:Value) (ob:Obj) (c:Nat),v = .ref a ∧ s.heap.get? a = some ob ∧ ob.cls = .type "tuple" ∧ ob.data = .seq #[kv,x] c ∧ vk[i]? = some (k,x) ∧ (aS X.prog X.w).is k kv = true
 | _,_,_,Bw,Bw=>⟨[],Bw,rfl,fun i v e=>by simp at e⟩
 | _,(k,v0) :: kvs,u :: its,CZ ⟨a,e,o⟩ t,CZ r rs=>by
  obtain ⟨vk,h1,h2,h3⟩:=pR I t rs
  subst e
  cases r
  obtain ⟨tis,rt,⟨ob,g,hc,c,hd⟩,_⟩:=I.tuple (SqT.of o)
  obtain ⟨ku,xu,rfl,rk,rx⟩:=bF.two rt
  refine ⟨(k,xu) :: vk,CZ ⟨rfl,rx⟩ h1,by simp [h2],fun i v e=>?_⟩
  cases i with
  | zero =>
   simp at e
   subst e
   exact ⟨a,k,ku,xu,ob,c,rfl,g,hc,hd,rfl,aNW rk⟩
  | succ i =>
   obtain ⟨a',k',kv',x',ob',c',q⟩:=h3 i v (by simpa using e)
   exact ⟨a',k',kv',x',ob',c',by simpa using q⟩
theorem dL (hc:X.calm = true):eO X (.type "dict") (fun xs H Q=>∃ (p:Addr) (ys:List V) (kvs:List (Key × V)),xs = [.ref p] ∧ SqL X.K H p ys ∧ bN H ys kvs ∧ kvs.length ≤ 1000 ∧ (kvs.map (·.1)).Nodup ∧ ∀ l,H l = none → Q (.ref l) (upd H l (.dK kvs))):=by
 intro pins s σ H xs us Q I r h
 obtain ⟨p,ys,kvs,rfl,hq,hp,hn,nd,q⟩:=h
 obtain ⟨u,rfl,ru⟩:=bF.one r
 cases ru
 obtain ⟨its,rv,pl,hz⟩:=I.list hq
 obtain ⟨vk,kv,el,hv⟩:=pR I hp rv
 have big:(1000:Nat) ≤ Aq:=by decide
 have l1:=KV.length kv
 have ek:vk.map (·.1) = kvs.map (·.1):=(KV.keys kv).symm
 refine wZ (kvs:=vk) (I.ok.hd hc) pl el (by omega) hv fun h' tk hD hk=>?_
 rw [merged_nil_of_nodup vk (by rw [ek];exact nd)] at hD
 refine ⟨.ref s.heap.objs.size,_,I.laid (t':=tk) hk (AN _) (show bP X.prog X.w _ h' _ (.dK kvs) from ⟨by omega,?_,vk,kv,hD⟩),rfl,q _ (I.hok.fresh (AN _))⟩
 have b:=I.big
 exact beq_eq_false_iff_ne.mpr (DS b)
end
end L2
namespace L2
open PySem PySem.Spec PyProof.Rows
structure MethAt (K:AG) (C:Addr) (m qual:Str) (st:Stmt) (ps:List Str):Prop where
 ex:∃ (f:Addr) (fd:Bi),Fun K m qual st f fd ∧ jV K fd ps [] ∧ Meth K C m f
structure InitAt (K:AG) (C:Addr) (qual:Str) (st:Stmt) (ps:List Str):Prop where
 ex:∃ (f:Addr) (fd:Bi),Fun K "__init__" qual st f fd ∧ jV K fd ps [] ∧ Mk K C f
structure Mc (P:Program) (w:World) (K:AG) (mg:Str → Option Value) (base:Heap) (k:Nat) (C:Addr) (m:Str) (ps:List Str) (sp:Sp):Prop where
 ex:∃ (f:Addr) (fd:Bi),FnOk P w K mg base CX0 k f fd ps sp ∧ jV K fd ps [] ∧ Meth K C m f
structure Ic (P:Program) (w:World) (K:AG) (mg:Str → Option Value) (base:Heap) (k:Nat) (C:Addr) (ps:List Str) (sp:Sp):Prop where
 ex:∃ (f:Addr) (fd:Bi),FnOk P w K mg base CX0 k f fd ps sp ∧ jV K fd ps [] ∧ Mk K C f
section
variable {P:Program} {w:World} {K:AG} {mg:Str → Option Value} {base:Heap} {C:Addr} {m qual:Str} {st:Stmt} {N ps:List Str} {k:Nat} {sp:Sp}
theorem MethAt.mc (D:MethAt K C m qual st ps) (S:FnScope N ps (aB st)) (len:∀ vs H Q E,sp vs H Q E → vs.length = ps.length)
  (hbody:∀ (f:Addr) (cdv:Value) (A:Around) (outer:List Env) (s:Shared) (H:Hp) (vs:List V) (Q:VK) (E:XK),Room k (A.deeper (envOfC qual (aB st) s.heap.objs.size f cdv)) → sp vs H Q E →
   ∃ t,PSs (mG CX0 P w K mg base N qual (aB st) f cdv A outer s H E).nox (aK st) t ∧ t { nx:=fun _ H'=>Q .non H',rt:=Q } (start N vs) H):Mc P w K mg base (k + 1) C m ps sp:=by
 obtain ⟨f,fd,F,b,mm⟩:=D.ex
 exact ⟨f,fd,F.ok S len fun cdv A outer s H vs Q E hr h=>hbody f cdv A outer s H vs Q E hr h,b,mm⟩
theorem InitAt.ic (D:InitAt K C qual st ps) (S:FnScope N ps (aB st)) (len:∀ vs H Q E,sp vs H Q E → vs.length = ps.length)
  (hbody:∀ (f:Addr) (cdv:Value) (A:Around) (outer:List Env) (s:Shared) (H:Hp) (vs:List V) (Q:VK) (E:XK),Room k (A.deeper (envOfC qual (aB st) s.heap.objs.size f cdv)) → sp vs H Q E →
   ∃ t,PSs (mG CX0 P w K mg base N qual (aB st) f cdv A outer s H E).nox (aK st) t ∧ t { nx:=fun _ H'=>Q .non H',rt:=Q } (start N vs) H):Ic P w K mg base (k + 1) C ps sp:=by
 obtain ⟨f,fd,F,b,mm⟩:=D.ex
 exact ⟨f,fd,F.ok S len fun cdv A outer s H vs Q E hr h=>hbody f cdv A outer s H vs Q E hr h,b,mm⟩
theorem Mc.imp {sp':Sp} (F:Mc P w K mg base k C m ps sp) (h:∀ vs H Q E,sp' vs H Q E → sp vs H Q E):Mc P w K mg base k C m ps sp':=by
 obtain ⟨f,fd,G,b,mm⟩:=F.ex
 exact ⟨f,fd,G.imp h,b,mm⟩
theorem iW {f:Addr} {oc:Value} {od an:Option Addr} {osl:Array (Option Value)} {kV doc pm cdv ct:Value} (a:As K (.ref C) m = some (some (.ref f))) (i:Be K (.ref f) = true)
  (l:K.lookup f = some ⟨oc,od,.func (AO m qual (aL st) (aK st) (aB st) .none kV doc pm an cdv ct),osl⟩) (c:AJ K cdv qual = true) (kp:AH K (.ref f) = true)
  (hb:∀ (kV doc pm:Value) (an:Option Addr) (cdv ct:Value) (us:List Value),us.length = ps.length → EX (AO m qual (aL st) (aK st) (aB st) .none kV doc pm an cdv ct) ⟨us,[]⟩ = pure (ps.zip us)):MethAt K C m qual st ps :=
 ⟨f,_,rK l c kp,(rK l c kp).binds hb,⟨a,i,kp⟩⟩
theorem aOT {f:Addr} {oc:Value} {od an:Option Addr} {osl:Array (Option Value)} {kV doc pm cdv ct:Value} (a:As K (.ref C) "__init__" = some (some (.ref f))) (i:Be K (.ref f) = true)
  (l:K.lookup f = some ⟨oc,od,.func (AO "__init__" qual (aL st) (aK st) (aB st) .none kV doc pm an cdv ct),osl⟩) (c:AJ K cdv qual = true) (kp:AH K (.ref f) = true)
  (mk:Dm K C = true) (kc:AH K (.ref C) = true)
  (hb:∀ (kV doc pm:Value) (an:Option Addr) (cdv ct:Value) (us:List Value),us.length = ps.length → EX (AO "__init__" qual (aL st) (aK st) (aB st) .none kV doc pm an cdv ct) ⟨us,[]⟩ = pure (ps.zip us)):InitAt K C qual st ps :=
 ⟨f,_,rK l c kp,(rK l c kp).binds hb,⟨mk,a,i,kc⟩⟩
end
section
variable {X:Cx} {k:Nat} {ps:List Str} {sp:Sp} {x m:Str} {p pos apos:Pos} {o e:Expr} {es:List Expr} {ta:TE} {t:TA} {C:Addr}
theorem aOD {pl:Sem Bool} (c:Cls X.K C) (F:Mc X.prog X.w X.K X.mg X.base k C m ps sp) (hr:Room k X.A) (ho:PE X o ta) (ha:PA X (e :: es) t)
  (hst:At (e :: es) X.env = (false,eval e X.env) :: At es X.env:=by rfl) (hpl:(backTo pos (At es X.env)).any (·.1) = false:=by rfl)
  (ht:eval (.Call (.Attribute o m apos) (e :: es) [] pos) X.env = (do
   let ov ← eval o X.env
   standAt apos.atName
   let (f,first) ← holding [ov] (EZ ov m pl)
   callWith pos f first (backTo pos (At (e :: es) X.env)) (DR pos (Cf [] X.env))):=by rfl) :
  PE X (.Call (.Attribute o m apos) (e :: es) [] pos) (aFO C m sp [] E0 ta t):=by
 obtain ⟨f,fd,G,b,mm⟩:=F.ex
 exact aOB (pl:=pl) ho c mm G hr b .nil aGI ha hst hpl ht
theorem aKX {pl:Sem Bool} (c:Cls X.K C) (F:Mc X.prog X.w X.K X.mg X.base k C m ps sp) (hr:Room k X.A) (ho:PE X o ta)
  (ht:eval (.Call (.Attribute o m apos) [] [] pos) X.env = (do
   let ov ← eval o X.env
   standAt apos.atName
   let (f,first) ← holding [ov] (EZ ov m pl)
   callWith pos f first (backTo pos (At [] X.env)) (DR pos (Cf [] X.env))):=by rfl) :
  PE X (.Call (.Attribute o m apos) [] [] pos) (aFO C m sp [] E0 ta aHF):=by
 obtain ⟨f,fd,G,b,mm⟩:=F.ex
 exact aKW (pl:=pl) ho c mm G hr b .nil aGI ht
theorem aSY (hm:X.mg x = some (.ref C)) (F:Ic X.prog X.w X.K X.mg X.base k C ps sp) (hr:Room (k + 1) X.A) (ha:PA X (e :: es) t) (hg:Gl X x:=by rfl) (hdb:(x == ("__debug__":Str)) = false:=by decide)
  (he:At (e :: es) X.env = (false,eval e X.env) :: At es X.env:=by rfl) (hpl:(backTo pos (At es X.env)).any (·.1) = false:=by rfl) :
  PE X (.Call (.Name x p) (e :: es) [] pos) (aPN C sp [] E0 t):=by
 obtain ⟨f,fd,G,b,mm⟩:=F.ex
 exact aOC mm G hr hg hm b .nil aGI ha hdb he hpl
end
section
variable {X:Cx} {K:AG}
theorem aV (e:X.K = K):IxR X (aSV K):=by subst e;exact aRL
theorem dU (e:X.K = K):IxR X (aSW K):=by subst e;exact aOQ
theorem aKC (e:X.K = K):SlR X (aST K):=by subst e;exact aNT
theorem oY (e:X.K = K):OpR X (BV .In) (rIn K false):=by subst e;exact aHW
theorem wO (e:X.K = K):OpR X (BV .NotIn) (rIn K true):=by subst e;exact zU
theorem bA (e:X.K = K):eO X (.builtin "len") (fun xs H Q=>∃ p ys,xs = [.ref p] ∧ (SqL K H p ys ∨ SqT K H p ys) ∧ Q (.int ys.length) H):=by subst e;exact aAQ
theorem cA (e:X.K = K):eO X (.builtin "isinstance") (fun xs H Q=>∃ x y c t b,xs = [x,y] ∧ aRS y = some c ∧ TyOf K H x t ∧ Bt K t c = some b ∧ Q (.bl b) H):=by subst e;exact aDF
theorem kI (e:X.K = K):eO X (.type "list") (fun xs H Q=>∃ p ys,xs = [.ref p] ∧ (SqL K H p ys ∨ SqT K H p ys) ∧ ∀ l,H l = none → Q (.ref l) (upd H l (.lst ys))):=by subst e;exact aAO
end
theorem qT {j:Int} (h:decide (0 < j) = true):0 < j:=of_decide_eq_true h
end L2
namespace L2
open PySem PySem.Spec PyProof.Rows
theorem jM {X:Cx} {i:Nat} {x:Str} {elt iter tg:Expr} {ifs:List Expr} {scope:Scope} {pos pos' cpos:Pos} {wi:TI} {g:TG} {tt:TT} {te:TE} (hXN:X.N.Nodup) (hix:X.N[i]? = some x) (N':List Str) (nt:Nat) (cap:List Nat)
  (hc:X.calm = true) (hi:PI X tg iter wi) (hg:∀ R,PG (blk X scope N' R) tg g) (hgk:aDL nt g) (ht:∀ R,aNA (blk X scope N' R) ifs tt) (he:∀ R,PE (blk X scope N' R) elt te)
  (hx:Loc X.env.scope x:=by exact Or.inl rfl) (hfn:X.fn x = true ∨ X.env.scope.names.lookup x = some .local:=by first | exact .inl rfl | exact .inr rfl | assumption)
  (hsw:swapsWith (.ListComp elt [⟨tg,iter,ifs,0⟩] scope cpos) (some (.Name x pos')) pos.line X.env = pure true:=by rfl)
  (hcell:(scope.names.all fun y=>!(y.2 == .cell)) = true:=by rfl) (hkind:scope.kind = .function:=by rfl)
  (hnames:(scope.names.all fun y=>!(y.2 == .local) || (scope.names.lookup y.1 == some .local)) = true:=by rfl)
  (hfr:(scope.names.all fun y=>!(y.2 == .free) || (X.env.kindOf y.1 == some .cell || X.env.kindOf y.1 == some .free)) = true:=by rfl)
  (hN:N'.length = nt + cap.length:=by rfl) (hcapN:(cap.map fun j=>X.N[j]?) = (N'.drop nt).map some:=by rfl) (hcapF:((N'.drop nt).all fun x=>scope.names.lookup x == some .free) = true:=by rfl)
  (hs:∀ x,Es iter X.env x = pure x:=by intro _;rfl) :
  PS X (.Assign [.Name x pos'] (.ListComp elt [⟨tg,iter,ifs,0⟩] scope cpos) pos) (aSL (aPO nt cap wi g tt te) (sM i)):=by
 intro pins s σ H Ds I h
 have hfr':∀ y ∈ scope.names,y.2 = .free → (X.env.kindOf y.1 = some .cell ∨ X.env.kindOf y.1 = some .free):=fun y hy e=>by
  have z:=kC hfr y hy
  rw [e] at z
  have z':(X.env.kindOf y.1 == some .cell || X.env.kindOf y.1 == some .free) = true:=z
  rcases Bool.or_eq_true_iff.mp z' with q | q
  ·exact .inl (beq_iff_eq.mp q)
  ·exact .inr (beq_iff_eq.mp q)
 have hcell':∀ y ∈ scope.names,y.2 ≠ .cell:=fun y hy e=>by
  have z:=kC hcell y hy
  rw [e] at z
  cases z
 obtain ⟨cl,hcl,hclk,hclh⟩:=wD (scope:=scope) (env:=X.env) fun y hy e=>I.ok.has y.1 (hfr' y hy e)
 have hnames':∀ y ∈ scope.names,y.2 = .local → scope.names.lookup y.1 = some .local:=fun y hy e=>by
  have z:=kC hnames y hy
  rw [e] at z
  exact beq_iff_eq.mp z
 have hcapN':∀ (k j:Nat),cap[k]? = some j → N'[nt + k]? = X.N[j]?:=fun k j e=>by
  have z:=congrArg (fun l:List (Option Str)=>l[k]?) hcapN
  simp only [AI,e,Cq,EV] at z
  cases q:N'[nt + k]? with
  | none=>rw [q] at z;cases z
  | some x=>rw [q] at z;exact (Ax z).symm
 rw [exec_Assign_Name_used _ _ _ _ hsw]
 refine AD (Eg (AD ?_))
 show wpAny _ X.A (do let _ ← comprehension (.ListComp elt [⟨tg,iter,ifs,0⟩] scope cpos) scope X.env _ (newList []) false (eval iter X.env) (some (assign (.Name x pos') X.env))) _ _ s
 refine AD (BL (wpAny_comprehension_free (use:=some (assign (.Name x pos') X.env)) (Q:=fun _ s'=>SP X pins Ds .next s') rfl hs hcl hkind hnames'
  (thn (hi pins s σ H _ I h) fun v s1 h1=>thn h1 fun itv s2 h2=>?_)) (fun _ s' hq=>AZ (AZ hq)) fun _ _ e=>e)
 obtain ⟨it,fp,tn,J,H2,e,I2,T,st2,f2,hw⟩:=h2
 subst e
 refine wB (RR:=fun acc C=>compPost (model X.prog X.w) X.A X.xe (some (assign (.Name x pos') X.env)) (fun _ s'=>SP X pins Ds .next s') acc C) hc I2 T st2 f2 hclk hclh hcell' hkind hfr' hN hcapN' (fun x hx=>beq_iff_eq.mp (kC hcapF x hx)) hg hgk ht he hw ?_
 intro D C s' H' ys hD q I' B
 obtain ⟨m,hn⟩:=B.ns
 obtain ⟨oC,es,ep,hoC,hdC,hrest⟩:=id hn
 have nofs:C ∉ X.fs:=fun hb=>by
  obtain ⟨_,o,ho,_⟩:=I'.ok.funs.mem hb
  exact absurd (Ag (Aa ho) B.ab) (Ch _)
 have IC:Inv X ((C,oC) :: pins) σ (upd H' D (.lst ys)) s':=I'.pins_of fun p hp=>by
  rcases Ah.mp hp with rfl | hp
  ·exact ⟨hoC,B.fr,B.ne,nofs,fun v z=>by rw [hdC] at z;cases z⟩
  ·exact I'.pin p (Am _ hp)
 show wpAny _ X.A (assign (.Name x pos') X.env (.ref D)) _ _ _
 refine thn (aW hXN hix hx hfn ((C,oC) :: pins) s' σ (upd H' D (.lst ys)) (.ref D) (.ref D) Ds.nx IC rfl (q D hD)) fun _ s'' h''=>?_
 obtain ⟨σ2,H3,I3,q3⟩:=h''
 have pC:=I3.pin (C,oC) (Am _ AU)
 refine ⟨m,hn.at' (fun o e=>?_),fun h4 hs4=>⟨σ2,H3,?_,q3⟩⟩
 ·rw [hoC] at e
  cases e
  exact pC.1
 ·have I4:Inv X pins σ2 H3 s'':=I3.pins_of fun p hp=>I3.pin p (Am _ (AQ _ hp))
  exact I4.turned (it:=C) (t':=s''.toks) (fun b o hb e=>hs4.extBut b o hb e) pC.2.1 B.ne (.inr B.ab) B.cl B.pn
end L2
namespace L2
open PySem PySem.Spec PyProof.Rows
section
variable {X:Cx}
end
structure InstC (K:AG) (C:Addr):Prop where
 ha:As K (.ref C) "__class__" = some (some (.builtin "object.__class__"))
 hn:DW K (.builtin "object.__class__") "__get__" = some (some (.builtin "getset_descriptor.__get__"))
 htk:Ec K (.builtin "object.__class__") = some true
 hm:PySem.W.mroIn K C (.type "object") = some true
theorem MethAt.mcD {P:Program} {w:World} {K:AG} {mg:Str → Option Value} {base:Heap} {C:Addr} {m qual:Str} {st:Stmt} {N ps:List Str} {k:Nat} {sp:Sp} (D:MethAt K C m qual st ps) (S:FnScope N ps (aB st)) (len:∀ vs H Q E,sp vs H Q E → vs.length = ps.length)
  (hbody:∀ (f:Addr) (cdv:Value) (A:Around) (outer:List Env) (s:Shared) (H:Hp) (vs:List V) (Q:VK) (E:XK),Room k (A.deeper (envOfC qual (aB st) s.heap.objs.size f cdv)) → sp vs H Q E →
   ∃ t,PSs (mG CX0 P w K mg base N qual (aB st) f cdv A outer s H E).nox (aK st) t ∧ t { nx:=fun _ H'=>cO Q .non H',rt:=cO Q } (start N vs) H):Mc P w K mg base (k + 1) C m ps sp:=by
 obtain ⟨f,fd,F,b,mm⟩:=D.ex
 refine ⟨f,fd,FnOk.drop len (F.ok S (fun vs H Q E ⟨Q',h,_⟩=>len vs H Q' E h) fun cdv A outer s H vs Q E hr ⟨Q',h,e⟩=>?_),b,mm⟩
 subst e
 exact hbody f cdv A outer s H vs Q' E hr h
theorem gW.under {H:Hp} {p q:Addr} {o u:HO} (hp:H p = none) (d:rN o = true) (hq:L2.upd H p o q = none):gW (L2.upd (L2.upd H p o) q u) (L2.upd H q u):=fun b=>by
 by_cases hb:b = q
 ·subst hb
  left
  rw [aE,aE]
 ·rw [aI hb,aI hb]
  by_cases hc:b = p
  ·subst hc
   right
   exact ⟨hp,o,aE,d⟩
  ·left
   rw [aI hc]
end L2
namespace Ld
open PySem L2
def jP (c:Nat):Bool:=decide (97 ≤ c) && decide (c ≤ 122)
def eY (z:Str):Bool:=decide (1 ≤ z.length) && decide (z.length ≤ 8) && !decide (z = "sea") && z.cps.toList.all jP
def isInt:Dv → Bool
 | .int _=>true
 | _=>false
def aLP:Dv → Bool
 | .bl _=>true
 | _=>false
def aTJ:Dv → Bool
 | .str _=>true
 | _=>false
def aTL:Dv → Bool
 | .lst _=>true
 | _=>false
def aTI:Dv → Bool
 | .tup _=>true
 | _=>false
def aFM (n:Int):Dv → Bool
 | .tup ds=>decide ((ds.length:Int) = n)
 | _=>false
def aLJ (n:Int):Dv → Bool
 | .lst ds=>decide (1 ≤ ds.length) && decide ((ds.length:Int) ≤ n)
 | _=>false
def pE:Dv → Bool
 | .str z=>eY z
 | _=>false
def hgt (i:Int):Bool:=decide (-1000000 ≤ i) && decide (i ≤ 1000000)
def amt (i:Int):Bool:=decide (0 ≤ i) && decide (i ≤ 1000000)
def fU:Dv → Bool
 | .int i=>hgt i
 | _=>false
def lC:Dv → Bool
 | .int i=>amt i
 | _=>false
def pW (zs:List Str):Dv → Bool
 | .str z=>decide (z ∈ zs)
 | _=>false
def cD:Dv → Option Str
 | .tup (.str z :: _)=>some z
 | _=>none
def cB:Dv → Bool
 | .tup [a,b,c]=>pE a && (fU b && lC c)
 | _=>false
def lJ:Dv → Bool
 | .lst ds=>(decide (1 ≤ ds.length) && decide (ds.length ≤ 12)) && (ds.all cB && decide ((ds.map cD).Nodup))
 | _=>false
def nR (zs:List Str) (a b:Dv):Bool:=pW zs a && (pW zs b && !deq a b)
def nF (c:Dv):Dv → Bool
 | .non=>true
 | .int i=>hgt i && (match c with | .int j=>decide (i < j) | _=>false)
 | _=>false
def dC (zs:List Str):Dv → Bool
 | .tup [n,a,b,c,r,s]=>pE n && nR zs a b && (fU c && (lC r && nF c s))
 | _=>false
def nU (zs:List Str):Dv → Bool
 | .lst ds=>(decide (1 ≤ ds.length) && decide (ds.length ≤ 40)) && (ds.all (dC zs) && decide ((ds.map cD).Nodup))
 | _=>false
mutual
def eP:Dv → Bool
 | .str z=>decide (z.length ≤ 1000)
 | .lst ds=>decide (ds.length ≤ 1000) && gY ds
 | .tup ds=>decide (ds.length ≤ 1000) && gY ds
 | _=>true
def gY:List Dv → Bool
 | []=>true
 | d :: ds=>eP d && gY ds
end
theorem jC:∀ {ds:List Dv} {d:Dv},gY ds = true → d ∈ ds → eP d = true
 | [],_,_,m=>by cases m
 | e :: ds,d,f,m=>by
  rw [gY,Ac] at f
  rcases Ah.mp m with rfl | m
  ·exact f.1
  ·exact jC f.2 m
theorem xL {ds:List Dv} (h:eP (.tup ds) = true):gY ds = true:=(BJ.mp (show (decide (ds.length ≤ 1000) && gY ds) = true from h)).2
theorem rV (K:AG) {H:Hp} {d:Dv} {x:V} (h:Is H d x):∃ t,TyOf K H x t ∧ Bt K t (.type "int") = some (isInt d || aLP d) ∧ Bt K t (.type "bool") = some (aLP d) ∧
  Bt K t (.type "str") = some (aTJ d) ∧ Bt K t (.type "list") = some (aTL d) ∧ Bt K t (.type "tuple") = some (aTI d):=by
 cases d with
 | non=>cases (show x = .non from h);exact ⟨_,.non,rfl,rfl,rfl,rfl,rfl⟩
 | bl b=>cases (show x = .bl b from h);exact ⟨_,.bl b,rfl,gT _ _,rfl,rfl,rfl⟩
 | int i=>cases (show x = .int i from h);exact ⟨_,.int i,gT _ _,rfl,rfl,rfl,rfl⟩
 | str z=>cases (show x = .str z from h);exact ⟨_,.str z,rfl,rfl,gT _ _,rfl,rfl⟩
 | lst ds=>obtain ⟨a,vs,rfl,e,_⟩:=h;exact ⟨_,.lst e,rfl,rfl,rfl,gT _ _,rfl⟩
 | tup ds=>obtain ⟨a,vs,rfl,e,_⟩:=h;exact ⟨_,.tup e,rfl,rfl,rfl,rfl,gT _ _⟩
 | dct ks ds=>obtain ⟨a,vs,rfl,e,_⟩:=h;exact ⟨_,.dK e,rfl,rfl,rfl,rfl,rfl⟩
theorem aAD:("abcdefghijklmnopqrstuvwxyz":Str).cps.toList = [97,98,99,100,101,102,103,104,105,106,107,108,109,110,111,112,113,114,115,116,117,118,119,120,121,122]:=by decide +kernel
theorem aEQ (c:Nat):(!(Builtin.Str.occurrences ("abcdefghijklmnopqrstuvwxyz":Str) ⟨#[c]⟩ 0 ("abcdefghijklmnopqrstuvwxyz":Str).length 1).isEmpty) = jP c:=by
 rw [PySem.StrLaws.found_one,aAD]
 have h1:∀ d,d ∈ ([97,98,99,100,101,102,103,104,105,106,107,108,109,110,111,112,113,114,115,116,117,118,119,120,121,122]:List Nat) → 97 ≤ d ∧ d ≤ 122:=by decide
 have h2:∀ k,k < 26 → (97 + k) ∈ ([97,98,99,100,101,102,103,104,105,106,107,108,109,110,111,112,113,114,115,116,117,118,119,120,121,122]:List Nat):=by decide
 unfold jP
 by_cases h:97 ≤ c ∧ c ≤ 122
 ·have e:=h2 (c - 97) (by omega)
  rw [show 97 + (c - 97) = c by omega] at e
  rw [decide_eq_true e,decide_eq_true h.1,decide_eq_true h.2]
  rfl
 ·have e:¬ c ∈ ([97,98,99,100,101,102,103,104,105,106,107,108,109,110,111,112,113,114,115,116,117,118,119,120,121,122]:List Nat):=fun m=>h (h1 c m)
  rw [decide_eq_false e]
  by_cases h':97 ≤ c
  ·rw [decide_eq_true h',decide_eq_false (fun z=>h ⟨h',z⟩)]
   rfl
  ·rw [decide_eq_false h']
   rfl
def aZ (d:Dv):Str:=(cD d).getD ""
def nE (d:Dv):Key:=.inr (aZ d)
theorem aME {d:Dv} {z:Str} (h:cD d = some z):aZ d = z:=by unfold aZ;rw [h];rfl
def nC (d1 d2:Addr):List (Str × V):=iV "dyke_rows" (.ref d2) (iV "field_rows" (.ref d1) [])
theorem aTS:¬ (("field_rows":Str) = "dyke_rows"):=by decide +kernel
theorem aGM (d1 d2:Addr):(nC d1 d2).lookup ("field_rows":Str) = some (.ref d1):=by
 unfold nC
 rw [eZ,if_neg aTS,eZ,if_pos rfl]
theorem aAG (d1 d2:Addr):(nC d1 d2).lookup ("dyke_rows":Str) = some (.ref d2):=by
 unfold nC
 rw [eZ,if_pos rfl]
theorem kZ (d1 d2:Addr) {m:Str} (h1:¬ m = "dyke_rows") (h2:¬ m = "field_rows"):(nC d1 d2).lookup m = none:=by
 unfold nC
 rw [eZ,if_neg h1,eZ,if_neg h2]
 all_goals rfl
def qL (H:Hp) (a:Addr) (ds:List Dv):Prop:=∃ kvs,H a = some (.dK kvs) ∧ kvs.map (·.1) = ds.map nE ∧ IsL H ds (kvs.map (·.2))
theorem qL.same {H H':Hp} (S:aJ H H') {a:Addr} {ds:List Dv} (h:qL H a ds):qL H' a ds:=by
 obtain ⟨kvs,e,k,i⟩:=h
 exact ⟨kvs,S _ _ e,k,IsL.same S _ _ i⟩
structure LandAt (C:Addr) (H:Hp) (x:Addr) (fs ds:List Dv):Prop where
 ex:∃ dx d1 d2,H x = some (.ins C dx (nC d1 d2)) ∧ qL H d1 fs ∧ qL H d2 ds
 okf:lJ (.lst fs) = true
 okd:nU ("sea" :: fs.map aZ) (.lst ds) = true
theorem LandAt.same {C:Addr} {H H':Hp} (S:aJ H H') {x:Addr} {fs ds:List Dv} (h:LandAt C H x fs ds):LandAt C H' x fs ds:=by
 obtain ⟨⟨dx,d1,d2,e,t1,t2⟩,a,b⟩:=h
 exact ⟨⟨dx,d1,d2,S _ _ e,t1.same S,t2.same S⟩,a,b⟩
theorem yZ:∀ {kvs:List (Key × V)} {H:Hp} {ds:List Dv} {d:Dv},kvs.map (·.1) = ds.map nE → IsL H ds (kvs.map (·.2)) → (ds.map aZ).Nodup → d ∈ ds → ∃ v,cX kvs (.inr (aZ d)) = some v ∧ Is H d v
 | [],_,[],_,_,_,_,m=>by cases m
 | [],_,_ :: _,_,e,_,_,_=>by simp at e
 | _ :: _,_,[],_,_,_,_,m=>by cases m
 | (k,v) :: kvs,H,d0 :: ds,d,e,i,n,m=>by
  obtain ⟨v',r,e1,h0,t⟩:=i
  rw [AY] at e1
  cases e1
  rw [AY,AY,List.cons.injEq] at e
  have ek:k = nE d0:=e.1
  rw [AY,Ak] at n
  by_cases q:aZ d = aZ d0
  ·have:d = d0:=by
    rcases Ah.mp m with rfl | m
    ·rfl
    ·exact absurd (AS.mpr ⟨d,m,q⟩) n.1
   subst this
   refine ⟨v,?_,h0⟩
   unfold cX
   rw [Bl,ek]
   simp [nE]
  ·have m':d ∈ ds:=by
    rcases Ah.mp m with rfl | m
    ·exact absurd rfl q
    ·exact m
   obtain ⟨u,e2,h2⟩:=yZ (kvs:=kvs) e.2 t n.2 m'
   refine ⟨u,?_,h2⟩
   unfold cX at e2 ⊢
   have hk:¬ k = Sum.inr (aZ d):=by
    rw [ek]
    intro z
    exact q (CS z).symm
   rw [Bl,decide_eq_false (show ¬ (k,v).1 = Sum.inr (aZ d) from hk)]
   exact e2
theorem hU:∀ {ds:List Dv} {p:Dv → Bool},(∀ d,p d = true → ∃ z,cD d = some z) → ds.all p = true → ds.map cD = (ds.map aZ).map some
 | [],_,_,_=>rfl
 | d :: ds,p,hp,h=>by
  rw [Dg,Ac] at h
  obtain ⟨z,e⟩:=hp d h.1
  rw [AY,AY,AY,hU hp h.2,aME e,e]
theorem eE (zs:List Str):(zs.map some).Nodup ↔ zs.Nodup:=by
 induction zs with
 | nil=>simp
 | cons z zs ih =>
  rw [AY,Ak,Ak,ih]
  simp
theorem bZ {d:Dv} (h:cB d = true):∃ z g e,d = .tup [.str z,.int g,.int e] ∧ eY z = true ∧ hgt g = true ∧ amt e = true:=by
 unfold cB at h
 split at h
 ·rename_i a b c
  rw [Ac,Ac] at h
  obtain ⟨h1,h2,h3⟩:=h
  cases a with
  | str z =>
   cases b with
   | int g =>
    cases c with
    | int e=>exact ⟨z,g,e,rfl,h1,h2,h3⟩
    | _=>cases h3
   | _=>cases h2
  | _=>cases h1
 ·cases h
theorem sN (d:Dv) (h:cB d = true):∃ z,cD d = some z:=by
 obtain ⟨z,_,_,rfl,_⟩:=bZ h
 exact ⟨z,rfl⟩
theorem bU {zs:List Str} {d:Dv} (h:dC zs d = true):∃ n a b c r s,d = .tup [.str n,.str a,.str b,.int c,.int r,s] ∧ eY n = true ∧ a ∈ zs ∧ b ∈ zs ∧ a ≠ b ∧ hgt c = true ∧ amt r = true ∧ nF (.int c) s = true:=by
 unfold dC at h
 split at h
 ·rename_i n a b c r s
  rw [Ac,Ac,Ac,Ac] at h
  obtain ⟨⟨h1,h2⟩,h3,h4,h5⟩:=h
  unfold nR at h2
  rw [Ac,Ac] at h2
  obtain ⟨h6,h7,h8⟩:=h2
  cases n with
  | str n =>
   cases a with
   | str a =>
    cases b with
    | str b =>
     cases c with
     | int c =>
      cases r with
      | int r =>
       refine ⟨n,a,b,c,r,s,rfl,h1,of_decide_eq_true h6,of_decide_eq_true h7,?_,h3,h4,h5⟩
       intro z
       subst z
       have:(!(a == a)) = true:=h8
       rw [beq_self_eq_true] at this
       cases this
      | _=>cases h4
     | _=>cases h3
    | _=>cases h7
   | _=>cases h6
  | _=>cases h1
 ·cases h
theorem vT {zs:List Str} (d:Dv) (h:dC zs d = true):∃ z,cD d = some z:=by
 obtain ⟨z,_,_,_,_,_,rfl,_⟩:=bU h
 exact ⟨z,rfl⟩
structure GoodF (fs:List Dv):Prop where
 l1:1 ≤ fs.length
 l2:fs.length ≤ 12
 all:∀ d ∈ fs,cB d = true
 nd:(fs.map aZ).Nodup
structure GoodD (zs:List Str) (ds:List Dv):Prop where
 l1:1 ≤ ds.length
 l2:ds.length ≤ 40
 all:∀ d ∈ ds,dC zs d = true
 nd:(ds.map aZ).Nodup
theorem rH (fs:List Dv):lJ (.lst fs) = true ↔ GoodF fs:=by
 show ((decide (1 ≤ fs.length) && decide (fs.length ≤ 12)) && (fs.all cB && decide ((fs.map cD).Nodup))) = true ↔ _
 rw [Ac,Ac,Ac,decide_eq_true_iff,decide_eq_true_iff,decide_eq_true_iff]
 constructor
 ·rintro ⟨⟨a,b⟩,c,d⟩
  rw [hU sN c,eE] at d
  exact ⟨a,b,BB.mp c,d⟩
 ·rintro ⟨a,b,c,d⟩
  have c':=BB.mpr c
  refine ⟨⟨a,b⟩,c',?_⟩
  rw [hU sN c',eE]
  exact d
theorem rJ (zs:List Str) (ds:List Dv):nU zs (.lst ds) = true ↔ GoodD zs ds:=by
 show ((decide (1 ≤ ds.length) && decide (ds.length ≤ 40)) && (ds.all (dC zs) && decide ((ds.map cD).Nodup))) = true ↔ _
 rw [Ac,Ac,Ac,decide_eq_true_iff,decide_eq_true_iff,decide_eq_true_iff]
 constructor
 ·rintro ⟨⟨a,b⟩,c,d⟩
  rw [hU vT c,eE] at d
  exact ⟨a,b,BB.mp c,d⟩
 ·rintro ⟨a,b,c,d⟩
  have c':=BB.mpr c
  refine ⟨⟨a,b⟩,c',?_⟩
  rw [hU vT c',eE]
  exact d
def aTK:Dv → Bool
 | .non=>true
 | _=>false
def hasSill:Dv → Bool
 | .tup [_,_,_,_,_,s]=>!aTK s
 | _=>false
theorem xM:∀ {ds:List Dv},(∀ d ∈ ds,eP d = true) → gY ds = true
 | [],_=>rfl
 | d :: ds,h=>by
  rw [gY,h d AU,xM fun e m=>h e (AQ _ m)]
  rfl
end Ld
namespace Mt02
open PySem L2 Ld
def aUZ (i:Nat):Nat:=if i < 18 then 97 + i else 98 + i
def rst (c:Int):Nat → Int
 | 0=>c / 3
 | j + 1=>rst c j / 25
def num (o:Nat → Int) (c p b:Int) (k j:Nat):Int:=if (j:Int) = b then c / 17 + ((k:Int) / 25) else if (j:Int) = p then c / 11 + (k:Int) else o j
def code (o:Nat → Int) (c p b:Int) (k j:Nat):Nat:=aUZ (num o c p b k j % 25).toNat
def nm (o:Nat → Int) (c p b:Int) (n k:Nat):Str:=⟨((An n).map (code o c p b k)).toArray⟩
structure Names (zs:List Str) (n:Nat):Prop where
 len:zs.length = n
 nd:zs.Nodup
 good:∀ z ∈ zs,eY z = true
end Mt02
namespace Mt04
open PySem L2 Ld
def aFD:Dv → Int
 | .tup [_,_,_,.int c,_,_]=>c
 | _=>0
def hOf:Dv → Int
 | .tup [_,.int h]=>h
 | _=>0
def gU (ds:List Dv) (z:Str):Int:=(ds.find? fun d=>decide (aZ d = z)).elim 0 aFD
def dW (ds:List Dv):Dv → Bool
 | .tup [.str z,.int h]=>decide (z ∈ ds.map aZ) && (hgt h && decide (gU ds z ≤ h))
 | _=>false
def aDI (ds:List Dv):Dv → Bool
 | .lst ws=>ws.all (dW ds) && decide ((ws.map cD).Nodup)
 | _=>false
theorem aOX {ds:List Dv} (nd:(ds.map aZ).Nodup) {d:Dv} (m:d ∈ ds):(ds.find? fun e=>decide (aZ e = aZ d)) = some d:=by
 induction ds with
 | nil=>cases m
 | cons e ds ih =>
  rw [AY,Ak] at nd
  rw [Bl]
  by_cases q:aZ e = aZ d
  ·rw [decide_eq_true q]
   rcases Ah.mp m with rfl | m
   ·rfl
   ·exact absurd (AS.mpr ⟨d,m,q.symm⟩) nd.1
  ·rw [decide_eq_false q]
   rcases Ah.mp m with rfl | m
   ·exact absurd rfl q
   ·exact ih nd.2 m
theorem vY {ds:List Dv} (nd:(ds.map aZ).Nodup) {d:Dv} (m:d ∈ ds):gU ds (aZ d) = aFD d:=by
 unfold gU
 rw [aOX nd m]
 rfl
theorem oS {ds:List Dv} {d:Dv} (h:dW ds d = true):∃ z v,d = .tup [.str z,.int v] ∧ z ∈ ds.map aZ ∧ hgt v = true ∧ gU ds z ≤ v:=by
 unfold dW at h
 split at h
 ·rename_i z v
  rw [Ac,Ac] at h
  exact ⟨z,v,rfl,of_decide_eq_true h.1,h.2.1,of_decide_eq_true h.2.2⟩
 ·cases h
theorem oT {ds:List Dv} (d:Dv) (h:dW ds d = true):∃ z,cD d = some z:=by
 obtain ⟨z,_,rfl,_⟩:=oS h
 exact ⟨z,rfl⟩
structure GoodW (ds ws:List Dv):Prop where
 all:∀ d ∈ ws,dW ds d = true
 nd:(ws.map aZ).Nodup
theorem aIH (ds ws:List Dv):aDI ds (.lst ws) = true ↔ GoodW ds ws:=by
 show (ws.all (dW ds) && decide ((ws.map cD).Nodup)) = true ↔ _
 rw [Ac,decide_eq_true_iff]
 constructor
 ·rintro ⟨c,d⟩
  rw [hU oT c,eE] at d
  exact ⟨BB.mp c,d⟩
 ·rintro ⟨c,d⟩
  have c':=BB.mpr c
  refine ⟨c',?_⟩
  rw [hU oT c',eE]
  exact d
def wAt (ws:List Dv) (z:Str):Option Int:=(ws.find? fun d=>decide (aZ d = z)).map hOf
def aUO (ws:List Dv):Dv → Dv
 | .tup [.str n,a,b,.int c,r,s]=>.tup [.str n,a,b,.int ((wAt ws n).getD c),r,s]
 | d=>d
def raisedD (ds ws:List Dv):List Dv:=ds.map (aUO ws)
def kvOf (d:Dv):Key × V:=(nE d,.int (hOf d))
end Mt04
namespace Mt22
open PySem L2 Ld
structure St where
 nm:Str
 near:Str
 far:Str
 h:Int
abbrev Lo:=Str → Option Int
def sea:Str:="sea"
def lo0:Lo:=fun z=>if z = sea then some (-1000000) else none
def aSR (lo:Lo) (s:St):Lo:=match lo s.near with
 | none=>lo
 | some a=>fun z=>if z = s.far then some (match lo s.far with | none=>max a s.h | some b=>min (max a s.h) b) else lo z
def aSQ (S:List St) (lo:Lo):Lo:=S.foldl aSR lo
def aKI (S:List St):Nat → Lo
 | 0=>lo0
 | n + 1=>aSQ S (aKI S n)
inductive Walk (S:List St):Nat → Str → Int → Prop
 | sea:Walk S 0 Mt22.sea (-1000000)
 | step {k:Nat} {a:Int} {s:St} (w:Walk S k s.near a) (m:s ∈ S):Walk S (k + 1) s.far (max a s.h)
def Le (lo lo':Lo):Prop:=∀ z c,lo' z = some c → ∃ d,lo z = some d ∧ d ≤ c
def Att (S:List St) (lo:Lo):Prop:=∀ z c,lo z = some c → ∃ k,Walk S k z c
inductive Path (S:List St):List Str → Str → Int → Prop
 | sea:Path S [] Mt22.sea (-1000000)
 | step {p:List Str} {a:Int} {s:St} (w:Path S p s.near a) (m:s ∈ S) (n:s.far ∉ p):Path S (s.far :: p) s.far (max a s.h)
theorem aAE {α:Type} [DecidableEq α]:∀ {P N:List α},P.Nodup → (∀ x ∈ P,x ∈ N) → P.length ≤ N.length
 | [],N,_,_=>BK _
 | x :: P,N,nd,sub=>by
  have hx:=sub x AU
  rw [Ak] at nd
  have:=aAE (P:=P) (N:=N.erase x) nd.2 fun y m=>(List.mem_erase_of_ne (a:=y) (b:=x) (fun e=>nd.1 (by rw [← e];exact m))).mpr (sub y (AQ _ m))
  rw [List.length_erase_of_mem hx] at this
  have hp:=List.length_pos_of_mem hx
  rw [Aj]
  omega
structure Flood (S:List St) (lo:Lo):Prop where
 att:Att S lo
 low:∀ k v b,Walk S k v b → ∃ c,lo v = some c ∧ c ≤ b
inductive Come (S:List St) (L:Int):Str → Prop
 | sea:Come S L Mt22.sea
 | step {s:St} (w:Come S L s.near) (m:s ∈ S) (h:s.h < L):Come S L s.far
end Mt22
namespace MtF
open PySem L2 Ld Mt04 Mt22
def aQQ:Dv → Dv
 | .tup [_,_,_,_,_,s]=>s
 | _=>.non
def aTM:Dv → Int
 | .int i=>i
 | _=>0
def aTB:Dv → Str
 | .tup [_,.str a,_,_,_,_]=>a
 | _=>""
def aLD:Dv → Str
 | .tup [_,_,.str b,_,_,_]=>b
 | _=>""
def aQO (op:List Str) (d:Dv):Int:=if aZ d ∈ op then aTM (aQQ d) else aFD d
def aAI:Dv → Int
 | .tup [_,.int g,_]=>g
 | _=>0
def qE (fs:List Dv) (z:Str):Int:=(fs.find? fun d=>decide (aZ d = z)).elim 0 aAI
theorem aOW {ds:List Dv} (nd:(ds.map aZ).Nodup) {d:Dv} (m:d ∈ ds):(ds.find? fun e=>decide (aZ e = aZ d)) = some d:=by
 induction ds with
 | nil=>cases m
 | cons e ds ih =>
  rw [AY,Ak] at nd
  rw [Bl]
  rcases Ah.mp m with rfl | m
  ·rw [decide_eq_true rfl]
  ·have hne:aZ e ≠ aZ d:=fun c=>nd.1 (c ▸ AS.mpr ⟨d,m,rfl⟩)
   rw [decide_eq_false hne]
   exact ih nd.2 m
theorem aIG {fs:List Dv} (nd:(fs.map aZ).Nodup) {d:Dv} (m:d ∈ fs):qE fs (aZ d) = aAI d:=by
 show (fs.find? fun e=>decide (aZ e = aZ d)).elim 0 aAI = _
 rw [aOW nd m]
 rfl
def aJM (fs:List Dv) (op:List Str) (d:Dv) (near far:Str):List Mt22.St:=if far = "sea" then [] else [⟨aZ d,near,far,max (aQO op d) (qE fs far)⟩]
def stepsOf (fs:List Dv) (op:List Str) (d:Dv):List Mt22.St:=aJM fs op d (aTB d) (aLD d) ++ aJM fs op d (aLD d) (aTB d)
def aQN (fs ds:List Dv) (op:List Str):List Mt22.St:=ds.flatMap (stepsOf fs op)
def bQ (s:Mt22.St):Dv:=.tup [.str s.nm,.str s.near,.str s.far,.int s.h]
def flo (fs ds:List Dv) (op:List Str):Mt22.Lo:=aKI (aQN fs ds op) fs.length
def optV:Option Int → V
 | some i=>.int i
 | none=>.non
end MtF
namespace Mt21
open PySem L2 Ld Mt02
def ab (i:Int):Nat:=97 + (i % 26).toNat
theorem yY (i:Int):jP (ab i) = true:=by
 have h0:=Ay i (show (26:Int) ≠ 0 by decide)
 have h1:=Av i (show (0:Int) < 26 by decide)
 unfold ab jP
 rw [decide_eq_true (by omega),decide_eq_true (by omega)]
 rfl
theorem aPG:("abcdefghijklmnopqrstuvwxyz":Str).cps.toList = (An 26).map fun i=>97 + i:=by decide +kernel
theorem aQD (i:Int):atI ("abcdefghijklmnopqrstuvwxyz":Str).cps.toList (i % 26) = some (ab i):=by
 have h0:=Ay i (show (26:Int) ≠ 0 by decide)
 have h1:=Av i (show (0:Int) < 26 by decide)
 obtain ⟨k,hk⟩:=BF h0
 unfold ab
 rw [hk,aPG]
 refine aN ?_
 rw [AI,List.getElem?_range (by omega)]
 rfl
def uT (i:Int):Str:=⟨#[ab i]⟩
theorem vK:∀ (ys:List Str) (acc:Array Nat),(ys.foldl (fun acc p=>acc ++ ("":Str).cps ++ p.cps) acc).toList = acc.toList ++ (ys.map fun y=>y.cps.toList).flatten
 | [],acc=>by simp
 | y :: ys,acc=>by
  rw [List.foldl_cons,vK ys]
  have:("":Str).cps = #[]:=by decide +kernel
  rw [this]
  simp
theorem aEO (ys:List Str):(Txt.join "" ys).cps.toList = (ys.map fun y=>y.cps.toList).flatten:=by
 cases ys with
 | nil =>
  show (Str.empty.cps).toList = []
  decide +kernel
 | cons y ys =>
  show (List.foldl (fun acc p=>acc ++ ("":Str).cps ++ p.cps) y.cps ys).toList = _
  rw [vK]
  simp
theorem tW (z:Str) (k:Nat) (h:k ≤ z.length):(Cg z none (some (k:Int))).cps.toList = z.cps.toList.take k:=by
 rw [Tx.slice_codes,Tx.cl_nat]
 show (z.cps.toList.drop 0).take (min k z.length - 0) = _
 rw [EC,Nat.sub_zero,Et h]
theorem vU (z:Str) (k:Nat) (h:k ≤ z.length):(Cg z (some (k:Int)) none).cps.toList = z.cps.toList.drop k:=by
 rw [Tx.slice_codes,Tx.cl_nat,Et h]
 show (z.cps.toList.drop k).take (z.length - k) = _
 rw [AF]
 rw [CT]
 show z.cps.toList.length - k ≤ z.length - k
 simp [Str.length]
theorem iZ (z:Str):z.length = z.cps.toList.length:=by simp [Str.length]
theorem nodup_range {f:Nat → Str} {n:Nat} (h:∀ k l,k < n → l < n → f k = f l → k = l):((An n).map f).Nodup:=by
 rw [CD,List.pairwise_map]
 refine List.Pairwise.imp_of_mem ?_ (List.pairwise_lt_range (n:=n))
 intro k l hk hl hkl he
 have:=h k l (BH.mp hk) (BH.mp hl) he
 omega
structure Put (z b:Str) (at':Nat) (x y:Int):Prop where
 codes:z.cps.toList = b.cps.toList.take at' ++ [ab x,ab y] ++ b.cps.toList.drop at'
end Mt21
namespace Mt31
open PySem L2 Ld Mt22
abbrev Cm:=List (Str × Option Mt22.St)
def keys (cm:Cm):List Str:=cm.map (·.1)
structure Came (S:List Mt22.St) (cm:Cm):Prop where
 nd:(keys cm).Nodup
 first:cm[0]? = some (Mt22.sea,none)
 prev:∀ (i:Nat) (z:Str) (o:Option Mt22.St),0 < i → cm[i]? = some (z,o) → ∃ s,o = some s ∧ s ∈ S ∧ s.far = z ∧ s.near ∈ keys (cm.take i)
def tG (S:List Mt22.St) (cm:Cm) (p:Nat):Prop:=∀ (i:Nat) (u:Str),i < p → (keys cm)[i]? = some u → ∀ s ∈ S,s.near = u → s.far ∈ keys cm
theorem lA (a b:Cm):keys (a ++ b) = keys a ++ keys b:=AT
theorem tG.snoc {S:List Mt22.St} {cm:Cm} {p:Nat} (h:tG S cm p) (hp:p ≤ cm.length) (x:Str × Option Mt22.St):tG S (cm ++ [x]) p:=fun i u hi e s ms en=>by
 rw [lA,BX (by unfold keys;rw [AA];omega)] at e
 rw [lA]
 exact Bv _ (h i u hi e s ms en)
inductive Chain (S:List Mt22.St):List Mt22.St → Str → Prop
 | nil:Chain S [] Mt22.sea
 | snoc {ss:List Mt22.St} {s:Mt22.St} (c:Chain S ss s.near) (m:s ∈ S) (n:s.far ∉ ss.map (·.far)):Chain S (ss ++ [s]) s.far
def hm (ss:List Mt22.St):Int:=ss.foldl (fun a s=>max a s.h) (-1000000)
theorem yN {S:List Mt22.St} {ss:List Mt22.St} {v:Str} (c:Chain S ss v):(∀ s ∈ ss,s ∈ S) ∧ (ss.map (·.far)).Nodup:=by
 induction c with
 | nil=>exact ⟨(fun s m=>by cases m),by simp⟩
 | @snoc ss s c m n ih =>
  refine ⟨fun t mt=>?_,?_⟩
  ·rcases Ar.mp mt with mt | mt
   ·exact ih.1 t mt
   ·rw [AV.mp mt];exact m
  ·rw [AT,Db]
   refine ⟨ih.2,by simp,fun a ha b hb=>?_⟩
   have hb':b = s.far:=AV.mp hb
   intro e
   have e':a = s.far:=e.trans hb'
   exact n (e' ▸ ha)
def aRY (S:List Mt22.St) (cm:Cm) (j:Nat) (z:Str) (tl:List Mt22.St) (side:Str):Prop:=∀ ss,Chain S ss z → (∀ y ∈ ss.map (·.far),y ∈ keys (cm.take (j + 1))) → Chain S (ss ++ tl) side
theorem aHD {S:List Mt22.St} {cm:Cm} (h:Came S cm) {i j:Nat} {z:Str} {s:Mt22.St} {tl:List Mt22.St} {side:Str} (hj:cm[j]? = some (z,some s)) (ms:s ∈ S) (hf:s.far = z) (hi:i < j) (hu:(keys cm)[i]? = some s.near) (t:aRY S cm j z tl side):aRY S cm i s.near (s :: tl) side:=fun ss c sub=>by
 have e:ss ++ s :: tl = (ss ++ [s]) ++ tl:=by rw [Bc];rfl
 have kj:(keys cm)[j]? = some z:=by unfold keys;rw [AI,hj];rfl
 have ktake:∀ n,keys (cm.take n) = (keys cm).take n:=fun n=>by unfold keys;rw [ET]
 have fresh:s.far ∉ ss.map (·.far):=fun m=>by
  have h1:=sub _ m
  rw [ktake,hf] at h1
  obtain ⟨k,hk⟩:=BA.mp h1
  have hkl:=(AB.mp hk).1
  rw [AW] at hkl
  rw [Bj (by omega)] at hk
  obtain ⟨h2,e2⟩:=AB.mp hk
  obtain ⟨h3,e3⟩:=AB.mp kj
  have:=(Dn h.nd).mp (e2.trans e3.symm)
  omega
 rw [e]
 refine t (ss ++ [s]) (hf ▸ Chain.snoc c ms fresh) fun y my=>?_
 rw [ktake]
 rw [AT] at my
 rcases Ar.mp my with my | my
 ·have:=sub y my
  rw [ktake] at this
  obtain ⟨k,hk⟩:=BA.mp this
  have hkl:=(AB.mp hk).1
  rw [AW] at hkl
  rw [Bj (by omega)] at hk
  exact AM (i:=k) (by rw [Bj (by omega)];exact hk)
 ·have:y = s.far:=AV.mp my
  rw [this,hf]
  exact AM (i:=j) (by rw [Bj (by omega)];exact kj)
end Mt31
namespace Mt61
open PySem L2 Mt22 Mt31
structure Gap where
 nm:Str
 a:Str
 b:Str
 cap:Int
abbrev Fl:=Str → Int
def sm {α:Type} (xs:List α) (f:α → Int):Int:=(xs.map f).sum
section
variable {α β:Type}
theorem lL (f:α → Int):sm [] f = 0:=rfl
theorem bD (x:α) (xs:List α) (f:α → Int):sm (x :: xs) f = f x + sm xs f:=by
 unfold sm;rw [AY,List.sum_cons]
theorem qP (f:α → Int):∀ xs ys:List α,sm (xs ++ ys) f = sm xs f + sm ys f
 | [],ys=>by rw [Dx,lL];omega
 | x :: xs,ys=>by rw [List.cons_append,bD,bD,qP f xs ys];omega
theorem eI {f g:α → Int}:∀ {xs:List α},(∀ x ∈ xs,f x = g x) → sm xs f = sm xs g
 | [],_=>rfl
 | x :: xs,h=>by rw [bD,bD,h x AU,eI fun y m=>h y (AQ _ m)]
theorem aGB {f g:α → Int}:∀ {xs:List α},(∀ x ∈ xs,f x ≤ g x) → sm xs f ≤ sm xs g
 | [],_=>Ep _
 | x :: xs,h=>by
  rw [bD,bD]
  have:=h x AU
  have:=aGB (xs:=xs) fun y m=>h y (AQ _ m)
  omega
theorem jY {f:α → Int} {xs:List α} (h:∀ x ∈ xs,f x = 0):sm xs f = 0:=by
 rw [eI h]
 induction xs with
 | nil=>rfl
 | cons x xs ih=>rw [bD,ih fun y m=>h y (AQ _ m)];rfl
theorem qQ (f g:α → Int):∀ xs:List α,sm xs (fun x=>f x + g x) = sm xs f + sm xs g
 | []=>rfl
 | x :: xs=>by rw [bD,bD,bD,qQ f g xs];omega
theorem aDU (f g:α → Int):∀ xs:List α,sm xs (fun x=>f x - g x) = sm xs f - sm xs g
 | []=>rfl
 | x :: xs=>by rw [bD,bD,bD,aDU f g xs];omega
theorem aGC (f:α → β → Int) (ys:List β):∀ xs:List α,sm xs (fun x=>sm ys (f x)) = sm ys (fun y=>sm xs fun x=>f x y)
 | []=>(jY (fun _ _=>rfl)).symm
 | x :: xs=>by
  rw [bD,aGC f ys xs,← qQ]
  exact eI fun y _=>by rw [bD]
theorem aBM (X:α → Bool) (f:α → Int):∀ xs:List α,sm xs f = sm (xs.filter X) f + sm (xs.filter fun x=>!X x) f
 | []=>rfl
 | x :: xs=>by
  rw [bD,aBM X f xs]
  cases h:X x with
  | true=>rw [Ct h,Cu (by simp [h]),bD];omega
  | false=>rw [Cu (by simp [h]),Ct (by simp [h]),bD];omega
theorem nY (X:α → Bool) (f:α → Int):∀ xs:List α,sm (xs.filter X) f = sm xs fun x=>if X x = true then f x else 0
 | []=>rfl
 | x :: xs=>by
  cases h:X x with
  | true=>rw [Ct h,bD,bD,if_pos h,nY X f xs]
  | false=>rw [Cu (by simp [h]),bD,if_neg (by simp [h]),nY X f xs];omega
end
theorem zF {V:List Str} (X:Str → Bool) {w:Str} (c:Int) (nd:V.Nodup) (m:w ∈ V):sm (V.filter X) (fun v=>if w = v then c else 0) = if X w = true then c else 0:=by
 rw [nY]
 induction V with
 | nil=>cases m
 | cons v V ih =>
  rw [Ak] at nd
  rw [bD]
  by_cases e:w = v
  ·subst e
   rw [jY (xs:=V) fun x mx=>?_]
   ·simp
   ·have:w ≠ x:=fun e=>nd.1 (e ▸ mx)
    simp [this]
  ·have mV:w ∈ V:=by
    rcases Ah.mp m with h | h
    ·exact absurd h e
    ·exact h
   rw [ih nd.2 mV]
   simp [e]
theorem aGA {G:List Gap} (nd:(G.map (·.nm)).Nodup) {g0:Gap} (m:g0 ∈ G) (c:Gap → Int):sm G (fun g=>if g.nm = g0.nm then c g else 0) = c g0:=by
 induction G with
 | nil=>cases m
 | cons g G ih =>
  rw [AY,Ak] at nd
  rw [bD]
  rcases Ah.mp m with rfl | m
  ·rw [jY (xs:=G) fun x mx=>?_]
   ·simp
   ·have:x.nm ≠ g0.nm:=fun e=>nd.1 (e ▸ AS.mpr ⟨x,mx,rfl⟩)
    simp [this]
  ·have:g.nm ≠ g0.nm:=fun e=>nd.1 (e ▸ AS.mpr ⟨g0,m,rfl⟩)
   rw [ih nd.2 m]
   simp [this]
def aCJ (f:Fl) (v:Str) (g:Gap):Int:=(if g.b = v then f g.nm else 0) - (if g.a = v then f g.nm else 0)
def net (G:List Gap) (f:Fl) (v:Str):Int:=sm G (aCJ f v)
def aID (X:Str → Bool) (f:Fl) (g:Gap):Int:=(if X g.b = true then f g.nm else 0) - (if X g.a = true then f g.nm else 0)
def val (G:List Gap) (f:Fl):Int:=- net G f sea
def vZ (X:Str → Bool) (g:Gap):Int:=if X g.a = X g.b then 0 else g.cap
def cut (G:List Gap) (X:Str → Bool):Int:=sm G (vZ X)
structure Gaps (V:List Str) (G:List Gap):Prop where
 nd:(G.map (·.nm)).Nodup
 ends:∀ g ∈ G,g.a ∈ V ∧ g.b ∈ V ∧ g.a ≠ g.b
 cap:∀ g ∈ G,0 ≤ g.cap
 vnd:V.Nodup
 sea:Mt22.sea ∈ V
def aFI (G:List Gap) (f:Fl):Prop:=∀ g ∈ G,-g.cap ≤ f g.nm ∧ f g.nm ≤ g.cap
theorem aGJ {V:List Str} {G:List Gap} (h:Gaps V G) (X:Str → Bool) (f:Fl):sm (V.filter X) (net G f) = sm G (aID X f):=by
 unfold net
 rw [aGC]
 refine eI fun g mg=>?_
 obtain ⟨ma,mb,_⟩:=h.ends g mg
 show sm (V.filter X) (fun v=>(if g.b = v then f g.nm else 0) - (if g.a = v then f g.nm else 0)) = _
 rw [aDU,zF X (f g.nm) h.vnd mb,zF X (f g.nm) h.vnd ma]
 rfl
theorem aOL {V:List Str} {G:List Gap} (h:Gaps V G) (f:Fl):sm V (net G f) = 0:=by
 have:=aGJ h (fun _=>true) f
 rw [EL.mpr (fun _ _=>rfl)] at this
 rw [this]
 refine jY fun g _=>?_
 unfold aID
 simp
theorem aAY {V:List Str} {G:List Gap} (h:Gaps V G) {f:Fl} {X:Str → Bool} (hs:X Mt22.sea = false) (hz:∀ v ∈ V,v ≠ Mt22.sea → X v = false → net G f v = 0):sm G (aID X f) = val G f:=by
 rw [← aGJ h X f]
 have a:=aOL h f
 rw [aBM X (net G f) V] at a
 have b:sm (V.filter fun x=>!X x) (net G f) = net G f Mt22.sea:=by
  have e:sm (V.filter fun x=>!X x) (net G f) = sm (V.filter fun x=>!X x) (fun v=>if Mt22.sea = v then net G f Mt22.sea else 0):=eI fun v mv=>by
   rw [Aw] at mv
   by_cases hv:Mt22.sea = v
   ·rw [if_pos hv,hv]
   ·rw [if_neg hv]
    exact hz v mv.1 (fun e=>hv e.symm) (by simpa using mv.2)
  rw [e,zF (fun x=>!X x) _ h.vnd h.sea,hs]
  rfl
 unfold val
 omega
theorem aOS {G:List Gap} {f:Fl} (hf:aFI G f) (X:Str → Bool):∀ g ∈ G,aID X f g ≤ vZ X g:=fun g m=>by
 obtain ⟨h1,h2⟩:=hf g m
 unfold aID vZ
 cases ha:X g.a <;> cases hb:X g.b <;> simp <;> omega
theorem aQE {V:List Str} {G:List Gap} (h:Gaps V G) {f:Fl} (hf:aFI G f) {X:Str → Bool} (hs:X Mt22.sea = false) (hz:∀ v ∈ V,v ≠ Mt22.sea → X v = false → net G f v = 0):val G f ≤ cut G X:=by
 rw [← aAY h hs hz]
 exact aGB (aOS hf X)
theorem aQF {V:List Str} {G:List Gap} (h:Gaps V G) {f:Fl} {X:Str → Bool} (hs:X Mt22.sea = false) (hz:∀ v ∈ V,v ≠ Mt22.sea → X v = false → net G f v = 0)
  (h1:∀ g ∈ G,X g.a = false → X g.b = true → f g.nm = g.cap) (h2:∀ g ∈ G,X g.a = true → X g.b = false → f g.nm = -g.cap):val G f = cut G X:=by
 rw [← aAY h hs hz]
 refine eI fun g m=>?_
 have e1:=h1 g m
 have e2:=h2 g m
 unfold aID vZ
 cases ha:X g.a <;> cases hb:X g.b <;> simp [ha,hb] at e1 e2 ⊢ <;> omega
def up (g:Gap):Mt22.St:=⟨g.nm,g.a,g.b,1⟩
def dn (g:Gap):Mt22.St:=⟨g.nm,g.b,g.a,-1⟩
def stepsOf (G:List Gap):List Mt22.St:=G.flatMap fun g=>[up g,dn g]
theorem iY {G:List Gap} {s:Mt22.St}:s ∈ stepsOf G ↔ ∃ g ∈ G,s = up g ∨ s = dn g:=by
 unfold stepsOf
 rw [List.mem_flatMap]
 simp
def jW (m:Int) (f:Fl) (s:Mt22.St):Fl:=fun n=>if n = s.nm then f n + s.h * m else f n
theorem aOM {V:List Str} {G:List Gap} (h:Gaps V G) {s:Mt22.St} (ms:s ∈ stepsOf G) (m:Int) (f:Fl) (v:Str):net G (jW m f s) v = net G f v + ((if s.far = v then m else 0) - (if s.near = v then m else 0)):=by
 obtain ⟨g0,m0,e⟩:=iY.mp ms
 have key:net G (jW m f s) v = net G f v + sm G (fun g=>if g.nm = g0.nm then ((if s.far = v then m else 0) - (if s.near = v then m else 0)) else 0):=by
  unfold net
  rw [← qQ]
  refine eI fun g mg=>?_
  unfold aCJ jW
  have hn:s.nm = g0.nm:=by rcases e with rfl | rfl <;> rfl
  by_cases hg:g.nm = g0.nm
  ·have eg:g = g0:=by
    have nd:=h.nd
    obtain ⟨i,hi⟩:=BA.mp mg
    obtain ⟨j,hj⟩:=BA.mp m0
    obtain ⟨li,ei⟩:=AB.mp hi
    obtain ⟨lj,ej⟩:=AB.mp hj
    have:i = j:=(Dn (xs:=G.map (·.nm)) (h₀:=by rw [AA];exact li) (h₁:=by rw [AA];exact lj) nd).mp (by rw [CU,CU,ei,ej,hg])
    subst this
    rw [← ei,← ej]
   subst eg
   rw [if_pos hg,if_pos hn.symm]
   rcases e with rfl | rfl
   ·show (if g.b = v then f g.nm + 1 * m else 0) - (if g.a = v then f g.nm + 1 * m else 0) = (if g.b = v then f g.nm else 0) - (if g.a = v then f g.nm else 0) + ((if g.b = v then m else 0) - (if g.a = v then m else 0))
    split <;> split <;> omega
   ·show (if g.b = v then f g.nm + -1 * m else 0) - (if g.a = v then f g.nm + -1 * m else 0) = (if g.b = v then f g.nm else 0) - (if g.a = v then f g.nm else 0) + ((if g.a = v then m else 0) - (if g.b = v then m else 0))
    split <;> split <;> omega
  ·have hg':¬ g.nm = s.nm:=fun e=>hg (e.trans hn)
   simp only [if_neg hg,if_neg hg']
   omega
 rw [key,aGA h.nd m0]
theorem qZ {V:List Str} {G:List Gap} (h:Gaps V G) {S ss:List Mt22.St} {z:Str} (c:Chain S ss z) (hS:∀ s ∈ S,s ∈ stepsOf G) (m:Int) (f:Fl) (v:Str):net G (ss.foldl (jW m) f) v = net G f v + ((if z = v then m else 0) - (if Mt22.sea = v then m else 0)):=by
 induction c with
 | nil =>
  show net G f v = _
  omega
 | @snoc ss s c ms n ih =>
  rw [List.foldl_append]
  show net G (jW m (ss.foldl (jW m) f) s) v = _
  rw [aOM h (hS s ms),ih]
  omega
theorem aGS (m:Int) (n:Str):∀ (ss:List Mt22.St) (f:Fl),(ss.foldl (jW m) f) n = f n + m * sm ss (fun s=>if s.nm = n then s.h else 0)
 | [],f=>by rw [lL,Int.mul_zero,Ef];rfl
 | s :: ss,f=>by
  show (ss.foldl (jW m) (jW m f s)) n = _
  rw [aGS m n ss,bD,Int.mul_add]
  unfold jW
  by_cases e:s.nm = n
  ·rw [if_pos e,if_pos e.symm,Int.mul_comm m s.h]
   omega
  ·rw [if_neg e,if_neg (fun q=>e q.symm),Int.mul_zero]
   omega
theorem aOV {V:List Str} {G:List Gap} (h:Gaps V G) {g g':Gap} (m:g ∈ G) (m':g' ∈ G) (e:g.nm = g'.nm):g = g':=by
 obtain ⟨i,hi⟩:=BA.mp m
 obtain ⟨j,hj⟩:=BA.mp m'
 obtain ⟨li,ei⟩:=AB.mp hi
 obtain ⟨lj,ej⟩:=AB.mp hj
 have:i = j:=(Dn (xs:=G.map (·.nm)) (h₀:=by rw [AA];exact li) (h₁:=by rw [AA];exact lj) h.nd).mp (by rw [CU,CU,ei,ej,e])
 subst this
 rw [← ei,← ej]
instance stDec:DecidableEq Mt22.St:=fun a b=>decidable_of_iff (a.nm = b.nm ∧ a.near = b.near ∧ a.far = b.far ∧ a.h = b.h) (by
 cases a;cases b;simp)
theorem aBN {V:List Str} {G:List Gap} (h:Gaps V G) {g:Gap} (mg:g ∈ G):∀ {ss:List Mt22.St},(∀ s ∈ ss,s ∈ stepsOf G) → ss.Nodup → sm ss (fun s=>if s.nm = g.nm then s.h else 0) = (if up g ∈ ss then 1 else 0) - (if dn g ∈ ss then 1 else 0)
 | [],_,_=>by simp [lL]
 | s :: ss,hs,nd=>by
  rw [Ak] at nd
  rw [bD,aBN h mg (fun t m=>hs t (AQ _ m)) nd.2]
  have ne:up g ≠ dn g:=fun e=>by
   have:=congrArg Mt22.St.h e
   exact absurd this (by show (1:Int) ≠ -1;decide)
  by_cases e:s.nm = g.nm
  ·obtain ⟨g',m',e'⟩:=iY.mp (hs s AU)
   have eg:g' = g:=aOV h m' mg (by rcases e' with rfl | rfl <;> exact e)
   subst eg
   rcases e' with rfl | rfl
   ·rw [if_pos e,if_pos AU,if_neg nd.1]
    have:(dn g' ∈ up g' :: ss) ↔ dn g' ∈ ss:=by simp [Ne.symm ne]
    simp only [this]
    show (1:Int) + _ = _
    omega
   ·rw [if_pos e,if_pos (show dn g' ∈ dn g' :: ss from AU),if_neg nd.1]
    have:(up g' ∈ dn g' :: ss) ↔ up g' ∈ ss:=by simp [ne]
    simp only [this]
    show (-1:Int) + _ = _
    omega
  ·have n1:s ≠ up g:=fun q=>e (by rw [q];rfl)
   have n2:s ≠ dn g:=fun q=>e (by rw [q];rfl)
   have:(up g ∈ s :: ss) ↔ up g ∈ ss:=by simp [Ne.symm n1]
   have h2:(dn g ∈ s :: ss) ↔ dn g ∈ ss:=by simp [Ne.symm n2]
   simp only [this,h2,if_neg e]
   omega
def qI (G:List Gap) (n:Str):Int:=sm G fun g=>if g.nm = n then g.cap else 0
theorem nN {V:List Str} {G:List Gap} (h:Gaps V G) {g:Gap} (m:g ∈ G):qI G g.nm = g.cap:=aGA h.nd m (·.cap)
def room (G:List Gap) (f:Fl) (s:Mt22.St):Int:=qI G s.nm - s.h * f s.nm
theorem aGD {V:List Str} {G:List Gap} (h:Gaps V G) {g:Gap} (m:g ∈ G) (f:Fl):room G f (up g) = g.cap - f g.nm:=by
 show qI G g.nm - 1 * f g.nm = _
 rw [nN h m]
 omega
theorem aGE {V:List Str} {G:List Gap} (h:Gaps V G) {g:Gap} (m:g ∈ G) (f:Fl):room G f (dn g) = g.cap + f g.nm:=by
 show qI G g.nm - -1 * f g.nm = _
 rw [nN h m]
 omega
theorem aEV {V:List Str} {G:List Gap} (h:Gaps V G) {S ss:List Mt22.St} {z:Str} (c:Chain S ss z) (hS:∀ s ∈ S,s ∈ stepsOf G) {m:Int} (m0:0 ≤ m) {f:Fl} (hf:aFI G f) (hr:∀ s ∈ ss,m ≤ room G f s):aFI G (ss.foldl (jW m) f):=fun g mg=>by
 obtain ⟨f1,f2⟩:=hf g mg
 obtain ⟨sub,nd⟩:=yN c
 have nd':ss.Nodup:=by
  rw [CD]
  exact ((List.pairwise_map.mp (CD.mp nd))).imp fun hne e=>hne (by rw [e])
 rw [aGS,aBN h mg (fun s ms=>hS s (sub s ms)) nd']
 have r1:up g ∈ ss → m ≤ g.cap - f g.nm:=fun q=>by have:=hr _ q;rwa [aGD h mg] at this
 have r2:dn g ∈ ss → m ≤ g.cap + f g.nm:=fun q=>by have:=hr _ q;rwa [aGE h mg] at this
 by_cases u:up g ∈ ss <;> by_cases d:dn g ∈ ss
 ·rw [if_pos u,if_pos d];have:=r1 u;have:=r2 d;omega
 ·rw [if_pos u,if_neg d];have:=r1 u;omega
 ·rw [if_neg u,if_pos d];have:=r2 d;omega
 ·rw [if_neg u,if_neg d];omega
structure Stream (V:List Str) (G:List Gap) (ws:List Str) (f:Fl):Prop where
 fits:aFI G f
 zero:∀ v ∈ V,v ≠ Mt22.sea → v ∉ ws → net G f v = 0
 gain:∀ v ∈ ws,0 ≤ net G f v
theorem Stream.none {V:List Str} {G:List Gap} (h:Gaps V G) (ws:List Str) {f:Fl} (hf:∀ g ∈ G,f g.nm = 0):Stream V G ws f:=by
 have z:∀ v,net G f v = 0:=fun v=>jY fun g m=>by
  unfold aCJ
  rw [hf g m]
  simp
 refine ⟨fun g m=>?_,fun v _ _ _=>z v,fun v _=>by rw [z v];exact Ep _⟩
 have:=h.cap g m
 rw [hf g m]
 omega
theorem Stream.more {V:List Str} {G:List Gap} (h:Gaps V G) {ws:List Str} {f:Fl} (st:Stream V G ws f) {S ss:List Mt22.St} {z:Str} (c:Chain S ss z) (hS:∀ s ∈ S,s ∈ stepsOf G) {m:Int} (m0:0 ≤ m) (hr:∀ s ∈ ss,m ≤ room G f s) (mz:z ∈ ws) (ns:Mt22.sea ∉ ws) :
  Stream V G ws (ss.foldl (jW m) f) ∧ val G (ss.foldl (jW m) f) = val G f + m:=by
 have zs:z ≠ Mt22.sea:=fun e=>ns (e ▸ mz)
 refine ⟨⟨aEV h c hS m0 st.fits hr,fun v mv hv hw=>?_,fun v mv=>?_⟩,?_⟩
 ·rw [qZ h c hS,st.zero v mv hv hw,if_neg (show ¬ z = v from fun e=>hw (e ▸ mz)),if_neg (show ¬ Mt22.sea = v from fun e=>hv e.symm)]
  rfl
 ·rw [qZ h c hS,if_neg (show ¬ Mt22.sea = v from fun e=>ns (e ▸ mv))]
  have:=st.gain v mv
  split <;> omega
 ·unfold val
  rw [qZ h c hS,if_neg zs,if_pos rfl]
  omega
def total (G:List Gap):Int:=sm G (·.cap)
theorem aHB {V:List Str} {G:List Gap} (h:Gaps V G) {f:Fl} (hf:aFI G f):val G f ≤ total G:=by
 unfold val net total
 have:sm G (aCJ f Mt22.sea) ≥ sm G (fun g=>0 - g.cap):=aGB fun g m=>by
  obtain ⟨f1,f2⟩:=hf g m
  obtain ⟨_,_,ne⟩:=h.ends g m
  have:=h.cap g m
  unfold aCJ
  by_cases e1:g.b = Mt22.sea <;> by_cases e2:g.a = Mt22.sea
  ·exact absurd (e2.trans e1.symm) ne
  ·rw [if_pos e1,if_neg e2];omega
  ·rw [if_neg e1,if_pos e2];omega
  ·rw [if_neg e1,if_neg e2];omega
 rw [aDU,jY (f:=fun _=>(0:Int)) (fun _ _=>rfl)] at this
 have e:(sm G fun x=>x.cap) = sm G Gap.cap:=rfl
 omega
structure Round (G:List Gap) (f:Fl) (ws R B:List Str):Prop where
 sea:Mt22.sea ∈ R
 closed:∀ s ∈ stepsOf G,0 < room G f s → s.near ∈ R → s.far ∈ R
 wout:∀ z ∈ ws,z ∉ R
 win:∀ z ∈ ws,z ∈ B
 bout:∀ z ∈ B,z ∉ R
 bclosed:∀ s ∈ stepsOf G,s.far ∉ R → s.near ∈ B → s.far ∈ B
instance memStr (z:Str) (l:List Str):Decidable (z ∈ l):=inferInstance
def inB (B:List Str):Str → Bool:=fun z=>decide (z ∈ B)
theorem oX {V:List Str} {G:List Gap} (h:Gaps V G) {f:Fl} (hf:aFI G f) {ws R B:List Str} (r:Round G f ws R B) {g:Gap} (m:g ∈ G) :
  (g.a ∉ B → g.b ∈ B → g.a ∈ R ∧ f g.nm = g.cap) ∧ (g.a ∈ B → g.b ∉ B → g.b ∈ R ∧ f g.nm = -g.cap):=by
 obtain ⟨f1,f2⟩:=hf g m
 have mu:up g ∈ stepsOf G:=iY.mpr ⟨g,m,.inl rfl⟩
 have md:dn g ∈ stepsOf G:=iY.mpr ⟨g,m,.inr rfl⟩
 refine ⟨fun ha hb=>?_,fun ha hb=>?_⟩
 ·have aR:g.a ∈ R:=DO fun n=>ha (r.bclosed _ md n hb)
  refine ⟨aR,?_⟩
  have:¬ 0 < room G f (up g):=fun q=>r.bout _ hb (r.closed _ mu q aR)
  rw [aGD h m] at this
  omega
 ·have bR:g.b ∈ R:=DO fun n=>hb (r.bclosed _ mu n ha)
  refine ⟨bR,?_⟩
  have:¬ 0 < room G f (dn g):=fun q=>r.bout _ ha (r.closed _ md q bR)
  rw [aGE h m] at this
  omega
theorem xO {V:List Str} {G:List Gap} (h:Gaps V G) {f:Fl} {ws R B:List Str} (st:Stream V G ws f) (r:Round G f ws R B):val G f = cut G (inB B):=by
 have sB:Mt22.sea ∉ B:=fun m=>r.bout _ m r.sea
 refine aQF h (decide_eq_false sB) (fun v mv hv hX=>?_) (fun g m ha hb=>?_) (fun g m ha hb=>?_)
 ·exact st.zero v mv hv fun w=>(of_decide_eq_false hX) (r.win v w)
 ·exact ((oX h st.fits r m).1 (of_decide_eq_false ha) (of_decide_eq_true hb)).2
 ·exact ((oX h st.fits r m).2 (of_decide_eq_true ha) (of_decide_eq_false hb)).2
def eN (G:List Gap) (R B:List Str):List Mt22.St:=(stepsOf G).filter fun s=>decide (s.near ∈ R) && decide (s.far ∈ B)
theorem aDZ {V:List Str} {G:List Gap} (h:Gaps V G) {f:Fl} {ws R B:List Str} (st:Stream V G ws f) (r:Round G f ws R B):sm (eN G R B) (fun s=>qI G s.nm) = val G f:=by
 rw [xO h st r]
 unfold eN cut stepsOf
 rw [nY]
 have key:∀ G':List Gap,(∀ g ∈ G',g ∈ G) → sm (G'.flatMap fun g=>[up g,dn g]) (fun s=>if (decide (s.near ∈ R) && decide (s.far ∈ B)) = true then qI G s.nm else 0) = sm G' (vZ (inB B)):=by
  intro G'
  induction G' with
  | nil=>intro _;rfl
  | cons g G' ih =>
   intro sub
   have m:=sub g AU
   rw [Dd,qP,ih fun x mx=>sub x (AQ _ mx),bD g]
   congr 1
   rw [bD,bD,lL]
   show (if (decide (g.a ∈ R) && decide (g.b ∈ B)) = true then qI G g.nm else 0) + ((if (decide (g.b ∈ R) && decide (g.a ∈ B)) = true then qI G g.nm else 0) + 0) = (if decide (g.a ∈ B) = decide (g.b ∈ B) then 0 else g.cap)
   rw [nN h m]
   obtain ⟨e1,e2⟩:=oX h st.fits r m
   by_cases ha:g.a ∈ B <;> by_cases hb:g.b ∈ B
   ·have:=r.bout _ ha
    have:=r.bout _ hb
    simp [*]
   ·have:=r.bout _ ha
    have:=(e2 ha hb).1
    simp [*]
   ·have:=r.bout _ hb
    have:=(e1 ha hb).1
    simp [*]
   ·simp [*]
 exact key G fun g m=>m
def jT (G:List Gap) (ws:List Str) (c:Int):Prop:=(∃ X:Str → Bool,X Mt22.sea = false ∧ (∀ z ∈ ws,X z = true) ∧ cut G X = c) ∧ ∀ X:Str → Bool,X Mt22.sea = false → (∀ z ∈ ws,X z = true) → c ≤ cut G X
theorem aBU {V:List Str} {G:List Gap} (h:Gaps V G) {f:Fl} {ws R B:List Str} (st:Stream V G ws f) (r:Round G f ws R B):jT G ws (val G f):=by
 refine ⟨⟨inB B,decide_eq_false fun m=>r.bout _ m r.sea,fun z m=>decide_eq_true (r.win z m),(xO h st r).symm⟩,fun X hs hw=>?_⟩
 refine aQE h st.fits hs fun v mv hv hX=>st.zero v mv hv fun w=>?_
 rw [hw v w] at hX
 cases hX
theorem jT.uniq {G:List Gap} {ws:List Str} {c d:Int} (h:jT G ws c) (h':jT G ws d):c = d:=by
 obtain ⟨⟨X,s,w,e⟩,a⟩:=h
 obtain ⟨⟨X',s',w',e'⟩,a'⟩:=h'
 have:=a X' s' w'
 have:=a' X s w
 omega
end Mt61
namespace L2
open PySem PySem.Spec PyProof.Rows
def aVB (l:List Nat):Prop:=∀ i k,i < k → k < l.length → l.getD i 0 < l.getD k 0
structure Ris (t:SetTable):Prop where
 no:t.dummies = #[]
 up:aVB t.place.toList
end L2
namespace L2
open PySem PySem.Spec PyProof.Rows
def aRK:Value → Key
 | .int z _=>.inl z
 | .str x _=>.inr x
 | _=>.inl 0
def aQR (w:World):Bool:=w.params.followText "set-order"
def SetJ (P:Program) (w:World) (h:Heap) (a:Addr) (ks:List Key):Prop :=
 ∃ o es ep t,h.get? a = some o ∧ o.ExactSet ∧ o.data = .set es ep t ∧ ElemsOf (aS P w) es.toList ∧ (es.toList.map fun e=>aRK e.2).Perm ks ∧ es.size < scanBound ∧ t.fits es.size = true ∧ Ris t ∧ (aQR w = true ∨ t.led = true)
section
variable {P:Program} {w:World} {A:Around} {E:Value → Shared → Prop} {s:Shared}
end
end L2
namespace L2
open PySem PySem.Spec PyProof.Rows
section
variable {P:Program} {w:World} {A:Around} {E:Value → Shared → Prop} {s:Shared}
end
section
variable {P:Program} {w:World} {A:Around} {R:Result → Shared → Prop} {I:Addr} {fp wr:List Addr} {G:Array DV → Array DV → Prop} {n:Nat} {Pv:Nat → Value → Prop} {Stt:Nat → Shared → Prop}
end
section
variable {P:Program} {w:World} {A:Around} {E:Value → Shared → Prop} {s:Shared}
end
end L2
namespace L2
open PySem PySem.Spec PyProof.Rows
section
variable {P:Program} {w:World} {A:Around} {E:Value → Shared → Prop} {s:Shared} {it a:Addr} {o:Obj} {es:Array (Int × Value)} {ep:Nat} {t:SetTable}
end
end L2
namespace L2
open PySem PySem.Spec PyProof.Rows
section
variable {P:Program} {w:World} {A:Around} {E:Value → Shared → Prop} {s:Shared} {it a:Addr} {o:Obj} {es:Array (Int × Value)} {ep:Nat} {t:SetTable}
end
end L2
namespace L2
open PySem PySem.Spec PyProof.Rows
section
variable {P:Program} {w:World} {A:Around} {E:Value → Shared → Prop} {s:Shared} {a:Addr} {ks:List Key}
end
end L2
namespace L2
open PySem PySem.Spec PyProof.Rows
theorem qJ:BP "sorted" = some (.builtin "sorted"):=by decide +kernel
section
variable {X:Cx} {pins:List (Addr × Obj)} {σ:List (Option V)} {H:Hp} {s:Shared}
end
end L2
namespace L2
open PySem PySem.Spec PyProof.Rows PySem.W
section
variable {P:Program} {w:World} {K:AG} {mg:Str → Option Value} {base:Heap}
theorem aLL {k:Nat} {f:Addr} {name qual:Str} {params:Dh} {body:Expr} {scope:Scope} {pm cdv ct:Value} {o:Obj} {N ps:List Str}
  {A:Around} {outer:List Env} {s:Shared} {H:Hp} {args:Args} {us:List Value} {vs:List V} {Q:VK}
  (hr:Room (k + 1) A) (e0:Env0 P w K mg base A outer s H) (ho:s.heap.get? f = some o) (hd:o.data = .func (kla_fn name qual params body scope [] pm cdv ct)) (hcd:s.heap.CodeRec cdv qual) (S:FnScope N ps scope)
  (hb:BindsTo s (kla_fn name qual params body scope [] pm cdv ct) args (ps.zip us)) (r:bF vs us) (hl:vs.length = ps.length)
  (hbody:Room k (A.deeper (envOfC qual scope s.heap.objs.size f cdv)) → ∃ t:TE,PE (mG CX0 P w K mg base N qual scope f cdv A outer s H E0).nox body t ∧ t (start N vs) H Q) :
  codeAny (model P w) A (.call (.ref f) args) (CR CX0 outer P w H s Q E0) s:=by
 have lim:s.heap.NoLimit:=e0.mod.nolimit.keeps fun b o e=>(e0.bs b o e).1
 have hkind:∀ y ∈ ps.zip us,scope.names.lookup y.1 = some .local ∨ (scope.names.lookup y.1 = some .cell ∧ ((cellsFrom (s.heap.objs.size + 1) scope.names []).lookup y.1).isSome = true):=fun ⟨n,v⟩ hy=>by
  rcases S.par n (Dw hy).1 with q | q
  ·exact .inl q
  ·exact .inr ⟨q,Dl _ _ _ (.inl q)⟩
 refine kla_callFunE hr.depth ho hd S.co S.gen rfl hcd (hb _ _ _ _ ?_)
 refine wpAny_newFunctionEnv_cells S.kind hkind fun env he s1 x=>?_
 subst he
 refine ⟨lim.keeps x.toInCall.keep,kla_codeExpr ?_⟩
 obtain ⟨t,ht,hq⟩:=hbody (hr.deeper _)
 have I:Inv (mG CX0 P w K mg base N qual scope f cdv A outer s H E0) [] (start N vs) H s1:=yC S hr.hd e0 hl r x
 have I':Inv (mG CX0 P w K mg base N qual scope f cdv A outer s H E0).nox [] (start N vs) H s1:=⟨⟨I.ok.mod,I.ok.kind,I.ok.glob,I.ok.blt,I.ok.above,I.ok.inj,I.ok.has,I.ok.cab,I.ok.hd,I.ok.frames,I.ok.stk,I.ok.exf,I.ok.bs,I.ok.bsz,I.ok.noex,I.ok.exfs,I.ok.funs,I.ok.frf⟩,I.os,I.bare,I.base,I.loc,I.cell,I.free,I.freeC,I.pin,I.hok,I.len⟩
 refine BL (ht [] s1 (start N vs) H _ I' hq) (fun u s' hs=>?_) fun e s' hs=>BT hs
 obtain ⟨v,H',J,rv,q⟩:=hs
 exact ⟨v,H',J.os,J.bare,J.base,J.hok,rv,q⟩
end
end L2
namespace L2
open PySem PySem.Spec PyProof.Rows PySem.W
def dQ (T:Addr) (H H':Hp):Prop:=∀ b o,b ≠ T → H b = some o → H' b = some o
theorem dQ.trans {T:Addr} {H H1 H2:Hp} (a:dQ T H H1) (b:dQ T H1 H2):dQ T H H2:=fun x o n e=>b x o n (a x o n e)
def oR (qual:Str) (c:Addr):HO:=.ext fun h=>h.CodeRec (.ref c) qual
def tH (name qual:Str) (params:Dh) (body:Expr) (scope:Scope) (c f:Addr):HO:=.ext fun h=>∃ pm ctv,h.get? f = some (kla_obj name qual params body scope [] pm c ctv)
theorem oR.ok {P:Program} {w:World} {H:Hp} {h:Heap} {q:Str} {c:Addr} (x:h.CodeRec (.ref c) q):bP P w H h c (oR q c):=by
 refine ⟨x,?_,fun h1 h2 y k=>?_⟩
 ·obtain ⟨c',oc,vs,t,e,ho,_⟩:=x
  cases e
  exact ⟨oc,ho⟩
 ·obtain ⟨c',oc,vs,t,e,ho,r⟩:=y
  cases e
  exact ⟨_,oc,vs,t,rfl,k _ ho,r⟩
theorem tH.ok {P:Program} {w:World} {H:Hp} {h:Heap} {n q:Str} {ps:Dh} {b:Expr} {sc:Scope} {c f:Addr} {pm ctv:Value} (x:h.get? f = some (kla_obj n q ps b sc [] pm c ctv)):bP P w H h f (tH n q ps b sc c f) :=
 ⟨⟨pm,ctv,x⟩,⟨_,x⟩,fun h1 h2 ⟨p,v,y⟩ k=>⟨p,v,k _ y⟩⟩
def jX (T:Addr) (pos:Pos) (qual:Str) (H:Hp):Prop :=
 ∃ ps,H T = some (.tbl ps) ∧ TriplesOk ps.toList ∧ (codeAmong pos ps.toList = none ∨ ∃ c',codeAmong pos ps.toList = some (.ref c') ∧ H c' = some (oR qual c'))
theorem jX.keep {T:Addr} {pos:Pos} {qual:Str} {H H':Hp} (x:jX T pos qual H) (k:∀ b o,H b = some o → H' b = some o):jX T pos qual H':=by
 obtain ⟨ps,e,t,r⟩:=x
 refine ⟨ps,k _ _ e,t,r.imp id fun ⟨c,e1,e2⟩=>⟨c,e1,k _ _ e2⟩⟩
theorem rY:∀ (l:List Value) {m:List Value},TriplesOk m → TriplesOk l → TriplesOk (l ++ m)
 | [],_,h,_=>h
 | [a],_,_,h=>by cases a <;> exact BT h
 | [a,b],_,_,h=>by cases a <;> cases b <;> exact BT h
 | a :: b :: c :: r,m,h1,h2=>by
  cases a <;> first | exact BT h2 | (cases b <;> first | exact BT h2 | exact rY r h1 h2)
structure TabB (K:AG) (mg:Str → Option Value) (base:Heap) (x:Str) (c T:Addr):Prop where
 bm:∃ bm ob,mg "__builtins__" = some (.ref bm) ∧ bm ≠ builtinsNs ∧ base.get? bm = some ob ∧ ob.cls = .type "module" ∧ ob.dict = some builtinsNs ∧ ob.data = .plain
 hd:CodeHd base c T
 cd:∀ (fa:Addr) (o:Obj) (fd:Bi),mg x = some (.ref fa) → K.lookup fa = some o → o.data = .func fd → fd.code = .ref c
section
variable {X:Cx} {T c:Addr} {qual:Str} {params:Dh} {body:Expr} {scope:Scope} {pos:Pos}
def aSH (T:Addr) (pos:Pos) (qual:Str) (params:Dh) (body:Expr) (scope:Scope):TE:=fun σ H Q=>jX T pos qual H ∧
 ∀ (f c':Addr) (H':Hp),dQ T H H' → jX T pos qual H' → H' c' = some (oR qual c') → H' f = some (tH "<lambda>" qual params body scope c' f) → Q (.ref f) H'
theorem aQY {x:Str} (B:TabB X.K X.mg X.base x c T) (hc:X.env.code = .ref c) (hq:X.env.qual ++ "<lambda>" = qual) (hcl:Ek scope X.env = pure []) (hdef:defaultsOf params X.env = ([],[])) :
  PE X (.Lambda params body scope pos) (aSH T pos qual params body scope):=by
 intro pins s σ H Q I h
 obtain ⟨⟨ps,eT,tr,hit⟩,q⟩:=h
 subst hq
 have gP:s.heap.get? T = some (tabObj ps):=I.hok T _ eT
 have hgs:=I.mod.glob.keeps I.bk
 obtain ⟨bm,ob,b1,b2,b3,b4,b5,b6⟩:=B.bm
 have hgP:AK ≠ T:=fun z=>by
  obtain ⟨o,es,ep,e,hd,_⟩:=hgs
  rw [z,gP] at e;cases e;cases hd
 have hbP:bm ≠ T:=fun z=>by
  have e:=I.bk _ _ b3
  rw [z,gP] at e;cases e;cases b4
 have hbG:bm ≠ AK:=fun z=>by
  obtain ⟨o,es,ep,e,hd,_⟩:=I.mod.glob
  rw [z,e] at b3;cases b3;rw [hd] at b6;cases b6
 have bl:s.heap.BuiltinsAt X.mg T:=⟨bm,ob,b1,b2,hbG,hbP,I.bk _ _ b3,b4,b5,b6⟩
 have nT:∀ b,H b = none → b ≠ T:=fun b n z=>by rw [z,eT] at n;cases n
 refine kla_eval hdef ?_
 rcases hit with hn | ⟨c',hf,ec⟩
 ·refine kla_makeFunction (mg:=X.mg) hcl I.ok.glob hgs hc (B.hd.keeps I.bk) gP tr hn hgP bl fun c' ctv h' tk hx hge hlt hrec htb=>?_
  have gf:(h'.push (kla_obj "<lambda>" (X.env.qual ++ "<lambda>") params body scope [] ((X.mg "__name__").getD .none) c' ctv)).get? h'.objs.size = some (kla_obj "<lambda>" (X.env.qual ++ "<lambda>") params body scope [] ((X.mg "__name__").getD .none) c' ctv):=Ab _ rfl
  generalize hob:kla_obj "<lambda>" (X.env.qual ++ "<lambda>") params body scope [] ((X.mg "__name__").getD .none) c' ctv = obF at gf
  have keep:∀ b o,b ≠ T → s.heap.get? b = some o → (h'.push obF).get? b = some o:=fun b o n e=>AE _ (hx b o n e)
  have lt:∀ b o,s.heap.get? b = some o → b ≠ c' ∧ b ≠ h'.objs.size:=fun b o e=>⟨Af (Ag (Aa e) hge),Af (DT (Ag (Aa e) hge) hlt)⟩
  have fresh:∀ b o,H b = some o → b ≠ c' ∧ b ≠ h'.objs.size:=fun b o e=>by
   have:=I.hok.lt e
   exact ⟨Af (Ag this hge),Af (DT (Ag this hge) hlt)⟩
  have cT:c' ≠ T:=Ne.symm (fresh T _ eT).1
  have fT:h'.objs.size ≠ T:=Ne.symm (fresh T _ eT).2
  have cf:c' ≠ h'.objs.size:=Af hlt
  let ps':=ps ++ #[rawInt pos.line,rawInt pos.col,.ref c']
  let H1:=upd (upd (upd H T (.tbl ps')) c' (oR (X.env.qual ++ "<lambda>") c')) h'.objs.size (tH "<lambda>" (X.env.qual ++ "<lambda>") params body scope c' h'.objs.size)
  have up:∀ b,b ≠ T → b ≠ c' → b ≠ h'.objs.size → H1 b = H b:=fun b n1 n2 n3=>by
   show upd _ _ _ b = _
   rw [aI n3,aI n2,aI n1]
  have eT1:H1 T = some (.tbl ps'):=by
   show upd _ _ _ T = _
   rw [aI (Ne.symm fT),aI (Ne.symm cT),aE]
  have ec1:H1 c' = some (oR (X.env.qual ++ "<lambda>") c'):=by
   show upd _ _ _ c' = _
   rw [aI cf,aE]
  have ef1:H1 h'.objs.size = some (tH "<lambda>" (X.env.qual ++ "<lambda>") params body scope c' h'.objs.size):=aE
  have KB:dQ T H H1:=fun b o n e=>by rw [up b n (fresh b o e).1 (fresh b o e).2];exact e
  have hok:HOk X.prog X.w H1 (h'.push obF):=fun b u e=>by
   by_cases z1:b = h'.objs.size
   ·subst z1
    rw [ef1] at e
    cases e
    exact tH.ok (pm:=(X.mg "__name__").getD .none) (ctv:=ctv) (by rw [gf,hob])
   ·by_cases z2:b = c'
    ·subst z2
     rw [ec1] at e
     cases e
     obtain ⟨_,oc,vs,t,e1,ho,r⟩:=hrec
     cases e1
     exact oR.ok ⟨_,oc,vs,t,rfl,AE _ ho,r⟩
    ·by_cases z3:b = T
     ·subst z3
      rw [eT1] at e
      cases e
      show (h'.push obF).get? b = some _
      exact AE _ htb
     ·rw [up b z3 z2 z1] at e
      refine (I.hok b u e).stay (fun d v hd g=>keep d v (fun z=>?_) g) (fun d z=>KB d _ (fun zz=>by rw [zz,eT] at z;cases z) z) fun d xs z=>KB d _ (fun zz=>by rw [zz,eT] at z;cases z) z
      rcases hd with hd | hd
      ·exact z3 (hd ▸ z)
      ·rw [z,eT] at hd;cases hd
  have I1:Inv X pins σ H1 { s with heap:=h'.push obF,toks:=tk }:=by
   refine I.step (g':=s.gens) (d':=s.drawn) (ch:=[]) (fun _ z=>nomatch z) (fun b o _ _ _ e n=>keep b o (nT b n) e) (fun b o _ _ _ e n=>⟨o.slots,keep b o (nT b n) e⟩)
    (fun b o _ e n=>by rw [up b (nT b n) (lt b o e).1 (lt b o e).2];exact n) (fun b o _ e=>?_) (fun b xs e=>KB b _ (fun z=>by rw [z,eT] at e;cases e) e) (fun b o u e=>KB b _ (fun z=>by rw [z,eT] at e;cases e) e)
    (fun b qs e=>?_) (fun m hm=>?_) hok I.bare
   ·by_cases z:b = T
    ·subst z
     exact ⟨_,AE _ htb⟩
    ·exact ⟨o,keep b o z e⟩
   ·by_cases z:b = T
    ·subst z
     rw [eT] at e
     cases e
     exact ⟨_,eT1⟩
    ·exact ⟨#[],by rw [KB b _ z e];simp⟩
   ·exact (hm.extBut hx (nT _ I.free)).push _
  refine ⟨.ref h'.objs.size,H1,?_,rfl,q _ c' H1 KB ⟨ps',eT1,?_,.inr ⟨c',?_,ec1⟩⟩ ec1 ef1⟩
  ·exact I1
  ·show TriplesOk (ps ++ #[rawInt pos.line,rawInt pos.col,.ref c']).toList
   rw [Array.toList_append]
   generalize ps.toList = l at tr
   clear up eT1 hok KB I1 fresh lt keep q gP hn hlt hge cf fT cT ec1 ef1 hx hrec htb gf hob bl eT
   revert tr
   refine rY l ?_
   exact trivial
  ·show codeAmong pos (ps ++ #[rawInt pos.line,rawInt pos.col,.ref c']).toList = _
   rw [Array.toList_append]
   exact codeAmong_snoc _ tr hn
 ·refine kla_makeFunctionHit (mg:=X.mg) hcl I.ok.glob hgs hc (B.hd.keeps I.bk) gP tr hf bl fun ctv h' tk hk hsz=>?_
  have gf:(h'.push (kla_obj "<lambda>" (X.env.qual ++ "<lambda>") params body scope [] ((X.mg "__name__").getD .none) c' ctv)).get? h'.objs.size = some (kla_obj "<lambda>" (X.env.qual ++ "<lambda>") params body scope [] ((X.mg "__name__").getD .none) c' ctv):=Ab _ rfl
  refine ⟨.ref h'.objs.size,_,I.laid (a:=h'.objs.size) (o:=tH "<lambda>" (X.env.qual ++ "<lambda>") params body scope c' h'.objs.size) (t':=tk) (fun b o e=>AE _ (hk b o e)) hsz (tH.ok gf),rfl,?_⟩
  have fr:=I.hok.fresh hsz
  have KS:∀ b o,H b = some o → upd H h'.objs.size (tH "<lambda>" (X.env.qual ++ "<lambda>") params body scope c' h'.objs.size) b = some o:=fun b o e=>by rw [aI (aO e fr)];exact e
  exact q _ c' _ (fun b o _ e=>KS b o e) (jX.keep ⟨ps,eT,tr,.inr ⟨c',hf,ec⟩⟩ KS) (KS _ _ ec) aE
end
end L2
namespace HT
open PySem PyProof.Rows
section
open PySem.SeqAt
open PySem.AutoSeq1 (wpAny_loadPart')
open PySem.MeetsSeq PySem.MeetsSeq2 PySem.MeetsSeq3
theorem nG:∀ {vs:List Value} {ns:List Int} (i:Nat),IntsAre vs ns → i < vs.length → ∃ a t,vs[i]? = some (.int a t) ∧ ns[i]? = some a
 | _,_,_,.nil,h=>by simp at h
 | _,_,0,.cons a t r,_=>⟨a,t,rfl,rfl⟩
 | _,_,i + 1,.cons a t r,h=>nG i r (by simpa using h)
theorem aAB (l b:Addr) (items items2:Array Value) (n n2:Nat) (dd dd2:Option Addr) (sl sl2:Array (Option Value)) (ns ms:List Int) (hi:IntsAre items.toList ns) (hj:IntsAre items2.toList ms) (k:Nat) :
  ∀ i:Nat,items.size - i = k → Meets (Builtin.«list.__eq__.loop» ⟨[.ref l,.ref b,rawInt i,rawInt 0],[]⟩)
   (fun A R s=>s.heap.get? l = some { cls:=.type "list",dict:=dd,data:=.seq items n,slots:=sl } ∧ s.heap.get? b = some { cls:=.type "list",dict:=dd2,data:=.seq items2 n2,slots:=sl2 } ∧
    i ≤ items.size ∧ i ≤ items2.size ∧ R (.ok (.ret (.bool (lexLt (ns.drop i) (ms.drop i))))) s):=by
 have z1:items.size = ns.length:=by rw [← hi.length];simp
 have z2:items2.size = ms.length:=by rw [← hj.length];simp
 induction k with
 | zero =>
  intro i hk prog w A R s h
  obtain ⟨hp,g,d,tk,os⟩:=s;obtain ⟨hl,hb,hi1,hi2,h⟩:=h
  wp_walk using Bf hl,Bf hb
  have hi1:items[((i:Nat):Int).toNat]? = none:=by simp;omega
  rw [hi1]
  wp_walk using Bf hl,Bf hb
  show R (.ok (.ret (.bool (decide (items.size < items2.size))))) _
  rw [Cy (as:=ns) (by omega)] at h
  have e:lexLt [] (ms.drop i) = decide (items.size < items2.size):=by
   by_cases q:i < ms.length
   ·rw [DZ q,vD]
    exact (decide_eq_true (by omega)).symm
   ·rw [Cy (by omega),wV]
    exact (decide_eq_false (by omega)).symm
  rw [e] at h
  exact h
 | succ k ih =>
  intro i hk prog w A R s h
  obtain ⟨hp,g,d,tk,os⟩:=s;obtain ⟨hl,hb,l1,l2,h⟩:=h
  have hlt:i < items.size:=by omega
  obtain ⟨a,t,e1,f1⟩:=nG i hi (by rw [Ba];exact hlt)
  have hn:i < ns.length:=by omega
  have hi1:items[((i:Nat):Int).toNat]? = some (.int a t):=by
   rw [show ((i:Nat):Int).toNat = i by simp,← CH];exact e1
  have dn:ns.drop i = a :: ns.drop (i + 1):=by
   rw [DZ hn]
   rw [AC hn] at f1
   rw [Ax f1]
  rw [dn] at h
  wp_walk using Bf hl,Bf hb
  rw [hi1]
  by_cases q:i < items2.size
  ·obtain ⟨c,u,e2,f2⟩:=nG i hj (by rw [Ba];exact q)
   have hm:i < ms.length:=by omega
   have hi2:items2[((i:Nat):Int).toNat]? = some (.int c u):=by
    rw [show ((i:Nat):Int).toNat = i by simp,← CH];exact e2
   have dm:ms.drop i = c :: ms.drop (i + 1):=by
    rw [DZ hm]
    rw [AC hm] at f2
    rw [Ax f2]
   rw [dm,lexLt_cons] at h
   rw [hi2]
   obtain ⟨e,he,hiff⟩:=aMK A.in1 ⟨hp,g,d,tk,os⟩ a t c u
   have hc:((i:Int) + 1) = ((i + 1:Nat):Int):=by push_cast;rfl
   refine AD (he prog w _ _ ?_)
   cases e with
   | true =>
    rw [if_pos (hiff.mp rfl)] at h
    wp_walk
    rw [hc]
    exact ⟨CY plain_eq_loop _,CA entry_eq_loop (by
     rw [Bm plain_eq_loop _]
     exact ih (i + 1) (by omega) prog w A R _ ⟨hl,hb,by omega,by omega,h⟩)⟩
   | false =>
    rw [if_neg (fun z=>absurd (hiff.mpr z) Ad)] at h
    have hri:=aKL A.in1 ⟨hp,g,d,tk,os⟩ a t c u prog w
    wp_walk using Bf hl,Bf hb
    rw [hi1,hi2]
    wp_walk using hri
    exact h
  ·have hi2:items2[((i:Nat):Int).toNat]? = none:=by simp;omega
   rw [hi2]
   wp_walk using Bf hl,Bf hb
   show R (.ok (.ret (.bool (decide (items.size < items2.size))))) _
   rw [Cy (as:=ms) (by omega),vE] at h
   rw [decide_eq_false (by omega)]
   exact h
theorem aAC (l b:Addr) (items items2:Array Value) (n n2:Nat) (dd dd2:Option Addr) (sl sl2:Array (Option Value)) (ns ms:List Int) (hi:IntsAre items.toList ns) (hj:IntsAre items2.toList ms) :
  Meets (Builtin.«list.__lt__» ⟨[.ref l,.ref b],[]⟩)
   (fun A R s=>s.heap.get? l = some { cls:=.type "list",dict:=dd,data:=.seq items n,slots:=sl } ∧ s.heap.get? b = some { cls:=.type "list",dict:=dd2,data:=.seq items2 n2,slots:=sl2 } ∧
    R (.ok (.ret (.bool (lexLt ns ms)))) s):=by
 intro prog w A R s h
 obtain ⟨hp,g,d,tk,os⟩:=s;obtain ⟨hl,hb,h⟩:=h
 have f3:=AutoSeq1.sub_list_list
 wp_walk using Bf hl,Bf hb
 exact ⟨CY plain_eq_loop _,CA entry_eq_loop (by
  rw [Bm plain_eq_loop _]
  exact aAB l b items items2 n n2 dd dd2 sl sl2 ns ms hi hj _ 0 rfl prog w A R _ ⟨hl,hb,BK _,BK _,by simpa using h⟩)⟩
end
section
variable {prog:Program} {w:World} {A:Around} {E:Value → Shared → Prop} {s:Shared}
theorem lt_listInts {l b:Addr} {items items2:Array Value} {ns ms:List Int} {Q:Value → Shared → Prop} (hl:s.heap.IsList l items) (hb:s.heap.IsList b items2) (hi:IntsAre items.toList ns) (hj:IntsAre items2.toList ms)
  (hu:A.units < cLine) (h:Q (.bool (lexLt ns ms)) s):wpAny (model prog w) A (BV .Lt (.ref l) (.ref b)) Q E s:=by
 obtain ⟨⟨cls,dd,data,sl⟩,ho,hc,n,hd⟩:=id hl
 obtain ⟨⟨cls2,dd2,data2,sl2⟩,ho2,hc2,n2,hd2⟩:=id hb
 simp only at hc hd hc2 hd2
 subst hc hd hc2 hd2
 exact richCompare_meets_room (op:=.Lt) ⟨_,ho,rfl⟩ ⟨_,ho2,rfl⟩ PySem.F.slot_list_lt PySem.F.entry_list_lt (PySem.F.args_list_lt_2 _ _) (aAC l b items items2 n n2 dd dd2 sl sl2 ns ms hi hj)
  ⟨ho,ho2,show EQ (lexLt ns ms) ≠ Value.notImplemented ∧ Q (.bool (lexLt ns ms)) s from ⟨(fun x=>nomatch x),h⟩⟩ hu
end
end HT
namespace L2
open PySem PySem.Spec PyProof.Rows PySem.W
def aCW (n:Nat) (lt:Nat → Nat → Bool) {α:Type}:KasT α → Option α
 | .ret a=>some a
 | .ask i j k=>if i < n ∧ j < n then aCW n lt (k (lt i j)) else none
theorem aAV {α:Type} {n:Nat} {lt:Nat → Nat → Bool} {cmp:Nat → Nat → (Bool → Shared → Prop) → Shared → Prop} {s:Shared} (hc:∀ (i j:Nat) (C:Bool → Shared → Prop),i < n → j < n → C (lt i j) s → cmp i j C s) :
  ∀ (t:KasT α) (a:α) (G:α → Shared → Prop),aCW n lt t = some a → G a s → t.kasWp cmp G s
 | .ret b,a,G,e,g=>by
  have e:b = a:=Ax e
  subst e
  exact g
 | .ask i j k,a,G,e,g=>by
  unfold aCW at e
  split at e
  ·rename_i h
   exact hc i j _ h.1 h.2 (aAV hc (k (lt i j)) a G e g)
  ·cases e
def kF (ns ms:List Int):Bool:=if ns.length = ms.length then HT.lexLt ns ms else decide (ns.length < ms.length)
def kL (nss:List (List Int)):Option (Array Nat):=aCW nss.length (fun i j=>kF (nss.getD i []) (nss.getD j [])) (kas_sort nss.length)
def gX:Nat → List (List Int)
 | 0=>[[]]
 | k + 1=>gX k ++ (gX k).map (· ++ [(k:Int)])
def lX:Nat → List Nat
 | 1=>[0,1]
 | 2=>[0,1,2,3]
 | 3=>[0,1,2,4,3,5,6,7]
 | _=>[0,1,2,4,8,3,5,9,6,10,12,7,11,13,14,15]
theorem aNS:kL (gX 1) = some (lX 1).toArray:=by decide +kernel
theorem aNR:kL (gX 2) = some (lX 2).toArray:=by decide +kernel
theorem aNQ:kL (gX 3) = some (lX 3).toArray:=by decide +kernel
theorem aNP:kL (gX 4) = some (lX 4).toArray:=by decide +kernel
end L2
namespace L2
open PySem PySem.Spec PyProof.Rows PySem.W
section
variable {X:Cx} {pins:List (Addr × Obj)} {σ:List (Option V)} {H:Hp} {s:Shared}
structure Ours (X:Cx) (H:Hp) (b:Addr):Prop where
 nt:H b = none
 loc:b ≠ X.env.locals
 nfs:b ∉ X.fs
 ab:X.s₀.heap.objs.size ≤ b
 ncl:∀ x c,X.env.cells.lookup x = some c → c ≠ b
 npn:∀ p ∈ X.pn,p.1 ≠ b
theorem Ours.new (I:Inv X pins σ H s) {b:Addr} (h:s.heap.objs.size ≤ b):Ours X H b:=by
 refine ⟨I.hok.fresh h,Ne.symm (Af (Ag I.lt h)),I.nofs h,BG I.sz h,fun x c e z=>?_,fun p hp z=>?_⟩
 ·obtain ⟨v,o,ho,_⟩:=I.cell x c e
  exact absurd (Aa ho) (by rw [z];exact Nat.not_lt.mpr h)
 ·have ho:=(I.pin p (Bv _ hp)).1
  exact absurd (Aa ho) (by rw [z];exact Nat.not_lt.mpr h)
theorem Inv.pinAdd {b:Addr} {o:Obj} (I:Inv X pins σ H s) (e:s.heap.get? b = some o) (O:Ours X H b) (nc:∀ v,o.data ≠ .cell v):Inv X ((b,o) :: pins) σ H s :=
 I.pins_of fun p hp=>by
  rcases Ah.mp hp with rfl | hp
  ·exact ⟨e,O.nt,O.loc,O.nfs,nc⟩
  ·exact I.pin p (Am _ hp)
theorem Inv.pinDrop {q:Addr × Obj} (I:Inv X (q :: pins) σ H s):Inv X pins σ H s:=I.pins_of fun p hp=>I.pin p (Am _ (AQ _ hp))
theorem Inv.pinAt {b:Addr} {o:Obj} (I:Inv X ((b,o) :: pins) σ H s):s.heap.get? b = some o ∧ H b = none:=let x:=I.pin (b,o) (Am _ AU);⟨x.1,x.2.1⟩
theorem Inv.turn {t':Nat} {h':Heap} {b:Addr} {o o':Obj} (I:Inv X ((b,o) :: pins) σ H s) (O:Ours X H b) (hp:∀ p ∈ pins,p.1 ≠ b) (k:∀ d u,d ≠ b → s.heap.get? d = some u → h'.get? d = some u) (e:h'.get? b = some o') (nc:∀ v,o'.data ≠ .cell v) :
  Inv X ((b,o') :: pins) σ H { s with heap:=h',toks:=t' } :=
 Inv.pinAdd (I.pinDrop.turned (h':=h') (t':=t') k O.nt O.loc (.inr O.ab) O.ncl fun p z=>by
  rcases Ar.mp z with z | z
  ·exact O.npn p z
  ·exact hp p z) e O nc
theorem Inv.track {b:Addr} {o:Obj} {u:HO} (I:Inv X ((b,o) :: pins) σ H s) (O:Ours X H b) (hp:∀ p ∈ pins,p.1 ≠ b) (new:bP X.prog X.w (upd H b u) s.heap b u):Inv X pins σ (upd H b u) s:=by
 have I0:=I.pinDrop
 have nb:∀ c v,H c = some v → c ≠ b:=fun c v e=>aO e O.nt
 have hch:∀ c ∈ [b],(c ∈ X.ex ∨ X.s₀.heap.objs.size ≤ c) ∧ c ≠ X.env.locals ∧ (∀ x d,X.env.cells.lookup x = some d → d ≠ c) ∧ ∀ p ∈ X.pn ++ pins,p.1 ≠ c:=fun c hc=>by
  have e:c = b:=by simpa using hc
  subst e
  exact ⟨.inr O.ab,O.loc,O.ncl,fun p z=>(Ar.mp z).elim (O.npn p) (hp p)⟩
 have:=I0.step (h':=s.heap) (H':=upd H b u) (g':=s.gens) (t':=s.toks) (d':=s.drawn) (ch:=[b]) hch (fun c o _ _ _ e _=>e) (fun c o _ _ _ e _=>⟨o.slots,e⟩) (fun c o hc e n=>by rw [aI (by simpa using hc)];exact n)
  (fun c o _ e=>⟨o,e⟩) (fun c xs e=>by rw [aI (nb c _ e)];exact e) (fun c o v e=>by rw [aI (nb c _ e)];exact e) (fun c ps e=>⟨#[],by rw [aI (nb c _ e),e];simp⟩) (fun m hm=>hm) (fun c v e=>?_) I.bare
 ·exact this
 ·by_cases hc:c = b
  ·subst hc;rw [aE] at e;cases e;exact new
  ·rw [aI hc] at e
   exact (I.hok c v e).stay (fun d w _ q=>q) (fun d q=>by rw [aI (nb d _ q)];exact q) fun d xs q=>by rw [aI (nb d _ q)];exact q
end
end L2
namespace L2
open PySem PySem.Spec PyProof.Rows PySem.W
theorem qC:∀ ns:List Int,HT.lexLt ns ns = false
 | []=>rfl
 | n :: ns=>by rw [HT.lexLt_cons,if_pos rfl];exact qC ns
theorem yH:∀ ns ms:List Int,tF (ns.map Dv.int) (ms.map Dv.int) = decide (ns = ms)
 | [],[]=>rfl
 | [],_ :: _=>rfl
 | _ :: _,[]=>rfl
 | n :: ns,m :: ms=>by
  show (deq (.int n) (.int m) && tF (ns.map Dv.int) (ms.map Dv.int)) = _
  rw [yH ns ms]
  show (decide (n = m) && decide (ns = ms)) = _
  by_cases h1:n = m <;> by_cases h2:ns = ms <;> simp [h1,h2]
theorem qD {H:Hp}:∀ ns:List Int,IsL H (ns.map Dv.int) (ns.map V.int)
 | []=>rfl
 | n :: ns=>⟨.int n,_,rfl,rfl,qD ns⟩
theorem rL:∀ ns:List Int,cH 1 (ns.map Dv.int) = true
 | []=>rfl
 | n :: ns=>by
  show (bB 1 (.int n) && cH 1 (ns.map Dv.int)) = true
  rw [rL ns]
  rfl
theorem rG:∀ {ns:List Int} {vs:List Value},bF (ns.map V.int) vs → IntsAre vs.toArray.toList ns
 | [],_,.nil=>.nil
 | n :: ns,_,.cons ⟨t,rfl⟩ r=>.cons n t (rG r)
section
variable {X:Cx} {pins:List (Addr × Obj)} {σ:List (Option V)} {H:Hp} {s:Shared}
theorem aRH (I:Inv X pins σ H s) {A:Around} (hu:A.units + 8 < cLine) {t u a b:Addr} {ns ms:List Int} (et:H t = some (.tup [.int ns.length,.ref a])) (eu:H u = some (.tup [.int ms.length,.ref b]))
  (ea:H a = some (.lst (ns.map V.int))) (eb:H b = some (.lst (ms.map V.int))) {Q:Bool → Shared → Prop} {E:Value → Shared → Prop} (q:Q (kF ns ms) s) :
  wpAny (model X.prog X.w) A (keyLt' (tuples' true) (.ref t) (.ref u)) Q E s:=by
 obtain ⟨i1,r1,⟨o1,g1,c1,n1,d1⟩,_⟩:=I.tuple (SqT.of et)
 obtain ⟨i2,r2,⟨o2,g2,c2,n2,d2⟩,_⟩:=I.tuple (SqT.of eu)
 cases r1 with
 | cons x1 y1 =>
 cases y1 with
 | cons x1' y1 =>
 cases y1
 cases r2 with
 | cons x2 y2 =>
 cases y2 with
 | cons x2' y2 =>
 cases y2
 obtain ⟨t1,rfl⟩:=x1
 obtain ⟨t2,rfl⟩:=x2
 cases x1'
 cases x2'
 refine kat_lt g1 d1 g2 d2 ?_
 refine kat_cons (wpAny_eqBool_int ?_)
 by_cases hl:ns.length = ms.length
 ·have e1:((ns.length:Int) == (ms.length:Int)) = true:=by simp [hl]
  rw [e1]
  refine kat_yes (kat_cons ?_)
  refine Is.eqAt I 2 (.lst (ns.map Dv.int)) (.lst (ms.map Dv.int)) (.ref a) (.ref b) (.ref a) (.ref b) A (by omega) (rL ns) (rL ms) ⟨a,_,rfl,ea,qD ns⟩ ⟨b,_,rfl,eb,qD ms⟩ rfl rfl X.prog X.w _ _ ?_
  have e2:deq (.lst (ns.map Dv.int)) (.lst (ms.map Dv.int)) = decide (ns = ms):=yH ns ms
  rw [e2]
  by_cases hm:ns = ms
  ·rw [decide_eq_true hm]
   refine kat_yes (kat_nil ?_)
   subst hm
   have e3:kF ns ns = false:=by unfold kF;rw [if_pos rfl,qC]
   rw [e3] at q
   exact q
  ·rw [decide_eq_false hm]
   refine kat_no ?_
   show wpAny _ _ (oneLt' false (.ref a) (.ref b)) _ _ _
   obtain ⟨j1,v1,p1,_⟩:=I.list (SqL.of ea)
   obtain ⟨j2,v2,p2,_⟩:=I.list (SqL.of eb)
   refine kat_one _ _ (HT.lt_listInts p1.isList p2.isList (rG v1) (rG v2) (by omega) ?_)
   have e3:kF ns ms = HT.lexLt ns ms:=by unfold kF;rw [if_pos hl]
   rw [e3] at q
   exact q
 ·have e1:((ns.length:Int) == (ms.length:Int)) = false:=by simp;omega
  rw [e1]
  refine kat_no ?_
  show wpAny _ _ (oneLt' true (.int ns.length t1) (.int ms.length t2)) _ _ _
  refine oneLt_int ?_
  have e3:kF ns ms = decide ((ns.length:Int) < (ms.length:Int)):=by
   unfold kF
   rw [if_neg hl]
   by_cases h:ns.length < ms.length
   ·rw [decide_eq_true h,decide_eq_true (by omega)]
   ·rw [decide_eq_false h,decide_eq_false (by omega)]
  rw [e3] at q
  exact q
end
end L2
namespace L2
open PySem PySem.Spec PyProof.Rows PySem.W
def aPJ (X:Cx) (σ:List (Option V)) (A:Around) (f:Addr) (P0:Hp → Prop):Prop:=∀ (pins:List (Addr × Obj)) (s:Shared) (H:Hp) (a:Addr) (ns:List Int),Inv X pins σ H s → P0 H → H a = some (.lst (ns.map V.int)) →
 wpAny (model X.prog X.w) A (call (.ref f) [.ref a]) (fun u s'=>∃ t H',Inv X pins σ H' s' ∧ u = .ref t ∧ aJ H H' ∧ H' t = some (.tup [.int ns.length,.ref a])) (fun _ _=>False) s
abbrev jU (H:Hp) (ps:List (Addr × List Int)):Prop:=∀ p ∈ ps,H p.1 = some (.lst (p.2.map V.int))
theorem jU.same {H H':Hp} {ps:List (Addr × List Int)} (S:aJ H H') (h:jU H ps):jU H' ps:=fun p m=>S _ _ (h p m)
def eG (H:Hp):List Value → List (Addr × List Int) → Prop
 | [],[]=>True
 | k :: ks,p :: ps=>(∃ t,k = .ref t ∧ H t = some (.tup [.int p.2.length,.ref p.1])) ∧ eG H ks ps
 | _,_=>False
theorem eG.same {H H':Hp} (S:aJ H H'):∀ {ks:List Value} {ps:List (Addr × List Int)},eG H ks ps → eG H' ks ps
 | [],[],_=>trivial
 | [],_ :: _,h=>h
 | _ :: _,[],h=>h
 | _ :: _,_ :: _,⟨⟨t,e,g⟩,r⟩=>⟨⟨t,e,S _ _ g⟩,eG.same S r⟩
theorem eG.snoc {H:Hp} {p:Addr × List Int} {t:Addr} (g:H t = some (.tup [.int p.2.length,.ref p.1])):∀ {ks:List Value} {ps:List (Addr × List Int)},eG H ks ps → eG H (ks ++ [.ref t]) (ps ++ [p])
 | [],[],_=>⟨⟨t,rfl,g⟩,trivial⟩
 | [],_ :: _,h=>h.elim
 | _ :: _,[],h=>h.elim
 | _ :: _,_ :: _,⟨x,r⟩=>⟨x,eG.snoc g r⟩
theorem eG.length {H:Hp}:∀ {ks:List Value} {ps:List (Addr × List Int)},eG H ks ps → ks.length = ps.length
 | [],[],_=>rfl
 | [],_ :: _,h=>h.elim
 | _ :: _,[],h=>h.elim
 | _ :: _,_ :: _,⟨_,r⟩=>by rw [Aj,Aj,eG.length r]
theorem eG.get {H:Hp}:∀ {ks:List Value} {ps:List (Addr × List Int)} (i:Nat),eG H ks ps → i < ps.length → ∃ t p,ks.getD i Bg = .ref t ∧ ps[i]? = some p ∧ H t = some (.tup [.int p.2.length,.ref p.1])
 | [],[],_,_,h=>by simp at h
 | [],_ :: _,_,h,_=>h.elim
 | _ :: _,[],_,h,_=>h.elim
 | _ :: _,p :: _,0,⟨⟨t,e,g⟩,_⟩,_=>⟨t,p,by simpa using e,rfl,g⟩
 | _ :: ks,_ :: ps,i + 1,⟨_,r⟩,h=>by
  obtain ⟨t,p,e1,e2,e3⟩:=eG.get (ks:=ks) (ps:=ps) i r (by simpa using h)
  exact ⟨t,p,by simpa using e1,by simpa using e2,e3⟩
section
variable {X:Cx} {pins:List (Addr × Obj)} {σ:List (Option V)} {A:Around} {f kS:Addr} {P0:Hp → Prop}
theorem oB {cl:Value} {xs:Array Value} {n:Nat}:∀ v,({ cls:=cl,data:=.seq xs n }:Obj).data ≠ .cell v:=fun v h=>by cases h
theorem xX {H:Hp} {s:Shared} (I:Inv X pins σ H s):∀ {ks:List Value} {ps:List (Addr × List Int)},eG H ks ps → ∃ fs:List Value,KatTups s.heap ks fs ∧ fs.length = ps.length ∧ ∀ v ∈ fs,∃ i t,v = .int i t
 | [],[],_=>⟨[],.nil,rfl,fun _ m=>nomatch m⟩
 | [],_ :: _,h=>h.elim
 | _ :: _,[],h=>h.elim
 | _ :: ks,p :: ps,⟨⟨t,e,g⟩,r⟩=>by
  subst e
  obtain ⟨fs,a,b,c⟩:=xX I r
  obtain ⟨i1,r1,⟨o1,g1,c1,n1,d1⟩,_⟩:=I.tuple (SqT.of g)
  cases r1 with
  | cons x1 y1 =>
  obtain ⟨t1,rfl⟩:=x1
  refine ⟨_ :: fs,.cons g1 c1 d1 rfl a,by rw [Aj,Aj,b],fun v m=>?_⟩
  rcases Ah.mp m with rfl | m
  ·exact ⟨_,_,rfl⟩
  ·exact c v m
theorem xY (st0:∀ H H',aJ H H' → P0 H → P0 H') (hk:aPJ X σ A f P0) {n:Nat} (hn:n < 64) {body:Value → PUnit → Sem (ForInStep PUnit)} {E:Value → Shared → Prop}
  (hb:∀ (x:Value) (ks:List Value) (s:Shared) (C:Value → Shared → Prop),wpAny (model X.prog X.w) A (call (.ref f) [x]) (fun k s'=>wpAny (model X.prog X.w) A (Builtin.List.listUpdate (.ref kS) (·.push k)) (fun _ s''=>C k s'') (fun _ _=>False) s') (fun _ _=>False) s →
   wpAny (model X.prog X.w) A (body x ⟨⟩) (fun r s'=>r = .yield ⟨⟩ ∧ ∃ k,C k s') E s) :
  ∀ (r done:List (Addr × List Int)) (ks:List Value) (e:Nat) (H:Hp) (s:Shared),Inv X ((kS,seqObj "list" ks.toArray e) :: pins) σ H s → Ours X H kS → (∀ p ∈ pins,p.1 ≠ kS) → P0 H → jU H r → eG H ks done → done.length + r.length = n →
   wpAny (model X.prog X.w) A (forIn (r.map fun p=>Ap p.1) PUnit.unit body) (fun _ s'=>∃ (ks':List Value) (e':Nat) (H':Hp),Inv X ((kS,seqObj "list" ks'.toArray e') :: pins) σ H' s' ∧ aJ H H' ∧ eG H' ks' (done ++ r)) E s
 | [],done,ks,e,H,s,I,O,hp,p0,it,kt,hl=>by
  rw [Cc,List.forIn_nil]
  exact AZ ⟨ks,e,H,I,aJ.refl _,by rw [Bp];exact kt⟩
 | p :: r,done,ks,e,H,s,I,O,hp,p0,it,kt,hl=>by
  rw [AY,Eo]
  have hl':=kt.length
  rw [Aj] at hl
  refine AD (BL (hb (.ref p.1) ks s (fun k s'=>∃ (t:Addr) (e':Nat) (H':Hp),k = .ref t ∧ Inv X ((kS,seqObj "list" (ks ++ [k]).toArray e') :: pins) σ H' s' ∧ aJ H H' ∧ H' t = some (.tup [.int p.2.length,.ref p.1])) ?_) (fun q s' hq=>?_) fun _ _ x=>x)
  ·refine BL (hk _ s H p.1 p.2 I p0 (it p AU)) (fun u s' hu=>?_) fun _ _ x=>x
   obtain ⟨t,H',I',rfl,S,g⟩:=hu
   have pa:=I'.pinAt
   refine Eh pa.1 rfl ?_ (by rw [AR,CJ];omega) (BG (Dt (En ..)) (by rw [AR,CJ];omega))
   have ea:(Cw ks).push (.ref t) = Cw (ks ++ [.ref t]):=by simp
   obtain ⟨c2,hc2⟩:∃ c2,(s'.heap.update kS (BO (·.push (.ref t)))).get? kS = some (seqObj "list" (Cw (ks ++ [.ref t])) c2):=⟨_,by rw [← ea];exact EJ pa.1 (·.push (.ref t))⟩
   refine ⟨t,c2,H',rfl,?_,S,g⟩
   exact Inv.turn (t':=s'.toks) I' ⟨pa.2,O.loc,O.nfs,O.ab,O.ncl,O.npn⟩ hp (fun d u nd q=>by rw [BY _ _ (Ne.symm nd)];exact q) hc2 oB
  ·obtain ⟨rfl,k,t,e',H',rfl,I',S,g⟩:=hq
   show wpAny (model X.prog X.w) A (forIn (r.map fun p=>Ap p.1) PUnit.unit body) _ E s'
   refine BL (xY st0 hk hn hb r (done ++ [p]) (ks ++ [.ref t]) e' H' s' I' ⟨I'.pinAt.2,O.loc,O.nfs,O.ab,O.ncl,O.npn⟩ hp (st0 _ _ S p0) (jU.same S fun q m=>it q (AQ _ m)) ((kt.same S).snoc g) (by rw [Ae,Br];omega)) (fun _ s2 hz=>?_) fun _ _ x=>x
   obtain ⟨ks2,e2,H2,I2,S2,kt2⟩:=hz
   refine ⟨ks2,e2,H2,I2,S.trans S2,?_⟩
   rw [Bc] at kt2
   exact kt2
end
end L2
namespace L2
open PySem PySem.Spec PyProof.Rows PySem.W
theorem jQ {α β:Type} (f:α → β) (d:β):∀ (l:List α) (i:Nat),(l.map f).getD i d = match l[i]? with | some a=>f a | none=>d
 | [],i=>by simp
 | a :: l,0=>rfl
 | a :: l,i + 1=>by simpa using jQ f d l i
section
variable {X:Cx} {pins:List (Addr × Obj)} {σ:List (Option V)} {A:Around} {f:Addr} {P0:Hp → Prop}
theorem aLQ {M:Model} {h:Heap} {i:Int} {t:Tok}:Looks M h (typeOf (.int i t)) (.type "int"):=Looks.of_pure rfl
theorem aHA {π:List Nat} {ps:List (Addr × List Int)} (h:∀ i ∈ π,i < ps.length):bF (π.map fun i=>(ps.map fun p=>V.ref p.1).getD i .non) (π.map fun i=>(ps.map fun p=>Ap p.1).getD i Bg):=by
 induction π with
 | nil=>exact .nil
 | cons i π ih =>
  refine .cons ?_ (ih fun j m=>h j (AQ _ m))
  have hi:=h i AU
  show bI ((ps.map fun p=>V.ref p.1).getD i .non) ((ps.map fun p=>Ap p.1).getD i Bg)
  rw [jQ,jQ,AC hi]
  rfl
theorem aHH {D kS:Addr} {e e1:Nat} {ps:List (Addr × List Int)} {ks:List Value} {H:Hp} {s:Shared} {π:Array Nat} {Q:VK} {E:Value → Shared → Prop} (hu:A.units + 8 < cLine)
  (I:Inv X ((kS,seqObj "list" ks.toArray e) :: (D,seqObj "list" #[] e1) :: pins) σ H s) (OD:Ours X H D) (OS:Ours X H kS) (nDS:D ≠ kS) (hpD:∀ p ∈ pins,p.1 ≠ D) (hpS:∀ p ∈ pins,p.1 ≠ kS)
  (it:jU H ps) (kt:eG H ks ps) (h2:2 ≤ ps.length) (h64:ps.length < 64) (hπ:kL (ps.map (·.2)) = some π) (hb:∀ i ∈ π.toList,i < ps.length) (hs:π.size = ps.length)
  (q:∀ H',aJ H H' → H D = none → H' D = some (.lst (π.toList.map fun i=>(ps.map fun p=>V.ref p.1).getD i .non)) → Q (.ref D) H') :
  wpAny (model X.prog X.w) A (ksk_end D false (ps.map fun p=>Ap p.1).toArray e1 (.ref kS) ks.toArray) (fun fin s'=>fin = .done (.ret .none) ∧ EP X pins σ Q (.ref D) s') E s:=by
 have hl:=kt.length
 have hn2:¬ (ps.map fun p=>Ap p.1).toArray.size < 2:=by rw [AR,AA];omega
 unfold ksk_end
 dsimp only
 rw [if_neg Ad,if_neg Ad,if_neg hn2,if_neg hn2]
 obtain ⟨fs,kf,lf,inf⟩:=xX I kt
 refine AD (kat_kind (T:=.type "int") kf (by omega) (fun v m=>by obtain ⟨i,t,rfl⟩:=inf v m;exact aLQ) (by decide) ?_)
 have hT:(Ca "int" != Ca "tuple") = true:=by decide
 rw [hT]
 refine AD (BL (kat_run (Q:=fun st' s'=>s' = s ∧ ∃ p:Array Nat,p = π ∧ arrOf st' = p.map (kas_item (ks.toArray.zip (ps.map fun p=>Ap p.1).toArray)) ∧ failedOf st' = none) (G:=fun p s'=>p = π ∧ s' = s) (by rw [AA];exact hl) (by rw [AA];exact h2) (by rw [AA];exact h64)
  (fun p st' s' a1 a2 a3 a4=>⟨a4.2,p,a4.1,a2,a3⟩) ?_) (fun r s' hr=>?_) fun _ _ x=>x)
 ·rw [AA]
  have hπ':aCW ps.length (fun i j=>kF ((ps.map (·.2)).getD i []) ((ps.map (·.2)).getD j [])) (kas_sort ps.length) = some π:=by
   unfold kL at hπ
   rw [AA] at hπ
   exact hπ
  refine aAV (n:=ps.length) (lt:=fun i j=>kF ((ps.map (·.2)).getD i []) ((ps.map (·.2)).getD j [])) (fun i j C hi hj c=>?_) _ π _ hπ' ⟨rfl,rfl⟩
  obtain ⟨t,p,k1,g1,e1'⟩:=kt.get i hi
  obtain ⟨u,p',k2,g2,e2'⟩:=kt.get j hj
  unfold kas_ask
  rw [k1,k2]
  refine aRH I hu e1' e2' (it p (AM g1)) (it p' (AM g2)) ?_
  rw [jQ,jQ,g1,g2] at c
  exact c
 ·obtain ⟨⟨⟩,st⟩:=r
  obtain ⟨hs1,p,hp1,har,hf⟩:=hr
  rw [hs1]
  rw [hp1] at har
  dsimp only
  have hout:=kat_snds (ks:=ks) (vs:=ps.map fun p=>Ap p.1) (by rw [AA];exact hl) har
  unfold ksk_tail
  dsimp only
  rw [hout]
  have pS:=I.pinAt
  have pD:=I.pinDrop.pinAt
  refine AD (Eh pS.1 rfl ?_ (by rw [AR,CJ];omega) (BK _))
  refine AD (wpAny_letGo ?_)
  have gD:(s.heap.update kS (BO fun _=>(#[]:Array Value))).get? D = some (seqObj "list" #[] e1):=by rw [BY _ _ (Ne.symm nDS)];exact pD.1
  refine AD (seqEpoch_at gD rfl ?_)
  have hz:(Cw (π.toList.map fun i=>(ps.map fun p=>Ap p.1).getD i Bg)).size = ps.length:=by rw [AR,AA,Ba,hs]
  refine AD (Eh gD rfl ?_ (BK _) (by rw [if_neg Ad,hz,CJ];omega))
  rw [hf]
  simp only [bne_self_eq_false,EW,if_false]
  refine AZ ⟨rfl,?_⟩
  have I1:=I.pinDrop.pinDrop
  have I2:=Inv.pins_of (pins':=(D,seqObj "list" #[] e1) :: pins) I fun p hp=>I.pin p (Am _ (AQ _ hp))
  have I3:Inv X ((D,seqObj "list" #[] e1) :: pins) σ H { s with heap:=s.heap.update kS (BO fun _=>(#[]:Array Value)),toks:=s.toks }:=by
   obtain ⟨cS,hcS⟩:∃ c2,(s.heap.update kS (BO fun _=>(#[]:Array Value))).get? kS = some (seqObj "list" #[] c2):=⟨_,EJ pS.1 fun _=>#[]⟩
   refine (Inv.turn (t':=s.toks) (o':=seqObj "list" #[] cS) I OS (fun p hp=>?_) (fun d u nd g=>by rw [BY _ _ (Ne.symm nd)];exact g) hcS oB).pinDrop
   rcases Ah.mp hp with rfl | hp
   ·exact nDS
   ·exact hpS p hp
  obtain ⟨c2,hc2⟩:∃ c2,((s.heap.update kS (BO fun _=>(#[]:Array Value))).update D (BO fun _=>Cw (π.toList.map fun i=>(ps.map fun p=>Ap p.1).getD i Bg))).get? D = some (seqObj "list" (Cw (π.toList.map fun i=>(ps.map fun p=>Ap p.1).getD i Bg)) c2):=⟨_,EJ gD fun _=>_⟩
  have I4:=Inv.turn (t':=s.toks) (o':=seqObj "list" (Cw (π.toList.map fun i=>(ps.map fun p=>Ap p.1).getD i Bg)) c2) I3 OD hpD (fun d u nd g=>by rw [BY _ _ (Ne.symm nd)];exact g) hc2 oB
  have I5:=Inv.track (u:=.lst (π.toList.map fun i=>(ps.map fun p=>V.ref p.1).getD i .non)) I4 OD hpD ⟨by rw [AA,Ba,hs,CJ];omega,_,c2,aHA hb,hc2⟩
  exact ⟨.ref D,_,I5,rfl,q _ (fun b o e=>by rw [aI (aO e OD.nt)];exact e) OD.nt aE⟩
end
end L2
namespace L2
open PySem PySem.Spec PyProof.Rows PySem.W
section
variable {X:Cx} {pins:List (Addr × Obj)} {σ:List (Option V)} {A:Around} {f:Addr} {P0:Hp → Prop}
theorem aHI {D kS:Addr} {e1:Nat} {ps:List (Addr × List Int)} {H:Hp} {s:Shared} {π:Array Nat} {Q:VK} {E:Value → Shared → Prop} (hu:A.units + 8 < cLine) (st0:∀ H H',aJ H H' → P0 H → P0 H') (hk:aPJ X σ A f P0)
  (I:Inv X ((kS,seqObj "list" #[] 0) :: (D,seqObj "list" #[] e1) :: pins) σ H s) (OD:Ours X H D) (OS:Ours X H kS) (nDS:D ≠ kS) (hpD:∀ p ∈ pins,p.1 ≠ D) (hpS:∀ p ∈ pins,p.1 ≠ kS)
  (p0:P0 H) (it:jU H ps) (h2:2 ≤ ps.length) (h64:ps.length < 64) (hπ:kL (ps.map (·.2)) = some π) (hb:∀ i ∈ π.toList,i < ps.length) (hs:π.size = ps.length)
  (q:∀ H',aJ H H' → H D = none → H' D = some (.lst (π.toList.map fun i=>(ps.map fun p=>V.ref p.1).getD i .non)) → Q (.ref D) H') :
  wpAny (model X.prog X.w) A (ksk_rest D (.ref f) false (ps.map fun p=>Ap p.1).toArray e1 (.ref kS)) (fun fin s'=>fin = .done (.ret .none) ∧ EP X pins σ Q (.ref D) s') E s:=by
 unfold ksk_rest
 refine AD (Ej ?_)
 first
  | rw [List.forIn_toArray]
  | (rw [← Array.forIn_toList];simp only [List.toList_toArray])
  | rw [← Array.forIn_toList]
 refine AD (BL (xY (kS:=kS) (pins:=(D,seqObj "list" #[] e1) :: pins) st0 hk h64 (fun x ks s' C hx=>?_) ps [] [] 0 H s I OS (fun p hp=>?_) p0 it trivial (by simp)) (fun _ s' hd=>?_) fun _ _ x=>x)
 ·refine AD (wpAny_attempt (BL hx (fun k s'' hk=>?_) fun _ _ hF=>hF.elim))
  try dsimp only
  exact AD (BL hk (fun _ s3 h3=>AZ ⟨rfl,k,h3⟩) fun _ _ z=>z.elim)
 ·rcases Ah.mp hp with rfl | hp
  ·exact nDS
  ·exact hpS p hp
 ·obtain ⟨ks,e,H',I',S,kt⟩:=hd
  rw [Dx] at kt
  try dsimp only
  refine AD (listItems_at I'.pinAt.1 rfl ?_)
  have pD:=I'.pinDrop.pinAt
  exact aHH hu I' ⟨pD.2,OD.loc,OD.nfs,OD.ab,OD.ncl,OD.npn⟩ ⟨I'.pinAt.2,OS.loc,OS.nfs,OS.ab,OS.ncl,OS.npn⟩ nDS hpD hpS (it.same S) kt h2 h64 hπ hb hs fun H2 S2 n2 e2=>q H2 (S.trans S2) OD.nt e2
theorem aBX {H:Hp} {s:Shared} (I:Inv X pins σ H s) {b:Addr} (h:s.heap.objs.size ≤ b):∀ p ∈ pins,p.1 ≠ b:=fun p hp z=>by
 have ho:=(I.pin p (Am _ hp)).1
 exact absurd (Aa ho) (by rw [z];exact Nat.not_lt.mpr h)
theorem aBL {l:Addr} {ps:List (Addr × List Int)} {H:Hp} {s:Shared} {π:Array Nat} {Q:VK} {E:Value → Shared → Prop} (hu:A.units + 16 < cLine) (st0:∀ H H',aJ H H' → P0 H → P0 H') (hk:aPJ X σ A.in1.in1 f P0)
  (I:Inv X pins σ H s) (sq:SqL X.K H l (ps.map fun p=>V.ref p.1)) (p0:P0 H) (it:jU H ps) (h2:2 ≤ ps.length) (h64:ps.length < 64) (hπ:kL (ps.map (·.2)) = some π) (hb:∀ i ∈ π.toList,i < ps.length) (hs:π.size = ps.length)
  (q:∀ (D:Addr) (H':Hp),aJ H H' → H D = none → H' D = some (.lst (π.toList.map fun i=>(ps.map fun p=>V.ref p.1).getD i .non)) → Q (.ref D) H') :
  wpAny (model X.prog X.w) A (call (.builtin "sorted") [.ref l] [("key",.ref f)]) (EP X pins σ Q) E s:=by
 obtain ⟨its,rv,pl,hz⟩:=I.list sq
 have ei:its = ps.map fun p=>Ap p.1:=by
  clear sq hz pl hπ hb hs it p0 q h2 h64
  induction ps generalizing its with
  | nil=>cases rv;rfl
  | cons p ps ih =>
   cases rv with
   | cons a b =>
    cases a
    rw [AY,← ih _ b]
 subst ei
 have hlen:(ps.map fun p=>Ap p.1).length = ps.length:=AA ..
 refine call_function_entry_kw kind_sorted plain_sorted entry_sorted (ksk_s1 _ _) ?_
 unfold Builtin.«sorted»
 refine AD (m:=checkCount "sorted" 1 1 _) (AZ ?_)
 refine AD (collect_list pl.isList ?_ (by rw [hlen,CJ];omega))
 refine AD (wpAny_newList ?_ (by rw [hlen,CJ];omega))
 generalize hvs:(ps.map fun p=>Ap p.1) = vs at *
 have hsz:((s.heap.push (seqObj "list" #[] 0)).update s.heap.objs.size (BO (· ++ vs.toArray))).objs.size = s.heap.objs.size + 1:=by
  rw [Ei,size_push']
 have hoL:(((s.heap.push (seqObj "list" #[] 0)).update s.heap.objs.size (BO (· ++ vs.toArray))).push (seqObj "list" vs.toArray 0)).get? (s.heap.objs.size + 1) = some (seqObj "list" vs.toArray 0):=by
  rw [← hsz];exact Ab _ rfl
 have keep:∀ b o,s.heap.get? b = some o → (((s.heap.push (seqObj "list" #[] 0)).update s.heap.objs.size (BO (· ++ vs.toArray))).push (seqObj "list" vs.toArray 0)).get? b = some o:=fun b o q=>by
  have hlt:b < s.heap.objs.size:=Aa q
  rw [Heap.get?_push_ne _ _ _ (by rw [hsz];exact Af (De hlt)),Heap.get?_update_ne _ _ _ _ (Af hlt),Heap.get?_push_ne _ _ _ (Af hlt)]
  exact q
 show wpAny _ _ _ _ _ { s with heap:=((s.heap.push (seqObj "list" #[] 0)).update s.heap.objs.size (BO (· ++ vs.toArray))).push (seqObj "list" vs.toArray 0) }
 rw [hsz]
 have OD:Ours X H (s.heap.objs.size + 1):=Ours.new I (CO _)
 have hpD:=aBX I (CO s.heap.objs.size)
 have I1:Inv X pins σ H { s with heap:=((s.heap.push (seqObj "list" #[] 0)).update s.heap.objs.size (BO (· ++ vs.toArray))).push (seqObj "list" vs.toArray 0),toks:=s.toks }:=I.kept keep
 have hs2:(((s.heap.push (seqObj "list" #[] 0)).update s.heap.objs.size (BO (· ++ vs.toArray))).push (seqObj "list" vs.toArray 0)).objs.size = s.heap.objs.size + 2:=by rw [size_push',hsz]
 generalize hh:((s.heap.push (seqObj "list" #[] 0)).update s.heap.objs.size (BO (· ++ vs.toArray))).push (seqObj "list" vs.toArray 0) = h1 at *
 refine AD (CI (wpAny_call_entry_kw slot_list_sort ⟨_,hoL,rfl⟩ entry_list_sort ?_ (ksk_l1 _ _)))
 show wpAny (model X.prog X.w) A.in1.in1 (Builtin.«list.sort» ⟨[.ref (s.heap.objs.size + 1)],[(Str.ofString "key",.ref f)]⟩) _ _ _
 rw [ksk_t1]
 unfold ksk_tree
 have I2:=Inv.pinAdd I1 hoL OD oB
 refine AD (listItems_at hoL rfl ?_)
 refine AD (Eh hoL rfl ?_ (by rw [AR,hlen,CJ];omega) (BK _))
 obtain ⟨e1,ho1⟩:∃ e1,(h1.update (s.heap.objs.size + 1) (BO fun _=>(#[]:Array Value))).get? (s.heap.objs.size + 1) = some (seqObj "list" #[] e1):=⟨_,EJ hoL fun _=>#[]⟩
 have I3:=Inv.turn (t':=s.toks) I2 OD hpD (fun d u nd q=>by rw [BY _ _ (Ne.symm nd)];exact q) ho1 oB
 refine AD (seqEpoch_at ho1 rfl ?_)
 refine AD (wpAny_newTuple ?_ (by show vs.length ≤ _;rw [hlen,CJ];omega))
 refine AD (wpAny_newList ?_ (BK _))
 refine CI ?_
 have hs3:((h1.update (s.heap.objs.size + 1) (BO fun _=>(#[]:Array Value))).push (seqObj "tuple" vs.toArray 0)).objs.size = s.heap.objs.size + 3:=by rw [size_push',Ei,hs2]
 have k4:∀ b o,(h1.update (s.heap.objs.size + 1) (BO fun _=>(#[]:Array Value))).get? b = some o → (((h1.update (s.heap.objs.size + 1) (BO fun _=>(#[]:Array Value))).push (seqObj "tuple" vs.toArray 0)).push (seqObj "list" #[] 0)).get? b = some o:=fun b o e=>AE _ (AE _ e)
 have I4:Inv X ((s.heap.objs.size + 1,seqObj "list" #[] e1) :: pins) σ H { s with heap:=((h1.update (s.heap.objs.size + 1) (BO fun _=>(#[]:Array Value))).push (seqObj "tuple" vs.toArray 0)).push (seqObj "list" #[] 0),toks:=s.toks }:=I3.kept k4
 have gS:(((h1.update (s.heap.objs.size + 1) (BO fun _=>(#[]:Array Value))).push (seqObj "tuple" vs.toArray 0)).push (seqObj "list" #[] 0)).get? (s.heap.objs.size + 3) = some (seqObj "list" #[] 0):=by
  rw [← hs3];exact Ab _ rfl
 have OS:Ours X H (s.heap.objs.size + 3):=Ours.new I (by omega)
 have I5:=Inv.pinAdd I4 gS OS oB
 rw [show ((h1.update (s.heap.objs.size + 1) (BO fun _=>(#[]:Array Value))).push { cls:=.type "tuple",data:=.seq vs.toArray.toList.toArray }).objs.size = s.heap.objs.size + 3 from by rw [size_push',Ei,hs2]]
 rw [← hvs] at I5 ⊢
 refine BL (aHI (D:=s.heap.objs.size + 1) (kS:=s.heap.objs.size + 3) (by show A.units + 1 + 1 + 8 < cLine;omega) st0 hk I5 OD OS (Af (Nat.add_lt_add_left (by decide) _)) hpD (aBX I (Em _ 3)) p0 it h2 h64 hπ hb hs (q _)) (fun fin s' hf=>?_) fun _ _ x=>x
 obtain ⟨rfl,ep⟩:=hf
 exact ⟨_,rfl,AZ ⟨_,rfl,ep⟩⟩
end
end L2
namespace L2
open PySem PySem.Spec PyProof.Rows
section
variable {X:Cx}
end
def aAT (nt:Nat) (u:TGs):Prop:=∀ vs σ H Q,u vs σ H Q → u vs σ H fun σ2 H2=>Q σ2 H2 ∧ σ2.length = σ.length ∧ ∀ i,nt ≤ i → σ2[i]? = σ[i]?
theorem vM {nt:Nat}:aAT nt aTR:=fun vs σ H Q ⟨e,q⟩=>⟨e,q,rfl,fun _ _=>rfl⟩
theorem kB {nt i:Nat} {u:TGs} (h:i < nt) (hu:aAT nt u):aAT nt (aPY (sM i) u):=fun vs σ H Q ⟨v,r,e,q⟩=>by
 have q':=hu r (σ.set i (some v)) H Q q
 have ef:(fun (σ2:St) (H2:Hp)=>Q σ2 H2 ∧ σ2.length = (σ.set i (some v)).length ∧ ∀ j,nt ≤ j → σ2[j]? = (σ.set i (some v))[j]?) = (fun (σ2:St) (H2:Hp)=>Q σ2 H2 ∧ σ2.length = σ.length ∧ ∀ j,nt ≤ j → σ2[j]? = σ[j]?):=by
  funext σ2 H2
  rw [List.length_set]
  have:(∀ j,nt ≤ j → σ2[j]? = (σ.set i (some v))[j]?) = (∀ j,nt ≤ j → σ2[j]? = σ[j]?):=by
   refine propext ⟨fun h1 j hj=>?_,fun h1 j hj=>?_⟩
   ·rw [h1 j hj,Ck (by omega)]
   ·rw [h1 j hj,Ck (by omega)]
  rw [this]
 rw [ef] at q'
 exact ⟨v,r,e,q'⟩
theorem yE {nt n:Nat} {K:AG} {u:TGs} (hu:aAT nt u):aDL nt (aRR K n u):=fun x σ H Q ⟨a,xs,e,hq,hl,q⟩=>⟨a,xs,e,hq,hl,hu xs σ H Q q⟩
theorem aGH {X:Cx} {pos:Pos} {es:List Expr} {k:Nat} {t:TGs} {n:Nat} {K:AG} (e:X.K = K) (hc:X.calm = true) (h:PGs X es t)
  (hn:(Dj es X.env).length = n:=by rfl) (hst:(Dj es X.env).findIdx? (·.1) = none:=by rfl):PG X (.Tuple es k pos) (aRR K n t):=by subst e;exact aQW hc h hn hst
end L2
namespace L2
open PySem PySem.Spec PyProof.Rows
theorem yS:BP "abs" = some (.builtin "abs"):=by decide +kernel
theorem aIU:BP "sum" = some (.builtin "sum"):=by decide +kernel
theorem nG {ns:List Int} {us:List Value} (h:IntsAre us ns):us.length = ns.length ∧ ∀ (i:Nat) (v:Value),us[i]? = some v → ∃ t,v = .int (ns.getD i 0) t:=by
 induction h with
 | nil=>exact ⟨rfl,fun i v e=>by cases e⟩
 | cons n t r ih =>
  refine ⟨by rw [Aj,Aj,ih.1],fun i v e=>?_⟩
  cases i with
  | zero=>cases e;exact ⟨t,rfl⟩
  | succ i=>exact ih.2 i v e
theorem sE (ns:List Int):∀ n,n ≤ ns.length → preSum (fun i=>ns.getD i 0) n = (ns.take n).sum
 | 0,_=>by rw [List.take_zero];rfl
 | n + 1,h=>by
  have ih:=sE ns n (by omega)
  have e:ns.take (n + 1) = ns.take n ++ [ns.getD n 0]:=by
   rw [AX,AC (by omega),Ai,AC (by omega)]
   rfl
  rw [e,List.sum_append,← ih]
  show preSum _ n + ns.getD n 0 = _
  simp
section
variable {X:Cx}
theorem aMX (hc:X.calm = true):eO X (.builtin "sum") (fun xs H Q=>∃ (p:Addr) (ns:List Int),xs = [.ref p] ∧ SqL X.K H p (ns.map V.int) ∧ Q (.int ns.sum) H):=by
 intro pins s σ H xs us Q I r h
 obtain ⟨p,ns,rfl,hq,q⟩:=h
 obtain ⟨u,rfl,ru⟩:=bF.one r
 cases ru
 obtain ⟨its,rv,pl,hz⟩:=I.list hq
 have hb:=nG (vL rv)
 have hl:=pl.isList
 have hlt:p < s.heap.objs.size:=by obtain ⟨_,e,_⟩:=hl;exact Aa e
 refine call_sum_walkG (Co hl ?_)
 refine ⟨s.heap.objs.size,[s.heap.objs.size,p],[s.heap.objs.size],its.toArray.size,_,_,fun i=>ns.getD i 0,rfl,EO (A:=X.A.in1) (I.ok.hd hc) _ p (Af hlt) its.toArray,
  ⟨⟨_,Ab _ rfl,rfl,rfl⟩,hl.push _⟩,fun b hb'=>?_,fun i v hP=>hb.2 i v (by simpa using hP),fun h' tk t' hk=>?_⟩
 ·simp only [Ah,Bs,or_false] at hb'
  show b < (s.heap.push _).objs.size
  rw [show (s.heap.push _).objs.size = s.heap.objs.size + 1 from En ..]
  rcases hb' with e | e
  ·rw [e];exact DJ _
  ·rw [e];exact De hlt
 ·have e:preSum (fun i=>ns.getD i 0) its.toArray.size = ns.sum:=by
   rw [sE _ _ (by rw [AR];omega),AF (by rw [AR];omega)]
  rw [e]
  exact ⟨.int _,H,I.kept (LSm.kept_iter hk),⟨_,rfl⟩,q⟩
end
end L2
namespace L2
open PySem PySem.Spec PyProof.Rows
theorem aLT {prog:Program} {w:World} {A:Around} {E:Value → Shared → Prop} {s:Shared} {r:Addr} {Q:Bool → Shared → Prop} (hT:s.TypeIs (.ref r) "list_reverseiterator") (h:Q false s) :
  wpAny (model prog w) A (Builtin.List.listLengthHint (.ref r)) Q E s:=by
 unfold Builtin.List.listLengthHint
 refine AD (Ey hT (r:=none) (by rfl) ?_)
 dsimp only
 rw [if_neg (by decide),if_neg (by decide)]
 refine AD (Ey hT (r:=some (.builtin "list_reverseiterator.__length_hint__")) (by rfl) ?_)
 dsimp only
 rw [show splitId "list_reverseiterator.__length_hint__" = some ("list_reverseiterator","__length_hint__") from by decide +kernel]
 dsimp only
 refine AD (wpAny_isInstance hT (b:=true) (by rfl) ?_)
 rw [if_neg (by decide),if_pos (by decide +kernel),if_neg (by decide +kernel)]
 exact AZ h
theorem aEY {prog:Program} {w:World} {A:Around} {s:Shared} {R:Result → Shared → Prop} {I l:Addr} {items:Array Value} (hh:A.handled = none) (hI:s.heap.IsRevIter I l ((items.size:Int) - 1)) (hl:s.heap.IsList l items) (hne:l ≠ I) (hn:items.size ≤ Aq)
  (S:Addr) (hSI:S ≠ I) (hSl:S ≠ l) (res:Value) (c₀:Nat) (hS:s.heap.get? S = some { cls:=.type "list",data:=.seq #[] c₀ })
  (hR:∀ (h':Heap) (tk:Nat) (acc':Array Value) (c':Nat),(∀ (b:Addr) (o:Obj),b ≠ S → b ≠ I → s.heap.get? b = some o → h'.get? b = some o) → h'.get? S = some { cls:=.type "list",data:=.seq acc' c' } → ItemsOf (fun i v=>items[items.size - 1 - i]? = some v) acc' items.size → R (.ok (.ret res)) { s with heap:=h',toks:=tk }) :
  wpAny (model prog w) A.in1 (Builtin.List.listExtendWith (.ref S) (.ref I) res) (fun fin s'=>match fin with | .done f=>R (.ok f) s' | .again c'=>c'.quiet = true ∧ codeAny (model prog w) A c' R s') (fun e s'=>R (.error e) s') s:=by
 have hT:s.TypeIs (.ref I) "list_reverseiterator":=hI.typeIs
 have hSf:¬ S ∈ [I,l]:=by simp [hSI,hSl]
 have W:=Walks.listRev (prog:=prog) (w:=w) (A:=A.in1) hh I l hne items
 have key:∀ (h:Heap) (c₁:Nat) (tk:Nat),(∀ (b:Addr) (o:Obj),b ≠ S → s.heap.get? b = some o → h.get? b = some o) → h.get? S = some { cls:=.type "list",data:=.seq #[] c₁ } →
   codeAny (model prog w) A (.builtin "list.extend.loop" { pos:=[.ref S,.ref I,res] }) R { s with heap:=h,toks:=tk }:=fun h c₁ tk hk hS₁=>by
  refine codeAny_extend_loopS W.toS hn S hSf res items.size 0 { s with heap:=h,toks:=tk } #[] c₁ rfl (BK _) ?_ hS₁ (ItemsOf.nil _) fun s' acc' c' hm hS' hacc=>?_
  ·refine ⟨BK _,?_,?_⟩
   ·have:((items.size:Int) - 1 - ((0:Nat):Int)) = (items.size:Int) - 1:=by omega
    rw [this]
    obtain ⟨o,ho,r⟩:=hI
    exact ⟨o,hk _ _ (Ne.symm hSI) ho,r⟩
   ·obtain ⟨o,ho,r⟩:=hl
    exact ⟨o,hk _ _ (Ne.symm hSl) ho,r⟩
  ·rw [Moved.eq_with hm]
   refine hR s'.heap s'.toks acc' c' (fun b o h1 h2 e=>hm.heap b o (fun hmem=>?_) (hk b o h1 e)) hS' hacc
   rcases Ah.mp hmem with e' | hmem
   ·exact h1 e'
   ·exact h2 (AV.mp hmem)
 unfold Builtin.List.listExtendWith
 refine AD (EE hT ?_)
 have e0:Builtin.List.listSameRef (.ref S) (.ref I) = false:=by
  show (S == I) = false
  exact beq_eq_false_iff_ne.mpr hSI
 rw [e0,if_neg (by decide +kernel)]
 refine AD (wpAny_pyIter_revIter hI ?_)
 refine AD (CI (aLT hT ?_))
 have e0:s = { s with heap:=s.heap,toks:=s.toks }:=rfl
 refine wpAny_ite_split (fun _=>?_) (fun _=>?_)
 ·refine AD (Ej (AD ?_))
  unfold Builtin.List.listTouch
  refine AD (Ex hS rfl ?_)
  have hS₂:=DE (BO fun x=>x.push Bg) hS rfl
  refine Ex hS₂ rfl ?_
  have hS₃:=DE (BO fun x=>x.pop) hS₂ rfl
  refine AZ ⟨CY F.plain_extend_loop _,key _ _ _ (fun b o hb e=>?_) hS₃⟩
  rw [BY _ _ (Ne.symm hb),BY _ _ (Ne.symm hb)]
  exact e
 ·exact AZ ⟨CY F.plain_extend_loop _,key s.heap c₀ s.toks (fun b o _ e=>e) hS⟩
theorem aLR {prog:Program} {w:World} {A:Around} {s:Shared} {R:Result → Shared → Prop} {I l:Addr} {items:Array Value} (hh:A.handled = none) (hI:s.heap.IsRevIter I l ((items.size:Int) - 1)) (hl:s.heap.IsList l items) (hne:l ≠ I) (hn:items.size ≤ Aq)
  (S:Addr) (hSI:S ≠ I) (hSl:S ≠ l) (hS:s.heap.get? S = some { cls:=.type "list",data:=.seq #[] })
  (hR:∀ (h':Heap) (tk:Nat) (acc':Array Value) (c':Nat),(∀ (b:Addr) (o:Obj),b ≠ S → b ≠ I → s.heap.get? b = some o → h'.get? b = some o) → h'.get? S = some { cls:=.type "list",data:=.seq acc' c' } → ItemsOf (fun i v=>items[items.size - 1 - i]? = some v) acc' items.size → R (.ok (.ret .none)) { s with heap:=h',toks:=tk }) :
  wpAny (model prog w) A.in1 (Builtin.«list.__init__» { pos:=[.ref S,.ref I] }) (fun fin s'=>match fin with | .done f=>R (.ok f) s' | .again c'=>c'.quiet = true ∧ codeAny (model prog w) A c' R s') (fun e s'=>R (.error e) s') s:=by
 refine AD (AD (FA hS rfl (AZ ?_)))
 refine AD (Ex hS rfl ?_)
 have hS₂:=DE (BO fun x=>#[]) hS rfl
 have oth:∀ (b:Addr) (o:Obj),b ≠ S → s.heap.get? b = some o → (s.heap.update S (BO fun x=>#[])).get? b = some o:=fun b o hb e=>(BY s.heap (BO fun x=>#[]) (Ne.symm hb)).trans e
 refine AD (wpAny_letGo ?_)
 refine aEY hh ?_ ?_ hne hn S hSI hSl .none _ hS₂ fun h' tk acc' c' hk hS' hacc=>hR h' tk acc' c' (fun b o h1 h2 e=>hk b o h1 h2 (oth b o h1 e)) hS' hacc
 ·obtain ⟨o,ho,r⟩:=hI
  exact ⟨o,oth _ _ (Ne.symm hSI) ho,r⟩
 ·obtain ⟨o,ho,r⟩:=hl
  exact ⟨o,oth _ _ (Ne.symm hSl) ho,r⟩
theorem aCO {prog:Program} {w:World} {A:Around} {E:Value → Shared → Prop} {s:Shared} {Q:Value → Shared → Prop} {I l:Addr} {items:Array Value} (hh:A.handled = none) (hI:s.heap.IsRevIter I l ((items.size:Int) - 1)) (hl:s.heap.IsList l items) (hne:l ≠ I) (hn:items.size ≤ Aq)
  (hQ:∀ (h':Heap) (tk:Nat) (acc':Array Value) (c':Nat),(∀ (b:Addr) (o:Obj),b ≠ I → s.heap.get? b = some o → h'.get? b = some o) → h'.get? s.heap.objs.size = some { cls:=.type "list",data:=.seq acc' c' } → ItemsOf (fun i v=>items[items.size - 1 - i]? = some v) acc' items.size → Q (.ref s.heap.objs.size) { s with heap:=h',toks:=tk }) :
  wpAny (model prog w) A (call (.type "list") [.ref I]) Q E s:=by
 have lI:I < s.heap.objs.size:=by obtain ⟨_,e,_⟩:=hI;exact Aa e
 have ll:l < s.heap.objs.size:=by obtain ⟨_,e,_⟩:=hl;exact Aa e
 refine FB F.called_list (F.typeCall_list_1 (.ref I)) F.entry_list_init (code_list_new (.ref I) (Q₁:=fun o s₁=>o = .ref s.heap.objs.size ∧ s₁ = { s with heap:=s.heap.push { cls:=.type "list",data:=.seq #[] } }) ⟨rfl,rfl⟩) fun obj s₁ h₁=>?_
 obtain ⟨rfl,rfl⟩:=h₁
 have hS:=Ab (o:={ cls:=Ca "list",data:=Data.seq #[] }) s.heap rfl
 refine ⟨⟨_,hS,rfl⟩,F.args_list_init_2 _ _,?_⟩
 refine aLR (A:=A.in1) hh ?_ ?_ hne hn s.heap.objs.size (Ne.symm (Af lI)) (Ne.symm (Af ll)) hS fun h' tk acc' c' hk hS' hacc=>⟨rfl,?_⟩
 ·obtain ⟨o,ho,r⟩:=hI
  exact ⟨o,AE _ ho,r⟩
 ·obtain ⟨o,ho,r⟩:=hl
  exact ⟨o,AE _ ho,r⟩
 ·exact hQ h' tk acc' c' (fun b o h1 e=>hk b o (Af (Aa e)) h1 (AE _ e)) hS' hacc
theorem wF:BP "reversed" = some (.type "reversed"):=by decide +kernel
section
variable {X:Cx} {e:Expr} {t:TA} {p1 p2:Pos} {pos1 pos2:Pos}
def aSU (K:AG):List V → Hp → VK → Prop:=fun xs H Q=>∃ p ys,xs = [.ref p] ∧ SqL K H p ys ∧ ∀ l,H l = none → Q (.ref l) (upd H l (.lst ys.reverse))
theorem aEE (hc:X.calm = true) (hg1:Gl X "list") (hm1:X.mg "list" = none) (hg2:Gl X "reversed") (hm2:X.mg "reversed" = none) (ha:PA X [e] t)
  (he1:At [e] X.env = (false,eval e X.env) :: At [] X.env:=by rfl)
  (he2:At [.Call (.Name "reversed" p2) [e] [] pos2] X.env = (false,eval (.Call (.Name "reversed" p2) [e] [] pos2) X.env) :: At [] X.env:=by rfl) :
  PE X (.Call (.Name "list" p1) [.Call (.Name "reversed" p2) [e] [] pos2] [] pos1) (tCB (aSU X.K) t):=by
 intro pins s σ H Q I h
 refine CM (nB I hg1 hm1 dH ?_ (by decide) (by decide))
 refine Bu ?_ he2 rfl
 rw [he2]
 show wpAny _ _ (spliced ((false,eval _ X.env) :: backTo pos1 (At [] X.env))) _ _ s
 refine Calls.spliced_cons ?_
 refine CM (nB I hg2 hm2 wF ?_ (by decide) (by decide))
 refine Bu (thn (ha pos2 pins s σ H _ I h) fun us s1 ⟨vs,H1,I1,r1,q1⟩=>?_) he1 rfl
 obtain ⟨p,ys,rfl,hq,q⟩:=q1
 obtain ⟨u,rfl,ru⟩:=bF.one r1
 cases ru
 obtain ⟨its,rv,pl,hz⟩:=I1.list hq
 have hl:=pl.isList
 have hlt:p < s1.heap.objs.size:=by obtain ⟨_,e,_⟩:=hl;exact Aa e
 refine call_reversed_list hl ?_
 refine Calls.spliced_nil ?_
 refine aCO (l:=p) (items:=its.toArray) (I.ok.hd hc) ⟨_,Ab _ rfl,rfl,rfl⟩ ?_ (Af hlt) (by rw [AR,← rv.length];exact hz) fun h' tk acc c hk hg hi=>?_
 ·obtain ⟨o,ho,r⟩:=hl
  exact ⟨o,AE _ ho,r⟩
 have hk':∀ (b:Addr) (o:Obj),s1.heap.get? b = some o → h'.get? b = some o:=fun b o e=>hk b o (Af (Aa e)) (AE _ e)
 have hge:s1.heap.objs.size ≤ (s1.heap.push (revObj p ((its.toArray.size:Int) - 1))).objs.size:=by
  rw [show (s1.heap.push (revObj p ((its.toArray.size:Int) - 1))).objs.size = s1.heap.objs.size + 1 from En ..]
  exact CO _
 refine ⟨.ref _,_,I1.laid (t':=tk) hk' hge (show bP X.prog X.w _ h' _ (.lst ys.reverse) from ⟨by rw [DM];exact hz,acc.toList,c,?_,by simpa using hg⟩),rfl,q _ (I1.hok.fresh hge)⟩
 have hlen:=rv.length
 have e0:acc.size = its.length:=by rw [hi.1,AR]
 refine tJ (by rw [DM,Ba,e0,hlen]) fun j u x e1 e2=>?_
 have e3:=hi.2 j u (by rw [← CH];exact e1)
 have hj:j < ys.length:=by
  have:=(AB.mp e2).1
  rw [DM] at this
  exact this
 rw [List.getElem?_reverse hj] at e2
 have e4:its[ys.length - 1 - j]? = some u:=by
  have:its.toArray[its.toArray.size - 1 - j]? = some u:=e3
  rw [AR] at this
  rw [hlen]
  simpa using this
 obtain ⟨u',e5,r5⟩:=rv.get e2
 rw [e4] at e5
 cases e5
 exact r5
end
end L2
namespace L2
open PySem PySem.Spec PyProof.Rows
theorem tZ:∀ {ys:List Str} {us:List Value},bF (ys.map V.str) us → StrsAre us ys
 | [],us,r=>by
  rw [Cc] at r
  cases r
  exact .nil
 | b :: bs,us,r=>by
  rw [AY] at r
  cases r with
  | cons r1 r2 =>
   obtain ⟨t,rfl⟩:=r1
   exact .cons b t (tZ r2)
section
variable {X:Cx}
theorem aOO:MtR X "str.join" (fun x vs H Q=>∃ z p ys,x = .str z ∧ vs = [.ref p] ∧ SqL X.K H p (ys.map V.str) ∧ (ys.map fun y=>y.length).sum + ys.length * z.length ≤ 16777216 ∧ Q (.str (Txt.join z ys)) H):=by
 intro pins s σ H x xs v us Q I rx r h
 obtain ⟨z,p,ys,rfl,rfl,hq,hz,q⟩:=h
 obtain ⟨t,rfl⟩:=rx
 obtain ⟨u,rfl,ru⟩:=bF.one r
 cases ru
 obtain ⟨its,rv,pl,hl⟩:=I.list hq
 exact join_list pl.isList (tZ rv) hz fun t' k=>⟨.str _,H,I.tok k,⟨_,rfl⟩,q⟩
end
end L2
namespace L2
open PySem PySem.Spec PyProof.Rows
section
variable {X:Cx}
def tL (K:AG) (t:TE):TT:=fun σ H Q=>t σ H fun x H1=>∃ p xs,x = .ref p ∧ SqL K H1 p xs ∧ Q (!xs.isEmpty) H1
theorem aEB {e:Expr} {t:TE} (h:PE X e t) (he:∀ whole,isTrue e X.env whole = (do let v ← whole;standAt e.pos;holding [v] (truthy v)):=by intro _;rfl):PT X e (tL X.K t):=by
 intro pins s σ H Q I hw
 refine isTrue_plain (thn (h pins s σ H _ I hw) fun v s1 ⟨x,H1,I1,r1,q1⟩=>?_) (he _)
 obtain ⟨p,xs,rfl,hq,q⟩:=q1
 cases r1
 obtain ⟨its,rv,pl,hz⟩:=I1.list hq
 have hlen:=rv.length
 refine wpAny_truthy_list pl.isList ?_ ?_
 ·have:(Aq:Nat) < 2 ^ 63:=by decide
  rw [AR]
  omega
 ·have e:its.toArray.isEmpty = xs.isEmpty:=by
   cases xs with
   | nil=>cases rv;rfl
   | cons x r=>cases rv;rfl
  rw [e]
  exact ⟨H1,I1.tok _,q⟩
end
end L2
namespace L2
open PySem PySem.Spec PyProof.Rows
section
variable {prog:Program} {w:World} {A:Around} {R:Result → Shared → Prop} {I S:Addr} {fp wr:List Addr} {n:Nat} {P:Nat → Value → Prop} {St:Nat → Heap → Prop}
end
section
variable {prog:Program} {w:World} {A:Around} {E:Value → Shared → Prop} {s:Shared}
end
section
variable {X:Cx}
theorem aCP (f:Nat → Int):∀ k,argBest (fun i j=>decide (f i < f j)) k ≤ k ∧ ∀ j ≤ k,f (argBest (fun i j=>decide (f i < f j)) k) ≤ f j
 | 0=>⟨AN _,fun j h=>by rw [Nat.le_zero.mp h];exact Ep _⟩
 | k + 1=>by
  obtain ⟨a1,a2⟩:=aCP f k
  unfold argBest
  by_cases q:f (k + 1) < f (argBest (fun i j=>decide (f i < f j)) k)
  ·rw [if_pos (decide_eq_true q)]
   exact ⟨AN _,fun j m=>by
    by_cases e:j = k + 1
    ·rw [e];exact Ep _
    ·have:=a2 j (by omega)
     omega⟩
  ·rw [if_neg (by rw [decide_eq_true_eq];exact q)]
   exact ⟨by omega,fun j m=>by
    by_cases e:j = k + 1
    ·rw [e];omega
    ·exact a2 j (by omega)⟩
end
end L2
namespace L2
open PySem PySem.Spec PyProof.Rows
def Itd (d:Addr) (o:Obj) (kvs:List (Key × V)):It :=
 ⟨fun i H=>H d = some (.frz o (.dK kvs)) ∧ i < kvs.length,fun i H x H'=>H' = H ∧ ∃ kv,kvs[i]? = some kv ∧ x = kV kv.1,fun i H=>H d = some (.frz o (.dK kvs)) ∧ kvs.length ≤ i⟩
theorem xF {P:Program} {w:World} {K:AG} {tg:Expr} {d it:Addr} {o:Obj} {kvs:List (Key × V)} {vs:List (Key × Value)} {ep:Nat} {h0:Heap} (kv:KV kvs vs) (hd0:h0.get? d = some o) (hat:h0.DictAt (aS P w) d vs ep) :
  Turn P w K tg (Itd d o kvs) [it] it (fun i h=>h.IsKeyIter it d i vs.length ep) where
 mem:=by simp
 obj:=fun i h st b hb=>by
  have e:b = it:=by simpa using hb
  subst e
  obtain ⟨ob,e,c,dd⟩:=st
  exact ⟨ob,e,fun v z=>by rw [dd] at z;cases z⟩
 keep:=fun i h h' st k=>st.at fun ob e=>k it (by simp) ob e
 item:=by
  intro X hP hw hK hc i pins s σ H E I hf st hg
  subst hP hw hK
  obtain ⟨hH,hi⟩:=hg
  obtain ⟨f0,f1,f2,f3,f4,f5⟩:=hf it (by simp)
  have hget:s.heap.get? d = some o:=(show bP X.prog X.w H s.heap d (.frz o (.dK kvs)) from I.hok d _ hH).1
  have hat':=hat.at' (h':=s.heap) fun ob e=>by rw [hd0] at e;cases e;exact hget
  have hl:=KV.length kv
  obtain ⟨⟨k,v⟩,hx⟩:∃ p,vs[i]? = some p:=⟨_,AC (by omega)⟩
  obtain ⟨q,eq,e1,e2⟩:=KV.get kv hx
  refine wpAny_pyNext_dict_item st hat' hx fun key h' hkey st' sb=>?_
  have I1:Inv X pins σ H { s with heap:=h' }:=I.turned (t':=s.toks) (fun b ob hb e=>(sb.2 b hb).trans e) f0 f1 f3 f4 f5
  obtain ⟨ob,e,c,dd⟩:=id st'
  refine ⟨key,rfl,aCS (s:={ s with heap:=h' }) e c dd (by decide) ⟨kV q.1,H,I1,?_,⟨rfl,q,eq,rfl⟩,st',fun b hb=>(hf b hb).1⟩⟩
  rw [show q.1 = k from e1]
  exact yA hkey
 done:=by
  intro X hP hw hK hc i pins s σ H E I hf st hg
  subst hP hw hK
  obtain ⟨hH,hi⟩:=hg
  obtain ⟨f0,f1,f2,f3,f4,f5⟩:=hf it (by simp)
  have hget:s.heap.get? d = some o:=(show bP X.prog X.w H s.heap d (.frz o (.dK kvs)) from I.hok d _ hH).1
  have hat':=hat.at' (h':=s.heap) fun ob e=>by rw [hd0] at e;cases e;exact hget
  have hl:=KV.length kv
  exact wpAny_pyNext_dict_end (I.ok.hd hc) st hat' (List.getElem?_eq_none (by omega)) fun h' eb=>⟨rfl,I.turned (t':=s.toks) (fun b ob hb e=>eb b ob hb e) f0 f1 f3 f4 f5⟩
 self:=fun _ _ _ _ _ st h=>wpAny_pyIter_keyiter st h
section
variable {X:Cx} {tg:Expr}
def aTQ (td:TE):TI:=fun σ H R=>td σ H fun x H1=>∃ d kvs,x = .ref d ∧ H1 d = some (.dK kvs) ∧ ∀ o,R (Itd d o kvs) (upd H1 d (.frz o (.dK kvs)))
theorem zR {l:Expr} {tl:TE} (hl:PE X l tl):PI X tg l (aTQ tl):=by
 intro pins s σ H R I h
 refine thn (hl pins s σ H _ I h) fun v s1 ⟨x,H1,I1,r1,q1⟩=>?_
 obtain ⟨d,kvs,e,hH,q⟩:=q1
 subst e
 cases r1
 have hok:=I1.hok d _ hH
 obtain ⟨hz,lo,vs,kv,hD⟩:=id hok
 obtain ⟨ep,hat⟩:=hD.dictAt
 obtain ⟨o,es,ho,_⟩:=id hat
 refine wpAny_pyIter_dict lo hat ?_
 have I2:Inv X pins σ (upd H1 d (.frz o (.dK kvs))) s1:=I1.write (x:=d) (e:=d) (o:=.frz o (.dK kvs)) (h':=s1.heap) (t':=s1.toks) (by rw [hH];exact trivial) (.inl rfl) (fun _ _ _ q=>q) ⟨o,ho⟩ ⟨ho,hz,lo,vs,kv,hD⟩
 refine ⟨s1.heap.objs.size,[s1.heap.objs.size],_,_,upd H1 d (.frz o (.dK kvs)),rfl,I2.kept (t':=s1.toks) fun b ob e=>AE _ e,xF kv ho hat,⟨_,Ab _ rfl,rfl,rfl⟩,fun b hb=>?_,q o⟩
 have e:b = s1.heap.objs.size:=by simpa using hb
 subst e
 exact I2.fpOk (AN _) (I2.hok.fresh (AN _))
theorem rP {d:Addr} {o:Obj} {kvs:List (Key × V)} {σb:St} {g:TG} {tt:TT} {te:TE} {fin:List V → Hp → Prop} {H:Hp} (hz:kvs.length ≤ Aq) (Pv:Nat → List V → Hp → Prop) (h0:Pv 0 [] H)
  (hl:∀ i ys H,i ≤ kvs.length → Pv i ys H → H d = some (.frz o (.dK kvs)) ∧ ys.length ≤ i)
  (hs:∀ i kv ys H (K:VK) (K':Hp → Prop),kvs[i]? = some kv → Pv i ys H → (∀ y H4,Pv (i + 1) (ys ++ [y]) H4 → K y H4) → (∀ H3,Pv (i + 1) ys H3 → K' H3) →
   g (kV kv.1) σb H fun σ2 H2=>tt σ2 H2 fun b H3=>if b = true then te σ2 H3 K else K' H3)
  (hd:∀ ys H,Pv kvs.length ys H → fin ys H):∃ W:CW,(∃ m,W 0 m [] H) ∧ ∀ i m ys H,W i m ys H → xG σb (Itd d o kvs) g tt te W fin i m ys H:=by
 refine ⟨fun i m ys H=>m = kvs.length - i ∧ i ≤ kvs.length ∧ Pv i ys H,⟨kvs.length,by simp,BK _,h0⟩,?_⟩
 rintro i m ys H ⟨rfl,hi,p⟩
 obtain ⟨q,ql⟩:=hl i ys H hi p
 by_cases hlt:i < kvs.length
 ·refine .inr ⟨⟨q,hlt⟩,by omega,fun x H' y=>?_⟩
  obtain ⟨e,kv,ek,ex⟩:=y
  subst e ex
  exact hs i kv ys _ _ _ ek p (fun y H4 q=>⟨kvs.length - (i + 1),by omega,rfl,hlt,q⟩) fun H3 q=>⟨kvs.length - (i + 1),by omega,rfl,hlt,q⟩
 ·have e:i = kvs.length:=by omega
  subst e
  exact .inl ⟨⟨q,AN _⟩,hd ys H p⟩
end
end L2
namespace L2
open PySem PySem.Spec PyProof.Rows
section
variable {X:Cx}
theorem aLY {d:Addr} {o:Obj} {kvs:List (Key × V)} {g:TG} {tb:TS} {D:Ends} {σ:St} {H:Hp} (Pv:Nat → St → Hp → Prop) (h0:Pv 0 σ H) (hl:∀ i σ H,i ≤ kvs.length → Pv i σ H → H d = some (.frz o (.dK kvs)))
  (hs:∀ i kv σ H,kvs[i]? = some kv → Pv i σ H → g (kV kv.1) σ H fun σ2 H2=>tb { D with nx:=Pv (i + 1),ct:=Pv (i + 1),bk:=D.nx } σ2 H2) (hd:∀ σ H,Pv kvs.length σ H → D.nx σ H) :
  ∃ W:Nat → Nat → St → Hp → Prop,(∃ m,W 0 m σ H) ∧ ∀ i m σ H,W i m σ H →
   ((Itd d o kvs).stop i H ∧ D.nx σ H) ∨ ((Itd d o kvs).go i H ∧ ∃ N:St → Hp → Prop,(∀ σ' H',N σ' H' → ∃ m',m' < m ∧ W (i + 1) m' σ' H') ∧ ∀ x H',(Itd d o kvs).yld i H x H' → g x σ H' fun σ2 H2=>tb { D with nx:=N,ct:=N,bk:=D.nx } σ2 H2):=by
 refine ⟨fun i m σ H=>m + i = kvs.length ∧ Pv i σ H,⟨kvs.length,rfl,h0⟩,?_⟩
 intro i m σ H hw
 obtain ⟨hm,pv⟩:=hw
 have at_:=hl i σ H (by omega) pv
 rcases Nat.lt_or_ge i kvs.length with lt | ge
 ·refine .inr ⟨⟨at_,lt⟩,Pv (i + 1),(fun σ' H' p'=>⟨kvs.length - (i + 1),by omega,by omega,p'⟩),fun x H' y=>?_⟩
  obtain ⟨eH,kv,ek,ex⟩:=y
  subst eH ex
  exact hs i kv σ _ ek pv
 ·have ei:i = kvs.length:=by omega
  subst ei
  exact .inl ⟨⟨at_,AN _⟩,hd σ H pv⟩
end
end L2
namespace L2
open PySem PySem.Spec PyProof.Rows PySem.W
section
variable {P:Program} {w:World} {K:AG} {mg:Str → Option Value} {base:Heap}
theorem Fun.okC {x qual:Str} {st:Stmt} {f:Addr} {fd:Bi} {N ps:List Str} {k:Nat} {sp:Sp} {c:Addr} (F:Fun K x qual st f fd) (hc:fd.code = .ref c) (S:FnScope N ps (aB st)) (len:∀ vs H Q E,sp vs H Q E → vs.length = ps.length)
  (hbody:∀ (A:Around) (outer:List Env) (s:Shared) (H:Hp) (vs:List V) (Q:VK) (E:XK),Room k (A.deeper (envOfC qual (aB st) s.heap.objs.size f (.ref c))) → sp vs H Q E →
   ∃ t,PSs (mG CX0 P w K mg base N qual (aB st) f (.ref c) A outer s H E).nox (aK st) t ∧ t { nx:=fun _ H'=>Q .non H',rt:=Q } (start N vs) H):FnOk P w K mg base CX0 (k + 1) f fd ps sp:=by
 obtain ⟨oc,od,kV,doc,pm,an,cdv,ct,osl,rfl,lk,hcd⟩:=F.ex
 obtain rfl:cdv = .ref c:=hc
 refine aPZ lk hcd S len fun A outer s H vs Q E hr hsp=>?_
 obtain ⟨t,h,q⟩:=hbody A outer s H vs Q E hr hsp
 exact ⟨t,h.nox,q⟩
end
section
variable {X:Cx} {T:Addr} {qual:Str} {params:Dh} {body e:Expr} {scope:Scope} {p pos lp kp:Pos} {te tb:TE}
def aQH (T:Addr) (lp:Pos) (qual:Str) (te:TE):TE:=fun σ H Q=>te σ H fun x H1=>∃ (l:Addr) (ps:List (Addr × List Int)) (π:Array Nat),x = .ref l ∧ H1 l = some (.lst (ps.map fun p=>V.ref p.1)) ∧ jU H1 ps ∧ 2 ≤ ps.length ∧ ps.length < 64 ∧
 kL (ps.map (·.2)) = some π ∧ (∀ i ∈ π.toList,i < ps.length) ∧ π.size = ps.length ∧ jX T lp qual H1 ∧
 ∀ (D:Addr) (H2:Hp),dQ T H1 H2 → jX T lp qual H2 → H2 D = some (.lst (π.toList.map fun i=>(ps.map fun p=>V.ref p.1).getD i .non)) → Q (.ref D) H2
def aSB (tb:TE):Prop:=∀ (a:Addr) (ns:List Int) (H:Hp) (Q:VK),H a = some (.lst (ns.map V.int)) → (∀ (t:Addr) (H':Hp),aJ H H' → H' t = some (.tup [.int ns.length,.ref a]) → Q (.ref t) H') → tb [some (.ref a)] H Q
theorem aOP {k:Nat} {σ:List (Option V)} {f c':Addr} {y:Str} (hr:Room (k + 3) X.A) (S:FnScope [y] [y] scope) (hbind:∀ (pm cdv ct u:Value),EX (kla_fn "<lambda>" qual params body scope [] pm cdv ct) ⟨[u],[]⟩ = pure [(y,u)])
  (hbody:∀ (f:Addr) (cdv:Value) (A:Around) (outer:List Env) (s:Shared) (H:Hp),PE (mG CX0 X.prog X.w X.K X.mg X.base [y] qual scope f cdv A outer s H E0).nox body tb) (kb:aSB tb) :
  aPJ X σ X.A.in1.in1 f (fun H=>H f = some (tH "<lambda>" qual params body scope c' f) ∧ H c' = some (oR qual c')):=by
 intro pins s H a ns I ⟨ef,ec⟩ ea
 obtain ⟨⟨pm,ctv,gf⟩,_⟩:=I.hok f _ ef
 obtain ⟨rc,_⟩:=I.hok c' _ ec
 refine wpAny_call (Cr (aLL (k:=k) (N:=[y]) (ps:=[y]) (us:=[.ref a]) (vs:=[.ref a]) (Q:=fun v H'=>∃ t,v = .ref t ∧ aJ H H' ∧ H' t = some (.tup [.int ns.length,.ref a])) hr.in1.in1 I.env0.in1.in1 gf rfl rc S (.of_eq (hbind _ _ _ _)) (.cons rfl .nil) rfl
  fun _=>⟨tb,hbody _ _ _ _ _ _,kb a ns H _ ea fun t H' S' e'=>⟨t,rfl,S',e'⟩⟩) fun r s' hq=>?_)
 cases r with
 | error e=>exact hq.elim
 | ok fl =>
  cases fl with
  | ret u =>
   obtain ⟨v,H',I',rv,t,rfl,S',e'⟩:=I.after hq
   cases rv
   exact ⟨t,H',I',rfl,S',e'⟩
  | next=>exact BT hq
  | brk=>exact BT hq
  | cont=>exact BT hq
theorem aKU {k:Nat} {y:Str} (hr:Room (k + 3) X.A) (hg:Gl X "sorted") (hm:X.mg "sorted" = none) (he:PE X e te) (hlam:PE X (.Lambda params body scope lp) (aSH T lp qual params body scope)) (S:FnScope [y] [y] scope)
  (hbind:∀ (pm cdv ct u:Value),EX (kla_fn "<lambda>" qual params body scope [] pm cdv ct) ⟨[u],[]⟩ = pure [(y,u)])
  (hbody:∀ (f:Addr) (cdv:Value) (A:Around) (outer:List Env) (s:Shared) (H:Hp),PE (mG CX0 X.prog X.w X.K X.mg X.base [y] qual scope f cdv A outer s H E0).nox body tb) (kb:aSB tb)
  (hs:At [e] X.env = (false,eval e X.env) :: At [] X.env:=by rfl) (hpl:(backTo pos (At [e] X.env)).any (·.1) = false:=by rfl) :
  PE X (.Call (.Name "sorted" p) [e] [⟨some "key",.Lambda params body scope lp,kp⟩] pos) (aQH T lp qual te):=by
 intro pins s σ H Q I h
 refine CM (nB I hg hm qJ ?_ (by decide) (by decide))
 have hp2:((backTo pos (At [e] X.env)).any (·.1) || (DR pos (Cf [⟨some "key",.Lambda params body scope lp,kp⟩] X.env)).any (·.1.isNone)) = false:=by rw [hpl];rfl
 refine PySem.W.callWith_of (P:=fun _=>True) hp2 (fun h _=>⟨.machine,.inr (.inl rfl),PySem.W.Looks.of_pure rfl⟩) (evalArgs_kw2 rfl ?_ hs)
 refine thn (show wpAny _ _ _ _ _ s from BL (aA he aD hs pos pins s σ H (fun vs H1=>∃ x,vs = [x] ∧ ∃ (l:Addr) (ps:List (Addr × List Int)) (π:Array Nat),x = .ref l ∧ H1 l = some (.lst (ps.map fun p=>V.ref p.1)) ∧ jU H1 ps ∧ 2 ≤ ps.length ∧ ps.length < 64 ∧
  kL (ps.map (·.2)) = some π ∧ (∀ i ∈ π.toList,i < ps.length) ∧ π.size = ps.length ∧ jX T lp qual H1 ∧
  ∀ (D:Addr) (H2:Hp),dQ T H1 H2 → jX T lp qual H2 → H2 D = some (.lst (π.toList.map fun i=>(ps.map fun p=>V.ref p.1).getD i .non)) → Q (.ref D) H2) I ?_) (fun _ _ z=>z) fun _ _ z=>z) fun us s1 ⟨vs,H1,I1,r,x,e1,l,ps,π,e2,hl,it,h2,h64,hπ,hb,hz,tb0,q⟩=>?_
 ·show te σ H fun x H1=>∃ x',[x] = [x'] ∧ _
  have hmono:∀ (R1 R2:VK),(∀ x H1,R1 x H1 → R2 x H1) → R1 = R1 → True:=fun _ _ _ _=>trivial
  have ee:(fun (x:V) (H1:Hp)=>∃ x',[x] = [x'] ∧ ∃ (l:Addr) (ps:List (Addr × List Int)) (π:Array Nat),x' = .ref l ∧ H1 l = some (.lst (ps.map fun p=>V.ref p.1)) ∧ jU H1 ps ∧ 2 ≤ ps.length ∧ ps.length < 64 ∧
   kL (ps.map (·.2)) = some π ∧ (∀ i ∈ π.toList,i < ps.length) ∧ π.size = ps.length ∧ jX T lp qual H1 ∧
   ∀ (D:Addr) (H2:Hp),dQ T H1 H2 → jX T lp qual H2 → H2 D = some (.lst (π.toList.map fun i=>(ps.map fun p=>V.ref p.1).getD i .non)) → Q (.ref D) H2) =
   (fun (x:V) (H1:Hp)=>∃ (l:Addr) (ps:List (Addr × List Int)) (π:Array Nat),x = .ref l ∧ H1 l = some (.lst (ps.map fun p=>V.ref p.1)) ∧ jU H1 ps ∧ 2 ≤ ps.length ∧ ps.length < 64 ∧
   kL (ps.map (·.2)) = some π ∧ (∀ i ∈ π.toList,i < ps.length) ∧ π.size = ps.length ∧ jX T lp qual H1 ∧
   ∀ (D:Addr) (H2:Hp),dQ T H1 H2 → jX T lp qual H2 → H2 D = some (.lst (π.toList.map fun i=>(ps.map fun p=>V.ref p.1).getD i .non)) → Q (.ref D) H2):=by
   funext x H1
   refine propext ⟨fun ⟨x',a,b⟩=>?_,fun b=>⟨x,rfl,b⟩⟩
   cases a
   exact b
  rw [ee]
  exact h
 subst e1 e2
 obtain ⟨u,rfl,ru⟩:=bF.one r
 cases ru
 have eT:l ≠ T:=fun z=>by
  obtain ⟨qs,g,_⟩:=tb0
  rw [z,g] at hl
  cases hl
 have nT:∀ p ∈ ps,p.1 ≠ T:=fun p m z=>by
  obtain ⟨qs,g,_⟩:=tb0
  have:=it p m
  rw [z,g] at this
  cases this
 refine thn (aOA (nm:=some "key") (kpos:=kp) hlam aQU pos pins s1 σ H1 (fun vs H2=>∃ f c',vs = [.ref f] ∧ dQ T H1 H2 ∧ jX T lp qual H2 ∧ H2 c' = some (oR qual c') ∧ H2 f = some (tH "<lambda>" qual params body scope c' f)) I1 ⟨tb0,fun f c' H' a b c d=>⟨f,c',rfl,a,b,c,d⟩⟩) fun ws s2 ⟨vs,H2,I2,r2,f,c',e1,K2,T2,ec,ef⟩=>⟨trivial,?_⟩
 subst e1
 obtain ⟨ud,rfl,rd⟩:=bF.one r2
 cases rd
 show wpAny _ _ (call (.builtin "sorted") [.ref l] [("key",.ref f)]) _ _ s2
 refine aBL (P0:=fun H=>H f = some (tH "<lambda>" qual params body scope c' f) ∧ H c' = some (oR qual c')) (by have:=hr.un;omega) (fun _ _ Sm a=>⟨Sm _ _ a.1,Sm _ _ a.2⟩) (aOP hr S hbind hbody kb) I2 (SqL.of (K2 _ _ eT hl)) ⟨ef,ec⟩ (fun p m=>K2 _ _ (nT p m) (it p m)) h2 h64 hπ hb hz fun D H3 S3 _ eD=>?_
 exact q D H3 (K2.trans fun b o _ e=>S3 b o e) (T2.keep S3) eD
end
end L2
namespace L2
open PySem PySem.Spec PyProof.Rows PySem.W
def zD (K:AG) (T:Addr):Sp:=fun vs H Q _=>∃ x,vs = [x] ∧ ∃ (a:Addr) (ns:List Int),x = .ref a ∧ SqL K H a (ns.map V.int) ∧ ns.length ≤ 63 ∧ H T = some (.tbl #[]) ∧ ∀ H',Q (.bl true) H'
theorem aIB {P:Program} {w:World} {K:AG} {mg mb:Str → Option Value} {k:Nat} {fa a c T:Addr} {fd:Bi} {x y:Str} {s₁:Shared} {vs:List Value} {ns:List Int} {p:Program} {loose:List Str} {mean:ExcName → Option Value}
  (KX:K.In s₁.heap) (G:Top p loose mean mg mb s₁.heap) (hg:s₁.gens = #[])
  (ha:s₁.heap.get? a = some { cls:=.type "list",data:=.seq vs.toArray }) (hi:IntsAre vs ns) (hl:ns.length ≤ 63) (hr:Room k callerA)
  (hT:s₁.heap.get? T = some (tabObj #[])) (hC:CodeHd s₁.heap c T) (hKT:K.lookup T = none) (ht:tabIn K y = some (c,T))
  (F:∀ base:Heap,K.In base → base.Ns AK mg → TabB K mg base y c T → FnOk P w K mg base CX0 k fa fd [x] (zD K T)) (hbind:∀ (s:Shared) (u:Value),BindsTo s fd ⟨[u],[]⟩ [(x,u)]) :
  codeAny (model P w) callerA (.call (.ref fa) ⟨[.ref a],[]⟩) (fun r s'=>r = .ok (.ret (.bool true)) ∧ OldK s₁.heap s'.heap ∧ s'.os = s₁.os ∧ AllBare s'.gens) s₁:=by
 have rv:=xC hi
 have lenV:=hi.length
 have naT:a ≠ T:=fun z=>by rw [z,hT] at ha;cases ha
 have core:∀ H:Hp,(∀ b,b ≠ T → H b = none ∨ ∃ o xs,H b = some (.frz o (.lst xs))) → H T = some (.tbl #[]) → SqL K H a (ns.map V.int) → HOk P w H s₁.heap → (∀ b,b ≠ T → H b ≠ none → b = a) → (H a ≠ none → K.lookup a = none) →
   codeAny (model P w) callerA (.call (.ref fa) ⟨[.ref a],[]⟩) (fun r s'=>r = .ok (.ret (.bool true)) ∧ OldK s₁.heap s'.heap ∧ s'.os = s₁.os ∧ AllBare s'.gens) s₁:=by
  intro H hO eT hS hok hA hK
  have base_of:∀ {b:Addr} {o:Obj},s₁.heap.get? b = some o → H b = none → (wX s₁.heap H).get? b = some o:=fun e n=>aLU e n
  have none_of:∀ {b:Addr} {o:Obj},s₁.heap.get? b = some o → o ≠ tabObj #[] → o ≠ { cls:=.type "list",data:=.seq vs.toArray } → H b = none:=fun {b o} e n1 n2=>by
   cases q:H b with
   | none=>rfl
   | some u =>
    by_cases z:b = T
    ·rw [z,hT] at e
     exact absurd (Ax e).symm n1
    ·have e':b = a:=hA b z (by rw [q];simp)
     rw [e',ha] at e
     exact absurd (Ax e).symm n2
  have noA:∀ {b:Addr} {o:Obj} {es:Array Ea} {ep:Nat},s₁.heap.get? b = some o → o.data = .dict es ep → H b = none:=fun {b o es ep} e d =>
   none_of e (fun z=>by rw [z] at d;cases d) (fun z=>by rw [z] at d;cases d)
  have nsK:∀ {b:Addr} {m:Str → Option Value},s₁.heap.Ns b m → (wX s₁.heap H).Ns b m:=fun {b m} ⟨o,es,ep,e,d,r⟩=>⟨o,es,ep,base_of e (noA e d),d,r⟩
  have hKb:K.In (wX s₁.heap H):=fun b o e=>base_of (KX b o e) (by
   cases q:H b with
   | none=>rfl
   | some u =>
    by_cases z:b = T
    ·rw [z,hKT] at e;cases e
    ·have e':b = a:=hA b z (by rw [q];simp)
     subst e'
     rw [hK (by rw [q];simp)] at e;cases e)
  have hM:Mod K mg (wX s₁.heap H):=⟨hKb,nsK G.g,⟨mb,nsK G.b,G.builtins⟩,let ⟨mc,h1,h2⟩:=G.nolimit;⟨mc,nsK h1,h2⟩⟩
  have e0:Env0 P w K mg (wX s₁.heap H) callerA [] s₁ H:=⟨rfl,hM,fun b o e=>aOK e,Dt (aIE _ _),trivial,fun b hb=>absurd (show b ∈ ([]:List Addr) from hb) (by simp),hok,.of_eq hg⟩
  have TB:TabB K mg (wX s₁.heap H) y c T:=by
   refine ⟨?_,?_,fun f o fd' h1 h2 h3=>law_code KX G.g ht h1 (KX _ _ h2) h3⟩
   ·obtain ⟨bm,ob,b1,b2,b3,b4,b5,b6⟩:=G.bmain
    exact ⟨bm,ob,b1,b2,base_of b3 (none_of b3 (fun z=>by rw [z] at b4;cases b4) (fun z=>by rw [z] at b4;have b4:Ca "list" = Ca "module":=b4;injection b4 with b4;exact absurd b4 (by decide))),b4,b5,b6⟩
   ·obtain ⟨o,vs',file,tf,flags,tg,inF,text,tt,e1,r1,r⟩:=hC
    exact ⟨o,vs',file,tf,flags,tg,inF,text,tt,base_of e1 (none_of e1 (fun z=>by rw [z] at r1;cases r1) (fun z=>by rw [z] at r1;have r1:Ca "list" = Ca "code":=r1;injection r1 with r1;exact absurd r1 (by decide))),r1,r⟩
  refine Cr ((F _ hKb (nsK G.g) TB).run callerA [] s₁ H ⟨[.ref a],[]⟩ [.ref a] [.ref a] (fun v _=>v = .bl true) (fun _ _ _=>False) hr e0 (hbind s₁ (.ref a)) (.cons rfl .nil) ⟨_,rfl,a,ns,rfl,hS,hl,eT,fun _=>rfl⟩) fun r s' h=>?_
  cases r with
  | error e=>exact BT h
  | ok fl =>
   cases fl with
   | next=>exact BT h
   | brk=>exact BT h
   | cont=>exact BT h
   | ret u =>
    obtain ⟨v,H',os,bare,un,hok',r',q⟩:=h
    have q':v = .bl true:=q
    subst q'
    obtain rfl:u = EQ true:=r'
    have kp:∀ b o,b ≠ T → s₁.heap.get? b = some o → s'.heap.get? b = some o:=fun b o nb e=>by
     cases q:H b with
     | none=>exact un.keep b o e q (by intro z;exact absurd (show b ∈ ([]:List Addr) from z) (by simp)) (by simp)
     | some u =>
      rcases hO b nb with z | ⟨ob,xs,z⟩
      ·rw [q] at z;cases z
      ·have z2:=un.frzs b ob _ z
       obtain ⟨e1,_⟩:=hok b _ z
       obtain ⟨e2,_⟩:=hok' b _ z2
       rw [e] at e1;cases e1
       exact e2
    obtain ⟨more,eT'⟩:=un.tbls T _ eT
    have gT':s'.heap.get? T = some (tabObj (#[] ++ more)):=hok' T _ eT'
    refine ⟨rfl,⟨fun b o e=>?_,fun b o e=>?_⟩,os,bare⟩
    ·by_cases z:b = T
     ·subst z
      rw [hT] at e
      cases e
      exact .inr (.inl ⟨(hC.tab hT).isCodeTable,rfl,#[],more,rfl,gT'⟩)
     ·exact .inl (kp b o z e)
    ·by_cases z:b = T
     ·exact ⟨_,z ▸ gT'⟩
     ·exact ⟨o,kp b o z e⟩
 cases hk:K.lookup a with
 | some o =>
  have e:=KX a o hk
  rw [ha] at e
  cases e
  refine core (fun b=>if b = T then some (.tbl #[]) else none) (fun b nb=>.inl (if_neg nb)) (if_pos rfl) (.inr ⟨_,vs.toArray,_,hk,rfl,rfl,rfl,by rw [AR,lenV];exact BG hl (by decide),by simpa using rv⟩) (fun b u z=>?_) (fun b nb z=>absurd (if_neg nb) z) fun z=>absurd (if_neg naT) z
  by_cases hb:b = T
  ·have z':=(if_pos hb).symm.trans z
   cases z'
   subst hb
   exact hT
  ·have z':=(if_neg hb).symm.trans z
   cases z'
 | none =>
  refine core (fun b=>if b = T then some (.tbl #[]) else if b = a then some (.frz { cls:=.type "list",data:=.seq vs.toArray } (.lst (ns.map V.int))) else none) (fun b nb=>?_) (if_pos rfl) (.inl (.inr ⟨{ cls:=.type "list",data:=.seq vs.toArray },by show (if a = T then _ else _) = _;rw [if_neg naT,if_pos rfl]⟩)) (fun b u z=>?_) (fun b nb z=>?_) fun _=>hk
  ·by_cases hb:b = a
   ·exact .inr ⟨_,_,by show (if b = T then _ else _) = _;rw [if_neg nb,if_pos hb]⟩
   ·exact .inl (by show (if b = T then _ else _) = _;rw [if_neg nb,if_neg hb])
  ·by_cases hT':b = T
   ·have z':=(if_pos hT').symm.trans z
    cases z'
    subst hT'
    exact hT
   ·have z0:=(if_neg hT').symm.trans z
    by_cases hb:b = a
    ·have z':=(if_pos hb).symm.trans z0
     cases z'
     subst hb
     exact ⟨ha,by rw [AA];exact BG hl (by decide),vs,_,rv,ha⟩
    ·have z':=(if_neg hb).symm.trans z0
     cases z'
  ·by_cases hb:b = a
   ·exact hb
   ·exact absurd (by show (if b = T then _ else _) = _;rw [if_neg nb,if_neg hb]) z
theorem walk_lawT {l:PySem.W.OpenLaw} {q:Program} {loose:List Str} {XP:(Str → Option Value) → Heap → Prop} {YP:World → Heap → Prop} {d:DefRec} {K:Params → AG} (k:Nat) (y:Str) (c T:Addr) (hr:Room k callerA) (hn:l.most = some 63) (hdf:d.params.defaults = [])
  (hY:∀ (w:World) (h:Heap),YP w h → (K w.params).In h) (hT:∀ (w:World) (h:Heap),YP w h → h.get? T = some (tabObj #[])) (hC:∀ (w:World),codeHdIn (K w.params) c T = true) (hK:∀ w:World,(K w.params).lookup T = none) (ht:∀ w:World,tabIn (K w.params) y = some (c,T))
  (F:∀ (w:World) (mg:Str → Option Value) (fa:Addr) (h:Heap),(K w.params).In h → h.Ns AK mg → mg d.name = some (.ref fa) →
   ∃ fd:Bi,(∀ (s:Shared) (u:Value),BindsTo s fd ⟨[u],[]⟩ [("_law_script",u)]) ∧ ∀ base:Heap,(K w.params).In base → base.Ns AK mg → TabB (K w.params) mg base y c T → FnOk l.prog w (K w.params) mg base CX0 k fa fd ["_law_script"] (zD (K w.params) T)) :
  PySem.W.WalkO q loose XP YP l.row.toRowW d [] (fun f vs=>PySem.call f vs):=by
 refine Att.attach_call hn hdf fun w s₀ s₁ mg mb fa o pm cd doc a vs ns G Y ho hd hcd hmg hobj hints hlen hg=>?_
 have KX:=hY w _ Y
 obtain ⟨fd,hb,hF⟩:=F w mg fa _ KX G.T.g hmg
 exact aIB KX G.T hg hobj hints hlen hr (hT w _ Y) (codeHd_of_K KX (hC w)) (hK w) (ht w) hF hb
end L2
namespace L2
open PySem PySem.Spec PyProof.Rows PySem.W
theorem DefAt.fcC {P:Program} {w:World} {K:AG} {mg:Str → Option Value} {base:Heap} {x:Str} {st:Stmt} {N ps:List Str} {k:Nat} {sp:Sp} {c T:Addr} (D:DefAt K mg x st ps) (B:TabB K mg base x c T) (S:FnScope N ps (aB st)) (len:∀ vs H Q E,sp vs H Q E → vs.length = ps.length)
  (hbody:∀ (f:Addr) (A:Around) (outer:List Env) (s:Shared) (H:Hp) (vs:List V) (Q:VK) (E:XK),Room k (A.deeper (envOfC x (aB st) s.heap.objs.size f (.ref c))) → sp vs H Q E →
   ∃ t,PSs (mG CX0 P w K mg base N x (aB st) f (.ref c) A outer s H E).nox (aK st) t ∧ t { nx:=fun _ H'=>Q .non H',rt:=Q } (start N vs) H):Fc P w K mg base (k + 1) x ps sp:=by
 obtain ⟨f,fd,F,b,m⟩:=D.ex
 have hc:fd.code = .ref c:=by
  obtain ⟨oc,od,kV,doc,pm,an,cdv,ct,osl,rfl,lk,hcd⟩:=F.ex
  exact B.cd f _ _ m lk rfl
 exact ⟨f,fd,F.okC hc S len fun A outer s H vs Q E hr h=>hbody f A outer s H vs Q E hr h,b,m,F.kp⟩
theorem aCR {H:Hp}:∀ {nss:List (List Int)} {us:List V},IsL H (nss.map fun ns=>Dv.lst (ns.map Dv.int)) us → ∃ ps:List (Addr × List Int),us = ps.map (fun p=>V.ref p.1) ∧ jU H ps ∧ ps.map (·.2) = nss
 | [],us,h=>⟨[],h,(fun p (m:p ∈ ([]:List (Addr × List Int)))=>absurd m Bs),rfl⟩
 | ns :: nss,us,h=>by
  obtain ⟨v,vs,rfl,⟨a,xs,rfl,ha,hx⟩,r⟩:=h
  obtain ⟨ps,rfl,it,e⟩:=aCR r
  have ex:xs = ns.map V.int:=by
   clear ha e it r
   induction ns generalizing xs with
   | nil=>exact hx
   | cons n ns ih =>
    obtain ⟨v,vs,rfl,e,r⟩:=hx
    cases (show v = .int n from e)
    rw [ih vs r]
    rfl
  subst ex
  refine ⟨(a,ns) :: ps,rfl,fun p m=>?_,by rw [AY,e]⟩
  rcases Ah.mp m with rfl | m
  ·exact ha
  ·exact it p m
theorem pI:∀ k,(gX k).length = 2 ^ k
 | 0=>rfl
 | k + 1=>by unfold gX;rw [Ae,AA,pI k];omega
theorem lK:∀ k,∀ ns ∈ gX k,ns.length ≤ k
 | 0,ns,m=>by rw [AV.mp m];exact AN _
 | k + 1,ns,m=>by
  unfold gX at m
  rcases Ar.mp m with m | m
  ·exact Nat.le_succ_of_le (lK k ns m)
  ·obtain ⟨ms,mm,rfl⟩:=AS.mp m
   rw [Ae,Br]
   exact Nat.succ_le_succ (lK k ms mm)
theorem zE:∀ n,1 ≤ n → n ≤ 4 → kL (gX n) = some (lX n).toArray ∧ (∀ i ∈ lX n,i < (gX n).length) ∧ (lX n).length = (gX n).length ∧ ∀ i < (gX n).length,i ∈ lX n
 | 0,h,_=>by omega
 | 1,_,_=>⟨aNS,by decide,rfl,by decide⟩
 | 2,_,_=>⟨aNR,by decide,rfl,by decide⟩
 | 3,_,_=>⟨aNQ,by decide,rfl,by decide⟩
 | 4,_,_=>⟨aNP,by decide,rfl,by decide⟩
 | n + 5,_,h=>by omega
def zQ (n:Nat):List (List Int):=(lX n).map fun i=>(gX n).getD i []
theorem aBW {n:Nat} (h1:1 ≤ n) (h4:n ≤ 4) {ns:List Int}:ns ∈ zQ n ↔ ns ∈ gX n:=by
 obtain ⟨_,a,b,c⟩:=zE n h1 h4
 unfold zQ
 rw [AS]
 constructor
 ·rintro ⟨i,m,rfl⟩
  have hi:=a i m
  rw [Ai,AC hi]
  exact DG hi
 ·intro m
  obtain ⟨i,hi,e⟩:=EK m
  exact ⟨i,c i hi,by rw [Ai,AC hi];exact e⟩
end L2
namespace Mt72
open PySem L2 Mt22 Mt61
def low (a b:Int):Int × Int:=(a / ((Int.gcd a b:Nat):Int),b / ((Int.gcd a b:Nat):Int))
theorem aGQ {a b:Int} (hb:0 < b):0 < ((Int.gcd a b:Nat):Int):=by
 have:0 < Int.gcd a b:=Int.gcd_pos_of_ne_zero_right a (by omega)
 omega
theorem aRD {n:Nat} (h:n ≤ 1000):n.log2 < 9000:=by
 rcases Nat.eq_zero_or_pos n with h0 | h0
 ·subst h0;decide
 ·exact (Nat.log2_lt (by omega)).mpr (Nat.lt_of_le_of_lt h (by decide +kernel))
open Classical in
noncomputable def cF (G:List Gap) (co:List Str):Int:=if h:∃ c,jT G co c then h.choose else 0
theorem aMY {G:List Gap} {co:List Str} {c:Int} (h:jT G co c):cF G co = c:=by
 have x:∃ c,jT G co c:=⟨c,h⟩
 unfold cF
 rw [dif_pos x]
 exact jT.uniq x.choose_spec h
theorem aDH {G:List Gap} {a b:List Str} (e:∀ z,z ∈ a ↔ z ∈ b):cF G a = cF G b:=by
 have h:jT G a = jT G b:=funext fun c=>by
  unfold jT
  simp only [e]
 unfold cF
 rw [h]
section
variable {α β:Type} [DecidableEq α] [DecidableEq β]
def lW (v:List α → Int) (z:α) (o:List α):Nat → Int
 | 0=>0
 | k + 1=>lW v z o k + if o[k]? = some z then v (o.take (k + 1)) - v (o.take k) else 0
def lN:Nat → List α → List (List α)
 | 0,_=>[[]]
 | m + 1,zs=>zs.flatMap fun z=>(lN m (zs.filter (fun y=>!decide (y = z)))).map (z :: ·)
theorem vR {zs:List α} {z:α} (nd:zs.Nodup) (m:z ∈ zs):(zs.filter fun y=>!decide (y = z)).length + 1 = zs.length:=by
 induction zs with
 | nil=>cases m
 | cons x r ih =>
  have nx:=(Ak.mp nd).1
  rw [CC]
  by_cases e:x = z
  ·subst e
   rw [decide_eq_true rfl,if_neg (by simp)]
   rw [EL.mpr fun y my=>by simp;exact fun z=>nx (z ▸ my)]
   rfl
  ·rw [decide_eq_false e,if_pos (by simp)]
   rcases Ah.mp m with h | h
   ·exact absurd h.symm e
   ·have:=ih (Ak.mp nd).2 h
    rw [Aj,Aj]
    omega
theorem pT:∀ {m:Nat} {zs:List α},zs.Nodup → zs.length = m → ∀ o ∈ lN m zs,o.Nodup ∧ o.length = m ∧ ∀ y,y ∈ o ↔ y ∈ zs
 | 0,zs,nd,l,o,mo=>by
  cases Cb l
  rw [AV.mp mo]
  exact ⟨.nil,rfl,fun _=>Iff.rfl⟩
 | m + 1,zs,nd,l,o,mo=>by
  obtain ⟨z,mz,mo⟩:=List.mem_flatMap.mp mo
  obtain ⟨o',mo',rfl⟩:=AS.mp mo
  have:=vR nd mz
  obtain ⟨h1,h2,h3⟩:=pT (DL DN nd) (by omega) o' mo'
  have hz:∀ y,y ∈ o' ↔ y ∈ zs ∧ y ≠ z:=fun y=>by rw [h3,Aw];simp
  refine ⟨Ak.mpr ⟨fun h=>((hz z).mp h).2 rfl,h1⟩,by rw [Aj,h2],fun y=>?_⟩
  rw [Ah,hz]
  by_cases e:y = z
  ·subst e;simp [mz]
  ·simp [e]
theorem filter_map {f:α → β} {zs:List α} {x:α} (inj:∀ a ∈ zs,f a = f x → a = x):(zs.map f).filter (fun y=>!decide (y = f x)) = (zs.filter fun y=>!decide (y = x)).map f:=by
 rw [List.filter_map]
 congr 1
 refine List.filter_congr fun a m=>?_
 show (!decide (f a = f x)) = !decide (a = x)
 by_cases e:a = x
 ·subst e;simp
 ·rw [decide_eq_false e,decide_eq_false fun h=>e (inj a m h)]
theorem aEU {f g:α → List β} {l:List α} (h:∀ x ∈ l,f x = g x):l.flatMap f = l.flatMap g:=by
 rw [List.flatMap_def,List.flatMap_def,Bb h]
theorem pU {f:α → β}:∀ {m:Nat} {zs:List α},(∀ a ∈ zs,∀ b ∈ zs,f a = f b → a = b) → lN m (zs.map f) = (lN m zs).map (List.map f)
 | 0,zs,_=>rfl
 | m + 1,zs,inj=>by
  unfold lN
  rw [List.flatMap_map,List.map_flatMap]
  refine aEU fun x mx=>?_
  rw [filter_map fun a ma h=>inj a ma x mx h,pU fun a ma b mb h=>inj a (Aw.mp ma).1 b (Aw.mp mb).1 h,Al,Al]
  rfl
theorem aDB {f:α → β} {v:List β → Int} {o:List α} {i:α} (inj:∀ a ∈ o,f a = f i → a = i):∀ k,lW v (f i) (o.map f) k = lW (fun ms=>v (ms.map f)) i o k
 | 0=>rfl
 | k + 1=>by
  have e:((o.map f)[k]? = some (f i)) = (o[k]? = some i):=by
   rw [AI]
   refine propext ⟨fun h=>?_,fun h=>by rw [h];rfl⟩
   obtain ⟨a,ea,h⟩:=Ao.mp h
   rw [ea,inj a (AM ea) h]
  unfold lW
  rw [aDB inj k,ET,ET]
  simp only [e]
theorem wA {v v':List α → Int} {o:List α} {i:α} (h:∀ k,v (o.take k) = v' (o.take k)):∀ k,lW v i o k = lW v' i o k
 | 0=>rfl
 | k + 1=>by
  unfold lW
  rw [wA h k,h,h]
end
def aAA (ms:List Nat):Nat:=(if 0 ∈ ms then 1 else 0) + (if 1 ∈ ms then 2 else 0) + (if 2 ∈ ms then 4 else 0) + (if 3 ∈ ms then 8 else 0)
def places (m:Nat):List Nat:=(An 4).filter fun i=>decide (m / 2 ^ i % 2 = 1)
theorem sF {ms:List Nat} (h:∀ i ∈ ms,i < 4) (i:Nat):i ∈ places (aAA ms) ↔ i ∈ ms:=by
 unfold places
 rw [Aw,BH,decide_eq_true_iff]
 constructor
 ·rintro ⟨a,b⟩
  unfold aAA at b
  have:i = 0 ∨ i = 1 ∨ i = 2 ∨ i = 3:=by omega
  rcases this with rfl | rfl | rfl | rfl
  ·by_cases e:0 ∈ ms
   ·exact e
   ·rw [if_neg e] at b;split at b <;> split at b <;> split at b <;> simp at b
  ·by_cases e:1 ∈ ms
   ·exact e
   ·rw [if_neg e] at b;split at b <;> split at b <;> split at b <;> simp at b
  ·by_cases e:2 ∈ ms
   ·exact e
   ·rw [if_neg e] at b;split at b <;> split at b <;> split at b <;> simp at b
  ·by_cases e:3 ∈ ms
   ·exact e
   ·rw [if_neg e] at b;split at b <;> split at b <;> split at b <;> simp at b
 ·intro m
  refine ⟨h i m,?_⟩
  unfold aAA
  have:i = 0 ∨ i = 1 ∨ i = 2 ∨ i = 3:=by have:=h i m;omega
  rcases this with rfl | rfl | rfl | rfl <;> rw [if_pos m] <;> split <;> split <;> split <;> rfl
def ev (u:Nat → Int) (L:List (Int × Nat)):Int:=sm L fun p=>p.1 * u p.2
def aAN (m:Nat) (L:List (Int × Nat)):Int:=sm L fun p=>if p.2 = m then p.1 else 0
theorem qQ {α:Type} (f g:α → Int):∀ xs:List α,sm xs (fun x=>f x + g x) = sm xs f + sm xs g
 | []=>rfl
 | x :: xs=>by rw [bD,bD,bD,qQ f g xs];omega
theorem aKA (u:Nat → Int) (c:Int) (k:Nat):∀ n,sm (An n) (fun m=>(if k = m then c else 0) * u m) = if k < n then c * u k else 0
 | 0=>by rw [if_neg (by omega)];rfl
 | n + 1=>by
  rw [Du,qP,aKA u c k n,bD,lL]
  by_cases e:k = n
  ·subst e;rw [if_neg (by omega),if_pos rfl,if_pos (by omega)];omega
  ·rw [if_neg e,Int.zero_mul]
   by_cases l:k < n
   ·rw [if_pos l,if_pos (by omega)];omega
   ·rw [if_neg l,if_neg (by omega)];rfl
theorem aMH (u:Nat → Int):∀ {L:List (Int × Nat)},(∀ p ∈ L,p.2 < 16) → ev u L = sm (An 16) fun m=>aAN m L * u m
 | [],_=>by
  show (0:Int) = _
  have:∀ xs:List Nat,sm xs (fun m=>aAN m [] * u m) = 0:=fun xs=>by
   induction xs with
   | nil=>rfl
   | cons x xs ih=>rw [bD,ih];show 0 * u x + 0 = 0;omega
  rw [this]
 | p :: L,h=>by
  have ih:=aMH u fun q m=>h q (AQ _ m)
  have e:∀ m,aAN m (p :: L) * u m = (if p.2 = m then p.1 else 0) * u m + aAN m L * u m:=fun m=>by
   unfold aAN
   rw [bD,Int.add_mul]
  have e2:(fun m=>aAN m (p :: L) * u m) = fun m=>(if p.2 = m then p.1 else 0) * u m + aAN m L * u m:=funext e
  rw [e2,qQ,aKA,if_pos (h p AU),← ih]
  unfold ev
  rw [bD]
def chk (a b:List (Int × Nat)):Bool:=(a.all fun p=>decide (p.2 < 16)) && (b.all fun p=>decide (p.2 < 16)) && (An 16).all fun m=>decide (aAN m a = aAN m b)
theorem aRT {a b:List (Int × Nat)} (h:chk a b = true) (u:Nat → Int):ev u a = ev u b:=by
 unfold chk at h
 rw [Ac,Ac,BB,BB,BB] at h
 obtain ⟨⟨h1,h2⟩,h3⟩:=h
 rw [aMH u fun p m=>of_decide_eq_true (h1 p m),aMH u fun p m=>of_decide_eq_true (h2 p m)]
 exact eI fun m mm=>by rw [of_decide_eq_true (h3 m mm)]
def aPD (i:Nat) (o:List Nat):Nat → List (Int × Nat)
 | 0=>[]
 | k + 1=>aPD i o k ++ if o[k]? = some i then [(1,aAA (o.take (k + 1))),(-1,aAA (o.take k))] else []
theorem aMI (u:Nat → Int) (a b:List (Int × Nat)):ev u (a ++ b) = ev u a + ev u b:=qP _ _ _
theorem aGY (u:Nat → Int) (i:Nat) (o:List Nat):∀ k,ev u (aPD i o k) = lW (fun ms=>u (aAA ms)) i o k
 | 0=>rfl
 | k + 1=>by
  unfold aPD lW
  rw [aMI,aGY u i o k]
  by_cases e:o[k]? = some i
  ·rw [if_pos e,if_pos e]
   show _ + ev u [(1,_),(-1,_)] = _
   unfold ev
   rw [bD,bD,lL]
   dsimp only
   omega
  ·rw [if_neg e,if_neg e];rfl
theorem aAK {α:Type} (u:Nat → Int) (f:α → List (Int × Nat)):∀ l:List α,ev u (l.flatMap f) = sm l fun x=>ev u (f x)
 | []=>rfl
 | x :: l=>by rw [Dd,aMI,aAK u f l,bD]
def fac:Nat → Nat
 | 0=>1
 | n + 1=>fac n * (n + 1)
def tm (v:List Str → Int) (zs:List Str) (z:Str) (co:List Str):Int:=if z ∈ co then 0 else ((fac co.length * fac (zs.length - co.length - 1):Nat):Int) * (v (zs.filter fun y=>decide (y = z) || decide (y ∈ co)) - v co)
def tmR (n i:Nat) (ns:List Nat):List (Int × Nat):=if i ∈ ns then [] else [(((fac ns.length * fac (n - ns.length - 1):Nat):Int),aAA ((An n).filter fun y=>decide (y = i) || decide (y ∈ ns))),(-((fac ns.length * fac (n - ns.length - 1):Nat):Int),aAA ns)]
def plN (n:Nat):List (List Nat):=(zQ n).map (List.map Int.toNat)
def aLH (n i:Nat):Bool:=chk ((lN n (An n)).flatMap fun o=>aPD i o n) ((plN n).flatMap (tmR n i))
theorem aTC:((An 1).all (aLH 1) && (An 2).all (aLH 2) && (An 3).all (aLH 3) && (An 4).all (aLH 4)) = true:=by decide +kernel
theorem aUN:∀ n i,1 ≤ n → n ≤ 4 → i < n → aLH n i = true:=by
 have h:=aTC
 rw [Ac,Ac,Ac,BB,BB,BB,BB] at h
 obtain ⟨⟨⟨h1,h2⟩,h3⟩,h4⟩:=h
 intro n i n1 n4 hi
 have:n = 1 ∨ n = 2 ∨ n = 3 ∨ n = 4:=by omega
 rcases this with rfl | rfl | rfl | rfl
 ·exact h1 i (BH.mpr hi)
 ·exact h2 i (BH.mpr hi)
 ·exact h3 i (BH.mpr hi)
 ·exact h4 i (BH.mpr hi)
theorem aEC:∀ n,1 ≤ n → n ≤ 4 → ∀ ns ∈ plN n,∀ i ∈ ns,i < n:=by
 intro n n1 n4
 have:n = 1 ∨ n = 2 ∨ n = 3 ∨ n = 4:=by omega
 rcases this with rfl | rfl | rfl | rfl <;> decide +kernel
theorem aHR:∀ n,1 ≤ n → n ≤ 4 → (plN n).Nodup:=by
 intro n n1 n4
 have:n = 1 ∨ n = 2 ∨ n = 3 ∨ n = 4:=by omega
 rcases this with rfl | rfl | rfl | rfl <;> decide +kernel
theorem aNZ:∀ n,1 ≤ n → n ≤ 4 → ∀ ns ∈ plN n,∀ i ∈ An n,i ∉ ns → ns.length < n:=by
 intro n n1 n4
 have:n = 1 ∨ n = 2 ∨ n = 3 ∨ n = 4:=by omega
 rcases this with rfl | rfl | rfl | rfl <;> decide +kernel
theorem aKR:∀ n,1 ≤ n → n ≤ 4 → (plN n).length ≤ 16:=by
 intro n n1 n4
 have:n = 1 ∨ n = 2 ∨ n = 3 ∨ n = 4:=by omega
 rcases this with rfl | rfl | rfl | rfl <;> decide +kernel
theorem aED (p:Nat → Bool):∀ n,1 ≤ n → n ≤ 4 → (An n).filter p ∈ plN n:=by
 intro n n1 n4
 have:n = 1 ∨ n = 2 ∨ n = 3 ∨ n = 4:=by omega
 rcases this with rfl | rfl | rfl | rfl
 ·show (([0]:List Nat).filter p) ∈ plN 1
  cases e0:p 0 <;> simp only [CC,Dz,e0] <;> decide +kernel
 ·show (([0,1]:List Nat).filter p) ∈ plN 2
  cases e0:p 0 <;> cases e1:p 1 <;> simp only [CC,Dz,e0,e1] <;> decide +kernel
 ·show (([0,1,2]:List Nat).filter p) ∈ plN 3
  cases e0:p 0 <;> cases e1:p 1 <;> cases e2:p 2 <;> simp only [CC,Dz,e0,e1,e2] <;> decide +kernel
 ·show (([0,1,2,3]:List Nat).filter p) ∈ plN 4
  cases e0:p 0 <;> cases e1:p 1 <;> cases e2:p 2 <;> cases e3:p 3 <;> simp only [CC,Dz,e0,e1,e2,e3] <;> decide +kernel
theorem aCA:∀ n,1 ≤ n → n ≤ 4 → (lN n (An n)).length = fac n:=by
 intro n n1 n4
 have:n = 1 ∨ n = 2 ∨ n = 3 ∨ n = 4:=by omega
 rcases this with rfl | rfl | rfl | rfl <;> decide +kernel
theorem oG (zs:List Str):zs = (An zs.length).map fun i=>zs.getD i "":=by
 refine List.ext_getElem (by simp) fun i h1 h2=>?_
 rw [CU,List.getElem_range,Ai,AC h1]
 rfl
theorem nQ {zs:List Str} (nd:zs.Nodup) {a b:Nat} (ha:a < zs.length) (hb:b < zs.length) (e:zs.getD a "" = zs.getD b ""):a = b:=by
 rw [Ai,Ai,AC ha,AC hb] at e
 have nd':=DY.mp nd
 rcases Nat.lt_trichotomy a b with h | h | h
 ·exact absurd e (nd' a b ha hb h)
 ·exact h
 ·exact absurd (show zs[b] = zs[a] from (show zs[a] = zs[b] from e).symm) (nd' b a hb ha h)
theorem yF {zs:List Str} (q:Str → Bool):zs.filter q = ((An zs.length).filter fun i=>q (zs.getD i "")).map fun i=>zs.getD i "":=by
 conv=>lhs;rw [oG zs]
 rw [List.filter_map]
 rfl
theorem aTE {zs:List Str} (nd:zs.Nodup) (n1:1 ≤ zs.length) (n4:zs.length ≤ 4) {v:List Str → Int} (cg:∀ a b:List Str,(∀ z,z ∈ a ↔ z ∈ b) → v a = v b) {z:Str} (mz:z ∈ zs) :
  sm (lN zs.length zs) (fun o=>lW v z o zs.length) = sm (plN zs.length) fun ns=>tm v zs z (ns.map fun i=>zs.getD i ""):=by
 obtain ⟨i,hi,rfl⟩:=EK mz
 have ei:zs[i] = zs.getD i "":=by rw [Ai,AC hi];rfl
 rw [ei]
 have key:=aRT (aUN zs.length i n1 n4 hi) fun m=>v ((places m).map fun i=>zs.getD i "")
 have vm:∀ ms:List Nat,(∀ i ∈ ms,i < 4) → v (ms.map fun i=>zs.getD i "") = v ((places (aAA ms)).map fun i=>zs.getD i ""):=fun ms h=>by
  refine cg _ _ fun y=>?_
  rw [AS,AS]
  exact ⟨fun ⟨a,ma,e⟩=>⟨a,(sF h a).mpr ma,e⟩,fun ⟨a,ma,e⟩=>⟨a,(sF h a).mp ma,e⟩⟩
 rw [aAK,aAK] at key
 have rl:∀ o ∈ lN zs.length (An zs.length),∀ a ∈ o,a < zs.length:=fun o mo a ma=>BH.mp (((pT List.nodup_range CN o mo).2.2 a).mp ma)
 have L:lN zs.length zs = (lN zs.length (An zs.length)).map (List.map fun i=>zs.getD i ""):=by
  conv=>lhs;arg 2;rw [oG zs]
  exact pU fun a ma b mb e=>nQ nd (BH.mp ma) (BH.mp mb) e
 rw [L]
 have s1:∀ (l:List (List Nat)) (g:List Str → Int),sm (l.map (List.map fun i=>zs.getD i "")) g = sm l fun o=>g (o.map fun i=>zs.getD i ""):=fun l g=>by
  unfold sm
  rw [Al]
  rfl
 rw [s1]
 refine (eI fun o mo=>?_).trans (key.trans (eI fun ns mn=>?_))
 ·rw [aGY,aDB fun a ma e=>nQ nd (rl o mo a ma) hi e]
  exact wA (fun k=>vm _ fun a ma=>Ag (rl o mo a (DK ma)) n4) _
 ·have lt:=aEC _ n1 n4 ns mn
  have eq:(zs.getD i "" ∈ ns.map fun i=>zs.getD i "") = (i ∈ ns):=by
   rw [AS]
   exact propext ⟨fun ⟨a,ma,e⟩=>nQ nd (lt a ma) hi e ▸ ma,fun m=>⟨i,m,rfl⟩⟩
  unfold tm tmR
  rw [AA]
  by_cases m:i ∈ ns
  ·rw [if_pos m,if_pos (eq ▸ m)];rfl
  ·rw [if_neg m,if_neg (fun h=>m (eq ▸ h))]
   have ef:(zs.filter fun y=>decide (y = zs.getD i "") || decide (y ∈ ns.map fun i=>zs.getD i "")) = ((An zs.length).filter fun y=>decide (y = i) || decide (y ∈ ns)).map fun i=>zs.getD i "":=by
    rw [yF]
    congr 1
    refine List.filter_congr fun a ma=>?_
    have ha:=BH.mp ma
    have e1:(zs.getD a "" = zs.getD i "") = (a = i):=propext ⟨fun e=>nQ nd ha hi e,fun e=>by rw [e]⟩
    have e2:(zs.getD a "" ∈ ns.map fun i=>zs.getD i "") = (a ∈ ns):=by
     rw [AS]
     exact propext ⟨fun ⟨b,mb,e⟩=>nQ nd (lt b mb) ha e ▸ mb,fun m=>⟨a,m,rfl⟩⟩
    simp only [e1,e2]
   rw [ef,vm _ (fun a ma=>Ag (BH.mp (Aw.mp ma).1) n4),vm ns fun a ma=>Ag (lt a ma) n4]
   unfold ev
   rw [bD,bD,lL,Int.mul_sub]
   dsimp only
   rw [Int.neg_mul]
   omega
end Mt72
namespace Mt61
open PySem L2 Mt22 Mt31
structure CameG (zs:List Str) (S:List Mt22.St) (cm:Cm):Prop where
 nd:(keys cm).Nodup
 le:zs.length ≤ cm.length
 first:∀ (i:Nat) (z:Str),zs[i]? = some z → cm[i]? = some (z,none)
 prev:∀ (i:Nat) (z:Str) (o:Option Mt22.St),zs.length ≤ i → cm[i]? = some (z,o) → ∃ s,o = some s ∧ s ∈ S ∧ s.far = z ∧ s.near ∈ keys (cm.take i)
theorem CameG.snoc {zs:List Str} {S:List Mt22.St} {cm:Cm} (h:CameG zs S cm) {s:Mt22.St} (ms:s ∈ S) (hn:s.near ∈ keys cm) (hf:s.far ∉ keys cm):CameG zs S (cm ++ [(s.far,some s)]) where
 nd:=by
  rw [lA,Db]
  refine ⟨h.nd,by simp [keys],fun a ha b hb=>?_⟩
  have:b = s.far:=by simpa [keys] using hb
  rw [this]
  exact fun e=>hf (e ▸ ha)
 le:=by
  rw [Ae]
  have:=h.le
  omega
 first i z e:=by
  have:=(AB.mp e).1
  have:=h.le
  rw [BX (by omega)]
  exact h.first i z e
 prev i z o hi e:=by
  by_cases hl:i < cm.length
  ·rw [BX hl] at e
   obtain ⟨t,h1,h2,h3,h4⟩:=h.prev i z o hi e
   exact ⟨t,h1,h2,h3,by rw [List.take_append_of_le_length (Ee hl)];exact h4⟩
  ·have hlen:=(AB.mp e).1
   rw [Ae] at hlen
   have hi':i = cm.length:=by
    have:([(s.far,some s)]:Cm).length = 1:=rfl
    omega
   subst hi'
   rw [CF (AN _),Nat.sub_self] at e
   cases e
   refine ⟨s,rfl,ms,rfl,?_⟩
   rw [List.take_append_of_le_length (AN _),AF (AN _)]
   exact hn
theorem CameG.init {zs:List Str} (S:List Mt22.St) (nd:zs.Nodup):CameG zs S (zs.map fun z=>(z,none)) where
 nd:=by
  have:keys (zs.map fun z=>((z,none):Str × Option Mt22.St)) = zs:=by unfold keys;rw [Al];exact List.map_id _
  rw [this]
  exact nd
 le:=by rw [AA];exact AN _
 first i z e:=by rw [AI,e];rfl
 prev i z o hi e:=by
  have:=(AB.mp e).1
  rw [AA] at this
  omega
theorem CameG.came {S:List Mt22.St} {cm:Cm} (h:CameG [Mt22.sea] S cm):Came S cm:=⟨h.nd,h.first 0 _ rfl,fun i z o hi e=>h.prev i z o (by show 1 ≤ i;omega) e⟩
theorem CameG.mem {zs:List Str} {S:List Mt22.St} {cm:Cm} (h:CameG zs S cm) {z:Str} (m:z ∈ keys cm):z ∈ zs ∨ ∃ s ∈ S,s.far = z:=by
 unfold keys at m
 obtain ⟨x,mx,rfl⟩:=AS.mp m
 obtain ⟨i,hi⟩:=BA.mp mx
 by_cases hl:i < zs.length
 ·obtain ⟨z,ez⟩:∃ z,zs[i]? = some z:=⟨_,AC hl⟩
  have:=h.first i z ez
  rw [hi] at this
  cases this
  exact .inl (AM ez)
 ·obtain ⟨s,_,ms,e,_⟩:=h.prev i x.1 x.2 (by omega) hi
  exact .inr ⟨s,ms,e⟩
theorem CameG.start {zs:List Str} {S:List Mt22.St} {cm:Cm} (h:CameG zs S cm) {z:Str} (m:z ∈ zs):z ∈ keys cm:=by
 obtain ⟨i,hi⟩:=BA.mp m
 exact AS.mpr ⟨_,AM (h.first i z hi),rfl⟩
theorem mR {S:List Mt22.St} {cm:Cm} (c:tG S cm cm.length):∀ s ∈ S,s.near ∈ keys cm → s.far ∈ keys cm:=fun s ms hn=>by
 obtain ⟨i,hi⟩:=BA.mp hn
 have hl:=(AB.mp hi).1
 unfold keys at hl
 rw [AA] at hl
 exact c i _ hl hi s ms rfl
end Mt61
namespace Mt05
open PySem L2 Ld Mt02
def noS (z:Str):Prop:=¬ (115:Nat) ∈ z.cps.toList
structure NamesS (zs:List Str) (n:Nat):Prop where
 nm:Names zs n
 nos:∀ z ∈ zs,noS z
end Mt05
namespace Mt53
open PySem L2 Ld Mt02 Mt04
def aKM:Dv → Int
 | .tup [_,_,_,_,.int r,_]=>r
 | _=>0
def uL (ds:List Dv) (z:Str):Int:=(ds.find? fun d=>decide (aZ d = z)).elim 0 aKM
theorem aGF {ds:List Dv} (nd:(ds.map aZ).Nodup) {d:Dv} (m:d ∈ ds):uL ds (aZ d) = aKM d:=by
 have:(ds.find? fun e=>decide (aZ e = aZ d)) = some d:=by
  induction ds with
  | nil=>cases m
  | cons e ds ih =>
   rw [AY,Ak] at nd
   rw [Bl]
   rcases Ah.mp m with rfl | m
   ·rw [decide_eq_true rfl]
   ·have hne:aZ e ≠ aZ d:=fun c=>nd.1 (c ▸ AS.mpr ⟨d,m,rfl⟩)
    rw [decide_eq_false hne]
    exact ih nd.2 m
 show (ds.find? fun e=>decide (aZ e = aZ d)).elim 0 aKM = _
 rw [this]
 rfl
def aDD (ds:List Dv) (w:Dv):Int:=uL ds (aZ w) * (hOf w - gU ds (aZ w))
def aAM (ds ws:List Dv):Int:=(ws.map (aDD ds)).sum
end Mt53
namespace Mt46
open PySem L2 Ld Mt21
def units:List Int:=[1,3,5,7,9,11,15,17,19,21,23,25]
theorem aJA:∀ u ∈ units,∀ d ∈ An 26,d ≠ 0 → ((d:Int) * u) % 26 ≠ 0:=by decide +kernel
theorem aRX {i j:Int} (e:ab i = ab j):i % 26 = j % 26:=by
 unfold ab at e
 have h1:=Ay i (show (26:Int) ≠ 0 by decide)
 have h2:=Ay j (show (26:Int) ≠ 0 by decide)
 omega
theorem aFL {u r:Int} (hu:u ∈ units) {k l:Nat} (hl:l < 26) (h:k < l) (e:ab ((k:Int) * u + r) = ab ((l:Int) * u + r)):False:=by
 have e1:=(Int.emod_eq_emod_iff_emod_sub_eq_zero).mp (aRX e.symm)
 have e2:(l:Int) * u + r - ((k:Int) * u + r) = ((l - k:Nat):Int) * u:=by
  rw [Int.ofNat_sub (by omega),Int.sub_mul]
  omega
 rw [e2] at e1
 exact aJA u hu (l - k) (BH.mpr (by omega)) (by omega) e1
theorem aJB {u r:Int} (hu:u ∈ units) {k l:Nat} (hk:k < 26) (hl:l < 26) (e:ab ((k:Int) * u + r) = ab ((l:Int) * u + r)):k = l:=by
 rcases Nat.lt_trichotomy k l with h | h | h
 ·exact (aFL hu hl h e).elim
 ·exact h
 ·exact (aFL hu hk h e.symm).elim
theorem aEN (a:Str):∀ l:List Str,l.Nodup → l.length ≤ (l.filter fun z=>!decide (z = a)).length + 1
 | [],_=>by simp
 | z :: l,nd=>by
  rw [Ak] at nd
  by_cases h:z = a
  ·have e:(l.filter fun z=>!decide (z = a)) = l:=by
    rw [EL]
    intro y my
    have:y ≠ a:=fun e=>nd.1 (by rw [h,← e];exact my)
    simp [this]
   rw [Cu (by simp [h]),e]
   simp
  ·rw [Ct (by simp [h])]
   have:=aEN a l nd.2
   simp only [Aj]
   omega
structure Nm (zs:List Str):Prop where
 nd:zs.Nodup
 nm:∀ z ∈ zs,eY z = true
 l1:25 ≤ zs.length
 l2:zs.length ≤ 26
theorem aTD {b:Str} {sz pl:Nat} {u r:Int} {g:Nat → Str} (hb:b.cps.toList.all jP = true) (hl:b.length = sz) (h1:1 ≤ sz) (h8:sz ≤ 8) (hp:pl < sz) (hu:u ∈ units)
  (pu:∀ k,k < 26 → (g k).cps.toList = b.cps.toList.take pl ++ [ab ((k:Int) * u + r)] ++ b.cps.toList.drop (pl + 1)):Nm (((An 26).map g).filter fun z=>!decide (z = "sea")):=by
 have bl:b.cps.toList.length = sz:=by rw [← iZ];exact hl
 have lg:∀ k,k < 26 → (g k).length = sz:=fun k hk=>by
  rw [iZ,pu k hk,Ae,Ae,AW,CT,bl]
  show min pl sz + 1 + (sz - (pl + 1)) = sz
  omega
 have nd:((An 26).map g).Nodup:=nodup_range fun k l hk hl e=>by
  have e1:(g k).cps.toList = (g l).cps.toList:=by rw [e]
  rw [pu k hk,pu l hl,Bc,Bc] at e1
  have e2:=List.append_cancel_left e1
  rw [EA,EA] at e2
  exact aJB hu hk hl (List.cons.inj e2).1
 have ln:=aEN "sea" _ nd
 rw [AA,CN] at ln
 have lf:=BN (fun z=>!decide (z = ("sea":Str))) ((An 26).map g)
 rw [AA,CN] at lf
 refine ⟨nd.sublist DN,fun z mz=>?_,by omega,lf⟩
 obtain ⟨m1,m2⟩:=Aw.mp mz
 obtain ⟨k,mk,rfl⟩:=AS.mp m1
 have hk:=BH.mp mk
 have all:(g k).cps.toList.all jP = true:=by
  rw [pu k hk,List.all_append,List.all_append]
  have hb':=BB.mp hb
  rw [BB.mpr fun x m=>hb' x (DK m),BB.mpr fun x m=>hb' x (List.mem_of_mem_drop m)]
  simp [yY]
 unfold eY
 rw [lg k hk,decide_eq_true h1,decide_eq_true h8,m2,all]
 rfl
theorem aUY {i:Int} (h0:0 ≤ i) (h1:i < 12):∃ u ∈ units,atI ([.int 1,.int 3,.int 5,.int 7,.int 9,.int 11,.int 15,.int 17,.int 19,.int 21,.int 23,.int 25]:List V) i = some (.int u):=by
 obtain ⟨k,rfl⟩:=BF h0
 have hk:k < 12:=by omega
 have hk2:k < units.length:=hk
 refine ⟨units[k],DG hk2,aN ?_⟩
 show (units.map V.int)[k]? = some (V.int units[k])
 rw [AI,AC hk2]
 rfl
end Mt46
namespace L2
open PySem PySem.Spec PyProof.Rows
section
variable {X:Cx} {tg:Expr}
def aRQ (td:TE):TI:=fun σ H R=>td σ H fun x H1=>∃ d o kvs,x = .ref d ∧ H1 d = some (.frz o (.dK kvs)) ∧ R (Itd d o kvs) H1
theorem aKT {l:Expr} {tl:TE} (hl:PE X l tl):PI X tg l (aRQ tl):=by
 intro pins s σ H R I h
 refine thn (hl pins s σ H _ I h) fun v s1 ⟨x,H1,I1,r1,q1⟩=>?_
 obtain ⟨d,o,kvs,e,hH,q⟩:=q1
 subst e
 cases r1
 have hok:=I1.hok d _ hH
 obtain ⟨ho,hz,lo,vs,kv,hD⟩:=(show bP X.prog X.w H1 s1.heap d (.frz o (.dK kvs)) from hok)
 obtain ⟨ep,hat⟩:=hD.dictAt
 refine wpAny_pyIter_dict lo hat ?_
 refine ⟨s1.heap.objs.size,[s1.heap.objs.size],_,_,H1,rfl,I1.kept (t':=s1.toks) fun b ob e=>AE _ e,xF kv ho hat,⟨_,Ab _ rfl,rfl,rfl⟩,fun b hb=>?_,q⟩
 have e:b = s1.heap.objs.size:=by simpa using hb
 subst e
 exact I1.fpOk (AN _) (I1.hok.fresh (AN _))
theorem aIS (hc:X.calm = true):eO X (.builtin "min") (fun xs H Q=>∃ (p:Addr) (ns:List Int),xs = [.ref p] ∧ SqL X.K H p (ns.map V.int) ∧ 0 < ns.length ∧ ∀ M,M ∈ ns → (∀ a ∈ ns,M ≤ a) → Q (.int M) H):=by
 intro pins s σ H xs us Q I r h
 obtain ⟨p,ns,rfl,hq,h0,q⟩:=h
 obtain ⟨u,rfl,ru⟩:=bF.one r
 cases ru
 obtain ⟨its,rv,pl,hz⟩:=I.list hq
 have hi:=vL rv
 obtain ⟨ys,ey⟩:=hi.allInts.items
 have en:ns = ys.toList.map fun x=>x.1:=by
  have h1:=nums_intItems ys
  rw [← ey] at h1
  rw [← h1]
  exact hi.numsOf.symm
 have hl:s.heap.IsList p (intItems ys):=by rw [← ey];exact pl.isList
 have hlen:ns.length = ys.size:=by rw [en,AA,Ba]
 refine min_intList (I.ok.hd hc) hl (by omega) fun v h' tk hv hk=>?_
 obtain ⟨tv,rfl⟩:=intItems_at hv
 obtain ⟨g1,g2⟩:=aCP (numAt ys) (ys.size - 1)
 refine ⟨.int _,H,I.kept (t':=tk) hk,⟨_,rfl⟩,q _ ?_ fun a ma=>?_⟩
 ·rw [numAt_eq,← en,Ai,AC (show argBest (fun i j=>decide (numAt ys i < numAt ys j)) (ys.size - 1) < ns.length by omega)]
  exact DG _
 ·obtain ⟨j,hj⟩:=BA.mp ma
  have hjl:=(AB.mp hj).1
  have:=g2 j (by omega)
  rw [numAt_eq ys j,← en,Ai,hj] at this
  exact this
end
end L2
namespace L2
open PySem PySem.Spec PyProof.Rows
section
variable {prog:Program} {w:World} {A:Around} {E:Value → Shared → Prop} {s:Shared}
theorem aNG {d:Addr} {o:Obj} {es:Array Ea} {ep:Nat} {Q:Value → Shared → Prop} (hd:(d == Ci) = false) (ho:s.heap.get? d = some o) (hc:o.ExactDict) (hdat:o.data = .dict es ep)
  (hQ:Q (.ref s.heap.objs.size) { s with heap:=s.heap.push { cls:=.type "dict_keyiterator",data:=.fields #[.ref d,.int 0 0,.int es.size 0,.int ep 0] } }):wpAny (model prog w) A (pyIter (.ref d)) Q E s:=by
 have hT:s.TypeIs (.ref d) "dict":=⟨o,ho,hc.1⟩
 refine wpAny_pyIter_slot hT F.slot_dict_iter (Eu F.slot_dict_iter hT F.entry_dict_iter ?_ (F.args_dict_iter_1 _))
 unfold Builtin.«dict.__iter__»
 refine AD ?_
 unfold Builtin.Dict.dictSlotNone
 refine AD (EN hT (AZ ?_))
 show wpAny _ _ (Builtin.Dict.showsAll d >>= _) _ _ s
 unfold Builtin.Dict.showsAll
 rw [if_neg (by rw [hd];exact Ad)]
 refine AD (AZ (AD (Er ho hdat (AD (Ez ho hdat ?_)))))
 refine AD (DI (AZ ⟨_,rfl,"dict_keyiterator",_,⟨_,Ab _ rfl,rfl⟩,Bz.lookup,?_⟩))
 simpa [rawInt] using hQ
theorem aNH {it d:Addr} {i ep:Nat} {od:Obj} {es:Array Ea} {Q:Option Value → Shared → Prop} (hit:s.heap.IsKeyIter it d i es.size ep) (hod:s.heap.get? d = some od) (hdd:od.data = .dict es ep) (hlt:i < es.size)
  (hQ:∀ h',h'.IsKeyIter it d (i + 1) es.size ep → DA it s.heap h' → Q (some es[i].key) { s with heap:=h' }):wpAny (model prog w) A (pyNext (.ref it)) Q E s:=by
 obtain ⟨o,ho,hc,hd⟩:=id hit
 unfold pyNext
 refine AD (wpAny_attempt (wpAny_callSpecial?_slot (name:=Str.ofString "__next__") hit.typeIs Bz
  (Eu Bz hit.typeIs F.entry_dict_keyiterator_next ?_ (F.args_dict_keyiterator_next_1 _))))
 refine AD (AZ (AD (AD ?_)))
 first | refine AD (Ce hit.typeIs (AZ ?_)) | refine AD (Cv hit.typeIs (AZ ?_))
 refine AD (wpAny_fieldsOf ho hd ?_)
 simp only [show Builtin.Dict_items.ownsTuple "dict_keyiterator" = false from by decide,EW,if_false]
 show wpAny _ _ (if (Ap d == Bg) = true then _ else _) _ _ s
 rw [if_neg (show ¬ ((Ap d == Bg) = true) from Ad)]
 refine AD (AZ (AD (Er hod hdd ?_)))
 rw [if_neg (by simp)]
 refine AD (AZ (AD (Ez hod hdd ?_)))
 rw [if_neg (by simp)]
 refine AZ ?_
 simp only [show ¬ ((i:Int) < 0) from by omega,if_false,CP,Array.getElem?_eq_getElem hlt]
 refine AD ?_
 first | refine AD (Ce hit.typeIs (AZ ?_)) | refine AD (Cv hit.typeIs (AZ ?_))
 refine AD (wpAny_isOneOf_keyiter hit.typeIs ?_)
 show wpAny _ _ (setField (.ref it) 1 (rawInt ((i:Int) + 1)) >>= _) _ _ s
 refine AD (wpAny_setField ho hd (by simp) ?_)
 have hit':(s.heap.update it (Obj.mapFields (·.setIfInBounds 1 (rawInt ((i:Int) + 1))))).IsKeyIter it d (i + 1) es.size ep :=
  ⟨_,DE _ ho (Obj.isFreed_of_fields (Obj.data_mapFields hd _)),(Obj.cls_mapFields ..).trans hc,by rw [Obj.data_mapFields hd];simp [rawInt]⟩
 refine AD (CI (AD (wpAny_isOneOf_keyiter (s:={ s with heap:=s.heap.update it (Obj.mapFields (·.setIfInBounds 1 (rawInt ((i:Int) + 1)))) }) hit'.typeIs ?_)))
 show wpAny _ _ (pure es[i].key) _ _ _
 exact AZ (AZ ⟨_,rfl,AZ (hQ _ hit' (DA.update ..))⟩)
theorem aQG {it d:Addr} {i ep:Nat} {od:Obj} {es:Array Ea} {Q:Option Value → Shared → Prop} (hh:A.handled = none) (hit:s.heap.IsKeyIter it d i es.size ep) (hod:s.heap.get? d = some od) (hdd:od.data = .dict es ep) (hge:es.size ≤ i)
  (hQ:∀ h',Heap.ExtBut it s.heap h' → Q none { s with heap:=h' }):wpAny (model prog w) A (pyNext (.ref it)) Q E s:=by
 obtain ⟨o,ho,hc,hd⟩:=id hit
 unfold pyNext
 refine AD (wpAny_attempt (wpAny_callSpecial?_slot (name:=Str.ofString "__next__") hit.typeIs Bz
  (Eu Bz hit.typeIs F.entry_dict_keyiterator_next ?_ (F.args_dict_keyiterator_next_1 _))))
 refine AD (AZ (AD (AD ?_)))
 first | refine AD (Ce hit.typeIs (AZ ?_)) | refine AD (Cv hit.typeIs (AZ ?_))
 refine AD (wpAny_fieldsOf ho hd ?_)
 simp only [show Builtin.Dict_items.ownsTuple "dict_keyiterator" = false from by decide,EW,if_false]
 show wpAny _ _ (if (Ap d == Bg) = true then _ else _) _ _ s
 rw [if_neg (show ¬ ((Ap d == Bg) = true) from Ad)]
 refine AD (AZ (AD (Er hod hdd ?_)))
 rw [if_neg (by simp)]
 refine AD (AZ (AD (Ez hod hdd ?_)))
 rw [if_neg (by simp)]
 refine AZ ?_
 simp only [show ¬ ((i:Int) < 0) from by omega,if_false,CP,Array.getElem?_eq_none hge]
 refine AD ?_
 first | refine AD (Ce hit.typeIs (AZ ?_)) | refine AD (Cv hit.typeIs (AZ ?_))
 show wpAny _ _ (setField (.ref it) 0 .none >>= _) _ _ s
 refine AD (wpAny_setField ho hd (by simp) ?_)
 show wpAny _ _ (newExc (.type "StopIteration") [] >>= _) _ _ _
 refine AD ?_
 simp only [newExc,newTuple]
 refine AD (DI ?_ (by size_fits))
 refine AD (m:=firstArgMember _ _) (wpAny_of_eq (a:=Bg) (by first | rfl | (simp only [firstArgMember];rfl)) ?_)
 refine DI ?_ (by size_fits)
 simp only [raiseNew]
 refine AD (wpAny_handled ?_)
 rw [show A.in1.handled = none from hh]
 refine AD (AZ (wpAny_throw ?_))
 refine AD (wpAny_isInstance (T:="StopIteration") (b:=true) ⟨_,Ab _ rfl,rfl⟩ isSubtype_stop ?_)
 exact AZ (hQ _ (((DA.update ..).extBut.push _).push _))
end
def ItT (d:Addr) (o:Obj) (kvs:List (List Key × V)):It :=
 ⟨fun i H=>H d = some (.frz o (.dT kvs)) ∧ i < kvs.length,fun i H x H'=>H' = H ∧ ∃ kv b,kvs[i]? = some kv ∧ x = .ref b ∧ H b = some (.tup (kv.1.map kV)),fun i H=>H d = some (.frz o (.dT kvs)) ∧ kvs.length ≤ i⟩
theorem KT.get {H:Hp} {P:Program} {w:World}:∀ {kvs:List (List Key × V)} {xs:List (List Key × Addr × Value)} {i:Nat},KT H kvs xs → i < kvs.length → ∃ kv x,kvs[i]? = some kv ∧ xs[i]? = some x ∧ H x.2.1 = some (.tup (kv.1.map kV))
 | _,_,_,.nil,h=>by simp at h
 | _,_,0,.cons a r,_=>⟨_,_,rfl,rfl,a.2.1⟩
 | _,_,i + 1,.cons a r,h=>by
  obtain ⟨kv,x,e1,e2,e3⟩:=KT.get (P:=P) (w:=w) (i:=i) r (by simpa using h)
  exact ⟨kv,x,by simpa using e1,by simpa using e2,e3⟩
theorem KT.len {H:Hp}:∀ {kvs:List (List Key × V)} {xs:List (List Key × Addr × Value)},KT H kvs xs → kvs.length = xs.length
 | _,_,.nil=>rfl
 | _,_,.cons _ r=>by rw [Aj,Aj,KT.len r]
theorem aNE {P:Program} {w:World} {K:AG} {tg:Expr} {d it:Addr} {o:Obj} {kvs:List (List Key × V)} {es:Array Ea} {ep:Nat} (hdat:o.data = .dict es ep) (hz:es.size = kvs.length) :
  Turn P w K tg (ItT d o kvs) [it] it (fun i h=>h.IsKeyIter it d i es.size ep) where
 mem:=by simp
 obj:=fun i h st b hb=>by
  have e:b = it:=by simpa using hb
  subst e
  obtain ⟨ob,e,c,dd⟩:=st
  exact ⟨ob,e,fun v z=>by rw [dd] at z;cases z⟩
 keep:=fun i h h' st k=>st.at fun ob e=>k it (by simp) ob e
 item:=by
  intro X hP hw hK hc i pins s σ H E I hf st hg
  subst hP hw hK
  obtain ⟨hH,hi⟩:=hg
  obtain ⟨f0,f1,f2,f3,f4,f5⟩:=hf it (by simp)
  have hok:=(show bP X.prog X.w H s.heap d (.frz o (.dT kvs)) from I.hok d _ hH)
  have hget:s.heap.get? d = some o:=hok.1
  obtain ⟨z,y,xs,r,o',es',ep',h1,h2,h3,h4,h5⟩:=(show bP X.prog X.w H s.heap d (.dT kvs) from hok.2)
  rw [hget] at h1
  cases h1
  rw [hdat] at h3
  cases h3
  obtain ⟨kv,x,e1,e2,e3⟩:=KT.get (P:=X.prog) (w:=X.w) r hi
  have hlt:i < es.size:=by omega
  refine aNH st hget hdat hlt fun h' st' sb=>?_
  have ek:es[i].key = .ref x.2.1:=by
   have q:=entry_at h4 i
   rw [Array.getElem?_eq_getElem hlt,e2] at q
   have q':=Ax q
   rw [q']
   rfl
  have I1:Inv X pins σ H { s with heap:=h' }:=I.turned (t':=s.toks) (fun b ob hb e=>(sb.2 b hb).trans e) f0 f1 f3 f4 f5
  obtain ⟨ob,e,c,dd⟩:=id st'
  refine ⟨es[i].key,rfl,aCS (s:={ s with heap:=h' }) e c dd (by decide) ⟨.ref x.2.1,H,I1,?_,⟨rfl,kv,x.2.1,e1,rfl,e3⟩,st',fun b hb=>(hf b hb).1⟩⟩
  rw [ek]
  rfl
 done:=by
  intro X hP hw hK hc i pins s σ H E I hf st hg
  subst hP hw hK
  obtain ⟨hH,hi⟩:=hg
  obtain ⟨f0,f1,f2,f3,f4,f5⟩:=hf it (by simp)
  have hget:s.heap.get? d = some o:=(show bP X.prog X.w H s.heap d (.frz o (.dT kvs)) from I.hok d _ hH).1
  exact aQG (I.ok.hd hc) st hget hdat (by omega) fun h' eb=>⟨rfl,I.turned (t':=s.toks) (fun b ob hb e=>eb b ob hb e) f0 f1 f3 f4 f5⟩
 self:=fun _ _ _ _ _ st h=>wpAny_pyIter_keyiter st h
section
variable {X:Cx} {tg:Expr}
def aLS (td:TE):TI:=fun σ H R=>td σ H fun x H1=>∃ d kvs,x = .ref d ∧ ((H1 d = some (.dT kvs) ∧ ∀ o,R (ItT d o kvs) (upd H1 d (.frz o (.dT kvs)))) ∨ ∃ o,H1 d = some (.frz o (.dT kvs)) ∧ R (ItT d o kvs) H1)
theorem aKS {l:Expr} {tl:TE} (hl:PE X l tl):PI X tg l (aLS tl):=by
 intro pins s σ H R I h
 refine thn (hl pins s σ H _ I h) fun v s1 ⟨x,H1,I1,r1,q1⟩=>?_
 obtain ⟨d,kvs,e,q⟩:=q1
 subst e
 cases r1
 have go:∀ (o:Obj) (H2:Hp),Inv X pins σ H2 s1 → H2 d = some (.frz o (.dT kvs)) → R (ItT d o kvs) H2 → wpAny (model X.prog X.w) X.A (pyIter (.ref d)) (PIE X pins σ tg R) X.xe s1:=fun o H2 I2 hH q=>by
  have hok:=(show bP X.prog X.w H2 s1.heap d (.frz o (.dT kvs)) from I2.hok d _ hH)
  obtain ⟨z,y,xs,r,o',es,ep,h1,h2,h3,h4,h5⟩:=(show bP X.prog X.w H2 s1.heap d (.dT kvs) from hok.2)
  have h0:=hok.1
  rw [h0] at h1
  cases h1
  have hz:es.size = kvs.length:=by rw [size_of_entries h4,KT.len r]
  refine aNG y h0 h2 h3 ?_
  refine ⟨s1.heap.objs.size,[s1.heap.objs.size],_,_,H2,rfl,I2.kept (t':=s1.toks) fun b ob e=>AE _ e,aNE h3 hz,⟨_,Ab _ rfl,rfl,rfl⟩,fun b hb=>?_,q⟩
  have e:b = s1.heap.objs.size:=by simpa using hb
  subst e
  exact I2.fpOk (AN _) (I2.hok.fresh (AN _))
 rcases q with ⟨hH,q⟩ | ⟨o,hH,q⟩
 ·obtain ⟨z,y,xs,r,o,es,ep,h1,h2,h3,h4,h5⟩:=(show bP X.prog X.w H1 s1.heap d (.dT kvs) from I1.hok d _ hH)
  refine go o _ (I1.write (x:=d) (e:=d) (o:=.frz o (.dT kvs)) (h':=s1.heap) (t':=s1.toks) (by rw [hH];exact trivial) (.inl rfl) (fun _ _ _ q=>q) ⟨o,h1⟩ ⟨h1,z,y,xs,?_,o,es,ep,h1,h2,h3,h4,h5⟩) aE (q o)
  exact Paired.mapP r fun p q t=>⟨t.1,by rw [aI (fun e=>by rw [e,hH] at t;cases t.2.1)];exact t.2.1,t.2.2⟩
 ·exact go o H1 I1 hH q
theorem aLZ {d:Addr} {o:Obj} {kvs:List (List Key × V)} {g:TG} {tb:TS} {D:Ends} {σ:St} {H:Hp} (Pv:Nat → St → Hp → Prop) (h0:Pv 0 σ H) (hl:∀ i σ H,i ≤ kvs.length → Pv i σ H → H d = some (.frz o (.dT kvs)))
  (hs:∀ i kv b σ H,kvs[i]? = some kv → H b = some (.tup (kv.1.map kV)) → Pv i σ H → g (.ref b) σ H fun σ2 H2=>tb { D with nx:=Pv (i + 1),ct:=Pv (i + 1),bk:=D.nx } σ2 H2) (hd:∀ σ H,Pv kvs.length σ H → D.nx σ H) :
  ∃ W:Nat → Nat → St → Hp → Prop,(∃ m,W 0 m σ H) ∧ ∀ i m σ H,W i m σ H →
   ((ItT d o kvs).stop i H ∧ D.nx σ H) ∨ ((ItT d o kvs).go i H ∧ ∃ N:St → Hp → Prop,(∀ σ' H',N σ' H' → ∃ m',m' < m ∧ W (i + 1) m' σ' H') ∧ ∀ x H',(ItT d o kvs).yld i H x H' → g x σ H' fun σ2 H2=>tb { D with nx:=N,ct:=N,bk:=D.nx } σ2 H2):=by
 refine ⟨fun i m σ H=>m + i = kvs.length ∧ Pv i σ H,⟨kvs.length,rfl,h0⟩,?_⟩
 intro i m σ H hw
 obtain ⟨hm,pv⟩:=hw
 have at_:=hl i σ H (by omega) pv
 rcases Nat.lt_or_ge i kvs.length with lt | ge
 ·refine .inr ⟨⟨at_,lt⟩,Pv (i + 1),(fun σ' H' p'=>⟨kvs.length - (i + 1),by omega,by omega,p'⟩),fun x H' y=>?_⟩
  obtain ⟨eH,kv,b,ek,ex,eb⟩:=y
  subst eH ex
  exact hs i kv b σ _ ek eb pv
 ·have ei:i = kvs.length:=by omega
  subst ei
  exact .inl ⟨⟨at_,AN _⟩,hd σ H pv⟩
end
end L2
namespace L2
open PySem PySem.Spec PyProof.Rows
def aRZ (zs ss:List Str):Prop:=ss.Perm zs ∧ sortedS ss = true
theorem aNC {us:List Value} {ss:List Str} (h:StrsAre us ss):bF (ss.map V.str) us:=by
 induction h with
 | nil=>exact .nil
 | cons n t _ ih=>exact .cons ⟨t,rfl⟩ ih
theorem xH:∀ {ss:List Str} {vs:List Value},bF (ss.map V.str) vs → StrsAre vs ss
 | [],_,.nil=>.nil
 | n :: ns,_,.cons ⟨t,rfl⟩ r=>.cons n t (xH r)
section
variable {X:Cx}
theorem rQ:eO X (.builtin "sorted") (fun xs H Q=>∃ (l:Addr) (zs:List Str),xs = [.ref l] ∧ SqL X.K H l (zs.map V.str) ∧ zs.length < 64 ∧
  ∀ (r:Addr) (ss:List Str),aRZ zs ss → H r = none → Q (.ref r) (upd H r (.lst (ss.map V.str)))):=by
 intro pins s σ H xs us Q I r h
 obtain ⟨l,zs,rfl,hq,hn,q⟩:=h
 obtain ⟨u,rfl,ru⟩:=bF.one r
 cases ru
 obtain ⟨its,rv,pl,hz⟩:=I.list hq
 have sa:=xH rv
 have hlen:=rv.length
 rw [AA] at hlen
 refine sorted_strs pl.isList sa (by omega) fun out ss' a1 a2 a3=>?_
 obtain ⟨e,he⟩:=sortedAll_at s.heap its out
 refine ⟨.ref (s.heap.objs.size + 1),_,I.laid (t':=s.toks) (h':=sortedAll s.heap its out) (fun b o e=>sortedAll_old e) (CO _) (show bP X.prog X.w _ _ _ (.lst (ss'.map V.str)) from ⟨?_,out.toList,e,aNC a1,?_⟩),rfl,q _ ss' ⟨a2,a3⟩ (I.hok.fresh (CO _))⟩
 ·rw [AA,a2.length_eq,CJ];omega
 ·rw [Array.toArray_toList];exact he
end
end L2
namespace L2
open PySem PySem.Spec PyProof.Rows
section
variable {P:Program} {w:World} {A:Around} {R:Result → Shared → Prop} {I:Addr} {fp wr:List Addr} {G:Array DV → Array DV → Prop} {n:Nat} {Pv:Nat → Value → Prop} {Stt:Nat → Shared → Prop}
theorem aFH {kvs:List (List Key × Addr × Value)} (nd:(kvs.map (·.1)).Nodup) {i:Nat} {x:List Key × Addr × Value} (h:kvs[i]? = some x):atKey (kvs.take i) x.1 = none:=by
 unfold atKey
 rw [Option.map_eq_none_iff,List.find?_eq_none]
 intro y m e
 have e':y.1 = x.1:=of_decide_eq_true e
 obtain ⟨j,hj⟩:=BA.mp m
 rw [List.getElem?_take] at hj
 split at hj
 ·rename_i lt
  have hi:=(AB.mp h).1
  have hj':=(AB.mp hj).1
  rw [CD,DY] at nd
  refine nd j i (by rw [AA];exact hj') (by rw [AA];exact hi) lt ?_
  rw [CU,CU,(AB.mp hj).2,(AB.mp h).2,e']
 ·cases hj
theorem aFB (W:WalksS P w A.in1 I fp wr G n Pv Stt) (hu:A.units + 4 < cLine) (D:Addr) (hD:D ∉ fp) (res:Value) (kvs:List (List Key × Addr × Value)) (hn:kvs.length = n) (hz:n ≤ Aq) (nd:(kvs.map (·.1)).Nodup) (s₀:Shared)
  (hk:∀ x ∈ kvs,x.2.1 ∉ D :: wr ∧ (CL (aS P w)).is s₀.heap x.1 x.2.1)
  (hv:∀ (i:Nat) (v:Value),Pv i v → ∃ (a b:Addr) (k:List Key) (x:Value) (ob:Obj) (c:Nat),v = .ref a ∧ a ∉ D :: wr ∧ s₀.heap.get? a = some ob ∧ ob.cls = .type "tuple" ∧ ob.data = .seq #[.ref b,x] c ∧ kvs[i]? = some (k,b,x)) :
  ∀ (m i:Nat) (s:Shared),n - i = m → i ≤ n → Stt i s → (∀ b o,b ∉ D :: wr → s₀.heap.get? b = some o → s.heap.get? b = some o) → s.heap.DictOfH (CL (aS P w)) D (kvs.take i) →
   (∀ s',Moved (D :: wr) G s s' → s'.heap.DictOfH (CL (aS P w)) D kvs → R (.ok (.ret res)) s') →
   codeAny (model P w) A (.builtin "dict.update.loop" ⟨[.ref D,.ref I,rawInt i,res],[]⟩) R s:=by
 have hDw:D ∉ wr:=fun z=>hD (W.sub _ z)
 have sub:∀ b ∈ wr,b ∈ D :: wr:=fun b z=>AQ _ z
 have moved:∀ {s s':Shared} {i:Nat},Moved wr G s s' → s.heap.DictOfH (CL (aS P w)) D (kvs.take i) → s'.heap.DictOfH (CL (aS P w)) D (kvs.take i):=fun mv ⟨o,es,ep,ho,h2,h3,h4,h5,h6⟩=>⟨o,es,ep,mv.heap D _ hDw ho,h2,h3,h4,fun x hx=>by
  obtain ⟨o,its,n,e,r⟩:=h5 x hx
  exact ⟨o,its,n,mv.heap _ _ (fun z=>(hk x (DK hx)).1 (sub _ z)) e,r⟩,h6⟩
 intro m
 induction m with
 | zero =>
  intro i s e1 e2 st kp hS hR
  obtain rfl:i = n:=by omega
  refine CA gF ?_
  rw [Bm cK _]
  show wpAny _ A.in1 (pyNext (.ref I) >>= _) _ _ s
  refine AD (W.done s _ _ st fun s' mv=>?_)
  show wpAny _ A.in1 (Builtin.Dict.addKeywords D [] >>= _) _ _ s'
  refine AD (AZ ?_)
  have:=moved mv hS
  rw [AF (by omega)] at this
  exact AZ (hR s' (mv.mono sub) this)
 | succ m ih =>
  intro i s e1 e2 st kp hS hR
  have lt:i < n:=by omega
  refine CA gF ?_
  rw [Bm cK _]
  show wpAny _ A.in1 (pyNext (.ref I) >>= _) _ _ s
  refine AD (W.item i s _ _ lt st fun v s' pv st' mv=>?_)
  obtain ⟨a,b,k,x,ob,c,rfl,ha,hg,hc,hd,hi⟩:=hv i v pv
  have hS1:=moved mv hS
  have hg1:s'.heap.get? a = some ob:=mv.heap a ob (fun z=>ha (sub a z)) (kp a ob ha hg)
  have hT:s'.TypeIs (.ref a) "tuple":=⟨ob,hg1,hc⟩
  refine AD (CI (AD (wpAny_tryCatch ?_)))
  unfold Builtin.Dict.pairItems
  refine AD (EE hT ?_)
  rw [if_pos (by decide)]
  refine AD (FA hg1 hd (AZ ?_))
  show wpAny _ _ (holding [.ref b,x] (dictSet D (.ref b) x)) _ _ s'
  obtain ⟨kb,ki⟩:=hk _ (AM hi)
  have hb:(CL (aS P w)).is s'.heap k b:=by
   obtain ⟨o,its,n,e,r⟩:=ki
   exact ⟨o,its,n,mv.heap _ _ (fun z=>kb (sub _ z)) (kp _ _ kb e),r⟩
  refine CI (wpAny_dictSet_heap (DB (by omega)) hb hS1 (fun h' hS2 sb=>?_) ?_)
  ·rw [storedH_new (aFH nd hi)] at hS2
   have e:kvs.take i ++ [(k,b,x)] = kvs.take (i + 1):=by rw [AX,hi];rfl
   rw [e] at hS2
   refine AZ ⟨CY cK _,ih (i + 1) _ (by omega) lt (W.frame _ s' _ _ st' (Em _ _) fun b hb o e=>?_) (fun b o hb e=>?_) hS2 fun s2 mv2 hS4=>?_⟩
   ·rw [sb.2 b (fun z:b = D=>hD (by rw [← z];exact hb))]
    exact e
   ·rw [sb.2 b (fun z:b = D=>hb (by rw [z];exact AU))]
    exact mv.heap b o (fun z=>hb (sub b z)) (kp b o hb e)
   ·refine hR s2 (Moved.trans W.gtrans ((mv.mono sub).then_heap (Em _ _) fun b o hb e=>?_) mv2) hS4
    rw [sb.2 b (fun z:b = D=>hb (by rw [z];exact AU))]
    exact e
  ·rw [AW]
   omega
end
section
variable {P:Program} {w:World} {A:Around} {E:Value → Shared → Prop} {s:Shared}
theorem vV {l:Addr} {its:List Value} {kvs:List (List Key × Addr × Value)} {Q:Value → Shared → Prop} (hh:A.handled = none) (hu:A.units + 20 < cLine) (hl:PlainL s.heap l its.toArray) (hn:its.length = kvs.length) (hz:its.length ≤ Aq) (nd:(kvs.map (·.1)).Nodup)
  (hk:∀ x ∈ kvs,(CL (aS P w)).is s.heap x.1 x.2.1)
  (hv:∀ (i:Nat) (v:Value),its[i]? = some v → ∃ (a b:Addr) (k:List Key) (x:Value) (ob:Obj) (c:Nat),v = .ref a ∧ s.heap.get? a = some ob ∧ ob.cls = .type "tuple" ∧ ob.data = .seq #[.ref b,x] c ∧ kvs[i]? = some (k,b,x))
  (h:∀ (h':Heap) (tk:Nat),h'.DictOfH (CL (aS P w)) s.heap.objs.size kvs → (∀ b o,s.heap.get? b = some o → h'.get? b = some o) → Q (.ref s.heap.objs.size) { s with heap:=h',toks:=tk }) :
  wpAny (model P w) A (call (.type "dict") [.ref l]) Q E s:=by
 refine FB (Q₁:=fun (obj:Value) (s₁:Shared)=>obj = Ap s.heap.objs.size ∧ s₁ = { s with heap:=s.heap.push { cls:=.type "dict",data:=.dict #[] } }) F.kt_called_dict (F.kt_typeCall_dict_1 _) F.entry_dict_init (kt_code_dict_new _ ⟨rfl,rfl⟩) ?_
 rintro obj s₁ ⟨rfl,rfl⟩
 have hnew:(s.heap.push { cls:=.type "dict",data:=.dict #[] }).DictOfH (CL (aS P w)) s.heap.objs.size []:=⟨_,#[],_,Ab _ rfl,⟨rfl,rfl,rfl⟩,rfl,rfl,(fun _ m=>nomatch m),.nil⟩
 have hty:({ s with heap:=s.heap.push { cls:=.type "dict",data:=.dict #[] } }:Shared).TypeIs (.ref s.heap.objs.size) "dict":=⟨_,Ab _ rfl,rfl⟩
 obtain ⟨⟨oc,od,oda,osl⟩,nl,hol,hcl,hod,hdl⟩:=id hl
 simp only at hcl hod hdl
 subst hcl hod hdl
 have lS:l < s.heap.objs.size:=Aa hol
 have hol1:=AE (h:=s.heap) { cls:=.type "dict",data:=.dict #[] } hol
 refine ⟨hty,F.args_dict_init_2 _ _,?_⟩
 unfold Builtin.«dict.__init__»
 refine AD ?_
 unfold Builtin.Dict.selfAndRest
 refine AD (EN hty ?_)
 show wpAny _ _ (pure (s.heap.objs.size,[Ap l])) _ _ _
 refine AZ ?_
 show wpAny _ _ (Cn "dict.__init__" s.heap.objs.size (.ref l) [] .none) _ _ _
 unfold Cn
 refine AD (EE (T:="list") ⟨_,hol1,rfl⟩ ?_)
 rw [if_pos (by decide)]
 refine AD (qB (by simp [hh]) hol1 fun h1 t1 k1=>?_)
 show wpAny _ _ (rule _ >>= _) _ _ _
 refine AD (Ej ?_)
 have hol2:=k1 _ _ hol1
 have hl2:h1.IsList l its.toArray:=⟨_,hol2,rfl,nl,rfl⟩
 refine AD (Co (s:={ s with heap:=h1,toks:=t1 }) hl2 ?_)
 have sz1:s.heap.objs.size < h1.objs.size:=by
  obtain ⟨o,es,ep,ho,_⟩:=hnew
  exact Aa (k1 _ _ ho)
 have nI:l ≠ h1.objs.size:=Af (Aa hol2)
 have nD:s.heap.objs.size ∉ [h1.objs.size,l]:=by
  simp only [Ah,AV,Bs,or_false,not_or]
  exact ⟨Af sz1,DS lS⟩
 refine AZ ⟨CY cK _,?_⟩
 have hh2:A.in1.in1.handled = none:=by simp [hh]
 have out:∀ {b:Addr} {o:Obj},s.heap.get? b = some o → b ∉ [s.heap.objs.size,h1.objs.size]:=fun {b o} e=>by
  have la:=Aa e
  simp only [Ah,AV,Bs,or_false,not_or]
  exact ⟨Af la,Af (DT la sz1)⟩
 refine aFB ((EO hh2 _ l nI its.toArray).toS) ?_ s.heap.objs.size nD .none kvs (by rw [AR,hn]) (by rw [AR];exact hz) nd { s with heap:=h1.push { cls:=.type "list_iterator",data:=.fields #[.ref l,.int 0 0] },toks:=t1 } (fun x m=>?_) (fun i v pv=>?_) (its.toArray.size - 0) 0 _ (by omega) (BK _)
  ⟨⟨_,Ab _ rfl,rfl,rfl⟩,(hl2.push _)⟩ (fun _ _ _ e=>e) ?_ ?_
 ·show A.units + 1 + 4 < _
  omega
 ·obtain ⟨o,its,n,e,r⟩:=hk x m
  exact ⟨out e,o,its,n,AE _ (k1 _ _ (AE _ e)),r⟩
 ·obtain ⟨a,b,k,x,ob,c,rfl,hg,hc,hd,hi⟩:=hv i v (by simpa using pv)
  exact ⟨a,b,k,x,ob,c,rfl,out hg,AE _ (k1 _ _ (AE _ hg)),hc,hd,hi⟩
 ·obtain ⟨o,es,ep,ho,h2,h3,h4,h5,h6⟩:=hnew
  exact ⟨o,es,ep,AE _ (k1 _ _ ho),h2,h3,h4,(fun _ m=>nomatch m),h6⟩
 ·intro s3 mv hS3
  obtain ⟨h3,g3,d3,t3,o3⟩:=s3
  have e1:g3 = s.gens:=mv.gens
  have e2:d3 = s.drawn:=mv.drawn
  have e3:o3 = s.os:=mv.os
  subst e1 e2 e3
  refine ⟨rfl,h h3 t3 hS3 fun b o e=>?_⟩
  exact mv.heap b o (out e) (AE _ (k1 _ _ (AE _ e)))
end
def iR (H:Hp) (ys:List V) (kvs:List (List Key × V)):Prop:=Paired (fun (y:V) (kv:List Key × V)=>∃ a b,y = .ref a ∧ H a = some (.tup [.ref b,kv.2]) ∧ H b = some (.tup (kv.1.map kV))) ys kvs
theorem iR.nil (H:Hp):iR H [] []:=Bw
theorem iR.len {H:Hp} {ys:List V} {kvs:List (List Key × V)} (h:iR H ys kvs):ys.length = kvs.length:=By h
theorem iR.same {H H':Hp} (S:aJ H H'):∀ {ys:List V} {kvs:List (List Key × V)},iR H ys kvs → iR H' ys kvs
 | _,_,Bw=>Bw
 | _,_,CZ ⟨a,b,e,o,o'⟩ t=>CZ ⟨a,b,e,S _ _ o,S _ _ o'⟩ (iR.same S t)
section
variable {X:Cx}
theorem oN {pins:List (Addr × Obj)} {σ:St} {H:Hp} {s:Shared} (I:Inv X pins σ H s):∀ {ys:List V} {kvs:List (List Key × V)} {its:List Value},iR H ys kvs → bF ys its →
  ∃ vk:List (List Key × Addr × Value),KT H kvs vk ∧ its.length = vk.length ∧ (∀ x ∈ vk,(CL (aS X.prog X.w)).is s.heap x.1 x.2.1) ∧ ∀ (i:Nat) (v:Value),its[i]? = some v → ∃ (a b:Addr) (k:List Key) (x:Value) (ob:Obj) (c:Nat),v = .ref a ∧ s.heap.get? a = some ob ∧ ob.cls = .type "tuple" ∧ ob.data = .seq #[.ref b,x] c ∧ vk[i]? = some (k,b,x)
 | _,_,_,Bw,Bw=>⟨[],Bw,rfl,(fun _ m=>nomatch m),fun i v e=>by simp at e⟩
 | _,(k,v0) :: kvs,u :: its,CZ ⟨a,b,e,o,o'⟩ t,CZ r rs=>by
  obtain ⟨vk,h1,h2,h3,h4⟩:=oN I t rs
  subst e
  cases r
  obtain ⟨tis,rt,⟨ob,g,hc,c,hd⟩,_⟩:=I.tuple (SqT.of o)
  obtain ⟨ku,xu,rfl,rk,rx⟩:=bF.two rt
  cases (show ku = Ap b from rk)
  refine ⟨(k,b,xu) :: vk,CZ ⟨rfl,o',rx⟩ h1,by simp [h2],fun x m=>?_,fun i v e=>?_⟩
  ·rcases Ah.mp m with rfl | m
   ·exact rD I.hok o'
   ·exact h3 x m
  ·cases i with
   | zero =>
    simp at e
    subst e
    exact ⟨a,b,k,xu,ob,c,rfl,g,hc,hd,rfl⟩
   | succ i =>
    obtain ⟨a',b',k',x',ob',c',q⟩:=h4 i v (by simpa using e)
    exact ⟨a',b',k',x',ob',c',by simpa using q⟩
theorem rS (hc:X.calm = true) (hu:X.A.units + 64 < cLine):eO X (.type "dict") (fun xs H Q=>∃ (p:Addr) (ys:List V) (kvs:List (List Key × V)),xs = [.ref p] ∧ SqL X.K H p ys ∧ iR H ys kvs ∧ kvs.length ≤ 1000 ∧ (kvs.map (·.1)).Nodup ∧ ∀ l,H l = none → Q (.ref l) (upd H l (.dT kvs))):=by
 intro pins s σ H xs us Q I r h
 obtain ⟨p,ys,kvs,rfl,hq,hp,hn,nd,q⟩:=h
 obtain ⟨u,rfl,ru⟩:=bF.one r
 cases ru
 obtain ⟨its,rv,pl,hz⟩:=I.list hq
 obtain ⟨vk,kv,el,hk,hv⟩:=oN I hp rv
 have big:(1000:Nat) ≤ Aq:=by decide
 have l1:kvs.length = vk.length:=By kv
 have ek:vk.map (·.1) = kvs.map (·.1):=by
  clear hk hv el hn nd l1 hp q
  induction kv with
  | nil=>rfl
  | cons a r ih=>rw [AY,AY,ih,a.1]
 refine vV (kvs:=vk) (I.ok.hd hc) (by omega) pl el (by omega) (by rw [ek];exact nd) hk hv fun h' tk hD hk'=>?_
 have fr:=I.hok.fresh (AN _)
 obtain ⟨o,es,ep,g1,g2,g3,g4,g5,g6⟩:=hD
 refine ⟨.ref s.heap.objs.size,_,I.laid (t':=tk) hk' (AN _) (show bP X.prog X.w _ h' _ (.dT kvs) from ⟨by omega,?_,vk,kv.keeps fun b ys e=>aJ.upd fr _ _ e,o,es,ep,g1,g2,g3,g4,g6⟩),rfl,q _ fr⟩
 have b:=I.big
 exact beq_eq_false_iff_ne.mpr (DS b)
theorem aRN:PIp X .Mult (fun x y H Q=>∃ i j,x = .int i ∧ y = .int j ∧ IntMulOk i j ∧ Q (.int (i * j)) H):=by
 intro pins s σ H x y v u Q I r1 r2 h
 obtain ⟨i,j,e1,e2,hm,q⟩:=h
 subst e1 e2
 obtain ⟨t,rfl⟩:=r1
 obtain ⟨t',rfl⟩:=r2
 exact imul_int ⟨.int (i * j),H,I.tok _,⟨_,rfl⟩,q⟩ hm
theorem wE {K:AG} (h:X.K = K):eO X (.type "tuple") (fun xs H Q=>∃ p ys,xs = [.ref p] ∧ ((SqL K H p ys ∧ ∀ l,H l = none → Q (.ref l) (upd H l (.tup ys))) ∨ (SqT K H p ys ∧ Q (.ref p) H))):=by
 subst h
 exact kG
theorem aRB:MtM X "dict.clear" (fun x vs H Q=>∃ d kvs,x = .ref d ∧ vs = [] ∧ H d = some (.dK kvs) ∧ Q .non (upd H d (.dK []))):=by
 intro pins s σ H x vs v us Q I rx rv h
 obtain ⟨d,kvs,rfl,rfl,e,q⟩:=h
 cases rx
 have hus:=rv.zero
 subst hus
 exact aPB I e fun s' I'=>⟨.non,_,I',rfl,q⟩
end
end L2
namespace L2
open PySem PySem.Spec PyProof.Rows
section
variable {X:Cx} {K:AG}
theorem aKF {a1 a2 a3 a4 b:TS} {D:Ends} {σ:St} {H:Hp} (h:∀ u:TS,(∀ D' σ' H',b D' σ' H' → u D' σ' H') → tY a1 (tY a2 (tY a3 (tY a4 u))) D σ H):tY a1 (tY a2 (tY a3 (tY a4 b))) D σ H:=h b fun _ _ _ x=>x
end
end L2
namespace K72
open PySem L2
local macro_rules | `(tactic| trivial)=>`(tactic| first | exact .inl rfl | exact .inr rfl | assumption)
def top (i:Nat):Stmt:=PySem.Challenge.pw_dykemoot_k72_means_over_all_orders.main.body.getD i (.Pass ⟨0,0,0,0⟩)
abbrev pN:Stmt:=top 0
abbrev gJ:Stmt:=top 15
theorem wI:FnScope ["thing"] ["thing"] (aB gJ):=⟨rfl,rfl,rfl,by decide +kernel,rfl,by decide +kernel,by decide +kernel⟩
abbrev iI:Stmt:=top 16
theorem zL:FnScope ["thing"] ["thing"] (aB iI):=⟨rfl,rfl,rfl,by decide +kernel,rfl,by decide +kernel,by decide +kernel⟩
abbrev fL:Stmt:=top 17
theorem uE:FnScope ["thing"] ["thing"] (aB fL):=⟨rfl,rfl,rfl,by decide +kernel,rfl,by decide +kernel,by decide +kernel⟩
abbrev fM:Stmt:=top 18
theorem uF:FnScope ["thing"] ["thing"] (aB fM):=⟨rfl,rfl,rfl,by decide +kernel,rfl,by decide +kernel,by decide +kernel⟩
abbrev fK:Stmt:=top 19
theorem uD:FnScope ["thing","names"] ["thing","names"] (aB fK):=⟨rfl,rfl,rfl,by decide +kernel,rfl,by decide +kernel,by decide +kernel⟩
abbrev eS:Stmt:=top 20
theorem sR:FnScope ["thing","most"] ["thing","most"] (aB eS):=⟨rfl,rfl,rfl,by decide +kernel,rfl,by decide +kernel,by decide +kernel⟩
abbrev eK:Stmt:=top 21
theorem qR:FnScope ["thing","length"] ["thing","length"] (aB eK):=⟨rfl,rfl,rfl,by decide +kernel,rfl,by decide +kernel,by decide +kernel⟩
abbrev eR:Stmt:=top 22
theorem sQ:FnScope ["rows"] ["rows"] (aB eR):=⟨rfl,rfl,rfl,by decide +kernel,rfl,by decide +kernel,by decide +kernel⟩
abbrev gK:Stmt:=top 23
theorem wJ:FnScope ["thing"] ["thing"] (aB gK):=⟨rfl,rfl,rfl,by decide +kernel,rfl,by decide +kernel,by decide +kernel⟩
abbrev eV:Stmt:=top 24
theorem sT:FnScope ["thing"] ["thing"] (aB eV):=⟨rfl,rfl,rfl,by decide +kernel,rfl,by decide +kernel,by decide +kernel⟩
abbrev fQ:Stmt:=top 25
theorem uI:FnScope ["one","other","sides"] ["one","other","sides"] (aB fQ):=⟨rfl,rfl,rfl,by decide +kernel,rfl,by decide +kernel,by decide +kernel⟩
abbrev iH:Stmt:=top 26
theorem zK:FnScope ["thing","crown"] ["thing","crown"] (aB iH):=⟨rfl,rfl,rfl,by decide +kernel,rfl,by decide +kernel,by decide +kernel⟩
abbrev iJ:Stmt:=top 27
theorem zM:FnScope ["thing","sides"] ["thing","sides"] (aB iJ):=⟨rfl,rfl,rfl,by decide +kernel,rfl,by decide +kernel,by decide +kernel⟩
abbrev fR:Stmt:=top 28
theorem uJ:FnScope ["thing","sides"] ["thing","sides"] (aB fR):=⟨rfl,rfl,rfl,by decide +kernel,rfl,by decide +kernel,by decide +kernel⟩
abbrev iG:Stmt:=top 29
theorem zJ:FnScope ["land","thing"] ["land","thing"] (aB iG):=⟨rfl,rfl,rfl,by decide +kernel,rfl,by decide +kernel,by decide +kernel⟩
abbrev fP:Stmt:=top 30
theorem uH:FnScope ["land","thing"] ["land","thing"] (aB fP):=⟨rfl,rfl,rfl,by decide +kernel,rfl,by decide +kernel,by decide +kernel⟩
abbrev cU:Stmt:=top 31
theorem iC:FnScope ["land","thing","names"] ["land","thing"] (aB cU):=⟨rfl,rfl,rfl,by decide +kernel,rfl,by decide +kernel,by decide +kernel⟩
abbrev gO:Stmt:=hW (top 32) 0
theorem wM:FnScope ["self","fields","dykes"] ["self","fields","dykes"] (aB gO):=⟨rfl,rfl,rfl,by decide +kernel,rfl,by decide +kernel,by decide +kernel⟩
abbrev fY:Stmt:=hW (top 32) 1
abbrev eW:Stmt:=hW (top 32) 2
theorem sU:FnScope ["self"] ["self"] (aB eW):=⟨rfl,rfl,rfl,by decide +kernel,rfl,by decide +kernel,by decide +kernel⟩
abbrev cM:Stmt:=hW (top 32) 3
theorem mB:FnScope ["self"] ["self"] (aB cM):=⟨rfl,rfl,rfl,by decide +kernel,rfl,by decide +kernel,by decide +kernel⟩
abbrev cV:Stmt:=hW (top 32) 4
theorem mJ:FnScope ["self"] ["self"] (aB cV):=⟨rfl,rfl,rfl,by decide +kernel,rfl,by decide +kernel,by decide +kernel⟩
abbrev fC:Stmt:=hW (top 32) 5
abbrev eL:Stmt:=hW (top 32) 6
theorem qS:FnScope ["self","field"] ["self","field"] (aB eL):=⟨rfl,rfl,rfl,by decide +kernel,rfl,by decide +kernel,by decide +kernel⟩
abbrev hV:Stmt:=hW (top 32) 7
abbrev fS:Stmt:=hW (top 32) 8
theorem uK:FnScope ["self","name"] ["self","name"] (aB fS):=⟨rfl,rfl,rfl,by decide +kernel,rfl,by decide +kernel,by decide +kernel⟩
abbrev fX:Stmt:=hW (top 32) 9
abbrev jD:Stmt:=top 34
theorem iA:FnScope ["starts","steps","came","waiting","near","step"] ["starts","steps"] (aB jD):=⟨rfl,rfl,rfl,by decide +kernel,rfl,by decide +kernel,by decide +kernel⟩
abbrev iF:Stmt:=top 35
theorem iT:FnScope ["came","side","path","step"] ["came","side"] (aB iF):=⟨rfl,rfl,rfl,by decide +kernel,rfl,by decide +kernel,by decide +kernel⟩
abbrev eU:Stmt:=top 37
theorem sS:FnScope ["land","fields","height"] ["land","fields","height"] (aB eU):=⟨rfl,rfl,rfl,by decide +kernel,rfl,by decide +kernel,by decide +kernel⟩
abbrev gM:Stmt:=top 38
theorem wK:FnScope ["dyke","height"] ["dyke","height"] (aB gM):=⟨rfl,rfl,rfl,by decide +kernel,rfl,by decide +kernel,by decide +kernel⟩
abbrev gN:Stmt:=top 39
theorem wL:FnScope ["land","works"] ["land","works"] (aB gN):=⟨rfl,rfl,rfl,by decide +kernel,rfl,by decide +kernel,by decide +kernel⟩
abbrev jF:Stmt:=top 40
theorem aBQ:FnScope ["land","side","height"] ["land","side","height"] (aB jF):=⟨rfl,rfl,rfl,by decide +kernel,rfl,by decide +kernel,by decide +kernel⟩
abbrev jG:Stmt:=top 41
theorem aBR:FnScope ["land","dyke","height"] ["land","dyke","height"] (aB jG):=⟨rfl,rfl,rfl,by decide +kernel,rfl,by decide +kernel,by decide +kernel⟩
abbrev fN:Stmt:=top 42
theorem uG:FnScope ["land","height"] ["land","height"] (aB fN):=⟨rfl,rfl,rfl,by decide +kernel,rfl,by decide +kernel,by decide +kernel⟩
abbrev eQ:Stmt:=top 43
theorem fW:FnScope ["land","names","steps","name","dyke"] ["land","names"] (aB eQ):=⟨rfl,rfl,rfl,by decide +kernel,rfl,by decide +kernel,by decide +kernel⟩
abbrev mK:Stmt:=top 44
theorem aHM:FnScope ["step","most","stream"] ["step","most","stream"] (aB mK):=⟨rfl,rfl,rfl,by decide +kernel,rfl,by decide +kernel,by decide +kernel⟩
abbrev iE:Stmt:=top 45
theorem zI:FnScope ["steps","most","stream"] ["steps","most","stream"] (aB iE):=⟨rfl,rfl,rfl,by decide +kernel,rfl,by decide +kernel,by decide +kernel⟩
abbrev dD:Stmt:=top 46
theorem fF:FnScope ["steps","most","stream","fields","came","ends"] ["steps","most","stream","fields"] (aB dD):=⟨rfl,rfl,rfl,by decide +kernel,rfl,by decide +kernel,by decide +kernel⟩
abbrev dE:Stmt:=top 47
theorem cE:FnScope ["steps","most","fields","stream","path","amount","step"] ["steps","most","fields"] (aB dE):=⟨rfl,rfl,rfl,by decide +kernel,rfl,by decide +kernel,by decide +kernel⟩
abbrev eJ:Stmt:=top 48
theorem kM:FnScope ["steps","flowed","fields","height","behind"] ["steps","flowed","fields","height"] (aB eJ):=⟨rfl,rfl,rfl,by decide +kernel,rfl,by decide +kernel,by decide +kernel⟩
abbrev jH:Stmt:=top 49
theorem gB:FnScope ["land","fields","height","most","steps","stream","works","amounts"] ["land","fields","height"] (aB jH):=⟨rfl,rfl,rfl,by decide +kernel,rfl,by decide +kernel,by decide +kernel⟩
abbrev dR:Stmt:=top 52
theorem pL:FnScope ["height"] ["height"] (aB dR):=⟨rfl,rfl,rfl,by decide +kernel,rfl,by decide +kernel,by decide +kernel⟩
abbrev mL:Stmt:=top 53
theorem aHN:FnScope ["land","fields","height"] ["land","fields","height"] (aB mL):=⟨rfl,rfl,rfl,by decide +kernel,rfl,by decide +kernel,by decide +kernel⟩
abbrev cR:Stmt:=top 54
theorem dM:FnScope ["count","lists","place"] ["count"] (aB cR):=⟨rfl,rfl,rfl,by decide +kernel,rfl,by decide +kernel,by decide +kernel⟩
abbrev fO:Stmt:=top 55
theorem gH:FnScope ["land","fields","height","told","places","company"] ["land","fields","height"] (aB fO):=⟨rfl,rfl,rfl,by decide +kernel,rfl,by decide +kernel,by decide +kernel⟩
abbrev cL:Stmt:=top 57
theorem dI:FnScope ["one","other","rest"] ["one","other"] (aB cL):=⟨rfl,rfl,rfl,by decide +kernel,rfl,by decide +kernel,by decide +kernel⟩
abbrev gL:Stmt:=top 58
theorem oM:FnScope ["top","bottom","divisor"] ["top","bottom"] (aB gL):=⟨rfl,rfl,rfl,by decide +kernel,rfl,by decide +kernel,by decide +kernel⟩
abbrev fJ:Stmt:=top 59
theorem gG:FnScope ["count","product","number"] ["count"] (aB fJ):=⟨rfl,rfl,rfl,by decide +kernel,rfl,by decide +kernel,by decide +kernel⟩
abbrev dN:Stmt:=top 60
theorem oV:FnScope ["ahead","count"] ["ahead","count"] (aB dN):=⟨rfl,rfl,rfl,by decide +kernel,rfl,by decide +kernel,by decide +kernel⟩
abbrev gI:Stmt:=top 61
theorem fH:FnScope ["field","fields","costs","total","company","joined"] ["field","fields","costs"] (aB gI):=⟨rfl,rfl,rfl,by decide +kernel,rfl,by decide +kernel,by decide +kernel⟩
abbrev jE:Stmt:=top 62
theorem sC:FnScope ["land","fields","height","costs"] ["land","fields","height"] (aB jE):=⟨rfl,rfl,rfl,by decide +kernel,rfl,by decide +kernel,by decide +kernel⟩
abbrev kQ:Stmt:=top 64
theorem oW:FnScope ["_law_script","_law_k","_law_number"] ["_law_script","_law_k"] (aB kQ):=⟨rfl,rfl,rfl,by decide +kernel,rfl,by decide +kernel,by decide +kernel⟩
abbrev kP:Stmt:=top 65
theorem dY:FnScope ["_law_cell","_law_letters","_law_size","_law_place","_law_by","_law_base","_law_found","_law_k","_law_sign"] ["_law_cell"] (aB kP):=⟨rfl,rfl,rfl,by decide +kernel,rfl,by decide +kernel,by decide +kernel⟩
abbrev jK:Stmt:=top 66
theorem aBS:FnScope ["_law_cell"] ["_law_cell"] (aB jK):=⟨rfl,rfl,rfl,by decide +kernel,rfl,by decide +kernel,by decide +kernel⟩
abbrev jL:Stmt:=top 67
theorem gC:FnScope ["_law_script","_law_most","_law_names_here","_law_fields_here","_law_k","_law_cell","_law_dues"] ["_law_script","_law_most"] (aB jL):=⟨rfl,rfl,rfl,by decide +kernel,rfl,by decide +kernel,by decide +kernel⟩
abbrev kR:Stmt:=top 68
theorem cJ:FnScope ["_law_script","_law_at","_law_most","_law_fields_here","_law_names_here","_law_sides","_law_dykes_here","_law_k","_law_cell","_law_one","_law_others","_law_other","_law_crown","_law_rate","_law_sill"] ["_law_script","_law_at","_law_most","_law_fields_here"] (aB kR):=⟨rfl,rfl,rfl,by decide +kernel,rfl,by decide +kernel,by decide +kernel⟩
abbrev mN:Stmt:=top 69
theorem kN:FnScope ["_law_cell","_law_fields_here","_law_most","_law_left","_law_found","_law_k"] ["_law_cell","_law_fields_here","_law_most"] (aB mN):=⟨rfl,rfl,rfl,by decide +kernel,rfl,by decide +kernel,by decide +kernel⟩
abbrev iK:Stmt:=top 70
theorem pM:FnScope ["_law_one","_law_other"] ["_law_one","_law_other"] (aB iK):=⟨rfl,rfl,rfl,by decide +kernel,rfl,by decide +kernel,by decide +kernel⟩
abbrev jJ:Stmt:=top 71
theorem sD:FnScope ["_law_top","_law_bottom","_law_by"] ["_law_top","_law_bottom"] (aB jJ):=⟨rfl,rfl,rfl,by decide +kernel,rfl,by decide +kernel,by decide +kernel⟩
abbrev kO:Stmt:=top 72
theorem aDX:FnScope ["_law_found"] ["_law_found"] (aB kO):=⟨rfl,rfl,rfl,by decide +kernel,rfl,by decide +kernel,by decide +kernel⟩
abbrev gQ:Stmt:=top 73
theorem wN:FnScope ["_law_found","_law_due_here"] ["_law_found","_law_due_here"] (aB gQ):=⟨rfl,rfl,rfl,by decide +kernel,rfl,by decide +kernel,by decide +kernel⟩
abbrev jI:Stmt:=top 74
theorem iD:FnScope ["_law_names_here","_law_found","_law_name","_law_order"] ["_law_names_here"] (aB jI):=⟨rfl,rfl,rfl,by decide +kernel,rfl,by decide +kernel,by decide +kernel⟩
abbrev pO:Stmt:=top 75
theorem fI:FnScope ["_law_land","_law_wish_here","_law_height_here","_law_known","_law_sums","_law_name","_law_orders_here","_law_order","_law_last","_law_k","_law_company"] ["_law_land","_law_wish_here","_law_height_here"] (aB pO):=⟨rfl,rfl,rfl,by decide +kernel,rfl,by decide +kernel,by decide +kernel⟩
abbrev mO:Stmt:=top 76
theorem aHO:FnScope ["_law_found","_law_due_here"] ["_law_found","_law_due_here"] (aB mO):=⟨rfl,rfl,rfl,by decide +kernel,rfl,by decide +kernel,by decide +kernel⟩
abbrev nZ:Stmt:=top 77
theorem iB:FnScope ["_law_script","_law_fields_here","_law_land","_law_wish_here","_law_height_here","_law_due_here","_law_handed","_law_found"] ["_law_script"] (aB nZ):=⟨rfl,rfl,rfl,by decide +kernel,rfl,by decide +kernel,by decide +kernel⟩
structure Txt (K:AG) (mg:Str → Option Value) (C:Addr):Prop where
 cl_Land:Cls K C
 mg_Land:mg "Land" = some (.ref C)
 a_field_rows:nV K C "field_rows"
 a_dyke_rows:nV K C "dyke_rows"
 ci_Land:InstC K C
 i_Land:InitAt K C "Land.__init__" gO ["self","fields","dykes"]
 m_land_p_fields:MethAt K C "fields" "Land.fields" fY ["self"]
 m_land_p_dykes:MethAt K C "dykes" "Land.dykes" eW ["self"]
 m_land_p_field_names:MethAt K C "field_names" "Land.field_names" cM ["self"]
 m_land_p_dyke_names:MethAt K C "dyke_names" "Land.dyke_names" cV ["self"]
 m_land_p_sluices:MethAt K C "sluices" "Land.sluices" fC ["self"]
 m_land_p_ground:MethAt K C "ground" "Land.ground" eL ["self","field"]
 m_land_p_dues:MethAt K C "dues" "Land.dues" hV ["self","field"]
 m_land_p_dyke:MethAt K C "dyke" "Land.dyke" fS ["self","name"]
 m_land_p_raised:MethAt K C "raised" "Land.raised" fX ["self","works"]
 d_p_wall:DefAt K mg "_wall" pN ["k"]
 d_p_is_whole:DefAt K mg "is_whole" gJ ["thing"]
 d_p_is_name:DefAt K mg "is_name" iI ["thing"]
 d_p_is_height:DefAt K mg "is_height" fL ["thing"]
 d_p_is_amount:DefAt K mg "is_amount" fM ["thing"]
 d_p_is_one_of:DefAt K mg "is_one_of" fK ["thing","names"]
 d_p_is_list_of:DefAt K mg "is_list_of" eS ["thing","most"]
 d_p_is_tuple_of:DefAt K mg "is_tuple_of" eK ["thing","length"]
 d_p_none_twice:DefAt K mg "none_twice" eR ["rows"]
 d_p_is_field:DefAt K mg "is_field" gK ["thing"]
 d_p_are_fields:DefAt K mg "are_fields" eV ["thing"]
 d_p_are_sides:DefAt K mg "are_sides" fQ ["one","other","sides"]
 d_p_is_sill:DefAt K mg "is_sill" iH ["thing","crown"]
 d_p_is_dyke:DefAt K mg "is_dyke" iJ ["thing","sides"]
 d_p_are_dykes:DefAt K mg "are_dykes" fR ["thing","sides"]
 d_p_is_work:DefAt K mg "is_work" iG ["land","thing"]
 d_p_are_works:DefAt K mg "are_works" fP ["land","thing"]
 d_p_are_some_fields:DefAt K mg "are_some_fields" cU ["land","thing"]
 d_p_spread:DefAt K mg "spread" jD ["starts","steps"]
 d_p_path_to:DefAt K mg "path_to" iF ["came","side"]
 d_p_check_wish:DefAt K mg "check_wish" eU ["land","fields","height"]
 d_p_coins_to:DefAt K mg "coins_to" gM ["dyke","height"]
 d_p_coins_of:DefAt K mg "coins_of" gN ["land","works"]
 d_p_is_low:DefAt K mg "is_low" jF ["land","side","height"]
 d_p_is_gap:DefAt K mg "is_gap" jG ["land","dyke","height"]
 d_p_gap_coins:DefAt K mg "gap_coins" fN ["land","height"]
 d_p_steps_over:DefAt K mg "steps_over" eQ ["land","names"]
 d_p_room:DefAt K mg "room" mK ["step","most","stream"]
 d_p_reached:DefAt K mg "reached" iE ["steps","most","stream"]
 d_p_path_with_room:DefAt K mg "path_with_room" dD ["steps","most","stream","fields"]
 d_p_fullest_stream:DefAt K mg "fullest_stream" dE ["steps","most","fields"]
 d_p_works_round:DefAt K mg "works_round" eJ ["steps","flowed","fields","height"]
 d_p_fewest:DefAt K mg "fewest" jH ["land","fields","height"]
 d_p_cost_of_none:DefAt K mg "cost_of_none" dR ["height"]
 d_p_cost:DefAt K mg "cost" mL ["land","fields","height"]
 d_p_lists_of_places:DefAt K mg "lists_of_places" cR ["count"]
 d_p_companies:DefAt K mg "companies" fO ["land","fields","height"]
 d_p_greatest_divisor:DefAt K mg "greatest_divisor" cL ["one","other"]
 d_p_fraction:DefAt K mg "fraction" gL ["top","bottom"]
 d_p_orders_of:DefAt K mg "orders_of" fJ ["count"]
 d_p_orders_behind:DefAt K mg "orders_behind" dN ["ahead","count"]
 d_p_share_of:DefAt K mg "share_of" gI ["field","fields","costs"]
 d_p_shares:DefAt K mg "shares" jE ["land","fields","height"]
 d_l_mixed:DefAt K mg "_law_mixed" kQ ["_law_script","_law_k"]
 d_l_names:DefAt K mg "_law_names" kP ["_law_cell"]
 d_l_height:DefAt K mg "_law_height" jK ["_law_cell"]
 d_l_fields:DefAt K mg "_law_fields" jL ["_law_script","_law_most"]
 d_l_dykes:DefAt K mg "_law_dykes" kR ["_law_script","_law_at","_law_most","_law_fields_here"]
 d_l_wish:DefAt K mg "_law_wish" mN ["_law_cell","_law_fields_here","_law_most"]
 d_l_divisor:DefAt K mg "_law_divisor" iK ["_law_one","_law_other"]
 d_l_lowest:DefAt K mg "_law_lowest" jJ ["_law_top","_law_bottom"]
 d_l_whole:DefAt K mg "_law_whole" kO ["_law_found"]
 d_l_is_share:DefAt K mg "_law_is_share" gQ ["_law_found","_law_due_here"]
 d_l_orders:DefAt K mg "_law_orders" jI ["_law_names_here"]
 d_l_due:DefAt K mg "_law_due" pO ["_law_land","_law_wish_here","_law_height_here"]
 d_l_good:DefAt K mg "_law_good" mO ["_law_found","_law_due_here"]
 d_p_law:DefAt K mg "law" nZ ["_law_script"]
 g_SEA:kJ mg "SEA" (.str "sea")
 g_LETTERS:kJ mg "LETTERS" (.str "abcdefghijklmnopqrstuvwxyz")
 g_MOST_LETTERS:kJ mg "MOST_LETTERS" (.int 8)
 g_MOST_HEIGHT:kJ mg "MOST_HEIGHT" (.int 1000000)
 g_MOST_AMOUNT:kJ mg "MOST_AMOUNT" (.int 1000000)
 g_MOST_FIELDS:kJ mg "MOST_FIELDS" (.int 12)
 g_MOST_DYKES:kJ mg "MOST_DYKES" (.int 40)
 g_MOST_IN_A_WISH:kJ mg "MOST_IN_A_WISH" (.int 8)
 n_abs:mg "abs" = none
 n_all:mg "all" = none
 n_bool:mg "bool" = none
 n_dict:mg "dict" = none
 n_int:mg "int" = none
 n_isinstance:mg "isinstance" = none
 n_len:mg "len" = none
 n_list:mg "list" = none
 n_max:mg "max" = none
 n_min:mg "min" = none
 n_range:mg "range" = none
 n_reversed:mg "reversed" = none
 n_set:mg "set" = none
 n_sorted:mg "sorted" = none
 n_str:mg "str" = none
 n_sum:mg "sum" = none
 n_tuple:mg "tuple" = none
section
variable {P:Program} {w:World} {K:AG} {mg:Str → Option Value} {base:Heap} {C:Addr}
open Ld
theorem bO:(1000:Nat) ≤ Aq:=by decide
def zB:Sp:=sp1 fun x H Q=>∃ d,Is H d x ∧ Q (.bl (isInt d)) H
theorem oO (T:Txt K mg C):Fc P w K mg base 1 "is_whole" ["thing"] zB:=by
 refine T.d_p_is_whole.fc wI mF (fun f cdv A outer s H vs Q E hr h=>?_)
 obtain ⟨x,rfl,d,hd,q⟩:=h
 obtain ⟨t,ty,e1,e2,_⟩:=rV K hd
 refine ⟨_,(@aH _ _ _ (@aT _ _ _ _ (@cZ _ _ _ _ _ _ _ (@aP _ _ _ _ _ _ _ _ _ (@cA _ (K) rfl) rfl T.n_isinstance bL (@aA _ _ _ _ _ (pv 0) (@aA _ _ _ _ _ (@lY _ _ _ _ T.n_int yR (by rfl) (by decide) (by decide)) aD (by rfl)) (by rfl)) (by decide) (by decide) (by rfl) (by rfl)) (@eA _ _ _ _ _ (@aKV _ _ _ _ (@aP _ _ _ _ _ _ _ _ _ (@cA _ (K) rfl) rfl T.n_isinstance bL (@aA _ _ _ _ _ (pv 0) (@aA _ _ _ _ _ (@lY _ _ _ _ T.n_bool wG (by rfl) (by decide) (by decide)) aD (by rfl)) (by rfl)) (by decide) (by decide) (by rfl) (by rfl))))))),?_⟩
 refine ⟨_,rfl,_,_,_,t,_,rfl,rfl,ty,e1,_,rfl,?_⟩
 refine oJ (fun h=>?_) (fun h=>?_)
 ·refine ⟨_,rfl,_,_,_,t,_,rfl,rfl,ty,e2,_,rfl,?_⟩
  have e:(!aLP d) = isInt d:=by cases d <;> simp_all [isInt,aLP]
  rw [e]
  exact q
 ·have e:isInt d = false:=by cases d <;> simp_all [isInt,aLP]
  rw [e] at q
  exact q
def aDS:Sp:=sp1 fun x H Q=>∃ d,Is H d x ∧ eP d = true ∧ Q (.bl (pE d)) H
theorem pY (T:Txt K mg C):Fc P w K mg base 1 "is_name" ["thing"] aDS:=by
 refine T.d_p_is_name.fcD zL mF (fun f cdv A outer s H vs Q E hr h=>?_)
 obtain ⟨x,rfl,d,hd,hz,q⟩:=h
 obtain ⟨t,ty,e1,e2,e3,_⟩:=rV K hd
 have big:=bO
 refine ⟨_,(@aG _ _ _ _ _ (@fE _ _ _ _ _ _ _ _ (@PW.pt _ _ _ (@kU _ _ _ _ _ _ _ (@dJ _ _ _ _ (@dG _ _ _ (@aP _ _ _ _ _ _ _ _ _ (@cA _ (K) rfl) rfl T.n_isinstance bL (@aA _ _ _ _ _ (pv 0) (@aA _ _ _ _ _ (@lY _ _ _ _ T.n_str yP (by rfl) (by decide) (by decide)) aD (by rfl)) (by rfl)) (by decide) (by decide) (by rfl) (by rfl)) (by intro _;rfl))) (@kE _ _ _ _ (@dJ _ _ _ _ (@aKO _ _ _ _ _ _ _ _ _ _ _ _ sI sI aF (@aP _ _ _ _ _ _ _ _ _ aAP rfl T.n_len bK (@aA _ _ _ _ _ (pv 0) aD (by rfl)) (by decide) (by decide) (by rfl) (by rfl)) (@sW _ _ _ _ T.g_MOST_LETTERS (by rfl) (by decide)) (by with_unfolding_all rfl)))))) (@aH _ _ _ (@aT _ _ _ _ sG)) cG) (@aH _ _ _ (@aT _ _ _ _ (@cZ _ _ _ _ _ _ _ (@eC _ _ _ _ _ _ _ _ sH (pv 0) (@sW _ _ _ _ T.g_SEA (by rfl) (by decide)) (@bX _ _ (by decide) (by decide))) (@eA _ _ _ _ _ (@aP _ _ _ _ _ _ _ _ _ (@nO _ rfl) rfl T.n_all lH (@aA _ _ _ _ _ (@bS _ _ _ _ _ _ _ _ _ _ _ ["sign"] 1 [] rfl (@aQV _ _ _ _ (pv 0)) (fun R=>@aW _ _ (0) _ (show Au (["sign"]:List Str) by decide +kernel) rfl (Or.inl rfl) (by trivial)) (@aY _ _ (by decide)) (fun R=>bW) (fun R=>(@eC _ _ _ _ _ _ _ _ aHV (pv 0) (@sW _ _ _ _ T.g_LETTERS (by rfl) (by decide)) (by with_unfolding_all rfl))) (by rfl) (by rfl) (by rfl) (by rfl) (by rfl) (by rfl) (by rfl) (by intro _;rfl)) aD (by rfl)) (by decide) (by decide) (by rfl) (by rfl))))))),?_⟩
 refine ⟨_,rfl,_,_,_,t,_,rfl,rfl,ty,e3,_,rfl,?_⟩
 cases d with
 | str z =>
  cases (show x = .str z from hd)
  have hz:z.length ≤ 1000:=of_decide_eq_true hz
  have q:Q (.bl (eY z)) H:=q
  have hzs:z.length ≤ Aq:=by omega
  refine bM ?_
  refine ⟨_,rfl,z,rfl,hzs,_,_,rfl,rfl,_,rfl,?_⟩
  refine oJ (fun h1=>?_) (fun h1=>?_)
  ·refine ⟨_,_,rfl,rfl,_,rfl,?_⟩
   have h1':1 ≤ z.length:=by
    have:=of_decide_eq_true h1
    omega
   refine oJ (fun h2=>?_) (fun h2=>?_)
   ·have e:eY z = false:=by
     have h2':¬ z.length ≤ 8:=by
      intro h3
      have:((z.length:Nat):Int) ≤ 8:=by omega
      simp [this] at h2
     simp [eY,h2']
    rw [e] at q
    exact cO.of (.refl _) q
   ·have h2':z.length ≤ 8:=by
     have h3:decide (((z.length:Nat):Int) ≤ 8) = true:=by
      cases h4:decide (((z.length:Nat):Int) ≤ 8) with
      | true=>rfl
      | false=>exact absurd (by rw [h4];rfl) h2
     have:=of_decide_eq_true h3
     omega
    refine ⟨_,rfl,rfl,_,rfl,?_⟩
    refine oJ (fun h3=>?_) (fun h3=>?_)
    ·have h3':¬ z = "sea":=by
      intro h4
      subst h4
      simp at h3
     refine ⟨_,rfl,z,rfl,?_⟩
     refine aMT (BG hz (by decide)) (fun i ys H'=>H' = H ∧ ys = (z.cps.toList.take i).map fun c=>V.bl (jP c)) ⟨rfl,rfl⟩ ?_ ?_ ?_
     ·rintro i ys H' ⟨_,rfl⟩
      rw [AA,AW]
      omega
     ·rintro i c ys H' K1 K2 hc ⟨rfl,rfl⟩ k1 k2
      refine ⟨_,rfl,_,_,rfl,rfl,k1 _ _ ⟨rfl,?_⟩⟩
      have hc':z.cps.toList[i]? = some c:=by simpa using hc
      rw [AX,hc',aEQ]
      simp
     ·rintro ys H' ⟨rfl,rfl⟩
      intro p hp'
      refine ⟨p,z.cps.toList.map jP,rfl,SqL.of ?_,?_⟩
      ·rw [aE,AF (by simp),Al]
       rfl
      ·refine ⟨H',gW.lst hp',?_⟩
       have e:eY z = (z.cps.toList.map jP).all id:=by
        rw [Dp]
        simp [eY,h1',h2',h3']
       rw [← e]
       exact q
    ·have e:eY z = false:=by
      have h4:z = "sea":=by
       apply DO
       intro h5
       exact h3 (by simp [h5])
      subst h4
      simp [eY]
     rw [e] at q
     exact cO.of (.refl _) q
  ·have e:eY z = false:=by
    have h1':¬ 1 ≤ z.length:=by
     intro h3
     exact h1 (decide_eq_true (by omega))
    simp [eY,h1']
   rw [e] at q
   exact ⟨_,rfl,cO.of (.refl _) q⟩
 | non=>exact cO.of (.refl _) q
 | bl b=>exact cO.of (.refl _) q
 | int i=>exact cO.of (.refl _) q
 | lst a=>exact cO.of (.refl _) q
 | tup a=>exact cO.of (.refl _) q
 | dct a b=>exact cO.of (.refl _) q
def jB:Sp:=sp1 fun x H Q=>∃ d,Is H d x ∧ Q (.bl (fU d)) H
theorem dS (T:Txt K mg C):Fc P w K mg base 2 "is_height" ["thing"] jB:=by
 have G_p_is_whole:Fc P w K mg base 1 "is_whole" ["thing"] zB:=oO T
 refine T.d_p_is_height.fc uE mF (fun f cdv A outer s H vs Q E hr h=>?_)
 obtain ⟨x,rfl,d,hd,q⟩:=h
 refine ⟨_,(@aH _ _ _ (@aT _ _ _ _ (@cZ _ _ _ _ _ _ _ (@bH _ _ _ _ _ _ _ _ _ _ G_p_is_whole (hr.mono (by decide)) (@aA _ _ _ _ _ (pv 0) aD (by rfl)) (by rfl) (by decide) (by rfl) (by rfl)) (@eA _ _ _ _ _ (@uP _ _ _ _ _ _ _ _ _ _ _ _ sI sI (@aPW _ _ _ _ _ _ aJC (@sW _ _ _ _ T.g_MOST_HEIGHT (by rfl) (by decide))) (pv 0) (@sW _ _ _ _ T.g_MOST_HEIGHT (by rfl) (by decide)) (by with_unfolding_all rfl)))))),?_⟩
 refine ⟨_,rfl,_,rfl,d,hd,_,rfl,?_⟩
 cases d with
 | int i =>
  cases (show x = .int i from hd)
  refine cW ?_
  have q:Q (.bl (decide (-1000000 ≤ i) && decide (i ≤ 1000000))) H:=q
  refine ⟨_,rfl,_,rfl,_,_,rfl,rfl,_,rfl,?_⟩
  refine oJ (fun h1=>?_) (fun h1=>?_)
  ·refine ⟨_,_,rfl,rfl,?_⟩
   rw [decide_eq_true (show -1000000 ≤ i from of_decide_eq_true h1),BU] at q
   exact q
  ·rw [show decide (-1000000 ≤ i) = false from by simpa using h1,ED] at q
   exact q
 | _=>exact bM q
def uB:Sp:=sp1 fun x H Q=>∃ d,Is H d x ∧ Q (.bl (lC d)) H
theorem mW (T:Txt K mg C):Fc P w K mg base 2 "is_amount" ["thing"] uB:=by
 have G_p_is_whole:Fc P w K mg base 1 "is_whole" ["thing"] zB:=oO T
 refine T.d_p_is_amount.fc uF mF (fun f cdv A outer s H vs Q E hr h=>?_)
 obtain ⟨x,rfl,d,hd,q⟩:=h
 refine ⟨_,(@aH _ _ _ (@aT _ _ _ _ (@cZ _ _ _ _ _ _ _ (@bH _ _ _ _ _ _ _ _ _ _ G_p_is_whole (hr.mono (by decide)) (@aA _ _ _ _ _ (pv 0) aD (by rfl)) (by rfl) (by decide) (by rfl) (by rfl)) (@eA _ _ _ _ _ (@uP _ _ _ _ _ _ _ _ _ _ _ _ sI sI aF (pv 0) (@sW _ _ _ _ T.g_MOST_AMOUNT (by rfl) (by decide)) (by with_unfolding_all rfl)))))),?_⟩
 refine ⟨_,rfl,_,rfl,d,hd,_,rfl,?_⟩
 cases d with
 | int i =>
  cases (show x = .int i from hd)
  refine cW ?_
  have q:Q (.bl (decide (0 ≤ i) && decide (i ≤ 1000000))) H:=q
  refine ⟨_,rfl,_,_,rfl,rfl,_,rfl,?_⟩
  refine oJ (fun h1=>?_) (fun h1=>?_)
  ·refine ⟨_,_,rfl,rfl,?_⟩
   rw [decide_eq_true (show 0 ≤ i from of_decide_eq_true h1),BU] at q
   exact q
  ·rw [show decide (0 ≤ i) = false from by simpa using h1,ED] at q
   exact q
 | _=>exact bM q
def tO (K:AG):Sp:=sp2 fun x y H Q=>∃ (d:Dv) (p:Addr) (zs:List Str),Is H d x ∧ y = .ref p ∧ SqL K H p (zs.map V.str) ∧ Q (.bl (pW zs d)) H
theorem tT (z:Str) (zs:List Str):inV (.str z) (zs.map V.str) = decide (z ∈ zs):=by
 unfold inV
 rw [BZ,DH,decide_eq_true_iff]
 constructor
 ·rintro ⟨y,hy,e⟩
  obtain ⟨u,hu,rfl⟩:=AS.mp hy
  have e':(u == z) = true:=e
  rw [← beq_iff_eq.mp e']
  exact hu
 ·intro h
  exact ⟨_,AS.mpr ⟨z,h,rfl⟩,beq_self_eq_true z⟩
theorem oE (zs:List Str):(zs.map V.str).all qH = true:=by
 rw [BB]
 intro y hy
 obtain ⟨u,_,rfl⟩:=AS.mp hy
 rfl
theorem jN (T:Txt K mg C):Fc P w K mg base 1 "is_one_of" ["thing","names"] (tO K):=by
 refine T.d_p_is_one_of.fc uD iL (fun f cdv A outer s H vs Q E hr h=>?_)
 obtain ⟨x,y,rfl,d,p,zs,hd,rfl,hp,q⟩:=h
 obtain ⟨t,ty,e1,e2,e3,_⟩:=rV K hd
 refine ⟨_,(@aH _ _ _ (@aT _ _ _ _ (@cZ _ _ _ _ _ _ _ (@aP _ _ _ _ _ _ _ _ _ (@cA _ (K) rfl) rfl T.n_isinstance bL (@aA _ _ _ _ _ (pv 0) (@aA _ _ _ _ _ (@lY _ _ _ _ T.n_str yP (by rfl) (by decide) (by decide)) aD (by rfl)) (by rfl)) (by decide) (by decide) (by rfl) (by rfl)) (@eA _ _ _ _ _ (@eC _ _ _ _ _ _ _ _ (@oY _ (K) rfl) (pv 0) (pv 1) (by with_unfolding_all rfl)))))),?_⟩
 refine ⟨_,rfl,_,_,_,t,_,rfl,rfl,ty,e3,_,rfl,?_⟩
 cases d with
 | str z =>
  cases (show x = .str z from hd)
  refine cW ⟨_,rfl,_,rfl,p,_,rfl,.inl hp,rfl,oE zs,?_⟩
  show Q (.bl (inV (.str z) (zs.map V.str))) H
  rw [tT]
  exact q
 | _=>exact bM q
def pK:Sp:=sp2 fun x y H Q=>∃ (d:Dv) (n:Int),Is H d x ∧ y = .int n ∧ Q (.bl (aLJ n d)) H
theorem iQ (T:Txt K mg C):Fc P w K mg base 1 "is_list_of" ["thing","most"] pK:=by
 refine T.d_p_is_list_of.fc sR iL (fun f cdv A outer s H vs Q E hr h=>?_)
 obtain ⟨x,y,rfl,d,n,hd,rfl,q⟩:=h
 obtain ⟨t,ty,e1,e2,e3,e4,_⟩:=rV K hd
 refine ⟨_,(@aH _ _ _ (@aT _ _ _ _ (@cZ _ _ _ _ _ _ _ (@aP _ _ _ _ _ _ _ _ _ (@cA _ (K) rfl) rfl T.n_isinstance bL (@aA _ _ _ _ _ (pv 0) (@aA _ _ _ _ _ (@lY _ _ _ _ T.n_list dH (by rfl) (by decide) (by decide)) aD (by rfl)) (by rfl)) (by decide) (by decide) (by rfl) (by rfl)) (@eA _ _ _ _ _ (@uP _ _ _ _ _ _ _ _ _ _ _ _ sI sI aF (@aP _ _ _ _ _ _ _ _ _ (@bA _ (K) rfl) rfl T.n_len bK (@aA _ _ _ _ _ (pv 0) aD (by rfl)) (by decide) (by decide) (by rfl) (by rfl)) (pv 1) (by with_unfolding_all rfl)))))),?_⟩
 refine ⟨_,rfl,_,_,_,t,_,rfl,rfl,ty,e4,_,rfl,?_⟩
 cases d with
 | lst ds =>
  obtain ⟨a,vs,rfl,o,hl⟩:=hd
  have hlen:=hl.length
  have q:Q (.bl (decide (1 ≤ ds.length) && decide ((ds.length:Int) ≤ n))) H:=q
  refine cW ⟨_,rfl,a,vs,rfl,.inl (SqL.of o),_,_,rfl,rfl,_,rfl,?_⟩
  rw [hlen]
  refine oJ (fun h1=>?_) (fun h1=>?_)
  ·refine ⟨_,rfl,_,_,rfl,rfl,?_⟩
   have h1':1 ≤ ds.length:=by have:=of_decide_eq_true h1;omega
   rw [decide_eq_true h1',BU] at q
   exact q
  ·have h1':¬ 1 ≤ ds.length:=fun c=>h1 (decide_eq_true (by omega))
   rw [decide_eq_false h1',ED] at q
   exact q
 | _=>exact bM q
def tM:Sp:=sp2 fun x y H Q=>∃ (d:Dv) (n:Int),Is H d x ∧ y = .int n ∧ Q (.bl (aFM n d)) H
theorem hE (T:Txt K mg C):Fc P w K mg base 1 "is_tuple_of" ["thing","length"] tM:=by
 refine T.d_p_is_tuple_of.fc qR iL (fun f cdv A outer s H vs Q E hr h=>?_)
 obtain ⟨x,y,rfl,d,n,hd,rfl,q⟩:=h
 obtain ⟨t,ty,e1,e2,e3,e4,e5⟩:=rV K hd
 refine ⟨_,(@aH _ _ _ (@aT _ _ _ _ (@cZ _ _ _ _ _ _ _ (@aP _ _ _ _ _ _ _ _ _ (@cA _ (K) rfl) rfl T.n_isinstance bL (@aA _ _ _ _ _ (pv 0) (@aA _ _ _ _ _ (@lY _ _ _ _ T.n_tuple iM (by rfl) (by decide) (by decide)) aD (by rfl)) (by rfl)) (by decide) (by decide) (by rfl) (by rfl)) (@eA _ _ _ _ _ (@eC _ _ _ _ _ _ _ _ pV (@aP _ _ _ _ _ _ _ _ _ (@bA _ (K) rfl) rfl T.n_len bK (@aA _ _ _ _ _ (pv 0) aD (by rfl)) (by decide) (by decide) (by rfl) (by rfl)) (pv 1) (@bX _ _ (by decide) (by decide))))))),?_⟩
 refine ⟨_,rfl,_,_,_,t,_,rfl,rfl,ty,e5,_,rfl,?_⟩
 cases d with
 | tup ds =>
  obtain ⟨a,vs,rfl,o,hl⟩:=hd
  have hlen:=hl.length
  have q:Q (.bl (decide ((ds.length:Int) = n))) H:=q
  refine cW ⟨_,rfl,a,vs,rfl,.inr (SqT.of o),_,rfl,rfl,?_⟩
  rw [hlen]
  have e:decide (V.int (ds.length:Int) = V.int n) = decide ((ds.length:Int) = n):=by rw [iX,BZ];simp
  rw [e]
  exact q
 | _=>exact bM q
def tK:Sp:=sp1 fun x H Q=>∃ (p:Addr) (vs:List V) (ds:List Dv) (zs:List Str),x = .ref p ∧ H p = some (.lst vs) ∧ IsL H ds vs ∧ ds.map cD = zs.map some ∧ zs.length ≤ 1000 ∧ Q (.bl (decide zs.Nodup)) H
theorem aIJ {H:Hp} {d:Dv} {v:V} {z:Str} (h:Is H d v) (e:cD d = some z):∃ a r,v = .ref a ∧ H a = some (.tup (.str z :: r)):=by
 cases d with
 | tup ds =>
  cases ds with
  | nil=>cases e
  | cons d0 ds =>
   cases d0 with
   | str y =>
    cases e
    obtain ⟨a,vs,rfl,o,v0,r,rfl,h0,_⟩:=h
    cases (show v0 = .str z from h0)
    exact ⟨a,r,rfl,o⟩
   | _=>cases e
 | _=>cases e
theorem hG (zs:List Str):(zs.map (Sum.inr:Str → Key)).Nodup ↔ zs.Nodup:=by
 induction zs with
 | nil=>simp
 | cons z zs ih =>
  rw [AY,Ak,Ak,ih]
  simp
theorem aGK (zs:List Str):(zs.map (Sum.inr:Str → Key)).map kV = zs.map V.str:=by
 rw [Al];rfl
theorem iP (T:Txt K mg C):Fc P w K mg base 1 "none_twice" ["rows"] tK:=by
 refine T.d_p_none_twice.fcD sQ mF (fun f cdv A outer s H vs Q E hr h=>?_)
 obtain ⟨x,rfl,p,us,ds,zs,rfl,hp,hi,hz,hn,q⟩:=h
 have big:=bO
 have l1:=hi.length
 have l2:ds.length = zs.length:=by have:=congrArg Cs hz;simpa using this
 refine ⟨_,(@aH _ _ _ (@aT _ _ _ _ (@eC _ _ _ _ _ _ _ _ pV (@aP _ _ _ _ _ _ _ _ _ call_len_set rfl T.n_len bK (@aA _ _ _ _ _ (@bV _ _ _ _ _ _ _ _ _ (@oQ _ rfl) rfl T.n_set yQ (@aA _ _ _ _ _ (@bS _ _ _ _ _ _ _ _ _ _ _ ["row"] 1 [] rfl (@bJ _ _ _ _ (pv 0)) (fun R=>@aW _ _ (0) _ (show Au (["row"]:List Str) by decide +kernel) rfl (Or.inl rfl) (by trivial)) (@aY _ _ (by decide)) (fun R=>bW) (fun R=>(@bE _ _ _ _ _ _ _ (@aV _ (K) rfl) (pv 0) aF (fun _ _=>rfl))) (by rfl) (by rfl) (by rfl) (by rfl) (by rfl) (by rfl) (by rfl) (by intro _;rfl)) aD (by rfl)) (by decide) (by decide) (by rfl) (by rfl)) aD (by rfl)) (by decide) (by decide) (by rfl) (by rfl)) (@aP _ _ _ _ _ _ _ _ _ (@bA _ (K) rfl) rfl T.n_len bK (@aA _ _ _ _ _ (pv 0) aD (by rfl)) (by decide) (by decide) (by rfl) (by rfl)) (@bX _ _ (by decide) (by decide))))),?_⟩
 refine ⟨_,rfl,p,rfl,⟨_,SqL.of hp⟩,?_⟩
 refine bG (F:=K) (xs:=us) (by omega) (fun i ys H'=>H' = H ∧ ys = (zs.take i).map V.str) ⟨rfl,rfl⟩ ?_ ?_ ?_
 ·rintro i ys H' hi' ⟨rfl,rfl⟩
  exact ⟨SqL.of hp,by rw [AA,AW];omega⟩
 ·rintro i x ys H' K1 K2 hx ⟨rfl,rfl⟩ k1 k2
  have hil:i < us.length:=(AB.mp hx).1
  obtain ⟨d,ed⟩:∃ d,ds[i]? = some d:=⟨_,AC (by omega)⟩
  obtain ⟨z,ez⟩:∃ z,zs[i]? = some z:=⟨_,AC (by omega)⟩
  obtain ⟨v,ev,iv⟩:=hi.get ed
  rw [hx] at ev
  cases ev
  have ef:cD d = some z:=by
   have:=congrArg (fun l=>l[i]?) hz
   simpa [ed,ez] using this
  obtain ⟨a,r,rfl,o⟩:=aIJ iv ef
  refine ⟨_,rfl,a,_,0,.str z,rfl,rfl,SqT.of o,aN (j:=0) rfl,k1 _ _ ⟨rfl,?_⟩⟩
  rw [AX,ez]
  simp
 ·rintro ys H' ⟨rfl,rfl⟩
  intro p1 hp1
  have hys:(zs.take us.length).map V.str = (zs.map (Sum.inr:Str → Key)).map kV:=by
   rw [AF (by omega),aGK]
  refine ⟨p1,zs.map Sum.inr,rfl,SqL.of (by rw [aE,hys]),by rw [AA];exact hn,fun p2 hp2=>?_⟩
  have hle:=aGW (zs.map (Sum.inr:Str → Key))
  rw [AA] at hle
  have np:p ≠ p1:=aO hp hp1
  have np2:p ≠ p2:=aO (show upd H' p1 _ p = _ from (aI np).trans hp) hp2
  refine ⟨p2,_,_,rfl,aE,by omega,_,rfl,p,us,rfl,.inl (SqL.of (by rw [aI np2,aI np];exact hp)),rfl,?_⟩
  have e:decide (V.int ((vX (zs.map (Sum.inr:Str → Key))).length:Int) = V.int (us.length:Int)) = decide zs.Nodup:=by
   rw [iX,BZ,decide_eq_true_iff,← hG,← yI,AA,beq_iff_eq]
   omega
  rw [e]
  exact cO.of ((gW.new hp2 rfl).trans (gW.lst hp1)) q
def aFX:Sp:=sp1 fun x H Q=>∃ d,Is H d x ∧ eP d = true ∧ Q (.bl (cB d)) H
theorem wQ (T:Txt K mg C):Fc P w K mg base 3 "is_field" ["thing"] aFX:=by
 have G_p_is_tuple_of:Fc P w K mg base 1 "is_tuple_of" ["thing","length"] tM:=hE T
 have G_p_is_name:Fc P w K mg base 1 "is_name" ["thing"] aDS:=pY T
 have G_p_is_height:Fc P w K mg base 2 "is_height" ["thing"] jB:=dS T
 have G_p_is_amount:Fc P w K mg base 2 "is_amount" ["thing"] uB:=mW T
 refine T.d_p_is_field.fc wJ mF (fun f cdv A outer s H vs Q E hr h=>?_)
 obtain ⟨x,rfl,d,hd,hs,q⟩:=h
 refine ⟨_,(@aG _ _ _ _ _ (@fE _ _ _ _ _ _ _ _ (@dJ _ _ _ _ (@dG _ _ _ (@bH _ _ _ _ _ _ _ _ _ _ G_p_is_tuple_of (hr.mono (by decide)) (@aA _ _ _ _ _ (pv 0) (@aA _ _ _ _ _ aF aD (by rfl)) (by rfl)) (by rfl) (by decide) (by rfl) (by rfl)) (by intro _;rfl))) (@aH _ _ _ (@aT _ _ _ _ sG)) cG) (@aH _ _ _ (@aT _ _ _ _ (@cZ _ _ _ _ _ _ _ (@bH _ _ _ _ _ _ _ _ _ _ G_p_is_name (hr.mono (by decide)) (@aA _ _ _ _ _ (@bE _ _ _ _ _ _ _ (@aV _ (K) rfl) (pv 0) aF (fun _ _=>rfl)) aD (by rfl)) (by rfl) (by decide) (by rfl) (by rfl)) (@cZ _ _ _ _ _ _ _ (@bH _ _ _ _ _ _ _ _ _ _ G_p_is_height (hr.mono (by decide)) (@aA _ _ _ _ _ (@bE _ _ _ _ _ _ _ (@aV _ (K) rfl) (pv 0) aF (fun _ _=>rfl)) aD (by rfl)) (by rfl) (by decide) (by rfl) (by rfl)) (@eA _ _ _ _ _ (@bH _ _ _ _ _ _ _ _ _ _ G_p_is_amount (hr.mono (by decide)) (@aA _ _ _ _ _ (@bE _ _ _ _ _ _ _ (@aV _ (K) rfl) (pv 0) aF (fun _ _=>rfl)) aD (by rfl)) (by rfl) (by decide) (by rfl) (by rfl)))))))),?_⟩
 refine ⟨_,rfl,_,_,rfl,d,3,hd,rfl,_,rfl,?_⟩
 by_cases h3:∃ a b c,d = .tup [a,b,c]
 ·obtain ⟨a,b,c,rfl⟩:=h3
  obtain ⟨t,us,rfl,o,va,r1,rfl,ha,vb,r2,rfl,hb,vc,r3,rfl,hc,h0⟩:=hd
  cases (show r3 = [] from h0)
  have sa:eP a = true:=by
   exact jC (xL hs) AU
  have q:Q (.bl (pE a && (fU b && lC c))) H:=q
  refine bM ⟨_,rfl,t,_,0,va,rfl,rfl,SqT.of o,aN (j:=0) rfl,_,rfl,a,ha,sa,_,rfl,?_⟩
  cases ea:pE a with
  | false=>rw [ea] at q;exact bM q
  | true =>
   rw [ea,BU] at q
   refine cW ⟨_,rfl,t,_,1,vb,rfl,rfl,SqT.of o,aN (j:=1) rfl,_,rfl,b,hb,_,rfl,?_⟩
   cases eb:fU b with
   | false=>rw [eb] at q;exact bM q
   | true =>
    rw [eb,BU] at q
    exact cW ⟨_,rfl,t,_,2,vc,rfl,rfl,SqT.of o,aN (j:=2) rfl,_,rfl,c,hc,q⟩
 ·have e1:cB d = false:=by
   unfold cB
   split
   ·rename_i a b c
    exact absurd ⟨a,b,c,rfl⟩ h3
   ·rfl
  have e2:aFM 3 d = false:=by
   cases d with
   | tup ds =>
    refine decide_eq_false (fun e=>?_)
    have e':ds.length = 3:=by omega
    match ds,e',h3 with
    | [a,b,c],_,h3=>exact h3 ⟨a,b,c,rfl⟩
   | _=>rfl
  dsimp only
  rw [e2]
  rw [e1] at q
  exact cW q
theorem oF {p:Dv → Bool} (hp:∀ d,p d = true → ∃ z,cD d = some z):∀ {ds:List Dv},ds.all p = true → ∃ zs:List Str,ds.map cD = zs.map some
 | [],_=>⟨[],rfl⟩
 | d :: ds,h=>by
  rw [Dg,Ac] at h
  obtain ⟨z,e⟩:=hp d h.1
  obtain ⟨zs,e2⟩:=oF hp h.2
  exact ⟨z :: zs,by rw [AY,AY,e,e2]⟩
theorem wW (d:Dv) (h:cB d = true):∃ z,cD d = some z:=by
 unfold cB at h
 split at h
 ·rename_i a b c
  rw [Ac] at h
  cases a with
  | str z=>exact ⟨z,rfl⟩
  | _=>cases h.1
 ·cases h
def aBI:Sp:=sp1 fun x H Q=>∃ d,Is H d x ∧ eP d = true ∧ Q (.bl (lJ d)) H
theorem sY (T:Txt K mg C):Fc P w K mg base 4 "are_fields" ["thing"] aBI:=by
 have G_p_is_list_of:Fc P w K mg base 1 "is_list_of" ["thing","most"] pK:=iQ T
 have G_p_is_field:Fc P w K mg base 3 "is_field" ["thing"] aFX:=wQ T
 have G_p_none_twice:Fc P w K mg base 1 "none_twice" ["rows"] tK:=iP T
 refine T.d_p_are_fields.fcD sT mF (fun f cdv A outer s H vs Q E hr h=>?_)
 obtain ⟨x,rfl,d,hd,hs,q⟩:=h
 have big:=bO
 refine ⟨_,(@aH _ _ _ (@aT _ _ _ _ (@cZ _ _ _ _ _ _ _ (@bH _ _ _ _ _ _ _ _ _ _ G_p_is_list_of (hr.mono (by decide)) (@aA _ _ _ _ _ (pv 0) (@aA _ _ _ _ _ (@sW _ _ _ _ T.g_MOST_FIELDS (by rfl) (by decide)) aD (by rfl)) (by rfl)) (by rfl) (by decide) (by rfl) (by rfl)) (@cZ _ _ _ _ _ _ _ (@aP _ _ _ _ _ _ _ _ _ (@nO _ rfl) rfl T.n_all lH (@aA _ _ _ _ _ (@bS _ _ _ _ _ _ _ _ _ _ _ ["row"] 1 [] rfl (@bJ _ _ _ _ (pv 0)) (fun R=>@aW _ _ (0) _ (show Au (["row"]:List Str) by decide +kernel) rfl (Or.inl rfl) (by trivial)) (@aY _ _ (by decide)) (fun R=>bW) (fun R=>(@bH _ _ _ _ _ _ _ _ _ _ G_p_is_field (hr.mono (by decide)) (@aA _ _ _ _ _ (pv 0) aD (by rfl)) (by rfl) (by decide) (by rfl) (by rfl))) (by rfl) (by rfl) (by rfl) (by rfl) (by rfl) (by rfl) (by rfl) (by intro _;rfl)) aD (by rfl)) (by decide) (by decide) (by rfl) (by rfl)) (@eA _ _ _ _ _ (@bH _ _ _ _ _ _ _ _ _ _ G_p_none_twice (hr.mono (by decide)) (@aA _ _ _ _ _ (pv 0) aD (by rfl)) (by rfl) (by decide) (by rfl) (by rfl))))))),?_⟩
 refine ⟨_,rfl,_,_,rfl,d,12,hd,rfl,_,rfl,?_⟩
 cases d with
 | lst ds =>
  obtain ⟨p,us,rfl,o,hi⟩:=hd
  have l1:=hi.length
  have hs':=BJ.mp (show (decide (ds.length ≤ 1000) && gY ds) = true from hs)
  have l2:ds.length ≤ 1000:=of_decide_eq_true hs'.1
  have q:Q (.bl ((decide (1 ≤ ds.length) && decide (ds.length ≤ 12)) && (ds.all cB && decide ((ds.map cD).Nodup)))) H:=q
  have e0:(decide (1 ≤ ds.length) && decide ((ds.length:Int) ≤ 12)) = (decide (1 ≤ ds.length) && decide (ds.length ≤ 12)):=by
   congr 1
   rw [BZ,decide_eq_true_iff,decide_eq_true_iff]
   omega
  show if (decide (1 ≤ ds.length) && decide ((ds.length:Int) ≤ 12)) = true then _ else _
  rw [e0]
  refine oJ (fun h1=>?_) (fun h1=>?_)
  ·rw [h1,BU] at q
   refine ⟨_,rfl,p,rfl,⟨_,SqL.of o⟩,?_⟩
   refine bG (F:=K) (xs:=us) (by omega) (fun i ys H'=>H' = H ∧ ys = (ds.take i).map fun d=>V.bl (cB d)) ⟨rfl,rfl⟩ ?_ ?_ ?_
   ·rintro i ys H' hi' ⟨rfl,rfl⟩
    exact ⟨SqL.of o,by rw [AA,AW];omega⟩
   ·rintro i x ys H' K1 K2 hx ⟨rfl,rfl⟩ k1 k2
    have hil:i < us.length:=(AB.mp hx).1
    obtain ⟨d,ed⟩:∃ d,ds[i]? = some d:=⟨_,AC (by omega)⟩
    obtain ⟨v,ev,iv⟩:=hi.get ed
    rw [hx] at ev
    cases ev
    refine ⟨_,rfl,_,rfl,d,iv,jC hs'.2 (AM ed),k1 _ _ ⟨rfl,?_⟩⟩
    rw [AX,ed]
    simp
   ·rintro ys H' ⟨rfl,rfl⟩
    intro p1 hp1
    have np:p ≠ p1:=aO o hp1
    refine ⟨p1,ds.map cB,rfl,SqL.of ?_,_,rfl,?_⟩
    ·rw [aE,AF (by omega),Al]
     rfl
    have e1:(ds.map cB).all id = ds.all cB:=by rw [Dp];rfl
    rw [e1]
    refine oJ (fun h2=>?_) (fun h2=>?_)
    ·rw [h2,BU] at q
     obtain ⟨zs,ez⟩:=oF wW h2
     have l3:zs.length = ds.length:=by have:=congrArg Cs ez;simpa using this.symm
     refine ⟨_,rfl,_,rfl,p,us,ds,zs,rfl,by rw [aI np];exact o,IsL.same (aJ.upd hp1) _ _ hi,ez,by omega,?_⟩
     have e2:decide zs.Nodup = decide (ds.map cD).Nodup:=by rw [ez,BZ,decide_eq_true_iff,decide_eq_true_iff,eE]
     rw [e2]
     exact cO.of (gW.lst hp1) q
    ·have h2':ds.all cB = false:=by simpa using h2
     rw [h2'] at q
     exact cO.of (gW.lst hp1) q
  ·have h1':(decide (1 ≤ ds.length) && decide (ds.length ≤ 12)) = false:=by simpa using h1
   rw [h1'] at q
   exact cO.of (.refl _) q
 | _=>exact bM (cO.of (.refl _) q)
def aFR (K:AG):Sp:=sp3 fun x y u H Q=>∃ (a b:Dv) (p:Addr) (zs:List Str),Is H a x ∧ Is H b y ∧ u = .ref p ∧ SqL K H p (zs.map V.str) ∧ Q (.bl (nR zs a b)) H
theorem uX (T:Txt K mg C):Fc P w K mg base 2 "are_sides" ["one","other","sides"] (aFR K):=by
 have G_p_is_one_of:Fc P w K mg base 1 "is_one_of" ["thing","names"] (tO K):=jN T
 refine T.d_p_are_sides.fc uI pB (fun f cdv A outer s H vs Q E hr h=>?_)
 obtain ⟨x,y,u,rfl,a,b,p,zs,ha,hb,rfl,hp,q⟩:=h
 refine ⟨_,(@aH _ _ _ (@aT _ _ _ _ (@cZ _ _ _ _ _ _ _ (@bH _ _ _ _ _ _ _ _ _ _ G_p_is_one_of (hr.mono (by decide)) (@aA _ _ _ _ _ (pv 0) (@aA _ _ _ _ _ (pv 2) aD (by rfl)) (by rfl)) (by rfl) (by decide) (by rfl) (by rfl)) (@cZ _ _ _ _ _ _ _ (@bH _ _ _ _ _ _ _ _ _ _ G_p_is_one_of (hr.mono (by decide)) (@aA _ _ _ _ _ (pv 1) (@aA _ _ _ _ _ (pv 2) aD (by rfl)) (by rfl)) (by rfl) (by decide) (by rfl) (by rfl)) (@eA _ _ _ _ _ (@eC _ _ _ _ _ _ _ _ sH (pv 0) (pv 1) (@bX _ _ (by decide) (by decide)))))))),?_⟩
 have q:Q (.bl (pW zs a && (pW zs b && !deq a b))) H:=q
 refine ⟨_,rfl,_,rfl,_,_,rfl,a,p,zs,ha,rfl,hp,_,rfl,?_⟩
 cases ea:pW zs a with
 | false=>rw [ea] at q;exact bM q
 | true =>
  rw [ea,BU] at q
  refine cW ⟨_,rfl,_,rfl,_,_,rfl,b,p,zs,hb,rfl,hp,_,rfl,?_⟩
  cases eb:pW zs b with
  | false=>rw [eb] at q;exact bM q
  | true =>
   rw [eb,BU] at q
   cases a with
   | str z =>
    cases b with
    | str z' =>
     cases (show x = .str z from ha)
     cases (show y = .str z' from hb)
     refine cW ⟨_,rfl,_,rfl,rfl,?_⟩
     have e:(!decide (V.str z = V.str z')) = !deq (.str z) (.str z'):=by rw [lU];rfl
     rw [e]
     exact q
    | _=>cases eb
   | _=>cases ea
def aJQ:Sp:=sp2 fun x y H Q=>∃ (d:Dv) (j:Int),Is H d x ∧ y = .int j ∧ Q (.bl (nF (.int j) d)) H
theorem zX (T:Txt K mg C):Fc P w K mg base 3 "is_sill" ["thing","crown"] aJQ:=by
 have G_p_is_height:Fc P w K mg base 2 "is_height" ["thing"] jB:=dS T
 refine T.d_p_is_sill.fc zK iL (fun f cdv A outer s H vs Q E hr h=>?_)
 obtain ⟨x,y,rfl,d,j,hd,rfl,q⟩:=h
 refine ⟨_,(@aH _ _ _ (@aT _ _ _ _ (@aPX _ _ _ _ _ _ _ (@eC _ _ _ _ _ _ _ _ aQZ (pv 0) zT (@bX _ _ (by decide) (by decide))) (@eA _ _ _ _ _ (@cZ _ _ _ _ _ _ _ (@bH _ _ _ _ _ _ _ _ _ _ G_p_is_height (hr.mono (by decide)) (@aA _ _ _ _ _ (pv 0) aD (by rfl)) (by rfl) (by decide) (by rfl) (by rfl)) (@eA _ _ _ _ _ (@eC _ _ _ _ _ _ _ _ aCB (pv 0) (pv 1) (@bX _ _ (by decide) (by decide))))))))),?_⟩
 refine ⟨_,rfl,rfl,_,rfl,?_⟩
 cases d with
 | non =>
  cases (show x = .non from hd)
  rw [decide_eq_true rfl]
  exact cW q
 | int i =>
  cases (show x = .int i from hd)
  rw [decide_eq_false (show ¬ V.int i = V.non by intro z;cases z)]
  refine bM ⟨_,rfl,_,rfl,.int i,rfl,_,rfl,?_⟩
  have q:Q (.bl (hgt i && decide (i < j))) H:=q
  show if hgt i = true then _ else _
  cases e:hgt i with
  | false=>rw [e] at q;exact bM q
  | true=>rw [e,BU] at q;exact cW ⟨_,rfl,_,rfl,_,_,rfl,rfl,q⟩
 | bl b =>
  cases (show x = .bl b from hd)
  rw [decide_eq_false (show ¬ V.bl b = V.non by intro z;cases z)]
  exact bM ⟨_,rfl,_,rfl,.bl b,rfl,_,rfl,bM q⟩
 | str b =>
  cases (show x = .str b from hd)
  rw [decide_eq_false (show ¬ V.str b = V.non by intro z;cases z)]
  exact bM ⟨_,rfl,_,rfl,.str b,rfl,_,rfl,bM q⟩
 | lst b =>
  obtain ⟨a,us,rfl,o⟩:=id hd
  rw [decide_eq_false (show ¬ V.ref a = V.non by intro z;cases z)]
  exact bM ⟨_,rfl,_,rfl,.lst b,hd,_,rfl,bM q⟩
 | tup b =>
  obtain ⟨a,us,rfl,o⟩:=id hd
  rw [decide_eq_false (show ¬ V.ref a = V.non by intro z;cases z)]
  exact bM ⟨_,rfl,_,rfl,.tup b,hd,_,rfl,bM q⟩
 | dct b c =>
  obtain ⟨a,us,rfl,o⟩:=id hd
  rw [decide_eq_false (show ¬ V.ref a = V.non by intro z;cases z)]
  exact bM ⟨_,rfl,_,rfl,.dct b c,hd,_,rfl,bM q⟩
def aJZ (K:AG):Sp:=sp2 fun x y H Q=>∃ (d:Dv) (p:Addr) (zs:List Str),Is H d x ∧ eP d = true ∧ y = .ref p ∧ SqL K H p (zs.map V.str) ∧ Q (.bl (dC zs d)) H
theorem zY (T:Txt K mg C):Fc P w K mg base 4 "is_dyke" ["thing","sides"] (aJZ K):=by
 have G_p_is_tuple_of:Fc P w K mg base 1 "is_tuple_of" ["thing","length"] tM:=hE T
 have G_p_is_name:Fc P w K mg base 1 "is_name" ["thing"] aDS:=pY T
 have G_p_are_sides:Fc P w K mg base 2 "are_sides" ["one","other","sides"] (aFR K):=uX T
 have G_p_is_height:Fc P w K mg base 2 "is_height" ["thing"] jB:=dS T
 have G_p_is_amount:Fc P w K mg base 2 "is_amount" ["thing"] uB:=mW T
 have G_p_is_sill:Fc P w K mg base 3 "is_sill" ["thing","crown"] aJQ:=zX T
 refine T.d_p_is_dyke.fc zM iL (fun f cdv A outer s H vs Q E hr h=>?_)
 obtain ⟨x,y,rfl,d,p,zs,hd,hs,rfl,hp,q⟩:=h
 refine ⟨_,(@aG _ _ _ _ _ (@fE _ _ _ _ _ _ _ _ (@PW.pt _ _ _ (@kU _ _ _ _ _ _ _ (@dJ _ _ _ _ (@dG _ _ _ (@bH _ _ _ _ _ _ _ _ _ _ G_p_is_tuple_of (hr.mono (by decide)) (@aA _ _ _ _ _ (pv 0) (@aA _ _ _ _ _ aF aD (by rfl)) (by rfl)) (by rfl) (by decide) (by rfl) (by rfl)) (by intro _;rfl))) (@kU _ _ _ _ _ _ _ (@dJ _ _ _ _ (@dG _ _ _ (@bH _ _ _ _ _ _ _ _ _ _ G_p_is_name (hr.mono (by decide)) (@aA _ _ _ _ _ (@bE _ _ _ _ _ _ _ (@aV _ (K) rfl) (pv 0) aF (fun _ _=>rfl)) aD (by rfl)) (by rfl) (by decide) (by rfl) (by rfl)) (by intro _;rfl))) (@kE _ _ _ _ (@dJ _ _ _ _ (@dG _ _ _ (@bH _ _ _ _ _ _ _ _ _ _ G_p_are_sides (hr.mono (by decide)) (@aA _ _ _ _ _ (@bE _ _ _ _ _ _ _ (@aV _ (K) rfl) (pv 0) aF (fun _ _=>rfl)) (@aA _ _ _ _ _ (@bE _ _ _ _ _ _ _ (@aV _ (K) rfl) (pv 0) aF (fun _ _=>rfl)) (@aA _ _ _ _ _ (pv 1) aD (by rfl)) (by rfl)) (by rfl)) (by rfl) (by decide) (by rfl) (by rfl)) (by intro _;rfl))))))) (@aH _ _ _ (@aT _ _ _ _ sG)) cG) (@aH _ _ _ (@aT _ _ _ _ (@cZ _ _ _ _ _ _ _ (@bH _ _ _ _ _ _ _ _ _ _ G_p_is_height (hr.mono (by decide)) (@aA _ _ _ _ _ (@bE _ _ _ _ _ _ _ (@aV _ (K) rfl) (pv 0) aF (fun _ _=>rfl)) aD (by rfl)) (by rfl) (by decide) (by rfl) (by rfl)) (@cZ _ _ _ _ _ _ _ (@bH _ _ _ _ _ _ _ _ _ _ G_p_is_amount (hr.mono (by decide)) (@aA _ _ _ _ _ (@bE _ _ _ _ _ _ _ (@aV _ (K) rfl) (pv 0) aF (fun _ _=>rfl)) aD (by rfl)) (by rfl) (by decide) (by rfl) (by rfl)) (@eA _ _ _ _ _ (@bH _ _ _ _ _ _ _ _ _ _ G_p_is_sill (hr.mono (by decide)) (@aA _ _ _ _ _ (@bE _ _ _ _ _ _ _ (@aV _ (K) rfl) (pv 0) aF (fun _ _=>rfl)) (@aA _ _ _ _ _ (@bE _ _ _ _ _ _ _ (@aV _ (K) rfl) (pv 0) aF (fun _ _=>rfl)) aD (by rfl)) (by rfl)) (by rfl) (by decide) (by rfl) (by rfl)))))))),?_⟩
 refine ⟨_,rfl,_,_,rfl,d,6,hd,rfl,_,rfl,?_⟩
 by_cases h6:∃ n a b c r l,d = .tup [n,a,b,c,r,l]
 ·obtain ⟨n,a,b,c,r,l,rfl⟩:=h6
  obtain ⟨t,us,rfl,o,v0,r0,rfl,i0,v1,r1,rfl,i1,v2,r2,rfl,i2,v3,r3,rfl,i3,v4,r4,rfl,i4,v5,r5,rfl,i5,h0⟩:=hd
  cases (show r5 = [] from h0)
  have sn:eP n = true:=by
   exact jC (xL hs) AU
  have q:Q (.bl (pE n && nR zs a b && (fU c && (lC r && nF c l)))) H:=q
  have at_:∀ (j:Nat) (v:V),([v0,v1,v2,v3,v4,v5]:List V)[j]? = some v → atI [v0,v1,v2,v3,v4,v5] (j:Int) = some v:=fun j v e=>aN e
  refine bM ⟨_,rfl,t,_,0,v0,rfl,rfl,SqT.of o,at_ 0 _ rfl,_,rfl,n,i0,sn,_,rfl,?_⟩
  cases en:pE n with
  | false=>rw [en] at q;exact cW q
  | true =>
   rw [en,BU] at q
   refine bM ⟨_,rfl,t,_,1,v1,rfl,rfl,SqT.of o,at_ 1 _ rfl,_,rfl,t,_,2,v2,rfl,rfl,SqT.of o,at_ 2 _ rfl,_,rfl,_,_,_,rfl,a,b,p,zs,i1,i2,rfl,hp,_,rfl,?_⟩
   cases es:nR zs a b with
   | false=>rw [es] at q;exact cW q
   | true =>
    rw [es,BU] at q
    refine bM ⟨_,rfl,t,_,3,v3,rfl,rfl,SqT.of o,at_ 3 _ rfl,_,rfl,c,i3,_,rfl,?_⟩
    cases ec:fU c with
    | false=>rw [ec] at q;exact bM q
    | true =>
     rw [ec,BU] at q
     refine cW ⟨_,rfl,t,_,4,v4,rfl,rfl,SqT.of o,at_ 4 _ rfl,_,rfl,r,i4,_,rfl,?_⟩
     cases er:lC r with
     | false=>rw [er] at q;exact bM q
     | true =>
      rw [er,BU] at q
      cases c with
      | int j =>
       cases (show v3 = .int j from i3)
       exact cW ⟨_,rfl,t,_,5,v5,rfl,rfl,SqT.of o,at_ 5 _ rfl,_,rfl,t,_,3,_,rfl,rfl,SqT.of o,at_ 3 _ rfl,_,_,rfl,l,j,i5,rfl,q⟩
      | _=>cases ec
 ·have e1:dC zs d = false:=by
   unfold dC
   split
   ·rename_i n a b c r l
    exact absurd ⟨n,a,b,c,r,l,rfl⟩ h6
   ·rfl
  have e2:aFM 6 d = false:=by
   cases d with
   | tup ds =>
    refine decide_eq_false (fun e=>?_)
    have e':ds.length = 6:=by omega
    match ds,e',h6 with
    | [n,a,b,c,r,l],_,h6=>exact h6 ⟨n,a,b,c,r,l,rfl⟩
   | _=>rfl
  dsimp only
  rw [e2]
  rw [e1] at q
  exact cW q
theorem aAH {zs:List Str} (d:Dv) (h:dC zs d = true):∃ z,cD d = some z:=by
 unfold dC at h
 split at h
 ·rename_i n a b c r l
  rw [Ac,Ac] at h
  cases n with
  | str z=>exact ⟨z,rfl⟩
  | _=>cases h.1.1
 ·cases h
def aFY (K:AG):Sp:=sp2 fun x y H Q=>∃ (d:Dv) (p:Addr) (zs:List Str),Is H d x ∧ eP d = true ∧ y = .ref p ∧ H p = some (.lst (zs.map V.str)) ∧ Q (.bl (nU zs d)) H
theorem uY (T:Txt K mg C):Fc P w K mg base 5 "are_dykes" ["thing","sides"] (aFY K):=by
 have G_p_is_list_of:Fc P w K mg base 1 "is_list_of" ["thing","most"] pK:=iQ T
 have G_p_is_dyke:Fc P w K mg base 4 "is_dyke" ["thing","sides"] (aJZ K):=zY T
 have G_p_none_twice:Fc P w K mg base 1 "none_twice" ["rows"] tK:=iP T
 refine T.d_p_are_dykes.fcD uJ iL (fun f cdv A outer s H vs Q E hr h=>?_)
 obtain ⟨x,y,rfl,d,p0,zs0,hd,hs,rfl,hp0,q⟩:=h
 have big:=bO
 refine ⟨_,(@aH _ _ _ (@aT _ _ _ _ (@cZ _ _ _ _ _ _ _ (@bH _ _ _ _ _ _ _ _ _ _ G_p_is_list_of (hr.mono (by decide)) (@aA _ _ _ _ _ (pv 0) (@aA _ _ _ _ _ (@sW _ _ _ _ T.g_MOST_DYKES (by rfl) (by decide)) aD (by rfl)) (by rfl)) (by rfl) (by decide) (by rfl) (by rfl)) (@cZ _ _ _ _ _ _ _ (@aP _ _ _ _ _ _ _ _ _ (@nO _ rfl) rfl T.n_all lH (@aA _ _ _ _ _ (@bS _ _ _ _ _ _ _ _ _ _ _ ["row","sides"] 1 [1] rfl (@bJ _ _ _ _ (pv 0)) (fun R=>@aW _ _ (0) _ (show Au (["row","sides"]:List Str) by decide +kernel) rfl (Or.inl rfl) (by trivial)) (@aY _ _ (by decide)) (fun R=>bW) (fun R=>(@bH _ _ _ _ _ _ _ _ _ _ G_p_is_dyke (hr.mono (by decide)) (@aA _ _ _ _ _ (pv 0) (@aA _ _ _ _ _ (pv 1) aD (by rfl)) (by rfl)) (by rfl) (by decide) (by rfl) (by rfl))) (by rfl) (by rfl) (by rfl) (by rfl) (by rfl) (by rfl) (by rfl) (by intro _;rfl)) aD (by rfl)) (by decide) (by decide) (by rfl) (by rfl)) (@eA _ _ _ _ _ (@bH _ _ _ _ _ _ _ _ _ _ G_p_none_twice (hr.mono (by decide)) (@aA _ _ _ _ _ (pv 0) aD (by rfl)) (by rfl) (by decide) (by rfl) (by rfl))))))),?_⟩
 refine ⟨_,rfl,_,_,rfl,d,40,hd,rfl,_,rfl,?_⟩
 cases d with
 | lst ds =>
  obtain ⟨p,us,rfl,o,hi⟩:=hd
  have l1:=hi.length
  have hs':=BJ.mp (show (decide (ds.length ≤ 1000) && gY ds) = true from hs)
  have l2:ds.length ≤ 1000:=of_decide_eq_true hs'.1
  have q:Q (.bl ((decide (1 ≤ ds.length) && decide (ds.length ≤ 40)) && (ds.all (dC zs0) && decide ((ds.map cD).Nodup)))) H:=q
  have e0:(decide (1 ≤ ds.length) && decide ((ds.length:Int) ≤ 40)) = (decide (1 ≤ ds.length) && decide (ds.length ≤ 40)):=by
   congr 1
   rw [BZ,decide_eq_true_iff,decide_eq_true_iff]
   omega
  show if (decide (1 ≤ ds.length) && decide ((ds.length:Int) ≤ 40)) = true then _ else _
  rw [e0]
  refine oJ (fun h1=>?_) (fun h1=>?_)
  ·rw [h1,BU] at q
   refine ⟨_,rfl,p,rfl,⟨_,SqL.of o⟩,?_⟩
   refine bG (F:=K) (xs:=us) (by omega) (fun i ys H'=>H' = H ∧ ys = (ds.take i).map fun d=>V.bl (dC zs0 d)) ⟨rfl,rfl⟩ ?_ ?_ ?_
   ·rintro i ys H' hi' ⟨rfl,rfl⟩
    exact ⟨SqL.of o,by rw [AA,AW];omega⟩
   ·rintro i x ys H' K1 K2 hx ⟨rfl,rfl⟩ k1 k2
    have hil:i < us.length:=(AB.mp hx).1
    obtain ⟨d,ed⟩:∃ d,ds[i]? = some d:=⟨_,AC (by omega)⟩
    obtain ⟨v,ev,iv⟩:=hi.get ed
    rw [hx] at ev
    cases ev
    refine ⟨_,rfl,_,rfl,_,_,rfl,d,p0,zs0,iv,jC hs'.2 (AM ed),rfl,SqL.of hp0,k1 _ _ ⟨rfl,?_⟩⟩
    rw [AX,ed]
    simp
   ·rintro ys H' ⟨rfl,rfl⟩
    intro p1 hp1
    have np:p ≠ p1:=aO o hp1
    refine ⟨p1,ds.map (dC zs0),rfl,SqL.of ?_,_,rfl,?_⟩
    ·rw [aE,AF (by omega),Al]
     rfl
    have e1:(ds.map (dC zs0)).all id = ds.all (dC zs0):=by rw [Dp];rfl
    rw [e1]
    refine oJ (fun h2=>?_) (fun h2=>?_)
    ·rw [h2,BU] at q
     obtain ⟨zs,ez⟩:=oF aAH h2
     have l3:zs.length = ds.length:=by have:=congrArg Cs ez;simpa using this.symm
     refine ⟨_,rfl,_,rfl,p,us,ds,zs,rfl,by rw [aI np];exact o,IsL.same (aJ.upd hp1) _ _ hi,ez,by omega,?_⟩
     have e2:decide zs.Nodup = decide (ds.map cD).Nodup:=by rw [ez,BZ,decide_eq_true_iff,decide_eq_true_iff,eE]
     rw [e2]
     exact cO.of (gW.lst hp1) q
    ·have h2':ds.all (dC zs0) = false:=by simpa using h2
     rw [h2'] at q
     exact cO.of (gW.lst hp1) q
  ·have h1':(decide (1 ≤ ds.length) && decide (ds.length ≤ 40)) = false:=by simpa using h1
   rw [h1'] at q
   exact cO.of (.refl _) q
 | _=>exact bM (cO.of (.refl _) q)
def aJU (C:Addr):Sp:=sp3 fun x v1 v2 H Q=>∃ (p dx:Addr) (fs ds:List Dv),x = .ref p ∧ H p = some (.ins C dx []) ∧ Is H (.lst fs) v1 ∧ Is H (.lst ds) v2 ∧ eP (.lst fs) = true ∧ eP (.lst ds) = true ∧
 lJ (.lst fs) = true ∧ nU ("sea" :: fs.map aZ) (.lst ds) = true ∧ ∀ H',LandAt C H' p fs ds → (∀ b o,H b = some o → b ≠ p → H' b = some o) → Q .non H'
def aDQ (C:Addr) (sel:List Dv → List Dv → List Dv):Sp:=sp1 fun x H Q=>∃ (p:Addr) (fs ds:List Dv),x = .ref p ∧ LandAt C H p fs ds ∧ ∀ (l:Addr) (vs:List V) (H':Hp),aJ H H' → H l = none → H' l = some (.lst vs) → IsL H' (sel fs ds) vs → Q (.ref l) H'
def aDP (C:Addr) (sel:List Dv → List Dv → List Str):Sp:=sp1 fun x H Q=>∃ (p:Addr) (fs ds:List Dv),x = .ref p ∧ LandAt C H p fs ds ∧ ∀ (l:Addr) (H':Hp),aJ H H' → H l = none → H' l = some (.lst ((sel fs ds).map V.str)) → Q (.ref l) H'
def aFT (C:Addr) (sel:List Dv → List Dv → List Dv):Sp:=sp1 fun x H Q=>∃ (p:Addr) (fs ds:List Dv),x = .ref p ∧ LandAt C H p fs ds ∧ ∀ (l:Addr) (vs:List V),H l = none → IsL H (sel fs ds) vs → Q (.ref l) (upd H l (.lst vs))
def tN (C:Addr) (sel:List Dv → List Dv → List Str):Sp:=sp1 fun x H Q=>∃ (p:Addr) (fs ds:List Dv),x = .ref p ∧ LandAt C H p fs ds ∧ ∀ (l:Addr),H l = none → Q (.ref l) (upd H l (.lst ((sel fs ds).map V.str)))
theorem aKH {C:Addr} {sel:List Dv → List Dv → List Dv}:∀ vs H Q E,aDQ C sel vs H Q E → aFT C sel vs H Q E:=by
 rintro vs H Q E ⟨x,rfl,p,fs,ds,rfl,L,q⟩
 exact ⟨_,rfl,p,fs,ds,rfl,L,fun l us hl hi=>q l us _ (aJ.upd hl) hl aE (IsL.same (aJ.upd hl) _ _ hi)⟩
theorem aJL {C:Addr} {sel:List Dv → List Dv → List Str}:∀ vs H Q E,aDP C sel vs H Q E → tN C sel vs H Q E:=by
 rintro vs H Q E ⟨x,rfl,p,fs,ds,rfl,L,q⟩
 exact ⟨_,rfl,p,fs,ds,rfl,L,fun l hl=>q l _ (aJ.upd hl) hl aE⟩
theorem qX (T:Txt K mg C):Mc P w K mg base 1 C "dykes" ["self"] (aFT C fun _ ds=>ds):=by
 refine T.m_land_p_dykes.mcD sU mF (fun f cdv A outer s H vs Q E hr h=>?_)
 obtain ⟨x,rfl,p,fs,ds,rfl,L,q⟩:=h
 obtain ⟨dx,d1,d2,hx,t1,⟨k1,h1,e1,i1⟩⟩:=L.ex
 refine ⟨_,(@aH _ _ _ (@aT _ _ _ _ (@bV _ _ _ _ _ _ _ _ _ (@rR _ rfl) rfl T.n_list dH (@aA _ _ _ _ _ (@aLB _ _ _ _ _ _ _ _ _ PySem.F.plainAttrs_dict PySem.F.slot_dict_values PySem.F.type_dict_values aHZ (@uO _ _ _ _ _ (pv 0) rfl) (by rfl) (by rfl)) aD (by rfl)) (by decide) (by decide) (by rfl) (by rfl)))),?_⟩
 refine ⟨_,rfl,p,C,dx,_,_,rfl,hx,T.cl_Land,T.a_dyke_rows,aAG _ _,.inr (.inr (.inl ⟨rfl,.inl ⟨_,h1⟩⟩)),d2,k1,rfl,rfl,.inl h1,fun v hv=>?_⟩
 have nv:d2 ≠ v:=aO h1 hv
 refine ⟨v,d2,k1,rfl,aE,.inl (by rw [aI nv];exact h1),fun l hl=>?_⟩
 exact cO.of (gW.under hv rfl hl) (q l _ ((aJ.upd hv).free hl) i1)
theorem sZ (T:Txt K mg C):Mc P w K mg base 1 C "dykes" ["self"] (aDQ C fun _ ds=>ds):=(qX T).imp aKH
theorem vG {kvs:List (Key × V)} {ds:List Dv} (e:kvs.map (·.1) = ds.map nE):(kvs.map fun kv=>kV kv.1) = (ds.map aZ).map V.str:=by
 have h:(kvs.map fun kv=>kV kv.1) = (kvs.map (·.1)).map kV:=by rw [Al];rfl
 rw [h,e,Al,Al]
 rfl
theorem lO (T:Txt K mg C):Mc P w K mg base 1 C "field_names" ["self"] (tN C fun fs _=>fs.map aZ):=by
 refine T.m_land_p_field_names.mc mB mF (fun f cdv A outer s H vs Q E hr h=>?_)
 obtain ⟨x,rfl,p,fs,ds,rfl,L,q⟩:=h
 obtain ⟨dx,d1,d2,hx,⟨k1,h1,e1,i1⟩,t2⟩:=L.ex
 refine ⟨_,(@aH _ _ _ (@aT _ _ _ _ (@bV _ _ _ _ _ _ _ _ _ (@jS _ rfl) rfl T.n_list dH (@aA _ _ _ _ _ (@uO _ _ _ _ _ (pv 0) rfl) aD (by rfl)) (by decide) (by decide) (by rfl) (by rfl)))),?_⟩
 refine ⟨_,rfl,p,C,dx,_,_,rfl,hx,T.cl_Land,T.a_field_rows,aGM _ _,d1,k1,rfl,.inl h1,fun l hl=>?_⟩
 have:=q l hl
 rw [vG e1]
 exact this
theorem mE (T:Txt K mg C):Mc P w K mg base 1 C "dyke_names" ["self"] (tN C fun _ ds=>ds.map aZ):=by
 refine T.m_land_p_dyke_names.mc mJ mF (fun f cdv A outer s H vs Q E hr h=>?_)
 obtain ⟨x,rfl,p,fs,ds,rfl,L,q⟩:=h
 obtain ⟨dx,d1,d2,hx,t1,⟨k1,h1,e1,i1⟩⟩:=L.ex
 refine ⟨_,(@aH _ _ _ (@aT _ _ _ _ (@bV _ _ _ _ _ _ _ _ _ (@jS _ rfl) rfl T.n_list dH (@aA _ _ _ _ _ (@uO _ _ _ _ _ (pv 0) rfl) aD (by rfl)) (by decide) (by decide) (by rfl) (by rfl)))),?_⟩
 refine ⟨_,rfl,p,C,dx,_,_,rfl,hx,T.cl_Land,T.a_dyke_rows,aAG _ _,d2,k1,rfl,.inl h1,fun l hl=>?_⟩
 have:=q l hl
 rw [vG e1]
 exact this
theorem mD (T:Txt K mg C):Mc P w K mg base 1 C "field_names" ["self"] (aDP C fun fs _=>fs.map aZ):=(lO T).imp aJL
theorem lG {H:Hp} {n a b:Str} {c r:Int} {s:Dv} {v:V} (h:Is H (.tup [.str n,.str a,.str b,.int c,.int r,s]) v):∃ t vs,v = .ref t ∧ H t = some (.tup [.str n,.str a,.str b,.int c,.int r,vs]) ∧ Is H s vs:=by
 obtain ⟨t,us,rfl,o,v0,r0,rfl,i0,v1,r1,rfl,i1,v2,r2,rfl,i2,v3,r3,rfl,i3,v4,r4,rfl,i4,v5,r5,rfl,i5,h0⟩:=h
 cases (show r5 = [] from h0)
 cases (show v0 = _ from i0)
 cases (show v1 = _ from i1)
 cases (show v2 = _ from i2)
 cases (show v3 = _ from i3)
 cases (show v4 = _ from i4)
 exact ⟨t,v5,rfl,o,i5⟩
theorem lF {H:Hp} {n:Str} {g e:Int} {v:V} (h:Is H (.tup [.str n,.int g,.int e]) v):∃ t,v = .ref t ∧ H t = some (.tup [.str n,.int g,.int e]):=by
 obtain ⟨t,us,rfl,o,v0,r0,rfl,i0,v1,r1,rfl,i1,v2,r2,rfl,i2,h0⟩:=h
 cases (show r2 = [] from h0)
 cases (show v0 = _ from i0)
 cases (show v1 = _ from i1)
 cases (show v2 = _ from i2)
 exact ⟨t,rfl,o⟩
theorem cI {C:Addr} {H:Hp} {p:Addr} {fs ds:List Dv} (L:LandAt C H p fs ds):GoodF fs ∧ GoodD ("sea" :: fs.map aZ) ds:=⟨(rH _).mp L.okf,(rJ _ _).mp L.okd⟩
def aBH (C:Addr):Sp:=sp2 fun x y H Q=>∃ (p:Addr) (fs ds:List Dv) (z:Str) (g e:Int),x = .ref p ∧ y = .str z ∧ LandAt C H p fs ds ∧ Dv.tup [.str z,.int g,.int e] ∈ fs ∧ Q (.int g) H
theorem qW (T:Txt K mg C):Mc P w K mg base 1 C "ground" ["self","field"] (aBH C):=by
 refine T.m_land_p_ground.mc qS iL (fun f cdv A outer s H vs Q E hr h=>?_)
 obtain ⟨x,y,rfl,p,fs,ds,z,g,e,rfl,rfl,L,m,q⟩:=h
 have hu:=jZ hr
 obtain ⟨dx,d1,d2,hx,⟨k1,h1,e1,i1⟩,t2⟩:=L.ex
 obtain ⟨v,ev,iv⟩:=yZ e1 i1 (cI L).1.nd m
 obtain ⟨t,rfl,o⟩:=lF iv
 refine ⟨_,(@aH _ _ _ (@aT _ _ _ _ (@bE _ _ _ _ _ _ _ (@aV _ (K) rfl) (@eB _ _ _ _ _ _ hu (@uO _ _ _ _ _ (pv 0) rfl) (pv 1) (fun _ _=>rfl)) aF (fun _ _=>rfl)))),?_⟩
 refine ⟨_,rfl,p,C,dx,_,_,rfl,hx,T.cl_Land,T.a_field_rows,aGM _ _,_,rfl,d1,.ref t,rfl,?_,t,_,1,.int g,rfl,rfl,SqT.of o,aN (j:=1) rfl,q⟩
 rw [← ev]
 exact rX.k (k:=Sum.inr z) h1
def tP (C:Addr):Sp:=sp2 fun x y H Q=>∃ (p:Addr) (fs ds:List Dv) (d:Dv),x = .ref p ∧ y = .str (aZ d) ∧ LandAt C H p fs ds ∧ d ∈ ds ∧ ∀ v,Is H d v → Q v H
theorem jO (T:Txt K mg C):Mc P w K mg base 1 C "dyke" ["self","name"] (tP C):=by
 refine T.m_land_p_dyke.mc uK iL (fun f cdv A outer s H vs Q E hr h=>?_)
 obtain ⟨x,y,rfl,p,fs,ds,d,rfl,rfl,L,m,q⟩:=h
 have hu:=jZ hr
 obtain ⟨dx,d1,d2,hx,t1,⟨k1,h1,e1,i1⟩⟩:=L.ex
 obtain ⟨v,ev,iv⟩:=yZ e1 i1 (cI L).2.nd m
 refine ⟨_,(@aH _ _ _ (@aT _ _ _ _ (@eB _ _ _ _ _ _ hu (@uO _ _ _ _ _ (pv 0) rfl) (pv 1) (fun _ _=>rfl)))),?_⟩
 refine ⟨_,rfl,p,C,dx,_,_,rfl,hx,T.cl_Land,T.a_dyke_rows,aAG _ _,_,rfl,d2,v,rfl,?_,q v iv⟩
 rw [← ev]
 exact rX.k (k:=Sum.inr (aZ d)) h1
theorem aFK {α β:Type}:∀ {xs:List α} {ys:List β},xs.length = ys.length → (xs.zip ys).map (·.1) = xs
 | [],[],_=>rfl
 | x :: xs,y :: ys,h=>by rw [List.zip_cons_cons,AY,aFK (by simpa using h)]
 | [],_ :: _,h=>by simp at h
 | _ :: _,[],h=>by simp at h
theorem aFJ {α β:Type}:∀ {xs:List α} {ys:List β},xs.length = ys.length → (xs.zip ys).map (·.2) = ys
 | [],[],_=>rfl
 | x :: xs,y :: ys,h=>by rw [List.zip_cons_cons,AY,aFJ (by simpa using h)]
 | [],_ :: _,h=>by simp at h
 | _ :: _,[],h=>by simp at h
def dA (ds:List Dv) (us:List V):List (Key × V):=(ds.map nE).zip us
theorem lM {ds:List Dv} {us:List V} (h:us.length = ds.length):(dA ds us).map (·.1) = ds.map nE:=aFK (by rw [AA];exact h.symm)
theorem uQ {ds:List Dv} {us:List V} (h:us.length = ds.length):(dA ds us).map (·.2) = us:=aFJ (by rw [AA];exact h.symm)
theorem oA {ds:List Dv} {us:List V} (h:us.length = ds.length):(dA ds us).length = us.length:=by
 unfold dA
 rw [List.length_zip,AA]
 omega
theorem aBY {ds:List Dv} {us:List V} {i:Nat} {d:Dv} {v:V} (e1:ds[i]? = some d) (e2:us[i]? = some v):(dA ds us)[i]? = some (nE d,v):=by
 unfold dA
 rw [List.getElem?_zip_eq_some]
 exact ⟨by rw [AI,e1];rfl,e2⟩
theorem xZ {ds:List Dv} (h:(ds.map aZ).Nodup):(ds.map nE).Nodup:=by
 have e:ds.map nE = (ds.map aZ).map Sum.inr:=by rw [Al];rfl
 rw [e,hG]
 exact h
theorem wT (T:Txt K mg C):Ic P w K mg base 6 C ["self","fields","dykes"] (aJU C):=by
 have G_p_are_fields:Fc P w K mg base 4 "are_fields" ["thing"] aBI:=sY T
 have G_p_are_dykes:Fc P w K mg base 5 "are_dykes" ["thing","sides"] (aFY K):=uY T
 refine T.i_Land.ic wM pB (fun f cdv A outer s H vs Q E hr h=>?_)
 obtain ⟨x,v1,v2,rfl,p,dx,fs,ds,rfl,hx,hf,hd,sf,sd,okf,okd,q⟩:=h
 have big:=bO
 have gf:=(rH _).mp okf
 have gd:=(rJ _ _).mp okd
 have lf:=gf.l2
 have ld:=gd.l2
 obtain ⟨a1,us,rfl,o1,i1⟩:=id hf
 obtain ⟨a2,ws,rfl,o2,i2⟩:=id hd
 have l1:=i1.length
 have l2:=i2.length
 refine ⟨_,(@aG _ _ _ _ _ (@fE _ _ _ _ _ _ _ _ (@dJ _ _ _ _ (@dG _ _ _ (@bH _ _ _ _ _ _ _ _ _ _ G_p_are_fields (hr.mono (by decide)) (@aA _ _ _ _ _ (pv 1) aD (by rfl)) (by rfl) (by decide) (by rfl) (by rfl)) (by intro _;rfl))) (@aH _ _ _ kW) cG) (@aG _ _ _ _ _ (@fE _ _ _ _ _ _ _ _ (@dJ _ _ _ _ (@dG _ _ _ (@bH _ _ _ _ _ _ _ _ _ _ G_p_are_dykes (hr.mono (by decide)) (@aA _ _ _ _ _ (pv 2) (@aA _ _ _ _ _ (@aM _ _ _ _ _ _ _ _ uR (@cY _ _ _ _ (@aA _ _ _ _ _ (@sW _ _ _ _ T.g_SEA (by rfl) (by decide)) aD (by rfl))) (@bS _ _ _ _ _ _ _ _ _ _ _ ["field"] 1 [] rfl (@bJ _ _ _ _ (pv 1)) (fun R=>@aW _ _ (0) _ (show Au (["field"]:List Str) by decide +kernel) rfl (Or.inl rfl) (by trivial)) (@aY _ _ (by decide)) (fun R=>bW) (fun R=>(@bE _ _ _ _ _ _ _ (@aV _ (K) rfl) (pv 0) aF (fun _ _=>rfl))) (by rfl) (by rfl) (by rfl) (by rfl) (by rfl) (by rfl) (by rfl) (by intro _;rfl))) aD (by rfl)) (by rfl)) (by rfl) (by decide) (by rfl) (by rfl)) (by intro _;rfl))) (@aH _ _ _ kW) cG) (@aG _ _ _ _ _ (@aKP _ _ _ _ _ _ _ _ (pv 0) (@bV _ _ _ _ _ _ _ _ _ (@dL _ rfl) rfl T.n_dict fB (@aA _ _ _ _ _ (@bS _ _ _ _ _ _ _ _ _ _ _ ["field"] 1 [] rfl (@bJ _ _ _ _ (pv 1)) (fun R=>@aW _ _ (0) _ (show Au (["field"]:List Str) by decide +kernel) rfl (Or.inl rfl) (by trivial)) (@aY _ _ (by decide)) (fun R=>bW) (fun R=>(@dZ _ _ _ _ _ (@aA _ _ _ _ _ (@bE _ _ _ _ _ _ _ (@aV _ (K) rfl) (pv 0) aF (fun _ _=>rfl)) (@aA _ _ _ _ _ (pv 0) aD (by rfl)) (by rfl)))) (by rfl) (by rfl) (by rfl) (by rfl) (by rfl) (by rfl) (by rfl) (by intro _;rfl)) aD (by rfl)) (by decide) (by decide) (by rfl) (by rfl)) rfl) (@aH _ _ _ (@aKP _ _ _ _ _ _ _ _ (pv 0) (@bV _ _ _ _ _ _ _ _ _ (@dL _ rfl) rfl T.n_dict fB (@aA _ _ _ _ _ (@bS _ _ _ _ _ _ _ _ _ _ _ ["dyke"] 1 [] rfl (@bJ _ _ _ _ (pv 2)) (fun R=>@aW _ _ (0) _ (show Au (["dyke"]:List Str) by decide +kernel) rfl (Or.inl rfl) (by trivial)) (@aY _ _ (by decide)) (fun R=>bW) (fun R=>(@dZ _ _ _ _ _ (@aA _ _ _ _ _ (@bE _ _ _ _ _ _ _ (@aV _ (K) rfl) (pv 0) aF (fun _ _=>rfl)) (@aA _ _ _ _ _ (pv 0) aD (by rfl)) (by rfl)))) (by rfl) (by rfl) (by rfl) (by rfl) (by rfl) (by rfl) (by rfl) (by intro _;rfl)) aD (by rfl)) (by decide) (by decide) (by rfl) (by rfl)) rfl))))),?_⟩
 refine ⟨_,rfl,_,rfl,.lst fs,hf,sf,_,rfl,?_⟩
 rw [okf]
 refine bM ?_
 refine ⟨_,rfl,aX rfl,fun p1 hp1=>?_⟩
 have S1:=aJ.upd (o:=.lst [.str "sea"]) hp1
 refine ⟨_,rfl,a1,rfl,⟨_,SqL.of (S1 _ _ o1)⟩,?_⟩
 refine bG (F:=K) (xs:=us) (by omega) (fun i ys H'=>H' = upd H p1 (.lst [.str "sea"]) ∧ ys = ((fs.take i).map aZ).map V.str) ⟨rfl,rfl⟩ ?_ ?_ ?_
 ·rintro i ys H' hi' ⟨rfl,rfl⟩
  exact ⟨SqL.of (S1 _ _ o1),by rw [AA,AA,AW];omega⟩
 ·rintro i x ys H' K1 K2 hx' ⟨rfl,rfl⟩ k1 k2
  have hil:i < us.length:=(AB.mp hx').1
  obtain ⟨d,ed⟩:∃ d,fs[i]? = some d:=⟨_,AC (by omega)⟩
  obtain ⟨v,ev,iv⟩:=i1.get ed
  rw [hx'] at ev
  cases ev
  obtain ⟨z,g,e,rfl,_⟩:=bZ (gf.all d (AM ed))
  obtain ⟨t,rfl,o⟩:=lF iv
  refine ⟨_,rfl,t,_,0,.str z,rfl,rfl,SqT.of (S1 _ _ o),aN (j:=0) rfl,k1 _ _ ⟨rfl,?_⟩⟩
  rw [AX,ed]
  simp [aZ,cD]
 ·rintro ys H' ⟨rfl,rfl⟩
  intro p2 hp2
  rw [AF (by omega)]
  have S2:=aJ.upd (o:=.lst ((fs.map aZ).map V.str)) hp2
  refine ⟨p1,p2,_,_,rfl,rfl,S2 _ _ aE,aE,by simp only [AA,Aj,Dy];omega,fun p3 hp3=>?_⟩
  have S3:=aJ.upd (o:=.lst ([.str "sea"] ++ (fs.map aZ).map V.str)) hp3
  have S:=S1.trans (S2.trans S3)
  generalize hH3:upd (upd (upd H p1 (.lst [.str "sea"])) p2 (.lst ((fs.map aZ).map V.str))) p3 (.lst ([.str "sea"] ++ (fs.map aZ).map V.str)) = H3 at S
  have hp3':H3 p3 = some (.lst ((("sea":Str) :: fs.map aZ).map V.str)):=by rw [← hH3,aE];rfl
  refine ⟨_,_,rfl,.lst ds,p3,_,Is.same S _ _ hd,sd,rfl,hp3',_,rfl,?_⟩
  rw [okd]
  refine bM ?_
  refine ⟨_,rfl,a1,rfl,⟨_,SqL.of (S _ _ o1)⟩,?_⟩
  refine bG (F:=K) (xs:=us) (by omega) (fun i ys H'=>aJ H3 H' ∧ bN H' ys ((dA fs us).take i)) ⟨aJ.refl _,bN.nil _⟩ ?_ ?_ ?_
  ·rintro i ys H' hi' ⟨S4,pr⟩
   exact ⟨SqL.of (S4 _ _ (S _ _ o1)),by have:=pr.len;rw [AW] at this;omega⟩
  ·rintro i x ys H' K1 K2 hx' ⟨S4,pr⟩ k1 k2
   have hil:i < us.length:=(AB.mp hx').1
   obtain ⟨d,ed⟩:∃ d,fs[i]? = some d:=⟨_,AC (by omega)⟩
   obtain ⟨v,ev,iv⟩:=i1.get ed
   rw [hx'] at ev
   cases ev
   obtain ⟨z,g,e,rfl,_⟩:=bZ (gf.all d (AM ed))
   obtain ⟨t,rfl,o⟩:=lF iv
   have ot:=S4 _ _ (S _ _ o)
   refine ⟨_,rfl,t,_,0,.str z,rfl,rfl,SqT.of ot,aN (j:=0) rfl,_,rfl,aX rfl,fun pt hpt=>k1 _ _ ⟨S4.trans (aJ.upd hpt),?_⟩⟩
   rw [AX,aBY ed hx']
   exact pr.snoc (k:=Sum.inr z) hpt
  ·rintro ys H4 ⟨S4,pr⟩
   rw [AF (by rw [oA l1];omega)] at pr
   intro p4 hp4
   have S5:=aJ.upd (o:=.lst ys) hp4
   refine ⟨p4,ys,dA fs us,rfl,SqL.of aE,pr.same S5,by rw [oA l1];omega,by rw [lM l1];exact xZ gf.nd,fun d1 hd1=>?_⟩
   have S6:=aJ.upd (o:=.dK (dA fs us)) hd1
   have SA:=S.trans (S4.trans (S5.trans S6))
   have hd1':upd (upd H4 p4 (.lst ys)) d1 (.dK (dA fs us)) d1 = some (.dK (dA fs us)):=aE
   generalize upd (upd H4 p4 (.lst ys)) d1 (.dK (dA fs us)) = H6 at SA hd1'
   refine ⟨_,rfl,p,C,dx,[],rfl,SA _ _ hx,T.cl_Land,T.a_field_rows,(by show 0 < 1000;decide),?_⟩
   have SB:∀ b o,H b = some o → b ≠ p → upd H6 p (.ins C dx (iV "field_rows" (.ref d1) [])) b = some o:=fun b o e hb=>by rw [aI hb];exact SA _ _ e
   have nd1:d1 ≠ p:=xT hd1' (SA _ _ hx) (by intro z;cases z)
   have SD:aDK H (upd H6 p (.ins C dx (iV "field_rows" (.ref d1) []))):=fun b o e dt=>SB b o e (fun z=>by subst z;rw [hx] at e;cases e;cases dt)
   have hp7:upd H6 p (.ins C dx (iV "field_rows" (.ref d1) [])) p = some (.ins C dx (iV "field_rows" (.ref d1) [])):=aE
   have hd7:upd H6 p (.ins C dx (iV "field_rows" (.ref d1) [])) d1 = some (.dK (dA fs us)):=by rw [aI nd1];exact hd1'
   generalize upd H6 p (.ins C dx (iV "field_rows" (.ref d1) [])) = H7 at SB SD hp7 hd7
   refine ⟨_,rfl,a2,rfl,⟨_,SqL.of (SD _ _ o2 rfl)⟩,?_⟩
   refine bG (F:=K) (xs:=ws) (by omega) (fun i ys H'=>aJ H7 H' ∧ bN H' ys ((dA ds ws).take i)) ⟨aJ.refl _,bN.nil _⟩ ?_ ?_ ?_
   ·rintro i ys H' hi' ⟨S8,pr⟩
    exact ⟨SqL.of (S8 _ _ (SD _ _ o2 rfl)),by have:=pr.len;rw [AW] at this;omega⟩
   ·rintro i x ys H' K1 K2 hx' ⟨S8,pr⟩ k1 k2
    have hil:i < ws.length:=(AB.mp hx').1
    obtain ⟨d,ed⟩:∃ d,ds[i]? = some d:=⟨_,AC (by omega)⟩
    obtain ⟨v,ev,iv⟩:=i2.get ed
    rw [hx'] at ev
    cases ev
    obtain ⟨n,a,b,c,r,sl,rfl,_⟩:=bU (gd.all d (AM ed))
    obtain ⟨t,vs,rfl,o,_⟩:=lG iv
    have ot:=S8 _ _ (SD _ _ o rfl)
    refine ⟨_,rfl,t,_,0,.str n,rfl,rfl,SqT.of ot,aN (j:=0) rfl,_,rfl,aX rfl,fun pt hpt=>k1 _ _ ⟨S8.trans (aJ.upd hpt),?_⟩⟩
    rw [AX,aBY ed hx']
    exact pr.snoc (k:=Sum.inr n) hpt
   ·rintro ys H8 ⟨S8,pr⟩
    rw [AF (by rw [oA l2];omega)] at pr
    intro p9 hp9
    have S9:=aJ.upd (o:=.lst ys) hp9
    refine ⟨p9,ys,dA ds ws,rfl,SqL.of aE,pr.same S9,by rw [oA l2];omega,by rw [lM l2];exact xZ gd.nd,fun d2 hd2=>?_⟩
    have S10:=aJ.upd (o:=.dK (dA ds ws)) hd2
    have SC:=S8.trans (S9.trans S10)
    have hd2':upd (upd H8 p9 (.lst ys)) d2 (.dK (dA ds ws)) d2 = some (.dK (dA ds ws)):=aE
    generalize upd (upd H8 p9 (.lst ys)) d2 (.dK (dA ds ws)) = H10 at SC hd2'
    refine ⟨_,rfl,p,C,dx,_,rfl,SC _ _ hp7,T.cl_Land,T.a_dyke_rows,(by show 1 < 1000;decide),?_⟩
    have nd2:d2 ≠ p:=xT hd2' (SC _ _ hp7) (by intro z;cases z)
    have SE:aDK H (upd H10 p (.ins C dx (nC d1 d2))):=fun b o e dt=>by
     have hb:b ≠ p:=fun z=>by subst z;rw [hx] at e;cases e;cases dt
     rw [aI hb]
     exact SC _ _ (SB _ _ e hb)
    refine q _ ⟨⟨dx,d1,d2,aE,⟨_,(aI nd1).trans (SC _ _ hd7),lM l1,?_⟩,⟨_,(aI nd2).trans hd2',lM l2,?_⟩⟩,okf,okd⟩ fun b o e hb=>?_
    ·rw [uQ l1]
     exact IsL.sameD SE _ _ i1
    ·rw [uQ l2]
     exact IsL.sameD SE _ _ i2
    ·show upd H10 p (.ins C dx (nC d1 d2)) b = some o
     rw [aI hb]
     exact SC _ _ (SB _ _ e hb)
open Mt02
def Scr (K:AG) (H:Hp) (x:V):Prop:=∃ (a:Addr) (ns:List Int),x = .ref a ∧ SqL K H a (ns.map V.int) ∧ ns.length ≤ 63
theorem Scr.same {K:AG} {H H':Hp} {x:V} (S:aJ H H') (h:Scr K H x):Scr K H' x:=by
 obtain ⟨a,ns,e,q,l⟩:=h
 exact ⟨a,ns,e,S.seq q,l⟩
theorem at4 {a b c d i:Int} (h0:0 ≤ i) (h1:i < 4):∃ m:Int,atI ([.int a,.int b,.int c,.int d]:List V) i = some (.int m) ∧ (m = a ∨ m = b ∨ m = c ∨ m = d):=by
 obtain ⟨k,rfl⟩:=BF h0
 have hk:k < 4:=by omega
 match k,hk with
 | 0,_=>exact ⟨a,aN rfl,.inl rfl⟩
 | 1,_=>exact ⟨b,aN rfl,.inr (.inl rfl)⟩
 | 2,_=>exact ⟨c,aN rfl,.inr (.inr (.inl rfl))⟩
 | 3,_=>exact ⟨d,aN rfl,.inr (.inr (.inr rfl))⟩
structure Fds (fs:List Dv) (n:Nat):Prop where
 l1:1 ≤ fs.length
 l2:fs.length ≤ n
 all:∀ d ∈ fs,cB d = true
 nd:(fs.map aZ).Nodup
theorem aEW {d:Dv} (h:cB d = true):wY d = true:=by
 obtain ⟨z,g,e,rfl,_⟩:=bZ h
 rfl
theorem aMF {z:Str} {g e:Int} (hz:eY z = true) (g0:-1000000 ≤ g) (g1:g ≤ 1000000) (e0:0 ≤ e) (e1:e ≤ 1000000):cB (.tup [.str z,.int g,.int e]) = true:=by
 show (eY z && (hgt g && amt e)) = true
 unfold hgt amt
 rw [hz,decide_eq_true g0,decide_eq_true g1,decide_eq_true e0,decide_eq_true e1]
 rfl
structure Dks (zs:List Str) (ds:List Dv) (n:Nat):Prop where
 l1:1 ≤ ds.length
 l2:ds.length ≤ n
 all:∀ d ∈ ds,dC zs d = true
 nd:(ds.map aZ).Nodup
theorem aHJ {c s:Dv} (h:nF c s = true):wY s = true:=by
 cases s with
 | non=>rfl
 | int i=>rfl
 | _=>cases h
theorem aIL {zs:List Str} {d:Dv} (h:dC zs d = true):wY d = true:=by
 obtain ⟨n,a,b,c,r,s,rfl,_,_,_,_,_,_,hs⟩:=bU h
 have:=aHJ hs
 show (true && (true && (true && (true && (true && (wY s && true)))))) = true
 rw [this]
 rfl
theorem aOY {zs:List Str} {n a b:Str} {c r:Int} {s:Dv} (hn:eY n = true) (ha:a ∈ zs) (hb:b ∈ zs) (hab:a ≠ b) (hc:hgt c = true) (hr:amt r = true) (hs:nF (.int c) s = true):dC zs (.tup [.str n,.str a,.str b,.int c,.int r,s]) = true:=by
 show (eY n && (decide (a ∈ zs) && (decide (b ∈ zs) && !(a == b))) && (hgt c && (amt r && nF (.int c) s))) = true
 rw [hn,decide_eq_true ha,decide_eq_true hb,hc,hr,hs,beq_eq_false_iff_ne.mpr hab]
 rfl
theorem aER {i:Int} (h0:-1000000 ≤ i) (h1:i ≤ 1000000):hgt i = true:=by
 unfold hgt
 rw [decide_eq_true h0,decide_eq_true h1]
 rfl
theorem aRV {i:Int} (h0:0 ≤ i) (h1:i ≤ 1000000):amt i = true:=by
 unfold amt
 rw [decide_eq_true h0,decide_eq_true h1]
 rfl
theorem zH {z:Str} (h:eY z = true):z ≠ "sea":=by
 intro e
 subst e
 simp [eY] at h
theorem aKD {fs:List Dv} {n:Nat} (h:Fds fs n):("sea" :: fs.map aZ:List Str).Nodup:=by
 rw [Ak]
 refine ⟨fun m=>?_,h.nd⟩
 obtain ⟨d,md,e⟩:=AS.mp m
 obtain ⟨z,g,e',rfl,hz,_⟩:=bZ (h.all d md)
 exact zH hz e
theorem aIK {fs:List Dv} {n:Nat} (h:Fds fs n) (hn:n ≤ 12):lJ (.lst fs) = true:=(rH fs).mpr ⟨h.l1,BG h.l2 hn,h.all,h.nd⟩
theorem aML {zs:List Str} {ds:List Dv} {n:Nat} (h:Dks zs ds n) (hn:n ≤ 40):nU zs (.lst ds) = true:=(rJ zs ds).mpr ⟨h.l1,BG h.l2 hn,h.all,h.nd⟩
theorem lP {z:Str} (h:eY z = true):z.length ≤ 1000:=by
 unfold eY at h
 rw [Ac,Ac,Ac] at h
 have:=of_decide_eq_true h.1.1.2
 omega
theorem aCV {d:Dv} (h:cB d = true):eP d = true:=by
 obtain ⟨z,g,e,rfl,hz,_⟩:=bZ h
 show (decide (3 ≤ 1000) && (decide (z.length ≤ 1000) && (true && (true && true)))) = true
 rw [decide_eq_true (lP hz)]
 rfl
theorem uC {fs:List Dv} (hf:∀ d ∈ fs,cB d = true) {a:Str} (h:a ∈ ("sea" :: fs.map aZ:List Str)):a.length ≤ 1000:=by
 rcases Ah.mp h with rfl | h
 ·decide +kernel
 ·obtain ⟨d,m,rfl⟩:=AS.mp h
  obtain ⟨z,g,e,rfl,hz,_⟩:=bZ (hf d m)
  exact lP hz
theorem aEZ {fs:List Dv} (hf:∀ d ∈ fs,cB d = true) {d:Dv} (h:dC ("sea" :: fs.map aZ) d = true):eP d = true:=by
 obtain ⟨n,a,b,c,r,s,rfl,hn,ha,hb,_,_,_,hs⟩:=bU h
 have e:eP s = true:=by
  cases s with
  | non=>rfl
  | int i=>rfl
  | _=>cases hs
 show (decide (6 ≤ 1000) && (decide (n.length ≤ 1000) && (decide (a.length ≤ 1000) && (decide (b.length ≤ 1000) && (true && (true && (eP s && true))))))) = true
 rw [decide_eq_true (lP hn),decide_eq_true (uC hf ha),decide_eq_true (uC hf hb),e]
 rfl
theorem rA {ds:List Dv} (h:∀ d ∈ ds,eP d = true) (hl:ds.length ≤ 1000):eP (.lst ds) = true:=by
 show (decide (ds.length ≤ 1000) && gY ds) = true
 rw [decide_eq_true hl,xM h]
 rfl
theorem aMA {ds:List Dv} (h:∀ d ∈ ds,bB 29 d = true):bB 30 (.lst ds) = true:=by
 have:=vQ h
 simpa [bB] using this
theorem fA (zs:List Str):bB 30 (.lst (zs.map Dv.str)) = true:=aMA fun d m=>by
 obtain ⟨z,_,rfl⟩:=AS.mp m
 rfl
theorem aNM {H:Hp} {l:Addr} {zs:List Str} (h:H l = some (.lst (zs.map V.str))):Is H (.lst (zs.map Dv.str)) (.ref l):=⟨l,_,rfl,h,IsL.strs H zs⟩
open Mt04
def aJN (C:Addr):Sp:=sp2 fun x y H Q=>∃ (p:Addr) (fs ds:List Dv) (d:Dv),x = .ref p ∧ LandAt C H p fs ds ∧ Is H d y ∧ Q (.bl (dW ds d)) H
theorem zW (T:Txt K mg C):Fc P w K mg base 3 "is_work" ["land","thing"] (aJN C):=by
 have G_p_is_tuple_of:Fc P w K mg base 1 "is_tuple_of" ["thing","length"] tM:=hE T
 have G_p_is_one_of:Fc P w K mg base 1 "is_one_of" ["thing","names"] (tO K):=jN T
 have G_p_is_height:Fc P w K mg base 2 "is_height" ["thing"] jB:=dS T
 have G_land_p_dyke_names:Mc P w K mg base 1 C "dyke_names" ["self"] (tN C fun _ ds=>ds.map aZ):=mE T
 have G_land_p_dyke:Mc P w K mg base 1 C "dyke" ["self","name"] (tP C):=jO T
 refine T.d_p_is_work.fcD zJ iL (fun f cdv A outer s H vs Q E hr h=>?_)
 obtain ⟨x,y,rfl,p,fs,ds,d,rfl,L,hd,q⟩:=h
 obtain ⟨dx,e1,e2,hx,_⟩:=L.ex
 have no:∀ m:Str,¬ m = "dyke_rows" → ¬ m = "field_rows" → (nC e1 e2).lookup m = none:=fun m h1 h2=>kZ _ _ h1 h2
 refine ⟨_,(@aG _ _ _ _ _ (@fE _ _ _ _ _ _ _ _ (@PW.pt _ _ _ (@kU _ _ _ _ _ _ _ (@dJ _ _ _ _ (@dG _ _ _ (@bH _ _ _ _ _ _ _ _ _ _ G_p_is_tuple_of (hr.mono (by decide)) (@aA _ _ _ _ _ (pv 1) (@aA _ _ _ _ _ aF aD (by rfl)) (by rfl)) (by rfl) (by decide) (by rfl) (by rfl)) (by intro _;rfl))) (@kE _ _ _ _ (@dJ _ _ _ _ (@dG _ _ _ (@bH _ _ _ _ _ _ _ _ _ _ G_p_is_one_of (hr.mono (by decide)) (@aA _ _ _ _ _ (@bE _ _ _ _ _ _ _ (@aV _ (K) rfl) (pv 1) aF (fun _ _=>rfl)) (@aA _ _ _ _ _ (@aKX _ _ _ _ _ _ _ _ _ _ _ T.cl_Land G_land_p_dyke_names (hr.mono (by decide)) (pv 0) (by rfl)) aD (by rfl)) (by rfl)) (by rfl) (by decide) (by rfl) (by rfl)) (by intro _;rfl)))))) (@aH _ _ _ (@aT _ _ _ _ sG)) cG) (@aH _ _ _ (@aT _ _ _ _ (@cZ _ _ _ _ _ _ _ (@bH _ _ _ _ _ _ _ _ _ _ G_p_is_height (hr.mono (by decide)) (@aA _ _ _ _ _ (@bE _ _ _ _ _ _ _ (@aV _ (K) rfl) (pv 1) aF (fun _ _=>rfl)) aD (by rfl)) (by rfl) (by decide) (by rfl) (by rfl)) (@eA _ _ _ _ _ (@eC _ _ _ _ _ _ _ _ aSZ (@bE _ _ _ _ _ _ _ (@aV _ (K) rfl) (pv 1) aF (fun _ _=>rfl)) (@bE _ _ _ _ _ _ _ (@aV _ (K) rfl) (@aOD _ _ _ _ _ _ _ _ _ _ _ _ _ _ T.cl_Land G_land_p_dyke (hr.mono (by decide)) (pv 0) (@aA _ _ _ _ _ (@bE _ _ _ _ _ _ _ (@aV _ (K) rfl) (pv 1) aF (fun _ _=>rfl)) aD (by rfl)) (by rfl) (by rfl) (by rfl)) aF (fun _ _=>rfl)) (@bX _ _ (by decide) (by decide)))))))),?_⟩
 refine ⟨_,rfl,_,_,rfl,d,2,hd,rfl,_,rfl,?_⟩
 by_cases h2:∃ a b,d = .tup [a,b]
 ·obtain ⟨a,b,rfl⟩:=h2
  obtain ⟨t,us,rfl,o,va,r1,rfl,ha,vb,r2,rfl,hb,h0⟩:=hd
  cases (show r2 = [] from h0)
  refine bM ⟨_,rfl,t,_,0,va,rfl,rfl,SqT.of o,aN (j:=0) rfl,_,rfl,p,dx,_,rfl,hx,no _ (by decide +kernel) (by decide +kernel),_,rfl,p,fs,ds,rfl,L,fun l hl=>?_⟩
  have S:=aJ.upd (o:=.lst ((ds.map aZ).map V.str)) hl
  refine ⟨_,_,rfl,a,l,ds.map aZ,Is.same S _ _ ha,rfl,SqL.of aE,_,rfl,?_⟩
  have dr:=gW.lst (xs:=(ds.map aZ).map V.str) hl
  cases ea:pW (ds.map aZ) a with
  | false =>
   have e:dW ds (.tup [a,b]) = false:=by
    unfold dW
    split
    ·rename_i z v hq
     cases hq
     have:decide (z ∈ ds.map aZ) = false:=ea
     rw [this]
     rfl
    ·rfl
   rw [e] at q
   exact cW (cO.of dr q)
  | true =>
   refine bM ⟨_,rfl,t,_,1,vb,rfl,rfl,SqT.of (S _ _ o),aN (j:=1) rfl,_,rfl,b,Is.same S _ _ hb,_,rfl,?_⟩
   cases eb:fU b with
   | false =>
    have e:dW ds (.tup [a,b]) = false:=by
     unfold dW
     split
     ·rename_i z v hq
      cases hq
      have:hgt v = false:=eb
      rw [this]
      simp
     ·rfl
    rw [e] at q
    exact bM (cO.of dr q)
   | true =>
    cases a with
    | str z =>
     cases b with
     | int v =>
      have mz:z ∈ ds.map aZ:=of_decide_eq_true ea
      obtain ⟨d',md,rfl⟩:=AS.mp mz
      cases (show va = .str (aZ d') from ha)
      cases (show vb = .int v from hb)
      have gd:=(cI L).2
      refine cW ⟨_,rfl,t,_,1,_,rfl,rfl,SqT.of (S _ _ o),aN (j:=1) rfl,_,rfl,p,dx,_,rfl,S _ _ hx,no _ (by decide +kernel) (by decide +kernel),_,rfl,t,_,0,_,rfl,rfl,SqT.of (S _ _ o),aN (j:=0) rfl,_,_,rfl,p,fs,ds,d',rfl,rfl,L.same S,md,fun v1 iv1=>?_⟩
      have ec:=vY gd.nd md
      obtain ⟨n,a',b',c,r,sl,rfl,_⟩:=bU (gd.all d' md)
      obtain ⟨t',sv,rfl,o',_⟩:=lG iv1
      refine ⟨t',_,3,.int c,rfl,rfl,SqT.of o',aN (j:=3) rfl,_,_,rfl,rfl,cO.of dr ?_⟩
      have e:dW ds (.tup [.str (aZ (.tup [.str n,.str a',.str b',.int c,.int r,sl])),.int v]) = decide (c ≤ v):=by
       show (decide (_ ∈ ds.map aZ) && (hgt v && decide (gU ds _ ≤ v))) = _
       rw [decide_eq_true mz,show hgt v = true from eb,ec]
       rfl
      rw [e] at q
      exact q
     | _=>cases eb
    | _=>cases ea
 ·have e1':dW ds d = false:=by
   unfold dW
   split
   ·rename_i z v
    exact absurd ⟨_,_,rfl⟩ h2
   ·rfl
  have e2':aFM 2 d = false:=by
   cases d with
   | tup ds' =>
    refine decide_eq_false (fun e=>?_)
    have e':ds'.length = 2:=by omega
    match ds',e',h2 with
    | [a,b],_,h2=>exact h2 ⟨a,b,rfl⟩
   | _=>rfl
  dsimp only
  rw [e2']
  rw [e1'] at q
  exact cW (cO.of (.refl _) q)
def aFP (C:Addr):Sp:=sp2 fun x y H Q=>∃ (p:Addr) (fs ds:List Dv) (d:Dv),x = .ref p ∧ LandAt C H p fs ds ∧ Is H d y ∧ eP d = true ∧ Q (.bl (aDI ds d)) H
theorem uW (T:Txt K mg C):Fc P w K mg base 4 "are_works" ["land","thing"] (aFP C):=by
 have G_p_is_work:Fc P w K mg base 3 "is_work" ["land","thing"] (aJN C):=zW T
 have G_p_none_twice:Fc P w K mg base 1 "none_twice" ["rows"] tK:=iP T
 refine T.d_p_are_works.fcD uH iL (fun f cdv A outer s H vs Q E hr h=>?_)
 obtain ⟨x,y,rfl,p0,fs,ds0,d,rfl,L,hd,hs,q⟩:=h
 have big:=bO
 obtain ⟨t,ty,e1,e2,e3,e4,_⟩:=rV K hd
 refine ⟨_,(@aH _ _ _ (@aT _ _ _ _ (@cZ _ _ _ _ _ _ _ (@aP _ _ _ _ _ _ _ _ _ (@cA _ (K) rfl) rfl T.n_isinstance bL (@aA _ _ _ _ _ (pv 1) (@aA _ _ _ _ _ (@lY _ _ _ _ T.n_list dH (by rfl) (by decide) (by decide)) aD (by rfl)) (by rfl)) (by decide) (by decide) (by rfl) (by rfl)) (@cZ _ _ _ _ _ _ _ (@aP _ _ _ _ _ _ _ _ _ (@nO _ rfl) rfl T.n_all lH (@aA _ _ _ _ _ (@bS _ _ _ _ _ _ _ _ _ _ _ ["row","land"] 1 [0] rfl (@bJ _ _ _ _ (pv 1)) (fun R=>@aW _ _ (0) _ (show Au (["row","land"]:List Str) by decide +kernel) rfl (Or.inl rfl) (by trivial)) (@aY _ _ (by decide)) (fun R=>bW) (fun R=>(@bH _ _ _ _ _ _ _ _ _ _ G_p_is_work (hr.mono (by decide)) (@aA _ _ _ _ _ (pv 1) (@aA _ _ _ _ _ (pv 0) aD (by rfl)) (by rfl)) (by rfl) (by decide) (by rfl) (by rfl))) (by rfl) (by rfl) (by rfl) (by rfl) (by rfl) (by rfl) (by rfl) (by intro _;rfl)) aD (by rfl)) (by decide) (by decide) (by rfl) (by rfl)) (@eA _ _ _ _ _ (@bH _ _ _ _ _ _ _ _ _ _ G_p_none_twice (hr.mono (by decide)) (@aA _ _ _ _ _ (pv 1) aD (by rfl)) (by rfl) (by decide) (by rfl) (by rfl))))))),?_⟩
 refine ⟨_,rfl,_,_,_,t,_,rfl,rfl,ty,e4,_,rfl,?_⟩
 cases d with
 | lst ds =>
  obtain ⟨p,us,rfl,o,hi⟩:=hd
  have l1:=hi.length
  have hs':=BJ.mp (show (decide (ds.length ≤ 1000) && gY ds) = true from hs)
  have l2:ds.length ≤ 1000:=of_decide_eq_true hs'.1
  have q:Q (.bl (ds.all (dW ds0) && decide ((ds.map cD).Nodup))) H:=q
  refine cW ⟨_,rfl,p,rfl,⟨_,SqL.of o⟩,?_⟩
  refine bG (F:=K) (xs:=us) (by omega) (fun i ys H'=>H' = H ∧ ys = (ds.take i).map fun d=>V.bl (dW ds0 d)) ⟨rfl,rfl⟩ ?_ ?_ ?_
  ·rintro i ys H' hi' ⟨rfl,rfl⟩
   exact ⟨SqL.of o,by rw [AA,AW];omega⟩
  ·rintro i x ys H' K1 K2 hx ⟨rfl,rfl⟩ k1 k2
   have hil:i < us.length:=(AB.mp hx).1
   obtain ⟨d,ed⟩:∃ d,ds[i]? = some d:=⟨_,AC (by omega)⟩
   obtain ⟨v,ev,iv⟩:=hi.get ed
   rw [hx] at ev
   cases ev
   refine ⟨_,rfl,_,rfl,_,_,rfl,p0,fs,ds0,d,rfl,L,iv,k1 _ _ ⟨rfl,?_⟩⟩
   rw [AX,ed]
   simp
  ·rintro ys H' ⟨rfl,rfl⟩
   intro p1 hp1
   have np:p ≠ p1:=aO o hp1
   refine ⟨p1,ds.map (dW ds0),rfl,SqL.of ?_,_,rfl,?_⟩
   ·rw [aE,AF (by omega),Al]
    rfl
   have e1:(ds.map (dW ds0)).all id = ds.all (dW ds0):=by rw [Dp];rfl
   rw [e1]
   refine oJ (fun h2=>?_) (fun h2=>?_)
   ·rw [h2,BU] at q
    obtain ⟨zs,ez⟩:=oF oT h2
    have l3:zs.length = ds.length:=by have:=congrArg Cs ez;simpa using this.symm
    refine ⟨_,rfl,_,rfl,p,us,ds,zs,rfl,by rw [aI np];exact o,IsL.same (aJ.upd hp1) _ _ hi,ez,by omega,?_⟩
    have e2:decide zs.Nodup = decide (ds.map cD).Nodup:=by rw [ez,BZ,decide_eq_true_iff,decide_eq_true_iff,eE]
    rw [e2]
    exact cO.of (gW.lst hp1) q
   ·have h2':ds.all (dW ds0) = false:=by simpa using h2
    rw [h2'] at q
    exact cO.of (gW.lst hp1) q
 | _=>exact bM (cO.of (.refl _) q)
theorem aIY {H:Hp} {z:Str} {v:Int} {x:V} (h:Is H (.tup [.str z,.int v]) x):∃ t,x = .ref t ∧ H t = some (.tup [.str z,.int v]):=by
 obtain ⟨t,us,rfl,o,v0,r0,rfl,i0,v1,r1,rfl,i1,h0⟩:=h
 cases (show r1 = [] from h0)
 cases (show v0 = _ from i0)
 cases (show v1 = _ from i1)
 exact ⟨t,rfl,o⟩
def sP (p:Addr) (H H':Hp):Prop:=∀ b o,H b = some o → b ≠ p → H' b = some o
theorem sP.then {p:Addr} {H H' H'':Hp} (X:sP p H H') (S:aJ H' H''):sP p H H'':=fun b o e n=>S _ _ (X b o e n)
theorem sP.put {p:Addr} {H H':Hp} {o:HO} (X:sP p H H'):sP p H (upd H' p o):=fun b o' e n=>by rw [aI n];exact X b o' e n
def sp4 (f:V → V → V → V → Hp → VK → Prop):Sp:=fun vs H Q _=>∃ x y z u,vs = [x,y,z,u] ∧ f x y z u H Q
theorem aUP {f:V → V → V → V → Hp → VK → Prop}:∀ vs H Q E,sp4 f vs H Q E → vs.length = 4:=fun vs H Q E ⟨x,y,z,u,e,_⟩=>by rw [e];rfl
open Mt21 Mt46
def aNN (K:AG):Sp:=sp2 fun x y H Q=>∃ k:Int,Scr K H x ∧ y = .int k ∧ 0 ≤ k ∧ ∀ m:Int,0 ≤ m → Q (.int m) H
theorem pA (T:Txt K mg C):Fc P w K mg base 1 "_law_mixed" ["_law_script","_law_k"] (aNN K):=by
 refine T.d_l_mixed.fc oW iL (fun f cdv A outer s H vs Q E hr h=>?_)
 obtain ⟨x,y,rfl,k,⟨a,ns,rfl,hS,hl⟩,rfl,hk,q⟩:=h
 obtain ⟨j,rfl⟩:=BF hk
 refine ⟨_,(@aG _ _ _ _ _ (@aU _ _ (2) _ _ _ _ oW.nd rfl (Or.inl rfl) aF (by rfl) (by trivial)) (@aG _ _ _ _ _ (@fE _ _ _ _ _ _ _ _ (@cC _ _ _ _ _ _ _ _ aCB (pv 1) (@aP _ _ _ _ _ _ _ _ _ (@bA _ (K) rfl) rfl T.n_len bK (@aA _ _ _ _ _ (pv 0) aD (by rfl)) (by decide) (by decide) (by rfl) (by rfl)) (@bX _ _ (by decide) (by decide))) (@aH _ _ _ (@aU _ _ (2) _ _ _ _ oW.nd rfl (Or.inl rfl) (@bE _ _ _ _ _ _ _ (@dU _ (K) rfl) (pv 0) (pv 1) (fun _ _=>rfl)) (by rfl) (by trivial))) cG) (@aH _ _ _ (@aT _ _ _ _ (@aM _ _ _ _ _ _ _ _ dB (@aM _ _ _ _ _ _ _ _ mT (pv 2) aF) (@aM _ _ _ _ _ _ _ _ gR aF aF)))))),?_⟩
 have p24:(0:Int) < 10 ^ (24:Int).toNat:=by decide
 have fin:∀ m:Int,Q (.int (m % 10 ^ (24:Int).toNat)) H:=fun m=>q _ (Ay _ (by decide))
 refine ⟨_,rfl,_,rfl,a,_,rfl,.inl hS,_,_,rfl,rfl,_,rfl,?_⟩
 rw [AA]
 refine oJ (fun h1=>?_) (fun h1=>?_)
 ·have h1':j < ns.length:=by
   have:=of_decide_eq_true h1
   omega
  refine ⟨_,rfl,_,rfl,a,_,_,.int (ns.getD j 0),rfl,rfl,hS,aN ?_,?_⟩
  ·rw [AI,AC h1',Ai,AC h1']
   rfl
  exact ⟨_,rfl,_,_,rfl,rfl,.inr ⟨by decide,by decide⟩,_,_,rfl,rfl,⟨by decide,by decide,by decide⟩,_,_,rfl,rfl,p24,fin _⟩
 ·exact ⟨_,rfl,_,_,rfl,rfl,.inr ⟨by decide,by decide⟩,_,_,rfl,rfl,⟨by decide,by decide,by decide⟩,_,_,rfl,rfl,p24,fin _⟩
def aNO:Sp:=sp1 fun x H Q=>∃ n:Int,x = .int n ∧ ∀ m:Int,hgt m = true → Q (.int m) H
theorem mY (T:Txt K mg C):Fc P w K mg base 1 "_law_height" ["_law_cell"] aNO:=by
 refine T.d_l_height.fc aBS mF (fun f cdv A outer s H vs Q E hr h=>?_)
 obtain ⟨x,rfl,n,rfl,q⟩:=h
 have p6':(10:Int) ^ (6:Int).toNat = 1000000:=by decide
 refine ⟨_,(@aG _ _ _ _ _ (@fE _ _ _ _ _ _ _ _ (@cC _ _ _ _ _ _ _ _ pV (@aM _ _ _ _ _ _ _ _ dB (pv 0) aF) aF (@bX _ _ (by decide) (by decide))) (@aH _ _ _ (@aT _ _ _ _ (@aM _ _ _ _ _ _ _ _ iO (@aM _ _ _ _ _ _ _ _ dB (@aM _ _ _ _ _ _ _ _ bT (pv 0) aF) aF) (@aM _ _ _ _ _ _ _ _ gR aF aF)))) cG) (@aH _ _ _ (@aT _ _ _ _ (@aM _ _ _ _ _ _ _ _ iO (@aM _ _ _ _ _ _ _ _ dB (@aM _ _ _ _ _ _ _ _ bT (pv 0) aF) aF) aF)))),?_⟩
 refine ⟨_,rfl,_,_,rfl,rfl,(qT rfl),rfl,_,rfl,?_⟩
 rw [iX]
 refine oJ (fun h1=>?_) (fun h1=>?_)
 ·refine ⟨_,rfl,_,_,rfl,rfl,⟨by decide,by decide⟩,_,_,rfl,rfl,(qT rfl),_,_,rfl,rfl,⟨by decide,by decide,by decide⟩,_,_,rfl,rfl,q _ ?_⟩
  rw [p6']
  have a0:=Ay (n / 4) (show (2000001:Int) ≠ 0 by decide)
  have a1:=Av (n / 4) (show (0:Int) < 2000001 by decide)
  exact aER (by omega) (by omega)
 ·refine ⟨_,rfl,_,_,rfl,rfl,⟨by decide,by decide⟩,_,_,rfl,rfl,(qT rfl),_,_,rfl,rfl,q _ ?_⟩
  have a0:=Ay (n / 4) (show (7:Int) ≠ 0 by decide)
  have a1:=Av (n / 4) (show (0:Int) < 7 by decide)
  exact aER (by omega) (by omega)
theorem aTG:("abcdefghijklmnopqrstuvwxyz":Str).length = 26:=by decide +kernel
def aQP:Sp:=sp1 fun x H Q=>∃ c:Int,x = .int c ∧ ∀ (zs:List Str) (l:Addr) (H':Hp),Nm zs → aJ H H' → H l = none → H' l = some (.lst (zs.map V.str)) → Q (.ref l) H'
theorem uZ (T:Txt K mg C):Fc P w K mg base 1 "_law_names" ["_law_cell"] aQP:=by
 refine T.d_l_names.fc dY mF (fun f cdv A outer s H vs Q E hr h=>?_)
 obtain ⟨x,rfl,c,rfl,q⟩:=h
 have big:=bO
 have l26:=aTG
 have hss:("abcdefghijklmnopqrstuvwxyz":Str).length ≤ Aq:=by rw [l26];omega
 refine ⟨_,(@aG _ _ _ _ _ (@aU _ _ (1) _ _ _ _ dY.nd rfl (Or.inr rfl) zS (by rfl) (by trivial)) (@aG _ _ _ _ _ (@aU _ _ (2) _ _ _ _ dY.nd rfl (Or.inl rfl) (@aM _ _ _ _ _ _ _ _ fZ aF (@aM _ _ _ _ _ _ _ _ dB (pv 0) aF)) (by rfl) (by trivial)) (@aG _ _ _ _ _ (@aU _ _ (3) _ _ _ _ dY.nd rfl (Or.inl rfl) (@aM _ _ _ _ _ _ _ _ dB (@aM _ _ _ _ _ _ _ _ bT (pv 0) aF) (pv 2)) (by rfl) (by trivial)) (@aG _ _ _ _ _ (@aU _ _ (4) _ _ _ _ dY.nd rfl (Or.inl rfl) (@bE _ _ _ _ _ _ _ (@dU _ (K) rfl) (@cY _ _ _ _ (@aA _ _ _ _ _ aF (@aA _ _ _ _ _ aF (@aA _ _ _ _ _ aF (@aA _ _ _ _ _ aF (@aA _ _ _ _ _ aF (@aA _ _ _ _ _ aF (@aA _ _ _ _ _ aF (@aA _ _ _ _ _ aF (@aA _ _ _ _ _ aF (@aA _ _ _ _ _ aF (@aA _ _ _ _ _ aF (@aA _ _ _ _ _ aF aD (by rfl)) (by rfl)) (by rfl)) (by rfl)) (by rfl)) (by rfl)) (by rfl)) (by rfl)) (by rfl)) (by rfl)) (by rfl)) (by rfl))) (@aM _ _ _ _ _ _ _ _ dB (@aM _ _ _ _ _ _ _ _ bT (pv 0) aF) aF) (fun _ _=>rfl)) (by rfl) (by trivial)) (@aG _ _ _ _ _ (@aU _ _ (5) _ _ _ _ dY.nd rfl (Or.inl rfl) (@kX _ _ _ _ _ _ _ _ _ _ _ _ PySem.F.plainAttrs_str PySem.F.slot_str_join PySem.F.type_str_join aOO zS (@aA _ _ _ _ _ (@bS _ _ _ _ _ _ _ _ _ _ _ ["_law_j","_law_cell","_law_letters"] 1 [0,1] rfl (@gZ _ _ _ _ _ _ rfl T.n_range (@aA _ _ _ _ _ (pv 2) aD (by rfl)) (by rfl)) (fun R=>@aW _ _ (0) _ (show Au (["_law_j","_law_cell","_law_letters"]:List Str) by decide +kernel) rfl (Or.inl rfl) (by trivial)) (@aY _ _ (by decide)) (fun R=>bW) (fun R=>(@bE _ _ _ _ _ _ _ aLO (pv 2) (@aM _ _ _ _ _ _ _ _ dB (@aM _ _ _ _ _ _ _ _ fZ (@aM _ _ _ _ _ _ _ _ bT (pv 1) aF) (@aM _ _ _ _ _ _ _ _ mT (pv 0) (pv 0))) aF) (fun _ _=>rfl))) (by rfl) (by rfl) (by rfl) (by rfl) (by rfl) (by rfl) (by rfl) (by intro _;rfl)) aD (by rfl)) (by rfl) (by rfl) (by rfl) (by rfl) (by rfl)) (by rfl) (by trivial)) (@aG _ _ _ _ _ (@aU _ _ (6) _ _ _ _ dY.nd rfl (Or.inl rfl) (@cY _ _ _ _ aD) (by rfl) (by trivial)) (@aG _ _ _ _ _ (@fG _ _ _ _ _ _ _ _ BC rfl (@gZ _ _ _ _ _ _ rfl T.n_range (@aA _ _ _ _ _ aF aD (by rfl)) (by rfl)) (@aW _ _ (7) _ dY.nd rfl (Or.inl rfl) (by trivial)) (@aG _ _ _ _ _ (@aU _ _ (8) _ _ _ _ dY.nd rfl (Or.inl rfl) (@bE _ _ _ _ _ _ _ aLO (pv 1) (@aM _ _ _ _ _ _ _ _ dB (@aM _ _ _ _ _ _ _ _ fZ (@aM _ _ _ _ _ _ _ _ mT (pv 7) (pv 4)) (@aM _ _ _ _ _ _ _ _ bT (pv 0) aF)) aF) (fun _ _=>rfl)) (by rfl) (by trivial)) (@aH _ _ _ (@fD _ _ _ _ (@kX _ _ _ _ _ _ _ _ _ _ _ _ BI BR BQ eM (pv 6) (@aA _ _ _ _ _ (@aM _ _ _ _ _ _ _ _ uS (@aM _ _ _ _ _ _ _ _ uS (@uN _ _ _ _ _ _ _ _ _ _ aKB (pv 5) zP (@zO _ _ _ (pv 3))) (pv 8)) (@uN _ _ _ _ _ _ _ _ _ _ aKB (pv 5) (@zO _ _ _ (@aM _ _ _ _ _ _ _ _ fZ (pv 3) aF)) zP)) aD (by rfl)) (by rfl) (by rfl) (by rfl) (by rfl) (by rfl)) (by rfl)))) (by intro _;rfl)) (@aH _ _ _ (@aT _ _ _ _ (@bS _ _ _ _ _ _ _ _ _ _ _ ["_law_name"] 1 [] rfl (@bJ _ _ _ _ (pv 6)) (fun R=>@aW _ _ (0) _ (show Au (["_law_name"]:List Str) by decide +kernel) rfl (Or.inl rfl) (by trivial)) (@aY _ _ (by decide)) (fun R=>@eX _ _ _ (@cC _ _ _ _ _ _ _ _ sH (pv 0) zS (@bX _ _ (by decide) (by decide)))) (fun R=>(pv 0)) (by rfl) (by rfl) (by rfl) (by rfl) (by rfl) (by rfl) (by rfl) (by intro _;rfl))))))))))),?_⟩
 have z0:0 ≤ c % 8:=Ay _ (by decide)
 have z1:c % 8 < 8:=Av _ (by decide)
 obtain ⟨sz,hsz⟩:=BF (show 0 ≤ 1 + c % 8 by omega)
 refine ⟨_,rfl,_,_,rfl,rfl,(qT rfl),_,_,rfl,rfl,?_⟩
 dsimp only
 rw [hsz]
 have szp:(0:Int) < (sz:Int):=by omega
 refine ⟨_,rfl,_,_,rfl,rfl,⟨by decide,by decide⟩,_,rfl,_,_,rfl,rfl,szp,?_⟩
 have a0:0 ≤ c / 8 % (sz:Int):=Ay _ (by omega)
 have a1:c / 8 % (sz:Int) < (sz:Int):=Av _ (by omega)
 obtain ⟨at',hat⟩:=BF a0
 dsimp only
 rw [hat]
 refine ⟨aX rfl,fun pb hpb=>?_⟩
 have S0:=aJ.upd (o:=.lst [.int 1,.int 3,.int 5,.int 7,.int 9,.int 11,.int 15,.int 17,.int 19,.int 21,.int 23,.int 25]) hpb
 obtain ⟨u,mu,eu⟩:=aUY (i:=c / 64 % 12) (Ay _ (by decide)) (Av _ (by decide))
 refine ⟨_,rfl,_,_,rfl,rfl,⟨by decide,by decide⟩,_,_,rfl,rfl,(qT rfl),pb,_,_,.int u,rfl,rfl,SqL.of aE,eu,?_⟩
 generalize upd H pb (.lst [.int 1,.int 3,.int 5,.int 7,.int 9,.int 11,.int 15,.int 17,.int 19,.int 21,.int 23,.int 25]) = H0 at S0
 refine ⟨rfl,_,rfl,_,rfl,by omega,by omega,?_⟩
 refine aFF (lo:=0) (n:=sz) (by omega) (fun i ys H'=>H0 = H' ∧ ys = ((An i).map fun (j:Nat)=>uT (c / 768 + (j:Int) * (j:Int))).map V.str) ⟨rfl,rfl⟩ ?_ ?_ ?_
 ·rintro i ys H' ⟨rfl,rfl⟩
  simp
 ·rintro i ys H' K1 K2 hi ⟨rfl,rfl⟩ k1 k2
  refine ⟨_,rfl,_,rfl,_,_,rfl,rfl,⟨by decide,by decide⟩,_,rfl,_,rfl,_,_,rfl,rfl,.inl ⟨by omega,by omega⟩,_,_,rfl,rfl,_,_,rfl,rfl,(qT rfl),_,_,ab (c / 768 + (0 + (i:Int)) * (0 + (i:Int))),rfl,rfl,hss,aQD _,k1 _ _ ⟨rfl,?_⟩⟩
  rw [Du,AT,AT]
  show _ ++ [V.str (uT _)] = _ ++ [V.str (uT _)]
  rw [DU]
 rintro ys H' ⟨rfl,rfl⟩
 intro p1 hp1
 have S1:=aJ.upd (o:=.lst (((An sz).map fun (j:Nat)=>uT (c / 768 + (j:Int) * (j:Int))).map V.str)) hp1
 have lsum:((((An sz).map fun (j:Nat)=>uT (c / 768 + (j:Int) * (j:Int)))).map fun y=>y.length).sum = sz:=by
  rw [Al]
  show ((An sz).map fun _=>1).sum = sz
  have e:∀ m:Nat,((An m).map fun _=>1).sum = m:=fun m=>by
   induction m with
   | zero=>rfl
   | succ m ih=>rw [Du,AT,List.sum_append,ih];rfl
  exact e sz
 refine ⟨"",p1,(An sz).map fun (j:Nat)=>uT (c / 768 + (j:Int) * (j:Int)),rfl,rfl,SqL.of aE,by rw [lsum,AA,CN,show ("":Str).length = 0 by decide +kernel];omega,?_⟩
 generalize hb:Txt.join "" ((An sz).map fun (j:Nat)=>uT (c / 768 + (j:Int) * (j:Int))) = b
 have bc:b.cps.toList = (An sz).map fun (j:Nat)=>ab (c / 768 + (j:Int) * (j:Int)):=by
  rw [← hb,aEO,Al]
  show (((An sz).map fun j=>[ab _]).flatten) = _
  induction (An sz) with
  | nil=>rfl
  | cons x r ih=>rw [AY,List.flatten_cons,ih,AY];rfl
 have bl:b.length = sz:=by rw [iZ,bc,AA,CN]
 have ball:b.cps.toList.all jP = true:=by
  rw [bc,BB]
  intro x hx
  obtain ⟨j,_,rfl⟩:=AS.mp hx
  exact yY _
 have bs:b.length ≤ Aq:=by omega
 refine ⟨aX rfl,fun l hl=>?_⟩
 have S2:=aJ.upd (o:=.lst []) hl
 have hl0:=S1.free hl
 have ub:1 ≤ u ∧ u ≤ 25:=(show ∀ u ∈ units,1 ≤ u ∧ u ≤ 25 by decide +kernel) u mu
 refine ⟨_,rfl,by omega,by omega,?_⟩
 refine hJ (lo:=0) (n:=26) (fun i σ H'=>∃ (v7 v8:Option V) (g:Nat → Str),σ = [some (.int c),some (.str "abcdefghijklmnopqrstuvwxyz"),some (.int sz),some (.int at'),some (.int u),some (.str b),some (.ref l),v7,v8] ∧ aJ H0 H' ∧ H' l = some (.lst (((An i).map g).map V.str)) ∧ ∀ k,k < i → (g k).cps.toList = b.cps.toList.take at' ++ [ab ((k:Int) * u + c / 19968)] ++ b.cps.toList.drop (at' + 1))
  ⟨_,_,fun _=>"",rfl,S1.trans S2,aE,(fun k hk=>absurd hk (by omega))⟩ ?_ ?_
 ·rintro i σ H3 hi ⟨v7,v8,g,rfl,S3,hl3,pu⟩
  have ku:0 ≤ (0 + (i:Int)) * u:=Int.mul_nonneg (by omega) (by omega)
  refine ⟨_,rfl,_,rfl,_,rfl,_,_,rfl,rfl,.inl ⟨by omega,by omega⟩,_,rfl,_,_,rfl,rfl,⟨by decide,by decide⟩,_,_,rfl,rfl,_,_,rfl,rfl,(qT rfl),_,_,ab ((0 + (i:Int)) * u + c / 19968),rfl,rfl,hss,aQD _,?_⟩
  have tl:(Cg b none (some (at':Int))).length ≤ 8:=by
   rw [iZ,tW b at' (by omega),AW]
   omega
  have dl:(Cg b (some ((at':Int) + 1)) none).length ≤ 8:=by
   rw [show ((at':Int) + 1) = ((at' + 1:Nat):Int) from rfl,iZ,vU b (at' + 1) (by omega),CT,← iZ]
   omega
  have ia:(uT ((0 + (i:Int)) * u + c / 19968)).length = 1:=rfl
  have sh1:(uT ((0 + (i:Int)) * u + c / 19968)).cps.toList = [ab ((0 + (i:Int)) * u + c / 19968)]:=rfl
  refine ⟨_,rfl,.inl ⟨rfl,_,SqL.of hl3⟩,_,rfl,_,rfl,_,rfl,b,rfl,bs,_,rfl,_,_,rfl,rfl,?_,_,rfl,_,rfl,_,_,rfl,rfl,_,rfl,b,rfl,bs,_,_,rfl,rfl,?_,l,_,_,rfl,rfl,hl3,by rw [AA,AA,CN];omega,?_⟩
  ·refine BG (Ev tl (Dt ia)) (by omega)
  ·rw [Tx.app_len]
   refine BG (Ev (Ev tl (Dt ia)) dl) (by omega)
  ·refine ⟨_,_,fun k=>if k = i then Cg b none (some (at':Int)) ++ uT ((0 + (i:Int)) * u + c / 19968) ++ Cg b (some ((at':Int) + 1)) none else g k,rfl,S3.over ?_,?_,fun k hk=>?_⟩
   ·exact hl0
   ·rw [aE,Du,AT,AT]
    have e1:(An i).map (fun k=>if k = i then Cg b none (some (at':Int)) ++ uT ((0 + (i:Int)) * u + c / 19968) ++ Cg b (some ((at':Int) + 1)) none else g k) = (An i).map g:=Bb fun k m=>by
     rw [if_neg (by have:=BH.mp m;omega)]
    rw [e1]
    show _ = some (HO.lst (_ ++ [V.str (if i = i then _ else _)]))
    rw [if_pos rfl]
    rfl
   ·by_cases hki:k = i
    ·subst hki
     dsimp only
     rw [if_pos rfl]
     rw [Tx.app_codes,Tx.app_codes,tW b at' (by omega),show ((at':Int) + 1) = ((at' + 1:Nat):Int) from rfl,vU b (at' + 1) (by omega),sh1,DU]
    ·dsimp only
     rw [if_neg hki]
     exact pu k (by omega)
 ·rintro σ H3 ⟨v7,v8,g,rfl,S3,hl3,pu⟩
  have NM:=aTD (g:=g) (r:=c / 19968) ball bl (by omega) (by omega) (by omega) mu pu
  refine ⟨_,rfl,l,rfl,⟨_,SqL.of hl3⟩,?_⟩
  generalize hzs:(An 26).map g = zs at *
  have lz:zs.length = 26:=by rw [← hzs,AA,CN]
  refine bG (F:=K) (xs:=zs.map V.str) (by rw [AA];omega) (fun i ys H'=>H3 = H' ∧ ys = ((zs.take i).filter fun z=>!decide (z = ("sea":Str))).map V.str ∧ ys.length ≤ i) ⟨rfl,rfl,AN _⟩ ?_ ?_ ?_
  ·rintro i ys H' hi' ⟨rfl,rfl,hy⟩
   exact ⟨SqL.of hl3,hy⟩
  ·rintro i xv ys H' K1 K2 hx ⟨rfl,rfl,hy⟩ k1 k2
   obtain ⟨z,ez⟩:∃ z,zs[i]? = some z:=by
    have:=(AB.mp hx).1
    rw [AA] at this
    exact ⟨_,AC this⟩
   rw [AI,ez] at hx
   cases hx
   refine ⟨_,rfl,rfl,_,rfl,?_⟩
   show if (!decide (V.str z = V.str "sea")) = true then _ else _
   rw [lU]
   have et:((zs.take (i + 1)).filter fun z=>!decide (z = ("sea":Str))) = ((zs.take i).filter fun z=>!decide (z = ("sea":Str))) ++ (if (!decide (z = ("sea":Str))) = true then [z] else []):=by
    rw [AX,ez,CG]
    cases hb:(!decide (z = ("sea":Str))) <;> simp_all
   cases hb:(!decide (z = ("sea":Str))) with
   | true =>
    rw [hb] at et
    refine cW ⟨_,rfl,k1 _ _ ⟨rfl,?_,by rw [Ae,Br];omega⟩⟩
    rw [et,AT]
    rfl
   | false =>
    rw [hb] at et
    refine bM (k2 _ ⟨rfl,?_,by omega⟩)
    rw [et]
    simp
  rintro ys H' ⟨rfl,rfl,hy⟩
  rw [AA,AF (AN _)]
  intro l2 hl2
  exact q _ l2 _ NM (S0.trans (S3.trans (aJ.upd hl2))) (S0.free (S3.free hl2)) aE
theorem aGP {i:Int} (h:hgt i = true):-1000000 ≤ i ∧ i ≤ 1000000:=by
 unfold hgt at h
 rw [Ac,decide_eq_true_iff,decide_eq_true_iff] at h
 exact h
theorem fV:∀ {ds:List Dv},(∀ d ∈ ds,wY d = true) → yD ds = true
 | [],_=>rfl
 | d :: ds,h=>by
  rw [yD,h d AU,fV fun e m=>h e (AQ _ m)]
  rfl
def aPS (K:AG):Sp:=sp2 fun x y H Q=>∃ n:Nat,Scr K H x ∧ y = .int n ∧ 1 ≤ n ∧ n ≤ 12 ∧ ∀ (l:Addr) (vs:List V) (fs:List Dv) (H':Hp),aJ H H' → H l = none → H' l = some (.lst vs) → IsL H' fs vs → Fds fs n → Q (.ref l) H'
theorem aCI (T:Txt K mg C):Fc P w K mg base 2 "_law_fields" ["_law_script","_law_most"] (aPS K):=by
 have G_l_names:Fc P w K mg base 1 "_law_names" ["_law_cell"] aQP:=uZ T
 have G_l_mixed:Fc P w K mg base 1 "_law_mixed" ["_law_script","_law_k"] (aNN K):=pA T
 have G_l_height:Fc P w K mg base 1 "_law_height" ["_law_cell"] aNO:=mY T
 refine T.d_l_fields.fc gC iL (fun f cdv A outer s H vs Q E hr h=>?_)
 obtain ⟨x,y,rfl,n,⟨a,ns,rfl,hS,hns⟩,rfl,n1,n12,q⟩:=h
 have scr:Scr K H (.ref a):=⟨a,ns,rfl,hS,hns⟩
 have big:=bO
 refine ⟨_,(@aG _ _ _ _ _ (@aU _ _ (2) _ _ _ _ gC.nd rfl (Or.inl rfl) (@bH _ _ _ _ _ _ _ _ _ _ G_l_names (hr.mono (by decide)) (@aA _ _ _ _ _ (@bH _ _ _ _ _ _ _ _ _ _ G_l_mixed (hr.mono (by decide)) (@aA _ _ _ _ _ (pv 0) (@aA _ _ _ _ _ aF aD (by rfl)) (by rfl)) (by rfl) (by decide) (by rfl) (by rfl)) aD (by rfl)) (by rfl) (by decide) (by rfl) (by rfl)) (by rfl) (by trivial)) (@aG _ _ _ _ _ (@aU _ _ (3) _ _ _ _ gC.nd rfl (Or.inl rfl) (@cY _ _ _ _ aD) (by rfl) (by trivial)) (@aG _ _ _ _ _ (@fG _ _ _ _ _ _ _ _ BC rfl (@gZ _ _ _ _ _ _ rfl T.n_range (@aA _ _ _ _ _ (@aM _ _ _ _ _ _ _ _ fZ aF (@aM _ _ _ _ _ _ _ _ dB (@bH _ _ _ _ _ _ _ _ _ _ G_l_mixed (hr.mono (by decide)) (@aA _ _ _ _ _ (pv 0) (@aA _ _ _ _ _ aF aD (by rfl)) (by rfl)) (by rfl) (by decide) (by rfl) (by rfl)) (pv 1))) aD (by rfl)) (by rfl)) (@aW _ _ (4) _ gC.nd rfl (Or.inl rfl) (by trivial)) (@aG _ _ _ _ _ (@aU _ _ (5) _ _ _ _ gC.nd rfl (Or.inl rfl) (@bH _ _ _ _ _ _ _ _ _ _ G_l_mixed (hr.mono (by decide)) (@aA _ _ _ _ _ (pv 0) (@aA _ _ _ _ _ (@aM _ _ _ _ _ _ _ _ fZ aF (pv 4)) aD (by rfl)) (by rfl)) (by rfl) (by decide) (by rfl) (by rfl)) (by rfl) (by trivial)) (@aG _ _ _ _ _ (@aU _ _ (6) _ _ _ _ gC.nd rfl (Or.inl rfl) (@bE _ _ _ _ _ _ _ (@dU _ (K) rfl) (@cY _ _ _ _ (@aA _ _ _ _ _ aF (@aA _ _ _ _ _ aF (@aA _ _ _ _ _ (@aM _ _ _ _ _ _ _ _ fZ aF (@aM _ _ _ _ _ _ _ _ dB (@aM _ _ _ _ _ _ _ _ bT (pv 5) aF) aF)) (@aA _ _ _ _ _ (@aM _ _ _ _ _ _ _ _ dB (@aM _ _ _ _ _ _ _ _ bT (pv 5) aF) (@aM _ _ _ _ _ _ _ _ fZ (@aM _ _ _ _ _ _ _ _ gR aF aF) aF)) aD (by rfl)) (by rfl)) (by rfl)) (by rfl))) (@aM _ _ _ _ _ _ _ _ dB (pv 5) aF) (fun _ _=>rfl)) (by rfl) (by trivial)) (@aH _ _ _ (@fD _ _ _ _ (@kX _ _ _ _ _ _ _ _ _ _ _ _ BI BR BQ eM (pv 3) (@aA _ _ _ _ _ (@dZ _ _ _ _ _ (@aA _ _ _ _ _ (@bE _ _ _ _ _ _ _ (@dU _ (K) rfl) (pv 2) (pv 4) (fun _ _=>rfl)) (@aA _ _ _ _ _ (@bH _ _ _ _ _ _ _ _ _ _ G_l_height (hr.mono (by decide)) (@aA _ _ _ _ _ (@aM _ _ _ _ _ _ _ _ bT (pv 5) (@aM _ _ _ _ _ _ _ _ gR aF aF)) aD (by rfl)) (by rfl) (by decide) (by rfl) (by rfl)) (@aA _ _ _ _ _ (pv 6) aD (by rfl)) (by rfl)) (by rfl))) aD (by rfl)) (by rfl) (by rfl) (by rfl) (by rfl) (by rfl)) (by rfl))))) (by intro _;rfl)) (@aH _ _ _ (@aT _ _ _ _ (pv 3)))))),?_⟩
 refine ⟨_,rfl,_,_,rfl,0,scr,rfl,by decide,fun m0 hm0=>?_⟩
 refine ⟨_,rfl,m0,rfl,fun zs ln H1 NM S1 nln hln=>?_⟩
 refine ⟨aX rfl,fun l hl=>?_⟩
 have S2:=aJ.upd (o:=.lst []) hl
 have nl:H l = none:=S1.free hl
 have hl2:upd H1 l (.lst []) l = some (.lst []):=aE
 have T2:=S1.trans S2
 have hln2:=S2 _ _ hln
 have nll:ln ≠ l:=fun z=>by rw [z,hl2] at hln2;have:=(HO.lst.inj (Ax hln2));have h1:=NM.l1;rw [← AA (f:=V.str),← this] at h1;exact absurd h1 (by decide)
 generalize upd H1 l (.lst []) = H2 at T2 hl2 hln2
 refine ⟨_,rfl,_,_,rfl,1,scr.same T2,rfl,by decide,fun m1 hm1=>?_⟩
 have np:(0:Int) < (n:Int):=by omega
 have r0:0 ≤ m1 % (n:Int):=Ay _ (by omega)
 have r1:m1 % (n:Int) < (n:Int):=Av _ np
 obtain ⟨cnt,hcnt⟩:=BF (show 0 ≤ 1 + m1 % (n:Int) by omega)
 refine ⟨_,rfl,_,_,rfl,rfl,np,_,_,rfl,rfl,_,rfl,by show -(2 ^ 62) ≤ 1 + m1 % (n:Int);omega,by show 1 + m1 % (n:Int) < 2 ^ 62;omega,?_⟩
 rw [show (1 + m1 % (n:Int)).toNat = cnt by omega]
 have nz:=NM.l1
 refine hJ (lo:=0) (n:=cnt) (fun i σ H'=>∃ (v4 v5 v6:Option V) (vs:List V) (es:List Dv),σ = [some (.ref a),some (.int n),some (.ref ln),some (.ref l),v4,v5,v6] ∧ sP l H2 H' ∧ H' l = some (.lst vs) ∧ IsL H' es vs ∧ es.map aZ = zs.take i ∧ es.length = i ∧ ∀ d ∈ es,cB d = true) ⟨_,_,_,[],[],rfl,(fun b o e _=>e),hl2,rfl,rfl,rfl,fun d m=>by cases m⟩ ?_ ?_
 ·rintro i σ H' hi ⟨v4,v5,v6,ys,es,rfl,X,hly,iy,en,le,all⟩
  have SH:aJ H H':=fun b o e=>X _ _ (T2 _ _ e) (fun z=>by rw [z,nl] at e;cases e)
  have ly:=iy.length
  obtain ⟨z,ez⟩:∃ z,zs[i]? = some z:=⟨_,AC (by omega)⟩
  have zi:(0:Int) + (i:Int) = (i:Int):=DU _
  refine ⟨_,rfl,_,rfl,_,_,rfl,rfl,_,_,rfl,_,scr.same SH,rfl,by show 0 ≤ 2 + (0 + (i:Int));omega,fun mc hmc=>?_⟩
  have p6':(10:Int) ^ (6:Int).toNat = 1000000:=by decide
  have pm6:(0:Int) < 10 ^ (6:Int).toNat + 1:=by decide
  refine ⟨_,rfl,_,_,rfl,rfl,⟨by decide,by decide⟩,_,_,rfl,rfl,(qT rfl),_,_,rfl,rfl,_,rfl,_,_,rfl,rfl,⟨by decide,by decide⟩,_,_,rfl,rfl,⟨by decide,by decide,by decide⟩,_,_,rfl,rfl,_,_,rfl,rfl,pm6,aX rfl,fun p1 hp1=>?_⟩
  have A1:=aJ.upd (o:=.lst [.int 0,.int 1,.int (1 + mc / 16 % 5),.int (mc / 16 % (10 ^ (6:Int).toNat + 1))]) hp1
  obtain ⟨du,edu,hdu⟩:=at4 (a:=0) (b:=1) (c:=1 + mc / 16 % 5) (d:=mc / 16 % (10 ^ (6:Int).toNat + 1)) (i:=mc % 4) (Ay _ (by decide)) (Av _ (by decide))
  have du01:0 ≤ du ∧ du ≤ 1000000:=by
   have b0:=Ay (mc / 16) (show (5:Int) ≠ 0 by decide)
   have b1:=Av (mc / 16) (show (0:Int) < 5 by decide)
   rw [p6'] at hdu
   have c0:=Ay (mc / 16) (show (1000000 + 1:Int) ≠ 0 by decide)
   have c1:=Av (mc / 16) (show (0:Int) < 1000000 + 1 by decide)
   rcases hdu with rfl | rfl | rfl | rfl <;> omega
  refine ⟨_,rfl,_,_,rfl,rfl,(qT rfl),p1,_,_,.int du,rfl,rfl,SqL.of aE,edu,?_⟩
  generalize upd H' p1 (.lst [.int 0,.int 1,.int (1 + mc / 16 % 5),.int (mc / 16 % (10 ^ (6:Int).toNat + 1))]) = H4 at A1 ⊢
  refine ⟨_,rfl,.inl ⟨rfl,_,SqL.of (A1 _ _ hly)⟩,?_⟩
  refine ⟨_,rfl,_,rfl,ln,_,_,.str z,rfl,rfl,SqL.of (A1 _ _ (X _ _ hln2 nll)),(by rw [zi];exact aN (by rw [AI,ez];rfl)),?_⟩
  refine ⟨_,rfl,_,_,rfl,rfl,⟨by decide,by decide,by decide⟩,_,_,rfl,rfl,⟨by decide,by decide⟩,_,rfl,_,rfl,fun g hg=>?_⟩
  refine ⟨_,rfl,aX rfl,fun t ht=>?_⟩
  have A2:=aJ.upd (o:=.tup [.str z,.int g,.int du]) ht
  have A:=A1.trans A2
  have hl5:=A _ _ hly
  refine ⟨l,_,_,rfl,rfl,hl5,by omega,?_⟩
  have nmz:=NM.nm z (AM ez)
  have ntl:t ≠ l:=fun e=>by rw [e,A1 _ _ hly] at ht;cases ht
  have kp:iN H' (upd (upd H4 t (.tup [.str z,.int g,.int du])) l (.lst (ys ++ [.ref t]))):=fun b xs e=>by
   rw [aI (fun z=>by rw [z,hly] at e;cases e)]
   exact A _ _ e
  have hh:=aGP hg
  refine ⟨_,_,_,ys ++ [.ref t],es ++ [.tup [.str z,.int g,.int du]],rfl,(X.then A).put,aE,IsL.snoc ?_ (IsL.keep kp _ _ (fV fun d m=>aEW (all d m)) iy),?_,by rw [Ae,le];rfl,?_⟩
  ·exact ⟨t,_,rfl,by rw [aI ntl,aE],_,_,rfl,rfl,_,_,rfl,rfl,_,_,rfl,rfl,rfl⟩
  ·rw [AT,en,AX,ez]
   rfl
  ·intro d md
   rcases Ar.mp md with md | md
   ·exact all d md
   ·rw [AV.mp md]
    exact aMF nmz hh.1 hh.2 du01.1 du01.2
 ·rintro σ H' ⟨v4,v5,v6,ys,es,rfl,X,hly,iy,en,le,all⟩
  have SH:aJ H H':=fun b o e=>X _ _ (T2 _ _ e) (fun z=>by rw [z,nl] at e;cases e)
  refine ⟨_,rfl,q l ys es H' SH nl hly iy ⟨by omega,by omega,all,?_⟩⟩
  rw [en]
  exact NM.nd.sublist (Da _ _)
open Mt21 Mt46
theorem xN {c:TT} {a b u:TS} {D:Ends} {σ:L2.St} {H:Hp} (R:L2.St → Hp → Prop) (h:∀ σ' H',R σ' H' → u D σ' H') (k:∀ D':Ends,(∀ σ' H',R σ' H' → D'.nx σ' H') → aQK c a b D' σ H):tY (aQK c a b) u D σ H:=k { D with nx:=u D } h
theorem aUS {b:Bool} {A B X:Prop} (hA:A) (hX:A → b = false → X):if b = true then (if true = true then A else B) else X:=by
 cases b with
 | true=>rw [if_pos rfl,if_pos rfl];exact hA
 | false=>rw [if_neg (by intro z;cases z)];exact hX hA rfl
def aPU (K:AG):Sp:=sp4 fun x y z u H Q=>∃ (ia im:Nat) (lf:Addr) (vf:List V) (fs:List Dv) (nf:Nat),Scr K H x ∧ y = .int ia ∧ ia ≤ 63 ∧ z = .int im ∧ 1 ≤ im ∧ im ≤ 20 ∧ u = .ref lf ∧ H lf = some (.lst vf) ∧ IsL H fs vf ∧ Fds fs nf ∧ nf ≤ 12 ∧
 ∀ (l:Addr) (us:List V) (ds:List Dv) (H':Hp),aJ H H' → H l = none → H' l = some (.lst us) → IsL H' ds us → Dks ("sea" :: fs.map aZ) ds im → Q (.ref l) H'
theorem aEJ (T:Txt K mg C):Fc P w K mg base 2 "_law_dykes" ["_law_script","_law_at","_law_most","_law_fields_here"] (aPU K):=by
 have G_l_names:Fc P w K mg base 1 "_law_names" ["_law_cell"] aQP:=uZ T
 have G_l_mixed:Fc P w K mg base 1 "_law_mixed" ["_law_script","_law_k"] (aNN K):=pA T
 have G_l_height:Fc P w K mg base 1 "_law_height" ["_law_cell"] aNO:=mY T
 refine T.d_l_dykes.fc cJ aUP (fun f cdv A outer s H vs Q E hr h=>?_)
 obtain ⟨x,y,z,u,rfl,ia,im,lf,vf,fs,nf,⟨a,ns,rfl,hS,hns⟩,rfl,ia63,rfl,im1,im20,rfl,hlf,iff,gf,nf12,q⟩:=h
 have scr:Scr K H (.ref a):=⟨a,ns,rfl,hS,hns⟩
 have big:=bO
 have lvf:=iff.length
 have f1:=gf.l1
 have f2:=gf.l2
 have snd:=aKD gf
 refine ⟨_,(@aG _ _ _ _ _ (@aU _ _ (4) _ _ _ _ cJ.nd rfl (Or.inl rfl) (@bH _ _ _ _ _ _ _ _ _ _ G_l_names (hr.mono (by decide)) (@aA _ _ _ _ _ (@aM _ _ _ _ _ _ _ _ bT (@bH _ _ _ _ _ _ _ _ _ _ G_l_mixed (hr.mono (by decide)) (@aA _ _ _ _ _ (pv 0) (@aA _ _ _ _ _ aF aD (by rfl)) (by rfl)) (by rfl) (by decide) (by rfl) (by rfl)) (@aM _ _ _ _ _ _ _ _ gR aF aF)) aD (by rfl)) (by rfl) (by decide) (by rfl) (by rfl)) (by rfl) (by trivial)) (@aG _ _ _ _ _ (@aU _ _ (5) _ _ _ _ cJ.nd rfl (Or.inl rfl) (@aM _ _ _ _ _ _ _ _ uR (@cY _ _ _ _ (@aA _ _ _ _ _ zS aD (by rfl))) (@bS _ _ _ _ _ _ _ _ _ _ _ ["_law_field"] 1 [] rfl (@bJ _ _ _ _ (pv 3)) (fun R=>@aW _ _ (0) _ (show Au (["_law_field"]:List Str) by decide +kernel) rfl (Or.inl rfl) (by trivial)) (@aY _ _ (by decide)) (fun R=>bW) (fun R=>(@bE _ _ _ _ _ _ _ (@aV _ (K) rfl) (pv 0) aF (fun _ _=>rfl))) (by rfl) (by rfl) (by rfl) (by rfl) (by rfl) (by rfl) (by rfl) (by intro _;rfl))) (by rfl) (by trivial)) (@aG _ _ _ _ _ (@aU _ _ (6) _ _ _ _ cJ.nd rfl (Or.inl rfl) (@cY _ _ _ _ aD) (by rfl) (by trivial)) (@aG _ _ _ _ _ (@fG _ _ _ _ _ _ _ _ BC rfl (@gZ _ _ _ _ _ _ rfl T.n_range (@aA _ _ _ _ _ (@aP _ _ _ _ _ _ _ _ _ (@aIT _ rfl) rfl T.n_max aIV (@aA _ _ _ _ _ aF (@aA _ _ _ _ _ (@aP _ _ _ _ _ _ _ _ _ (@yO _ rfl) rfl T.n_min rT (@aA _ _ _ _ _ (pv 2) (@aA _ _ _ _ _ (@aM _ _ _ _ _ _ _ _ iO (@aP _ _ _ _ _ _ _ _ _ (@bA _ (K) rfl) rfl T.n_len bK (@aA _ _ _ _ _ (pv 0) aD (by rfl)) (by decide) (by decide) (by rfl) (by rfl)) (pv 1)) aD (by rfl)) (by rfl)) (by decide) (by decide) (by rfl) (by rfl)) aD (by rfl)) (by rfl)) (by decide) (by decide) (by rfl) (by rfl)) aD (by rfl)) (by rfl)) (@aW _ _ (7) _ cJ.nd rfl (Or.inl rfl) (by trivial)) (@aG _ _ _ _ _ (@aU _ _ (8) _ _ _ _ cJ.nd rfl (Or.inl rfl) (@bH _ _ _ _ _ _ _ _ _ _ G_l_mixed (hr.mono (by decide)) (@aA _ _ _ _ _ (pv 0) (@aA _ _ _ _ _ (@aM _ _ _ _ _ _ _ _ fZ (pv 1) (pv 7)) aD (by rfl)) (by rfl)) (by rfl) (by decide) (by rfl) (by rfl)) (by rfl) (by trivial)) (@aG _ _ _ _ _ (@aU _ _ (9) _ _ _ _ cJ.nd rfl (Or.inr rfl) (@bE _ _ _ _ _ _ _ (@dU _ (K) rfl) (pv 5) (@aM _ _ _ _ _ _ _ _ dB (pv 8) (@aP _ _ _ _ _ _ _ _ _ (@bA _ (K) rfl) rfl T.n_len bK (@aA _ _ _ _ _ (pv 5) aD (by rfl)) (by decide) (by decide) (by rfl) (by rfl))) (fun _ _=>rfl)) (by rfl) (by trivial)) (@aG _ _ _ _ _ (@jM _ (10) _ _ _ _ _ _ _ _ _ _ _ _ _ cJ.nd rfl ["_law_side","_law_one"] 1 [9] rfl (@bJ _ _ _ _ (pv 5)) (fun R=>@aW _ _ (0) _ (show Au (["_law_side","_law_one"]:List Str) by decide +kernel) rfl (Or.inl rfl) (by trivial)) (@aY _ _ (by decide)) (fun R=>@eX _ _ _ (@cC _ _ _ _ _ _ _ _ sH (pv 0) (pv 1) (@bX _ _ (by decide) (by decide)))) (fun R=>(pv 0)) (by exact Or.inl rfl) (by trivial) (by rfl) (by rfl) (by rfl) (by rfl) (by rfl) (by rfl) (by rfl) (by rfl) (by intro _;rfl)) (@aG _ _ _ _ _ (@aU _ _ (11) _ _ _ _ cJ.nd rfl (Or.inl rfl) (@bE _ _ _ _ _ _ _ (@dU _ (K) rfl) (pv 10) (@aM _ _ _ _ _ _ _ _ dB (@aM _ _ _ _ _ _ _ _ bT (pv 8) aF) (@aP _ _ _ _ _ _ _ _ _ (@bA _ (K) rfl) rfl T.n_len bK (@aA _ _ _ _ _ (pv 10) aD (by rfl)) (by decide) (by decide) (by rfl) (by rfl))) (fun _ _=>rfl)) (by rfl) (by trivial)) (@aG _ _ _ _ _ (@aU _ _ (12) _ _ _ _ cJ.nd rfl (Or.inl rfl) (@bH _ _ _ _ _ _ _ _ _ _ G_l_height (hr.mono (by decide)) (@aA _ _ _ _ _ (@aM _ _ _ _ _ _ _ _ bT (pv 8) aF) aD (by rfl)) (by rfl) (by decide) (by rfl) (by rfl)) (by rfl) (by trivial)) (@aG _ _ _ _ _ (@aU _ _ (13) _ _ _ _ cJ.nd rfl (Or.inl rfl) (@bE _ _ _ _ _ _ _ (@dU _ (K) rfl) (@cY _ _ _ _ (@aA _ _ _ _ _ aF (@aA _ _ _ _ _ aF (@aA _ _ _ _ _ (@aM _ _ _ _ _ _ _ _ fZ aF (@aM _ _ _ _ _ _ _ _ dB (@aM _ _ _ _ _ _ _ _ bT (pv 8) (@aM _ _ _ _ _ _ _ _ gR aF aF)) aF)) (@aA _ _ _ _ _ (@aM _ _ _ _ _ _ _ _ dB (@aM _ _ _ _ _ _ _ _ bT (pv 8) (@aM _ _ _ _ _ _ _ _ gR aF aF)) (@aM _ _ _ _ _ _ _ _ fZ (@aM _ _ _ _ _ _ _ _ gR aF aF) aF)) aD (by rfl)) (by rfl)) (by rfl)) (by rfl))) (@aM _ _ _ _ _ _ _ _ dB (@aM _ _ _ _ _ _ _ _ bT (pv 8) (@aM _ _ _ _ _ _ _ _ gR aF aF)) aF) (fun _ _=>rfl)) (by rfl) (by trivial)) (@aG _ _ _ _ _ (@aU _ _ (14) _ _ _ _ cJ.nd rfl (Or.inl rfl) (@aM _ _ _ _ _ _ _ _ iO (@aM _ _ _ _ _ _ _ _ iO (pv 12) aF) (@bE _ _ _ _ _ _ _ (@dU _ (K) rfl) (@cY _ _ _ _ (@aA _ _ _ _ _ aF (@aA _ _ _ _ _ aF (@aA _ _ _ _ _ aF (@aA _ _ _ _ _ (@aM _ _ _ _ _ _ _ _ gR aF aF) aD (by rfl)) (by rfl)) (by rfl)) (by rfl))) (@aM _ _ _ _ _ _ _ _ dB (@aM _ _ _ _ _ _ _ _ bT (pv 8) (@aM _ _ _ _ _ _ _ _ gR aF aF)) aF) (fun _ _=>rfl))) (by rfl) (by trivial)) (@aG _ _ _ _ _ (@fE _ _ _ _ _ _ _ _ (@PW.pt _ _ _ (@kU _ _ _ _ _ _ _ (@cC _ _ _ _ _ _ _ _ pV (@aM _ _ _ _ _ _ _ _ dB (@aM _ _ _ _ _ _ _ _ bT (pv 8) (@aM _ _ _ _ _ _ _ _ gR aF aF)) aF) aF (@bX _ _ (by decide) (by decide))) (@kE _ _ _ _ (@cC _ _ _ _ _ _ _ _ aCB (pv 14) (@aM _ _ _ _ _ _ _ _ iO aF (@aM _ _ _ _ _ _ _ _ gR aF aF)) (@bX _ _ (by decide) (by decide)))))) (@aH _ _ _ (@aU _ _ (14) _ _ _ _ cJ.nd rfl (Or.inl rfl) zT (by rfl) (by trivial))) cG) (@aH _ _ _ (@fD _ _ _ _ (@kX _ _ _ _ _ _ _ _ _ _ _ _ BI BR BQ eM (pv 6) (@aA _ _ _ _ _ (@dZ _ _ _ _ _ (@aA _ _ _ _ _ (@bE _ _ _ _ _ _ _ (@dU _ (K) rfl) (pv 4) (pv 7) (fun _ _=>rfl)) (@aA _ _ _ _ _ (pv 9) (@aA _ _ _ _ _ (pv 11) (@aA _ _ _ _ _ (pv 12) (@aA _ _ _ _ _ (pv 13) (@aA _ _ _ _ _ (pv 14) aD (by rfl)) (by rfl)) (by rfl)) (by rfl)) (by rfl)) (by rfl))) aD (by rfl)) (by rfl) (by rfl) (by rfl) (by rfl) (by rfl)) (by rfl))))))))))) (by intro _;rfl)) (@aH _ _ _ (@aT _ _ _ _ (pv 6))))))),?_⟩
 refine ⟨_,rfl,_,_,rfl,1,scr,rfl,by decide,fun m0 hm0=>?_⟩
 refine ⟨_,_,rfl,rfl,⟨by decide,by decide,by decide⟩,_,_,rfl,rfl,⟨by decide,by decide⟩,_,rfl,_,rfl,fun zs ln H1 NM S1 nln hln=>?_⟩
 refine ⟨aX rfl,fun p1 hp1=>?_⟩
 have A1:=aJ.upd (o:=.lst [.str "sea"]) hp1
 have B1:=S1.trans A1
 refine ⟨_,rfl,lf,rfl,⟨_,SqL.of (B1 _ _ hlf)⟩,?_⟩
 refine bG (F:=K) (xs:=vf) (by omega) (fun i ys H'=>upd H1 p1 (.lst [.str "sea"]) = H' ∧ ys = ((fs.take i).map aZ).map V.str) ⟨rfl,rfl⟩ ?_ ?_ ?_
 ·rintro i ys H' hi' ⟨rfl,rfl⟩
  exact ⟨SqL.of (B1 _ _ hlf),by rw [AA,AA,AW];omega⟩
 ·rintro i xv ys H' K1 K2 hx ⟨rfl,rfl⟩ k1 k2
  have hil:i < vf.length:=(AB.mp hx).1
  obtain ⟨d,ed⟩:∃ d,fs[i]? = some d:=⟨_,AC (by omega)⟩
  obtain ⟨v,ev,iv⟩:=iff.get ed
  rw [hx] at ev
  cases ev
  obtain ⟨z,g,e,rfl,_⟩:=bZ (gf.all d (AM ed))
  obtain ⟨t,rfl,o⟩:=lF iv
  refine ⟨_,rfl,t,_,0,.str z,rfl,rfl,SqT.of (B1 _ _ o),aN (j:=0) rfl,k1 _ _ ⟨rfl,?_⟩⟩
  rw [AX,ed]
  simp [aZ,cD]
 rintro ys H' ⟨rfl,rfl⟩
 rw [AF (by omega)]
 intro p2 hp2
 have A2:=aJ.upd (o:=.lst ((fs.map aZ).map V.str)) hp2
 refine ⟨p1,p2,_,_,rfl,rfl,A2 _ _ aE,aE,by simp only [AA,Aj,Dy];omega,fun ls hls=>?_⟩
 have A3:=aJ.upd (o:=.lst ([.str "sea"] ++ (fs.map aZ).map V.str)) hls
 have B3:=B1.trans (A2.trans A3)
 have C3:=A1.trans (A2.trans A3)
 have hls3:upd (upd (upd H1 p1 (.lst [.str "sea"])) p2 (.lst ((fs.map aZ).map V.str))) ls (.lst ([.str "sea"] ++ (fs.map aZ).map V.str)) ls = some (.lst ((("sea":Str) :: fs.map aZ).map V.str)):=aE
 have hln3:=C3 _ _ hln
 generalize upd (upd (upd H1 p1 (.lst [.str "sea"])) p2 (.lst ((fs.map aZ).map V.str))) ls (.lst ([.str "sea"] ++ (fs.map aZ).map V.str)) = H3 at B3 hls3 hln3
 generalize hsd:(("sea":Str) :: fs.map aZ) = sd at *
 have lsd:2 ≤ sd.length ∧ sd.length ≤ 13:=by rw [← hsd,Aj,AA];omega
 refine ⟨aX rfl,fun l hl=>?_⟩
 have S4:=aJ.upd (o:=.lst []) hl
 have T4:=B3.trans S4
 have nl:H l = none:=B3.free hl
 have hl4:upd H3 l (.lst []) l = some (.lst []):=aE
 have hls4:=S4 _ _ hls3
 have hln4:=S4 _ _ hln3
 have nls:ls ≠ l:=fun z=>by rw [z,hl] at hls3;cases hls3
 have nll:ln ≠ l:=fun z=>by rw [z,hl] at hln3;cases hln3
 generalize upd H3 l (.lst []) = H4 at T4 hl4 hls4 hln4
 have lns:(ns.map V.int).length = ns.length:=AA ..
 refine ⟨_,rfl,_,rfl,a,_,rfl,.inl (T4.seq hS),_,rfl,_,_,rfl,rfl,_,_,rfl,_,_,rfl,?_⟩
 obtain ⟨cnt,hcnt,c1,c2⟩:∃ cnt:Nat,(if (if (((ns.map V.int).length:Nat):Int) - (ia:Int) < (im:Int) then (((ns.map V.int).length:Nat):Int) - (ia:Int) else (im:Int)) > 1 then (if (((ns.map V.int).length:Nat):Int) - (ia:Int) < (im:Int) then (((ns.map V.int).length:Nat):Int) - (ia:Int) else (im:Int)) else 1) = (cnt:Int) ∧ 1 ≤ cnt ∧ cnt ≤ im:=by
  generalize (((ns.map V.int).length:Nat):Int) - (ia:Int) = w
  by_cases h1:w < (im:Int)
  ·rw [if_pos h1]
   by_cases h2:w > 1
   ·rw [if_pos h2]
    exact ⟨w.toNat,by omega,by omega,by omega⟩
   ·rw [if_neg h2]
    exact ⟨1,rfl,by omega,by omega⟩
  ·rw [if_neg h1]
   by_cases h2:(im:Int) > 1
   ·rw [if_pos h2]
    exact ⟨im,rfl,by omega,by omega⟩
   ·rw [if_neg h2]
    exact ⟨1,rfl,by omega,by omega⟩
 refine ⟨(cnt:Int),congrArg (fun x=>[V.int x]) hcnt,by omega,by omega,?_⟩
 rw [CP]
 have nz:=NM.l1
 refine hJ (lo:=0) (n:=cnt) (fun i σ H'=>∃ (w7 w8 w9 w10 w11 w12 w13 w14:Option V) (vs:List V) (es:List Dv),σ = [some (.ref a),some (.int ia),some (.int im),some (.ref lf),some (.ref ln),some (.ref ls),some (.ref l),w7,w8,w9,w10,w11,w12,w13,w14] ∧ sP l H4 H' ∧ H' l = some (.lst vs) ∧ IsL H' es vs ∧ es.map aZ = zs.take i ∧ es.length = i ∧ ∀ d ∈ es,dC sd d = true) ⟨_,_,_,_,_,_,_,_,[],[],rfl,(fun b o e _=>e),hl4,rfl,rfl,rfl,fun d m=>by cases m⟩ ?_ ?_
 ·rintro i σ H' hi ⟨w7,w8,w9,w10,w11,w12,w13,w14,ys,es,rfl,X,hly,iy,en,le,all⟩
  have SH:aJ H H':=fun b o e=>X _ _ (T4 _ _ e) (fun z=>by rw [z,nl] at e;cases e)
  have ly:=iy.length
  obtain ⟨z,ez⟩:∃ z,zs[i]? = some z:=⟨_,AC (by omega)⟩
  have nmz:=NM.nm z (AM ez)
  have zi:(0:Int) + (i:Int) = (i:Int):=DU _
  refine ⟨_,rfl,_,rfl,_,rfl,_,_,rfl,rfl,_,_,rfl,_,scr.same SH,rfl,by show 0 ≤ (ia:Int) + (0 + (i:Int));omega,fun mc hmc=>?_⟩
  have hls5:=X _ _ hls4 nls
  have psd:(0:Int) < (((sd.map V.str).length:Nat):Int):=by rw [AA];omega
  have o0:0 ≤ mc % (((sd.map V.str).length:Nat):Int):=Ay _ (by omega)
  have o1:mc % (((sd.map V.str).length:Nat):Int) < (((sd.map V.str).length:Nat):Int):=Av _ psd
  obtain ⟨k1',hk1⟩:=BF o0
  have lk1:k1' < sd.length:=by rw [hk1,AA] at o1;omega
  obtain ⟨one,eone⟩:∃ z,sd[k1']? = some z:=⟨_,AC lk1⟩
  refine ⟨_,rfl,_,rfl,_,rfl,ls,_,rfl,.inl (SqL.of hls5),_,_,rfl,rfl,psd,ls,_,_,.str one,rfl,rfl,SqL.of hls5,by rw [hk1];exact aN (by rw [AI,eone];rfl),?_⟩
  refine ⟨_,rfl,ls,rfl,⟨_,SqL.of hls5⟩,?_⟩
  refine bG (F:=K) (xs:=sd.map V.str) (by rw [AA];omega) (fun i ys Hx=>H' = Hx ∧ ys = ((sd.take i).filter fun y=>!decide (y = one)).map V.str ∧ ys.length ≤ i) ⟨rfl,rfl,AN _⟩ ?_ ?_ ?_
  ·rintro i ys Hx hi' ⟨rfl,rfl,hy⟩
   exact ⟨SqL.of hls5,hy⟩
  ·rintro i xv ys Hx K1 K2 hx ⟨rfl,rfl,hy⟩ k1 k2
   obtain ⟨y,ey⟩:∃ y,sd[i]? = some y:=by
    have:=(AB.mp hx).1
    rw [AA] at this
    exact ⟨_,AC this⟩
   rw [AI,ey] at hx
   cases hx
   refine ⟨_,rfl,_,rfl,rfl,_,rfl,?_⟩
   show if (!decide (V.str y = V.str one)) = true then _ else _
   rw [lU]
   have et:((sd.take (i + 1)).filter fun y=>!decide (y = one)) = ((sd.take i).filter fun y=>!decide (y = one)) ++ (if (!decide (y = one)) = true then [y] else []):=by
    rw [AX,ey,CG]
    cases hb:(!decide (y = one)) <;> simp_all
   cases hb:(!decide (y = one)) with
   | true =>
    rw [hb] at et
    refine cW ⟨_,rfl,k1 _ _ ⟨rfl,?_,by rw [Ae,Br];omega⟩⟩
    rw [et,AT]
    rfl
   | false =>
    rw [hb] at et
    refine bM (k2 _ ⟨rfl,?_,by omega⟩)
    rw [et]
    simp
  rintro ys' Hx ⟨rfl,rfl,hy⟩
  rw [AA,AF (AN _)]
  intro po hpo
  have A5:=aJ.upd (o:=.lst ((sd.filter fun y=>!decide (y = one)).map V.str)) hpo
  have hpo5:upd H' po (.lst ((sd.filter fun y=>!decide (y = one)).map V.str)) po = some (.lst ((sd.filter fun y=>!decide (y = one)).map V.str)):=aE
  have lot:=aEN one sd snd
  have pot:(0:Int) < ((((sd.filter fun y=>!decide (y = one)).map V.str).length:Nat):Int):=by rw [AA];omega
  generalize hot:(sd.filter fun y=>!decide (y = one)) = ot at *
  generalize upd H' po (.lst (ot.map V.str)) = H5 at A5 hpo5 ⊢
  have q0:0 ≤ mc / 16 % (((ot.map V.str).length:Nat):Int):=Ay _ (by omega)
  have q1:mc / 16 % (((ot.map V.str).length:Nat):Int) < (((ot.map V.str).length:Nat):Int):=Av _ pot
  obtain ⟨k2',hk2⟩:=BF q0
  have lk2:k2' < ot.length:=by rw [hk2,AA] at q1;omega
  obtain ⟨oth,eoth⟩:∃ z,ot[k2']? = some z:=⟨_,AC lk2⟩
  have moth:=AM eoth
  rw [← hot] at moth
  obtain ⟨moth1,moth2⟩:=Aw.mp moth
  have noth:one ≠ oth:=fun e=>by rw [e] at moth2;simp at moth2
  refine ⟨_,rfl,_,rfl,_,_,rfl,rfl,⟨by decide,by decide⟩,_,rfl,po,_,rfl,.inl (SqL.of hpo5),_,_,rfl,rfl,pot,po,_,_,.str oth,rfl,rfl,SqL.of hpo5,by rw [hk2];exact aN (by rw [AI,eoth];rfl),?_⟩
  refine ⟨_,rfl,_,_,rfl,rfl,⟨by decide,by decide⟩,_,rfl,_,rfl,fun cr hcr=>?_⟩
  have hcr':=aGP hcr
  have p6':(10:Int) ^ (6:Int).toNat = 1000000:=by decide
  have pm6:(0:Int) < 10 ^ (6:Int).toNat + 1:=by decide
  refine ⟨_,rfl,_,_,rfl,rfl,⟨by decide,by decide,by decide⟩,_,_,rfl,rfl,⟨by decide,by decide⟩,_,_,rfl,rfl,(qT rfl),_,_,rfl,rfl,_,rfl,_,_,rfl,rfl,⟨by decide,by decide,by decide⟩,_,_,rfl,rfl,⟨by decide,by decide⟩,_,_,rfl,rfl,⟨by decide,by decide,by decide⟩,_,_,rfl,rfl,_,_,rfl,rfl,pm6,aX rfl,fun p6 hp6=>?_⟩
  have A6:=aJ.upd (o:=.lst [.int 0,.int 1,.int (1 + mc / 10 ^ (9:Int).toNat % 4),.int (mc / 10 ^ (9:Int).toNat % (10 ^ (6:Int).toNat + 1))]) hp6
  obtain ⟨rt,ert,hrt⟩:=at4 (a:=0) (b:=1) (c:=1 + mc / 10 ^ (9:Int).toNat % 4) (d:=mc / 10 ^ (9:Int).toNat % (10 ^ (6:Int).toNat + 1)) (i:=mc / 10 ^ (8:Int).toNat % 4) (Ay _ (by decide)) (Av _ (by decide))
  have rt01:0 ≤ rt ∧ rt ≤ 1000000:=by
   have b0:=Ay (mc / 10 ^ (9:Int).toNat) (show (4:Int) ≠ 0 by decide)
   have b1:=Av (mc / 10 ^ (9:Int).toNat) (show (0:Int) < 4 by decide)
   rw [p6'] at hrt
   have c0:=Ay (mc / 10 ^ (9:Int).toNat) (show (1000000 + 1:Int) ≠ 0 by decide)
   have c1:=Av (mc / 10 ^ (9:Int).toNat) (show (0:Int) < 1000000 + 1 by decide)
   rcases hrt with rfl | rfl | rfl | rfl <;> omega
  refine ⟨_,rfl,_,_,rfl,rfl,⟨by decide,by decide,by decide⟩,_,_,rfl,rfl,⟨by decide,by decide⟩,_,_,rfl,rfl,(qT rfl),p6,_,_,.int rt,rfl,rfl,SqL.of aE,ert,?_⟩
  generalize upd H5 p6 (.lst [.int 0,.int 1,.int (1 + mc / 10 ^ (9:Int).toNat % 4),.int (mc / 10 ^ (9:Int).toNat % (10 ^ (6:Int).toNat + 1))]) = H6 at A6 ⊢
  refine ⟨_,rfl,_,_,rfl,rfl,_,_,rfl,rfl,⟨by decide,by decide,by decide⟩,aX rfl,fun p7 hp7=>?_⟩
  have A7:=aJ.upd (o:=.lst [.int 0,.int 1,.int 2,.int (10 ^ (5:Int).toNat)]) hp7
  obtain ⟨sx,esx,hsx⟩:=at4 (a:=0) (b:=1) (c:=2) (d:=10 ^ (5:Int).toNat) (i:=mc / 10 ^ (15:Int).toNat % 4) (Ay _ (by decide)) (Av _ (by decide))
  have sx0:0 ≤ sx:=by rcases hsx with rfl | rfl | rfl | rfl <;> decide
  refine ⟨_,rfl,_,_,rfl,rfl,⟨by decide,by decide,by decide⟩,_,_,rfl,rfl,⟨by decide,by decide⟩,_,_,rfl,rfl,(qT rfl),p7,_,_,.int sx,rfl,rfl,SqL.of aE,esx,_,_,rfl,rfl,?_⟩
  generalize upd H6 p7 (.lst [.int 0,.int 1,.int 2,.int (10 ^ (5:Int).toNat)]) = H7 at A7 ⊢
  have A57:=A5.trans (A6.trans A7)
  unfold sM
  dsimp only
  refine xN (fun σ' Hz=>Hz = H7 ∧ ∃ (sv:V) (sl:Dv),σ' = [some (.ref a),some (.int ia),some (.int im),some (.ref lf),some (.ref ln),some (.ref ls),some (.ref l),some (.int (0 + (i:Int))),some (.int mc),some (.str one),some (.ref po),some (.str oth),some (.int cr),some (.int rt),some sv] ∧ (∀ G:Hp,Is G sl sv) ∧ nF (.int cr) sl = true ∧ wY sl = true) (fun σ' Hz hR=>?_) (fun D' hD=>?_)
  rotate_left
  ·refine ⟨_,rfl,_,_,rfl,rfl,⟨by decide,by decide,by decide⟩,_,_,rfl,rfl,⟨by decide,by decide⟩,_,_,rfl,rfl,(qT rfl),rfl,_,rfl,?_⟩
   rw [iX]
   dsimp only
   refine aUS ?_ (fun none' c1'=>?_)
   ·exact hD _ _ ⟨rfl,.non,.non,rfl,(fun _=>rfl),rfl,rfl⟩
   refine ⟨_,rfl,_,_,rfl,rfl,⟨by decide,by decide,by decide⟩,_,_,rfl,rfl,_,_,rfl,rfl,_,rfl,?_⟩
   refine oJ (fun _=>none') (fun h2=>?_)
   have h2':¬ (cr - 1 - sx < 0 - 10 ^ (6:Int).toNat):=fun h=>h2 (decide_eq_true h)
   rw [p6'] at h2'
   refine hD _ _ ⟨rfl,.int (cr - 1 - sx),.int (cr - 1 - sx),rfl,(fun _=>rfl),?_,rfl⟩
   show (hgt _ && decide _) = true
   rw [aER (by omega) (by omega),decide_eq_true (by omega)]
   rfl
  obtain ⟨rfl,sv,sl,rfl,isv,okS,hrdS⟩:=hR
  have hly7:=A57 _ _ hly
  refine ⟨_,rfl,.inl ⟨rfl,_,SqL.of hly7⟩,?_⟩
  refine ⟨_,rfl,_,rfl,ln,_,_,.str z,rfl,rfl,SqL.of (A57 _ _ (X _ _ hln4 nll)),(by rw [zi];exact aN (by rw [AI,ez];rfl)),_,rfl,_,rfl,_,rfl,_,rfl,_,rfl,aX rfl,fun t ht=>?_⟩
  have A8:=aJ.upd (o:=.tup [.str z,.str one,.str oth,.int cr,.int rt,sv]) ht
  have A58:=A57.trans A8
  refine ⟨l,_,_,rfl,rfl,A58 _ _ hly,by omega,?_⟩
  have ntl:t ≠ l:=fun e=>by rw [e,hly7] at ht;cases ht
  have kp:iN H' (upd (upd Hz t (.tup [.str z,.str one,.str oth,.int cr,.int rt,sv])) l (.lst (ys ++ [.ref t]))):=fun b xs e=>by
   rw [aI (fun z=>by rw [z,hly] at e;cases e)]
   exact A58 _ _ e
  refine ⟨_,_,_,_,_,_,_,_,ys ++ [.ref t],es ++ [.tup [.str z,.str one,.str oth,.int cr,.int rt,sl]],rfl,(X.then A58).put,aE,IsL.snoc ?_ (IsL.keep kp _ _ (fV fun d m=>aIL (all d m)) iy),?_,by rw [Ae,le];rfl,?_⟩
  ·exact ⟨t,_,rfl,by rw [aI ntl,aE],_,_,rfl,rfl,_,_,rfl,rfl,_,_,rfl,rfl,_,_,rfl,rfl,_,_,rfl,rfl,_,_,rfl,isv _,rfl⟩
  ·rw [AT,en,AX,ez]
   rfl
  ·intro d md
   rcases Ar.mp md with md | md
   ·exact all d md
   ·rw [AV.mp md]
    exact aOY nmz (AM eone) moth1 noth hcr (aRV rt01.1 rt01.2) okS
 ·rintro σ H' ⟨w7,w8,w9,w10,w11,w12,w13,w14,ys,es,rfl,X,hly,iy,en,le,all⟩
  have SH:aJ H H':=fun b o e=>X _ _ (T4 _ _ e) (fun z=>by rw [z,nl] at e;cases e)
  refine ⟨_,rfl,q l ys es H' SH nl hly iy ⟨by omega,by omega,all,?_⟩⟩
  rw [en]
  exact NM.nd.sublist (Da _ _)
open Mt53
theorem iX (a b:Int):decide (V.int a = V.int b) = decide (a = b):=by
 by_cases h:a = b
 ·subst h;simp
 ·rw [decide_eq_false h,decide_eq_false (fun c=>h (by cases c;rfl))]
def qO:Sp:=sp2 fun x y H Q=>∃ (t:Addr) (n a b:Str) (c r h:Int) (sv:V),x = .ref t ∧ y = .int h ∧ H t = some (.tup [.str n,.str a,.str b,.int c,.int r,sv]) ∧ 0 ≤ r ∧ r ≤ 1000000 ∧ Q (.int (r * (h - c))) H
theorem oP (T:Txt K mg C):Fc P w K mg base 1 "coins_to" ["dyke","height"] qO:=by
 refine T.d_p_coins_to.fc wK iL (fun f cdv A outer s H vs Q E hr h=>?_)
 obtain ⟨x,y,rfl,t,n,a,b,c,r,h,sv,rfl,rfl,o,r0,r1,q⟩:=h
 refine ⟨_,(@aH _ _ _ (@aT _ _ _ _ (@aM _ _ _ _ _ _ _ _ mT (@bE _ _ _ _ _ _ _ (@aV _ (K) rfl) (pv 0) aF (fun _ _=>rfl)) (@aM _ _ _ _ _ _ _ _ iO (pv 1) (@bE _ _ _ _ _ _ _ (@aV _ (K) rfl) (pv 0) aF (fun _ _=>rfl)))))),?_⟩
 exact ⟨_,rfl,t,_,4,.int r,rfl,rfl,SqT.of o,aN (j:=4) rfl,_,rfl,_,rfl,t,_,3,.int c,rfl,rfl,SqT.of o,aN (j:=3) rfl,_,_,rfl,rfl,_,_,rfl,rfl,.inl ⟨by omega,by omega⟩,q⟩
theorem aRW {r:Int} (h:amt r = true):0 ≤ r ∧ r ≤ 1000000:=by
 have:=BJ.mp h
 exact ⟨of_decide_eq_true this.1,of_decide_eq_true this.2⟩
theorem aAW {zs:List Str} {ds ws:List Dv} (gd:GoodD zs ds) (gw:GoodW ds ws) (lw:ws.length ≤ 1000):eP (.lst ws) = true:=rA (fun d m=>by
  obtain ⟨z,v,rfl,hz,_⟩:=oS (gw.all d m)
  obtain ⟨d',md,rfl⟩:=AS.mp hz
  obtain ⟨n,a,b,c,r,sl,rfl,hn,_⟩:=bU (gd.all d' md)
  have e:=lP hn
  show (decide (2 ≤ 1000) && (decide (n.length ≤ 1000) && (true && true))) = true
  rw [decide_eq_true e]
  rfl) lw
def xK (C:Addr):Sp:=sp2 fun x y H Q=>∃ (p:Addr) (fs ds ws:List Dv),x = .ref p ∧ LandAt C H p fs ds ∧ Is H (.lst ws) y ∧ ws.length ≤ 1000 ∧ GoodW ds ws ∧ Q (.int (aAM ds ws)) H
theorem wS (T:Txt K mg C):Fc P w K mg base 5 "coins_of" ["land","works"] (xK C):=by
 have G_p_are_works:Fc P w K mg base 4 "are_works" ["land","thing"] (aFP C):=uW T
 have G_p_coins_to:Fc P w K mg base 1 "coins_to" ["dyke","height"] qO:=oP T
 have G_land_p_dyke:Mc P w K mg base 1 C "dyke" ["self","name"] (tP C):=jO T
 refine T.d_p_coins_of.fcD wL iL (fun f cdv A outer s H vs Q E hr h=>?_)
 obtain ⟨x,y,rfl,p,fs,ds,ws,rfl,L,hw,lw,gw,q⟩:=h
 have big:=bO
 obtain ⟨dx,e1,e2,hx,_⟩:=L.ex
 have no:∀ m:Str,¬ m = "dyke_rows" → ¬ m = "field_rows" → (nC e1 e2).lookup m = none:=fun m h1 h2=>kZ _ _ h1 h2
 have gd:=(cI L).2
 refine ⟨_,(@aG _ _ _ _ _ (@fE _ _ _ _ _ _ _ _ (@dJ _ _ _ _ (@dG _ _ _ (@bH _ _ _ _ _ _ _ _ _ _ G_p_are_works (hr.mono (by decide)) (@aA _ _ _ _ _ (pv 0) (@aA _ _ _ _ _ (pv 1) aD (by rfl)) (by rfl)) (by rfl) (by decide) (by rfl) (by rfl)) (by intro _;rfl))) (@aH _ _ _ kW) cG) (@aH _ _ _ (@aT _ _ _ _ (@aP _ _ _ _ _ _ _ _ _ (@aMX _ rfl) rfl T.n_sum aIU (@aA _ _ _ _ _ (@bS _ _ _ _ _ _ _ _ _ _ _ ["work","land"] 1 [0] rfl (@bJ _ _ _ _ (pv 1)) (fun R=>@aW _ _ (0) _ (show Au (["work","land"]:List Str) by decide +kernel) rfl (Or.inl rfl) (by trivial)) (@aY _ _ (by decide)) (fun R=>bW) (fun R=>(@bH _ _ _ _ _ _ _ _ _ _ G_p_coins_to (hr.mono (by decide)) (@aA _ _ _ _ _ (@aOD _ _ _ _ _ _ _ _ _ _ _ _ _ _ T.cl_Land G_land_p_dyke (hr.mono (by decide)) (pv 1) (@aA _ _ _ _ _ (@bE _ _ _ _ _ _ _ (@aV _ (K) rfl) (pv 0) aF (fun _ _=>rfl)) aD (by rfl)) (by rfl) (by rfl) (by rfl)) (@aA _ _ _ _ _ (@bE _ _ _ _ _ _ _ (@aV _ (K) rfl) (pv 0) aF (fun _ _=>rfl)) aD (by rfl)) (by rfl)) (by rfl) (by decide) (by rfl) (by rfl))) (by rfl) (by rfl) (by rfl) (by rfl) (by rfl) (by rfl) (by rfl) (by intro _;rfl)) aD (by rfl)) (by decide) (by decide) (by rfl) (by rfl))))),?_⟩
 refine ⟨_,rfl,_,rfl,_,_,rfl,p,fs,ds,.lst ws,rfl,L,hw,aAW gd gw lw,_,rfl,?_⟩
 rw [(aIH ds ws).mpr gw]
 refine bM ?_
 obtain ⟨a,us,rfl,ho,hi⟩:=hw
 have lu:=hi.length
 refine ⟨_,rfl,a,rfl,⟨_,SqL.of ho⟩,?_⟩
 refine bG (F:=K) (xs:=us) (by omega) (fun i ys H'=>H' = H ∧ ys = ((ws.take i).map (aDD ds)).map V.int) ⟨rfl,rfl⟩ ?_ ?_ ?_
 ·rintro i ys H' hi' ⟨rfl,rfl⟩
  exact ⟨SqL.of ho,by rw [AA,AA,AW];omega⟩
 ·rintro i x ys H' K1 K2 hx' ⟨rfl,rfl⟩ k1 k2
  have hil:i < us.length:=(AB.mp hx').1
  obtain ⟨d,ed⟩:∃ d,ws[i]? = some d:=⟨_,AC (by omega)⟩
  obtain ⟨v,ev,iv⟩:=hi.get ed
  rw [hx'] at ev
  cases ev
  obtain ⟨z,h,rfl,mz,_⟩:=oS (gw.all d (AM ed))
  obtain ⟨d',md,rfl⟩:=AS.mp mz
  obtain ⟨t,rfl,o⟩:=aIY iv
  have ec:=vY gd.nd md
  have er:=aGF gd.nd md
  refine ⟨_,rfl,p,dx,_,rfl,hx,no _ (by decide +kernel) (by decide +kernel),_,rfl,t,_,0,_,rfl,rfl,SqT.of o,aN (j:=0) rfl,_,_,rfl,p,fs,ds,d',rfl,rfl,L,md,fun v1 iv1=>?_⟩
  obtain ⟨n,a',b',c,r,sl,rfl,_,_,_,_,_,hr',_⟩:=bU (gd.all d' md)
  obtain ⟨t',sv,rfl,o',_⟩:=lG iv1
  obtain ⟨r0,r1⟩:=aRW hr'
  refine ⟨_,rfl,t,_,1,.int h,rfl,rfl,SqT.of o,aN (j:=1) rfl,_,_,rfl,t',n,a',b',c,r,h,sv,rfl,rfl,o',r0,r1,k1 _ _ ⟨rfl,?_⟩⟩
  rw [AX,ed,AT,AT]
  have e:aDD ds (.tup [.str n,.int h]) = r * (h - c):=by
   show uL ds n * (h - gU ds n) = _
   rw [show gU ds n = c from ec,show uL ds n = r from er]
  show _ ++ [V.int _] = _ ++ [V.int (aDD ds (.tup [.str n,.int h]))]
  rw [e]
 ·rintro ys H' ⟨rfl,rfl⟩
  intro p1 hp1
  rw [AF (by omega)] at *
  exact ⟨p1,_,rfl,SqL.of aE,cO.of (gW.lst hp1) q⟩
open Mt22 MtF
theorem aRC {zs:List Str} {n:Int} (h1:1 ≤ zs.length) (h2:(zs.length:Int) ≤ n):aLJ n (.lst (zs.map Dv.str)) = true:=by
 unfold aLJ
 simp only [AA]
 rw [decide_eq_true (by omega),decide_eq_true (by omega)]
 rfl
def aJP (C:Addr):Sp:=sp2 fun x y H Q=>∃ (p l:Addr) (fs ds:List Dv) (zs:List Str),x = .ref p ∧ LandAt C H p fs ds ∧ y = .ref l ∧ H l = some (.lst (zs.map V.str)) ∧ 1 ≤ zs.length ∧ zs.Nodup ∧ (∀ z ∈ zs,z ∈ fs.map aZ) ∧ ∀ H',aJ H H' → Q (.bl true) H'
theorem mX (T:Txt K mg C):Fc P w K mg base 2 "are_some_fields" ["land","thing"] (aJP C):=by
 have G_land_p_field_names:Mc P w K mg base 1 C "field_names" ["self"] (aDP C fun fs _=>fs.map aZ):=mD T
 have G_p_is_list_of:Fc P w K mg base 1 "is_list_of" ["thing","most"] pK:=iQ T
 have G_p_is_one_of:Fc P w K mg base 1 "is_one_of" ["thing","names"] (tO K):=jN T
 refine T.d_p_are_some_fields.fc iC iL (fun f cdv A outer s H vs Q E hr h=>?_)
 obtain ⟨x,y,rfl,p,l,fs,ds,zs,rfl,L,rfl,hl,l1,nd,sub,q⟩:=h
 have big:=bO
 have gf:=(cI L).1
 have f2:=gf.l2
 have lz:zs.length ≤ fs.length:=by
  have:=aAE nd sub
  rw [AA] at this
  exact this
 obtain ⟨dx,d1,d2,hx,_⟩:=L.ex
 refine ⟨_,(@aG _ _ _ _ _ (@aU _ _ (2) _ _ _ _ iC.nd rfl (Or.inr rfl) (@aKX _ _ _ _ _ _ _ _ _ _ _ T.cl_Land G_land_p_field_names (hr.mono (by decide)) (pv 0) (by rfl)) (by rfl) (by trivial)) (@aG _ _ _ _ _ (@fE _ _ _ _ _ _ _ _ (@PW.pt _ _ _ (@kU _ _ _ _ _ _ _ (@dJ _ _ _ _ (@dG _ _ _ (@bH _ _ _ _ _ _ _ _ _ _ G_p_is_list_of (hr.mono (by decide)) (@aA _ _ _ _ _ (pv 1) (@aA _ _ _ _ _ (@aP _ _ _ _ _ _ _ _ _ (@bA _ (K) rfl) rfl T.n_len bK (@aA _ _ _ _ _ (pv 2) aD (by rfl)) (by decide) (by decide) (by rfl) (by rfl)) aD (by rfl)) (by rfl)) (by rfl) (by decide) (by rfl) (by rfl)) (by intro _;rfl))) (@kE _ _ _ _ (@dJ _ _ _ _ (@dG _ _ _ (@aP _ _ _ _ _ _ _ _ _ (@nO _ rfl) rfl T.n_all lH (@aA _ _ _ _ _ (@bS _ _ _ _ _ _ _ _ _ _ _ ["name","names"] 1 [2] rfl (@bJ _ _ _ _ (pv 1)) (fun R=>@aW _ _ (0) _ (show Au (["name","names"]:List Str) by decide +kernel) rfl (Or.inl rfl) (by trivial)) (@aY _ _ (by decide)) (fun R=>bW) (fun R=>(@bH _ _ _ _ _ _ _ _ _ _ G_p_is_one_of (hr.mono (by decide)) (@aA _ _ _ _ _ (pv 0) (@aA _ _ _ _ _ (pv 1) aD (by rfl)) (by rfl)) (by rfl) (by decide) (by rfl) (by rfl))) (by rfl) (by rfl) (by rfl) (by rfl) (by rfl) (by rfl) (by rfl) (by intro _;rfl)) aD (by rfl)) (by decide) (by decide) (by rfl) (by rfl)) (by intro _;rfl)))))) (@aH _ _ _ (@aT _ _ _ _ sG)) cG) (@aH _ _ _ (@aT _ _ _ _ (@eC _ _ _ _ _ _ _ _ pV (@aP _ _ _ _ _ _ _ _ _ call_len_set rfl T.n_len bK (@aA _ _ _ _ _ (@bV _ _ _ _ _ _ _ _ _ (@oQ _ rfl) rfl T.n_set yQ (@aA _ _ _ _ _ (pv 1) aD (by rfl)) (by decide) (by decide) (by rfl) (by rfl)) aD (by rfl)) (by decide) (by decide) (by rfl) (by rfl)) (@aP _ _ _ _ _ _ _ _ _ (@bA _ (K) rfl) rfl T.n_len bK (@aA _ _ _ _ _ (pv 1) aD (by rfl)) (by decide) (by decide) (by rfl) (by rfl)) (@bX _ _ (by decide) (by decide))))))),?_⟩
 refine ⟨_,rfl,p,dx,_,rfl,hx,kZ _ _ (by decide +kernel) (by decide +kernel),_,rfl,p,fs,ds,rfl,L,fun ln H1 S1 fln hln=>?_⟩
 have hl1:=S1 _ _ hl
 refine ⟨_,rfl,_,rfl,ln,_,rfl,.inl (SqL.of hln),_,_,rfl,.lst (zs.map Dv.str),_,aNM hl1,rfl,_,rfl,?_⟩
 rw [aRC l1 (by rw [AA,AA];omega)]
 refine bM ?_
 refine ⟨_,rfl,l,rfl,⟨_,SqL.of hl1⟩,?_⟩
 refine bG (F:=K) (xs:=zs.map V.str) (by rw [AA];omega) (fun i ys H'=>H1 = H' ∧ ys = (zs.take i).map fun z=>V.bl true) ⟨rfl,rfl⟩ ?_ ?_ ?_
 ·rintro i ys H' hi' ⟨rfl,rfl⟩
  exact ⟨SqL.of hl1,by rw [AA,AW];omega⟩
 ·rintro i xv ys H' K1 K2 hx ⟨rfl,rfl⟩ k1 k2
  obtain ⟨z,ez⟩:∃ z,zs[i]? = some z:=by
   have:=(AB.mp hx).1
   rw [AA] at this
   exact ⟨_,AC this⟩
  rw [AI,ez] at hx
  cases hx
  refine ⟨_,rfl,_,rfl,_,_,rfl,.str z,ln,_,rfl,rfl,SqL.of hln,?_⟩
  rw [show pW (fs.map aZ) (.str z) = true from decide_eq_true (sub z (AM ez))]
  refine k1 _ _ ⟨rfl,?_⟩
  rw [AX,ez,AT]
  rfl
 rintro ys H' ⟨rfl,rfl⟩
 rw [AA,AF (AN _)]
 intro p4 hp4
 have S4:=aJ.upd (o:=.lst (zs.map fun z=>V.bl true)) hp4
 refine ⟨p4,zs.map fun _=>true,rfl,SqL.of ?_,_,rfl,?_⟩
 ·rw [aE,Al]
  rfl
 rw [show (zs.map fun _=>true).all id = true from BB.mpr fun b m=>by obtain ⟨z,_,rfl⟩:=AS.mp m;rfl]
 refine bM ?_
 have hl4:=S4 _ _ hl1
 refine ⟨_,rfl,l,zs.map Sum.inr,rfl,SqL.of (by rw [hl4,aGK]),by rw [AA];omega,fun p5 hp5=>?_⟩
 have hle:=aGW (zs.map (Sum.inr:Str → Key))
 rw [AA] at hle
 refine ⟨p5,_,_,rfl,aE,by omega,_,rfl,l,zs.map V.str,rfl,.inl (SqL.of (by rw [aI (aO hl4 hp5)];exact hl4)),rfl,?_⟩
 have e:decide (V.int ((vX (zs.map (Sum.inr:Str → Key))).length:Int) = V.int ((zs.map V.str).length:Int)) = true:=by
  rw [iX,AA,(yI _).mpr ((hG zs).mpr nd),AA]
  first | exact decide_eq_true rfl | exact beq_self_eq_true _
 rw [e]
 exact q _ (S1.trans (S4.trans (aJ.upd hp5)))
def uA (C:Addr):Sp:=sp3 fun x y u H Q=>∃ (p l:Addr) (fs ds:List Dv) (zs:List Str) (L:Int),x = .ref p ∧ LandAt C H p fs ds ∧ y = .ref l ∧ H l = some (.lst (zs.map V.str)) ∧ 1 ≤ zs.length ∧ zs.Nodup ∧ (∀ z ∈ zs,z ∈ fs.map aZ) ∧ u = .int L ∧ hgt L = true ∧ ∀ H',aJ H H' → Q .non H'
theorem lZ (T:Txt K mg C):Fc P w K mg base 3 "check_wish" ["land","fields","height"] (uA C):=by
 have G_p_are_some_fields:Fc P w K mg base 2 "are_some_fields" ["land","thing"] (aJP C):=mX T
 have G_p_is_height:Fc P w K mg base 2 "is_height" ["thing"] jB:=dS T
 refine T.d_p_check_wish.fc sS pB (fun f cdv A outer s H vs Q E hr h=>?_)
 obtain ⟨x,y,u,rfl,p,l,fs,ds,zs,lv,rfl,L,rfl,hl,l1,nd,sub,rfl,hL,q⟩:=h
 refine ⟨_,(@aH _ _ _ (@fE _ _ _ _ _ _ _ _ (@PW.pt _ _ _ (@kU _ _ _ _ _ _ _ (@dJ _ _ _ _ (@dG _ _ _ (@bH _ _ _ _ _ _ _ _ _ _ G_p_are_some_fields (hr.mono (by decide)) (@aA _ _ _ _ _ (pv 0) (@aA _ _ _ _ _ (pv 1) aD (by rfl)) (by rfl)) (by rfl) (by decide) (by rfl) (by rfl)) (by intro _;rfl))) (@kE _ _ _ _ (@dJ _ _ _ _ (@dG _ _ _ (@bH _ _ _ _ _ _ _ _ _ _ G_p_is_height (hr.mono (by decide)) (@aA _ _ _ _ _ (pv 2) aD (by rfl)) (by rfl) (by decide) (by rfl) (by rfl)) (by intro _;rfl)))))) (@aH _ _ _ kW) cG)),?_⟩
 refine ⟨_,rfl,_,rfl,_,_,rfl,p,l,fs,ds,zs,rfl,L,rfl,hl,l1,nd,sub,fun H1 S1=>⟨_,rfl,bM ?_⟩⟩
 refine ⟨_,rfl,_,rfl,.int lv,rfl,_,rfl,?_⟩
 rw [show fU (.int lv) = true from hL]
 exact bM (q H1 S1)
open Mt53 Mt22 MtF Mt31 Mt61
def tD (fs:List Dv) (L:Int) (z:Str):Bool:=decide (z = "sea") || decide (qE fs z < L)
def gOf (L:Int):Dv → Gap
 | .tup [.str n,.str a,.str b,.int c,.int r,_]=>⟨n,a,b,r * (L - c)⟩
 | _=>⟨"","","",0⟩
def isG (fs:List Dv) (L:Int):Dv → Bool
 | .tup [.str _,.str a,.str b,.int c,.int _,_]=>decide (c < L) && (tD fs L a && tD fs L b)
 | _=>false
def aQ (fs ds:List Dv) (L:Int):List Gap:=(ds.filter (isG fs L)).map (gOf L)
def dO (G:List Gap):List (Key × V):=G.map fun g=>(Sum.inr g.nm,V.int g.cap)
theorem aLX {zs:List Str} {d:Dv} (h:dC zs d = true) (L:Int):(gOf L d).nm = aZ d:=by
 obtain ⟨n,a,b,c,r,s,rfl,_⟩:=bU h
 rfl
theorem qF {fs ds:List Dv} (gf:GoodF fs) (gd:GoodD ("sea" :: fs.map aZ) ds) (L:Int):Gaps ("sea" :: fs.map aZ) (aQ fs ds L):=by
 have mem:∀ g ∈ aQ fs ds L,∃ d ∈ ds,isG fs L d = true ∧ g = gOf L d:=fun g m=>by
  obtain ⟨d,md,rfl⟩:=AS.mp m
  rw [Aw] at md
  exact ⟨d,md.1,md.2,rfl⟩
 refine ⟨?_,fun g m=>?_,fun g m=>?_,?_,AU⟩
 ·have e:(aQ fs ds L).map (·.nm) = (ds.filter (isG fs L)).map aZ:=by
   unfold aQ
   rw [Al]
   refine Bb fun d md=>?_
   exact aLX (gd.all d (Aw.mp md).1) L
  rw [e]
  exact DL (List.Sublist.map _ DN) gd.nd
 ·obtain ⟨d,md,_,rfl⟩:=mem g m
  obtain ⟨n,a,b,c,r,s,rfl,_,ha,hb,hab,_⟩:=bU (gd.all d md)
  exact ⟨ha,hb,hab⟩
 ·obtain ⟨d,md,hg,rfl⟩:=mem g m
  obtain ⟨n,a,b,c,r,s,rfl,_,ha,hb,hab,hc,hr,_⟩:=bU (gd.all d md)
  have h1:c < L:=of_decide_eq_true (BJ.mp (show (decide (c < L) && (tD fs L a && tD fs L b)) = true from hg)).1
  have h2:0 ≤ r:=by
   have:=BJ.mp (show (decide (0 ≤ r) && decide (r ≤ 1000000)) = true from hr)
   exact of_decide_eq_true this.1
  show 0 ≤ r * (L - c)
  exact Int.mul_nonneg h2 (by omega)
 ·rw [Ak]
  refine ⟨fun m=>?_,gf.nd⟩
  obtain ⟨d,md,e⟩:=AS.mp m
  obtain ⟨z,g,u,rfl,hz,_⟩:=bZ (gf.all d md)
  exact zH hz e
def aPQ (C:Addr):Sp:=sp3 fun x y u H Q=>∃ (p:Addr) (fs ds:List Dv) (z:Str) (L:Int),x = .ref p ∧ LandAt C H p fs ds ∧ y = .str z ∧ z ∈ (("sea":Str) :: fs.map aZ) ∧ u = .int L ∧ Q (.bl (tD fs L z)) H
theorem aCD (T:Txt K mg C):Fc P w K mg base 2 "is_low" ["land","side","height"] (aPQ C):=by
 have G_land_p_ground:Mc P w K mg base 1 C "ground" ["self","field"] (aBH C):=qW T
 refine T.d_p_is_low.fc aBQ pB (fun f cdv A outer s H vs Q E hr h=>?_)
 obtain ⟨x,y,u,rfl,p,fs,ds,z,lv,rfl,L,rfl,mz,rfl,q⟩:=h
 obtain ⟨dx,d1,d2,hx,_⟩:=L.ex
 have gf:=(cI L).1
 refine ⟨_,(@aH _ _ _ (@aT _ _ _ _ (@aPX _ _ _ _ _ _ _ (@eC _ _ _ _ _ _ _ _ pV (pv 1) (@sW _ _ _ _ T.g_SEA (by rfl) (by decide)) (@bX _ _ (by decide) (by decide))) (@eA _ _ _ _ _ (@eC _ _ _ _ _ _ _ _ aCB (@aOD _ _ _ _ _ _ _ _ _ _ _ _ _ _ T.cl_Land G_land_p_ground (hr.mono (by decide)) (pv 0) (@aA _ _ _ _ _ (pv 1) aD (by rfl)) (by rfl) (by rfl) (by rfl)) (pv 2) (@bX _ _ (by decide) (by decide))))))),?_⟩
 refine ⟨_,rfl,rfl,?_⟩
 by_cases hz:z = "sea"
 ·subst hz
  rw [decide_eq_true rfl]
  exact ⟨_,rfl,cW q⟩
 ·rw [decide_eq_false (fun c=>hz (V.str.inj c))]
  have mf:z ∈ fs.map aZ:=by
   rcases Ah.mp mz with h | h
   ·exact absurd h hz
   ·exact h
  obtain ⟨d,md,e⟩:=AS.mp mf
  obtain ⟨z',g,u,rfl,hz',_⟩:=bZ (gf.all d md)
  have e':z' = z:=e
  subst e'
  have eg:qE fs z' = g:=aIG gf.nd md
  refine ⟨_,rfl,bM ?_⟩
  refine ⟨_,rfl,p,dx,_,rfl,hx,kZ _ _ (by decide +kernel) (by decide +kernel),_,rfl,_,_,rfl,p,fs,ds,z',g,u,rfl,rfl,L,md,_,rfl,_,_,rfl,rfl,?_⟩
  have:tD fs lv z' = decide (g < lv):=by
   unfold tD
   rw [decide_eq_false hz,eg]
   rfl
  show Q (V.bl (decide (g < lv))) H
  rw [← this]
  exact q
def aPR (C:Addr):Sp:=sp3 fun x y u H Q=>∃ (p:Addr) (fs ds:List Dv) (d:Dv) (L:Int),x = .ref p ∧ LandAt C H p fs ds ∧ Is H d y ∧ d ∈ ds ∧ u = .int L ∧ Q (.bl (isG fs L d)) H
theorem aCE (T:Txt K mg C):Fc P w K mg base 3 "is_gap" ["land","dyke","height"] (aPR C):=by
 have G_p_is_low:Fc P w K mg base 2 "is_low" ["land","side","height"] (aPQ C):=aCD T
 refine T.d_p_is_gap.fc aBR pB (fun f cdv A outer s H vs Q E hr h=>?_)
 obtain ⟨x,y,u,rfl,p,fs,ds,d,lv,rfl,L,hd,md,rfl,q⟩:=h
 have gd:=(cI L).2
 obtain ⟨n,a,b,c,r,sl,rfl,_,ha,hb,hab,hc,hr',_⟩:=bU (gd.all d md)
 obtain ⟨t,sv,rfl,o,isv⟩:=lG hd
 refine ⟨_,(@aH _ _ _ (@aT _ _ _ _ (@cZ _ _ _ _ _ _ _ (@eC _ _ _ _ _ _ _ _ aCB (@bE _ _ _ _ _ _ _ (@aV _ (K) rfl) (pv 1) aF (fun _ _=>rfl)) (pv 2) (@bX _ _ (by decide) (by decide))) (@cZ _ _ _ _ _ _ _ (@bH _ _ _ _ _ _ _ _ _ _ G_p_is_low (hr.mono (by decide)) (@aA _ _ _ _ _ (pv 0) (@aA _ _ _ _ _ (@bE _ _ _ _ _ _ _ (@aV _ (K) rfl) (pv 1) aF (fun _ _=>rfl)) (@aA _ _ _ _ _ (pv 2) aD (by rfl)) (by rfl)) (by rfl)) (by rfl) (by decide) (by rfl) (by rfl)) (@eA _ _ _ _ _ (@bH _ _ _ _ _ _ _ _ _ _ G_p_is_low (hr.mono (by decide)) (@aA _ _ _ _ _ (pv 0) (@aA _ _ _ _ _ (@bE _ _ _ _ _ _ _ (@aV _ (K) rfl) (pv 1) aF (fun _ _=>rfl)) (@aA _ _ _ _ _ (pv 2) aD (by rfl)) (by rfl)) (by rfl)) (by rfl) (by decide) (by rfl) (by rfl))))))),?_⟩
 refine ⟨_,rfl,t,_,3,.int c,rfl,rfl,SqT.of o,aN (j:=3) rfl,_,rfl,_,_,rfl,rfl,?_⟩
 have q:Q (.bl (decide (c < lv) && (tD fs lv a && tD fs lv b))) H:=q
 refine ⟨_,rfl,?_⟩
 cases h1:decide (c < lv) with
 | false =>
  rw [h1] at q
  exact bM q
 | true =>
  rw [h1] at q
  refine cW ?_
  refine ⟨_,rfl,_,rfl,t,_,1,.str a,rfl,rfl,SqT.of o,aN (j:=1) rfl,_,rfl,_,_,_,rfl,p,fs,ds,a,lv,rfl,L,rfl,ha,rfl,?_⟩
  refine ⟨_,rfl,?_⟩
  cases h2:tD fs lv a with
  | false =>
   rw [h2] at q
   exact bM q
  | true =>
   rw [h2] at q
   refine cW ?_
   exact ⟨_,rfl,_,rfl,t,_,2,.str b,rfl,rfl,SqT.of o,aN (j:=2) rfl,_,rfl,_,_,_,rfl,p,fs,ds,b,lv,rfl,L,rfl,hb,rfl,q⟩
theorem lD (G:List Gap):(dO G).length = G.length:=AA _
theorem aET (G:List Gap):(dO G).map (·.1) = (G.map (·.nm)).map Sum.inr:=by
 unfold dO
 rw [Al,Al]
 rfl
theorem qG (fs ds:List Dv) (L:Int):(aQ fs ds L).length ≤ ds.length:=by
 unfold aQ
 rw [AA]
 exact BN _ _
def aJW (C:Addr):Sp:=sp2 fun x y H Q=>∃ (p:Addr) (fs ds:List Dv) (L:Int),x = .ref p ∧ LandAt C H p fs ds ∧ y = .int L ∧ ∀ (cd:Addr) (H':Hp),aJ H H' → H cd = none → H' cd = some (.dK (dO (aQ fs ds L))) → Q (.ref cd) H'
theorem uU (T:Txt K mg C):Fc P w K mg base 4 "gap_coins" ["land","height"] (aJW C):=by
 have G_p_is_gap:Fc P w K mg base 3 "is_gap" ["land","dyke","height"] (aPR C):=aCE T
 have G_p_coins_to:Fc P w K mg base 1 "coins_to" ["dyke","height"] qO:=oP T
 have G_land_p_dykes:Mc P w K mg base 1 C "dykes" ["self"] (aDQ C fun _ ds=>ds):=sZ T
 refine T.d_p_gap_coins.fc uG iL (fun f cdv A outer s H vs Q E hr h=>?_)
 obtain ⟨x,y,rfl,p,fs,ds,lv,rfl,L,rfl,q⟩:=h
 have big:=bO
 have gf:=(cI L).1
 have gd:=(cI L).2
 have d2:=gd.l2
 have GG:=qF gf gd lv
 have gl:=qG fs ds lv
 obtain ⟨dx,d1,d2',hx,_⟩:=L.ex
 refine ⟨_,(@aH _ _ _ (@aT _ _ _ _ (@bV _ _ _ _ _ _ _ _ _ (@dL _ rfl) rfl T.n_dict fB (@aA _ _ _ _ _ (@bS _ _ _ _ _ _ _ _ _ _ _ ["dyke","land","height"] 1 [0,1] rfl (@bJ _ _ _ _ (@aKX _ _ _ _ _ _ _ _ _ _ _ T.cl_Land G_land_p_dykes (hr.mono (by decide)) (pv 0) (by rfl))) (fun R=>@aW _ _ (0) _ (show Au (["dyke","land","height"]:List Str) by decide +kernel) rfl (Or.inl rfl) (by trivial)) (@aY _ _ (by decide)) (fun R=>@eX _ _ _ (@dG _ _ _ (@bH _ _ _ _ _ _ _ _ _ _ G_p_is_gap (hr.mono (by decide)) (@aA _ _ _ _ _ (pv 1) (@aA _ _ _ _ _ (pv 0) (@aA _ _ _ _ _ (pv 2) aD (by rfl)) (by rfl)) (by rfl)) (by rfl) (by decide) (by rfl) (by rfl)) (by intro _;rfl))) (fun R=>(@dZ _ _ _ _ _ (@aA _ _ _ _ _ (@bE _ _ _ _ _ _ _ (@aV _ (K) rfl) (pv 0) aF (fun _ _=>rfl)) (@aA _ _ _ _ _ (@bH _ _ _ _ _ _ _ _ _ _ G_p_coins_to (hr.mono (by decide)) (@aA _ _ _ _ _ (pv 0) (@aA _ _ _ _ _ (pv 2) aD (by rfl)) (by rfl)) (by rfl) (by decide) (by rfl) (by rfl)) aD (by rfl)) (by rfl)))) (by rfl) (by rfl) (by rfl) (by rfl) (by rfl) (by rfl) (by rfl) (by intro _;rfl)) aD (by rfl)) (by decide) (by decide) (by rfl) (by rfl)))),?_⟩
 refine ⟨_,rfl,p,dx,_,rfl,hx,kZ _ _ (by decide +kernel) (by decide +kernel),_,rfl,p,fs,ds,rfl,L,fun lb vb H2 S2 flb hlb hib=>?_⟩
 have lvb:vb.length = ds.length:=hib.length
 refine ⟨lb,rfl,⟨_,SqL.of hlb⟩,?_⟩
 refine bG (F:=K) (xs:=vb) (by omega) (fun i ys H'=>aJ H2 H' ∧ bN H' ys (dO (aQ fs (ds.take i) lv))) ⟨aJ.refl _,bN.nil _⟩ ?_ ?_ ?_
 ·rintro i ys H' hi' ⟨S',pa⟩
  have:=pa.len
  have:=qG fs (ds.take i) lv
  rw [lD] at *
  rw [AW] at this
  exact ⟨SqL.of (S' _ _ hlb),by omega⟩
 ·rintro i xv ys H' K1 K2 hx' ⟨S',pa⟩ k1 k2
  have hil:i < vb.length:=(AB.mp hx').1
  obtain ⟨d,ed⟩:∃ d,ds[i]? = some d:=⟨_,AC (by omega)⟩
  obtain ⟨v,ev,iv⟩:=hib.get ed
  rw [hx'] at ev
  cases ev
  have md:=AM ed
  have iv':=Is.same S' _ _ iv
  refine ⟨_,rfl,_,rfl,_,rfl,_,_,_,rfl,p,fs,ds,d,lv,rfl,L.same (S2.trans S'),iv',md,rfl,_,rfl,?_⟩
  have et:aQ fs (ds.take (i + 1)) lv = aQ fs (ds.take i) lv ++ (if isG fs lv d = true then [gOf lv d] else []):=by
   unfold aQ
   rw [AX,ed,CG,AT]
   cases h:isG fs lv d <;> simp [h]
  cases hg:isG fs lv d with
  | false =>
   rw [hg] at et
   refine bM (k2 _ ⟨S',?_⟩)
   rw [et]
   simpa using pa
  | true =>
   rw [hg] at et
   refine cW ?_
   obtain ⟨n,a,b,c,r,sl,rfl,_,ha,hb,hab,hc,hr',_⟩:=bU (gd.all d md)
   obtain ⟨t,sv,rfl,o,isv⟩:=lG iv'
   have h2:=BJ.mp (show (decide (0 ≤ r) && decide (r ≤ 1000000)) = true from hr')
   refine ⟨_,rfl,t,_,0,.str n,rfl,rfl,SqT.of o,aN (j:=0) rfl,_,rfl,_,rfl,_,_,rfl,t,n,a,b,c,r,lv,sv,rfl,rfl,o,of_decide_eq_true h2.1,of_decide_eq_true h2.2,aX rfl,fun p3 hp3=>k1 _ _ ⟨S'.trans (aJ.upd hp3),?_⟩⟩
   rw [et]
   have e2:dO (aQ fs (ds.take i) lv ++ [gOf lv (.tup [.str n,.str a,.str b,.int c,.int r,sl])]) = dO (aQ fs (ds.take i) lv) ++ [(Sum.inr n,V.int (r * (lv - c)))]:=by
    unfold dO
    rw [AT]
    rfl
   rw [if_pos rfl,e2]
   exact bN.snoc (k:=Sum.inr n) pa hp3
 rintro ys H3 ⟨S3,pa⟩
 rw [AF (by omega)] at pa
 intro p4 hp4
 have S4:=aJ.upd (o:=.lst ys) hp4
 refine ⟨p4,ys,dO (aQ fs ds lv),rfl,SqL.of aE,pa.same S4,by rw [lD];omega,by rw [aET];exact (hG _).mpr GG.nd,fun cd hcd=>?_⟩
 have T4:=S2.trans (S3.trans S4)
 exact q cd _ (T4.trans (aJ.upd hcd)) (T4.free hcd) aE
open Mt22 MtF
theorem aFA {zs:List Str} {d:Dv} (h:dC zs d = true):wY d = true:=by
 obtain ⟨n,a,b,c,r,s,rfl,_,_,_,_,_,_,hs⟩:=bU h
 cases s with
 | non=>rfl
 | int i=>rfl
 | _=>cases hs
theorem gA (s:Mt22.St):wY (bQ s) = true:=rfl
open Mt22 MtF
theorem aFN {H:Hp} {d d1:Addr} {fs:List Dv} {kvs:List (Key × V)} {o:Obj} (h:qL H d1 fs) (hd:H d = some (.dK kvs)) (nr:∀ v ∈ kvs.map (·.2),∀ a,v ≠ .ref a) (l1:1 ≤ fs.length) (ht:∀ f ∈ fs,∃ us,f = .tup us) (hh:yD fs = true):qL (upd H d (.frz o (.dK kvs))) d1 fs:=by
 obtain ⟨kv1,e,k,i⟩:=h
 have nd:d1 ≠ d:=fun c=>by
  rw [c,hd] at e
  cases e
  cases fs with
  | nil=>exact absurd l1 (by decide)
  | cons f fs =>
   obtain ⟨us,rfl⟩:=ht f AU
   obtain ⟨v,r,ev,⟨a,w,ea,_⟩,_⟩:=i
   exact nr v (by rw [ev];exact AU) a ea
 refine ⟨kv1,by rw [aI nd];exact e,k,IsL.keep (fun b xs hb=>?_) fs _ hh i⟩
 rw [aI (fun c=>by rw [c,hd] at hb;cases hb)]
 exact hb
theorem aLK {H:Hp} {x d:Addr} {fs ds:List Dv} {kvs:List (Key × V)} {o:Obj} (L:LandAt C H x fs ds) (hd:H d = some (.dK kvs)) (nr:∀ v ∈ kvs.map (·.2),∀ a,v ≠ .ref a):LandAt C (upd H d (.frz o (.dK kvs))) x fs ds:=by
 obtain ⟨gf,gd⟩:=cI L
 obtain ⟨⟨dx,d1,d2,e,t1,t2⟩,a,b⟩:=L
 refine ⟨⟨dx,d1,d2,by rw [aI (fun c=>by rw [c,hd] at e;cases e)];exact e,aFN t1 hd nr gf.l1 (fun f m=>?_) (fV fun f m=>?_),aFN t2 hd nr gd.l1 (fun f m=>?_) (fV fun d m=>aFA (gd.all d m))⟩,a,b⟩
 ·obtain ⟨z,g,e,rfl,_⟩:=bZ (gf.all f m)
  exact ⟨_,rfl⟩
 ·obtain ⟨z,g,e,rfl,_⟩:=bZ (gf.all f m)
  rfl
 ·obtain ⟨n,a,b,c,r,s,rfl,_⟩:=bU (gd.all f m)
  exact ⟨_,rfl⟩
open Mt53 Mt22 MtF Mt31 Mt61
theorem aCU {fs ds:List Dv} {L:Int} {zs:List Str} (gd:GoodD zs ds) {g:Gap} (m:g ∈ aQ fs ds L):∃ d ∈ ds,isG fs L d = true ∧ g = gOf L d ∧ aZ d = g.nm:=by
 obtain ⟨d,md,rfl⟩:=AS.mp m
 rw [Aw] at md
 exact ⟨d,md.1,md.2,rfl,(aLX (gd.all d md.1) L).symm⟩
theorem nX (G:List Gap):(Mt61.stepsOf G).length = 2 * G.length:=by
 unfold Mt61.stepsOf
 induction G with
 | nil=>rfl
 | cons g G ih =>
  rw [Dd,Ae,ih]
  show 2 + 2 * G.length = 2 * (G.length + 1)
  omega
theorem xI {H:Hp} {t:Addr} {s:Mt22.St} (h:H t = some (.tup [.str s.nm,.str s.near,.str s.far,.int s.h])):Is H (bQ s) (.ref t):=⟨t,_,rfl,h,_,_,rfl,rfl,_,_,rfl,rfl,_,_,rfl,rfl,_,_,rfl,rfl,rfl⟩
def aBF (C:Addr):Sp:=sp2 fun x y H Q=>∃ (p d:Addr) (fs ds:List Dv) (L:Int),x = .ref p ∧ LandAt C H p fs ds ∧ y = .ref d ∧ H d = some (.dK (dO (aQ fs ds L))) ∧ ∀ (o:Obj) (l:Addr) (us:List V) (H':Hp),aJ (upd H d (.frz o (.dK (dO (aQ fs ds L))))) H' → H l = none → H' l = some (.lst us) → IsL H' ((Mt61.stepsOf (aQ fs ds L)).map bQ) us → Q (.ref l) H'
theorem sX (T:Txt K mg C):Fc P w K mg base 2 "steps_over" ["land","names"] (aBF C):=by
 have G_land_p_dyke:Mc P w K mg base 1 C "dyke" ["self","name"] (tP C):=jO T
 refine T.d_p_steps_over.fc fW iL (fun f cdv A outer s H vs Q E hr h=>?_)
 obtain ⟨x,y,rfl,p,d,fs,ds,lv,rfl,L,rfl,hd,q⟩:=h
 have big:=bO
 have gf:=(cI L).1
 have gd:=(cI L).2
 have d2:=gd.l2
 have GG:=qF gf gd lv
 have gl:=qG fs ds lv
 refine ⟨_,(@aG _ _ _ _ _ (@aU _ _ (2) _ _ _ _ fW.nd rfl (Or.inl rfl) (@cY _ _ _ _ aD) (by rfl) (by trivial)) (@aG _ _ _ _ _ (@fG _ _ _ _ _ _ _ _ BC rfl (@zR _ _ _ _ (pv 1)) (@aW _ _ (3) _ fW.nd rfl (Or.inl rfl) (by trivial)) (@aG _ _ _ _ _ (@aU _ _ (4) _ _ _ _ fW.nd rfl (Or.inl rfl) (@aOD _ _ _ _ _ _ _ _ _ _ _ _ _ _ T.cl_Land G_land_p_dyke (hr.mono (by decide)) (pv 0) (@aA _ _ _ _ _ (pv 3) aD (by rfl)) (by rfl) (by rfl) (by rfl)) (by rfl) (by trivial)) (@aG _ _ _ _ _ (@fD _ _ _ _ (@kX _ _ _ _ _ _ _ _ _ _ _ _ BI BR BQ eM (pv 2) (@aA _ _ _ _ _ (@dZ _ _ _ _ _ (@aA _ _ _ _ _ (pv 3) (@aA _ _ _ _ _ (@bE _ _ _ _ _ _ _ (@aV _ (K) rfl) (pv 4) aF (fun _ _=>rfl)) (@aA _ _ _ _ _ (@bE _ _ _ _ _ _ _ (@aV _ (K) rfl) (pv 4) aF (fun _ _=>rfl)) (@aA _ _ _ _ _ aF aD (by rfl)) (by rfl)) (by rfl)) (by rfl))) aD (by rfl)) (by rfl) (by rfl) (by rfl) (by rfl) (by rfl)) (by rfl)) (@aH _ _ _ (@fD _ _ _ _ (@kX _ _ _ _ _ _ _ _ _ _ _ _ BI BR BQ eM (pv 2) (@aA _ _ _ _ _ (@dZ _ _ _ _ _ (@aA _ _ _ _ _ (pv 3) (@aA _ _ _ _ _ (@bE _ _ _ _ _ _ _ (@aV _ (K) rfl) (pv 4) aF (fun _ _=>rfl)) (@aA _ _ _ _ _ (@bE _ _ _ _ _ _ _ (@aV _ (K) rfl) (pv 4) aF (fun _ _=>rfl)) (@aA _ _ _ _ _ (@aPW _ _ _ _ _ _ aJC aF) aD (by rfl)) (by rfl)) (by rfl)) (by rfl))) aD (by rfl)) (by rfl) (by rfl) (by rfl) (by rfl) (by rfl)) (by rfl))))) (by intro _;rfl)) (@aH _ _ _ (@aT _ _ _ _ (pv 2))))),?_⟩
 refine ⟨aX rfl,fun l hl=>?_⟩
 have S1:=aJ.upd (o:=.lst []) hl
 have nld:d ≠ l:=aO hd hl
 refine ⟨_,rfl,d,_,rfl,by rw [aI nld];exact hd,fun o=>?_⟩
 have nr:∀ v ∈ (dO (aQ fs ds lv)).map (·.2),∀ a,v ≠ .ref a:=fun v m a e=>by
  obtain ⟨kv,mk,rfl⟩:=AS.mp m
  obtain ⟨g,_,rfl⟩:=AS.mp mk
  cases e
 have L0:LandAt C (upd H d (.frz o (.dK (dO (aQ fs ds lv))))) p fs ds:=aLK L hd nr
 have hl0:upd H d (.frz o (.dK (dO (aQ fs ds lv)))) l = none:=by rw [aI (Ne.symm nld)];exact hl
 have SS:aJ (upd H d (.frz o (.dK (dO (aQ fs ds lv))))) (upd (upd H l (.lst [])) d (.frz o (.dK (dO (aQ fs ds lv))))):=fun b u e=>by
  by_cases hb:b = d
  ·subst hb
   rw [aE] at e ⊢
   exact e
  ·rw [aI hb] at e ⊢
   exact S1 _ _ e
 have r1:upd (upd H l (.lst [])) d (.frz o (.dK (dO (aQ fs ds lv)))) l = some (.lst []):=by rw [aI (Ne.symm nld),aE]
 have qq:=fun us H'=>q o l us H'
 have dF:upd H d (.frz o (.dK (dO (aQ fs ds lv)))) d = some (.frz o (.dK (dO (aQ fs ds lv)))):=aE
 generalize upd (upd H l (.lst [])) d (.frz o (.dK (dO (aQ fs ds lv)))) = H2 at SS r1
 generalize upd H d (.frz o (.dK (dO (aQ fs ds lv)))) = H0 at L0 hl0 SS qq dF
 refine aLY (fun i σ H'=>∃ (v3 v4:Option V) (us:List V),σ = [some (.ref p),some (.ref d),some (.ref l),v3,v4] ∧ aJ H0 H' ∧ H' l = some (.lst us) ∧ IsL H' ((Mt61.stepsOf ((aQ fs ds lv).take i)).map bQ) us) ⟨_,_,[],rfl,SS,r1,rfl⟩ (fun i σ H' _ ⟨_,_,_,_,S',_⟩=>S' _ _ dF) ?_ ?_
 ·rintro i kv σ H' hk ⟨v3,v4,us,rfl,S',hl',ius⟩
  unfold dO at hk
  rw [AI] at hk
  obtain ⟨g,eg,ekv⟩:=Ao.mp hk
  have hil:=(AB.mp eg).1
  have mg':=AM eg
  obtain ⟨dk,mdk,hg,rfl,en⟩:=aCU gd mg'
  have L':=L0.same S'
  obtain ⟨dx,d1,d2',hx,_⟩:=L'.ex
  have lus:=ius.length
  rw [AA,nX,AW] at lus
  have et:Mt61.stepsOf ((aQ fs ds lv).take (i + 1)) = Mt61.stepsOf ((aQ fs ds lv).take i) ++ [up (gOf lv dk),dn (gOf lv dk)]:=by
   unfold Mt61.stepsOf
   rw [AX,eg,List.flatMap_append]
   rfl
  obtain ⟨n,a,b,c,r,sl,rfl,_⟩:=bU (gd.all dk mdk)
  have ek:kV kv.1 = V.str n:=by rw [← ekv];rfl
  rw [ek]
  refine ⟨_,rfl,p,dx,_,rfl,hx,kZ _ _ (by decide +kernel) (by decide +kernel),_,rfl,_,_,rfl,p,fs,ds,_,rfl,rfl,L',mdk,fun v iv=>?_⟩
  obtain ⟨t,sv,rfl,ot,isv⟩:=lG iv
  refine ⟨_,rfl,.inl ⟨rfl,_,SqL.of hl'⟩,_,rfl,_,rfl,t,_,1,.str a,rfl,rfl,SqT.of ot,aN (j:=1) rfl,_,rfl,t,_,2,.str b,rfl,rfl,SqT.of ot,aN (j:=2) rfl,aX rfl,fun ta hta=>?_⟩
  have Sa:=aJ.upd (o:=.tup [.str n,.str a,.str b,.int 1]) hta
  have ra:upd H' ta (.tup [.str n,.str a,.str b,.int 1]) ta = _:=aE
  generalize upd H' ta (.tup [.str n,.str a,.str b,.int 1]) = Ha at Sa ra
  have hla:=Sa _ _ hl'
  refine ⟨l,us,.ref ta,rfl,rfl,hla,by omega,?_⟩
  have KT:=iN.lst (o:=.lst (us ++ [.ref ta])) hla
  have Sb:aJ H0 (upd Ha l (.lst (us ++ [.ref ta]))):=(S'.trans Sa).over hl0
  have rb:upd Ha l (.lst (us ++ [.ref ta])) l = some (.lst (us ++ [.ref ta])):=aE
  have ib:IsL (upd Ha l (.lst (us ++ [.ref ta]))) ((Mt61.stepsOf ((aQ fs ds lv).take i)).map bQ ++ [bQ (up ⟨n,a,b,r * (lv - c)⟩)]) (us ++ [.ref ta]):=by
   refine IsL.keep KT _ _ (fV fun d m=>?_) (IsL.snoc (xI ra) (IsL.same Sa _ _ ius))
   rcases Ar.mp m with m | m
   ·obtain ⟨s,_,rfl⟩:=AS.mp m
    exact gA s
   ·rw [AV.mp m]
    exact gA _
  have ob:=KT _ _ (Sa _ _ ot)
  generalize upd Ha l (.lst (us ++ [.ref ta])) = Hb at Sb rb ib ob
  refine ⟨_,rfl,.inl ⟨rfl,_,SqL.of rb⟩,_,rfl,_,rfl,t,_,2,.str b,rfl,rfl,SqT.of ob,aN (j:=2) rfl,_,rfl,t,_,1,.str a,rfl,rfl,SqT.of ob,aN (j:=1) rfl,_,rfl,aX rfl,fun tb htb=>?_⟩
  have Sc:=aJ.upd (o:=.tup [.str n,.str b,.str a,.int (-1)]) htb
  have rc:upd Hb tb (.tup [.str n,.str b,.str a,.int (-1)]) tb = _:=aE
  generalize upd Hb tb (.tup [.str n,.str b,.str a,.int (-1)]) = Hc at Sc rc
  have hlc:=Sc _ _ rb
  refine ⟨l,us ++ [.ref ta],.ref tb,rfl,rfl,hlc,by rw [Ae];show _ + 1 < _;omega,?_⟩
  have KT2:=iN.lst (o:=.lst (us ++ [.ref ta] ++ [.ref tb])) hlc
  refine ⟨_,_,us ++ [.ref ta] ++ [.ref tb],rfl,(Sb.trans Sc).over hl0,aE,?_⟩
  rw [et,AT]
  show IsL _ (_ ++ [bQ (up ⟨n,a,b,r * (lv - c)⟩),bQ (dn ⟨n,a,b,r * (lv - c)⟩)]) _
  rw [show ∀ (xs:List Dv) (p q:Dv),xs ++ [p,q] = xs ++ [p] ++ [q] from fun xs p q=>by simp]
  refine IsL.keep KT2 _ _ (fV fun d m=>?_) (IsL.snoc (xI (s:=dn ⟨n,a,b,r * (lv - c)⟩) rc) (IsL.same Sc _ _ ib))
  rcases Ar.mp m with m | m
  ·rcases Ar.mp m with m | m
   ·obtain ⟨s,_,rfl⟩:=AS.mp m
    exact gA s
   ·rw [AV.mp m]
    exact gA _
  ·rw [AV.mp m]
   exact gA _
 ·rintro σ H' ⟨v3,v4,us,rfl,S',hl',ius⟩
  rw [lD,AF (AN _)] at ius
  exact ⟨_,rfl,qq us H' S' hl hl' ius⟩
open Mt22 MtF Mt31 Mt61
def CV (H:Hp) (o:Option Mt22.St) (v:V):Prop:=match o with
 | none=>v = .non
 | some s=>Is H (bQ s) v
theorem CV.same {H H':Hp} (S:aJ H H') {o:Option Mt22.St} {v:V} (h:CV H o v):CV H' o v:=by
 cases o with
 | none=>exact h
 | some s=>exact Is.same S _ _ h
theorem CV.keep {H H':Hp} (S:iN H H') {o:Option Mt22.St} {v:V} (h:CV H o v):CV H' o v:=by
 cases o with
 | none=>exact h
 | some s=>exact Is.keep S _ _ (gA s) h
structure CamKV (H:Hp) (kvs:List (Key × V)) (cm:Cm):Prop where
 len:kvs.length = cm.length
 at':∀ (i:Nat) (z:Str) (o:Option Mt22.St),cm[i]? = some (z,o) → ∃ v,kvs[i]? = some (Sum.inr z,v) ∧ CV H o v
theorem CamKV.keys {H:Hp} {kvs:List (Key × V)} {cm:Cm} (h:CamKV H kvs cm):kvs.map (·.1) = (Mt31.keys cm).map Sum.inr:=by
 apply List.ext_getElem?
 intro i
 unfold Mt31.keys
 rw [AI,AI,AI]
 cases e:cm[i]? with
 | none =>
  rw [List.getElem?_eq_none_iff] at e
  rw [List.getElem?_eq_none (by rw [h.len];exact e)]
  rfl
 | some x =>
  obtain ⟨z,o⟩:=x
  obtain ⟨v,ev,_⟩:=h.at' i z o e
  rw [ev]
  rfl
theorem CamKV.same {H H':Hp} (S:aJ H H') {kvs:List (Key × V)} {cm:Cm} (h:CamKV H kvs cm):CamKV H' kvs cm :=
 ⟨h.len,fun i z o e=>by obtain ⟨v,e1,c⟩:=h.at' i z o e;exact ⟨v,e1,c.same S⟩⟩
theorem CamKV.keep {H H':Hp} (S:iN H H') {kvs:List (Key × V)} {cm:Cm} (h:CamKV H kvs cm):CamKV H' kvs cm :=
 ⟨h.len,fun i z o e=>by obtain ⟨v,e1,c⟩:=h.at' i z o e;exact ⟨v,e1,c.keep S⟩⟩
theorem aBB {κ:Type} [DecidableEq κ]:∀ {kvs:List (κ × V)} {i:Nat} {k:κ} {v:V},(kvs.map (·.1)).Nodup → kvs[i]? = some (k,v) → cX kvs k = some v
 | p :: r,0,k,v,nd,e=>by cases e;exact cP rfl
 | p :: r,i + 1,k,v,nd,e=>by
  rw [AY,Ak] at nd
  have e':r[i]? = some (k,v):=e
  rw [cQ (fun c=>nd.1 (by rw [c];exact AS.mpr ⟨_,AM e',rfl⟩))]
  exact aBB nd.2 e'
theorem aEK {zs:List Str} (h:zs.Nodup):(zs.map (Sum.inr:Str → Key)).Nodup:=(hG zs).mpr h
theorem CamKV.val {H:Hp} {S:List Mt22.St} {kvs:List (Key × V)} {cm:Cm} (h:CamKV H kvs cm) (c:Came S cm) {i:Nat} {z:Str} {o:Option Mt22.St} (e:cm[i]? = some (z,o)):∃ v,cX kvs (Sum.inr z) = some v ∧ CV H o v:=by
 obtain ⟨v,ev,cv⟩:=h.at' i z o e
 exact ⟨v,aBB (by rw [h.keys];exact aEK c.nd) ev,cv⟩
theorem CamKV.none {H:Hp} {kvs:List (Key × V)} {cm:Cm} (h:CamKV H kvs cm) {z:Str} (n:¬ z ∈ Mt31.keys cm):cX kvs (Sum.inr z) = none:=by
 cases e:cX kvs (Sum.inr z) with
 | none=>rfl
 | some v =>
  have:=aND e
  rw [h.keys] at this
  obtain ⟨y,my,ey⟩:=AS.mp this
  cases ey
  exact absurd my n
theorem CamKV.some {H:Hp} {kvs:List (Key × V)} {cm:Cm} (h:CamKV H kvs cm) {z:Str} (n:z ∈ Mt31.keys cm):(cX kvs (Sum.inr z)).isSome = true:=by
 cases e:cX kvs (Sum.inr z) with
 | some v=>rfl
 | none =>
  have:=aIZ e
  rw [h.keys] at this
  exact absurd (AS.mpr ⟨z,n,rfl⟩) this
theorem aUT (x:V) (r:List V):seqIndex? 0 (x :: r).length = some 0:=by
 rw [Aj]
 unfold seqIndex?
 simp
 try omega
theorem kK {H:Hp} {s:Mt22.St} {v:V} (h:Is H (bQ s) v):∃ t,v = .ref t ∧ H t = some (.tup [.str s.nm,.str s.near,.str s.far,.int s.h]):=by
 obtain ⟨t,us,rfl,o,v0,r0,rfl,i0,v1,r1,rfl,i1,v2,r2,rfl,i2,v3,r3,rfl,i3,h0⟩:=h
 cases (show r3 = [] from h0)
 cases (show v0 = _ from i0)
 cases (show v1 = _ from i1)
 cases (show v2 = _ from i2)
 cases (show v3 = _ from i3)
 exact ⟨t,rfl,o⟩
theorem lU (a b:Str):decide (V.str a = V.str b) = decide (a = b):=by
 by_cases h:a = b
 ·subst h;simp
 ·rw [decide_eq_false h,decide_eq_false (fun c=>h (by cases c;rfl))]
def qM:Sp:=sp2 fun x y H Q=>∃ (ls lt:Addr) (us:List V) (S:List Mt22.St) (zs V0:List Str),x = .ref ls ∧ y = .ref lt ∧ zs.Nodup ∧ (∀ z ∈ zs,z ∈ V0) ∧ H ls = some (.lst (zs.map V.str)) ∧ H lt = some (.lst us) ∧ IsL H (S.map bQ) us ∧ S.length ≤ 80 ∧ V0.length ≤ 13 ∧ (∀ s ∈ S,s.far ∈ V0) ∧
 ∀ (d:Addr) (cm:Cm) (kvs:List (Key × V)) (H':Hp),aJ H H' → H d = none → H' d = some (.dK kvs) → CamKV H' kvs cm → CameG zs S cm → tG S cm cm.length → cm.length ≤ 13 → Q (.ref d) H'
theorem sJ (T:Txt K mg C):Fc P w K mg base 1 "spread" ["starts","steps"] qM:=by
 refine T.d_p_spread.fc iA iL (fun f cdv A outer s H vs Q E hr h=>?_)
 obtain ⟨x,y,rfl,ls,lt,us,S,zs,V0,rfl,rfl,ndz,sV,hls,hlt,ius,lS,lV,farV,q⟩:=h
 have lz:zs.length ≤ 13:=by have:=aAE ndz sV;omega
 have big:=bO
 have hu:=jZ hr
 have lus:=ius.length
 rw [AA] at lus
 have lcm:∀ cm:Cm,CameG zs S cm → (∀ z ∈ keys cm,z ∈ V0) → cm.length ≤ 13:=fun cm c sub=>by
  have:=aAE c.nd sub
  unfold keys at this
  rw [AA] at this
  omega
 refine ⟨_,(@aG _ _ _ _ _ (@aU _ _ (2) _ _ _ _ iA.nd rfl (Or.inl rfl) (@bV _ _ _ _ _ _ _ _ _ (@dL _ rfl) rfl T.n_dict fB (@aA _ _ _ _ _ (@bS _ _ _ _ _ _ _ _ _ _ _ ["side"] 1 [] rfl (@bJ _ _ _ _ (pv 0)) (fun R=>@aW _ _ (0) _ (show Au (["side"]:List Str) by decide +kernel) rfl (Or.inl rfl) (by trivial)) (@aY _ _ (by decide)) (fun R=>bW) (fun R=>(@dZ _ _ _ _ _ (@aA _ _ _ _ _ (pv 0) (@aA _ _ _ _ _ zT aD (by rfl)) (by rfl)))) (by rfl) (by rfl) (by rfl) (by rfl) (by rfl) (by rfl) (by rfl) (by intro _;rfl)) aD (by rfl)) (by decide) (by decide) (by rfl) (by rfl)) (by rfl) (by trivial)) (@aG _ _ _ _ _ (@aU _ _ (3) _ _ _ _ iA.nd rfl (Or.inl rfl) (@bV _ _ _ _ _ _ _ _ _ (@kI _ (K) rfl) rfl T.n_list dH (@aA _ _ _ _ _ (pv 0) aD (by rfl)) (by decide) (by decide) (by rfl) (by rfl)) (by rfl) (by trivial)) (@aG _ _ _ _ _ (@mP _ _ _ _ _ _ BC (@aEB _ _ _ (pv 3) (by intro _;rfl)) (@aG _ _ _ _ _ (@aU _ _ (4) _ _ _ _ iA.nd rfl (Or.inl rfl) (@kX _ _ _ _ _ _ _ _ _ _ _ _ BI PySem.F.slot_list_pop PySem.F.type_list_pop aCK (pv 3) (@aA _ _ _ _ _ aF aD (by rfl)) (by rfl) (by rfl) (by rfl) (by rfl) (by rfl)) (by rfl) (by trivial)) (@aH _ _ _ (@fG _ _ _ _ _ _ _ _ BC rfl (@bJ _ _ _ _ (pv 1)) (@aW _ _ (5) _ iA.nd rfl (Or.inl rfl) (by trivial)) (@aH _ _ _ (@fE _ _ _ _ _ _ _ _ (@PW.pt _ _ _ (@aEA _ _ _ _ _ _ _ (@cC _ _ _ _ _ _ _ _ pV (@bE _ _ _ _ _ _ _ (@aV _ (K) rfl) (pv 5) aF (fun _ _=>rfl)) (pv 4) (@bX _ _ (by decide) (by decide))) (@zN _ _ _ _ (@uM _ _ _ _ _ _ (@qU _ _ _ _ _ hu (@bE _ _ _ _ _ _ _ (@aV _ (K) rfl) (pv 5) aF (fun _ _=>rfl)) (pv 2)) (by first | exact nobehind _ (by decide) (by decide) | rfl))))) (@aG _ _ _ _ _ (@tQ _ _ _ _ _ _ _ _ _ hu (pv 2) (@bE _ _ _ _ _ _ _ (@aV _ (K) rfl) (pv 5) aF (fun _ _=>rfl)) (pv 5) rfl) (@aH _ _ _ (@fD _ _ _ _ (@kX _ _ _ _ _ _ _ _ _ _ _ _ BI BR BQ eM (pv 3) (@aA _ _ _ _ _ (@bE _ _ _ _ _ _ _ (@aV _ (K) rfl) (pv 5) aF (fun _ _=>rfl)) aD (by rfl)) (by rfl) (by rfl) (by rfl) (by rfl) (by rfl)) (by rfl)))) cG)) (by intro _;rfl))))) (@aH _ _ _ (@aT _ _ _ _ (pv 2)))))),?_⟩
 refine ⟨_,rfl,ls,rfl,⟨_,SqL.of hls⟩,?_⟩
 refine bG (F:=K) (xs:=zs.map V.str) (by rw [AA];omega) (fun i ys H'=>aJ H H' ∧ bN H' ys ((zs.take i).map fun z=>((Sum.inr z,.non):Key × V))) ⟨aJ.refl _,bN.nil _⟩ ?_ ?_ ?_
 ·rintro i ys H' hi' ⟨S',pa⟩
  have:=pa.len
  rw [AA,AW] at this
  exact ⟨SqL.of (S' _ _ hls),by omega⟩
 ·rintro i xv ys H' K1 K2 hx' ⟨S',pa⟩ k1 k2
  rw [AI] at hx'
  obtain ⟨z,ez,rfl⟩:=Ao.mp hx'
  refine ⟨_,rfl,aX rfl,fun p3 hp3=>k1 _ _ ⟨S'.trans (aJ.upd hp3),?_⟩⟩
  rw [AX,ez,AT]
  exact bN.snoc (k:=Sum.inr z) pa hp3
 rintro ys H1 ⟨S1,pa⟩
 rw [AA,AF (AN _)] at pa
 intro p4 hp4
 have S2:=aJ.upd (o:=.lst ys) hp4
 have kz:(zs.map fun z=>((Sum.inr z,.non):Key × V)).map (·.1) = zs.map Sum.inr:=by rw [Al];rfl
 refine ⟨p4,ys,zs.map fun z=>((Sum.inr z,.non):Key × V),rfl,SqL.of aE,pa.same S2,by rw [AA];omega,by rw [kz];exact (hG zs).mpr ndz,fun d hd=>?_⟩
 have S3:=aJ.upd (o:=.dK (zs.map fun z=>((Sum.inr z,.non):Key × V))) hd
 have T3:=S1.trans (S2.trans S3)
 have hd0:=(S1.trans S2).free hd
 refine ⟨_,rfl,ls,_,rfl,.inl (SqL.of (T3 _ _ hls)),fun lw hlw=>?_⟩
 have S4:=aJ.upd (o:=.lst (zs.map V.str)) hlw
 have T4:=T3.trans S4
 have hd4:upd (upd (upd H1 p4 (.lst ys)) d (.dK (zs.map fun z=>((Sum.inr z,.non):Key × V)))) lw (.lst (zs.map V.str)) d = some (.dK (zs.map fun z=>((Sum.inr z,.non):Key × V))):=S4 _ _ aE
 have hw4:upd (upd (upd H1 p4 (.lst ys)) d (.dK (zs.map fun z=>((Sum.inr z,.non):Key × V)))) lw (.lst (zs.map V.str)) lw = some (.lst (zs.map V.str)):=aE
 have hlw0:=T3.free hlw
 have ndw:d ≠ lw:=aO (show upd (upd H1 p4 (.lst ys)) d (.dK (zs.map fun z=>((Sum.inr z,.non):Key × V))) d = some _ from aE) hlw
 generalize upd (upd (upd H1 p4 (.lst ys)) d (.dK (zs.map fun z=>((Sum.inr z,.non):Key × V)))) lw (.lst (zs.map V.str)) = H4 at T4 hd4 hw4
 have c0:CameG zs S (zs.map fun z=>(z,none)):=CameG.init S ndz
 have k00:keys (zs.map fun z=>((z,none):Str × Option Mt22.St)) = zs:=by unfold keys;rw [Al];exact List.map_id _
 have k0:CamKV H4 (zs.map fun z=>((Sum.inr z,.non):Key × V)) (zs.map fun z=>(z,none)):=⟨by rw [AA,AA],fun i z o e=>by
  rw [AI] at e
  obtain ⟨z',ez,e'⟩:=Ao.mp e
  cases e'
  exact ⟨.non,by rw [AI,ez];rfl,rfl⟩⟩
 refine mH (fun σ H'=>∃ (v4 v5:Option V) (p:Nat) (cm:Cm) (kvs:List (Key × V)),σ = [some (.ref ls),some (.ref lt),some (.ref d),some (.ref lw),v4,v5] ∧ aJ H H' ∧ H' d = some (.dK kvs) ∧ CamKV H' kvs cm ∧ CameG zs S cm ∧ (∀ z ∈ keys cm,z ∈ V0) ∧ p ≤ cm.length ∧ H' lw = some (.lst (((keys cm).drop p).map V.str)) ∧ tG S cm p)
  (fun _ H'=>match H' d,H' lw with | some (.dK kvs),some (.lst ws)=>14 - (kvs.length - ws.length) | _,_=>0) ⟨_,_,0,zs.map fun z=>(z,none),_,rfl,T4,hd4,k0,c0,(fun z m=>by rw [k00] at m;exact sV z m),BK _,by rw [k00,EC];exact hw4,(fun i u hi=>absurd hi (by omega))⟩ ?_ ?_
 ·rintro σ H5 ⟨v4,v5,p,cm,kvs,rfl,S5,hd5,ck,c,sub,hp,hw5,op⟩
  have l13:=lcm cm c sub
  refine ⟨_,rfl,lw,_,rfl,SqL.of hw5,?_⟩
  have kl:(keys cm).length = cm.length:=by unfold keys;rw [AA]
  by_cases hpl:p < cm.length
  ·obtain ⟨u,eu⟩:∃ u,(keys cm)[p]? = some u:=⟨_,AC (by omega)⟩
   have ed:(keys cm).drop p = u :: (keys cm).drop (p + 1):=by
    obtain ⟨h1,h2⟩:=AB.mp eu
    rw [← h2]
    exact (List.getElem_cons_drop h1).symm
   rw [ed] at hw5 ⊢
   refine cW ?_
   refine ⟨_,rfl,.inl ⟨rfl,_,SqL.of hw5⟩,lw,_,0,0,.str u,rfl,rfl,hw5,by decide,by decide,aUT _ _,rfl,?_⟩
   have hw6:upd H5 lw (.lst (((u :: (keys cm).drop (p + 1)).map V.str).eraseIdx 0)) lw = some (.lst (((keys cm).drop (p + 1)).map V.str)):=aE
   have hd6:upd H5 lw (.lst (((u :: (keys cm).drop (p + 1)).map V.str).eraseIdx 0)) d = some (.dK kvs):=by rw [aI ndw];exact hd5
   have ck6:=ck.keep (iN.lst (o:=.lst (((u :: (keys cm).drop (p + 1)).map V.str).eraseIdx 0)) hw5)
   have S6:aJ H (upd H5 lw (.lst (((u :: (keys cm).drop (p + 1)).map V.str).eraseIdx 0))):=S5.over hlw0
   generalize upd H5 lw (.lst (((u :: (keys cm).drop (p + 1)).map V.str).eraseIdx 0)) = H6 at hw6 hd6 ck6 S6
   refine ⟨_,rfl,lt,rfl,⟨_,SqL.of (S6 _ _ hlt)⟩,jR (K:=K) (a:=lt) (xs:=us)
    (fun j σ H'=>∃ (v5:Option V) (more:Cm) (kvs:List (Key × V)),σ = [some (.ref ls),some (.ref lt),some (.ref d),some (.ref lw),some (.str u),v5] ∧ aJ H H' ∧ H' d = some (.dK kvs) ∧ CamKV H' kvs (cm ++ more) ∧ CameG zs S (cm ++ more) ∧ (∀ z ∈ keys (cm ++ more),z ∈ V0) ∧ H' lw = some (.lst (((keys (cm ++ more)).drop (p + 1)).map V.str)) ∧ tG S (cm ++ more) p ∧ ∀ s ∈ S.take j,s.near = u → s.far ∈ keys (cm ++ more))
    ⟨_,[],kvs,rfl,S6,hd6,by rw [Bp];exact ck6,by rw [Bp];exact c,by rw [Bp];exact sub,by rw [Bp];exact hw6,by rw [Bp];exact op,(fun s m=>by cases m)⟩ (fun j σ H' _ ⟨_,_,_,_,S',_⟩=>SqL.of (S' _ _ hlt)) ?_ ?_⟩
   ·rintro j xv σ H7 hj ⟨w5,more,kvs7,rfl,S7,hd7,ck7,c7,sub7,hw7,op7,cl7⟩
    have hjl:j < us.length:=(AB.mp hj).1
    obtain ⟨st,es⟩:∃ st,S[j]? = some st:=⟨_,AC (by omega)⟩
    obtain ⟨v,ev,iv⟩:=ius.get (show (S.map bQ)[j]? = some (bQ st) by rw [AI,es];rfl)
    rw [hj] at ev
    cases ev
    have ms:=AM es
    obtain ⟨t,rfl,o⟩:=kK iv
    have o7:=S7 _ _ o
    have et:S.take (j + 1) = S.take j ++ [st]:=by rw [AX,es];rfl
    have l7:=lcm _ c7 sub7
    have kl7:(keys (cm ++ more)).length = (cm ++ more).length:=by unfold keys;rw [AA]
    have lw7:(((keys (cm ++ more)).drop (p + 1)).map V.str).length ≤ 13:=by rw [AA,CT];omega
    have uk:u ∈ keys (cm ++ more):=by rw [lA];exact Bv _ (AM eu)
    refine ⟨_,rfl,t,_,1,.str st.near,rfl,rfl,SqT.of o7,aN (j:=1) rfl,_,rfl,rfl,_,rfl,?_⟩
    rw [lU]
    refine oJ (fun c1=>?_) (fun c1=>?_)
    ·have e1:st.near = u:=of_decide_eq_true c1
     refine ⟨_,rfl,t,_,2,.str st.far,rfl,rfl,SqT.of o7,aN (j:=2) rfl,_,rfl,d,_,rfl,.inl ⟨kvs7,Sum.inr st.far,.inl hd7,rfl,rfl⟩,_,rfl,?_⟩
     by_cases hk:st.far ∈ keys (cm ++ more)
     ·rw [ck7.some hk]
      refine bM ⟨_,more,kvs7,rfl,S7,hd7,ck7,c7,sub7,hw7,op7,fun s m en=>?_⟩
      rw [et] at m
      rcases Ar.mp m with m | m
      ·exact cl7 s m en
      ·rw [AV.mp m];exact hk
     ·have hno:=ck7.none hk
      rw [hno]
      refine cW ?_
      have lkv:kvs7.length < Aq:=by rw [ck7.len];omega
      refine ⟨_,rfl,_,rfl,_,rfl,t,_,2,.str st.far,rfl,rfl,SqT.of o7,aN (j:=2) rfl,d,_,rfl,.inl ⟨kvs7,Sum.inr st.far,hd7,rfl,lkv,rfl⟩,?_⟩
      rw [aKN _ hno]
      have KT1:iN H7 (upd H7 d (.dK (kvs7 ++ [(Sum.inr st.far,.ref t)]))):=fun b ys e=>by
       rw [aI (fun eb=>by rw [eb,hd7] at e;cases e)]
       exact e
      have hw8:upd H7 d (.dK (kvs7 ++ [(Sum.inr st.far,.ref t)])) lw = some (.lst (((keys (cm ++ more)).drop (p + 1)).map V.str)):=by rw [aI (Ne.symm ndw)];exact hw7
      have o8:upd H7 d (.dK (kvs7 ++ [(Sum.inr st.far,.ref t)])) t = some (.tup [.str st.nm,.str st.near,.str st.far,.int st.h]):=KT1 _ _ o7
      have hd8:upd H7 d (.dK (kvs7 ++ [(Sum.inr st.far,.ref t)])) d = some (.dK (kvs7 ++ [(Sum.inr st.far,.ref t)])):=aE
      have S8:aJ H (upd H7 d (.dK (kvs7 ++ [(Sum.inr st.far,.ref t)]))):=S7.over hd0
      have ck8:=ck7.keep KT1
      generalize upd H7 d (.dK (kvs7 ++ [(Sum.inr st.far,.ref t)])) = H8 at hw8 o8 hd8 S8 ck8
      refine ⟨_,rfl,.inl ⟨rfl,_,SqL.of hw8⟩,_,rfl,t,_,2,.str st.far,rfl,rfl,SqT.of o8,aN (j:=2) rfl,lw,_,.str st.far,rfl,rfl,hw8,by omega,?_⟩
      have KT2:=iN.lst (o:=.lst (((keys (cm ++ more)).drop (p + 1)).map V.str ++ [.str st.far])) hw8
      have c9:=c7.snoc ms (by rw [e1];exact uk) hk
      rw [Bc] at c9
      have kk:keys (cm ++ (more ++ [(st.far,some st)])) = keys (cm ++ more) ++ [st.far]:=by rw [← Bc,lA];rfl
      refine ⟨_,more ++ [(st.far,some st)],kvs7 ++ [(Sum.inr st.far,.ref t)],rfl,S8.over hlw0,by rw [aI ndw];exact hd8,?_,c9,?_,?_,?_,?_⟩
      ·rw [← Bc]
       have ck9:=ck8.keep KT2
       refine ⟨by rw [Ae,Ae,ck9.len];rfl,fun i z o' e=>?_⟩
       by_cases hi:i < (cm ++ more).length
       ·rw [BX hi] at e
        obtain ⟨v,ev,cv⟩:=ck9.at' i z o' e
        exact ⟨v,by rw [BX (by rw [ck9.len];exact hi)];exact ev,cv⟩
       ·have hle:=(AB.mp e).1
        rw [Ae] at hle
        have h1':([(st.far,some st)]:Cm).length = 1:=rfl
        have hie:i = (cm ++ more).length:=by omega
        subst hie
        rw [CF (AN _),Nat.sub_self] at e
        cases e
        refine ⟨.ref t,by rw [CF (by rw [ck9.len];exact AN _),ck9.len,Nat.sub_self];rfl,?_⟩
        exact ⟨t,_,rfl,KT2 _ _ o8,_,_,rfl,rfl,_,_,rfl,rfl,_,_,rfl,rfl,_,_,rfl,rfl,rfl⟩
      ·intro z m
       rw [kk] at m
       rcases Ar.mp m with m | m
       ·exact sub7 z m
       ·rw [AV.mp m];exact farV st ms
      ·rw [aE,kk,List.drop_append_of_le_length (by rw [kl7,Ae];omega),AT]
       rfl
      ·rw [← Bc]
       exact op7.snoc (by rw [Ae];omega) _
      ·intro s m en
       rw [kk]
       rw [et] at m
       rcases Ar.mp m with m | m
       ·exact Bv _ (cl7 s m en)
       ·rw [AV.mp m];exact Am _ (AV.mpr rfl)
    ·refine ⟨_,more,kvs7,rfl,S7,hd7,ck7,c7,sub7,hw7,op7,fun s m en=>?_⟩
     rw [et] at m
     rcases Ar.mp m with m | m
     ·exact cl7 s m en
     ·rw [AV.mp m] at en
      exact absurd (decide_eq_true en) c1
   ·rintro σ H7 ⟨w5,more,kvs7,rfl,S7,hd7,ck7,c7,sub7,hw7,op7,cl7⟩
    rw [AF (by omega)] at cl7
    have l7:=lcm _ c7 sub7
    have kl7:(keys (cm ++ more)).length = (cm ++ more).length:=by unfold keys;rw [AA]
    have ca:(cm ++ more).length = cm.length + more.length:=Ae
    refine ⟨⟨_,_,p + 1,cm ++ more,kvs7,rfl,S7,hd7,ck7,c7,sub7,by omega,hw7,fun i u' hi e s ms en=>?_⟩,?_⟩
    ·by_cases hip:i < p
     ·exact op7 i u' hip e s ms en
     ·have hie:i = p:=by omega
      subst hie
      rw [lA,BX (by omega),eu] at e
      cases e
      exact cl7 s ms en
    ·rw [hd7,hw7,hd5,hw5]
     dsimp only
     rw [ck7.len,ck.len,AA,AA,CT,Aj,CT]
     omega
  ·have hpe:p = cm.length:=by omega
   subst hpe
   rw [show (keys cm).drop cm.length = [] from Cy (by omega)]
   refine bM ⟨_,rfl,q d cm kvs H5 S5 hd0 hd5 ck c op l13⟩
 ·intro σ H Q Q' h hc
  obtain ⟨v,e,p,xs,e2,hq,q⟩:=hc
  exact ⟨v,e,p,xs,e2,hq,h _ _ q⟩
open Mt53 Mt22 MtF Mt31 Mt61
theorem xW {f:Gap → V}:∀ {G:List Gap} {g:Gap},(G.map (·.nm)).Nodup → g ∈ G → cX (G.map fun g=>((Sum.inr g.nm:Key),f g)) (Sum.inr g.nm) = some (f g)
 | e :: G,g,nd,m=>by
  rw [AY] at nd ⊢
  rw [Ak] at nd
  rcases Ah.mp m with rfl | m
  ·exact cP rfl
  ·rw [cQ (fun c=>nd.1 (by rw [CS c];exact AS.mpr ⟨g,m,rfl⟩))]
   exact xW nd.2 m
def dX (G:List Gap) (f:Fl):List (Key × V):=G.map fun g=>(Sum.inr g.nm,V.int (f g.nm))
theorem pP {H H':Hp} {a:Addr} {u:HO} (r:Rd H a u) (S:aJ H H'):Rd H' a u:=by
 rcases r with h | ⟨o,h⟩
 ·exact .inl (S _ _ h)
 ·exact .inr ⟨o,S _ _ h⟩
theorem pJ {G:List Gap} {s:Mt22.St} (m:s ∈ Mt61.stepsOf G):∃ g ∈ G,g.nm = s.nm ∧ (s.h = 1 ∨ s.h = -1):=by
 obtain ⟨g,mg,e⟩:=iY.mp m
 rcases e with rfl | rfl
 ·exact ⟨g,mg,rfl,.inl rfl⟩
 ·exact ⟨g,mg,rfl,.inr rfl⟩
def aDR:Sp:=sp3 fun x y u H Q=>∃ (dm de:Addr) (V0:List Str) (G:List Gap) (f:Fl) (s:Mt22.St),Is H (bQ s) x ∧ s ∈ Mt61.stepsOf G ∧ Gaps V0 G ∧ y = .ref dm ∧ Rd H dm (.dK (dO G)) ∧ u = .ref de ∧ Rd H de (.dK (dX G f)) ∧ Q (.int (Mt61.room G f s)) H
theorem xQ (T:Txt K mg C):Fc P w K mg base 1 "room" ["step","most","stream"] aDR:=by
 refine T.d_p_room.fc aHM pB (fun f cdv A outer s H vs Q E hr h=>?_)
 obtain ⟨x,y,u,rfl,dm,de,V0,G,fl,st,hx,ms,GG,rfl,hm,rfl,he,q⟩:=h
 have hu:=jZ hr
 obtain ⟨t,rfl,o⟩:=kK hx
 obtain ⟨g,mg',en,hh⟩:=pJ ms
 have v1:cX (dO G) (Sum.inr st.nm) = some (.int g.cap):=by rw [← en];exact xW (f:=fun g=>V.int g.cap) GG.nd mg'
 have v2:cX (dX G fl) (Sum.inr st.nm) = some (.int (fl st.nm)):=by rw [← en];exact xW (f:=fun g=>V.int (fl g.nm)) GG.nd mg'
 refine ⟨_,(@aH _ _ _ (@aT _ _ _ _ (@aM _ _ _ _ _ _ _ _ iO (@eB _ _ _ _ _ _ hu (pv 1) (@bE _ _ _ _ _ _ _ (@aV _ (K) rfl) (pv 0) aF (fun _ _=>rfl)) (fun _ _=>rfl)) (@aM _ _ _ _ _ _ _ _ mT (@bE _ _ _ _ _ _ _ (@aV _ (K) rfl) (pv 0) aF (fun _ _=>rfl)) (@eB _ _ _ _ _ _ hu (pv 2) (@bE _ _ _ _ _ _ _ (@aV _ (K) rfl) (pv 0) aF (fun _ _=>rfl)) (fun _ _=>rfl)))))),?_⟩
 refine ⟨_,rfl,_,rfl,t,_,0,.str st.nm,rfl,rfl,SqT.of o,aN (j:=0) rfl,dm,_,rfl,.inl ⟨_,Sum.inr st.nm,hm,rfl,v1.symm⟩,?_⟩
 refine ⟨_,rfl,t,_,3,.int st.h,rfl,rfl,SqT.of o,aN (j:=3) rfl,_,rfl,_,rfl,t,_,0,.str st.nm,rfl,rfl,SqT.of o,aN (j:=0) rfl,de,_,rfl,.inl ⟨_,Sum.inr st.nm,he,rfl,v2.symm⟩,?_⟩
 refine ⟨_,_,rfl,rfl,.inl (by rcases hh with h | h <;> rw [h] <;> exact ⟨by decide,by decide⟩),_,_,rfl,rfl,?_⟩
 have e:Mt61.room G fl st = g.cap - st.h * fl st.nm:=by
  unfold Mt61.room
  rw [← en,nN GG mg']
 rw [e] at q
 exact q
def vP (G:List Gap) (f:Fl):List Mt22.St:=(Mt61.stepsOf G).filter fun s=>decide (0 < Mt61.room G f s)
theorem aGV {V0:List Str} {G:List Gap} (GG:Gaps V0 G) {s:Mt22.St} (m:s ∈ Mt61.stepsOf G):s.near ∈ V0 ∧ s.far ∈ V0:=by
 obtain ⟨g,mg,e⟩:=iY.mp m
 obtain ⟨ha,hb,_⟩:=GG.ends g mg
 rcases e with rfl | rfl
 ·exact ⟨ha,hb⟩
 ·exact ⟨hb,ha⟩
def qN:Sp:=sp3 fun x y u H Q=>∃ (l dm de:Addr) (us:List V) (V0:List Str) (G:List Gap) (f:Fl),x = .ref l ∧ H l = some (.lst us) ∧ IsL H ((Mt61.stepsOf G).map bQ) us ∧ G.length ≤ 40 ∧ V0.length ≤ 13 ∧ Gaps V0 G ∧ y = .ref dm ∧ Rd H dm (.dK (dO G)) ∧ u = .ref de ∧ Rd H de (.dK (dX G f)) ∧
 ∀ (d:Addr) (cm:Cm) (kvs:List (Key × V)) (H':Hp),aJ H H' → H d = none → H' d = some (.dK kvs) → CamKV H' kvs cm → CameG [Mt22.sea] (vP G f) cm → tG (vP G f) cm cm.length → cm.length ≤ 13 → Q (.ref d) H'
theorem pX (T:Txt K mg C):Fc P w K mg base 2 "reached" ["steps","most","stream"] qN:=by
 have G_p_room:Fc P w K mg base 1 "room" ["step","most","stream"] aDR:=xQ T
 have G_p_spread:Fc P w K mg base 1 "spread" ["starts","steps"] qM:=sJ T
 refine T.d_p_reached.fc zI pB (fun f cdv A outer s H vs Q E hr h=>?_)
 obtain ⟨x,y,u,rfl,l,dm,de,us,V0,G,fl,rfl,hl,ius,g40,v13,GG,rfl,hm,rfl,he,q⟩:=h
 have big:=bO
 have lus:=ius.length
 have sl:=nX G
 rw [AA,sl] at lus
 refine ⟨_,(@aH _ _ _ (@aT _ _ _ _ (@bH _ _ _ _ _ _ _ _ _ _ G_p_spread (hr.mono (by decide)) (@aA _ _ _ _ _ (@cY _ _ _ _ (@aA _ _ _ _ _ (@sW _ _ _ _ T.g_SEA (by rfl) (by decide)) aD (by rfl))) (@aA _ _ _ _ _ (@bS _ _ _ _ _ _ _ _ _ _ _ ["step","most","stream"] 1 [1,2] rfl (@bJ _ _ _ _ (pv 0)) (fun R=>@aW _ _ (0) _ (show Au (["step","most","stream"]:List Str) by decide +kernel) rfl (Or.inl rfl) (by trivial)) (@aY _ _ (by decide)) (fun R=>@eX _ _ _ (@cC _ _ _ _ _ _ _ _ aLF (@bH _ _ _ _ _ _ _ _ _ _ G_p_room (hr.mono (by decide)) (@aA _ _ _ _ _ (pv 0) (@aA _ _ _ _ _ (pv 1) (@aA _ _ _ _ _ (pv 2) aD (by rfl)) (by rfl)) (by rfl)) (by rfl) (by decide) (by rfl) (by rfl)) aF (@bX _ _ (by decide) (by decide)))) (fun R=>(pv 0)) (by rfl) (by rfl) (by rfl) (by rfl) (by rfl) (by rfl) (by rfl) (by intro _;rfl)) aD (by rfl)) (by rfl)) (by rfl) (by decide) (by rfl) (by rfl)))),?_⟩
 refine ⟨aX rfl,fun l1 h1=>?_⟩
 have S1:=aJ.upd (o:=.lst [.str "sea"]) h1
 have r1:upd H l1 (.lst [.str "sea"]) l1 = some (.lst (([Mt22.sea]:List Str).map V.str)):=aE
 generalize upd H l1 (.lst [.str "sea"]) = H1 at S1 r1
 refine ⟨_,rfl,l,rfl,⟨_,SqL.of (S1 _ _ hl)⟩,?_⟩
 refine bG (F:=K) (xs:=us) (by omega) (fun i ys H'=>H1 = H' ∧ IsL H' ((((Mt61.stepsOf G).take i).filter fun s=>decide (0 < Mt61.room G fl s)).map bQ) ys) ⟨rfl,rfl⟩ ?_ ?_ ?_
 ·rintro i ys H' hi ⟨rfl,iy⟩
  refine ⟨SqL.of (S1 _ _ hl),?_⟩
  have:=iy.length
  have:=BN (fun s=>decide (0 < Mt61.room G fl s)) ((Mt61.stepsOf G).take i)
  rw [AW] at this
  rw [AA] at *
  omega
 ·rintro i xv ys H' K1 K2 hx' ⟨rfl,iy⟩ k1 k2
  have hil:i < us.length:=(AB.mp hx').1
  obtain ⟨st,es⟩:∃ st,(Mt61.stepsOf G)[i]? = some st:=⟨_,AC (by omega)⟩
  obtain ⟨v,ev,iv⟩:=(IsL.same S1 _ _ ius).get (show ((Mt61.stepsOf G).map bQ)[i]? = some (bQ st) by rw [AI,es];rfl)
  rw [hx'] at ev
  cases ev
  refine ⟨_,rfl,_,rfl,_,rfl,_,_,_,rfl,dm,de,V0,G,fl,st,iv,AM es,GG,rfl,pP hm S1,rfl,pP he S1,_,_,rfl,rfl,_,rfl,?_⟩
  have et:((Mt61.stepsOf G).take (i + 1)).filter (fun s=>decide (0 < Mt61.room G fl s)) = ((Mt61.stepsOf G).take i).filter (fun s=>decide (0 < Mt61.room G fl s)) ++ (if decide (0 < Mt61.room G fl st) = true then [st] else []):=by
   rw [AX,es,CG]
   cases h:decide (0 < Mt61.room G fl st) <;> simp [h]
   all_goals simpa using h
  cases hg:decide (0 < Mt61.room G fl st) with
  | false =>
   rw [hg] at et
   refine bM (k2 _ ⟨rfl,?_⟩)
   rw [et]
   simpa using iy
  | true =>
   rw [hg] at et
   refine cW ⟨_,rfl,k1 _ _ ⟨rfl,?_⟩⟩
   rw [et,if_pos rfl,AT]
   exact IsL.snoc iv iy
 rintro ys H2 ⟨rfl,iy⟩
 rw [AF (by omega)] at iy
 intro l2 h2
 have S2:=aJ.upd (o:=.lst ys) h2
 refine ⟨_,_,rfl,l1,l2,ys,vP G fl,[Mt22.sea],V0,rfl,rfl,by simp,(fun z m=>by rw [AV.mp m];exact GG.sea),S2 _ _ r1,aE,IsL.same S2 _ _ iy,?_,v13,fun s m=>(aGV GG (Aw.mp m).1).2,fun d cm kvs H' S3 nd hd ck cg op l13=>?_⟩
 ·have:=BN (fun s=>decide (0 < Mt61.room G fl s)) (Mt61.stepsOf G)
  unfold vP
  omega
 ·exact q d cm kvs H' (S1.trans (S2.trans S3)) ((S1.trans S2).free nd) hd ck cg op l13
open Mt53 Mt22 MtF Mt31 Mt61
def aJS:Sp:=sp2 fun x y H Q=>∃ (d:Addr) (kvs:List (Key × V)) (cm:Cm) (S:List Mt22.St) (side:Str),x = .ref d ∧ y = .str side ∧ Rd H d (.dK kvs) ∧ CamKV H kvs cm ∧ Came S cm ∧ cm.length ≤ 13 ∧ side ∈ keys cm ∧
 ∀ (l:Addr) (us:List V) (ss:List Mt22.St) (H':Hp),aJ H H' → H l = none → H' l = some (.lst us) → IsL H' (ss.map bQ) us → Chain S ss side → ss.length ≤ 13 → Q (.ref l) H'
theorem aLN {cm:Cm} {z:Str} (m:z ∈ keys cm):∃ (i:Nat) (o:Option Mt22.St),cm[i]? = some (z,o):=by
 obtain ⟨i,hi⟩:=BA.mp m
 unfold keys at hi
 rw [AI] at hi
 cases e:cm[i]? with
 | none=>rw [e] at hi;cases hi
 | some x =>
  rw [e] at hi
  obtain ⟨a,o⟩:=x
  cases hi
  exact ⟨i,o,e⟩
theorem zV (T:Txt K mg C):Fc P w K mg base 1 "path_to" ["came","side"] aJS:=by
 refine T.d_p_path_to.fc iT iL (fun f cdv A outer s H vs Q E hr h=>?_)
 obtain ⟨x,y,rfl,d,kvs,cm,S,side,rfl,rfl,hd,ck,c,l13,ms,q⟩:=h
 have big:=bO
 have hu:=jZ hr
 obtain ⟨j0,o0,e0⟩:=aLN ms
 obtain ⟨v0,ev0,cv0⟩:=ck.val c e0
 have hj0:=(AB.mp e0).1
 refine ⟨_,(@aG _ _ _ _ _ (@aU _ _ (2) _ _ _ _ iT.nd rfl (Or.inl rfl) (@cY _ _ _ _ aD) (by rfl) (by trivial)) (@aG _ _ _ _ _ (@aU _ _ (3) _ _ _ _ iT.nd rfl (Or.inl rfl) (@eB _ _ _ _ _ _ hu (pv 0) (pv 1) (fun _ _=>rfl)) (by rfl) (by trivial)) (@aG _ _ _ _ _ (@mP _ _ _ _ _ _ BC (@cC _ _ _ _ _ _ _ _ aOI (pv 3) zT (@bX _ _ (by decide) (by decide))) (@aG _ _ _ _ _ (@fD _ _ _ _ (@kX _ _ _ _ _ _ _ _ _ _ _ _ BI BR BQ eM (pv 2) (@aA _ _ _ _ _ (pv 3) aD (by rfl)) (by rfl) (by rfl) (by rfl) (by rfl) (by rfl)) (by rfl)) (@aH _ _ _ (@aU _ _ (3) _ _ _ _ iT.nd rfl (Or.inl rfl) (@eB _ _ _ _ _ _ hu (pv 0) (@bE _ _ _ _ _ _ _ (@aV _ (K) rfl) (pv 3) aF (fun _ _=>rfl)) (fun _ _=>rfl)) (by rfl) (by trivial))))) (@aH _ _ _ (@aT _ _ _ _ (@aEE _ _ _ _ _ _ _ rfl rfl T.n_list rfl T.n_reversed (@aA _ _ _ _ _ (pv 2) aD (by rfl)) (by rfl) (by rfl))))))),?_⟩
 refine ⟨aX rfl,fun lp hlp=>?_⟩
 have S1:=aJ.upd (o:=.lst []) hlp
 have h1:upd H lp (.lst []) lp = some (.lst []):=aE
 generalize upd H lp (.lst []) = H1 at S1 h1
 refine ⟨_,rfl,_,rfl,d,v0,rfl,.inl ⟨kvs,Sum.inr side,pP hd S1,rfl,ev0.symm⟩,?_⟩
 refine mH (fun σ H'=>∃ (j:Nat) (z:Str) (o:Option Mt22.St) (v:V) (ps:List Mt22.St) (us:List V),σ = [some (.ref d),some (.str side),some (.ref lp),some v] ∧ aJ H H' ∧ H' lp = some (.lst us) ∧ IsL H' (ps.map bQ) us ∧ cm[j]? = some (z,o) ∧ CV H' o v ∧ aRY S cm j z ps.reverse side ∧ ps.length + j < cm.length)
  (fun _ H'=>match H' lp with | some (.lst us)=>14 - us.length | _=>0) ⟨j0,side,o0,v0,[],[],rfl,S1,h1,rfl,e0,cv0.same S1,(fun ss ch _=>by rw [List.reverse_nil,Bp];exact ch),by show 0 + j0 < _;omega⟩ ?_ ?_
 ·rintro σ H2 ⟨j,z,o,v,ps,us,rfl,S2,h2,ius,ej,cv,tl,lj⟩
  have lus:=ius.length
  rw [AA] at lus
  refine ⟨_,rfl,rfl,_,rfl,?_⟩
  cases o with
  | none =>
   have hv:v = .non:=cv
   subst hv
   have hj:j = 0:=by
    cases j with
    | zero=>rfl
    | succ j =>
     obtain ⟨s',h',_⟩:=c.prev (j + 1) z none (by omega) ej
     cases h'
   subst hj
   have hz:z = Mt22.sea:=by
    have:=c.first
    rw [ej] at this
    cases this
    rfl
   subst hz
   have ch:=tl [] .nil (fun y m=>by cases m)
   rw [Dx] at ch
   rw [decide_eq_true rfl]
   refine bM ⟨_,rfl,lp,us,rfl,SqL.of h2,fun l hl=>?_⟩
   refine q l us.reverse ps.reverse _ (S2.trans (aJ.upd hl)) (S2.free hl) aE ?_ ch (by rw [DM];omega)
   rw [List.map_reverse]
   exact IsL.rev (IsL.same (aJ.upd hl) _ _ ius)
  | some s =>
   obtain ⟨t,rfl,ot⟩:=kK cv
   have hj:0 < j:=by
    cases j with
    | zero =>
     have:=c.first
     rw [ej] at this
     cases this
    | succ j=>omega
   obtain ⟨s',es',mS,hf,hn⟩:=c.prev j z (some s) hj ej
   cases es'
   obtain ⟨i,oi,ei⟩:=aLN hn
   have hil:=(AB.mp ei).1
   rw [AW] at hil
   have hij:i < j:=by omega
   rw [Bj hij] at ei
   obtain ⟨v',ev',cv'⟩:=ck.val c ei
   have ki:(keys cm)[i]? = some s.near:=by unfold keys;rw [AI,ei];rfl
   have hne:(!decide (V.ref t = V.non)) = true:=by rw [decide_eq_false (by intro c;cases c)];rfl
   rw [hne]
   refine cW ?_
   refine ⟨_,rfl,.inl ⟨rfl,_,SqL.of h2⟩,_,rfl,lp,us,.ref t,rfl,rfl,h2,by omega,?_⟩
   have KT:=iN.lst (o:=.lst (us ++ [.ref t])) h2
   have S3:aJ H (upd H2 lp (.lst (us ++ [.ref t]))):=S2.over hlp
   refine ⟨_,rfl,_,rfl,t,_,1,.str s.near,rfl,rfl,SqT.of (KT _ _ ot),aN (j:=1) rfl,d,v',rfl,.inl ⟨kvs,Sum.inr s.near,pP hd S3,rfl,ev'.symm⟩,?_⟩
   refine ⟨⟨i,s.near,oi,v',ps ++ [s],us ++ [.ref t],rfl,S3,aE,?_,ei,cv'.same S3,?_,by rw [Ae];show _ + 1 + _ < _;omega⟩,?_⟩
   ·refine IsL.keep KT _ _ (fV fun d m=>?_) ?_
    ·obtain ⟨s,_,rfl⟩:=AS.mp m
     exact gA s
    ·rw [AT]
     exact IsL.snoc (d:=bQ s) (v:=.ref t) cv ius
   ·rw [List.reverse_append]
    exact aHD c ej mS hf hij ki tl
   ·rw [h2,aE]
    dsimp only
    rw [Ae]
    show 14 - (us.length + 1) < 14 - us.length
    omega
 ·intro σ H Q Q' h hc
  obtain ⟨v,e,hq,k,e2,q⟩:=hc
  exact ⟨v,e,hq,k,e2,h _ _ q⟩
theorem aIR {S ss:List Mt22.St} {z:Str} (c:Chain S ss z):ss = [] → z = Mt22.sea:=by
 induction c with
 | nil=>intro _;rfl
 | snoc c m n ih=>intro e;simp at e
def aNB (G:List Gap) (f:Fl) (ws:List Str):Prop:=∃ cm:Cm,CameG [Mt22.sea] (vP G f) cm ∧ tG (vP G f) cm cm.length ∧ ∀ z ∈ ws,z ∉ keys cm
def aTY (G:List Gap) (f:Fl) (ws:List Str) (ss:List Mt22.St):Prop:=(ss = [] ∧ aNB G f ws) ∨ ∃ z,Chain (vP G f) ss z ∧ z ∈ ws ∧ ss ≠ [] ∧ ss.length ≤ 13
def zC:Sp:=fun vs H Q _=>∃ (x y u v:V) (l dm de lw:Addr) (us:List V) (V0:List Str) (G:List Gap) (f:Fl) (ws:List Str),vs = [x,y,u,v] ∧ x = .ref l ∧ H l = some (.lst us) ∧ IsL H ((Mt61.stepsOf G).map bQ) us ∧ G.length ≤ 40 ∧ V0.length ≤ 13 ∧ Gaps V0 G ∧ y = .ref dm ∧ Rd H dm (.dK (dO G)) ∧ u = .ref de ∧ Rd H de (.dK (dX G f)) ∧ v = .ref lw ∧ H lw = some (.lst (ws.map V.str)) ∧ Mt22.sea ∉ ws ∧
 ∀ (lp:Addr) (us:List V) (ss:List Mt22.St) (H':Hp),aJ H H' → H lp = none → H' lp = some (.lst us) → IsL H' (ss.map bQ) us → aTY G f ws ss → Q (.ref lp) H'
theorem aTF:∀ vs H Q E,zC vs H Q E → vs.length = 4:=fun vs H Q E ⟨x,y,u,v,l,dm,de,lw,us,V0,G,f,ws,e,_⟩=>by rw [e];rfl
theorem oH (T:Txt K mg C):Fc P w K mg base 3 "path_with_room" ["steps","most","stream","fields"] zC:=by
 have G_p_reached:Fc P w K mg base 2 "reached" ["steps","most","stream"] qN:=pX T
 have G_p_path_to:Fc P w K mg base 1 "path_to" ["came","side"] aJS:=zV T
 refine T.d_p_path_with_room.fc fF aTF (fun f cdv A outer s H vs Q E hr h=>?_)
 obtain ⟨x,y,u,v,l,dm,de,lw,us,V0,G,fl,ws,rfl,rfl,hl,ius,g40,v13,GG,rfl,hm,rfl,he,rfl,hlw,ns,q⟩:=h
 have big:=bO
 have hu:=jZ hr
 refine ⟨_,(@aG _ _ _ _ _ (@aU _ _ (4) _ _ _ _ fF.nd rfl (Or.inl rfl) (@bH _ _ _ _ _ _ _ _ _ _ G_p_reached (hr.mono (by decide)) (@aA _ _ _ _ _ (pv 0) (@aA _ _ _ _ _ (pv 1) (@aA _ _ _ _ _ (pv 2) aD (by rfl)) (by rfl)) (by rfl)) (by rfl) (by decide) (by rfl) (by rfl)) (by rfl) (by trivial)) (@aG _ _ _ _ _ (@jM _ (5) _ _ _ _ _ _ _ _ _ _ _ _ _ fF.nd rfl ["side","fields"] 1 [3] rfl (@zR _ _ _ _ (pv 4)) (fun R=>@aW _ _ (0) _ (show Au (["side","fields"]:List Str) by decide +kernel) rfl (Or.inl rfl) (by trivial)) (@aY _ _ (by decide)) (fun R=>@eX _ _ _ (@cC _ _ _ _ _ _ _ _ (@oY _ (K) rfl) (pv 0) (pv 1) (by with_unfolding_all rfl))) (fun R=>(pv 0)) (by exact Or.inl rfl) (by trivial) (by rfl) (by rfl) (by rfl) (by rfl) (by rfl) (by rfl) (by rfl) (by rfl) (by intro _;rfl)) (@aH _ _ _ (@aT _ _ _ _ (@aKY _ _ _ _ _ _ _ _ (@aEB _ _ _ (pv 5) (by intro _;rfl)) (@bH _ _ _ _ _ _ _ _ _ _ G_p_path_to (hr.mono (by decide)) (@aA _ _ _ _ _ (pv 4) (@aA _ _ _ _ _ (@bE _ _ _ _ _ _ _ (@dU _ (K) rfl) (pv 5) aF (fun _ _=>rfl)) aD (by rfl)) (by rfl)) (by rfl) (by decide) (by rfl) (by rfl)) (@cY _ _ _ _ aD)))))),?_⟩
 refine ⟨_,rfl,_,rfl,_,rfl,_,_,_,rfl,l,dm,de,us,V0,G,fl,rfl,hl,ius,g40,v13,GG,rfl,hm,rfl,he,fun d cm kvs H1 S1 nd hd ck cg op l13=>?_⟩
 refine ⟨_,rfl,d,kvs,rfl,hd,fun o=>?_⟩
 have SF:aJ H (upd H1 d (.frz o (.dK kvs))):=S1.over nd
 have KF:iN H1 (upd H1 d (.frz o (.dK kvs))):=fun b ys e=>by
  rw [aI (fun c=>by rw [c,hd] at e;cases e)]
  exact e
 have ckF:=ck.keep KF
 have dF:upd H1 d (.frz o (.dK kvs)) d = some (.frz o (.dK kvs)):=aE
 generalize upd H1 d (.frz o (.dK kvs)) = H2 at SF ckF dF
 have lk:kvs.length = cm.length:=ck.len
 have hlw2:=SF _ _ hlw
 refine rP (by omega) (fun i ys H'=>H2 = H' ∧ ys = (((keys cm).take i).filter fun z=>decide (z ∈ ws)).map V.str) ⟨rfl,rfl⟩ ?_ ?_ ?_
 ·rintro i ys H' hi ⟨rfl,rfl⟩
  refine ⟨dF,?_⟩
  have:=BN (fun z=>decide (z ∈ ws)) ((keys cm).take i)
  rw [AW] at this
  rw [AA]
  omega
 ·rintro i kv ys H' K1 K2 hk ⟨rfl,rfl⟩ k1 k2
  have hil:=(AB.mp hk).1
  obtain ⟨⟨z,oo⟩,ez⟩:∃ x,cm[i]? = some x:=⟨_,AC (by omega)⟩
  obtain ⟨vv,ev,_⟩:=ckF.at' i z oo ez
  rw [hk] at ev
  cases ev
  have kz:(keys cm)[i]? = some z:=by unfold keys;rw [AI,ez];rfl
  refine ⟨_,rfl,_,rfl,lw,_,rfl,.inl (SqL.of hlw2),rfl,oE ws,_,rfl,?_⟩
  show (if inV (V.str z) (ws.map V.str) = true then _ else _)
  rw [tT]
  have et:((keys cm).take (i + 1)).filter (fun z=>decide (z ∈ ws)) = ((keys cm).take i).filter (fun z=>decide (z ∈ ws)) ++ (if decide (z ∈ ws) = true then [z] else []):=by
   rw [AX,kz,CG]
   cases h:decide (z ∈ ws) <;> simp [h]
   all_goals simpa using h
  cases hg:decide (z ∈ ws) with
  | false =>
   rw [hg] at et
   refine bM (k2 _ ⟨rfl,?_⟩)
   rw [et]
   simp
  | true =>
   rw [hg] at et
   refine cW ⟨_,rfl,k1 _ _ ⟨rfl,?_⟩⟩
   rw [et,if_pos rfl,AT]
   rfl
 rintro ys H3 ⟨rfl,rfl⟩
 rw [AF (by unfold keys;rw [AA];omega)]
 intro le hle
 have S3:=aJ.upd (o:=.lst (((keys cm).filter fun z=>decide (z ∈ ws)).map V.str)) hle
 have r3:upd H2 le (.lst (((keys cm).filter fun z=>decide (z ∈ ws)).map V.str)) le = some (.lst (((keys cm).filter fun z=>decide (z ∈ ws)).map V.str)):=aE
 have T3:=SF.trans S3
 have ck3:=ckF.same S3
 have d3:=S3 _ _ dF
 generalize upd H2 le (.lst (((keys cm).filter fun z=>decide (z ∈ ws)).map V.str)) = H3 at S3 r3 T3 ck3 d3
 refine ⟨_,rfl,le,_,rfl,SqL.of r3,?_⟩
 cases ef:(keys cm).filter fun z=>decide (z ∈ ws) with
 | nil =>
  refine bM ⟨aX rfl,fun lp hlp=>?_⟩
  refine q lp [] [] _ (T3.trans (aJ.upd hlp)) (T3.free hlp) aE rfl (.inl ⟨rfl,cm,cg,op,fun z mz mk=>?_⟩)
  have:z ∈ (keys cm).filter fun z=>decide (z ∈ ws):=Aw.mpr ⟨mk,decide_eq_true mz⟩
  rw [ef] at this
  cases this
 | cons z zr =>
  have mz:z ∈ (keys cm).filter fun z=>decide (z ∈ ws):=by rw [ef];exact AU
  rw [Aw] at mz
  have zw:z ∈ ws:=of_decide_eq_true mz.2
  rw [ef] at r3
  refine cW ?_
  refine ⟨_,rfl,_,rfl,le,_,0,.str z,rfl,rfl,SqL.of r3,aN (j:=0) rfl,_,_,rfl,d,kvs,cm,vP G fl,z,rfl,rfl,.inr ⟨o,d3⟩,ck3,cg.came,l13,mz.1,fun lp us' ss H4 S4 nlp hlp iss ch s13=>?_⟩
  refine q lp us' ss H4 (T3.trans S4) (T3.free nlp) hlp iss (.inr ⟨z,ch,zw,fun e=>?_,s13⟩)
  have:=aIR ch e
  rw [this] at zw
  exact ns zw
open Mt53 Mt22 MtF Mt31 Mt61
def aMD (kvs:List (Key × V)):Fl:=fun n=>match cX kvs (Sum.inr n) with
 | some (.int i)=>i
 | _=>0
theorem aGO {H:Hp} {ds:List Dv} {us:List V} (h:IsL H ds us):ds.length = us.length:=by have:=h.length;omega
theorem aGT {G:List Gap} (nd:(G.map (·.nm)).Nodup) (f:Fl) {g:Gap} (m:g ∈ G):aMD (dX G f) g.nm = f g.nm:=by
 unfold aMD
 rw [show cX (dX G f) (Sum.inr g.nm) = some (.int (f g.nm)) from xW (f:=fun g=>V.int (f g.nm)) nd m]
theorem xD {G:List Gap} {f f':Fl} (h:∀ g ∈ G,f g.nm = f' g.nm):val G f = val G f':=by
 unfold val net
 rw [eI fun g m=>show aCJ f Mt22.sea g = aCJ f' Mt22.sea g by unfold aCJ;rw [h g m]]
theorem aMB {G:List Gap} {f:Fl} {n:Str} {x:Int} (m:n ∈ G.map (·.nm)):iU (dX G f) (Sum.inr n) (.int x) = dX G (fun k=>if k = n then x else f k):=by
 unfold iU
 have ha:((dX G f).any fun kv=>decide (kv.1 = (Sum.inr n:Key))) = true:=by
  obtain ⟨g,mg,e⟩:=AS.mp m
  refine DH.mpr ⟨_,AS.mpr ⟨g,mg,rfl⟩,?_⟩
  rw [← e]
  exact decide_eq_true rfl
 rw [if_pos ha]
 unfold dX
 rw [Al]
 refine Bb fun g _=>?_
 show (if (Sum.inr g.nm:Key) = Sum.inr n then ((Sum.inr g.nm:Key),V.int x) else (Sum.inr g.nm,V.int (f g.nm))) = (Sum.inr g.nm,V.int (if g.nm = n then x else f g.nm))
 by_cases e:g.nm = n
 ·rw [if_pos (by rw [e]),if_pos e]
 ·rw [if_neg (fun c=>e (CS c)),if_neg e]
theorem aMC {G:List Gap} {f:Fl} {s:Mt22.St} {m:Int} (ms:s ∈ Mt61.stepsOf G):iU (dX G f) (Sum.inr s.nm) (.int (f s.nm + s.h * m)) = dX G (jW m f s):=by
 obtain ⟨g,mg,en,_⟩:=pJ ms
 rw [aMB (by rw [← en];exact AS.mpr ⟨g,mg,rfl⟩)]
 unfold dX
 refine Bb fun g _=>?_
 show (Sum.inr g.nm,V.int (if g.nm = s.nm then f s.nm + s.h * m else f g.nm)) = (Sum.inr g.nm,V.int (if g.nm = s.nm then f g.nm + s.h * m else f g.nm))
 by_cases e:g.nm = s.nm
 ·rw [if_pos e,if_pos e,e]
 ·rw [if_neg e,if_neg e]
theorem nL (G:List Gap) (f:Fl):(dX G f).length = G.length:=AA _
theorem aII (G:List Gap) (f:Fl):(dX G f).map (·.1) = (G.map (·.nm)).map Sum.inr:=by
 unfold dX
 rw [Al,Al]
 rfl
theorem vO {G:List Gap} {f:Fl}:∀ s ∈ vP G f,s ∈ Mt61.stepsOf G:=fun s m=>(Aw.mp m).1
def aJX:Sp:=sp3 fun x y u H Q=>∃ (l dm lw:Addr) (o:Obj) (us:List V) (V0:List Str) (G:List Gap) (ws:List Str),x = .ref l ∧ H l = some (.lst us) ∧ IsL H ((Mt61.stepsOf G).map bQ) us ∧ G.length ≤ 40 ∧ V0.length ≤ 13 ∧ Gaps V0 G ∧ y = .ref dm ∧ H dm = some (.frz o (.dK (dO G))) ∧ u = .ref lw ∧ H lw = some (.lst (ws.map V.str)) ∧ Mt22.sea ∉ ws ∧
 ∀ (de:Addr) (f:Fl) (H':Hp),aJ H H' → H de = none → H' de = some (.dK (dX G f)) → Stream V0 G ws f → aNB G f ws → Q (.ref de) H'
theorem oI (T:Txt K mg C):Fc P w K mg base 4 "fullest_stream" ["steps","most","fields"] aJX:=by
 have G_p_path_with_room:Fc P w K mg base 3 "path_with_room" ["steps","most","stream","fields"] zC:=oH T
 have G_p_room:Fc P w K mg base 1 "room" ["step","most","stream"] aDR:=xQ T
 refine T.d_p_fullest_stream.fc cE pB (fun f cdv A outer s H vs Q E hr h=>?_)
 obtain ⟨x,y,u,rfl,l,dm,lw,o,us,V0,G,ws,rfl,hl,ius,g40,v13,GG,rfl,hm,rfl,hlw,ns,q⟩:=h
 have big:=bO
 have hu:=jZ hr
 refine ⟨_,(@aG _ _ _ _ _ (@aU _ _ (3) _ _ _ _ cE.nd rfl (Or.inr rfl) (@bV _ _ _ _ _ _ _ _ _ (@dL _ rfl) rfl T.n_dict fB (@aA _ _ _ _ _ (@bS _ _ _ _ _ _ _ _ _ _ _ ["name"] 1 [] rfl (@aKT _ _ _ _ (pv 1)) (fun R=>@aW _ _ (0) _ (show Au (["name"]:List Str) by decide +kernel) rfl (Or.inl rfl) (by trivial)) (@aY _ _ (by decide)) (fun R=>bW) (fun R=>(@dZ _ _ _ _ _ (@aA _ _ _ _ _ (pv 0) (@aA _ _ _ _ _ aF aD (by rfl)) (by rfl)))) (by rfl) (by rfl) (by rfl) (by rfl) (by rfl) (by rfl) (by rfl) (by intro _;rfl)) aD (by rfl)) (by decide) (by decide) (by rfl) (by rfl)) (by rfl) (by trivial)) (@aG _ _ _ _ _ (@aU _ _ (4) _ _ _ _ cE.nd rfl (Or.inl rfl) (@bH _ _ _ _ _ _ _ _ _ _ G_p_path_with_room (hr.mono (by decide)) (@aA _ _ _ _ _ (pv 0) (@aA _ _ _ _ _ (pv 1) (@aA _ _ _ _ _ (pv 3) (@aA _ _ _ _ _ (pv 2) aD (by rfl)) (by rfl)) (by rfl)) (by rfl)) (by rfl) (by decide) (by rfl) (by rfl)) (by rfl) (by trivial)) (@aG _ _ _ _ _ (@mP _ _ _ _ _ _ BC (@aEB _ _ _ (pv 4) (by intro _;rfl)) (@aG _ _ _ _ _ (@aU _ _ (5) _ _ _ _ cE.nd rfl (Or.inl rfl) (@aP _ _ _ _ _ _ _ _ _ (@aIS _ rfl) rfl T.n_min rT (@aA _ _ _ _ _ (@bS _ _ _ _ _ _ _ _ _ _ _ ["step","most","stream"] 1 [1,3] rfl (@bJ _ _ _ _ (pv 4)) (fun R=>@aW _ _ (0) _ (show Au (["step","most","stream"]:List Str) by decide +kernel) rfl (Or.inl rfl) (by trivial)) (@aY _ _ (by decide)) (fun R=>bW) (fun R=>(@bH _ _ _ _ _ _ _ _ _ _ G_p_room (hr.mono (by decide)) (@aA _ _ _ _ _ (pv 0) (@aA _ _ _ _ _ (pv 1) (@aA _ _ _ _ _ (pv 2) aD (by rfl)) (by rfl)) (by rfl)) (by rfl) (by decide) (by rfl) (by rfl))) (by rfl) (by rfl) (by rfl) (by rfl) (by rfl) (by rfl) (by rfl) (by intro _;rfl)) aD (by rfl)) (by decide) (by decide) (by rfl) (by rfl)) (by rfl) (by trivial)) (@aG _ _ _ _ _ (@fG _ _ _ _ _ _ _ _ BC rfl (@bJ _ _ _ _ (pv 4)) (@aW _ _ (6) _ cE.nd rfl (Or.inl rfl) (by trivial)) (@aH _ _ _ (@aNY _ _ _ _ _ _ _ _ _ _ _ hu (pv 3) (@bE _ _ _ _ _ _ _ (@aV _ (K) rfl) (pv 6) aF (fun _ _=>rfl)) (@aM _ _ _ _ _ _ _ _ mT (@bE _ _ _ _ _ _ _ (@aV _ (K) rfl) (pv 6) aF (fun _ _=>rfl)) (pv 5)) aRP (fun _ _ _=>rfl))) (by intro _;rfl)) (@aH _ _ _ (@aU _ _ (4) _ _ _ _ cE.nd rfl (Or.inl rfl) (@bH _ _ _ _ _ _ _ _ _ _ G_p_path_with_room (hr.mono (by decide)) (@aA _ _ _ _ _ (pv 0) (@aA _ _ _ _ _ (pv 1) (@aA _ _ _ _ _ (pv 3) (@aA _ _ _ _ _ (pv 2) aD (by rfl)) (by rfl)) (by rfl)) (by rfl)) (by rfl) (by decide) (by rfl) (by rfl)) (by rfl) (by trivial)))))) (@aH _ _ _ (@aT _ _ _ _ (pv 3)))))),?_⟩
 refine ⟨_,rfl,dm,o,_,rfl,hm,?_⟩
 refine rP (by rw [lD];omega) (fun i ys H'=>aJ H H' ∧ bN H' ys (dX (G.take i) fun _=>0)) ⟨aJ.refl _,bN.nil _⟩ ?_ ?_ ?_
 ·rintro i ys H' hi ⟨S',pa⟩
  have:=pa.len
  rw [nL,AW] at this
  exact ⟨S' _ _ hm,by omega⟩
 ·rintro i kv ys H' K1 K2 hk ⟨S',pa⟩ k1 k2
  unfold dO at hk
  rw [AI] at hk
  obtain ⟨g,eg,ekv⟩:=Ao.mp hk
  have ek:kV kv.1 = V.str g.nm:=by rw [← ekv];rfl
  rw [ek]
  refine ⟨_,rfl,aX rfl,fun p3 hp3=>k1 _ _ ⟨S'.trans (aJ.upd hp3),?_⟩⟩
  have e2:dX (G.take (i + 1)) (fun _=>0) = dX (G.take i) (fun _=>0) ++ [(Sum.inr g.nm,V.int 0)]:=by
   unfold dX
   rw [AX,eg,AT]
   rfl
  rw [e2]
  exact bN.snoc (k:=Sum.inr g.nm) pa hp3
 rintro ys H1 ⟨S1,pa⟩
 rw [lD,AF (AN _)] at pa
 intro p4 hp4
 have S2:=aJ.upd (o:=.lst ys) hp4
 refine ⟨p4,ys,dX G fun _=>0,rfl,SqL.of aE,pa.same S2,by rw [nL];omega,by rw [aII];exact (hG _).mpr GG.nd,fun de hde=>?_⟩
 have S3:=aJ.upd (o:=.dK (dX G fun _=>0)) hde
 have T3:=S1.trans (S2.trans S3)
 have nde:=(S1.trans S2).free hde
 have he3:upd (upd H1 p4 (.lst ys)) de (.dK (dX G fun _=>0)) de = some (.dK (dX G fun _=>0)):=aE
 generalize upd (upd H1 p4 (.lst ys)) de (.dK (dX G fun _=>0)) = H3 at S3 T3 he3
 have st0:Stream V0 G ws (fun _=>0):=Stream.none GG ws fun _ _=>rfl
 refine ⟨_,rfl,_,rfl,_,rfl,_,rfl,_,_,_,_,l,dm,de,lw,us,V0,G,fun _=>0,ws,rfl,rfl,T3 _ _ hl,IsL.same T3 _ _ ius,g40,v13,GG,rfl,.inr ⟨o,T3 _ _ hm⟩,rfl,.inl he3,rfl,T3 _ _ hlw,ns,fun lp us4 ss H4 S4 nlp hlp iss go=>?_⟩
 refine mH (fun σ H'=>∃ (f5:Fl) (lp:Addr) (us5:List V) (ss:List Mt22.St) (v5 v6:Option V),σ = [some (.ref l),some (.ref dm),some (.ref lw),some (.ref de),some (.ref lp),v5,v6] ∧ aJ H H' ∧ H' de = some (.dK (dX G f5)) ∧ Stream V0 G ws f5 ∧ H' lp = some (.lst us5) ∧ IsL H' (ss.map bQ) us5 ∧ aTY G f5 ws ss)
  (fun _ H'=>match H' de with | some (.dK kvs)=>(total G - val G (aMD kvs)).toNat | _=>0) ⟨fun _=>0,lp,us4,ss,_,_,rfl,T3.trans S4,S4 _ _ he3,st0,hlp,iss,go⟩ ?_ ?_
 ·rintro σ H5 ⟨f5,lp,us5,ss,v5,v6,rfl,S5,he5,st5,hlp5,iss5,go5⟩
  have lss:=aGO iss5
  rw [AA] at lss
  refine ⟨_,rfl,lp,us5,rfl,SqL.of hlp5,?_⟩
  rcases go5 with ⟨rfl,en⟩ | ⟨z,ch,mz,ne,s13⟩
  ·have:us5 = []:=Cb lss.symm
   subst this
   exact bM ⟨_,rfl,q de f5 H5 S5 nde he5 st5 en⟩
  have une:us5.isEmpty = false:=by
   cases us5 with
   | nil=>exact absurd (Cb lss) ne
   | cons a b=>rfl
  rw [une]
  refine cW ?_
  obtain ⟨csub,cnd⟩:=yN ch
  have rpos:∀ s ∈ ss,0 < Mt61.room G f5 s:=fun s m=>of_decide_eq_true (Aw.mp (csub s m)).2
  have hm5:=S5 _ _ hm
  refine ⟨_,rfl,lp,rfl,⟨_,SqL.of hlp5⟩,?_⟩
  refine bG (F:=K) (xs:=us5) (by omega) (fun i ys H'=>H5 = H' ∧ ys = ((ss.take i).map (Mt61.room G f5)).map V.int) ⟨rfl,rfl⟩ ?_ ?_ ?_
  ·rintro i ys H' hi ⟨rfl,rfl⟩
   exact ⟨SqL.of hlp5,by rw [AA,AA,AW];omega⟩
  ·rintro i xv ys H' K1 K2 hx' ⟨rfl,rfl⟩ k1 k2
   have hil:i < us5.length:=(AB.mp hx').1
   obtain ⟨st,es⟩:∃ st,ss[i]? = some st:=⟨_,AC (by omega)⟩
   obtain ⟨v,ev,iv⟩:=iss5.get (show (ss.map bQ)[i]? = some (bQ st) by rw [AI,es];rfl)
   rw [hx'] at ev
   cases ev
   have ms:=AM es
   refine ⟨_,rfl,_,rfl,_,rfl,_,_,_,rfl,dm,de,V0,G,f5,st,iv,vO _ (csub st ms),GG,rfl,.inr ⟨o,hm5⟩,rfl,.inl he5,k1 _ _ ⟨rfl,?_⟩⟩
   rw [AX,es,AT,AT]
   rfl
  rintro ys H6 ⟨rfl,rfl⟩
  rw [AF (by omega)]
  intro la hla
  have S6:=aJ.upd (o:=.lst ((ss.map (Mt61.room G f5)).map V.int)) hla
  have r6:upd H5 la (.lst ((ss.map (Mt61.room G f5)).map V.int)) la = some (.lst ((ss.map (Mt61.room G f5)).map V.int)):=aE
  generalize upd H5 la (.lst ((ss.map (Mt61.room G f5)).map V.int)) = H6 at S6 r6
  have T6:=S5.trans S6
  refine ⟨la,ss.map (Mt61.room G f5),rfl,SqL.of r6,by rw [AA];exact List.length_pos_iff.mpr ne,fun M mM least=>?_⟩
  have M0:0 < M:=by
   obtain ⟨s,ms,rfl⟩:=AS.mp mM
   exact rpos s ms
  have hM:∀ s ∈ ss,M ≤ Mt61.room G f5 s:=fun s m=>least _ (AS.mpr ⟨s,m,rfl⟩)
  have he6:=S6 _ _ he5
  have hlp6:=S6 _ _ hlp5
  have iss6:=IsL.same S6 _ _ iss5
  refine ⟨_,rfl,lp,rfl,⟨_,SqL.of hlp6⟩,jR (K:=K) (a:=lp) (xs:=us5) (fun i σ H'=>∃ v6,σ = [some (.ref l),some (.ref dm),some (.ref lw),some (.ref de),some (.ref lp),some (.int M),v6] ∧ aJ H H' ∧ H' de = some (.dK (dX G ((ss.take i).foldl (jW M) f5))) ∧ H' lp = some (.lst us5) ∧ IsL H' (ss.map bQ) us5) ⟨_,rfl,T6,he6,hlp6,iss6⟩ ?_ ?_ ?_⟩
  ·rintro i σ H' hi ⟨v6,rfl,S',he',hl',is'⟩
   exact SqL.of hl'
  ·rintro i xv σ H' hx ⟨v6,rfl,S',he',hl',is'⟩
   have hil:i < us5.length:=(AB.mp hx).1
   obtain ⟨st,es⟩:∃ st,ss[i]? = some st:=⟨_,AC (by omega)⟩
   obtain ⟨v,ev,iv⟩:=is'.get (show (ss.map bQ)[i]? = some (bQ st) by rw [AI,es];rfl)
   rw [hx] at ev
   cases ev
   have ms:=vO _ (csub st (AM es))
   obtain ⟨t,rfl,ot⟩:=kK iv
   obtain ⟨g,mg',en,hh⟩:=pJ ms
   have v2:cX (dX G ((ss.take i).foldl (jW M) f5)) (Sum.inr st.nm) = some (.int (((ss.take i).foldl (jW M) f5) st.nm)):=by rw [← en];exact xW (f:=fun g=>V.int (((ss.take i).foldl (jW M) f5) g.nm)) GG.nd mg'
   refine ⟨_,rfl,_,rfl,t,_,0,.str st.nm,rfl,rfl,SqT.of ot,aN (j:=0) rfl,de,_,rfl,.inl ⟨_,Sum.inr st.nm,.inl he',rfl,v2.symm⟩,?_⟩
   refine ⟨_,rfl,t,_,3,.int st.h,rfl,rfl,SqT.of ot,aN (j:=3) rfl,_,rfl,_,_,rfl,rfl,.inl (by rcases hh with h | h <;> rw [h] <;> exact ⟨by decide,by decide⟩),_,_,rfl,rfl,_,.inl ⟨_,Sum.inr st.nm,he',rfl,by rw [nL];omega,rfl⟩,?_⟩
   rw [aMC ms]
   have nlp':lp ≠ de:=xT hl' he' (by intro c;cases c)
   have KT:iN H' (upd H' de (.dK (dX G (jW M ((ss.take i).foldl (jW M) f5) st)))):=fun b ys e=>by
    rw [aI (fun c=>by rw [c,he'] at e;cases e)]
    exact e
   refine ⟨_,rfl,S'.over nde,?_,by rw [aI nlp'];exact hl',IsL.keep KT _ _ (fV fun d m=>?_) is'⟩
   ·rw [aE,AX,es,List.foldl_append]
    rfl
   ·obtain ⟨s,_,rfl⟩:=AS.mp m
    exact gA s
  ·rintro σ H7 ⟨v6,rfl,S7,he7,hl7,is7⟩
   rw [← lss,AF (AN _)] at he7
   obtain ⟨st7,va7⟩:=st5.more GG ch vO (Int.le_of_lt M0) hM mz ns
   refine ⟨_,rfl,_,rfl,_,rfl,_,rfl,_,_,_,_,l,dm,de,lw,us,V0,G,ss.foldl (jW M) f5,ws,rfl,rfl,S7 _ _ hl,IsL.same S7 _ _ ius,g40,v13,GG,rfl,.inr ⟨o,S7 _ _ hm⟩,rfl,.inl he7,rfl,S7 _ _ hlw,ns,fun lp8 us8 ss8 H8 S8 nlp8 hlp8 iss8 go8=>?_⟩
   refine ⟨⟨_,lp8,us8,ss8,_,_,rfl,S7.trans S8,S8 _ _ he7,st7,hlp8,iss8,go8⟩,?_⟩
   rw [he5,S8 _ _ he7]
   show (total G - val G (aMD (dX G (ss.foldl (jW M) f5)))).toNat < (total G - val G (aMD (dX G f5))).toNat
   rw [xD fun g m=>aGT GG.nd _ m,xD fun g m=>aGT GG.nd f5 m,va7]
   have:=aHB GG st7.fits
   omega
 ·intro σ H Q Q' h hc
  obtain ⟨v,e,p,xs,e2,hq,q⟩:=hc
  exact ⟨v,e,p,xs,e2,hq,h _ _ q⟩
open Mt53 Mt22 MtF Mt31 Mt61
theorem aFG {H:Hp} {kvs:List (Key × V)} {cm:Cm} (h:CamKV H kvs cm) (z:Str):(cX kvs (Sum.inr z)).isSome = decide (z ∈ keys cm):=by
 by_cases m:z ∈ keys cm
 ·rw [h.some m,decide_eq_true m]
 ·rw [h.none m,decide_eq_false m]
  rfl
def aHT (G:List Gap) (R:List Str):List Mt22.St:=(Mt61.stepsOf G).filter fun s=>!decide (s.far ∈ R)
def kD (L:Int) (s:Mt22.St):Dv:=.tup [.str s.nm,.int L]
theorem lE {α:Type} {P:α → Bool} {xs:List α} {i:Nat} {x:α} (e:xs[i]? = some x):(xs.take (i + 1)).filter P = (xs.take i).filter P ++ (if P x = true then [x] else []):=by
 rw [AX,e,CG]
 cases h:P x <;> simp [h]
def aJR:Sp:=fun vs H Q _=>∃ (x y u v:V) (l df lw:Addr) (us:List V) (V0:List Str) (G:List Gap) (kvs:List (Key × V)) (cm:Cm) (ws:List Str) (L:Int),vs = [x,y,u,v] ∧ x = .ref l ∧ H l = some (.lst us) ∧ IsL H ((Mt61.stepsOf G).map bQ) us ∧ G.length ≤ 40 ∧ V0.length ≤ 13 ∧ Gaps V0 G ∧ y = .ref df ∧ Rd H df (.dK kvs) ∧ CamKV H kvs cm ∧ u = .ref lw ∧ H lw = some (.lst (ws.map V.str)) ∧ ws.Nodup ∧ (∀ z ∈ ws,z ∈ V0) ∧ v = .int L ∧
 ∀ (cmB:Cm) (lr:Addr) (us':List V) (H':Hp),aJ H H' → H lr = none → H' lr = some (.lst us') → IsL H' ((eN G (keys cm) (keys cmB)).map (kD L)) us' → CameG ws (aHT G (keys cm)) cmB → tG (aHT G (keys cm)) cmB cmB.length → Q (.ref lr) H'
theorem aRE:∀ vs H Q E,aJR vs H Q E → vs.length = 4:=fun vs H Q E ⟨x,y,u,v,l,df,lw,us,V0,G,kvs,cm,ws,L,e,_⟩=>by rw [e];rfl
theorem qV (T:Txt K mg C):Fc P w K mg base 2 "works_round" ["steps","flowed","fields","height"] aJR:=by
 have G_p_spread:Fc P w K mg base 1 "spread" ["starts","steps"] qM:=sJ T
 refine T.d_p_works_round.fc kM aRE (fun f cdv A outer s H vs Q E hr h=>?_)
 obtain ⟨x,y,u,v,l,df,lw,us,V0,G,kvs,cm,ws,lv,rfl,rfl,hl,ius,g40,v13,GG,rfl,hf,ck,rfl,hlw,ndw,subw,rfl,q⟩:=h
 have big:=bO
 have hu:=jZ hr
 have lus:=aGO ius
 have sl:=nX G
 rw [AA,sl] at lus
 refine ⟨_,(@aG _ _ _ _ _ (@aU _ _ (4) _ _ _ _ kM.nd rfl (Or.inr rfl) (@bH _ _ _ _ _ _ _ _ _ _ G_p_spread (hr.mono (by decide)) (@aA _ _ _ _ _ (pv 2) (@aA _ _ _ _ _ (@bS _ _ _ _ _ _ _ _ _ _ _ ["step","flowed"] 1 [1] rfl (@bJ _ _ _ _ (pv 0)) (fun R=>@aW _ _ (0) _ (show Au (["step","flowed"]:List Str) by decide +kernel) rfl (Or.inl rfl) (by trivial)) (@aY _ _ (by decide)) (fun R=>@eX _ _ _ (@uM _ _ _ _ _ _ (@qU _ _ _ _ _ hu (@bE _ _ _ _ _ _ _ (@aV _ (K) rfl) (pv 0) aF (fun _ _=>rfl)) (pv 1)) (by first | exact nobehind _ (by decide) (by decide) | rfl))) (fun R=>(pv 0)) (by rfl) (by rfl) (by rfl) (by rfl) (by rfl) (by rfl) (by rfl) (by intro _;rfl)) aD (by rfl)) (by rfl)) (by rfl) (by decide) (by rfl) (by rfl)) (by rfl) (by trivial)) (@aH _ _ _ (@aT _ _ _ _ (@bS _ _ _ _ _ _ _ _ _ _ _ ["step","flowed","height","behind"] 1 [1,3,4] rfl (@bJ _ _ _ _ (pv 0)) (fun R=>@aW _ _ (0) _ (show Au (["step","flowed","height","behind"]:List Str) by decide +kernel) rfl (Or.inl rfl) (by trivial)) (@aY _ _ (by decide)) (fun R=>@eX _ _ _ (@PW.pt _ _ _ (@aEA _ _ _ _ _ _ _ (@uM _ _ _ _ _ _ (@aLC _ _ _ _ _ hu (@bE _ _ _ _ _ _ _ (@aV _ (K) rfl) (pv 0) aF (fun _ _=>rfl)) (pv 1)) (by first | exact nobehind _ (by decide) (by decide) | rfl)) (@zN _ _ _ _ (@uM _ _ _ _ _ _ (@aLC _ _ _ _ _ hu (@bE _ _ _ _ _ _ _ (@aV _ (K) rfl) (pv 0) aF (fun _ _=>rfl)) (pv 3)) (by first | exact nobehind _ (by decide) (by decide) | rfl)))))) (fun R=>(@dZ _ _ _ _ _ (@aA _ _ _ _ _ (@bE _ _ _ _ _ _ _ (@aV _ (K) rfl) (pv 0) aF (fun _ _=>rfl)) (@aA _ _ _ _ _ (pv 2) aD (by rfl)) (by rfl)))) (by rfl) (by rfl) (by rfl) (by rfl) (by rfl) (by rfl) (by rfl) (by intro _;rfl))))),?_⟩
 refine ⟨_,rfl,_,rfl,l,rfl,⟨_,SqL.of hl⟩,?_⟩
 refine bG (F:=K) (xs:=us) (by omega) (fun i ys H'=>H = H' ∧ IsL H' ((((Mt61.stepsOf G).take i).filter fun s=>!decide (s.far ∈ keys cm)).map bQ) ys) ⟨rfl,rfl⟩ ?_ ?_ ?_
 ·rintro i ys H' hi ⟨rfl,iy⟩
  refine ⟨SqL.of hl,?_⟩
  have:=iy.length
  have:=BN (fun s:Mt22.St=>!decide (s.far ∈ keys cm)) ((Mt61.stepsOf G).take i)
  rw [AW] at this
  rw [AA] at *
  omega
 ·rintro i xv ys H' K1 K2 hx' ⟨rfl,iy⟩ k1 k2
  have hil:i < us.length:=(AB.mp hx').1
  obtain ⟨st,es⟩:∃ st,(Mt61.stepsOf G)[i]? = some st:=⟨_,AC (by omega)⟩
  obtain ⟨v,ev,iv⟩:=ius.get (show ((Mt61.stepsOf G).map bQ)[i]? = some (bQ st) by rw [AI,es];rfl)
  rw [hx'] at ev
  cases ev
  obtain ⟨t,rfl,o⟩:=kK iv
  have et:=lE (P:=fun s:Mt22.St=>!decide (s.far ∈ keys cm)) es
  refine ⟨_,rfl,t,_,2,.str st.far,rfl,rfl,SqT.of o,aN (j:=2) rfl,_,rfl,df,_,rfl,.inl ⟨kvs,Sum.inr st.far,hf,rfl,rfl⟩,_,rfl,?_⟩
  rw [aFG ck]
  cases hg:(!decide (st.far ∈ keys cm)) with
  | false =>
   rw [hg] at et
   refine bM (k2 _ ⟨rfl,?_⟩)
   rw [et]
   simpa using iy
  | true =>
   rw [hg] at et
   refine cW ⟨_,rfl,k1 _ _ ⟨rfl,?_⟩⟩
   rw [et,if_pos rfl,AT]
   exact IsL.snoc iv iy
 rintro ys H2 ⟨rfl,iy⟩
 rw [AF (by omega)] at iy
 intro l2 h2
 have S2:=aJ.upd (o:=.lst ys) h2
 refine ⟨_,_,rfl,lw,l2,ys,aHT G (keys cm),ws,V0,rfl,rfl,ndw,subw,S2 _ _ hlw,aE,IsL.same S2 _ _ iy,?_,v13,fun s m=>(aGV GG (Aw.mp m).1).2,fun db cmB kvB H3 S3 ndb hdb ckB cgB opB l13=>?_⟩
 ·have:=BN (fun s:Mt22.St=>!decide (s.far ∈ keys cm)) (Mt61.stepsOf G)
  unfold aHT
  omega
 have T3:=S2.trans S3
 have ius3:=IsL.same T3 _ _ ius
 refine ⟨_,rfl,l,rfl,⟨_,SqL.of (T3 _ _ hl)⟩,?_⟩
 refine bG (F:=K) (xs:=us) (by omega) (fun i ys H'=>aJ H3 H' ∧ IsL H' ((((Mt61.stepsOf G).take i).filter fun s=>decide (s.near ∈ keys cm) && decide (s.far ∈ keys cmB)).map (kD lv)) ys) ⟨aJ.refl _,rfl⟩ ?_ ?_ ?_
 ·rintro i ys H' hi ⟨S',iy⟩
  refine ⟨SqL.of (S' _ _ (T3 _ _ hl)),?_⟩
  have:=iy.length
  have:=BN (fun s:Mt22.St=>decide (s.near ∈ keys cm) && decide (s.far ∈ keys cmB)) ((Mt61.stepsOf G).take i)
  rw [AW] at this
  rw [AA] at *
  omega
 ·rintro i xv ys H' K1 K2 hx' ⟨S',iy⟩ k1 k2
  have hil:i < us.length:=(AB.mp hx').1
  obtain ⟨st,es⟩:∃ st,(Mt61.stepsOf G)[i]? = some st:=⟨_,AC (by omega)⟩
  obtain ⟨v,ev,iv⟩:=(IsL.same S' _ _ ius3).get (show ((Mt61.stepsOf G).map bQ)[i]? = some (bQ st) by rw [AI,es];rfl)
  rw [hx'] at ev
  cases ev
  obtain ⟨t,rfl,o⟩:=kK iv
  have et:=lE (P:=fun s:Mt22.St=>decide (s.near ∈ keys cm) && decide (s.far ∈ keys cmB)) es
  have no:(decide (st.near ∈ keys cm) && decide (st.far ∈ keys cmB)) = false → K2 H':=fun hg=>by
   refine k2 _ ⟨S',?_⟩
   rw [et,hg]
   simpa using iy
  refine ⟨_,rfl,t,_,1,.str st.near,rfl,rfl,SqT.of o,aN (j:=1) rfl,_,rfl,df,_,rfl,.inl ⟨kvs,Sum.inr st.near,pP hf (T3.trans S'),rfl,rfl⟩,_,rfl,?_⟩
  rw [aFG ck]
  cases h1:decide (st.near ∈ keys cm) with
  | false=>exact bM (no (by rw [h1];rfl))
  | true =>
   refine cW ?_
   refine ⟨_,rfl,t,_,2,.str st.far,rfl,rfl,SqT.of o,aN (j:=2) rfl,_,rfl,db,_,rfl,.inl ⟨kvB,Sum.inr st.far,.inl (S' _ _ hdb),rfl,rfl⟩,_,rfl,?_⟩
   rw [aFG ckB]
   cases h2:decide (st.far ∈ keys cmB) with
   | false=>exact bM (no (by rw [h1,h2];rfl))
   | true =>
    refine cW ⟨_,rfl,t,_,0,.str st.nm,rfl,rfl,SqT.of o,aN (j:=0) rfl,_,rfl,aX rfl,fun ta hta=>k1 _ _ ⟨S'.trans (aJ.upd hta),?_⟩⟩
    rw [h1,h2] at et
    rw [et,AT]
    exact IsL.snoc (show Is _ (kD lv st) (.ref ta) from ⟨ta,_,rfl,aE,_,_,rfl,rfl,_,_,rfl,rfl,rfl⟩) (IsL.same (aJ.upd hta) _ _ iy)
 rintro ys4 H4 ⟨S4,iy4⟩
 rw [AF (by omega)] at iy4
 intro lr hlr
 have S5:=aJ.upd (o:=.lst ys4) hlr
 exact q cmB lr ys4 _ (T3.trans (S4.trans S5)) ((T3.trans S4).free hlr) aE (IsL.same S5 _ _ iy4) cgB opB
open Mt53 Mt22 MtF Mt31 Mt61
theorem aMW {zs:List Str} {S:List Mt22.St} {cm:Cm} (h:CameG zs S cm) {R:List Str} (hz:∀ z ∈ zs,z ∈ R) (cl:∀ s ∈ S,s.near ∈ R → s.far ∈ R):∀ z ∈ keys cm,z ∈ R:=by
 have:∀ (n i:Nat) (z:Str),i < n → (keys cm)[i]? = some z → z ∈ R:=by
  intro n
  induction n with
  | zero=>intro i z hi;omega
  | succ n ih =>
   intro i z hi e
   unfold keys at e
   rw [AI] at e
   obtain ⟨⟨z',o⟩,e',rfl⟩:=Ao.mp e
   by_cases hl:i < zs.length
   ·obtain ⟨y,ey⟩:∃ y,zs[i]? = some y:=⟨_,AC hl⟩
    have:=h.first i y ey
    rw [e'] at this
    cases this
    exact hz _ (AM ey)
   ·obtain ⟨s,_,ms,ef,hn⟩:=h.prev i z' o (by omega) e'
    obtain ⟨j,hj⟩:=BA.mp hn
    have hjl:=(AB.mp hj).1
    unfold keys at hjl
    rw [AA,AW] at hjl
    have hj':(keys cm)[j]? = some s.near:=by
     unfold keys at hj ⊢
     rw [AI,Bj (by omega)] at hj
     rw [AI]
     exact hj
    show z' ∈ R
    rw [← ef]
    exact cl s ms (ih j _ (by omega) hj')
 intro z m
 obtain ⟨i,hi⟩:=BA.mp m
 exact this (i + 1) i z (by omega) hi
theorem aKJ {V0:List Str} {G:List Gap} (GG:Gaps V0 G) {f:Fl} {ws:List Str} (en:aNB G f ws) {cm cmB:Cm} (cg:CameG [Mt22.sea] (vP G f) cm) (op:tG (vP G f) cm cm.length) (cgB:CameG ws (aHT G (keys cm)) cmB) (opB:tG (aHT G (keys cm)) cmB cmB.length):Round G f ws (keys cm) (keys cmB):=by
 obtain ⟨cm1,cg1,op1,out⟩:=en
 have sub:=aMW cg (R:=keys cm1) (fun z m=>by rw [AV.mp m];exact cg1.start (AV.mpr rfl)) (mR op1)
 have wout:∀ z ∈ ws,z ∉ keys cm:=fun z m k=>out z m (sub z k)
 refine ⟨cg.start (AV.mpr rfl),fun s ms hr hn=>?_,wout,fun z m=>cgB.start m,fun z m=>?_,fun s ms hf hn=>?_⟩
 ·exact mR op s (Aw.mpr ⟨ms,decide_eq_true hr⟩) hn
 ·rcases cgB.mem m with m | ⟨s,ms,rfl⟩
  ·exact wout z m
  ·have:=(Aw.mp ms).2
   simpa using this
 ·exact mR opB s (Aw.mpr ⟨ms,by simpa using hf⟩) hn
theorem aBT {R B:List Str} (out:∀ z ∈ B,z ∉ R):∀ {G:List Gap},(G.map (·.nm)).Nodup → ((eN G R B).map (·.nm)).Nodup ∧ ∀ n ∈ (eN G R B).map (·.nm),n ∈ G.map (·.nm)
 | [],_=>⟨by simp [eN,Mt61.stepsOf],fun n m=>by simp [eN,Mt61.stepsOf] at m⟩
 | g :: G,nd=>by
  rw [AY,Ak] at nd
  obtain ⟨h1,h2⟩:=aBT out nd.2
  have e:eN (g :: G) R B = ([up g,dn g].filter fun s=>decide (s.near ∈ R) && decide (s.far ∈ B)) ++ eN G R B:=by
   unfold eN Mt61.stepsOf
   rw [Dd,CG]
  have hf:([up g,dn g].filter fun s=>decide (s.near ∈ R) && decide (s.far ∈ B)) = [] ∨ ∃ s,s.nm = g.nm ∧ ([up g,dn g].filter fun s=>decide (s.near ∈ R) && decide (s.far ∈ B)) = [s]:=by
   rw [CC]
   cases hu:(decide ((up g).near ∈ R) && decide ((up g).far ∈ B)) with
   | true =>
    rw [Ac] at hu
    have ub:g.b ∈ B:=of_decide_eq_true hu.2
    have:(decide ((dn g).near ∈ R) && decide ((dn g).far ∈ B)) = false:=by
     have:(dn g).near ∉ R:=out _ ub
     rw [decide_eq_false this]
     rfl
    rw [CC,this]
    exact .inr ⟨up g,rfl,rfl⟩
   | false =>
    rw [CC]
    cases hd:(decide ((dn g).near ∈ R) && decide ((dn g).far ∈ B)) with
    | true=>exact .inr ⟨dn g,rfl,rfl⟩
    | false=>exact .inl rfl
  rw [e]
  rcases hf with hf | ⟨s,en,hf⟩
  ·rw [hf,Dx]
   exact ⟨h1,fun n m=>AQ _ (h2 n m)⟩
  ·rw [hf]
   refine ⟨?_,fun n m=>?_⟩
   ·rw [AT,AY,Cc,EA,Ak,en]
    exact ⟨fun m=>nd.1 (h2 _ m),h1⟩
   ·rw [AT] at m
    rcases Ar.mp m with m | m
    ·rw [AY,Cc,AV,en] at m
     rw [m]
     exact AU
    ·exact AQ _ (h2 n m)
theorem xP {G:List Gap} {R B:List Str}:∀ s ∈ eN G R B,s ∈ Mt61.stepsOf G:=fun s m=>(Aw.mp m).1
theorem aDC {fs ds:List Dv} {zs:List Str} (gd:GoodD zs ds) {L:Int} {V0:List Str} (GG:Gaps V0 (aQ fs ds L)) {s:Mt22.St} (m:s ∈ Mt61.stepsOf (aQ fs ds L)):aDD ds (kD L s) = qI (aQ fs ds L) s.nm ∧ s.nm ∈ ds.map aZ ∧ gU ds s.nm ≤ L:=by
 obtain ⟨g,mg,en,_⟩:=pJ m
 obtain ⟨d,md,hg,rfl,ed⟩:=aCU gd mg
 have ec:=vY gd.nd md
 have er:=aGF gd.nd md
 have cap:=nN GG mg
 rw [← en,← ed]
 rw [← ed] at cap
 refine ⟨?_,AS.mpr ⟨d,md,rfl⟩,?_⟩
 ·show uL ds s.nm * (L - gU ds s.nm) = _
  rw [← en,← ed,cap,ec,er]
  obtain ⟨n,a,b,c,r,sl,rfl,_⟩:=bU (gd.all d md)
  rfl
 ·rw [ec]
  obtain ⟨n,a,b,c,r,sl,rfl,_⟩:=bU (gd.all d md)
  have h1:c < L:=of_decide_eq_true (BJ.mp (show (decide (c < L) && (tD fs L a && tD fs L b)) = true from hg)).1
  show c ≤ L
  omega
theorem aDM {fs ds:List Dv} {zs:List Str} (gd:GoodD zs ds) {L:Int} (hL:hgt L = true) {V0:List Str} (GG:Gaps V0 (aQ fs ds L)) {R B:List Str} (out:∀ z ∈ B,z ∉ R):GoodW ds ((eN (aQ fs ds L) R B).map (kD L)):=by
 refine ⟨fun d m=>?_,?_⟩
 ·obtain ⟨s,ms,rfl⟩:=AS.mp m
  obtain ⟨_,h2,h3⟩:=aDC gd GG (xP s ms)
  show (decide (s.nm ∈ ds.map aZ) && (hgt L && decide (gU ds s.nm ≤ L))) = true
  rw [decide_eq_true h2,hL,decide_eq_true h3]
  rfl
 ·rw [Al]
  exact (aBT out GG.nd).1
theorem aDN {fs ds:List Dv} {zs:List Str} (gd:GoodD zs ds) {L:Int} {V0:List Str} (GG:Gaps V0 (aQ fs ds L)) {f:Fl} {ws R B:List Str} (st:Stream V0 (aQ fs ds L) ws f) (r:Round (aQ fs ds L) f ws R B):aAM ds ((eN (aQ fs ds L) R B).map (kD L)) = val (aQ fs ds L) f:=by
 rw [← aDZ GG st r]
 unfold aAM
 rw [Al]
 show sm _ _ = _
 exact eI fun s m=>(aDC gd GG (xP s m)).1
theorem aHP {G:List Gap} {R B:List Str}:(eN G R B).length ≤ 2 * G.length:=by
 rw [← nX]
 exact BN _ _
def aQC (f:Fl) (g:Gap):Dv:=.tup [.str g.nm,.int (f g.nm)]
def aMZ (G:List Gap) (f:Fl):List Dv:=(G.filter fun g=>!decide (f g.nm = 0)).map (aQC f)
def aBJ (C:Addr):Sp:=sp3 fun x y u H Q=>∃ (p l:Addr) (fs ds:List Dv) (zs:List Str) (L:Int),x = .ref p ∧ LandAt C H p fs ds ∧ y = .ref l ∧ H l = some (.lst (zs.map V.str)) ∧ 1 ≤ zs.length ∧ zs.Nodup ∧ (∀ z ∈ zs,z ∈ fs.map aZ) ∧ u = .int L ∧ hgt L = true ∧
 ∀ (t lk la:Addr) (uk ua:List V) (f:Fl) (R B:List Str) (H':Hp),aJ H H' → H t = none → H lk = none → H la = none → lk ≠ la → H' t = some (.tup [.int (val (aQ fs ds L) f),.ref lk,.ref la]) → H' lk = some (.lst uk) → IsL H' ((eN (aQ fs ds L) R B).map (kD L)) uk → H' la = some (.lst ua) → IsL H' (aMZ (aQ fs ds L) f) ua → Stream ("sea" :: fs.map aZ) (aQ fs ds L) zs f → Round (aQ fs ds L) f zs R B → Q (.ref t) H'
theorem aCF (T:Txt K mg C):Fc P w K mg base 6 "fewest" ["land","fields","height"] (aBJ C):=by
 have G_p_check_wish:Fc P w K mg base 3 "check_wish" ["land","fields","height"] (uA C):=lZ T
 have G_p_gap_coins:Fc P w K mg base 4 "gap_coins" ["land","height"] (aJW C):=uU T
 have G_p_steps_over:Fc P w K mg base 2 "steps_over" ["land","names"] (aBF C):=sX T
 have G_p_fullest_stream:Fc P w K mg base 4 "fullest_stream" ["steps","most","fields"] aJX:=oI T
 have G_p_reached:Fc P w K mg base 2 "reached" ["steps","most","stream"] qN:=pX T
 have G_p_works_round:Fc P w K mg base 2 "works_round" ["steps","flowed","fields","height"] aJR:=qV T
 have G_p_coins_of:Fc P w K mg base 5 "coins_of" ["land","works"] (xK C):=wS T
 refine T.d_p_fewest.fc gB pB (fun f cdv A outer s H vs Q E hr h=>?_)
 obtain ⟨x,y,u,rfl,p,l,fs,ds,zs,lv,rfl,L,rfl,hl,l1,nd,sub,rfl,hL,q⟩:=h
 have big:=bO
 have hu:=jZ hr
 have gf:=(cI L).1
 have gd:=(cI L).2
 have d2:=gd.l2
 have f2:=gf.l2
 have GG:=qF gf gd lv
 have gl:=qG fs ds lv
 have v13:(("sea":Str) :: fs.map aZ).length ≤ 13:=by rw [Aj,AA];omega
 have ns:Mt22.sea ∉ zs:=fun m=>by
  obtain ⟨d,md,e⟩:=AS.mp (sub _ m)
  obtain ⟨z,g,u,rfl,hz,_⟩:=bZ (gf.all d md)
  exact zH hz e
 refine ⟨_,(@aG _ _ _ _ _ (@fD _ _ _ _ (@bH _ _ _ _ _ _ _ _ _ _ G_p_check_wish (hr.mono (by decide)) (@aA _ _ _ _ _ (pv 0) (@aA _ _ _ _ _ (pv 1) (@aA _ _ _ _ _ (pv 2) aD (by rfl)) (by rfl)) (by rfl)) (by rfl) (by decide) (by rfl) (by rfl)) (by rfl)) (@aG _ _ _ _ _ (@aU _ _ (3) _ _ _ _ gB.nd rfl (Or.inl rfl) (@bH _ _ _ _ _ _ _ _ _ _ G_p_gap_coins (hr.mono (by decide)) (@aA _ _ _ _ _ (pv 0) (@aA _ _ _ _ _ (pv 2) aD (by rfl)) (by rfl)) (by rfl) (by decide) (by rfl) (by rfl)) (by rfl) (by trivial)) (@aG _ _ _ _ _ (@aU _ _ (4) _ _ _ _ gB.nd rfl (Or.inl rfl) (@bH _ _ _ _ _ _ _ _ _ _ G_p_steps_over (hr.mono (by decide)) (@aA _ _ _ _ _ (pv 0) (@aA _ _ _ _ _ (pv 3) aD (by rfl)) (by rfl)) (by rfl) (by decide) (by rfl) (by rfl)) (by rfl) (by trivial)) (@aG _ _ _ _ _ (@aU _ _ (5) _ _ _ _ gB.nd rfl (Or.inr rfl) (@bH _ _ _ _ _ _ _ _ _ _ G_p_fullest_stream (hr.mono (by decide)) (@aA _ _ _ _ _ (pv 4) (@aA _ _ _ _ _ (pv 3) (@aA _ _ _ _ _ (pv 1) aD (by rfl)) (by rfl)) (by rfl)) (by rfl) (by decide) (by rfl) (by rfl)) (by rfl) (by trivial)) (@aG _ _ _ _ _ (@aU _ _ (6) _ _ _ _ gB.nd rfl (Or.inl rfl) (@bH _ _ _ _ _ _ _ _ _ _ G_p_works_round (hr.mono (by decide)) (@aA _ _ _ _ _ (pv 4) (@aA _ _ _ _ _ (@bH _ _ _ _ _ _ _ _ _ _ G_p_reached (hr.mono (by decide)) (@aA _ _ _ _ _ (pv 4) (@aA _ _ _ _ _ (pv 3) (@aA _ _ _ _ _ (pv 5) aD (by rfl)) (by rfl)) (by rfl)) (by rfl) (by decide) (by rfl) (by rfl)) (@aA _ _ _ _ _ (pv 1) (@aA _ _ _ _ _ (pv 2) aD (by rfl)) (by rfl)) (by rfl)) (by rfl)) (by rfl) (by decide) (by rfl) (by rfl)) (by rfl) (by trivial)) (@aG _ _ _ _ _ (@jM _ (7) _ _ _ _ _ _ _ _ _ _ _ _ _ gB.nd rfl ["name","stream"] 1 [5] rfl (@zR _ _ _ _ (pv 5)) (fun R=>@aW _ _ (0) _ (show Au (["name","stream"]:List Str) by decide +kernel) rfl (Or.inl rfl) (by trivial)) (@aY _ _ (by decide)) (fun R=>@eX _ _ _ (@cC _ _ _ _ _ _ _ _ sH (@eB _ _ _ _ _ _ hu (pv 1) (pv 0) (fun _ _=>rfl)) aF (@bX _ _ (by decide) (by decide)))) (fun R=>(@dZ _ _ _ _ _ (@aA _ _ _ _ _ (pv 0) (@aA _ _ _ _ _ (@eB _ _ _ _ _ _ hu (pv 1) (pv 0) (fun _ _=>rfl)) aD (by rfl)) (by rfl)))) (by exact Or.inl rfl) (by trivial) (by rfl) (by rfl) (by rfl) (by rfl) (by rfl) (by rfl) (by rfl) (by rfl) (by intro _;rfl)) (@aH _ _ _ (@aT _ _ _ _ (@dZ _ _ _ _ _ (@aA _ _ _ _ _ (@bH _ _ _ _ _ _ _ _ _ _ G_p_coins_of (hr.mono (by decide)) (@aA _ _ _ _ _ (pv 0) (@aA _ _ _ _ _ (pv 6) aD (by rfl)) (by rfl)) (by rfl) (by decide) (by rfl) (by rfl)) (@aA _ _ _ _ _ (pv 6) (@aA _ _ _ _ _ (pv 7) aD (by rfl)) (by rfl)) (by rfl))))))))))),?_⟩
 refine ⟨_,rfl,_,rfl,_,rfl,_,_,_,rfl,p,l,fs,ds,zs,lv,rfl,L,rfl,hl,l1,nd,sub,rfl,hL,fun H1 S1=>?_⟩
 refine ⟨_,rfl,_,rfl,_,_,rfl,p,fs,ds,lv,rfl,L.same S1,rfl,fun dm H2 S2 nm2 hm2=>?_⟩
 have T2:=S1.trans S2
 refine ⟨_,rfl,_,rfl,_,_,rfl,p,dm,fs,ds,lv,rfl,L.same T2,rfl,hm2,fun o ls us H3 S3 nls hls ius=>?_⟩
 have nmH:H dm = none:=S1.free nm2
 have T3:aJ H H3:=fun b u e=>S3 _ _ (by rw [aI (fun c=>by rw [c,nmH] at e;cases e)];exact T2 _ _ e)
 have hm3:H3 dm = some (.frz o (.dK (dO (aQ fs ds lv)))):=S3 _ _ aE
 refine ⟨_,rfl,_,rfl,_,rfl,_,_,_,rfl,ls,dm,l,o,us,"sea" :: fs.map aZ,aQ fs ds lv,zs,rfl,hls,ius,by omega,v13,GG,rfl,hm3,rfl,T3 _ _ hl,ns,fun de fl H4 S4 nde hde st en=>?_⟩
 have T4:=T3.trans S4
 have ius4:=IsL.same S4 _ _ ius
 refine ⟨_,rfl,_,rfl,_,rfl,_,rfl,_,_,_,rfl,ls,dm,de,us,"sea" :: fs.map aZ,aQ fs ds lv,fl,rfl,S4 _ _ hls,ius4,by omega,v13,GG,rfl,.inr ⟨o,S4 _ _ hm3⟩,rfl,.inl hde,fun df cm kvs H5 S5 ndf hdf ck cg op l13=>?_⟩
 have T5:=T4.trans S5
 refine ⟨_,rfl,_,rfl,_,_,_,_,ls,df,l,us,"sea" :: fs.map aZ,aQ fs ds lv,kvs,cm,zs,lv,rfl,rfl,(S4.trans S5) _ _ hls,IsL.same S5 _ _ ius4,by omega,v13,GG,rfl,.inl hdf,ck,rfl,T5 _ _ hl,nd,fun z m=>AQ _ (sub z m),rfl,fun cmB lk uk H6 S6 nlk hlk iuk cgB opB=>?_⟩
 have rd:=aKJ GG en cg op cgB opB
 have T6:=T5.trans S6
 have hde6:=(S5.trans S6) _ _ hde
 have ndeH:H de = none:=T3.free nde
 refine ⟨_,rfl,de,_,rfl,hde6,fun o2=>?_⟩
 have T7:aJ H (upd H6 de (.frz o2 (.dK (dX (aQ fs ds lv) fl)))):=T6.over ndeH
 have K7:iN H6 (upd H6 de (.frz o2 (.dK (dX (aQ fs ds lv) fl)))):=fun b ys e=>by
  rw [aI (fun c=>by rw [c,hde6] at e;cases e)]
  exact e
 have iuk7:IsL (upd H6 de (.frz o2 (.dK (dX (aQ fs ds lv) fl)))) ((eN (aQ fs ds lv) (keys cm) (keys cmB)).map (kD lv)) uk:=IsL.keep K7 _ _ (fV fun d m=>by obtain ⟨s,_,rfl⟩:=AS.mp m;rfl) iuk
 have hlk7:upd H6 de (.frz o2 (.dK (dX (aQ fs ds lv) fl))) lk = some (.lst uk):=by rw [aI (xT hlk hde6 (by intro c;cases c))];exact hlk
 have dF:upd H6 de (.frz o2 (.dK (dX (aQ fs ds lv) fl))) de = some (.frz o2 (.dK (dX (aQ fs ds lv) fl))):=aE
 generalize upd H6 de (.frz o2 (.dK (dX (aQ fs ds lv) fl))) = H7 at T7 iuk7 hlk7 dF
 refine rP (by rw [nL];omega) (fun i ys H'=>aJ H7 H' ∧ IsL H' (aMZ ((aQ fs ds lv).take i) fl) ys) ⟨aJ.refl _,rfl⟩ ?_ ?_ ?_
 ·rintro i ys H' hi ⟨S',iy⟩
  refine ⟨S' _ _ dF,?_⟩
  have:=iy.length
  unfold aMZ at this
  have:=BN (fun g:Gap=>!decide (fl g.nm = 0)) ((aQ fs ds lv).take i)
  rw [AW] at this
  rw [AA] at *
  omega
 ·rintro i kv ys H' K1 K2 hk ⟨S',iy⟩ k1 k2
  unfold dX at hk
  rw [AI] at hk
  obtain ⟨g,eg,ekv⟩:=Ao.mp hk
  have mg':=AM eg
  have ek:kV kv.1 = V.str g.nm:=by rw [← ekv];rfl
  rw [ek]
  have v2:cX (dX (aQ fs ds lv) fl) (Sum.inr g.nm) = some (.int (fl g.nm)):=xW (f:=fun g=>V.int (fl g.nm)) GG.nd mg'
  have et:=lE (P:=fun g:Gap=>!decide (fl g.nm = 0)) eg
  refine ⟨_,rfl,_,rfl,de,_,rfl,.inl ⟨_,Sum.inr g.nm,.inr ⟨o2,S' _ _ dF⟩,rfl,v2.symm⟩,rfl,_,rfl,?_⟩
  rw [iX]
  cases hg:(!decide (fl g.nm = 0)) with
  | false =>
   rw [hg] at et
   refine bM (k2 _ ⟨S',?_⟩)
   unfold aMZ at iy ⊢
   rw [et]
   simpa using iy
  | true =>
   rw [hg] at et
   refine cW ⟨_,rfl,_,rfl,_,rfl,de,_,rfl,.inl ⟨_,Sum.inr g.nm,.inr ⟨o2,S' _ _ dF⟩,rfl,v2.symm⟩,aX rfl,fun ta hta=>k1 _ _ ⟨S'.trans (aJ.upd hta),?_⟩⟩
   unfold aMZ
   rw [et,if_pos rfl,AT]
   exact IsL.snoc (show Is _ (aQC fl g) (.ref ta) from ⟨ta,_,rfl,aE,_,_,rfl,rfl,_,_,rfl,rfl,rfl⟩) (IsL.same (aJ.upd hta) _ _ iy)
 rintro ua H8 ⟨S8,iua⟩
 rw [nL,AF (AN _)] at iua
 intro la hla
 have S9:=aJ.upd (o:=.lst ua) hla
 have r9:upd H8 la (.lst ua) la = some (.lst ua):=aE
 have T9:=T7.trans (S8.trans S9)
 have nla:=(T7.trans S8).free hla
 have U9:=S8.trans S9
 have iua9:=IsL.same S9 _ _ iua
 have nlka:lk ≠ la:=aO (S8 _ _ hlk7) hla
 generalize upd H8 la (.lst ua) = H9 at S9 r9 T9 U9 iua9
 have iuk9:=IsL.same U9 _ _ iuk7
 have hlk9:=U9 _ _ hlk7
 have rl:=aHP (G:=aQ fs ds lv) (R:=keys cm) (B:=keys cmB)
 refine ⟨_,rfl,_,rfl,_,_,rfl,p,fs,ds,(eN (aQ fs ds lv) (keys cm) (keys cmB)).map (kD lv),rfl,L.same T9,⟨lk,uk,rfl,hlk9,iuk9⟩,by rw [AA];omega,aDM gd hL GG rd.bout,_,rfl,_,rfl,aX rfl,fun t ht=>?_⟩
 have S10:=aJ.upd (o:=.tup [.int (aAM ds ((eN (aQ fs ds lv) (keys cm) (keys cmB)).map (kD lv))),.ref lk,.ref la]) ht
 refine q t lk la uk ua fl (keys cm) (keys cmB) _ (T9.trans S10) (T9.free ht) (T5.free nlk) nla nlka ?_ (S10 _ _ hlk9) (IsL.same S10 _ _ iuk9) (S10 _ _ r9) (IsL.same S10 _ _ iua9) st rd
 rw [aE,aDN gd GG st rd]
open Mt53 Mt22 MtF Mt31 Mt61
theorem vF {V0:List Str} {G:List Gap} (GG:Gaps V0 G):jT G [] 0:=by
 refine ⟨⟨fun _=>false,rfl,fun z m=>(nomatch m),jY fun g _=>if_pos rfl⟩,fun X _ _=>?_⟩
 have:sm G (fun _=>(0:Int)) ≤ sm G (vZ X):=aGB fun g m=>by
  have:=GG.cap g m
  unfold vZ
  split <;> omega
 rw [jY fun _ _=>rfl] at this
 exact this
def aFZ:Sp:=sp1 fun x H Q=>∃ L:Int,x = .int L ∧ hgt L = true ∧ Q (.int 0) H
theorem pZ (T:Txt K mg C):Fc P w K mg base 3 "cost_of_none" ["height"] aFZ:=by
 have G_p_is_height:Fc P w K mg base 2 "is_height" ["thing"] jB:=dS T
 refine T.d_p_cost_of_none.fc pL mF (fun f cdv A outer s H vs Q E hr h=>?_)
 obtain ⟨x,rfl,lv,rfl,hL,q⟩:=h
 refine ⟨_,(@aG _ _ _ _ _ (@fE _ _ _ _ _ _ _ _ (@dJ _ _ _ _ (@dG _ _ _ (@bH _ _ _ _ _ _ _ _ _ _ G_p_is_height (hr.mono (by decide)) (@aA _ _ _ _ _ (pv 0) aD (by rfl)) (by rfl) (by decide) (by rfl) (by rfl)) (by intro _;rfl))) (@aH _ _ _ kW) cG) (@aH _ _ _ (@aT _ _ _ _ aF))),?_⟩
 refine ⟨_,rfl,_,rfl,.int lv,rfl,_,rfl,?_⟩
 rw [show fU (.int lv) = true from hL]
 exact bM q
def aDT (C:Addr):Sp:=sp3 fun x y u H Q=>∃ (p l:Addr) (fs ds:List Dv) (zs:List Str) (L:Int),x = .ref p ∧ LandAt C H p fs ds ∧ y = .ref l ∧ H l = some (.lst (zs.map V.str)) ∧ zs.Nodup ∧ (∀ z ∈ zs,z ∈ fs.map aZ) ∧ u = .int L ∧ hgt L = true ∧
 ∀ (c:Int) (H':Hp),aJ H H' → jT (aQ fs ds L) zs c → Q (.int c) H'
theorem xR (T:Txt K mg C):Fc P w K mg base 7 "cost" ["land","fields","height"] (aDT C):=by
 have G_p_cost_of_none:Fc P w K mg base 3 "cost_of_none" ["height"] aFZ:=pZ T
 have G_p_fewest:Fc P w K mg base 6 "fewest" ["land","fields","height"] (aBJ C):=aCF T
 refine T.d_p_cost.fc aHN pB (fun f cdv A outer s H vs Q E hr h=>?_)
 obtain ⟨x,y,u,rfl,p,l,fs,ds,zs,lv,rfl,L,rfl,hl,nd,sub,rfl,hL,q⟩:=h
 have gf:=(cI L).1
 have gd:=(cI L).2
 have GG:=qF gf gd lv
 refine ⟨_,(@aG _ _ _ _ _ (@fE _ _ _ _ _ _ _ _ (@PW.pt _ _ _ (@aEA _ _ _ _ _ _ _ (@dG _ _ _ (@aP _ _ _ _ _ _ _ _ _ (@cA _ (K) rfl) rfl T.n_isinstance bL (@aA _ _ _ _ _ (pv 1) (@aA _ _ _ _ _ (@lY _ _ _ _ T.n_list dH (by rfl) (by decide) (by decide)) aD (by rfl)) (by rfl)) (by decide) (by decide) (by rfl) (by rfl)) (by intro _;rfl)) (@zN _ _ _ _ (@cC _ _ _ _ _ _ _ _ pV (@aP _ _ _ _ _ _ _ _ _ (@bA _ (K) rfl) rfl T.n_len bK (@aA _ _ _ _ _ (pv 1) aD (by rfl)) (by decide) (by decide) (by rfl) (by rfl)) aF (@bX _ _ (by decide) (by decide)))))) (@aH _ _ _ (@aT _ _ _ _ (@bH _ _ _ _ _ _ _ _ _ _ G_p_cost_of_none (hr.mono (by decide)) (@aA _ _ _ _ _ (pv 2) aD (by rfl)) (by rfl) (by decide) (by rfl) (by rfl)))) cG) (@aH _ _ _ (@aT _ _ _ _ (@bE _ _ _ _ _ _ _ (@aV _ (K) rfl) (@bH _ _ _ _ _ _ _ _ _ _ G_p_fewest (hr.mono (by decide)) (@aA _ _ _ _ _ (pv 0) (@aA _ _ _ _ _ (pv 1) (@aA _ _ _ _ _ (pv 2) aD (by rfl)) (by rfl)) (by rfl)) (by rfl) (by decide) (by rfl) (by rfl)) aF (fun _ _=>rfl))))),?_⟩
 refine ⟨_,rfl,_,_,_,_,_,rfl,rfl,TyOf.lst hl,gT _ _,_,rfl,?_⟩
 refine cW ?_
 refine ⟨_,rfl,l,_,rfl,.inl (SqL.of hl),rfl,_,rfl,?_⟩
 cases zs with
 | nil =>
  show (if true = true then _ else _)
  exact cW ⟨_,rfl,_,rfl,lv,rfl,hL,q 0 H (aJ.refl _) (vF GG)⟩
 | cons z zr =>
  rw [decide_eq_false (fun e=>by have:=V.int.inj e;rw [AA,Aj] at this;omega)]
  refine bM ?_
  refine ⟨_,rfl,_,rfl,_,rfl,_,_,_,rfl,p,l,fs,ds,z :: zr,lv,rfl,L,rfl,hl,by rw [Aj];omega,nd,sub,rfl,hL,fun t lk la uk ua f' R B H' S' nt nlk nla nka ht hk ik ha ia st rd=>?_⟩
  exact ⟨t,_,0,_,rfl,rfl,SqT.of ht,aN (j:=0) rfl,q _ H' S' (aBU GG st rd)⟩
open Mt53 Mt22 MtF Mt31 Mt61
def aUQ:Str:=("lists_of_places":Str) ++ ".<locals>." ++ "<lambda>"
abbrev pG (Tb:Addr) (H:Hp):Prop:=jX Tb ⟨187,29,187,59⟩ aUQ H
def aFV (Tb:Addr):Sp:=sp1 fun x H Q=>∃ n:Nat,x = .int n ∧ 1 ≤ n ∧ n ≤ 4 ∧ pG Tb H ∧
 ∀ (D:Addr) (ps:List (Addr × List Int)) (H':Hp),dQ Tb H H' → pG Tb H' → H' D = some (.lst (ps.map fun p=>V.ref p.1)) → jU H' ps → (∀ p ∈ ps,H p.1 = none) → ps.map (·.2) = zQ n → Q (.ref D) H'
theorem gσ {i:Nat} {v:V} {σ σ':L2.St} {H:Hp} {Q:L2.St → Hp → Prop} (e:σ.set i (some v) = σ') (h:Q σ' H):sM i v σ H Q:=by
 unfold sM
 rw [e]
 exact h
theorem sL {H:Hp}:∀ {ns:List Int} {xs:List V},IsL H (ns.map Dv.int) xs → xs = ns.map V.int
 | [],xs,h=>h
 | n :: ns,xs,h=>by
  obtain ⟨v,vs,rfl,e,r⟩:=h
  cases (show v = .int n from e)
  rw [sL r]
  rfl
theorem aEH (T:Txt K mg C) {c Tb:Addr} (B:TabB K mg base "lists_of_places" c Tb):Fc P w K mg base 5 "lists_of_places" ["count"] (aFV Tb):=by
 refine T.d_p_lists_of_places.fcC B dM mF (fun f A outer s H vs Q E hr h=>?_)
 obtain ⟨x,rfl,n,rfl,n1,n4,tab,q⟩:=h
 have big:=bO
 have KB:aSB (aSC (aBE (tCB (fun xs H Q=>∃ a ys,xs = [.ref a] ∧ (SqL K H a ys ∨ SqT K H a ys) ∧ Q (.int ys.length) H) (aBE (aNI 0) aHF)) (aBE (aNI 0) aHF))):=fun a ns H Q ea q=>⟨_,rfl,a,_,rfl,.inl (SqL.of ea),_,rfl,aX rfl,fun t nt=>q t _ (aJ.upd nt) (by rw [aE,AA])⟩
 refine ⟨_,(@aG _ _ _ _ _ (@aU _ _ (1) _ _ _ _ dM.nd rfl (Or.inl rfl) (@cY _ _ _ _ (@aA _ _ _ _ _ (@cY _ _ _ _ aD) aD (by rfl))) (by rfl) (by trivial)) (@aG _ _ _ _ _ (@fG _ _ _ _ _ _ _ _ BC rfl (@gZ _ _ _ _ _ _ rfl T.n_range (@aA _ _ _ _ _ (pv 0) aD (by rfl)) (by rfl)) (@aW _ _ (2) _ dM.nd rfl (Or.inr rfl) (by trivial)) (@aH _ _ _ (@aU _ _ (1) _ _ _ _ dM.nd rfl (Or.inl rfl) (@aM _ _ _ _ _ _ _ _ uR (pv 1) (@bS _ _ _ _ _ _ _ _ _ _ _ ["some","place"] 1 [2] rfl (@bJ _ _ _ _ (pv 1)) (fun R=>@aW _ _ (0) _ (show Au (["some","place"]:List Str) by decide +kernel) rfl (Or.inl rfl) (by trivial)) (@aY _ _ (by decide)) (fun R=>bW) (fun R=>(@aM _ _ _ _ _ _ _ _ uR (pv 0) (@cY _ _ _ _ (@aA _ _ _ _ _ (pv 1) aD (by rfl))))) (by rfl) (by rfl) (by rfl) (by rfl) (by rfl) (by rfl) (by rfl) (by intro _;rfl))) (by rfl) (by trivial))) (by intro _;rfl)) (@aH _ _ _ (@aT _ _ _ _ (@aKU _ _ _ _ _ _ _ _ _ _ _ _ _ (0) _ (hr.mono (by decide)) rfl T.n_sorted (pv 1) (@aQY _ _ _ _ _ _ _ _ _ B rfl rfl rfl rfl) ⟨rfl,rfl,rfl,by decide +kernel,rfl,by decide +kernel,by decide +kernel⟩ (fun _ _ _ _=>rfl) (fun _ _ _ _ _ _=>(dZ (aA (aP (bA (K:=K) rfl) rfl T.n_len bK (aA (pv 0) aD)) (aA (pv 0) aD)))) KB (by rfl) (by rfl)))))),?_⟩
 refine ⟨aX rfl,fun a0 m0=>?_⟩
 have S0:=aJ.upd (o:=.lst []) m0
 have r0:upd H a0 (.lst []) a0 = some (.lst []):=aE
 generalize upd H a0 (.lst []) = H0 at S0 r0
 refine ⟨aX rfl,fun l0 m1=>?_⟩
 have S1:=aJ.upd (o:=.lst [.ref a0]) m1
 have r1:upd H0 l0 (.lst [.ref a0]) l0 = some (.lst [.ref a0]):=aE
 have i1:IsL (upd H0 l0 (.lst [.ref a0])) ((gX 0).map fun ns=>Dv.lst (ns.map Dv.int)) [.ref a0]:=⟨_,_,rfl,⟨a0,_,rfl,S1 _ _ r0,rfl⟩,rfl⟩
 generalize upd H0 l0 (.lst [.ref a0]) = H1 at S1 r1 i1
 have T1:=S0.trans S1
 refine gσ (σ':=[some (.int n),some (.ref l0),none]) rfl ?_
 refine ⟨_,rfl,n,rfl,by omega,by omega,hJ (n:=n) (fun i σ H'=>∃ (l:Addr) (us:List V) (v2:Option V),σ = [some (.int n),some (.ref l),v2] ∧ aJ H1 H' ∧ H' l = some (.lst us) ∧ IsL H' ((gX i).map fun ns=>Dv.lst (ns.map Dv.int)) us ∧ ∀ v ∈ us,∃ a,v = .ref a ∧ H a = none) ⟨l0,[.ref a0],_,rfl,aJ.refl _,r1,i1,fun v m=>⟨a0,AV.mp m,m0⟩⟩ ?_ ?_⟩
 ·rintro i σ H' hi ⟨l,us,v2,rfl,S',hl,ic,fr⟩
  have cl:(gX i).length ≤ 16:=by
   rw [pI]
   have:2 ^ i ≤ 2 ^ 4:=Cl (by decide) (by omega)
   omega
  have il:∀ ns ∈ gX i,ns.length ≤ 4:=fun ns m=>by have:=lK i ns m;omega
  have es:gX (i + 1) = gX i ++ (gX i).map (· ++ [(i:Int)]):=rfl
  rw [es]
  generalize gX i = cs at ic cl il
  have luc:=ic.length
  rw [AA] at luc
  refine ⟨_,rfl,_,rfl,l,rfl,⟨_,SqL.of hl⟩,?_⟩
  refine bG (F:=K) (xs:=us) (by omega) (fun j ys H''=>aJ H' H'' ∧ IsL H'' ((cs.take j).map fun ns=>Dv.lst ((ns ++ [(i:Int)]).map Dv.int)) ys ∧ ∀ v ∈ ys,∃ a,v = .ref a ∧ H a = none) ⟨aJ.refl _,rfl,fun _ m=>nomatch m⟩ ?_ ?_ ?_
  ·rintro j ys H'' hj ⟨S2,iy,_⟩
   refine ⟨SqL.of (S2 _ _ hl),?_⟩
   have:=iy.length
   rw [AA,AW] at this
   omega
  ·rintro j xv ys H'' K1 K2 hx2 ⟨S2,iy,fy⟩ k1 k2
   have hjl:j < us.length:=(AB.mp hx2).1
   obtain ⟨ns,ec⟩:∃ c,cs[j]? = some c:=⟨_,AC (by omega)⟩
   obtain ⟨v,ev,iv⟩:=(IsL.same S2 _ _ ic).get (show (cs.map fun ns=>Dv.lst (ns.map Dv.int))[j]? = some (Dv.lst (ns.map Dv.int)) by rw [AI,ec];rfl)
   rw [hx2] at ev
   cases ev
   obtain ⟨li,xs,rfl,oi,hx⟩:=iv
   have ex:xs = ns.map V.int:=sL hx
   subst ex
   have:=il ns (AM ec)
   refine ⟨_,rfl,_,rfl,aX rfl,fun l1 h1=>?_⟩
   have S3:=aJ.upd (o:=.lst [.int (0 + (i:Int))]) h1
   refine ⟨li,l1,_,_,rfl,rfl,S3 _ _ oi,aE,by rw [AA];show _ + 1 ≤ _;omega,fun l2 h2=>k1 _ _ ⟨S2.trans (S3.trans (aJ.upd h2)),?_,fun v m=>?_⟩⟩
   rotate_left
   ·rcases Ar.mp m with m | m
    ·exact fy v m
    ·exact ⟨l2,AV.mp m,(T1.trans (S'.trans (S2.trans S3))).free h2⟩
   rw [AX,ec,AT]
   refine IsL.snoc (show Is _ (Dv.lst ((ns ++ [(i:Int)]).map Dv.int)) (.ref l2) from ⟨l2,_,rfl,aE,?_⟩) (IsL.same (S3.trans (aJ.upd h2)) _ _ iy)
   rw [show ns.map V.int ++ [V.int (0 + (i:Int))] = (ns ++ [(i:Int)]).map V.int by rw [AT,DU];rfl]
   exact qD _
  rintro ys H2' ⟨S2,iy,fy⟩
  rw [AF (by omega)] at iy
  intro l3 h3
  have S3:=aJ.upd (o:=.lst ys) h3
  have ly:=iy.length
  rw [AA] at ly
  refine ⟨l,l3,_,_,rfl,rfl,(S2.trans S3) _ _ hl,aE,by omega,fun l4 h4=>?_⟩
  have S4':=aJ.upd (o:=.lst (us ++ ys)) h4
  refine ⟨l4,us ++ ys,_,rfl,S'.trans (S2.trans (S3.trans S4')),aE,?_,fun v m=>(Ar.mp m).elim (fr v) (fy v)⟩
  rw [AT,Al]
  exact IsL.app (IsL.same (S3.trans S4') _ _ iy) (IsL.same (S2.trans (S3.trans S4')) _ _ ic)
 ·rintro σ H2 ⟨l,us,v2,rfl,S2,hl,ic,fr⟩
  obtain ⟨ps,rfl,it,ep⟩:=aCR ic
  obtain ⟨o1,o2,o3,_⟩:=zE n n1 n4
  have lp:ps.length = (gX n).length:=by rw [← ep,AA]
  have l2:2 ≤ ps.length ∧ ps.length ≤ 16:=by
   rw [lp,pI]
   have:2 ^ 1 ≤ 2 ^ n:=Cl (by decide) n1
   have:2 ^ n ≤ 2 ^ 4:=Cl (by decide) n4
   omega
  have T2:=T1.trans S2
  refine ⟨_,rfl,l,ps,(lX n).toArray,rfl,hl,it,l2.1,by omega,by rw [ep];exact o1,fun i m=>by rw [lp];exact o2 i (by simpa using m),by rw [lp,AR];exact o3,tab.keep T2,fun D H3 K3 t3 eD=>?_⟩
  have eps:(lX n).toArray.toList.map (fun i=>(ps.map fun p=>V.ref p.1).getD i .non) = ((lX n).map fun i=>ps.getD i (0,[])).map fun p=>V.ref p.1:=by
   rw [Al]
   refine Bb fun i m=>?_
   have hi:=o2 i m
   rw [← lp] at hi
   show (ps.map fun p=>V.ref p.1).getD i .non = V.ref (ps.getD i (0,[])).1
   rw [jQ,Ai,AC hi]
   rfl
  rw [eps] at eD
  obtain ⟨qs,eT,_⟩:=tab.keep T2
  refine q D _ H3 (fun b o nb e=>K3 b o nb (T2 _ _ e)) t3 eD (fun p m=>?_) (fun p m=>?_) ?_
  ·obtain ⟨i,mi,rfl⟩:=AS.mp m
   have hi:=o2 i mi
   rw [← lp] at hi
   have mm:ps.getD i (0,[]) ∈ ps:=by
    rw [Ai,AC hi]
    exact DG hi
   refine K3 _ _ (fun z=>?_) (it _ mm)
   have e2:=it _ mm
   rw [z,eT] at e2
   cases e2
  ·obtain ⟨i,mi,rfl⟩:=AS.mp m
   have hi:=o2 i mi
   rw [← lp] at hi
   have mm:ps.getD i (0,[]) ∈ ps:=by
    rw [Ai,AC hi]
    exact DG hi
   obtain ⟨a,ea,na⟩:=fr _ (AS.mpr ⟨_,mm,rfl⟩)
   cases ea
   exact na
  ·unfold zQ
   rw [Al]
   refine Bb fun i m=>?_
   have hi:=o2 i m
   rw [← ep]
   rw [← lp] at hi
   show (ps.getD i (0,[])).2 = (ps.map (·.2)).getD i []
   rw [jQ,Ai,AC hi]
   rfl
open Mt53 Mt22 MtF Mt31 Mt61
theorem aTH {Tb:Addr} {H H':Hp} (k:dQ Tb H H') (t:pG Tb H):aDK H H':=fun b o e d=>k b o (fun z=>by
 obtain ⟨ps,eT,_⟩:=t
 rw [z,eT] at e
 cases e
 cases d) e
theorem rB {Tb:Addr} {H H':Hp} (k:dQ Tb H H') (t:pG Tb H) {x:Addr} {fs ds:List Dv} (h:LandAt C H x fs ds):LandAt C H' x fs ds:=by
 have D:=aTH k t
 have tb:∀ {a:Addr} {ds:List Dv},qL H a ds → qL H' a ds:=fun ⟨kvs,e,k1,i⟩=>⟨kvs,D _ _ e rfl,k1,IsL.sameD D _ _ i⟩
 obtain ⟨⟨dx,d1,d2,e,t1,t2⟩,a,b⟩:=h
 refine ⟨⟨dx,d1,d2,k _ _ (fun z=>?_) e,tb t1,tb t2⟩,a,b⟩
 obtain ⟨ps,eT,_⟩:=t
 rw [z,eT] at e
 cases e
theorem zA:∀ k,∀ ns ∈ gX k,ns.Nodup ∧ ∀ i ∈ ns,0 ≤ i ∧ i < (k:Int)
 | 0,ns,m=>by rw [AV.mp m];exact ⟨.nil,fun _ m=>nomatch m⟩
 | k + 1,ns,m=>by
  unfold gX at m
  rcases Ar.mp m with m | m
  ·obtain ⟨a,b⟩:=zA k ns m
   exact ⟨a,fun i mi=>by have:=b i mi;omega⟩
  ·obtain ⟨ms,mm,rfl⟩:=AS.mp m
   obtain ⟨a,b⟩:=zA k ms mm
   refine ⟨Db.mpr ⟨a,List.pairwise_singleton _ _,fun x hx y hy e=>?_⟩,fun i mi=>?_⟩
   ·have:=b x hx
    rw [e,AV.mp hy] at this
    omega
   ·rcases Ar.mp mi with mi | mi
    ·have:=b i mi
     omega
    ·rw [AV.mp mi]
     omega
def atZ (zs:List Str) (i:Int):Str:=zs.getD i.toNat ""
theorem aAR {zs:List Str} {i:Int} (h0:0 ≤ i) (h1:i < zs.length):atI (zs.map V.str) i = some (.str (atZ zs i)) ∧ zs[i.toNat]? = some (atZ zs i):=by
 obtain ⟨k,rfl⟩:=BF h0
 have hk:k < zs.length:=by omega
 have e:zs[k]? = some (atZ zs (k:Int)):=by
  unfold atZ
  rw [CP,Ai,AC hk]
  rfl
 exact ⟨aN (by rw [AI,e];rfl),by rw [CP];exact e⟩
theorem aTV {zs:List Str} (nd:zs.Nodup):∀ {ns:List Int},ns.Nodup → (∀ i ∈ ns,0 ≤ i ∧ i < (zs.length:Int)) → (ns.map (atZ zs)).Nodup ∧ ∀ z ∈ ns.map (atZ zs),z ∈ zs:=fun {ns} h1 h2=>by
 refine ⟨?_,fun z m=>?_⟩
 ·induction ns with
  | nil=>exact .nil
  | cons i ns ih =>
   rw [AY]
   refine Ak.mpr ⟨fun m=>?_,ih (Ak.mp h1).2 fun j mj=>h2 j (AQ _ mj)⟩
   obtain ⟨j,mj,e⟩:=AS.mp m
   have a:=(aAR (h2 i AU).1 (h2 i AU).2).2
   have b:=(aAR (h2 j (AQ _ mj)).1 (h2 j (AQ _ mj)).2).2
   rw [e] at b
   have:=qA nd a b
   have:=h2 i AU
   have:=h2 j (AQ _ mj)
   have ij:i = j:=by omega
   exact (Ak.mp h1).1 (ij ▸ mj)
 ·obtain ⟨i,mi,rfl⟩:=AS.mp m
  exact AM (aAR (h2 i mi).1 (h2 i mi).2).2
def del (X:Addr) (H:Hp):Hp:=fun b=>if b = X then none else H b
theorem aMP (X:Addr) (H:Hp):aJ (del X H) H:=fun b o e=>by
 unfold del at e
 by_cases h:b = X
 ·rw [if_pos h] at e;cases e
 ·rw [if_neg h] at e;exact e
theorem aMQ {X:Addr} {H:Hp} {b:Addr} {o:HO} (n:b ≠ X) (e:H b = some o):del X H b = some o:=by
 unfold del
 rw [if_neg n]
 exact e
theorem aTU {X:Addr} {H H':Hp} (S:aJ H H'):aJ (del X H) (del X H'):=fun b o e=>by
 unfold del at e ⊢
 by_cases h:b = X
 ·rw [if_pos h] at e;cases e
 ·rw [if_neg h] at e ⊢;exact S _ _ e
theorem aUW {X:Addr} {H:Hp} {o:HO}:aJ (del X H) (del X (upd H X o)):=fun b o' e=>by
 unfold del at e ⊢
 by_cases h:b = X
 ·rw [if_pos h] at e;cases e
 ·rw [if_neg h] at e ⊢;rw [aI h];exact e
theorem aJF {T lt:Addr} {pos:Pos} {qual:Str} {H:Hp} {us vs:List V} (x:jX T pos qual H) (h:H lt = some (.lst us)):jX T pos qual (upd H lt (.lst vs)):=by
 obtain ⟨ps,e,t,r⟩:=x
 refine ⟨ps,by rw [aI (fun z=>by rw [z,h] at e;cases e)];exact e,t,r.imp id fun ⟨c,e1,e2⟩=>⟨c,e1,by rw [aI (fun z=>by rw [z,h] at e2;cases e2)];exact e2⟩⟩
def aMU (r:List Str × Int):Dv:=.tup [.lst (r.1.map Dv.str),.int r.2]
structure Told (G:List Gap) (zs:List Str) (rs:List (List Str × Int)):Prop where
 cos:rs.map (·.1) = (zQ zs.length).map fun ns=>ns.map (atZ zs)
 lst:∀ r ∈ rs,jT G r.1 r.2
def sA (C Tb:Addr):Sp:=sp3 fun x y u H Q=>∃ (p l:Addr) (fs ds:List Dv) (zs:List Str) (L:Int),x = .ref p ∧ LandAt C H p fs ds ∧ y = .ref l ∧ H l = some (.lst (zs.map V.str)) ∧ 1 ≤ zs.length ∧ zs.length ≤ 4 ∧ zs.Nodup ∧ (∀ z ∈ zs,z ∈ fs.map aZ) ∧ u = .int L ∧ hgt L = true ∧ pG Tb H ∧
 ∀ (D:Addr) (us:List V) (rs:List (List Str × Int)) (H':Hp),dQ Tb H H' → pG Tb H' → H' D = some (.lst us) → IsL H' (rs.map aMU) us → Told (aQ fs ds L) zs rs → Q (.ref D) H'
theorem uV (T:Txt K mg C) {c Tb:Addr} (B:TabB K mg base "lists_of_places" c Tb):Fc P w K mg base 8 "companies" ["land","fields","height"] (sA C Tb):=by
 have G_p_check_wish:Fc P w K mg base 3 "check_wish" ["land","fields","height"] (uA C):=lZ T
 have G_p_lists_of_places:Fc P w K mg base 5 "lists_of_places" ["count"] (aFV Tb):=aEH T B
 have G_p_cost:Fc P w K mg base 7 "cost" ["land","fields","height"] (aDT C):=xR T
 refine T.d_p_companies.fc gH pB (fun f cdv A outer s H vs Q E hr h=>?_)
 obtain ⟨x,y,u,rfl,p,l,fs,ds,zs,lv,rfl,L,rfl,hl,l1,l4,nd,sub,rfl,hL,tab,q⟩:=h
 have big:=bO
 refine ⟨_,(@aG _ _ _ _ _ (@fD _ _ _ _ (@bH _ _ _ _ _ _ _ _ _ _ G_p_check_wish (hr.mono (by decide)) (@aA _ _ _ _ _ (pv 0) (@aA _ _ _ _ _ (pv 1) (@aA _ _ _ _ _ (pv 2) aD (by rfl)) (by rfl)) (by rfl)) (by rfl) (by decide) (by rfl) (by rfl)) (by rfl)) (@aG _ _ _ _ _ (@fE _ _ _ _ _ _ _ _ (@cC _ _ _ _ _ _ _ _ aLF (@aP _ _ _ _ _ _ _ _ _ (@bA _ (K) rfl) rfl T.n_len bK (@aA _ _ _ _ _ (pv 1) aD (by rfl)) (by decide) (by decide) (by rfl) (by rfl)) (@sW _ _ _ _ T.g_MOST_IN_A_WISH (by rfl) (by decide)) (@bX _ _ (by decide) (by decide))) (@aH _ _ _ kW) cG) (@aG _ _ _ _ _ (@aU _ _ (3) _ _ _ _ gH.nd rfl (Or.inl rfl) (@cY _ _ _ _ aD) (by rfl) (by trivial)) (@aG _ _ _ _ _ (@fG _ _ _ _ _ _ _ _ BC rfl (@bJ _ _ _ _ (@bH _ _ _ _ _ _ _ _ _ _ G_p_lists_of_places (hr.mono (by decide)) (@aA _ _ _ _ _ (@aP _ _ _ _ _ _ _ _ _ (@bA _ (K) rfl) rfl T.n_len bK (@aA _ _ _ _ _ (pv 1) aD (by rfl)) (by decide) (by decide) (by rfl) (by rfl)) aD (by rfl)) (by rfl) (by decide) (by rfl) (by rfl))) (@aW _ _ (4) _ gH.nd rfl (Or.inl rfl) (by trivial)) (@aG _ _ _ _ _ (@jM _ (5) _ _ _ _ _ _ _ _ _ _ _ _ _ gH.nd rfl ["place","fields"] 1 [1] rfl (@bJ _ _ _ _ (pv 4)) (fun R=>@aW _ _ (0) _ (show Au (["place","fields"]:List Str) by decide +kernel) rfl (Or.inl rfl) (by trivial)) (@aY _ _ (by decide)) (fun R=>bW) (fun R=>(@bE _ _ _ _ _ _ _ (@dU _ (K) rfl) (pv 1) (pv 0) (fun _ _=>rfl))) (by exact Or.inl rfl) (by trivial) (by rfl) (by rfl) (by rfl) (by rfl) (by rfl) (by rfl) (by rfl) (by rfl) (by intro _;rfl)) (@aH _ _ _ (@fD _ _ _ _ (@kX _ _ _ _ _ _ _ _ _ _ _ _ BI BR BQ eM (pv 3) (@aA _ _ _ _ _ (@dZ _ _ _ _ _ (@aA _ _ _ _ _ (pv 5) (@aA _ _ _ _ _ (@bH _ _ _ _ _ _ _ _ _ _ G_p_cost (hr.mono (by decide)) (@aA _ _ _ _ _ (pv 0) (@aA _ _ _ _ _ (pv 5) (@aA _ _ _ _ _ (pv 2) aD (by rfl)) (by rfl)) (by rfl)) (by rfl) (by decide) (by rfl) (by rfl)) aD (by rfl)) (by rfl))) aD (by rfl)) (by rfl) (by rfl) (by rfl) (by rfl) (by rfl)) (by rfl)))) (by intro _;rfl)) (@aH _ _ _ (@aT _ _ _ _ (pv 3))))))),?_⟩
 refine ⟨_,rfl,_,rfl,_,rfl,_,_,_,rfl,p,l,fs,ds,zs,lv,rfl,L,rfl,hl,l1,nd,sub,rfl,hL,fun H1 S1=>?_⟩
 refine ⟨_,rfl,l,_,rfl,.inl (SqL.of (S1 _ _ hl)),_,_,rfl,rfl,_,rfl,?_⟩
 have e8:decide ((8:Int) < ((zs.map V.str).length:Int)) = false:=decide_eq_false (by rw [AA];omega)
 rw [e8]
 refine bM ?_
 refine ⟨aX rfl,fun lt m1=>?_⟩
 have S2:=aJ.upd (o:=.lst []) m1
 have r2:upd H1 lt (.lst []) lt = some (.lst []):=aE
 have nlt:∀ b o,H1 b = some o → b ≠ lt:=fun b o e=>aO e m1
 generalize upd H1 lt (.lst []) = H2 at S2 r2
 refine gσ (σ':=[some (.ref p),some (.ref l),some (.int lv),some (.ref lt),none,none]) rfl ?_
 have T2:=S1.trans S2
 refine ⟨_,rfl,l,_,rfl,.inl (SqL.of (T2 _ _ hl)),_,rfl,zs.length,by rw [AA],l1,l4,tab.keep T2,fun D ps H3 K3 tab3 hD it fr ep=>?_⟩
 have tab2:pG Tb H2:=tab.keep T2
 have eTb:∀ b (ys:List V),H2 b = some (.lst ys) → b ≠ Tb:=fun b ys e z=>by
  obtain ⟨qs,eT,_⟩:=tab2
  rw [z,eT] at e
  cases e
 have hl3:=K3 _ _ (eTb _ _ (T2 _ _ hl)) (T2 _ _ hl)
 have ht3:=K3 _ _ (eTb _ _ r2) r2
 have L3:=rB K3 tab2 (L.same T2)
 have psz:ps.length ≤ 16 ∧ 1 ≤ ps.length:=by
  have:=congrArg Cs ep
  rw [AA] at this
  unfold zQ at this
  rw [AA] at this
  obtain ⟨_,_,o3,_⟩:=zE zs.length l1 l4
  rw [o3,pI] at this
  have:2 ^ 1 ≤ 2 ^ zs.length:=Cl (by decide) l1
  have:2 ^ zs.length ≤ 2 ^ 4:=Cl (by decide) l4
  omega
 have nDt:D ≠ lt:=fun z=>by
  rw [z,ht3] at hD
  have:=congrArg Cs (HO.lst.inj (Ax hD))
  rw [AA] at this
  simp at this
  omega
 have KH:∀ (H':Hp),dQ Tb H2 H' → dQ Tb H H':=fun H' k b o n e=>k b o n (T2 _ _ e)
 have K1:dQ Tb H1 H3:=fun b o n e=>K3 b o n (S2 _ _ e)
 have tab1:pG Tb H1:=tab.keep S1
 have ipt:∀ q ∈ ps,q.1 ≠ lt:=fun q m z=>by
  have:=fr q m
  rw [z,r2] at this
  cases this
 have iok:∀ q ∈ ps,q.2.Nodup ∧ ∀ i ∈ q.2,0 ≤ i ∧ i < (zs.length:Int):=fun q m=>by
  have:q.2 ∈ zQ zs.length:=by rw [← ep];exact AS.mpr ⟨q,m,rfl⟩
  exact zA _ _ ((aBW l1 l4).mp this)
 refine ⟨D,rfl,⟨_,SqL.of hD⟩,jR (K:=K) (a:=D) (xs:=ps.map fun q=>V.ref q.1) (fun i σ H'=>∃ (v4 v5:Option V) (us:List V) (rs:List (List Str × Int)),σ = [some (.ref p),some (.ref l),some (.int lv),some (.ref lt),v4,v5] ∧ dQ Tb H1 H' ∧ pG Tb H' ∧ H' D = some (.lst (ps.map fun q=>V.ref q.1)) ∧ jU H' ps ∧ H' lt = some (.lst us) ∧ IsL (del lt H') (rs.map aMU) us ∧ rs.map (·.1) = (ps.take i).map (fun q=>q.2.map (atZ zs)) ∧ ∀ r ∈ rs,jT (aQ fs ds lv) r.1 r.2)
  ⟨_,_,[],[],rfl,K1,tab3,hD,it,ht3,rfl,rfl,fun _ m=>nomatch m⟩ ?_ ?_ ?_⟩
 ·rintro i σ H' hi ⟨v4,v5,us,rs,rfl,k',tb',d',it',t',ir,er,lr⟩
  exact SqL.of d'
 ·rintro i xv σ H' hx ⟨v4,v5,us,rs,rfl,k',tb',d',it',t',ir,er,lr⟩
  rw [AI] at hx
  obtain ⟨⟨pa,ns⟩,ez,rfl⟩:=Ao.mp hx
  have mp:(pa,ns) ∈ ps:=AM ez
  have hpa:H' pa = some (.lst (ns.map V.int)):=it' _ mp
  obtain ⟨nnd,nin⟩:=iok _ mp
  have hns:ns.length ≤ 4:=by
   have:ns ∈ zQ zs.length:=by rw [← ep];exact AS.mpr ⟨_,mp,rfl⟩
   have:=lK _ _ ((aBW l1 l4).mp this)
   omega
  have eTl:l ≠ Tb:=fun z=>by
   obtain ⟨qs,eT,_⟩:=tab1
   have:=S1 _ _ hl
   rw [z,eT] at this
   cases this
  have hl':H' l = some (.lst (zs.map V.str)):=k' _ _ eTl (S1 _ _ hl)
  refine gσ (σ':=[some (.ref p),some (.ref l),some (.int lv),some (.ref lt),some (.ref pa),v5]) rfl ?_
  refine ⟨_,rfl,pa,rfl,⟨_,SqL.of hpa⟩,?_⟩
  refine bG (F:=K) (xs:=ns.map V.int) (by rw [AA];omega) (fun j ys H''=>H' = H'' ∧ ys = ((ns.take j).map (atZ zs)).map V.str) ⟨rfl,rfl⟩ ?_ ?_ ?_
  ·rintro j ys H'' hj ⟨rfl,rfl⟩
   exact ⟨SqL.of hpa,by rw [AA,AA,AW];omega⟩
  ·rintro j yv ys H'' K1' K2' hx2 ⟨rfl,rfl⟩ k1 k2
   rw [AI] at hx2
   obtain ⟨iz,ei,rfl⟩:=Ao.mp hx2
   have hz:=nin iz (AM ei)
   refine ⟨_,rfl,_,rfl,l,_,iz,_,rfl,rfl,SqL.of hl',(aAR hz.1 hz.2).1,k1 _ _ ⟨rfl,?_⟩⟩
   rw [AX,ei,AT,AT]
   rfl
  rintro ys H'' ⟨rfl,rfl⟩
  rw [AA,AF (AN _)]
  intro lc mc
  obtain ⟨cnd,csub⟩:=aTV nd nnd nin
  have S4:=aJ.upd (o:=.lst ((ns.map (atZ zs)).map V.str)) mc
  have r4:upd H' lc (.lst ((ns.map (atZ zs)).map V.str)) lc = some (.lst ((ns.map (atZ zs)).map V.str)):=aE
  have nlc:lc ≠ lt:=fun z=>by rw [z,t'] at mc;cases mc
  generalize upd H' lc (.lst ((ns.map (atZ zs)).map V.str)) = H4 at S4 r4
  refine gσ (σ':=[some (.ref p),some (.ref l),some (.int lv),some (.ref lt),some (.ref pa),some (.ref lc)]) rfl ?_
  have L4:LandAt C H4 p fs ds:=(rB k' tab1 (L.same S1)).same S4
  refine ⟨_,rfl,.inl ⟨rfl,_,SqL.of (S4 _ _ t')⟩,_,rfl,_,rfl,_,rfl,_,rfl,_,_,_,rfl,p,lc,fs,ds,_,lv,rfl,L4,rfl,r4,cnd,(fun z m=>sub z (csub z m)),rfl,hL,fun cst H5 S5 lst5=>?_⟩
  refine ⟨aX rfl,fun tt mt=>?_⟩
  have S6:=aJ.upd (o:=.tup [.ref lc,.int cst]) mt
  have r6:upd H5 tt (.tup [.ref lc,.int cst]) tt = some (.tup [.ref lc,.int cst]):=aE
  have T5:=S4.trans S5
  have ntt:tt ≠ lt:=fun z=>by have:=T5 _ _ t';rw [z,this] at mt;cases mt
  generalize upd H5 tt (.tup [.ref lc,.int cst]) = H6 at S6 r6
  have T6:=T5.trans S6
  have lus:=ir.length
  rw [AA] at lus
  have lrs:=congrArg Cs er
  rw [AA,AA,AW] at lrs
  refine ⟨lt,us,.ref tt,rfl,rfl,T6 _ _ t',by omega,?_⟩
  refine ⟨_,_,us ++ [.ref tt],rs ++ [(ns.map (atZ zs),cst)],rfl,(fun b o n e=>by rw [aI (nlt b o e)];exact T6 _ _ (k' b o n e)),aJF (tb'.keep T6) (T6 _ _ t'),by rw [aI nDt];exact T6 _ _ d',(fun r m=>by rw [aI (ipt r m)];exact T6 _ _ (it' r m)),aE,?_,?_,?_⟩
  ·rw [AT]
   refine IsL.same aUW _ _ (IsL.snoc (show Is _ (aMU (ns.map (atZ zs),cst)) (.ref tt) from ⟨tt,_,rfl,aMQ ntt r6,_,_,rfl,⟨lc,_,rfl,aMQ nlc ((S5.trans S6) _ _ r4),IsL.strs _ _⟩,_,_,rfl,rfl,rfl⟩) (IsL.same (aTU T6) _ _ ir))
  ·rw [AT,er,AX,ez,AT]
   rfl
  ·intro r m
   rcases Ar.mp m with m | m
   ·exact lr r m
   ·rw [AV.mp m]
    exact lst5
 ·rintro σ H' ⟨v4,v5,us,rs,rfl,k',tb',d',it',t',ir,er,lr⟩
  rw [AA,AF (AN _)] at er
  refine ⟨_,rfl,q lt us rs H' (fun b o n e=>k' b o n (S1 _ _ e)) tb' t' (IsL.same (aMP _ _) _ _ ir) ⟨?_,lr⟩⟩
  rw [er,← ep,Al]
  rfl
open Mt53 Mt22 MtF Mt31 Mt61 Mt72
def aFW:Sp:=sp2 fun x y H Q=>∃ i j:Nat,x = .int i ∧ y = .int j ∧ Q (.int (Nat.gcd i j:Nat)) H
theorem aCT {a b:Nat} (h:b ≠ 0):((a:Int) % (b:Int)) = ((a % b:Nat):Int) ∧ Nat.gcd b (a % b) = Nat.gcd a b ∧ a % b < b :=
 ⟨(Int.natCast_emod a b).symm,by rw [Nat.gcd_comm b,← Nat.gcd_rec,Nat.gcd_comm],Nat.mod_lt _ (by omega)⟩
theorem aON (a b:Int):(!decide (V.int a = V.int b)) = !decide (a = b):=by
 by_cases h:a = b
 ·subst h;simp
 ·rw [decide_eq_false h,decide_eq_false (fun c=>h (by cases c;rfl))]
theorem mC (T:Txt K mg C):Fc P w K mg base 1 "greatest_divisor" ["one","other"] aFW:=by
 refine T.d_p_greatest_divisor.fc dI iL (fun f cdv A outer s H vs Q E hr h=>?_)
 obtain ⟨x,y,rfl,i,j,rfl,rfl,q⟩:=h
 refine ⟨_,(@aG _ _ _ _ _ (@mP _ _ _ _ _ _ BC (@cC _ _ _ _ _ _ _ _ sH (pv 1) aF (@bX _ _ (by decide) (by decide))) (@aG _ _ _ _ _ (@aU _ _ (2) _ _ _ _ dI.nd rfl (Or.inl rfl) (@aM _ _ _ _ _ _ _ _ dB (pv 0) (pv 1)) (by rfl) (by trivial)) (@aG _ _ _ _ _ (@aU _ _ (0) _ _ _ _ dI.nd rfl (Or.inl rfl) (pv 1) (by rfl) (by trivial)) (@aH _ _ _ (@aU _ _ (1) _ _ _ _ dI.nd rfl (Or.inl rfl) (pv 2) (by rfl) (by trivial)))))) (@aH _ _ _ (@aT _ _ _ _ (pv 0)))),?_⟩
 refine mH (fun σ H'=>∃ (a b:Nat) (v:Option V),σ = [some (.int a),some (.int b),v] ∧ H' = H ∧ Nat.gcd a b = Nat.gcd i j) (fun σ _=>match σ with | [_,some (.int b),_]=>b.toNat | _=>0) ⟨i,j,_,rfl,rfl,rfl⟩ ?_ ?_
 ·rintro σ H' ⟨a,b,v,rfl,rfl,e⟩
  refine ⟨_,rfl,rfl,_,rfl,?_⟩
  rw [aON]
  by_cases hb:b = 0
  ·subst hb
   rw [Nat.gcd_zero_right] at e
   refine bM ⟨_,rfl,?_⟩
   rw [e]
   exact q
  ·obtain ⟨e1,e2,e3⟩:=aCT (a:=a) hb
   have hd:(!decide ((b:Int) = 0)) = true:=by
    rw [decide_eq_false (by omega)];rfl
   rw [hd]
   refine cW ⟨_,rfl,_,rfl,_,_,rfl,rfl,(by omega),_,rfl,_,rfl,⟨b,a % b,some (.int ((a:Int) % (b:Int))),?_,rfl,by rw [e2,e]⟩,?_⟩
   ·show [some (V.int b),some (V.int ((a:Int) % (b:Int))),some (V.int ((a:Int) % (b:Int)))] = _
    rw [e1]
   ·show ((a:Int) % (b:Int)).toNat < b
    rw [e1];exact e3
 ·intro σ H Q Q' h hc
  obtain ⟨v,e,hq,k,e2,q⟩:=hc
  exact ⟨v,e,hq,k,e2,h _ _ q⟩
theorem zZ (T:Txt K mg C):Fc P w K mg base 1 "_law_divisor" ["_law_one","_law_other"] aFW:=by
 refine T.d_l_divisor.fc pM iL (fun f cdv A outer s H vs Q E hr h=>?_)
 obtain ⟨x,y,rfl,i,j,rfl,rfl,q⟩:=h
 refine ⟨_,(@aG _ _ _ _ _ (@mP _ _ _ _ _ _ BC (@cC _ _ _ _ _ _ _ _ aLF (pv 1) aF (@bX _ _ (by decide) (by decide))) (@aH _ _ _ (@aQT _ _ (0) (1) _ _ _ _ _ _ _ _ _ _ _ rfl pM.nd rfl rfl (by decide) rfl rfl (@aA _ _ _ _ _ (pv 1) (@aA _ _ _ _ _ (@aM _ _ _ _ _ _ _ _ dB (pv 0) (pv 1)) aD (by rfl)) (by rfl)) rfl (by rfl)))) (@aH _ _ _ (@aT _ _ _ _ (pv 0)))),?_⟩
 refine mH (fun σ H'=>∃ (a b:Nat),σ = [some (.int a),some (.int b)] ∧ H' = H ∧ Nat.gcd a b = Nat.gcd i j) (fun σ _=>match σ with | [_,some (.int b)]=>b.toNat | _=>0) ⟨i,j,rfl,rfl,rfl⟩ ?_ ?_
 ·rintro σ H' ⟨a,b,rfl,rfl,e⟩
  refine ⟨_,rfl,_,_,rfl,rfl,_,rfl,?_⟩
  by_cases hb:b = 0
  ·subst hb
   rw [Nat.gcd_zero_right] at e
   refine bM ⟨_,rfl,?_⟩
   rw [e]
   exact q
  ·obtain ⟨e1,e2,e3⟩:=aCT (a:=a) hb
   have hd:decide ((b:Int) > 0) = true:=decide_eq_true (by omega)
   rw [hd]
   refine cW ⟨_,rfl,_,rfl,_,rfl,_,_,rfl,rfl,(by omega),_,_,rfl,⟨b,a % b,?_,rfl,by rw [e2,e]⟩,?_⟩
   ·show [some (V.int b),some (V.int ((a:Int) % (b:Int)))] = _
    rw [e1]
   ·show ((a:Int) % (b:Int)).toNat < b
    rw [e1];exact e3
 ·intro σ H Q Q' h hc
  obtain ⟨v,e,i,j,e1,e3,k,e2,q⟩:=hc
  exact ⟨v,e,i,j,e1,e3,k,e2,h _ _ q⟩
def Fr (H:Hp) (x:V) (a b:Int):Prop:=∃ l,x = .ref l ∧ H l = some (.tup [.int a,.int b])
theorem Fr.same {H H':Hp} {x:V} {a b:Int} (S:aJ H H') (h:Fr H x a b):Fr H' x a b:=by
 obtain ⟨l,rfl,e⟩:=h
 exact ⟨l,rfl,S _ _ e⟩
def aFU:Sp:=sp2 fun x y H Q=>∃ a b:Int,x = .int a ∧ y = .int b ∧ 0 < b ∧ b.natAbs ≤ 1000 ∧ ∀ v H',aJ H H' → Fr H' v (low a b).1 (low a b).2 → Q v H'
theorem aGZ (a:Int):(if a < 0 then -a else a) = ((a.natAbs:Nat):Int):=by split <;> omega
theorem aGR {a b:Int} (hb:0 < b):∃ n:Nat,b = n ∧ Nat.gcd a.natAbs n = Int.gcd a b:=by
 obtain ⟨n,rfl⟩:=BF (Int.le_of_lt hb)
 exact ⟨n,rfl,rfl⟩
theorem aLW {a b:Int} (hb:0 < b) (h:b.natAbs ≤ 1000):(((Int.gcd a b:Nat):Int)).natAbs.log2 < 9000:=by
 refine aRD ?_
 have h1:Int.gcd a b ≤ b.natAbs:=Nat.gcd_le_right _ (by omega)
 show Int.gcd a b ≤ _
 exact BG h1 h
theorem wR (T:Txt K mg C):Fc P w K mg base 2 "fraction" ["top","bottom"] aFU:=by
 have G_p_greatest_divisor:Fc P w K mg base 1 "greatest_divisor" ["one","other"] aFW:=mC T
 refine T.d_p_fraction.fc oM iL (fun f cdv A outer s H vs Q E hr h=>?_)
 obtain ⟨x,y,rfl,a,b,rfl,rfl,hb,hs,q⟩:=h
 obtain ⟨n,rfl,eg⟩:=aGR (a:=a) hb
 have g0:=aGQ (a:=a) hb
 have g1:=aLW (a:=a) hb hs
 refine ⟨_,(@aG _ _ _ _ _ (@aU _ _ (2) _ _ _ _ oM.nd rfl (Or.inl rfl) (@bH _ _ _ _ _ _ _ _ _ _ G_p_greatest_divisor (hr.mono (by decide)) (@aA _ _ _ _ _ (@aP _ _ _ _ _ _ _ _ _ aDG rfl T.n_abs yS (@aA _ _ _ _ _ (pv 0) aD (by rfl)) (by decide) (by decide) (by rfl) (by rfl)) (@aA _ _ _ _ _ (pv 1) aD (by rfl)) (by rfl)) (by rfl) (by decide) (by rfl) (by rfl)) (by rfl) (by trivial)) (@aH _ _ _ (@aT _ _ _ _ (@dZ _ _ _ _ _ (@aA _ _ _ _ _ (@aM _ _ _ _ _ _ _ _ bT (pv 0) (pv 2)) (@aA _ _ _ _ _ (@aM _ _ _ _ _ _ _ _ bT (pv 1) (pv 2)) aD (by rfl)) (by rfl)))))),?_⟩
 refine ⟨_,rfl,_,rfl,_,rfl,_,_,rfl,a.natAbs,n,by rw [aGZ],rfl,?_⟩
 rw [eg]
 refine ⟨_,rfl,_,rfl,_,_,rfl,rfl,⟨g0,g1⟩,_,rfl,_,rfl,_,_,rfl,rfl,⟨g0,g1⟩,aX rfl,fun p hp=>?_⟩
 exact q _ _ (aJ.upd hp) ⟨p,rfl,aE⟩
theorem aCH (T:Txt K mg C):Fc P w K mg base 2 "_law_lowest" ["_law_top","_law_bottom"] aFU:=by
 have G_l_divisor:Fc P w K mg base 1 "_law_divisor" ["_law_one","_law_other"] aFW:=zZ T
 refine T.d_l_lowest.fc sD iL (fun f cdv A outer s H vs Q E hr h=>?_)
 obtain ⟨x,y,rfl,a,b,rfl,rfl,hb,hs,q⟩:=h
 obtain ⟨n,rfl,eg⟩:=aGR (a:=a) hb
 have g0:=aGQ (a:=a) hb
 have g1:=aLW (a:=a) hb hs
 refine ⟨_,(@aG _ _ _ _ _ (@aU _ _ (2) _ _ _ _ sD.nd rfl (Or.inl rfl) (@bH _ _ _ _ _ _ _ _ _ _ G_l_divisor (hr.mono (by decide)) (@aA _ _ _ _ _ (@aP _ _ _ _ _ _ _ _ _ aDG rfl T.n_abs yS (@aA _ _ _ _ _ (pv 0) aD (by rfl)) (by decide) (by decide) (by rfl) (by rfl)) (@aA _ _ _ _ _ (pv 1) aD (by rfl)) (by rfl)) (by rfl) (by decide) (by rfl) (by rfl)) (by rfl) (by trivial)) (@aH _ _ _ (@aT _ _ _ _ (@dZ _ _ _ _ _ (@aA _ _ _ _ _ (@aM _ _ _ _ _ _ _ _ bT (pv 0) (pv 2)) (@aA _ _ _ _ _ (@aM _ _ _ _ _ _ _ _ bT (pv 1) (pv 2)) aD (by rfl)) (by rfl)))))),?_⟩
 refine ⟨_,rfl,_,rfl,_,rfl,_,_,rfl,a.natAbs,n,by rw [aGZ],rfl,?_⟩
 rw [eg]
 refine ⟨_,rfl,_,rfl,_,_,rfl,rfl,⟨g0,g1⟩,_,rfl,_,rfl,_,_,rfl,rfl,⟨g0,g1⟩,aX rfl,fun p hp=>?_⟩
 exact q _ _ (aJ.upd hp) ⟨p,rfl,aE⟩
def aJY:Sp:=sp1 fun x H Q=>∃ n:Nat,x = .int n ∧ n ≤ 8 ∧ Q (.int (fac n:Nat)) H
theorem aEX:∀ n,n ≤ 8 → fac n ≤ 40320:=by
 intro n h
 have:n = 0 ∨ n = 1 ∨ n = 2 ∨ n = 3 ∨ n = 4 ∨ n = 5 ∨ n = 6 ∨ n = 7 ∨ n = 8:=by omega
 rcases this with rfl | rfl | rfl | rfl | rfl | rfl | rfl | rfl | rfl <;> decide
theorem mU (T:Txt K mg C):Fc P w K mg base 1 "orders_of" ["count"] aJY:=by
 refine T.d_p_orders_of.fc gG mF (fun f cdv A outer s H vs Q E hr h=>?_)
 obtain ⟨x,rfl,n,rfl,n8,q⟩:=h
 refine ⟨_,(@aG _ _ _ _ _ (@aU _ _ (1) _ _ _ _ gG.nd rfl (Or.inl rfl) aF (by rfl) (by trivial)) (@aG _ _ _ _ _ (@fG _ _ _ _ _ _ _ _ BC rfl (@aHS _ _ _ _ _ _ _ rfl T.n_range (@aA _ _ _ _ _ aF (@aA _ _ _ _ _ (@aM _ _ _ _ _ _ _ _ fZ (pv 0) aF) aD (by rfl)) (by rfl)) (by rfl) (by rfl)) (@aW _ _ (2) _ gG.nd rfl (Or.inl rfl) (by trivial)) (@aH _ _ _ (@aKQ _ _ (1) _ _ _ _ _ _ gG.nd rfl (Or.inl rfl) (pv 2) aRN (by trivial))) (by intro _;rfl)) (@aH _ _ _ (@aT _ _ _ _ (pv 1))))),?_⟩
 refine ⟨_,rfl,_,_,rfl,rfl,_,_,rfl,⟨by decide,by decide,by omega,by omega⟩,?_⟩
 have en:((n:Int) + 1 - 1).toNat = n:=by omega
 rw [en]
 refine hJ (lo:=1) (n:=n) (fun i σ H'=>∃ v2:Option V,σ = [some (.int n),some (.int (fac i:Nat)),v2] ∧ H' = H) ⟨_,rfl,rfl⟩ ?_ ?_
 ·rintro i σ H' hi ⟨v2,rfl,rfl⟩
  refine ⟨_,rfl,_,rfl,_,_,rfl,rfl,(show aPK _ _ from .inr ⟨by omega,by omega⟩).ok,some (.int (1 + (i:Int))),?_,rfl⟩
  show [some (V.int n),some (V.int ((fac i:Nat) * (1 + (i:Int)))),some (V.int (1 + (i:Int)))] = _
  rw [show ((fac i:Nat):Int) * (1 + (i:Int)) = ((fac (i + 1):Nat):Int) by rw [show fac (i + 1) = fac i * (i + 1) from rfl,Int.natCast_mul,Int.add_comm];rfl]
 ·rintro σ H' ⟨v2,rfl,rfl⟩
  exact ⟨_,rfl,q⟩
def aBK:Sp:=sp2 fun x y H Q=>∃ a n:Nat,x = .int a ∧ y = .int n ∧ a < n ∧ n ≤ 4 ∧ Q (.int (fac a * fac (n - a - 1):Nat)) H
theorem oZ (T:Txt K mg C):Fc P w K mg base 2 "orders_behind" ["ahead","count"] aBK:=by
 have G_p_orders_of:Fc P w K mg base 1 "orders_of" ["count"] aJY:=mU T
 refine T.d_p_orders_behind.fc oV iL (fun f cdv A outer s H vs Q E hr h=>?_)
 obtain ⟨x,y,rfl,a,n,rfl,rfl,an,n4,q⟩:=h
 refine ⟨_,(@aH _ _ _ (@aT _ _ _ _ (@aM _ _ _ _ _ _ _ _ mT (@bH _ _ _ _ _ _ _ _ _ _ G_p_orders_of (hr.mono (by decide)) (@aA _ _ _ _ _ (pv 0) aD (by rfl)) (by rfl) (by decide) (by rfl) (by rfl)) (@bH _ _ _ _ _ _ _ _ _ _ G_p_orders_of (hr.mono (by decide)) (@aA _ _ _ _ _ (@aM _ _ _ _ _ _ _ _ iO (@aM _ _ _ _ _ _ _ _ iO (pv 1) (pv 0)) aF) aD (by rfl)) (by rfl) (by decide) (by rfl) (by rfl))))),?_⟩
 refine ⟨_,rfl,_,rfl,a,rfl,by omega,_,rfl,_,rfl,_,_,rfl,rfl,_,_,rfl,rfl,_,rfl,n - a - 1,?_,by omega,_,_,rfl,rfl,?_,?_⟩
 ·show V.int _ = V.int _
  congr 1
  omega
 ·have:=aEX a (by omega)
  exact .inl ⟨by omega,by omega⟩
 ·show Q (.int (((fac a:Nat):Int) * ((fac (n - a - 1):Nat):Int))) H
  rw [← Int.natCast_mul]
  exact q
open Mt53 Mt22 MtF Mt31 Mt61 Mt72
def lB (ss:List Str):List Key:=ss.map Sum.inr
theorem vI (ss:List Str):(lB ss).map kV = ss.map V.str:=by
 unfold lB
 rw [Al]
 rfl
theorem vH {a b:List Str} (h:lB a = lB b):a = b:=by
 induction a generalizing b with
 | nil=>cases b with
  | nil=>rfl
  | cons y b=>cases h
 | cons x a ih=>cases b with
  | nil=>cases h
  | cons y b =>
   have:=List.cons.inj h
   rw [CS this.1,ih this.2]
theorem aSS {H H':Hp} (S:aJ H H') {d:Addr} {u:HO} (r:Rd H d u):Rd H' d u:=r.imp (S _ _) fun ⟨o,e⟩=>⟨o,S _ _ e⟩
theorem nW {t:Hp → Prop} {H:Hp} {l:Addr} {o:HO} (n:H l = none) (h:∀ H',aJ H H' → H' l = some o → t H'):t (upd H l o):=h _ (aJ.upd n) aE
def dP (zs:List Str):List (List Str):=(plN zs.length).map (List.map fun i=>zs.getD i "")
noncomputable def gE (G:List Gap) (zs:List Str):List (List Key × V):=(dP zs).map fun co=>(lB co,V.int (cF G co))
theorem yL {G:List Gap} {co:List Str}:∀ {cs:List (List Str)},co ∈ cs → cX (cs.map fun co=>(lB co,V.int (cF G co))) (lB co) = some (.int (cF G co))
 | x :: r,m=>by
  rw [AY]
  by_cases e:x = co
  ·subst e
   exact cP rfl
  ·rw [cQ (fun h=>e (vH h))]
   rcases Ah.mp m with h | h
   ·exact absurd h.symm e
   ·exact yL h
theorem yM {G:List Gap} {zs co:List Str} (m:co ∈ dP zs):cX (gE G zs) (lB co) = some (.int (cF G co)):=yL m
theorem aFE {zs:List Str} (n1:1 ≤ zs.length) (n4:zs.length ≤ 4) (q:Str → Bool):zs.filter q ∈ dP zs:=by
 rw [yF]
 exact AS.mpr ⟨_,aED _ _ n1 n4,rfl⟩
theorem aPC {zs co:List Str} (n1:1 ≤ zs.length) (n4:zs.length ≤ 4) (m:co ∈ dP zs) {z:Str} (mz:z ∈ zs) (nz:z ∉ co):co.length < zs.length:=by
 obtain ⟨ns,mn,rfl⟩:=AS.mp m
 obtain ⟨i,hi,rfl⟩:=EK mz
 rw [AA]
 refine aNZ _ n1 n4 ns mn i (BH.mpr hi) fun h=>nz (AS.mpr ⟨i,h,?_⟩)
 rw [Ai,AC hi]
 rfl
theorem aGU (y z:Str):decide (V.str y = V.str z) = decide (y = z):=by
 by_cases h:y = z
 ·subst h;simp
 ·rw [decide_eq_false h,decide_eq_false fun e=>h (V.str.inj e)]
theorem aAJ:∀ n,0 < fac n
 | 0=>Nat.one_pos
 | n + 1=>Nat.mul_pos (aAJ n) (Nat.succ_pos n)
theorem aMG:∀ n,n ≤ 4 → fac n ≤ 24:=by
 intro n h
 have:n = 0 ∨ n = 1 ∨ n = 2 ∨ n = 3 ∨ n = 4:=by omega
 rcases this with rfl | rfl | rfl | rfl | rfl <;> decide
noncomputable def total (G:List Gap) (zs:List Str) (z:Str) (k:Nat):Int:=sm ((dP zs).take k) fun co=>tm (cF G) zs z co
theorem tV {G:List Gap} {zs co:List Str} {z:Str} {i:Nat} (e:(dP zs)[i]? = some co):total G zs z (i + 1) = total G zs z i + tm (cF G) zs z co:=by
 unfold total
 rw [AX,e,qP]
 show _ + sm [co] _ = _
 rw [bD,lL]
 omega
theorem aUV {td:TE} {g:TG} {tb:TS} {D:Ends} {σ:L2.St} {H:Hp} {d:Addr} {kvs:List (List Key × V)} {u:TS} (htd:∀ R,R (.ref d) H → td σ H R) (rd:Rd H d (.dT kvs)) (Pv:Obj → Nat → L2.St → Hp → Prop) (h0:∀ o H',dQ d H H' → H' d = some (.frz o (.dT kvs)) → Pv o 0 σ H')
  (hl:∀ o i σ H,i ≤ kvs.length → Pv o i σ H → H d = some (.frz o (.dT kvs))) (hs:∀ o i kv b σ H,kvs[i]? = some kv → H b = some (.tup (kv.1.map kV)) → Pv o i σ H → g (.ref b) σ H fun σ2 H2=>tb { D with nx:=Pv o (i + 1),ct:=Pv o (i + 1),bk:=u D } σ2 H2)
  (hd:∀ o σ H,Pv o kvs.length σ H → u D σ H):tY (aSI (aLS td) g tb) u D σ H:=by
 refine htd _ ?_
 rcases rd with e | ⟨o,e⟩
 ·exact ⟨d,kvs,rfl,.inl ⟨e,fun o=>aLZ (Pv o) (h0 o _ (fun b u n e=>by rw [aI n];exact e) aE) (hl o) (hs o) (hd o)⟩⟩
 ·exact ⟨d,kvs,rfl,.inr ⟨o,e,aLZ (Pv o) (h0 o H (fun _ _ _ e=>e) e) (hl o) (hs o) (hd o)⟩⟩
theorem tU {H:Hp} {d b:Addr} {kvs:List (List Key × V)} {ss:List Str} {c:Int} (r:Rd H d (.dT kvs)) (hb:H b = some (.tup (ss.map V.str))) (e:cX kvs (lB ss) = some (.int c)):rX H d (.ref b) (some (.int c)) :=
 .inr ⟨kvs,lB ss,b,r,rfl,by rw [hb,vI],e.symm⟩
def xJ:Sp:=sp3 fun x y u H Q=>∃ (z:Str) (l d:Addr) (G:List Gap) (zs:List Str),x = .str z ∧ y = .ref l ∧ H l = some (.lst (zs.map V.str)) ∧ 1 ≤ zs.length ∧ zs.length ≤ 4 ∧ zs.Nodup ∧ z ∈ zs ∧ u = .ref d ∧ Rd H d (.dT (gE G zs)) ∧
 ∀ v H',dQ d H H' → Rd H' d (.dT (gE G zs)) → Fr H' v (low (total G zs z (dP zs).length) (fac zs.length:Nat)).1 (low (total G zs z (dP zs).length) (fac zs.length:Nat)).2 → Q v H'
theorem wP (T:Txt K mg C):Fc P w K mg base 3 "share_of" ["field","fields","costs"] xJ:=by
 have G_p_orders_of:Fc P w K mg base 1 "orders_of" ["count"] aJY:=mU T
 have G_p_orders_behind:Fc P w K mg base 2 "orders_behind" ["ahead","count"] aBK:=oZ T
 have G_p_fraction:Fc P w K mg base 2 "fraction" ["top","bottom"] aFU:=wR T
 refine T.d_p_share_of.fc fH pB (fun f cdv A outer s H vs Q E hr h=>?_)
 obtain ⟨x,y,u,rfl,z,l,d,G,zs,rfl,rfl,hl,n1,n4,nd,mz,rfl,rd,q⟩:=h
 have big:=bO
 have hu:=jZ hr
 refine ⟨_,(@aG _ _ _ _ _ (@aU _ _ (3) _ _ _ _ fH.nd rfl (Or.inl rfl) aF (by rfl) (by trivial)) (@aG _ _ _ _ _ (@fG _ _ _ _ _ _ _ _ BC rfl (@aKS _ _ _ _ (pv 2)) (@aW _ _ (4) _ fH.nd rfl (Or.inr rfl) (by trivial)) (@aH _ _ _ (@fE _ _ _ _ _ _ _ _ (@cC _ _ _ _ _ _ _ _ (@wO _ (K) rfl) (pv 0) (pv 4) (by with_unfolding_all rfl)) (@aG _ _ _ _ _ (@aU _ _ (5) _ _ _ _ fH.nd rfl (Or.inl rfl) (@bV _ _ _ _ _ _ _ _ _ kG rfl T.n_tuple iM (@aA _ _ _ _ _ (@bS _ _ _ _ _ _ _ _ _ _ _ ["name","field","company"] 1 [0,4] rfl (@bJ _ _ _ _ (pv 1)) (fun R=>@aW _ _ (0) _ (show Au (["name","field","company"]:List Str) by decide +kernel) rfl (Or.inl rfl) (by trivial)) (@aY _ _ (by decide)) (fun R=>@eX _ _ _ (@PW.pt _ _ _ (@kU _ _ _ _ _ _ _ (@cC _ _ _ _ _ _ _ _ pV (pv 0) (pv 1) (@bX _ _ (by decide) (by decide))) (@kE _ _ _ _ (@cC _ _ _ _ _ _ _ _ (@oY _ (K) rfl) (pv 0) (pv 2) (by with_unfolding_all rfl)))))) (fun R=>(pv 0)) (by rfl) (by rfl) (by rfl) (by rfl) (by rfl) (by rfl) (by rfl) (by intro _;rfl)) aD (by rfl)) (by decide) (by decide) (by rfl) (by rfl)) (by rfl) (by trivial)) (@aH _ _ _ (@aKQ _ _ (3) _ _ _ _ _ _ fH.nd rfl (Or.inl rfl) (@aM _ _ _ _ _ _ _ _ mT (@bH _ _ _ _ _ _ _ _ _ _ G_p_orders_behind (hr.mono (by decide)) (@aA _ _ _ _ _ (@aP _ _ _ _ _ _ _ _ _ (@bA _ (K) rfl) rfl T.n_len bK (@aA _ _ _ _ _ (pv 4) aD (by rfl)) (by decide) (by decide) (by rfl) (by rfl)) (@aA _ _ _ _ _ (@aP _ _ _ _ _ _ _ _ _ (@bA _ (K) rfl) rfl T.n_len bK (@aA _ _ _ _ _ (pv 1) aD (by rfl)) (by decide) (by decide) (by rfl) (by rfl)) aD (by rfl)) (by rfl)) (by rfl) (by decide) (by rfl) (by rfl)) (@aM _ _ _ _ _ _ _ _ iO (@eB _ _ _ _ _ _ hu (pv 2) (pv 5) (fun _ _=>rfl)) (@eB _ _ _ _ _ _ hu (pv 2) (pv 4) (fun _ _=>rfl)))) aRO (by trivial)))) cG)) (by intro _;rfl)) (@aH _ _ _ (@aT _ _ _ _ (@bH _ _ _ _ _ _ _ _ _ _ G_p_fraction (hr.mono (by decide)) (@aA _ _ _ _ _ (pv 3) (@aA _ _ _ _ _ (@bH _ _ _ _ _ _ _ _ _ _ G_p_orders_of (hr.mono (by decide)) (@aA _ _ _ _ _ (@aP _ _ _ _ _ _ _ _ _ (@bA _ (K) rfl) rfl T.n_len bK (@aA _ _ _ _ _ (pv 1) aD (by rfl)) (by decide) (by decide) (by rfl) (by rfl)) aD (by rfl)) (by rfl) (by decide) (by rfl) (by rfl)) aD (by rfl)) (by rfl)) (by rfl) (by decide) (by rfl) (by rfl)))))),?_⟩
 have nl:l ≠ d:=fun e=>by rw [e] at hl;rcases rd with h | ⟨_,h⟩ <;> rw [hl] at h <;> cases h
 refine gσ (σ':=[some (.str z),some (.ref l),some (.ref d),some (.int 0),none,none]) rfl ?_
 dsimp only
 refine aUV (d:=d) (kvs:=gE G zs) (fun R h=>⟨_,rfl,h⟩) rd (fun o i σ H'=>∃ v4 v5:Option V,σ = [some (.str z),some (.ref l),some (.ref d),some (.int (total G zs z i)),v4,v5] ∧ dQ d H H' ∧ H' d = some (.frz o (.dT (gE G zs)))) (fun o H1 K1 e1=>⟨_,_,rfl,K1,e1⟩) ?_ ?_ ?_
 ·rintro o i σ H' hi ⟨v4,v5,rfl,k',e'⟩
  exact e'
 ·rintro o i kv b σ H' ek hb ⟨v4,v5,rfl,k',e'⟩
  unfold gE at ek
  rw [AI] at ek
  obtain ⟨co,ec,rfl⟩:=Ao.mp ek
  have mc:co ∈ dP zs:=AM ec
  have hb:H' b = some (.tup (co.map V.str)):=by rw [hb,vI]
  have hl':=k' _ _ nl hl
  refine gσ (σ':=[some (.str z),some (.ref l),some (.ref d),some (.int (total G zs z i)),some (.ref b),v5]) rfl ?_
  refine ⟨_,rfl,_,rfl,b,_,rfl,.inr (SqT.of hb),rfl,oE co,_,rfl,?_⟩
  rw [if_pos rfl,tT]
  by_cases mz':z ∈ co
  ·rw [decide_eq_true mz']
   refine bM ⟨some (.ref b),v5,?_,k',e'⟩
   rw [tV ec]
   unfold tm
   rw [if_pos mz',Ef]
  ·rw [decide_eq_false mz']
   refine cW ?_
   have lc:=aPC n1 n4 mc mz mz'
   refine ⟨_,rfl,l,rfl,⟨_,SqL.of hl'⟩,?_⟩
   refine bG (F:=K) (xs:=zs.map V.str) (by rw [AA];omega) (fun j ys H''=>H' = H'' ∧ ys = ((zs.take j).filter fun y=>decide (y = z) || decide (y ∈ co)).map V.str) ⟨rfl,rfl⟩ ?_ ?_ ?_
   ·rintro j ys H'' hj ⟨rfl,rfl⟩
    have:=BN (fun y:Str=>decide (y = z) || decide (y ∈ co)) (zs.take j)
    rw [AW] at this
    exact ⟨SqL.of hl',by rw [AA];omega⟩
   ·rintro j xv ys H'' K1 K2 hx' ⟨rfl,rfl⟩ k1 k2
    rw [AI] at hx'
    obtain ⟨y,ey,rfl⟩:=Ao.mp hx'
    have et:=lE (P:=fun y:Str=>decide (y = z) || decide (y ∈ co)) ey
    refine ⟨_,rfl,_,rfl,rfl,_,rfl,?_⟩
    rw [aGU]
    by_cases eyz:y = z
    ·rw [decide_eq_true eyz] at et ⊢
     exact cW (cW ⟨_,rfl,k1 _ _ ⟨rfl,by rw [et,Bool.true_or,if_pos rfl,AT];rfl⟩⟩)
    ·rw [decide_eq_false eyz] at et ⊢
     refine bM ⟨_,rfl,_,rfl,b,_,rfl,.inr (SqT.of hb),rfl,oE co,_,rfl,?_⟩
     rw [if_neg Ad,tT]
     cases hg:decide (y ∈ co) with
     | false =>
      rw [hg] at et
      exact bM (k2 _ ⟨rfl,by rw [et];simp⟩)
     | true =>
      rw [hg] at et
      exact cW ⟨_,rfl,k1 _ _ ⟨rfl,by rw [et,Bool.or_true,if_pos rfl,AT];rfl⟩⟩
   rintro ys H'' ⟨rfl,rfl⟩
   rw [AA,AF (AN _)]
   intro lj mj
   refine nW mj fun H2 S2 r2=>?_
   refine ⟨lj,_,rfl,.inl ⟨SqL.of r2,fun tj mt=>?_⟩⟩
   refine nW mt fun H3 S3 r3=>?_
   have T3:=S2.trans S3
   refine gσ (σ':=[some (.str z),some (.ref l),some (.ref d),some (.int (total G zs z i)),some (.ref b),some (.ref tj)]) rfl ?_
   have e3:=T3 _ _ e'
   have rd3:Rd H3 d (.dT (gE G zs)):=.inr ⟨o,e3⟩
   refine ⟨_,rfl,_,rfl,b,_,rfl,.inr (SqT.of (T3 _ _ hb)),_,rfl,l,_,rfl,.inl (SqL.of (T3 _ _ hl')),_,_,rfl,co.length,zs.length,by rw [AA],by rw [AA],lc,n4,?_⟩
   refine ⟨_,rfl,_,rfl,d,_,rfl,tU rd3 r3 (yM (aFE n1 n4 _)),_,rfl,_,rfl,d,_,rfl,tU rd3 (T3 _ _ hb) (yM mc),_,_,rfl,rfl,_,_,rfl,rfl,?_,_,_,rfl,rfl,some (.ref b),some (.ref tj),?_,(fun b' u' n' e=>T3 _ _ (k' b' u' n' e)),e3⟩
   ·have h1:=aEX co.length (by omega)
    have h2:=aEX (zs.length - co.length - 1) (by omega)
    have h3:fac co.length * fac (zs.length - co.length - 1) ≤ 40320 * 40320:=Nat.mul_le_mul h1 h2
    generalize fac co.length * fac (zs.length - co.length - 1) = x at h3
    exact .inl ⟨by omega,by omega⟩
   ·rw [tV ec]
    unfold tm
    rw [if_neg mz']
    rfl
 ·rintro o σ H' ⟨v4,v5,rfl,k',e'⟩
  have ecl:(gE G zs).length = (dP zs).length:=by unfold gE;rw [AA]
  rw [ecl]
  refine ⟨_,rfl,_,rfl,l,_,rfl,.inl (SqL.of (k' _ _ nl hl)),_,rfl,zs.length,by rw [AA],by omega,?_⟩
  have f0:0 < fac zs.length:=aAJ _
  exact ⟨_,_,rfl,_,_,rfl,rfl,by omega,by have:=aMG _ n4;omega,fun v H2 S2 fr=>q v H2 (fun b u n e=>S2 _ _ (k' b u n e)) (.inr ⟨o,S2 _ _ e'⟩) fr⟩
open Mt53 Mt22 MtF Mt31 Mt61 Mt72
theorem aNF {G:List Gap} {zs:List Str} {rs:List (List Str × Int)} (t:Told G zs rs):rs = (dP zs).map fun co=>(co,cF G co):=by
 have e:rs.map (·.1) = dP zs:=by
  rw [t.cos]
  unfold dP plN
  rw [Al]
  refine Bb fun ns _=>?_
  show ns.map (atZ zs) = (ns.map Int.toNat).map fun i=>zs.getD i ""
  rw [Al]
  rfl
 rw [← e,Al]
 conv=>lhs;rw [← List.map_id rs]
 refine Bb fun r m=>?_
 show r = (r.1,cF G r.1)
 rw [aMY (t.lst r m)]
theorem qY {α β:Type} {f:α → β}:∀ {l:List α},(∀ a ∈ l,∀ b ∈ l,f a = f b → a = b) → l.Nodup → (l.map f).Nodup
 | [],_,_=>.nil
 | x :: r,inj,nd=>by
  rw [AY]
  refine Ak.mpr ⟨fun m=>?_,qY (fun a ma b mb=>inj a (AQ _ ma) b (AQ _ mb)) (Ak.mp nd).2⟩
  obtain ⟨y,my,e⟩:=AS.mp m
  exact (Ak.mp nd).1 (inj y (AQ _ my) x AU e ▸ my)
theorem aGL {f:Nat → Str} {n:Nat} (inj:∀ a b,a < n → b < n → f a = f b → a = b):∀ {a b:List Nat},(∀ i ∈ a,i < n) → (∀ i ∈ b,i < n) → a.map f = b.map f → a = b
 | [],[],_,_,_=>rfl
 | [],_ :: _,_,_,e=>by cases e
 | _ :: _,[],_,_,e=>by cases e
 | x :: a,y :: b,ha,hb,e=>by
  rw [AY,AY] at e
  obtain ⟨e1,e2⟩:=List.cons.inj e
  rw [inj x y (ha x AU) (hb y AU) e1,aGL inj (fun i m=>ha i (AQ _ m)) (fun i m=>hb i (AQ _ m)) e2]
theorem aMS {G:List Gap} {zs:List Str} (nd:zs.Nodup) (n1:1 ≤ zs.length) (n4:zs.length ≤ 4):((gE G zs).map (·.1)).Nodup:=by
 unfold gE dP
 rw [Al,Al]
 exact qY (fun a ma b mb e=>aGL (fun i j hi hj h=>nQ nd hi hj h) (aEC _ n1 n4 a ma) (aEC _ n1 n4 b mb) (vH e)) (aHR _ n1 n4)
theorem aIO {G:List Gap} {zs:List Str} (n1:1 ≤ zs.length) (n4:zs.length ≤ 4):(gE G zs).length ≤ 16:=by
 unfold gE dP
 rw [AA,AA]
 exact aKR _ n1 n4
theorem rZ {H:Hp}:∀ {zs:List Str} {vs:List V},IsL H (zs.map Dv.str) vs → vs = zs.map V.str
 | [],_,h=>h
 | z :: zs,_,h=>by
  obtain ⟨v,r,rfl,e,t⟩:=h
  cases (show v = .str z from e)
  rw [rZ t]
  rfl
def xA (H:Hp) (G:List Gap) (zs ws:List Str) (kvs:List (Key × V)):Prop:=Paired (fun (z:Str) (kv:Key × V)=>kv.1 = Sum.inr z ∧ Fr H kv.2 (low (total G zs z (dP zs).length) (fac zs.length:Nat)).1 (low (total G zs z (dP zs).length) (fac zs.length:Nat)).2) ws kvs
theorem xA.mono {H H':Hp} {G:List Gap} {zs ws:List Str} {kvs:List (Key × V)} (h:xA H G zs ws kvs) (k:∀ a xs,H a = some (.tup xs) → H' a = some (.tup xs)):xA H' G zs ws kvs :=
 Paired.mapP h fun _ _ ⟨e,a,e1,e2⟩=>⟨e,a,e1,k _ _ e2⟩
theorem aEF {H H':Hp} {ys:List V} {kvs:List (Key × V)} (h:bN H ys kvs) (k:∀ a xs,H a = some (.tup xs) → H' a = some (.tup xs)):bN H' ys kvs :=
 Paired.mapP h fun _ _ ⟨a,e1,e2⟩=>⟨a,e1,k _ _ e2⟩
theorem aJE {d:Addr} {H H':Hp} {kvs:List (List Key × V)} (k:dQ d H H') (rd:Rd H d (.dT kvs)):∀ a xs,H a = some (.tup xs) → H' a = some (.tup xs):=fun a xs e=>k _ _ (fun z=>by
 rw [z] at e
 rcases rd with h | ⟨o,h⟩ <;> rw [e] at h <;> cases h) e
theorem aHE {T d:Addr} {pos:Pos} {qual:Str} {H H':Hp} {kvs:List (List Key × V)} (k:dQ d H H') (rd:Rd H d (.dT kvs)) (x:jX T pos qual H):jX T pos qual H':=by
 have nd:∀ {b:Addr} {o:HO},H b = some o → (∀ kvs,o ≠ .dT kvs) → (∀ q kvs,o ≠ .frz q (.dT kvs)) → H' b = some o:=fun {b o} e n1 n2=>k _ _ (fun z=>by
  rw [z] at e
  rcases rd with h | ⟨q,h⟩ <;> rw [e] at h
  ·exact n1 _ (Ax h)
  ·exact n2 _ _ (Ax h)) e
 obtain ⟨ps,e,t,r⟩:=x
 exact ⟨ps,nd e (fun _=>nofun) (fun _ _=>nofun),t,r.imp id fun ⟨c,e1,e2⟩=>⟨c,e1,nd e2 (fun _=>nofun) (fun _ _=>nofun)⟩⟩
theorem aBO {H:Hp} {G:List Gap} {zs ws:List Str} {kvs:List (Key × V)} (h:xA H G zs ws kvs):kvs.map (·.1) = ws.map Sum.inr:=by
 induction h with
 | nil=>rfl
 | cons a r ih=>rw [AY,AY,ih,a.1]
def aBG (C Tb:Addr):Sp:=sp3 fun x y u H Q=>∃ (p l:Addr) (fs ds:List Dv) (zs:List Str) (L:Int),x = .ref p ∧ LandAt C H p fs ds ∧ y = .ref l ∧ H l = some (.lst (zs.map V.str)) ∧ 1 ≤ zs.length ∧ zs.length ≤ 4 ∧ zs.Nodup ∧ (∀ z ∈ zs,z ∈ fs.map aZ) ∧ u = .int L ∧ hgt L = true ∧ pG Tb H ∧
 ∀ (d:Addr) (kvs:List (Key × V)) (H':Hp),dQ Tb H H' → pG Tb H' → H d = none → H' d = some (.dK kvs) → xA H' (aQ fs ds L) zs zs kvs → Q (.ref d) H'
theorem aCC (T:Txt K mg C) {c Tb:Addr} (B:TabB K mg base "lists_of_places" c Tb):Fc P w K mg base 9 "shares" ["land","fields","height"] (aBG C Tb):=by
 have G_p_companies:Fc P w K mg base 8 "companies" ["land","fields","height"] (sA C Tb):=uV T B
 have G_p_share_of:Fc P w K mg base 3 "share_of" ["field","fields","costs"] xJ:=wP T
 refine T.d_p_shares.fc sC pB (fun f cdv A outer s H vs Q E hr h=>?_)
 obtain ⟨x,y,u,rfl,p,l,fs,ds,zs,lv,rfl,L,rfl,hl,l1,l4,nd,sub,rfl,hL,tab,q⟩:=h
 have big:=bO
 have hu:=jZ hr
 refine ⟨_,(@aG _ _ _ _ _ (@aU _ _ (3) _ _ _ _ sC.nd rfl (Or.inr rfl) (@bV _ _ _ _ _ _ _ _ _ (@rS _ rfl hr.units) rfl T.n_dict fB (@aA _ _ _ _ _ (@bS _ _ _ _ _ _ _ _ _ _ _ ["row"] 1 [] rfl (@bJ _ _ _ _ (@bH _ _ _ _ _ _ _ _ _ _ G_p_companies (hr.mono (by decide)) (@aA _ _ _ _ _ (pv 0) (@aA _ _ _ _ _ (pv 1) (@aA _ _ _ _ _ (pv 2) aD (by rfl)) (by rfl)) (by rfl)) (by rfl) (by decide) (by rfl) (by rfl))) (fun R=>@aW _ _ (0) _ (show Au (["row"]:List Str) by decide +kernel) rfl (Or.inl rfl) (by trivial)) (@aY _ _ (by decide)) (fun R=>bW) (fun R=>(@dZ _ _ _ _ _ (@aA _ _ _ _ _ (@bV _ _ _ _ _ _ _ _ _ (@wE _ (K) rfl) rfl T.n_tuple iM (@aA _ _ _ _ _ (@bE _ _ _ _ _ _ _ (@aV _ (K) rfl) (pv 0) aF (fun _ _=>rfl)) aD (by rfl)) (by decide) (by decide) (by rfl) (by rfl)) (@aA _ _ _ _ _ (@bE _ _ _ _ _ _ _ (@aV _ (K) rfl) (pv 0) aF (fun _ _=>rfl)) aD (by rfl)) (by rfl)))) (by rfl) (by rfl) (by rfl) (by rfl) (by rfl) (by rfl) (by rfl) (by intro _;rfl)) aD (by rfl)) (by decide) (by decide) (by rfl) (by rfl)) (by rfl) (by trivial)) (@aH _ _ _ (@aT _ _ _ _ (@bV _ _ _ _ _ _ _ _ _ (@dL _ rfl) rfl T.n_dict fB (@aA _ _ _ _ _ (@bS _ _ _ _ _ _ _ _ _ _ _ ["field","fields","costs"] 1 [1,3] rfl (@bJ _ _ _ _ (pv 1)) (fun R=>@aW _ _ (0) _ (show Au (["field","fields","costs"]:List Str) by decide +kernel) rfl (Or.inl rfl) (by trivial)) (@aY _ _ (by decide)) (fun R=>bW) (fun R=>(@dZ _ _ _ _ _ (@aA _ _ _ _ _ (pv 0) (@aA _ _ _ _ _ (@bH _ _ _ _ _ _ _ _ _ _ G_p_share_of (hr.mono (by decide)) (@aA _ _ _ _ _ (pv 0) (@aA _ _ _ _ _ (pv 1) (@aA _ _ _ _ _ (pv 2) aD (by rfl)) (by rfl)) (by rfl)) (by rfl) (by decide) (by rfl) (by rfl)) aD (by rfl)) (by rfl)))) (by rfl) (by rfl) (by rfl) (by rfl) (by rfl) (by rfl) (by rfl) (by intro _;rfl)) aD (by rfl)) (by decide) (by decide) (by rfl) (by rfl))))),?_⟩
 refine ⟨_,rfl,_,rfl,_,rfl,_,_,_,rfl,p,l,fs,ds,zs,lv,rfl,L,rfl,hl,l1,l4,nd,sub,rfl,hL,tab,fun D us rs H1 K1 tab1 hD ir told=>?_⟩
 have ers:=aNF told
 subst ers
 have eTl:l ≠ Tb:=fun z=>by
  obtain ⟨qs,eT,_⟩:=tab
  rw [z,eT] at hl
  cases hl
 have hl1:=K1 _ _ eTl hl
 have lus:=ir.length
 rw [AA,AA] at lus
 have n16:(dP zs).length ≤ 16:=by have:=aIO (G:=aQ fs ds lv) l1 l4;unfold gE at this;rw [AA] at this;exact this
 refine ⟨D,rfl,⟨_,SqL.of hD⟩,?_⟩
 refine bG (F:=K) (xs:=us) (by omega) (fun j ys H'=>aJ H1 H' ∧ iR H' ys ((gE (aQ fs ds lv) zs).take j)) ⟨aJ.refl _,iR.nil _⟩ ?_ ?_ ?_
 ·rintro j ys H' hj ⟨S',pr⟩
  have:=pr.len
  rw [AW] at this
  exact ⟨SqL.of (S' _ _ hD),by omega⟩
 ·rintro j xv ys H' K1' K2' hx ⟨S',pr⟩ k1 k2
  have hjl:=(AB.mp hx).1
  obtain ⟨co,ec⟩:∃ co,(dP zs)[j]? = some co:=⟨_,AC (by omega)⟩
  obtain ⟨v,ev,iv⟩:=ir.get (show (((dP zs).map fun co=>(co,cF (aQ fs ds lv) co)).map aMU)[j]? = some (aMU (co,cF (aQ fs ds lv) co)) by rw [AI,AI,ec];rfl)
  rw [hx] at ev
  cases ev
  obtain ⟨t,ts,rfl,ht,v1,r1',rfl,⟨lc,xs,rfl,hlc,hxs⟩,v2,r2',rfl,e2,e3⟩:=iv
  cases (show v2 = .int (cF (aQ fs ds lv) co) from e2)
  cases (show r2' = [] from e3)
  have exs:xs = co.map V.str:=rZ hxs
  subst exs
  refine ⟨_,rfl,t,_,0,_,rfl,rfl,SqT.of (S' _ _ ht),aN (j:=0) rfl,lc,_,rfl,.inl ⟨SqL.of (S' _ _ hlc),fun tk mt=>?_⟩⟩
  have S2:=aJ.upd (o:=.tup (co.map V.str)) mt
  have r2:upd H' tk (.tup (co.map V.str)) tk = some (.tup (co.map V.str)):=aE
  generalize upd H' tk (.tup (co.map V.str)) = H2 at S2 r2
  refine ⟨_,rfl,t,_,1,_,rfl,rfl,SqT.of (S2 _ _ (S' _ _ ht)),aN (j:=1) rfl,aX rfl,fun tp mp=>?_⟩
  refine nW mp fun H3 S3 r3=>k1 _ _ ⟨S'.trans (S2.trans S3),?_⟩
  have eck:(gE (aQ fs ds lv) zs)[j]? = some (lB co,V.int (cF (aQ fs ds lv) co)):=by unfold gE;rw [AI,ec];rfl
  rw [AX,eck]
  exact DF (pr.same (S2.trans S3)) ⟨tp,tk,rfl,r3,by rw [S3 _ _ r2,vI]⟩
 rintro ys H' ⟨S',pr⟩
 have ecl:(gE (aQ fs ds lv) zs).length = (dP zs).length:=by unfold gE;rw [AA]
 rw [AF (by omega)] at pr
 intro lp mp
 refine nW mp fun H2 S2 r2=>?_
 refine ⟨lp,ys,_,rfl,SqL.of r2,pr.same S2,by omega,aMS nd l1 l4,fun d md=>?_⟩
 refine nW md fun H3 S3 r3=>?_
 have T3:=S'.trans (S2.trans S3)
 refine gσ (σ':=[some (.ref p),some (.ref l),some (.int lv),some (.ref d)]) rfl ?_
 have hl3:=T3 _ _ hl1
 have nTd:Tb ≠ d:=fun z=>by
  obtain ⟨qs,eT,_⟩:=tab1
  have:=T3 _ _ eT
  rw [z,r3] at this
  cases this
 have nld:l ≠ d:=fun z=>by rw [z,r3] at hl3;cases hl3
 have nH:H d = none:=by
  cases e:H d with
  | none=>rfl
  | some o =>
   have a:=K1 _ _ (fun z=>nTd z.symm) e
   have:=(S'.trans S2) _ _ a
   rw [this] at md
   cases md
 refine ⟨_,rfl,l,rfl,⟨_,SqL.of hl3⟩,?_⟩
 refine bG (F:=K) (xs:=zs.map V.str) (by rw [AA];omega) (fun j ys H'=>∃ kvs,dQ d H3 H' ∧ Rd H' d (.dT (gE (aQ fs ds lv) zs)) ∧ bN H' ys kvs ∧ xA H' (aQ fs ds lv) zs (zs.take j) kvs) ⟨[],(fun _ _ _ e=>e),.inl r3,bN.nil _,Bw⟩ ?_ ?_ ?_
 ·rintro j ys H' hj ⟨kvs,k',rd',pr',sh'⟩
  have h1:=pr'.len
  have h2:(zs.take j).length = kvs.length:=By sh'
  rw [AW] at h2
  exact ⟨SqL.of (k' _ _ nld hl3),by omega⟩
 ·rintro j xv ys H' K1' K2' hx ⟨kvs,k',rd',pr',sh'⟩ k1 k2
  rw [AI] at hx
  obtain ⟨z,ez,rfl⟩:=Ao.mp hx
  refine ⟨_,rfl,_,rfl,_,rfl,_,rfl,_,_,_,rfl,z,l,d,aQ fs ds lv,zs,rfl,rfl,k' _ _ nld hl3,l1,l4,nd,AM ez,rfl,rd',fun v H4 K4 rd4 fr=>?_⟩
  have tk:=aJE K4 rd'
  refine ⟨aX rfl,fun tp mp=>?_⟩
  refine nW mp fun H5 S5 r5=>k1 _ _ ⟨kvs ++ [(Sum.inr z,v)],(fun b u n e=>S5 _ _ (K4 _ _ n (k' _ _ n e))),aSS S5 rd4,DF ((aEF pr' tk).same S5) ⟨tp,rfl,r5⟩,?_⟩
  rw [AX,ez]
  exact DF (xA.mono sh' fun a xs e=>S5 _ _ (tk _ _ e)) ⟨rfl,fr.same S5⟩
 rintro ys H' ⟨kvs,k',rd',pr',sh'⟩
 rw [AA,AF (AN _)] at sh'
 intro lq mq
 have lk:zs.length = kvs.length:=By sh'
 have S6:=aJ.upd (o:=.lst ys) mq
 have r6:upd H' lq (.lst ys) lq = some (.lst ys):=aE
 generalize upd H' lq (.lst ys) = H6 at S6 r6
 refine ⟨lq,ys,kvs,rfl,SqL.of r6,pr'.same S6,by omega,?_,fun dd mdd=>?_⟩
 ·rw [aBO sh']
  exact qY (fun a _ b _ e=>CS e) nd
 have S7:=aJ.upd (o:=.dK kvs) mdd
 have r7:upd H6 dd (.dK kvs) dd = some (.dK kvs):=aE
 generalize upd H6 dd (.dK kvs) = H7 at S7 r7
 have T7:=S6.trans S7
 have KK:∀ b o,b ≠ Tb → H b = some o → H6 b = some o:=fun b o n e=>S6 _ _ (k' _ _ (fun z=>by rw [z,nH] at e;cases e) (T3 _ _ (K1 _ _ n e)))
 have tab6:pG Tb H6:=(aHE k' (.inl r3) (tab1.keep T3)).keep S6
 refine q dd kvs H7 (fun b o n e=>S7 _ _ (KK b o n e)) (tab6.keep S7) ?_ r7 (xA.mono sh' fun a xs e=>T7 _ _ e)
 cases e:H dd with
 | none=>rfl
 | some o =>
  by_cases z:dd = Tb
  ·obtain ⟨qs,eT,_⟩:=tab6
   rw [z,eT] at mdd
   cases mdd
  ·rw [KK _ _ z e] at mdd
   cases mdd
open Mt53 Mt22 MtF Mt31 Mt61 Mt72
theorem aHK {j n:Nat} (h:j < n):PySem.seqIndex? (j:Int) n = some j:=by
 unfold PySem.seqIndex?
 have h0:¬ (j:Int) < 0:=by omega
 have h1:(decide (0 ≤ (j:Int)) && decide ((j:Int) < (n:Int))) = true:=by rw [decide_eq_true (by omega),decide_eq_true (by omega)];rfl
 simp only [if_neg h0]
 rw [if_pos h1,CP]
theorem yG {α β:Type} (f:α → β):∀ (l:List α) (k:Nat),(l.map f).eraseIdx k = (l.eraseIdx k).map f
 | [],_=>rfl
 | x :: l,0=>rfl
 | x :: l,k + 1=>by
  show f x :: (l.map f).eraseIdx k = f x :: (l.eraseIdx k).map f
  rw [yG f l k]
theorem vS {α:Type}:∀ (l:List α) (k:Nat) (h:k < l.length),(l[k] :: l.eraseIdx k).Perm l
 | x :: l,0,_=>.refl _
 | x :: l,k + 1,h=>by
  show (l[k]'(by simpa using h) :: x :: l.eraseIdx k).Perm (x :: l)
  exact (List.Perm.swap _ _ _).trans ((vS l k (by simpa using h)).cons x)
def aJO:Sp:=sp3 fun x y u H Q=>∃ (m:Int) (l:Addr) (vf:List V) (fs:List Dv),x = .int m ∧ 0 ≤ m ∧ y = .ref l ∧ H l = some (.lst vf) ∧ IsL H fs vf ∧ Fds fs 6 ∧ u = .int 4 ∧
 ∀ (lw:Addr) (zs:List Str) (H':Hp),aJ H H' → H' lw = some (.lst (zs.map V.str)) → H lw = none → 1 ≤ zs.length → zs.length ≤ 4 → zs.Nodup → (∀ z ∈ zs,z ∈ fs.map aZ) → Q (.ref lw) H'
theorem aHX (T:Txt K mg C):Fc P w K mg base 1 "_law_wish" ["_law_cell","_law_fields_here","_law_most"] aJO:=by
 refine T.d_l_wish.fc kN pB (fun f cdv A outer s H vs Q E hr h=>?_)
 obtain ⟨x,y,u,rfl,m,l,vf,fs,rfl,m0,rfl,hl,hi,gf,rfl,q⟩:=h
 have big:=bO
 refine ⟨_,(@aG _ _ _ _ _ (@jM _ (3) _ _ _ _ _ _ _ _ _ _ _ _ _ kN.nd rfl ["_law_field"] 1 [] rfl (@bJ _ _ _ _ (pv 1)) (fun R=>@aW _ _ (0) _ (show Au (["_law_field"]:List Str) by decide +kernel) rfl (Or.inl rfl) (by trivial)) (@aY _ _ (by decide)) (fun R=>bW) (fun R=>(@bE _ _ _ _ _ _ _ (@aV _ (K) rfl) (pv 0) aF (fun _ _=>rfl))) (by exact Or.inl rfl) (by trivial) (by rfl) (by rfl) (by rfl) (by rfl) (by rfl) (by rfl) (by rfl) (by rfl) (by intro _;rfl)) (@aG _ _ _ _ _ (@aU _ _ (4) _ _ _ _ kN.nd rfl (Or.inl rfl) (@cY _ _ _ _ aD) (by rfl) (by trivial)) (@aG _ _ _ _ _ (@fG _ _ _ _ _ _ _ _ BC rfl (@gZ _ _ _ _ _ _ rfl T.n_range (@aA _ _ _ _ _ (@aM _ _ _ _ _ _ _ _ fZ aF (@aM _ _ _ _ _ _ _ _ dB (pv 0) (@aP _ _ _ _ _ _ _ _ _ (@yO _ rfl) rfl T.n_min rT (@aA _ _ _ _ _ (pv 2) (@aA _ _ _ _ _ (@aP _ _ _ _ _ _ _ _ _ (@bA _ (K) rfl) rfl T.n_len bK (@aA _ _ _ _ _ (pv 1) aD (by rfl)) (by decide) (by decide) (by rfl) (by rfl)) aD (by rfl)) (by rfl)) (by decide) (by decide) (by rfl) (by rfl)))) aD (by rfl)) (by rfl)) (@aW _ _ (5) _ kN.nd rfl (Or.inl rfl) (by trivial)) (@aG _ _ _ _ _ (@aU _ _ (0) _ _ _ _ kN.nd rfl (Or.inl rfl) (@aM _ _ _ _ _ _ _ _ bT (pv 0) aF) (by rfl) (by trivial)) (@aH _ _ _ (@fD _ _ _ _ (@kX _ _ _ _ _ _ _ _ _ _ _ _ BI BR BQ eM (pv 4) (@aA _ _ _ _ _ (@kX _ _ _ _ _ _ _ _ _ _ _ _ BI PySem.F.slot_list_pop PySem.F.type_list_pop aCK (pv 3) (@aA _ _ _ _ _ (@aM _ _ _ _ _ _ _ _ dB (pv 0) (@aP _ _ _ _ _ _ _ _ _ (@bA _ (K) rfl) rfl T.n_len bK (@aA _ _ _ _ _ (pv 3) aD (by rfl)) (by decide) (by decide) (by rfl) (by rfl))) aD (by rfl)) (by rfl) (by rfl) (by rfl) (by rfl) (by rfl)) aD (by rfl)) (by rfl) (by rfl) (by rfl) (by rfl) (by rfl)) (by rfl)))) (by intro _;rfl)) (@aH _ _ _ (@aT _ _ _ _ (pv 4)))))),?_⟩
 have f1:=gf.l1
 have f2:=gf.l2
 have lvf:=hi.length
 refine ⟨_,rfl,l,rfl,⟨_,SqL.of hl⟩,?_⟩
 refine bG (F:=K) (xs:=vf) (by omega) (fun i ys H'=>H = H' ∧ ys = ((fs.take i).map aZ).map V.str) ⟨rfl,rfl⟩ ?_ ?_ ?_
 ·rintro i ys H' hi' ⟨rfl,rfl⟩
  exact ⟨SqL.of hl,by rw [AA,AA,AW];omega⟩
 ·rintro i xv ys H' K1 K2 hx ⟨rfl,rfl⟩ k1 k2
  have hil:i < vf.length:=(AB.mp hx).1
  obtain ⟨d,ed⟩:∃ d,fs[i]? = some d:=⟨_,AC (by omega)⟩
  obtain ⟨v,ev,iv⟩:=hi.get ed
  rw [hx] at ev
  cases ev
  obtain ⟨z,g,e,rfl,_⟩:=bZ (gf.all d (AM ed))
  obtain ⟨t,rfl,o⟩:=lF iv
  refine ⟨_,rfl,t,_,0,.str z,rfl,rfl,SqT.of o,aN (j:=0) rfl,k1 _ _ ⟨rfl,?_⟩⟩
  rw [AX,ed]
  simp [aZ,cD]
 rintro ys H' ⟨rfl,rfl⟩
 rw [AF (by omega)]
 intro ll mll
 have S1:=aJ.upd (o:=.lst ((fs.map aZ).map V.str)) mll
 have r1:upd H ll (.lst ((fs.map aZ).map V.str)) ll = some (.lst ((fs.map aZ).map V.str)):=aE
 generalize upd H ll (.lst ((fs.map aZ).map V.str)) = H1 at S1 r1
 refine gσ (σ':=[some (.int m),some (.ref l),some (.int 4),some (.ref ll),none,none]) rfl ?_
 refine ⟨aX rfl,fun lf mlf=>?_⟩
 have S2:=aJ.upd (o:=.lst []) mlf
 have r2:upd H1 lf (.lst []) lf = some (.lst (([]:List Str).map V.str)):=aE
 generalize upd H1 lf (.lst []) = H2 at S2 r2
 refine gσ (σ':=[some (.int m),some (.ref l),some (.int 4),some (.ref ll),some (.ref lf),none]) rfl ?_
 have nlf:ll ≠ lf:=fun z=>by rw [z] at r1;rw [r1] at mlf;cases mlf
 have T2:=S1.trans S2
 have nf:H lf = none:=S1.free mlf
 obtain ⟨mn,emn,mn1,mn2,mn3⟩:∃ mn:Nat,(if (vf.length:Int) < 4 then (vf.length:Int) else 4) = mn ∧ 1 ≤ mn ∧ mn ≤ 4 ∧ mn ≤ fs.length:=by
  by_cases h:(vf.length:Int) < 4
  ·exact ⟨vf.length,by rw [if_pos h],by omega,by omega,by omega⟩
  ·exact ⟨4,by rw [if_neg h];rfl,by omega,by omega,by omega⟩
 refine ⟨_,rfl,_,rfl,_,rfl,l,_,rfl,.inl (SqL.of (T2 _ _ hl)),_,_,rfl,?_⟩
 rw [emn]
 have r0:0 ≤ m % (mn:Int):=Ay _ (by omega)
 have r1':m % (mn:Int) < (mn:Int):=Av _ (by omega)
 obtain ⟨cnt,hcnt⟩:=BF (show 0 ≤ 1 + m % (mn:Int) by omega)
 refine ⟨_,_,rfl,rfl,by omega,_,_,rfl,rfl,_,rfl,by show -(2 ^ 62) ≤ 1 + m % (mn:Int);omega,by show 1 + m % (mn:Int) < 2 ^ 62;omega,?_⟩
 rw [show (1 + m % (mn:Int)).toNat = cnt by omega]
 refine hJ (lo:=0) (n:=cnt) (fun i σ H'=>∃ (c:Int) (v5:Option V) (ls zs:List Str),σ = [some (.int c),some (.ref l),some (.int 4),some (.ref ll),some (.ref lf),v5] ∧ 0 ≤ c ∧ aJ H H' ∧ H' ll = some (.lst (ls.map V.str)) ∧ H' lf = some (.lst (zs.map V.str)) ∧ zs.length = i ∧ (zs ++ ls).Perm (fs.map aZ)) ⟨m,_,fs.map aZ,[],rfl,m0,T2,S2 _ _ r1,r2,rfl,.refl _⟩ ?_ ?_
 ·rintro i σ H' hi' ⟨c,v5,ls,zs,rfl,c0,S',h1,h2,li,pm⟩
  have lsum:=pm.length_eq
  rw [Ae,AA] at lsum
  refine gσ (σ':=[some (.int c),some (.ref l),some (.int 4),some (.ref ll),some (.ref lf),some (.int (0 + (i:Int)))]) rfl ?_
  refine ⟨_,rfl,_,_,rfl,rfl,⟨by decide,by decide⟩,?_⟩
  refine gσ (σ':=[some (.int (c / 7)),some (.ref l),some (.int 4),some (.ref ll),some (.ref lf),some (.int (0 + (i:Int)))]) rfl ?_
  have c7:0 ≤ c / 7:=Int.ediv_nonneg c0 (by decide)
  have lls:(0:Int) < (ls.length:Int):=by omega
  obtain ⟨k,ek⟩:=BF (Ay (c / 7) (show (ls.length:Int) ≠ 0 by omega))
  have kl:k < ls.length:=by have:=Av (c / 7) lls;omega
  have ey:ls[k]? = some ls[k]:=AC kl
  refine ⟨_,rfl,.inl ⟨rfl,_,SqL.of h2⟩,_,rfl,.inl ⟨rfl,_,SqL.of h1⟩,_,rfl,_,rfl,ll,_,rfl,.inl (SqL.of h1),_,_,rfl,rfl,by rw [AA];exact lls,ll,_,k,k,.str ls[k],rfl,by rw [AA];show [V.int (c / 7 % (ls.length:Int))] = _;rw [ek],h1,by omega,by omega,by rw [AA];exact aHK kl,by rw [AI,ey];rfl,?_⟩
  have er:(ls.map V.str).eraseIdx k = (ls.eraseIdx k).map V.str:=yG _ _ _
  rw [er]
  refine ⟨lf,_,_,rfl,rfl,by rw [aI (fun z=>nlf z.symm)];exact h2,by rw [AA];omega,?_⟩
  refine ⟨c / 7,_,ls.eraseIdx k,zs ++ [ls[k]],rfl,c7,(fun b o e=>?_),by rw [aI nlf,aE],by rw [aE,AT];rfl,by rw [Ae,li];rfl,?_⟩
  ·rw [aI (aO e nf),aI (aO e mll)]
   exact S' _ _ e
  ·refine List.Perm.trans ?_ pm
   rw [Bc]
   refine List.Perm.append_left zs ?_
   exact vS ls k kl
 ·rintro σ H' ⟨c,v5,ls,zs,rfl,c0,S',h1,h2,li,pm⟩
  have nd:(zs ++ ls).Nodup:=pm.nodup_iff.mpr gf.nd
  exact ⟨_,rfl,q lf zs H' S' h2 nf (by omega) (by omega) (Db.mp nd).1 fun z mz=>pm.mem_iff.mp (Bv _ mz)⟩
def aFQ:Sp:=sp1 fun x H Q=>∃ i:Int,x = .int i ∧ Q (.bl true) H
theorem aEI (T:Txt K mg C):Fc P w K mg base 1 "_law_whole" ["_law_found"] aFQ:=by
 refine T.d_l_whole.fc aDX mF (fun f cdv A outer s H vs Q E hr h=>?_)
 obtain ⟨x,rfl,i,rfl,q⟩:=h
 refine ⟨_,(@aH _ _ _ (@aT _ _ _ _ (@cZ _ _ _ _ _ _ _ (@aP _ _ _ _ _ _ _ _ _ (@cA _ (K) rfl) rfl T.n_isinstance bL (@aA _ _ _ _ _ (pv 0) (@aA _ _ _ _ _ (@lY _ _ _ _ T.n_int yR (by rfl) (by decide) (by decide)) aD (by rfl)) (by rfl)) (by decide) (by decide) (by rfl) (by rfl)) (@eA _ _ _ _ _ (@aKV _ _ _ _ (@aP _ _ _ _ _ _ _ _ _ (@cA _ (K) rfl) rfl T.n_isinstance bL (@aA _ _ _ _ _ (pv 0) (@aA _ _ _ _ _ (@lY _ _ _ _ T.n_bool wG (by rfl) (by decide) (by decide)) aD (by rfl)) (by rfl)) (by decide) (by decide) (by rfl) (by rfl))))))),?_⟩
 refine ⟨_,rfl,_,_,_,_,_,rfl,rfl,.int i,gT _ _,_,rfl,cW ?_⟩
 exact ⟨_,rfl,_,_,_,_,false,rfl,rfl,.int i,rfl,_,rfl,q⟩
def aFS:Sp:=sp2 fun x y H Q=>∃ a b:Int,Fr H x a b ∧ Fr H y a b ∧ Q (.bl true) H
theorem aOZ (a b:Int):deq (.tup [.int a,.int b]) (.tup [.int a,.int b]) = true:=nM 5 _ rfl
theorem Fr.is {H:Hp} {x:V} {a b:Int} (h:Fr H x a b):Is H (.tup [.int a,.int b]) x:=by
 obtain ⟨l,rfl,e⟩:=h
 exact ⟨l,_,rfl,e,_,_,rfl,rfl,_,_,rfl,rfl,rfl⟩
theorem wU (T:Txt K mg C):Fc P w K mg base 2 "_law_is_share" ["_law_found","_law_due_here"] aFS:=by
 have G_l_whole:Fc P w K mg base 1 "_law_whole" ["_law_found"] aFQ:=aEI T
 refine T.d_l_is_share.fc wN iL (fun f cdv A outer s H vs Q E hr h=>?_)
 obtain ⟨x,y,rfl,a,b,h1,h2,q⟩:=h
 have i1:=h1.is
 have i2:=h2.is
 obtain ⟨l,rfl,el⟩:=h1
 refine ⟨_,(@aG _ _ _ _ _ (@fE _ _ _ _ _ _ _ _ (@PW.pt _ _ _ (@kU _ _ _ _ _ _ _ (@dJ _ _ _ _ (@dG _ _ _ (@aP _ _ _ _ _ _ _ _ _ (@cA _ (K) rfl) rfl T.n_isinstance bL (@aA _ _ _ _ _ (pv 0) (@aA _ _ _ _ _ (@lY _ _ _ _ T.n_tuple iM (by rfl) (by decide) (by decide)) aD (by rfl)) (by rfl)) (by decide) (by decide) (by rfl) (by rfl)) (by intro _;rfl))) (@kU _ _ _ _ _ _ _ (@cC _ _ _ _ _ _ _ _ sH (@aP _ _ _ _ _ _ _ _ _ (@bA _ (K) rfl) rfl T.n_len bK (@aA _ _ _ _ _ (pv 0) aD (by rfl)) (by decide) (by decide) (by rfl) (by rfl)) aF (@bX _ _ (by decide) (by decide))) (@kU _ _ _ _ _ _ _ (@dJ _ _ _ _ (@dG _ _ _ (@bH _ _ _ _ _ _ _ _ _ _ G_l_whole (hr.mono (by decide)) (@aA _ _ _ _ _ (@bE _ _ _ _ _ _ _ (@aV _ (K) rfl) (pv 0) aF (fun _ _=>rfl)) aD (by rfl)) (by rfl) (by decide) (by rfl) (by rfl)) (by intro _;rfl))) (@kE _ _ _ _ (@dJ _ _ _ _ (@dG _ _ _ (@bH _ _ _ _ _ _ _ _ _ _ G_l_whole (hr.mono (by decide)) (@aA _ _ _ _ _ (@bE _ _ _ _ _ _ _ (@aV _ (K) rfl) (pv 0) aF (fun _ _=>rfl)) aD (by rfl)) (by rfl) (by decide) (by rfl) (by rfl)) (by intro _;rfl)))))))) (@aH _ _ _ (@aT _ _ _ _ sG)) cG) (@aH _ _ _ (@aT _ _ _ _ (@eC _ _ _ _ _ _ _ _ (@aEG _ hr.units) (pv 0) (pv 1) (@bX _ _ (by decide) (by decide)))))),?_⟩
 refine ⟨_,rfl,_,_,_,_,_,rfl,rfl,.tup el,gT _ _,_,rfl,bM ?_⟩
 refine ⟨_,rfl,l,_,rfl,.inr (SqT.of el),rfl,_,rfl,bM ?_⟩
 refine ⟨_,rfl,l,_,0,.int a,rfl,rfl,SqT.of el,aN (j:=0) rfl,_,rfl,a,rfl,_,rfl,bM ?_⟩
 refine ⟨_,rfl,l,_,1,.int b,rfl,rfl,SqT.of el,aN (j:=1) rfl,_,rfl,b,rfl,_,rfl,bM ?_⟩
 refine ⟨_,rfl,_,rfl,_,_,i1,i2,rfl,rfl,?_⟩
 rw [if_neg Ad,aOZ]
 exact q
theorem aBZ {m:Nat} {zs:List Str} (nd:zs.Nodup) (l:zs.length = m) (m4:m ≤ 4):(lN m zs).length ≤ 24:=by
 rcases Nat.eq_zero_or_pos m with h | h
 ·subst h
  exact (by decide:1 ≤ 24)
 ·rw [oG zs,l,pU fun a ma b mb e=>nQ nd (by rw [l];exact BH.mp ma) (by rw [l];exact BH.mp mb) e,AA,aCA m h m4]
  exact aMG m m4
def aSA (H:Hp) (ps:List (Addr × List Str)):Prop:=∀ p ∈ ps,H p.1 = some (.lst (p.2.map V.str))
def hZ (n:Nat):Sp:=sp1 fun x H Q=>∃ (l:Addr) (zs:List Str),x = .ref l ∧ H l = some (.lst (zs.map V.str)) ∧ zs.Nodup ∧ zs.length = n ∧ n ≤ 4 ∧
 ∀ (lo:Addr) (ps:List (Addr × List Str)) (H':Hp),aJ H H' → H' lo = some (.lst (ps.map fun p=>V.ref p.1)) → H lo = none → aSA H' ps → (∀ p ∈ ps,H p.1 = none) → ps.map (·.2) = lN n zs → Q (.ref lo) H'
def aJT:Nat → Sp
 | 0=>fun _ _ _ _=>False
 | n + 1=>hZ n
theorem aOH (T:Txt K mg C):Fc P w K mg base 1 "_law_orders" ["_law_names_here"] (aJT 0):=by
 exact T.d_l_orders.fc iD (fun _ _ _ _ h=>BT h) (fun f cdv A outer s H vs Q E hr h=>BT h)
theorem kY (T:Txt K mg C) {k n:Nat} (G_l_orders:Fc P w K mg base k "_law_orders" ["_law_names_here"] (aJT n)):Fc P w K mg base (k + 1) "_law_orders" ["_law_names_here"] (hZ n):=by
 refine T.d_l_orders.fc iD mF (fun f cdv A outer s H vs Q E hr h=>?_)
 obtain ⟨x,rfl,l,zs,rfl,hl,nd,len,n4,q⟩:=h
 have big:=bO
 refine ⟨_,(@aG _ _ _ _ _ (@fE _ _ _ _ _ _ _ _ (@cC _ _ _ _ _ _ _ _ (@aEG _ hr.units) (pv 0) (@cY _ _ _ _ aD) (@bX _ _ (by decide) (by decide))) (@aH _ _ _ (@aT _ _ _ _ (@cY _ _ _ _ (@aA _ _ _ _ _ (@cY _ _ _ _ aD) aD (by rfl))))) cG) (@aG _ _ _ _ _ (@aU _ _ (1) _ _ _ _ iD.nd rfl (Or.inl rfl) (@cY _ _ _ _ aD) (by rfl) (by trivial)) (@aG _ _ _ _ _ (@fG _ _ _ _ _ _ _ _ BC rfl (@bJ _ _ _ _ (pv 0)) (@aW _ _ (2) _ iD.nd rfl (Or.inr rfl) (by trivial)) (@aH _ _ _ (@fG _ _ _ _ _ _ _ _ BC rfl (@bJ _ _ _ _ (@bH _ _ _ _ _ _ _ _ _ _ G_l_orders (hr.mono (by omega)) (@aA _ _ _ _ _ (@bS _ _ _ _ _ _ _ _ _ _ _ ["_law_one","_law_name"] 1 [2] rfl (@bJ _ _ _ _ (pv 0)) (fun R=>@aW _ _ (0) _ (show Au (["_law_one","_law_name"]:List Str) by decide +kernel) rfl (Or.inl rfl) (by trivial)) (@aY _ _ (by decide)) (fun R=>@eX _ _ _ (@cC _ _ _ _ _ _ _ _ sH (pv 0) (pv 1) (@bX _ _ (by decide) (by decide)))) (fun R=>(pv 0)) (by rfl) (by rfl) (by rfl) (by rfl) (by rfl) (by rfl) (by rfl) (by intro _;rfl)) aD (by rfl)) (by rfl) (by decide) (by rfl) (by rfl))) (@aW _ _ (3) _ iD.nd rfl (Or.inl rfl) (by trivial)) (@aH _ _ _ (@fD _ _ _ _ (@kX _ _ _ _ _ _ _ _ _ _ _ _ BI BR BQ eM (pv 1) (@aA _ _ _ _ _ (@aM _ _ _ _ _ _ _ _ uR (@cY _ _ _ _ (@aA _ _ _ _ _ (pv 2) aD (by rfl))) (pv 3)) aD (by rfl)) (by rfl) (by rfl) (by rfl) (by rfl) (by rfl)) (by rfl))) (by intro _;rfl))) (by intro _;rfl)) (@aH _ _ _ (@aT _ _ _ _ (pv 1)))))),?_⟩
 refine ⟨_,rfl,aX rfl,fun l0 m0=>?_⟩
 have S0:=aJ.upd (o:=.lst []) m0
 have r0:upd H l0 (.lst []) l0 = some (.lst []):=aE
 generalize upd H l0 (.lst []) = H0 at S0 r0
 refine ⟨.lst (zs.map Dv.str),.lst [],⟨l,_,rfl,S0 _ _ hl,IsL.strs _ _⟩,⟨l0,_,rfl,r0,rfl⟩,fA zs,rfl,?_⟩
 rw [if_neg Ad]
 cases n with
 | zero =>
  cases Cb len
  refine ⟨_,rfl,cW ?_⟩
  refine ⟨aX rfl,fun a1 m1=>?_⟩
  have S1:=aJ.upd (o:=.lst []) m1
  have r1:upd H0 a1 (.lst []) a1 = some (.lst []):=aE
  generalize upd H0 a1 (.lst []) = H1 at S1 r1
  refine ⟨aX rfl,fun a2 m2=>?_⟩
  have S2:=aJ.upd (o:=.lst [.ref a1]) m2
  have T2:=S0.trans (S1.trans S2)
  exact q a2 [(a1,[])] _ T2 aE ((S0.trans S1).free m2) (fun p m=>by rw [AV.mp m];exact S2 _ _ r1) (fun p m=>by rw [AV.mp m];exact S0.free m1) rfl
 | succ n =>
  obtain ⟨z0,r0',rfl⟩:∃ z r,zs = z :: r:=by
   cases zs with
   | nil=>cases len
   | cons z r=>exact ⟨z,r,rfl⟩
  refine ⟨_,rfl,bM ?_⟩
  generalize hzs:z0 :: r0' = zs at *
  refine ⟨aX rfl,fun lo mo=>?_⟩
  have S1:=aJ.upd (o:=.lst []) mo
  have r1:upd H0 lo (.lst []) lo = some (.lst []):=aE
  generalize upd H0 lo (.lst []) = H1 at S1 r1
  refine gσ (σ':=[some (.ref l),some (.ref lo),none,none]) rfl ?_
  have T1:=S0.trans S1
  have nlo:H lo = none:=S0.free mo
  have hl1:=T1 _ _ hl
  have nll:l ≠ lo:=fun e=>by rw [e,nlo] at hl;cases hl
  refine ⟨_,rfl,l,rfl,⟨_,SqL.of hl1⟩,jR (K:=K) (a:=l) (xs:=zs.map V.str) (fun i σ H'=>∃ (v2 v3:Option V) (ps:List (Addr × List Str)),σ = [some (.ref l),some (.ref lo),v2,v3] ∧ aJ H H' ∧ H' lo = some (.lst (ps.map fun p=>V.ref p.1)) ∧ aSA H' ps ∧ (∀ p ∈ ps,H p.1 = none ∧ p.1 ≠ lo) ∧ ps.length ≤ 24 * i ∧ ps.map (·.2) = (zs.take i).flatMap fun z=>(lN n (zs.filter fun y=>!decide (y = z))).map (z :: ·)) ⟨_,_,[],rfl,T1,r1,(fun _ m=>nomatch m),(fun _ m=>nomatch m),AN _,rfl⟩ ?_ ?_ ?_⟩
  ·rintro i σ H' hi ⟨v2,v3,ps,rfl,S',h1,h2,h3,h4,h5⟩
   exact SqL.of (S' _ _ hl)
  ·rintro i xv σ H' hx ⟨v2,v3,ps,rfl,S',h1,h2,h3,h4,h5⟩
   rw [AI] at hx
   obtain ⟨z,ez,rfl⟩:=Ao.mp hx
   have mz:=AM ez
   have hi:i < zs.length:=(AB.mp ez).1
   have fl:=vR nd mz
   refine gσ (σ':=[some (.ref l),some (.ref lo),some (.str z),v3]) rfl ?_
   refine ⟨_,rfl,l,rfl,⟨_,SqL.of (S' _ _ hl)⟩,?_⟩
   refine bG (F:=K) (xs:=zs.map V.str) (by rw [AA];omega) (fun j ys H''=>H' = H'' ∧ ys = ((zs.take j).filter fun y=>!decide (y = z)).map V.str) ⟨rfl,rfl⟩ ?_ ?_ ?_
   ·rintro j ys H'' hj ⟨rfl,rfl⟩
    have:=BN (fun y:Str=>!decide (y = z)) (zs.take j)
    rw [AW] at this
    exact ⟨SqL.of (S' _ _ hl),by rw [AA];omega⟩
   ·rintro j xv ys H'' K1 K2 hx' ⟨rfl,rfl⟩ k1 k2
    rw [AI] at hx'
    obtain ⟨y,ey,rfl⟩:=Ao.mp hx'
    have et:=lE (P:=fun y:Str=>!decide (y = z)) ey
    refine ⟨_,rfl,_,rfl,rfl,_,rfl,?_⟩
    rw [aGU]
    cases hg:!decide (y = z) with
    | false =>
     rw [hg] at et
     exact bM (k2 _ ⟨rfl,by rw [et];simp⟩)
    | true =>
     rw [hg] at et
     exact cW ⟨_,rfl,k1 _ _ ⟨rfl,by rw [et,if_pos rfl,AT];rfl⟩⟩
   rintro ys H'' ⟨rfl,rfl⟩
   rw [AA,AF (AN _)]
   intro lc mc
   have S2:=aJ.upd (o:=.lst ((zs.filter fun y=>!decide (y = z)).map V.str)) mc
   have r2:upd H' lc (.lst ((zs.filter fun y=>!decide (y = z)).map V.str)) lc = some (.lst ((zs.filter fun y=>!decide (y = z)).map V.str)):=aE
   generalize upd H' lc (.lst ((zs.filter fun y=>!decide (y = z)).map V.str)) = H2 at S2 r2
   have fnd:(zs.filter fun y=>!decide (y = z)).Nodup:=DL DN nd
   refine ⟨_,rfl,lc,_,rfl,r2,fnd,by omega,by omega,fun lo2 ps2 H3 S3 h6 h7 h8 h9 h10=>?_⟩
   have ln2:ps2.length ≤ 24:=by
    have:=aBZ (m:=n) fnd (by omega) (by omega)
    rw [← h10,AA] at this
    exact this
   have T3:=S2.trans S3
   have g3:=T3 _ _ h1
   have nlo2:lo2 ≠ lo:=fun e=>by have:=S2 _ _ h1;rw [← e,h7] at this;cases this
   refine ⟨lo2,rfl,⟨_,SqL.of h6⟩,jR (K:=K) (a:=lo2) (xs:=ps2.map fun p=>V.ref p.1) (fun j σ H'=>∃ (v3:Option V) (qs:List (Addr × List Str)),σ = [some (.ref l),some (.ref lo),some (.str z),v3] ∧ dQ lo H3 H' ∧ H' lo = some (.lst ((ps ++ qs).map fun p=>V.ref p.1)) ∧ aSA H' (ps ++ qs) ∧ (∀ p ∈ qs,H p.1 = none ∧ p.1 ≠ lo) ∧ qs.length = j ∧ qs.map (·.2) = ((ps2.take j).map (·.2)).map (z :: ·)) ⟨_,[],rfl,(fun _ _ _ e=>e),by rw [Bp];exact g3,(fun p m=>T3 _ _ (h2 p (by simpa using m))),(fun _ m=>nomatch m),rfl,rfl⟩ ?_ ?_ ?_⟩
   ·rintro j σ H'' hj ⟨v3,qs,rfl,k',e1,e2,e3,e4,e5⟩
    exact SqL.of (k' _ _ nlo2 h6)
   ·rintro j xv σ H'' hx'' ⟨v3,qs,rfl,k',e1,e2,e3,e4,e5⟩
    rw [AI] at hx''
    obtain ⟨p,ep,rfl⟩:=Ao.mp hx''
    have mp:=AM ep
    have hj:j < ps2.length:=(AB.mp ep).1
    have npl:p.1 ≠ lo:=fun e=>by have:=S2 _ _ h1;rw [← e,h9 p mp] at this;cases this
    have hp:=k' _ _ npl (h8 p mp)
    have lp:p.2.length ≤ 4:=by
     have:p.2 ∈ lN n (zs.filter fun y=>!decide (y = z)):=by rw [← h10];exact AS.mpr ⟨p,mp,rfl⟩
     have:=(pT fnd (by omega) _ this).2.1
     omega
    refine gσ (σ':=[some (.ref l),some (.ref lo),some (.str z),some (.ref p.1)]) rfl ?_
    refine ⟨_,rfl,.inl ⟨rfl,_,SqL.of e1⟩,_,rfl,aX rfl,fun b1 m1=>?_⟩
    have S4:=aJ.upd (o:=.lst [.str z]) m1
    have r4:upd H'' b1 (.lst [.str z]) b1 = some (.lst [.str z]):=aE
    generalize upd H'' b1 (.lst [.str z]) = H4 at S4 r4
    refine ⟨_,rfl,b1,p.1,_,_,rfl,rfl,r4,S4 _ _ hp,by rw [AA];show 1 + _ ≤ _;omega,fun b2 m2=>?_⟩
    have S5:=aJ.upd (o:=.lst ([.str z] ++ p.2.map V.str)) m2
    have r5:upd H4 b2 (.lst ([.str z] ++ p.2.map V.str)) b2 = some (.lst ((z :: p.2).map V.str)):=aE
    generalize upd H4 b2 (.lst ([.str z] ++ p.2.map V.str)) = H5 at S5 r5
    have T5:=S4.trans S5
    have nb:b2 ≠ lo:=fun e=>by have:=S4 _ _ e1;rw [← e,m2] at this;cases this
    have kH:aJ H H'':=fun b o e=>k' _ _ (aO e nlo) (T3 _ _ (S' _ _ e))
    refine ⟨lo,_,_,rfl,rfl,T5 _ _ e1,by rw [AA,Ae];omega,?_⟩
    refine ⟨_,qs ++ [(b2,z :: p.2)],rfl,(fun b o n e=>by rw [aI n];exact T5 _ _ (k' b o n e)),?_,fun r m=>?_,fun r m=>?_,by rw [Ae,e4];rfl,?_⟩
    ·rw [aE,← Bc,AT (l₁:=ps ++ qs)]
     rfl
    ·rw [← Bc] at m
     rcases Ar.mp m with m | m
     ·rw [aI]
      ·exact T5 _ _ (e2 r m)
      ·rcases Ar.mp m with m | m
       ·exact (h3 r m).2
       ·exact (e3 r m).2
     ·rw [AV.mp m,aI nb]
      exact r5
    ·rcases Ar.mp m with m | m
     ·exact e3 r m
     ·rw [AV.mp m]
      exact ⟨(kH.trans S4).free m2,nb⟩
    ·rw [AT,e5,AX,ep,AT,AT]
     rfl
   ·rintro σ H'' ⟨v3,qs,rfl,k',e1,e2,e3,e4,e5⟩
    rw [AA] at e4 e5
    rw [AF (AN _),h10] at e5
    refine ⟨_,_,ps ++ qs,rfl,(fun b o e=>k' _ _ (aO e nlo) (T3 _ _ (S' _ _ e))),e1,e2,(fun r m=>(Ar.mp m).elim (h3 r) (e3 r)),by rw [Ae];omega,?_⟩
    rw [AT,h5,e5,AX,ez,List.flatMap_append]
    show _ ++ _ = _ ++ (_ ++ [])
    rw [Bp]
  ·rintro σ H' ⟨v2,v3,ps,rfl,S',h1,h2,h3,h4,h5⟩
   rw [AA,AF (AN _)] at h5
   exact ⟨_,rfl,q lo ps H' S' h1 nlo h2 (fun p m=>(h3 p m).1) h5⟩
theorem aCG (T:Txt K mg C) (n:Nat) (n4:n ≤ 4):Fc P w K mg base (n + 2) "_law_orders" ["_law_names_here"] (hZ n):=by
 have h0:Fc P w K mg base 2 "_law_orders" ["_law_names_here"] (hZ 0):=kY (n:=0) T (aOH T)
 have h1:Fc P w K mg base 3 "_law_orders" ["_law_names_here"] (hZ 1):=kY (n:=1) T h0
 have h2:Fc P w K mg base 4 "_law_orders" ["_law_names_here"] (hZ 2):=kY (n:=2) T h1
 have h3:Fc P w K mg base 5 "_law_orders" ["_law_names_here"] (hZ 3):=kY (n:=3) T h2
 have:n = 0 ∨ n = 1 ∨ n = 2 ∨ n = 3 ∨ n = 4:=by omega
 rcases this with rfl | rfl | rfl | rfl | rfl
 ·exact h0
 ·exact h1
 ·exact h2
 ·exact h3
 ·exact kY (n:=4) T h3
open Mt53 Mt22 MtF Mt31 Mt61 Mt72
theorem Fc.up {x:Str} {ps:List Str} {j k:Nat} {sp:Sp} (F:Fc P w K mg base j x ps sp) (h:j ≤ k):Fc P w K mg base k x ps sp:=by
 obtain ⟨f,fd,G,b,m,kp⟩:=F.ex
 exact ⟨f,fd,G.mono h,b,m,kp⟩
theorem aIN (xs:List V) (k:Nat):aFC xs none (some (k:Int)) = xs.take k:=by
 unfold aFC
 rw [HT.sIx_nat,HT.sIx_none,EC,Nat.sub_zero]
 by_cases h:k ≤ xs.length
 ·rw [Et h]
 ·rw [Nat.min_eq_right (by omega),AF (AN _),AF (by omega)]
def oU (ws:List Str) (S:Str → Int):List (Key × V):=ws.map fun z=>(Sum.inr z,.int (S z))
theorem aBD {ws:List Str} {S:Str → Int} {z:Str}:((oU ws S).any fun kv=>decide (kv.1 = Sum.inr z)) = decide (z ∈ ws):=by
 unfold oU
 rw [List.any_map,BZ,DH,decide_eq_true_iff]
 exact ⟨fun ⟨y,m,e⟩=>CS (of_decide_eq_true e) ▸ m,fun m=>⟨z,m,decide_eq_true rfl⟩⟩
theorem aJI {ws:List Str} {S:Str → Int} {z:Str} (n:z ∉ ws):iU (oU ws S) (Sum.inr z) (.int (S z)) = oU (ws ++ [z]) S:=by
 unfold iU
 rw [aBD,decide_eq_false n,if_neg Ad]
 unfold oU
 rw [AT]
 rfl
theorem aJH {ws:List Str} {S:Str → Int} {z:Str} {c:Int} (m:z ∈ ws):iU (oU ws S) (Sum.inr z) (.int c) = oU ws (fun y=>if y = z then c else S y):=by
 unfold iU
 rw [aBD,decide_eq_true m,if_pos rfl]
 unfold oU
 rw [Al]
 refine Bb fun y _=>?_
 show (if (Sum.inr y:Key) = Sum.inr z then _ else _) = _
 by_cases e:y = z
 ·rw [if_pos (by rw [e])]
  show (_,V.int c) = (_,V.int (if y = z then c else S y))
  rw [if_pos e]
 ·rw [if_neg (fun h=>e (CS h))]
  show _ = (_,V.int (if y = z then c else S y))
  rw [if_neg e]
theorem tX {S:Str → Int} {z:Str}:∀ {ws:List Str},z ∈ ws → cX (oU ws S) (Sum.inr z) = some (.int (S z))
 | x :: r,m=>by
  unfold oU
  rw [AY]
  by_cases e:x = z
  ·subst e
   exact cP rfl
  ·rw [cQ (fun h=>e (CS h))]
   rcases Ah.mp m with h | h
   ·exact absurd h.symm e
   ·exact tX h
def aPI (G:List Gap) (kvs:List (List Key × V)):Prop:=∀ ss v,cX kvs (lB ss) = some v → v = .int (cF G ss)
theorem aIQ (v:List Str → Int) (z:Str) (o:List Str) (k:Nat):lW v z o (k + 1) = lW v z o k + if o[k]? = some z then v (o.take (k + 1)) - v (o.take k) else 0:=rfl
theorem aHU {zs:List Str} (nd:zs.Nodup) (n1:1 ≤ zs.length) (n4:zs.length ≤ 4):(lN zs.length zs).length = fac zs.length:=by
 have h:=aCA zs.length n1 n4
 rw [← h]
 conv=>lhs;arg 1;arg 2;rw [oG zs]
 rw [pU fun a ma b mb e=>nQ nd (BH.mp ma) (BH.mp mb) e,AA]
theorem aIP {G:List Gap} {zs:List Str} (nd:zs.Nodup) (n1:1 ≤ zs.length) (n4:zs.length ≤ 4) {z:Str} (mz:z ∈ zs):(sm (lN zs.length zs) fun o=>lW (cF G) z o zs.length) = total G zs z (dP zs).length:=by
 rw [aTE nd n1 n4 (fun a b e=>aDH e) mz]
 unfold total
 rw [AF (AN _)]
 unfold dP sm
 rw [Al]
 rfl
structure DueI (H H3:Hp) (d1 d2:Addr) (G:List Gap) (zs:List Str) (S:Str → Int) (n:Nat) (H':Hp):Prop where
 same:aJ H H'
 keep:∀ b o,b ≠ d1 → b ≠ d2 → H3 b = some o → H' b = some o
 known:∃ kvs,H' d1 = some (.dT kvs) ∧ kvs.length ≤ n ∧ aPI G kvs
 sums:H' d2 = some (.dK (oU zs S))
theorem DueI.up {H H3:Hp} {d1 d2:Addr} {G:List Gap} {zs:List Str} {S:Str → Int} {n:Nat} {H' H'':Hp} (h:DueI H H3 d1 d2 G zs S n H') (s:aJ H' H''):DueI H H3 d1 d2 G zs S n H'':=by
 obtain ⟨a,b,⟨kvs,c1,c2,c3⟩,d⟩:=h
 exact ⟨a.trans s,fun x o n1 n2 e=>s _ _ (b x o n1 n2 e),⟨kvs,s _ _ c1,c2,c3⟩,s _ _ d⟩
def tI (H:Hp) (G:List Gap) (zs ws:List Str) (us:List V):Prop:=Paired (fun (z:Str) (v:V)=>∃ a b,v = .ref a ∧ H a = some (.tup [.str z,.ref b]) ∧ H b = some (.tup [.int (low (total G zs z (dP zs).length) (fac zs.length:Nat)).1,.int (low (total G zs z (dP zs).length) (fac zs.length:Nat)).2])) ws us
theorem tI.same {H H':Hp} {G:List Gap} {zs ws:List Str} {us:List V} (h:tI H G zs ws us) (S:aJ H H'):tI H' G zs ws us :=
 Paired.mapP h fun _ _ ⟨a,b,e,e1,e2⟩=>⟨a,b,e,S _ _ e1,S _ _ e2⟩
def aPT (C:Addr):Sp:=sp3 fun x y u H Q=>∃ (p l:Addr) (fs ds:List Dv) (zs:List Str) (L:Int),x = .ref p ∧ LandAt C H p fs ds ∧ y = .ref l ∧ H l = some (.lst (zs.map V.str)) ∧ 1 ≤ zs.length ∧ zs.length ≤ 4 ∧ zs.Nodup ∧ (∀ z ∈ zs,z ∈ fs.map aZ) ∧ u = .int L ∧ hgt L = true ∧
 ∀ (ld:Addr) (us:List V) (H':Hp),aJ H H' → H' ld = some (.lst us) → tI H' (aQ fs ds L) zs zs us → Q (.ref ld) H'
theorem aLG (T:Txt K mg C):Fc P w K mg base 8 "_law_due" ["_law_land","_law_wish_here","_law_height_here"] (aPT C):=by
 have G_p_cost:Fc P w K mg base 7 "cost" ["land","fields","height"] (aDT C):=xR T
 have G_l_lowest:Fc P w K mg base 2 "_law_lowest" ["_law_top","_law_bottom"] aFU:=aCH T
 refine T.d_l_due.fc fI pB (fun f cdv A outer s H vs Q E hr h=>?_)
 obtain ⟨x,y,u,rfl,p,l,fs,ds,zs,lv,rfl,L,rfl,hl,l1,l4,nd,sub,rfl,hL,q⟩:=h
 have G_l_orders:Fc P w K mg base 6 "_law_orders" ["_law_names_here"] (hZ zs.length):=Fc.up (aCG T zs.length l4) (by omega)
 have big:=bO
 have hu:=jZ hr
 refine ⟨_,(@aG _ _ _ _ _ (@aU _ _ (3) _ _ _ _ fI.nd rfl (Or.inl rfl) aKZ (by rfl) (by trivial)) (@aG _ _ _ _ _ (@aU _ _ (4) _ _ _ _ fI.nd rfl (Or.inr rfl) aLA (by rfl) (by trivial)) (@aG _ _ _ _ _ (@fG _ _ _ _ _ _ _ _ BC rfl (@bJ _ _ _ _ (pv 1)) (@aW _ _ (5) _ fI.nd rfl (Or.inl rfl) (by trivial)) (@aH _ _ _ (@tQ _ _ _ _ _ _ _ _ _ hu (pv 4) (pv 5) aF rfl)) (by intro _;rfl)) (@aG _ _ _ _ _ (@aU _ _ (6) _ _ _ _ fI.nd rfl (Or.inr rfl) (@bH _ _ _ _ _ _ _ _ _ _ G_l_orders (hr.mono (by decide)) (@aA _ _ _ _ _ (pv 1) aD (by rfl)) (by rfl) (by decide) (by rfl) (by rfl)) (by rfl) (by trivial)) (@aG _ _ _ _ _ (@fG _ _ _ _ _ _ _ _ BC rfl (@bJ _ _ _ _ (pv 6)) (@aW _ _ (7) _ fI.nd rfl (Or.inl rfl) (by trivial)) (@aG _ _ _ _ _ (@aU _ _ (8) _ _ _ _ fI.nd rfl (Or.inl rfl) aF (by rfl) (by trivial)) (@aH _ _ _ (@fG _ _ _ _ _ _ _ _ BC rfl (@gZ _ _ _ _ _ _ rfl T.n_range (@aA _ _ _ _ _ (@aP _ _ _ _ _ _ _ _ _ (@bA _ (K) rfl) rfl T.n_len bK (@aA _ _ _ _ _ (pv 7) aD (by rfl)) (by decide) (by decide) (by rfl) (by rfl)) aD (by rfl)) (by rfl)) (@aW _ _ (9) _ fI.nd rfl (Or.inl rfl) (by trivial)) (@aG _ _ _ _ _ (@aU _ _ (10) _ _ _ _ fI.nd rfl (Or.inl rfl) (@bV _ _ _ _ _ _ _ _ _ kG rfl T.n_tuple iM (@aA _ _ _ _ _ (@aP _ _ _ _ _ _ _ _ _ rQ rfl T.n_sorted qJ (@aA _ _ _ _ _ (@uN _ _ _ _ _ _ _ _ _ _ (@aKC _ (K) rfl) (pv 7) zP (@zO _ _ _ (@aM _ _ _ _ _ _ _ _ fZ (pv 9) aF))) aD (by rfl)) (by decide) (by decide) (by rfl) (by rfl)) aD (by rfl)) (by decide) (by decide) (by rfl) (by rfl)) (by rfl) (by trivial)) (@aG _ _ _ _ _ (@fE _ _ _ _ _ _ _ _ (@uM _ _ _ _ _ _ (@qU _ _ _ _ _ hu (pv 10) (pv 3)) (by first | exact nobehind _ (by decide) (by decide) | rfl)) (@aH _ _ _ (@tQ _ _ _ _ _ _ _ _ _ hu (pv 3) (pv 10) (@bH _ _ _ _ _ _ _ _ _ _ G_p_cost (hr.mono (by decide)) (@aA _ _ _ _ _ (pv 0) (@aA _ _ _ _ _ (@bV _ _ _ _ _ _ _ _ _ (@kI _ (K) rfl) rfl T.n_list dH (@aA _ _ _ _ _ (pv 10) aD (by rfl)) (by decide) (by decide) (by rfl) (by rfl)) (@aA _ _ _ _ _ (pv 2) aD (by rfl)) (by rfl)) (by rfl)) (by rfl) (by decide) (by rfl) (by rfl)) rfl)) cG) (@aG _ _ _ _ _ (@tQ _ _ _ _ _ _ _ _ _ hu (pv 4) (@bE _ _ _ _ _ _ _ (@dU _ (K) rfl) (pv 7) (pv 9) (fun _ _=>rfl)) (@aM _ _ _ _ _ _ _ _ iO (@aM _ _ _ _ _ _ _ _ fZ (@eB _ _ _ _ _ _ hu (pv 4) (@bE _ _ _ _ _ _ _ (@dU _ (K) rfl) (pv 7) (pv 9) (fun _ _=>rfl)) (fun _ _=>rfl)) (@eB _ _ _ _ _ _ hu (pv 3) (pv 10) (fun _ _=>rfl))) (pv 8)) rfl) (@aH _ _ _ (@aU _ _ (8) _ _ _ _ fI.nd rfl (Or.inl rfl) (@eB _ _ _ _ _ _ hu (pv 3) (pv 10) (fun _ _=>rfl)) (by rfl) (by trivial)))))) (by intro _;rfl)))) (by intro _;rfl)) (@aH _ _ _ (@aT _ _ _ _ (@bS _ _ _ _ _ _ _ _ _ _ _ ["_law_name","_law_sums","_law_orders_here"] 1 [4,6] rfl (@bJ _ _ _ _ (pv 1)) (fun R=>@aW _ _ (0) _ (show Au (["_law_name","_law_sums","_law_orders_here"]:List Str) by decide +kernel) rfl (Or.inl rfl) (by trivial)) (@aY _ _ (by decide)) (fun R=>bW) (fun R=>(@dZ _ _ _ _ _ (@aA _ _ _ _ _ (pv 0) (@aA _ _ _ _ _ (@bH _ _ _ _ _ _ _ _ _ _ G_l_lowest (hr.mono (by decide)) (@aA _ _ _ _ _ (@eB _ _ _ _ _ _ hu (pv 1) (pv 0) (fun _ _=>rfl)) (@aA _ _ _ _ _ (@aP _ _ _ _ _ _ _ _ _ (@bA _ (K) rfl) rfl T.n_len bK (@aA _ _ _ _ _ (pv 2) aD (by rfl)) (by decide) (by decide) (by rfl) (by rfl)) aD (by rfl)) (by rfl)) (by rfl) (by decide) (by rfl) (by rfl)) aD (by rfl)) (by rfl)))) (by rfl) (by rfl) (by rfl) (by rfl) (by rfl) (by rfl) (by rfl) (by intro _;rfl))))))))),?_⟩
 have GG:=qF (cI L).1 (cI L).2 lv
 have c0:cF (aQ fs ds lv) [] = 0:=aMY (vF GG)
 refine fun d1 m1=>?_
 have S1:=aJ.upd (o:=.dT []) m1
 have r1:upd H d1 (.dT []) d1 = some (.dT []):=aE
 generalize upd H d1 (.dT []) = H1 at S1 r1
 refine gσ (σ':=[some (.ref p),some (.ref l),some (.int lv),some (.ref d1),none,none,none,none,none,none,none]) rfl ?_
 refine fun d2 m2=>?_
 have S2:=aJ.upd (o:=.dK []) m2
 have r2:upd H1 d2 (.dK []) d2 = some (.dK []):=aE
 generalize upd H1 d2 (.dK []) = H2 at S2 r2
 refine gσ (σ':=[some (.ref p),some (.ref l),some (.int lv),some (.ref d1),some (.ref d2),none,none,none,none,none,none]) rfl ?_
 have n12:d1 ≠ d2:=fun e=>by rw [e] at r1;rw [r1] at m2;cases m2
 have nd2:H d2 = none:=S1.free m2
 have T2:=S1.trans S2
 refine ⟨_,rfl,l,rfl,⟨_,SqL.of (T2 _ _ hl)⟩,jR (K:=K) (a:=l) (xs:=zs.map V.str) (fun i σ H'=>∃ v5,σ = [some (.ref p),some (.ref l),some (.int lv),some (.ref d1),some (.ref d2),v5,none,none,none,none,none] ∧ aJ H H' ∧ H' d1 = some (.dT []) ∧ H' d2 = some (.dK (oU (zs.take i) fun _=>0))) ⟨_,rfl,T2,S2 _ _ r1,r2⟩ ?_ ?_ ?_⟩
 ·rintro i σ H' hi ⟨v5,rfl,S',e1,e2⟩
  exact SqL.of (S' _ _ hl)
 ·rintro i xv σ H' hx ⟨v5,rfl,S',e1,e2⟩
  rw [AI] at hx
  obtain ⟨z,ez,rfl⟩:=Ao.mp hx
  have hi:i < zs.length:=(AB.mp ez).1
  have nz:z ∉ zs.take i:=fun m=>by
   obtain ⟨j,hj⟩:=BA.mp m
   rw [List.getElem?_take] at hj
   split at hj
   ·have:=qA nd hj ez
    omega
   ·cases hj
  refine gσ (σ':=[some (.ref p),some (.ref l),some (.int lv),some (.ref d1),some (.ref d2),some (.str z),none,none,none,none,none]) rfl ?_
  refine ⟨_,rfl,_,rfl,d2,_,rfl,xB.k (k:=Sum.inr z) e2 (by unfold oU;rw [AA,AW];omega),?_⟩
  rw [aJI (S:=fun _=>0) nz]
  refine ⟨_,rfl,(fun b o e=>by rw [aI (aO e nd2)];exact S' _ _ e),by rw [aI n12];exact e1,?_⟩
  rw [aE,AX,ez]
  rfl
 rintro σ H3' ⟨v5,rfl,S3,e1,e2⟩
 rw [AA,AF (AN _)] at e2
 refine ⟨_,rfl,_,rfl,l,zs,rfl,S3 _ _ hl,nd,rfl,l4,fun lo ps H3 S4 h1 h2 h3 h4 h5=>?_⟩
 refine gσ (σ':=[some (.ref p),some (.ref l),some (.int lv),some (.ref d1),some (.ref d2),v5,some (.ref lo),none,none,none,none]) rfl ?_
 have T3:=S3.trans S4
 have lps:ps.length ≤ 24:=by
  have:=aBZ nd rfl l4
  rw [← h5,AA] at this
  exact this
 have nlo1:lo ≠ d1:=fun e=>by rw [e,e1] at h2;cases h2
 have nlo2:lo ≠ d2:=fun e=>by rw [e,e2] at h2;cases h2
 have np1:∀ p ∈ ps,p.1 ≠ d1:=fun p m e=>by have:=h4 p m;rw [e,e1] at this;cases this
 have np2:∀ p ∈ ps,p.1 ≠ d2:=fun p m e=>by have:=h4 p m;rw [e,e2] at this;cases this
 refine ⟨_,rfl,lo,rfl,⟨_,SqL.of h1⟩,jR (K:=K) (a:=lo) (xs:=ps.map fun p=>V.ref p.1) (fun i σ H'=>∃ v7 v8 v9 v10,σ = [some (.ref p),some (.ref l),some (.int lv),some (.ref d1),some (.ref d2),v5,some (.ref lo),v7,v8,v9,v10] ∧ DueI H H3 d1 d2 (aQ fs ds lv) zs (fun z=>sm ((ps.take i).map (·.2)) fun o=>lW (cF (aQ fs ds lv)) z o zs.length) (4 * i) H') ⟨_,_,_,_,rfl,T3,(fun _ _ _ _ e=>e),⟨[],S4 _ _ e1,AN _,fun _ _ e=>by cases e⟩,S4 _ _ e2⟩ ?_ ?_ ?_⟩
 ·rintro i σ H' hi ⟨v7,v8,v9,v10,rfl,D⟩
  exact SqL.of (D.keep _ _ nlo1 nlo2 h1)
 ·rintro i xv σ H' hx ⟨v7,v8,v9,v10,rfl,D⟩
  rw [AI] at hx
  obtain ⟨po,ep,rfl⟩:=Ao.mp hx
  have mpo:=AM ep
  have hi:i < ps.length:=(AB.mp ep).1
  have mo:po.2 ∈ lN zs.length zs:=by rw [← h5];exact AS.mpr ⟨po,mpo,rfl⟩
  obtain ⟨ond,olen,omem⟩:=pT nd rfl _ mo
  refine gσ (σ':=[some (.ref p),some (.ref l),some (.int lv),some (.ref d1),some (.ref d2),v5,some (.ref lo),some (.ref po.1),v8,v9,v10]) rfl ?_
  refine gσ (σ':=[some (.ref p),some (.ref l),some (.int lv),some (.ref d1),some (.ref d2),v5,some (.ref lo),some (.ref po.1),some (.int 0),v9,v10]) rfl ?_
  have hpo:=D.keep _ _ (np1 po mpo) (np2 po mpo) (h3 po mpo)
  refine ⟨_,rfl,po.1,_,rfl,.inl (SqL.of hpo),zs.length,by rw [AA,olen],by omega,by omega,hJ (n:=zs.length) (fun k σ H'=>∃ v9 v10,σ = [some (.ref p),some (.ref l),some (.int lv),some (.ref d1),some (.ref d2),v5,some (.ref lo),some (.ref po.1),some (.int (cF (aQ fs ds lv) (po.2.take k))),v9,v10] ∧ DueI H H3 d1 d2 (aQ fs ds lv) zs (fun z=>(sm ((ps.take i).map (·.2)) fun o=>lW (cF (aQ fs ds lv)) z o zs.length) + lW (cF (aQ fs ds lv)) z po.2 k) (4 * i + k) H') ⟨_,_,by rw [List.take_zero,c0],?_⟩ ?_ ?_⟩
  ·refine ⟨D.same,D.keep,D.known,?_⟩
   rw [D.sums]
   unfold oU lW
   simp only [Ef]
  ·rintro k σ H' hk ⟨v9,v10,rfl,D⟩
   have hpo:=D.keep _ _ (np1 po mpo) (np2 po mpo) (h3 po mpo)
   have hko:k < po.2.length:=by omega
   refine gσ (σ':=[some (.ref p),some (.ref l),some (.int lv),some (.ref d1),some (.ref d2),v5,some (.ref lo),some (.ref po.1),some (.int (cF (aQ fs ds lv) (po.2.take k))),some (.int (0 + (k:Int))),v10]) rfl ?_
   refine ⟨_,rfl,_,rfl,_,_,rfl,rfl,_,rfl,po.1,_,rfl,SqL.of hpo,fun la ma=>?_⟩
   have ec:aFC (po.2.map V.str) none (some (0 + (k:Int) + 1)) = (po.2.take (k + 1)).map V.str:=by
    rw [ET,← aIN]
    congr 2
    omega
   rw [ec]
   have Sa:=aJ.upd (o:=.lst ((po.2.take (k + 1)).map V.str)) ma
   have ra:upd H' la (.lst ((po.2.take (k + 1)).map V.str)) la = some (.lst ((po.2.take (k + 1)).map V.str)):=aE
   generalize upd H' la (.lst ((po.2.take (k + 1)).map V.str)) = Ha at Sa ra
   refine ⟨la,po.2.take (k + 1),rfl,SqL.of ra,by rw [AW];omega,fun lb ss so mb=>?_⟩
   have Sb:=aJ.upd (o:=.lst (ss.map V.str)) mb
   have rb:upd Ha lb (.lst (ss.map V.str)) lb = some (.lst (ss.map V.str)):=aE
   generalize upd Ha lb (.lst (ss.map V.str)) = Hb at Sb rb
   refine ⟨lb,_,rfl,.inl ⟨SqL.of rb,fun tt mt=>?_⟩⟩
   have Sc:=aJ.upd (o:=.tup (ss.map V.str)) mt
   have rc:upd Hb tt (.tup (ss.map V.str)) tt = some (.tup (ss.map V.str)):=aE
   generalize upd Hb tt (.tup (ss.map V.str)) = Hc at Sc rc
   refine gσ (σ':=[some (.ref p),some (.ref l),some (.int lv),some (.ref d1),some (.ref d2),v5,some (.ref lo),some (.ref po.1),some (.int (cF (aQ fs ds lv) (po.2.take k))),some (.int (0 + (k:Int))),some (.ref tt)]) rfl ?_
   have Dc:=D.up (Sa.trans (Sb.trans Sc))
   have es:cF (aQ fs ds lv) ss = cF (aQ fs ds lv) (po.2.take (k + 1)):=aDH fun z=>so.1.mem_iff
   dsimp only
   refine xN (fun σ' H'=>σ' = [some (.ref p),some (.ref l),some (.int lv),some (.ref d1),some (.ref d2),v5,some (.ref lo),some (.ref po.1),some (.int (cF (aQ fs ds lv) (po.2.take k))),some (.int (0 + (k:Int))),some (.ref tt)] ∧ DueI H H3 d1 d2 (aQ fs ds lv) zs (fun z=>(sm ((ps.take i).map (·.2)) fun o=>lW (cF (aQ fs ds lv)) z o zs.length) + lW (cF (aQ fs ds lv)) z po.2 k) (4 * i + (k + 1)) H' ∧ H' tt = some (.tup (ss.map V.str)) ∧ H' po.1 = some (.lst (po.2.map V.str)) ∧ ∃ kvs,H' d1 = some (.dT kvs) ∧ cX kvs (lB ss) = some (.int (cF (aQ fs ds lv) ss))) ?_ ?_
   ·rintro σ' H4 ⟨rfl,D4,htt,hpo4,kvs,hd1,ev⟩
    obtain ⟨z,ez⟩:∃ z,po.2[k]? = some z:=⟨_,AC hko⟩
    have mz:z ∈ zs:=(omem z).mp (AM ez)
    have ai:atI (po.2.map V.str) (0 + (k:Int)) = some (.str z):=by rw [DU];exact aN (by rw [AI,ez];rfl)
    have ntt:tt ≠ d2:=fun e=>by have:=D4.sums;rw [← e,htt] at this;cases this
    refine ⟨_,rfl,_,rfl,_,rfl,po.1,_,_,.str z,rfl,rfl,SqL.of hpo4,ai,d2,_,rfl,.inl ⟨_,Sum.inr z,.inl D4.sums,rfl,(tX mz).symm⟩,_,rfl,_,rfl,d1,_,rfl,tU (.inl hd1) htt ev,_,_,rfl,rfl,_,rfl,_,_,rfl,rfl,_,rfl,_,rfl,_,rfl,po.1,_,_,.str z,rfl,rfl,SqL.of hpo4,ai,d2,_,rfl,xB.k (k:=Sum.inr z) D4.sums (by unfold oU;rw [AA];omega),?_⟩
    rw [aJH mz]
    refine ⟨_,rfl,_,rfl,d1,_,rfl,tU (.inl (by rw [aI n12];exact hd1)) (by rw [aI ntt];exact htt) ev,?_⟩
    obtain ⟨kvs',q1,q2,q3⟩:=D4.known
    refine ⟨some (.int (0 + (k:Int))),some (.ref tt),by rw [es];rfl,(fun b o e=>by rw [aI (aO e nd2)];exact D4.same _ _ e),(fun b o n1 n2 e=>by rw [aI n2];exact D4.keep b o n1 n2 e),⟨kvs',by rw [aI n12];exact q1,q2,q3⟩,?_⟩
    rw [aE]
    congr 3
    funext y
    rw [es,aIQ]
    by_cases e:y = z
    ·subst e
     rw [if_pos rfl,if_pos ez]
     omega
    ·rw [if_neg e,if_neg (fun h=>e (by rw [ez] at h;exact (Ax h).symm))]
     omega
   ·intro D' hD'
    obtain ⟨kvs,k1,k2,k3⟩:=Dc.known
    refine ⟨_,rfl,_,rfl,d1,cX kvs (lB ss),rfl,.inr ⟨kvs,lB ss,tt,.inl k1,rfl,by rw [rc,vI],rfl⟩,_,rfl,?_⟩
    cases ev:cX kvs (lB ss) with
    | some v =>
     refine bM (hD' _ _ ⟨rfl,⟨Dc.same,Dc.keep,⟨kvs,k1,by omega,k3⟩,Dc.sums⟩,rc,Dc.keep _ _ (np1 po mpo) (np2 po mpo) (h3 po mpo),kvs,k1,?_⟩)
     rw [ev,k3 ss v ev]
    | none =>
     refine cW ?_
     refine ⟨_,rfl,_,rfl,tt,_,rfl,.inr (SqT.of rc),fun ll mll=>?_⟩
     have Sd:=aJ.upd (o:=.lst (ss.map V.str)) mll
     have rd:upd Hc ll (.lst (ss.map V.str)) ll = some (.lst (ss.map V.str)):=aE
     generalize upd Hc ll (.lst (ss.map V.str)) = Hd at Sd rd
     have snd:ss.Nodup:=so.1.nodup_iff.mpr (DL (Da _ _) ond)
     refine ⟨_,rfl,_,_,_,rfl,p,ll,fs,ds,ss,lv,rfl,L.same (Dc.same.trans Sd),rfl,rd,snd,(fun z m=>sub z ((omem z).mp (DK (so.1.mem_iff.mp m)))),rfl,hL,fun cst H6 S6 lst=>?_⟩
     have ecst:=aMY lst
     subst ecst
     have T6:=Sd.trans S6
     have D6:=Dc.up T6
     have e6:=T6 _ _ k1
     have t6:=T6 _ _ rc
     have ntt:tt ≠ d1:=fun e=>by rw [← e,t6] at e6;cases e6
     refine ⟨_,rfl,_,rfl,d1,_,rfl,xB.t (k:=lB ss) e6 (by rw [t6,vI]) (by omega),hD' _ _ ⟨rfl,⟨(fun b o e=>by rw [aI (aO e m1)];exact D6.same _ _ e),(fun b o n1 n2 e=>by rw [aI n1];exact D6.keep b o n1 n2 e),⟨_,aE,by have:=nA kvs (lB ss) (.int (cF (aQ fs ds lv) ss));omega,fun ss' v' e'=>?_⟩,by rw [aI (fun z=>n12 z.symm)];exact D6.sums⟩,by rw [aI ntt];exact t6,by rw [aI (np1 po mpo)];exact D6.keep _ _ (np1 po mpo) (np2 po mpo) (h3 po mpo),_,aE,by rw [aAZ,if_pos rfl]⟩⟩
     rw [aAZ] at e'
     by_cases ek:lB ss' = lB ss
     ·rw [if_pos ek] at e'
      rw [vH ek]
      exact (Ax e').symm
     ·rw [if_neg ek] at e'
      exact k3 ss' v' e'
  ·rintro σ H' ⟨v9,v10,rfl,D⟩
   obtain ⟨kvs,k1,k2,k3⟩:=D.known
   refine ⟨_,_,_,_,rfl,D.same,D.keep,⟨kvs,k1,by omega,k3⟩,?_⟩
   rw [D.sums]
   congr 3
   funext y
   rw [AX,ep,AT,qP]
   show _ = _ + sm [po.2] _
   rw [bD,lL,Ef]
 ·rintro σ H' ⟨v7,v8,v9,v10,rfl,D⟩
  have hs:=D.sums
  rw [AA,AF (AN _),h5] at hs
  have el:ps.length = (lN zs.length zs).length:=by rw [← h5,AA]
  have hl':=D.same _ _ hl
  refine ⟨_,rfl,l,rfl,⟨_,SqL.of hl'⟩,?_⟩
  refine bG (F:=K) (xs:=zs.map V.str) (by rw [AA];omega) (fun j ys H''=>aJ H' H'' ∧ tI H'' (aQ fs ds lv) zs (zs.take j) ys) ⟨aJ.refl _,Bw⟩ ?_ ?_ ?_
  ·rintro j ys H'' hj ⟨S'',dl⟩
   have h2:(zs.take j).length = ys.length:=By dl
   rw [AW] at h2
   exact ⟨SqL.of (S'' _ _ hl'),by omega⟩
  ·rintro j xv ys H'' K1 K2 hx ⟨S'',dl⟩ k1 k2
   rw [AI] at hx
   obtain ⟨z,ez,rfl⟩:=Ao.mp hx
   have mz:z ∈ zs:=AM ez
   refine ⟨_,rfl,_,rfl,_,rfl,d2,_,rfl,.inl ⟨_,Sum.inr z,.inl (S'' _ _ hs),rfl,(tX mz).symm⟩,_,rfl,lo,_,rfl,.inl (SqL.of (S'' _ _ (D.keep _ _ nlo1 nlo2 h1))),?_⟩
   rw [aIP nd l1 l4 mz,AA,el,aHU nd l1 l4]
   have f0:=aAJ zs.length
   have f4:=aMG _ l4
   refine ⟨_,_,rfl,_,_,rfl,rfl,by omega,by omega,fun v H4 S4 fr=>?_⟩
   refine ⟨aX rfl,fun tp mp=>?_⟩
   have S5:=aJ.upd (o:=.tup [.str z,v]) mp
   have r5:upd H4 tp (.tup [.str z,v]) tp = some (.tup [.str z,v]):=aE
   generalize upd H4 tp (.tup [.str z,v]) = H5 at S5 r5
   obtain ⟨b,rfl,hb⟩:=fr
   refine k1 _ _ ⟨S''.trans (S4.trans S5),?_⟩
   rw [AX,ez]
   exact DF (tI.same dl (S4.trans S5)) ⟨tp,b,rfl,r5,S5 _ _ hb⟩
  rintro ys H'' ⟨S'',dl⟩
  rw [AA,AF (AN _)] at dl
  intro ld mld
  have S6:=aJ.upd (o:=.lst ys) mld
  exact q ld ys _ (D.same.trans (S''.trans S6)) aE (tI.same dl S6)
open Mt53 Mt22 MtF Mt31 Mt61 Mt72
theorem tI.get {H:Hp} {G:List Gap} {zs ws:List Str} {us:List V} (h:tI H G zs ws us):∀ {i:Nat} {v:V},us[i]? = some v → ∃ z a b,ws[i]? = some z ∧ v = .ref a ∧ H a = some (.tup [.str z,.ref b]) ∧ H b = some (.tup [.int (low (total G zs z (dP zs).length) (fac zs.length:Nat)).1,.int (low (total G zs z (dP zs).length) (fac zs.length:Nat)).2]):=by
 induction h with
 | nil=>intro i v e;simp at e
 | @cons z v0 ws us h r ih =>
  intro i v e
  cases i with
  | zero =>
   obtain ⟨a,b,h1,h2,h3⟩:=h
   cases e
   exact ⟨z,a,b,rfl,h1,h2,h3⟩
  | succ i=>exact ih (by simpa using e)
theorem aNU {H:Hp} {G:List Gap} {zs ws:List Str} {kvs:List (Key × V)} (h:xA H G zs ws kvs) {z:Str}:z ∈ ws → ∃ v,cX kvs (Sum.inr z) = some v ∧ Fr H v (low (total G zs z (dP zs).length) (fac zs.length:Nat)).1 (low (total G zs z (dP zs).length) (fac zs.length:Nat)).2:=by
 induction h with
 | nil=>intro m;cases m
 | @cons y kv ws kvs h r ih =>
  intro m
  by_cases e:y = z
  ·subst e
   exact ⟨kv.2,cP h.1,h.2⟩
  ·rw [cQ (fun h'=>e (CS (h.1.symm.trans h')))]
   rcases Ah.mp m with m | m
   ·exact absurd m.symm e
   ·exact ih m
def aJV:Sp:=sp2 fun x y H Q=>∃ (d ld:Addr) (kvs:List (Key × V)) (us:List V) (G:List Gap) (zs:List Str),x = .ref d ∧ H d = some (.dK kvs) ∧ xA H G zs zs kvs ∧ y = .ref ld ∧ H ld = some (.lst us) ∧ tI H G zs zs us ∧ zs.Nodup ∧ zs.length ≤ 4 ∧
 ∀ H',aJ H H' → Q (.bl true) H'
theorem aHY (T:Txt K mg C):Fc P w K mg base 3 "_law_good" ["_law_found","_law_due_here"] aJV:=by
 have G_l_is_share:Fc P w K mg base 2 "_law_is_share" ["_law_found","_law_due_here"] aFS:=wU T
 refine T.d_l_good.fc aHO iL (fun f cdv A outer s H vs Q E hr h=>?_)
 obtain ⟨x,y,rfl,d,ld,kvs,us,G,zs,rfl,hd,sh,rfl,hld,du,nd,l4,q⟩:=h
 have big:=bO
 have hu:=jZ hr
 refine ⟨_,(@aG _ _ _ _ _ (@fE _ _ _ _ _ _ _ _ (@PW.pt _ _ _ (@kU _ _ _ _ _ _ _ (@dJ _ _ _ _ (@dG _ _ _ (@aP _ _ _ _ _ _ _ _ _ (@cA _ (K) rfl) rfl T.n_isinstance bL (@aA _ _ _ _ _ (pv 0) (@aA _ _ _ _ _ (@lY _ _ _ _ T.n_dict fB (by rfl) (by decide) (by decide)) aD (by rfl)) (by rfl)) (by decide) (by decide) (by rfl) (by rfl)) (by intro _;rfl))) (@kE _ _ _ _ (@cC _ _ _ _ _ _ _ _ (@aLE _ hr.units) (@bV _ _ _ _ _ _ _ _ _ (@jS _ rfl) rfl T.n_list dH (@aA _ _ _ _ _ (pv 0) aD (by rfl)) (by decide) (by decide) (by rfl) (by rfl)) (@bS _ _ _ _ _ _ _ _ _ _ _ ["_law_name","_law_share"] 2 [] rfl (@bJ _ _ _ _ (pv 1)) (fun R=>@aGH _ _ _ _ _ (2) (K) rfl rfl (@pQ _ _ _ _ _ (@aW _ _ (0) _ (show Au (["_law_name","_law_share"]:List Str) by decide +kernel) rfl (Or.inl rfl) (by trivial)) (@pQ _ _ _ _ _ (@aW _ _ (1) _ (show Au (["_law_name","_law_share"]:List Str) by decide +kernel) rfl (Or.inl rfl) (by trivial)) aGG (by rfl)) (by rfl)) (by rfl) (by rfl)) (@yE _ _ _ _ (@kB _ _ _ (by decide) (@kB _ _ _ (by decide) vM))) (fun R=>bW) (fun R=>(pv 0)) (by rfl) (by rfl) (by rfl) (by rfl) (by rfl) (by rfl) (by rfl) (by intro _;rfl)) (@bX _ _ (by decide) (by decide)))))) (@aH _ _ _ (@aT _ _ _ _ sG)) cG) (@aH _ _ _ (@aT _ _ _ _ (@eC _ _ _ _ _ _ _ _ (@aEG _ hr.units) (@bS _ _ _ _ _ _ _ _ _ _ _ ["_law_name","_law_share","_law_found"] 2 [0] rfl (@bJ _ _ _ _ (pv 1)) (fun R=>@aGH _ _ _ _ _ (2) (K) rfl rfl (@pQ _ _ _ _ _ (@aW _ _ (0) _ (show Au (["_law_name","_law_share","_law_found"]:List Str) by decide +kernel) rfl (Or.inl rfl) (by trivial)) (@pQ _ _ _ _ _ (@aW _ _ (1) _ (show Au (["_law_name","_law_share","_law_found"]:List Str) by decide +kernel) rfl (Or.inl rfl) (by trivial)) aGG (by rfl)) (by rfl)) (by rfl) (by rfl)) (@yE _ _ _ _ (@kB _ _ _ (by decide) (@kB _ _ _ (by decide) vM))) (fun R=>@eX _ _ _ (@dJ _ _ _ _ (@dG _ _ _ (@bH _ _ _ _ _ _ _ _ _ _ G_l_is_share (hr.mono (by decide)) (@aA _ _ _ _ _ (@eB _ _ _ _ _ _ hu (pv 2) (pv 0) (fun _ _=>rfl)) (@aA _ _ _ _ _ (pv 1) aD (by rfl)) (by rfl)) (by rfl) (by decide) (by rfl) (by rfl)) (by intro _;rfl)))) (fun R=>(pv 0)) (by rfl) (by rfl) (by rfl) (by rfl) (by rfl) (by rfl) (by rfl) (by intro _;rfl)) (@cY _ _ _ _ aD) (@bX _ _ (by decide) (by decide)))))),?_⟩
 have lu:zs.length = us.length:=By du
 have ek:kvs.map (fun kv=>kV kv.1) = zs.map V.str:=by
  have:=aBO sh
  have e2:kvs.map (fun kv=>kV kv.1) = (kvs.map (·.1)).map kV:=by rw [Al];rfl
  rw [e2,this,Al]
  rfl
 refine ⟨_,rfl,_,_,_,_,_,rfl,rfl,.dK hd,gT _ _,_,rfl,bM ?_⟩
 refine ⟨_,rfl,d,kvs,rfl,.inl hd,fun l1 m1=>?_⟩
 rw [ek]
 have S1:=aJ.upd (o:=.lst (zs.map V.str)) m1
 have r1:upd H l1 (.lst (zs.map V.str)) l1 = some (.lst (zs.map V.str)):=aE
 generalize upd H l1 (.lst (zs.map V.str)) = H1 at S1 r1
 refine ⟨_,rfl,ld,rfl,⟨_,SqL.of (S1 _ _ hld)⟩,?_⟩
 refine bG (F:=K) (xs:=us) (by omega) (fun j ys H'=>H1 = H' ∧ ys = (zs.take j).map V.str) ⟨rfl,rfl⟩ ?_ ?_ ?_
 ·rintro j ys H' hj ⟨rfl,rfl⟩
  exact ⟨SqL.of (S1 _ _ hld),by rw [AA,AW];omega⟩
 ·rintro j xv ys H' K1 K2 hx ⟨rfl,rfl⟩ k1 k2
  obtain ⟨z,a,b,ez,rfl,ha,hb⟩:=du.get hx
  refine ⟨a,_,rfl,SqT.of (S1 _ _ ha),rfl,_,_,rfl,_,_,rfl,rfl,_,rfl,k1 _ _ ⟨rfl,?_⟩⟩
  rw [AX,ez,AT]
  rfl
 rintro ys H' ⟨rfl,rfl⟩
 rw [← lu,AF (AN _)]
 intro l2 m2
 have S2:=aJ.upd (o:=.lst (zs.map V.str)) m2
 have r2:upd H1 l2 (.lst (zs.map V.str)) l2 = some (.lst (zs.map V.str)):=aE
 generalize upd H1 l2 (.lst (zs.map V.str)) = H2 at S2 r2
 have T2:=S1.trans S2
 refine ⟨.lst (zs.map Dv.str),.lst (zs.map Dv.str),⟨l1,_,rfl,S2 _ _ r1,IsL.strs _ _⟩,⟨l2,_,rfl,r2,IsL.strs _ _⟩,fA zs,fA zs,?_⟩
 rw [if_pos rfl,show deq (.lst (zs.map Dv.str)) (.lst (zs.map Dv.str)) = true from nM 30 _ (fA zs)]
 refine ⟨_,rfl,bM ?_⟩
 refine ⟨_,rfl,ld,rfl,⟨_,SqL.of (T2 _ _ hld)⟩,?_⟩
 refine bG (F:=K) (xs:=us) (by omega) (fun j ys H'=>aJ H2 H' ∧ ys = []) ⟨aJ.refl _,rfl⟩ ?_ ?_ ?_
 ·rintro j ys H' hj ⟨S',rfl⟩
  exact ⟨SqL.of (S' _ _ (T2 _ _ hld)),BK _⟩
 ·rintro j xv ys H' K1 K2 hx ⟨S',rfl⟩ k1 k2
  obtain ⟨z,a,b,ez,rfl,ha,hb⟩:=du.get hx
  obtain ⟨v,ev,fr⟩:=aNU sh (AM ez)
  have T':=T2.trans S'
  refine ⟨a,_,rfl,SqT.of (T' _ _ ha),rfl,_,_,rfl,_,_,rfl,rfl,?_⟩
  refine ⟨_,rfl,_,rfl,d,v,rfl,.inl ⟨_,Sum.inr z,.inl (T' _ _ hd),rfl,ev.symm⟩,_,rfl,_,_,rfl,_,_,fr.same T',⟨b,rfl,T' _ _ hb⟩,_,rfl,bM (k2 _ ⟨S',rfl⟩)⟩
 rintro ys H' ⟨S',rfl⟩
 intro l3 m3
 have S3:=aJ.upd (o:=.lst []) m3
 have r3:upd H' l3 (.lst []) l3 = some (.lst []):=aE
 generalize upd H' l3 (.lst []) = H3 at S3 r3
 refine ⟨aX rfl,fun l4' m4=>?_⟩
 have S4:=aJ.upd (o:=.lst []) m4
 have r4:upd H3 l4' (.lst []) l4' = some (.lst []):=aE
 generalize upd H3 l4' (.lst []) = H4 at S4 r4
 exact ⟨.lst [],.lst [],⟨l3,_,rfl,S4 _ _ r3,rfl⟩,⟨l4',_,rfl,r4,rfl⟩,rfl,rfl,q _ (T2.trans (S'.trans (S3.trans S4)))⟩
open Mt53 Mt22 MtF Mt31 Mt61 Mt72
theorem rM {T:Addr} {H H':Hp} (k:dQ T H H') {q:Array Value} (e:H T = some (.tbl q)) {G:List Gap} {zs ws:List Str} {us:List V} (h:tI H G zs ws us):tI H' G zs ws us:=by
 have nd:∀ {b:Addr} {xs:List V},H b = some (.tup xs) → H' b = some (.tup xs):=fun {b xs} e'=>k _ _ (fun z=>by rw [z,e] at e';cases e') e'
 exact Paired.mapP h fun _ _ ⟨a,b,e,e1,e2⟩=>⟨a,b,e,nd e1,nd e2⟩
theorem aJG {T d:Addr} {pos:Pos} {qual:Str} {H:Hp} {us vs:List (Key × V)} (x:jX T pos qual H) (h:H d = some (.dK us)):jX T pos qual (upd H d (.dK vs)):=by
 obtain ⟨ps,e,t,r⟩:=x
 refine ⟨ps,by rw [aI (fun z=>by rw [z,h] at e;cases e)];exact e,t,r.imp id fun ⟨c,e1,e2⟩=>⟨c,e1,by rw [aI (fun z=>by rw [z,h] at e2;cases e2)];exact e2⟩⟩
theorem aRA {f:Addr} {fd:Bi} (T:Txt K mg C) {c Tb:Addr} (B:TabB K mg base "lists_of_places" c Tb) (F:Fun K "law" "law" nZ f fd):FnOk P w K mg base CX0 12 f fd ["_law_script"] (zD K Tb):=by
 have G_l_fields:Fc P w K mg base 2 "_law_fields" ["_law_script","_law_most"] (aPS K):=aCI T
 have G_l_dykes:Fc P w K mg base 2 "_law_dykes" ["_law_script","_law_at","_law_most","_law_fields_here"] (aPU K):=aEJ T
 have G_land_pinit:Ic P w K mg base 6 C ["self","fields","dykes"] (aJU C):=wT T
 have G_l_height:Fc P w K mg base 1 "_law_height" ["_law_cell"] aNO:=mY T
 have G_l_mixed:Fc P w K mg base 1 "_law_mixed" ["_law_script","_law_k"] (aNN K):=pA T
 have G_l_wish:Fc P w K mg base 1 "_law_wish" ["_law_cell","_law_fields_here","_law_most"] aJO:=aHX T
 have G_l_due:Fc P w K mg base 8 "_law_due" ["_law_land","_law_wish_here","_law_height_here"] (aPT C):=aLG T
 have G_p_shares:Fc P w K mg base 9 "shares" ["land","fields","height"] (aBG C Tb):=aCC T B
 have G_l_good:Fc P w K mg base 3 "_law_good" ["_law_found","_law_due_here"] aJV:=aHY T
 refine F.ok iB mF (fun cdv A outer s H vs Q E hr h=>?_)
 obtain ⟨x,rfl,a,ns,rfl,hS,hns,eT,q⟩:=h
 have big:=bO
 have hu:=jZ hr
 have scr:Scr K H (.ref a):=⟨a,ns,rfl,hS,hns⟩
 refine ⟨_,(@aG _ _ _ _ _ (@aU _ _ (1) _ _ _ _ iB.nd rfl (Or.inl rfl) (@bH _ _ _ _ _ _ _ _ _ _ G_l_fields (hr.mono (by decide)) (@aA _ _ _ _ _ (pv 0) (@aA _ _ _ _ _ aF aD (by rfl)) (by rfl)) (by rfl) (by decide) (by rfl) (by rfl)) (by rfl) (by trivial)) (@aG _ _ _ _ _ (@aU _ _ (2) _ _ _ _ iB.nd rfl (Or.inl rfl) (@aSY _ _ _ _ _ _ _ _ _ _ _ T.mg_Land G_land_pinit (hr.mono (by decide)) (@aA _ _ _ _ _ (pv 1) (@aA _ _ _ _ _ (@bH _ _ _ _ _ _ _ _ _ _ G_l_dykes (hr.mono (by decide)) (@aA _ _ _ _ _ (pv 0) (@aA _ _ _ _ _ aF (@aA _ _ _ _ _ aF (@aA _ _ _ _ _ (pv 1) aD (by rfl)) (by rfl)) (by rfl)) (by rfl)) (by rfl) (by decide) (by rfl) (by rfl)) aD (by rfl)) (by rfl)) (by rfl) (by decide) (by rfl) (by rfl)) (by rfl) (by trivial)) (@aG _ _ _ _ _ (@aU _ _ (3) _ _ _ _ iB.nd rfl (Or.inl rfl) (@bH _ _ _ _ _ _ _ _ _ _ G_l_wish (hr.mono (by decide)) (@aA _ _ _ _ _ (@bH _ _ _ _ _ _ _ _ _ _ G_l_mixed (hr.mono (by decide)) (@aA _ _ _ _ _ (pv 0) (@aA _ _ _ _ _ aF aD (by rfl)) (by rfl)) (by rfl) (by decide) (by rfl) (by rfl)) (@aA _ _ _ _ _ (pv 1) (@aA _ _ _ _ _ aF aD (by rfl)) (by rfl)) (by rfl)) (by rfl) (by decide) (by rfl) (by rfl)) (by rfl) (by trivial)) (@aG _ _ _ _ _ (@aU _ _ (4) _ _ _ _ iB.nd rfl (Or.inl rfl) (@bH _ _ _ _ _ _ _ _ _ _ G_l_height (hr.mono (by decide)) (@aA _ _ _ _ _ (@aM _ _ _ _ _ _ _ _ bT (@bH _ _ _ _ _ _ _ _ _ _ G_l_mixed (hr.mono (by decide)) (@aA _ _ _ _ _ (pv 0) (@aA _ _ _ _ _ aF aD (by rfl)) (by rfl)) (by rfl) (by decide) (by rfl) (by rfl)) (@aM _ _ _ _ _ _ _ _ gR aF aF)) aD (by rfl)) (by rfl) (by decide) (by rfl) (by rfl)) (by rfl) (by trivial)) (@aG _ _ _ _ _ (@aU _ _ (5) _ _ _ _ iB.nd rfl (Or.inl rfl) (@bH _ _ _ _ _ _ _ _ _ _ G_l_due (hr.mono (by decide)) (@aA _ _ _ _ _ (pv 2) (@aA _ _ _ _ _ (pv 3) (@aA _ _ _ _ _ (pv 4) aD (by rfl)) (by rfl)) (by rfl)) (by rfl) (by decide) (by rfl) (by rfl)) (by rfl) (by trivial)) (@aG _ _ _ _ _ (@aU _ _ (6) _ _ _ _ iB.nd rfl (Or.inl rfl) (@bV _ _ _ _ _ _ _ _ _ (@kI _ (K) rfl) rfl T.n_list dH (@aA _ _ _ _ _ (pv 3) aD (by rfl)) (by decide) (by decide) (by rfl) (by rfl)) (by rfl) (by trivial)) (@aG _ _ _ _ _ (@aU _ _ (7) _ _ _ _ iB.nd rfl (Or.inl rfl) (@bH _ _ _ _ _ _ _ _ _ _ G_p_shares (hr.mono (by decide)) (@aA _ _ _ _ _ (pv 2) (@aA _ _ _ _ _ (pv 6) (@aA _ _ _ _ _ (pv 4) aD (by rfl)) (by rfl)) (by rfl)) (by rfl) (by decide) (by rfl) (by rfl)) (by rfl) (by trivial)) (@aG _ _ _ _ _ (@fE _ _ _ _ _ _ _ _ (@PW.pt _ _ _ (@kU _ _ _ _ _ _ _ (@dJ _ _ _ _ (@dG _ _ _ (@bH _ _ _ _ _ _ _ _ _ _ G_l_good (hr.mono (by decide)) (@aA _ _ _ _ _ (pv 7) (@aA _ _ _ _ _ (pv 5) aD (by rfl)) (by rfl)) (by rfl) (by decide) (by rfl) (by rfl)) (by intro _;rfl))) (@kE _ _ _ _ (@cC _ _ _ _ _ _ _ _ (@aLE _ hr.units) (pv 6) (pv 3) (@bX _ _ (by decide) (by decide)))))) (@aH _ _ _ (@aT _ _ _ _ sG)) cG) (@aG _ _ _ _ _ (@fD _ _ _ _ (@aLB _ _ _ _ _ _ _ _ _ PySem.F.plainAttrs_dict PySem.F.slot_dict_clear PySem.F.type_dict_clear aRB (pv 7) (by rfl) (by rfl)) (by rfl)) (@aH _ _ _ (@aT _ _ _ _ (@bH _ _ _ _ _ _ _ _ _ _ G_l_good (hr.mono (by decide)) (@aA _ _ _ _ _ (@bH _ _ _ _ _ _ _ _ _ _ G_p_shares (hr.mono (by decide)) (@aA _ _ _ _ _ (pv 2) (@aA _ _ _ _ _ (pv 3) (@aA _ _ _ _ _ (pv 4) aD (by rfl)) (by rfl)) (by rfl)) (by rfl) (by decide) (by rfl) (by rfl)) (@aA _ _ _ _ _ (pv 5) aD (by rfl)) (by rfl)) (by rfl) (by decide) (by rfl) (by rfl))))))))))))),?_⟩
 refine aKF fun u0 hu0=>?_
 refine ⟨_,rfl,_,_,rfl,6,scr,rfl,by decide,by decide,fun lf vf fs H1 S1 nlf hf0 hif0 gf=>?_⟩
 refine gσ (σ':=[some (.ref a),some (.ref lf),none,none,none,none,none,none]) rfl ?_
 refine ⟨_,rfl,_,rfl,_,rfl,_,_,_,_,rfl,8,10,lf,vf,fs,6,scr.same S1,rfl,by decide,rfl,by decide,by decide,rfl,hf0,hif0,gf,by decide,fun ld vd ds H2 S2 nld hd0 hid0 gd=>?_⟩
 have okf:=aIK gf (by decide)
 have okd:=aML gd (by decide)
 have f2:=gf.l2
 have d2:=gd.l2
 have smf:eP (.lst fs) = true:=rA (fun d m=>aCV (gf.all d m)) (by omega)
 have smd:eP (.lst ds) = true:=rA (fun d m=>aEZ gf.all (gd.all d m)) (by omega)
 have T2:=S1.trans S2
 have hf2:=S2 _ _ hf0
 have hif2:=IsL.same S2 _ _ hif0
 intro p dx np ndx nex
 have S3':aJ H2 (upd (upd H2 dx (.own p)) p (.ins C dx [])):=fun b o e=>by
  rw [aI (aO e np),aI (aO e ndx)]
  exact e
 refine ⟨_,_,_,rfl,p,dx,fs,ds,rfl,aE,⟨lf,vf,rfl,S3' _ _ hf2,IsL.same S3' _ _ hif2⟩,⟨ld,vd,rfl,S3' _ _ hd0,IsL.same S3' _ _ hid0⟩,smf,smd,okf,okd,fun H3 L3 fr=>⟨rfl,?_⟩⟩
 have Z3:aJ H2 H3:=fun b o e=>fr b o (S3' _ _ e) (aO e np)
 have T3:=T2.trans Z3
 refine gσ (σ':=[some (.ref a),some (.ref lf),some (.ref p),none,none,none,none,none]) rfl ?_
 refine ⟨_,rfl,_,_,rfl,3,scr.same T3,rfl,by decide,fun mw hmw=>?_⟩
 refine ⟨_,rfl,_,_,_,rfl,mw,lf,vf,fs,rfl,hmw,rfl,Z3 _ _ hf2,IsL.same Z3 _ _ hif2,gf,rfl,fun lw zs H4 S4 hw nlw z1 z4 znd zsub=>?_⟩
 refine gσ (σ':=[some (.ref a),some (.ref lf),some (.ref p),some (.ref lw),none,none,none,none]) rfl ?_
 have T4:=T3.trans S4
 have L4:=L3.same S4
 refine ⟨_,rfl,_,_,rfl,4,scr.same T4,rfl,by decide,fun mh hmh=>?_⟩
 refine ⟨_,_,rfl,rfl,⟨by decide,by decide,by decide⟩,_,_,rfl,rfl,⟨by decide,by decide⟩,_,rfl,_,rfl,fun lv hL=>?_⟩
 refine gσ (σ':=[some (.ref a),some (.ref lf),some (.ref p),some (.ref lw),some (.int lv),none,none,none]) rfl ?_
 refine hu0 _ _ _ ?_
 have tab:pG Tb H:=⟨#[],eT,trivial,.inl rfl⟩
 refine ⟨_,rfl,_,rfl,_,rfl,_,_,_,rfl,p,lw,fs,ds,zs,lv,rfl,L4,rfl,hw,z1,z4,znd,zsub,rfl,hL,fun lq us H5 S5 hq du=>?_⟩
 refine gσ (σ':=[some (.ref a),some (.ref lf),some (.ref p),some (.ref lw),some (.int lv),some (.ref lq),none,none]) rfl ?_
 refine ⟨_,rfl,lw,_,rfl,.inl (SqL.of (S5 _ _ hw)),fun lh mh'=>?_⟩
 have S6:=aJ.upd (o:=.lst (zs.map V.str)) mh'
 have r6:upd H5 lh (.lst (zs.map V.str)) lh = some (.lst (zs.map V.str)):=aE
 generalize upd H5 lh (.lst (zs.map V.str)) = H6 at S6 r6
 refine gσ (σ':=[some (.ref a),some (.ref lf),some (.ref p),some (.ref lw),some (.int lv),some (.ref lq),some (.ref lh),none]) rfl ?_
 have T6:=T4.trans (S5.trans S6)
 have tab6:pG Tb H6:=tab.keep T6
 have eT6:=T6 _ _ eT
 have hw6:=(S5.trans S6) _ _ hw
 have du6:=du.same S6
 have hq6:=S6 _ _ hq
 have L6:=L4.same (S5.trans S6)
 have nT:∀ {b:Addr} {xs:List V},H6 b = some (.lst xs) → b ≠ Tb:=fun {b xs} e z=>by rw [z,eT6] at e;cases e
 refine ⟨_,rfl,_,rfl,_,rfl,_,_,_,rfl,p,lh,fs,ds,zs,lv,rfl,L6,rfl,r6,z1,z4,znd,zsub,rfl,hL,tab6,fun d kvs H7 K7 tab7 nd7 hd7 sh7=>?_⟩
 refine gσ (σ':=[some (.ref a),some (.ref lf),some (.ref p),some (.ref lw),some (.int lv),some (.ref lq),some (.ref lh),some (.ref d)]) rfl ?_
 have du7:=rM K7 eT6 du6
 have hq7:=K7 _ _ (nT hq6) hq6
 have hw7:=K7 _ _ (nT hw6) hw6
 have hh7:=K7 _ _ (nT r6) r6
 refine ⟨_,rfl,_,rfl,_,_,rfl,d,lq,kvs,us,_,zs,rfl,hd7,sh7,rfl,hq7,du7,znd,z4,fun H8 S8=>?_⟩
 refine ⟨_,rfl,bM ?_⟩
 refine ⟨_,rfl,_,rfl,.lst (zs.map Dv.str),.lst (zs.map Dv.str),⟨lh,_,rfl,S8 _ _ hh7,IsL.strs _ _⟩,⟨lw,_,rfl,S8 _ _ hw7,IsL.strs _ _⟩,fA zs,fA zs,?_⟩
 rw [if_pos rfl,show deq (.lst (zs.map Dv.str)) (.lst (zs.map Dv.str)) = true from nM 30 _ (fA zs)]
 refine ⟨_,rfl,bM ?_⟩
 have hd8:=S8 _ _ hd7
 refine ⟨_,rfl,.inr (.inr (.inl ⟨rfl,.inl ⟨_,hd8⟩⟩)),d,_,rfl,rfl,hd8,?_⟩
 have K9:dQ Tb H6 (upd H8 d (.dK [])):=fun b o n e=>by rw [aI (aO e nd7)];exact S8 _ _ (K7 b o n e)
 have tab9:pG Tb (upd H8 d (.dK [])):=aJG (tab7.keep S8) hd8
 generalize upd H8 d (.dK []) = H9 at K9 tab9
 obtain ⟨q9,eT9,_⟩:=id tab9
 have hw9:=K9 _ _ (nT hw6) hw6
 have du9:=rM K9 eT6 du6
 have hq9:=K9 _ _ (nT hq6) hq6
 refine ⟨_,rfl,_,rfl,_,rfl,_,_,_,rfl,p,lw,fs,ds,zs,lv,rfl,rB K9 tab6 L6,rfl,hw9,z1,z4,znd,zsub,rfl,hL,tab9,fun d' kvs' H10 K10 tab10 nd10 hd10 sh10=>?_⟩
 have nT9:∀ {b:Addr} {xs:List V},H9 b = some (.lst xs) → b ≠ Tb:=fun {b xs} e z=>by rw [z,eT9] at e;cases e
 exact ⟨_,rfl,_,_,rfl,d',lq,kvs',us,_,zs,rfl,hd10,sh10,rfl,K10 _ _ (nT9 hq9) hq9,rM K10 eT9 du9,znd,z4,fun H11 S11=>q H11⟩
theorem law_mk {fa c Tb:Addr} (hmg:mg "law" = some (.ref fa)) (T:Txt K mg C) :
  ∃ fd:Bi,(∀ (s:Shared) (u:Value),BindsTo s fd ⟨[u],[]⟩ [("_law_script",u)]) ∧ ∀ base:Heap,K.In base → base.Ns AK mg → TabB K mg base "lists_of_places" c Tb → FnOk P w K mg base CX0 12 fa fd ["_law_script"] (zD K Tb):=by
 obtain ⟨f,fd,F,b,m⟩:=T.d_p_law.ex
 rw [hmg] at m
 cases m
 refine ⟨fd,fun s u=>?_,fun base _ _ B=>aRA T B F⟩
 obtain ⟨oc,od,kV,doc,pm,an,cdv,ct,osl,rfl,lk,hcd⟩:=F.ex
 exact .of_eq rfl
end
theorem txt_mk {K:AG} {h:Heap} {mg:Str → Option Value} (X:K.In h) (G:h.Ns AK mg)
    {C:Addr}
    {fm18:Addr} {ocm18 kVm18 docm18 pmm18 cdm18 ctm18:Value} {odm18 anm18:Option Addr} {slm18:Array (Option Value)}
    {fm19:Addr} {ocm19 kVm19 docm19 pmm19 cdm19 ctm19:Value} {odm19 anm19:Option Addr} {slm19:Array (Option Value)}
    {fm20:Addr} {ocm20 kVm20 docm20 pmm20 cdm20 ctm20:Value} {odm20 anm20:Option Addr} {slm20:Array (Option Value)}
    {fm21:Addr} {ocm21 kVm21 docm21 pmm21 cdm21 ctm21:Value} {odm21 anm21:Option Addr} {slm21:Array (Option Value)}
    {fm22:Addr} {ocm22 kVm22 docm22 pmm22 cdm22 ctm22:Value} {odm22 anm22:Option Addr} {slm22:Array (Option Value)}
    {fm23:Addr} {ocm23 kVm23 docm23 pmm23 cdm23 ctm23:Value} {odm23 anm23:Option Addr} {slm23:Array (Option Value)}
    {fm24:Addr} {ocm24 kVm24 docm24 pmm24 cdm24 ctm24:Value} {odm24 anm24:Option Addr} {slm24:Array (Option Value)}
    {fm25:Addr} {ocm25 kVm25 docm25 pmm25 cdm25 ctm25:Value} {odm25 anm25:Option Addr} {slm25:Array (Option Value)}
    {fm26:Addr} {ocm26 kVm26 docm26 pmm26 cdm26 ctm26:Value} {odm26 anm26:Option Addr} {slm26:Array (Option Value)}
    {fm27:Addr} {ocm27 kVm27 docm27 pmm27 cdm27 ctm27:Value} {odm27 anm27:Option Addr} {slm27:Array (Option Value)}
    {f0:Addr} {oc0 kV0 doc0 pm0 cd0 ct0:Value} {od0 an0:Option Addr} {sl0:Array (Option Value)}
    {f1:Addr} {oc1 kV1 doc1 pm1 cd1 ct1:Value} {od1 an1:Option Addr} {sl1:Array (Option Value)}
    {f2:Addr} {oc2 kV2 doc2 pm2 cd2 ct2:Value} {od2 an2:Option Addr} {sl2:Array (Option Value)}
    {f3:Addr} {oc3 kV3 doc3 pm3 cd3 ct3:Value} {od3 an3:Option Addr} {sl3:Array (Option Value)}
    {f4:Addr} {oc4 kV4 doc4 pm4 cd4 ct4:Value} {od4 an4:Option Addr} {sl4:Array (Option Value)}
    {f5:Addr} {oc5 kV5 doc5 pm5 cd5 ct5:Value} {od5 an5:Option Addr} {sl5:Array (Option Value)}
    {f6:Addr} {oc6 kV6 doc6 pm6 cd6 ct6:Value} {od6 an6:Option Addr} {sl6:Array (Option Value)}
    {f7:Addr} {oc7 kV7 doc7 pm7 cd7 ct7:Value} {od7 an7:Option Addr} {sl7:Array (Option Value)}
    {f8:Addr} {oc8 kV8 doc8 pm8 cd8 ct8:Value} {od8 an8:Option Addr} {sl8:Array (Option Value)}
    {f9:Addr} {oc9 kV9 doc9 pm9 cd9 ct9:Value} {od9 an9:Option Addr} {sl9:Array (Option Value)}
    {f10:Addr} {oc10 kV10 doc10 pm10 cd10 ct10:Value} {od10 an10:Option Addr} {sl10:Array (Option Value)}
    {f11:Addr} {oc11 kV11 doc11 pm11 cd11 ct11:Value} {od11 an11:Option Addr} {sl11:Array (Option Value)}
    {f12:Addr} {oc12 kV12 doc12 pm12 cd12 ct12:Value} {od12 an12:Option Addr} {sl12:Array (Option Value)}
    {f13:Addr} {oc13 kV13 doc13 pm13 cd13 ct13:Value} {od13 an13:Option Addr} {sl13:Array (Option Value)}
    {f14:Addr} {oc14 kV14 doc14 pm14 cd14 ct14:Value} {od14 an14:Option Addr} {sl14:Array (Option Value)}
    {f15:Addr} {oc15 kV15 doc15 pm15 cd15 ct15:Value} {od15 an15:Option Addr} {sl15:Array (Option Value)}
    {f16:Addr} {oc16 kV16 doc16 pm16 cd16 ct16:Value} {od16 an16:Option Addr} {sl16:Array (Option Value)}
    {f17:Addr} {oc17 kV17 doc17 pm17 cd17 ct17:Value} {od17 an17:Option Addr} {sl17:Array (Option Value)}
    {f18:Addr} {oc18 kV18 doc18 pm18 cd18 ct18:Value} {od18 an18:Option Addr} {sl18:Array (Option Value)}
    {f19:Addr} {oc19 kV19 doc19 pm19 cd19 ct19:Value} {od19 an19:Option Addr} {sl19:Array (Option Value)}
    {f20:Addr} {oc20 kV20 doc20 pm20 cd20 ct20:Value} {od20 an20:Option Addr} {sl20:Array (Option Value)}
    {f21:Addr} {oc21 kV21 doc21 pm21 cd21 ct21:Value} {od21 an21:Option Addr} {sl21:Array (Option Value)}
    {f22:Addr} {oc22 kV22 doc22 pm22 cd22 ct22:Value} {od22 an22:Option Addr} {sl22:Array (Option Value)}
    {f23:Addr} {oc23 kV23 doc23 pm23 cd23 ct23:Value} {od23 an23:Option Addr} {sl23:Array (Option Value)}
    {f24:Addr} {oc24 kV24 doc24 pm24 cd24 ct24:Value} {od24 an24:Option Addr} {sl24:Array (Option Value)}
    {f25:Addr} {oc25 kV25 doc25 pm25 cd25 ct25:Value} {od25 an25:Option Addr} {sl25:Array (Option Value)}
    {f26:Addr} {oc26 kV26 doc26 pm26 cd26 ct26:Value} {od26 an26:Option Addr} {sl26:Array (Option Value)}
    {f27:Addr} {oc27 kV27 doc27 pm27 cd27 ct27:Value} {od27 an27:Option Addr} {sl27:Array (Option Value)}
    {f28:Addr} {oc28 kV28 doc28 pm28 cd28 ct28:Value} {od28 an28:Option Addr} {sl28:Array (Option Value)}
    {f29:Addr} {oc29 kV29 doc29 pm29 cd29 ct29:Value} {od29 an29:Option Addr} {sl29:Array (Option Value)}
    {f30:Addr} {oc30 kV30 doc30 pm30 cd30 ct30:Value} {od30 an30:Option Addr} {sl30:Array (Option Value)}
    {f31:Addr} {oc31 kV31 doc31 pm31 cd31 ct31:Value} {od31 an31:Option Addr} {sl31:Array (Option Value)}
    {f32:Addr} {oc32 kV32 doc32 pm32 cd32 ct32:Value} {od32 an32:Option Addr} {sl32:Array (Option Value)}
    {f33:Addr} {oc33 kV33 doc33 pm33 cd33 ct33:Value} {od33 an33:Option Addr} {sl33:Array (Option Value)}
    {f34:Addr} {oc34 kV34 doc34 pm34 cd34 ct34:Value} {od34 an34:Option Addr} {sl34:Array (Option Value)}
    {f35:Addr} {oc35 kV35 doc35 pm35 cd35 ct35:Value} {od35 an35:Option Addr} {sl35:Array (Option Value)}
    {f36:Addr} {oc36 kV36 doc36 pm36 cd36 ct36:Value} {od36 an36:Option Addr} {sl36:Array (Option Value)}
    {f37:Addr} {oc37 kV37 doc37 pm37 cd37 ct37:Value} {od37 an37:Option Addr} {sl37:Array (Option Value)}
    {f38:Addr} {oc38 kV38 doc38 pm38 cd38 ct38:Value} {od38 an38:Option Addr} {sl38:Array (Option Value)}
    {f39:Addr} {oc39 kV39 doc39 pm39 cd39 ct39:Value} {od39 an39:Option Addr} {sl39:Array (Option Value)}
    {f40:Addr} {oc40 kV40 doc40 pm40 cd40 ct40:Value} {od40 an40:Option Addr} {sl40:Array (Option Value)}
    {f41:Addr} {oc41 kV41 doc41 pm41 cd41 ct41:Value} {od41 an41:Option Addr} {sl41:Array (Option Value)}
    {f42:Addr} {oc42 kV42 doc42 pm42 cd42 ct42:Value} {od42 an42:Option Addr} {sl42:Array (Option Value)}
    {f43:Addr} {oc43 kV43 doc43 pm43 cd43 ct43:Value} {od43 an43:Option Addr} {sl43:Array (Option Value)}
    {f44:Addr} {oc44 kV44 doc44 pm44 cd44 ct44:Value} {od44 an44:Option Addr} {sl44:Array (Option Value)}
    {f45:Addr} {oc45 kV45 doc45 pm45 cd45 ct45:Value} {od45 an45:Option Addr} {sl45:Array (Option Value)}
    {f46:Addr} {oc46 kV46 doc46 pm46 cd46 ct46:Value} {od46 an46:Option Addr} {sl46:Array (Option Value)}
    {f47:Addr} {oc47 kV47 doc47 pm47 cd47 ct47:Value} {od47 an47:Option Addr} {sl47:Array (Option Value)}
    {f48:Addr} {oc48 kV48 doc48 pm48 cd48 ct48:Value} {od48 an48:Option Addr} {sl48:Array (Option Value)}
    {f49:Addr} {oc49 kV49 doc49 pm49 cd49 ct49:Value} {od49 an49:Option Addr} {sl49:Array (Option Value)}
    {f50:Addr} {oc50 kV50 doc50 pm50 cd50 ct50:Value} {od50 an50:Option Addr} {sl50:Array (Option Value)}
    {f51:Addr} {oc51 kV51 doc51 pm51 cd51 ct51:Value} {od51 an51:Option Addr} {sl51:Array (Option Value)}
    {f52:Addr} {oc52 kV52 doc52 pm52 cd52 ct52:Value} {od52 an52:Option Addr} {sl52:Array (Option Value)}
    {f53:Addr} {oc53 kV53 doc53 pm53 cd53 ct53:Value} {od53 an53:Option Addr} {sl53:Array (Option Value)}
    {f54:Addr} {oc54 kV54 doc54 pm54 cd54 ct54:Value} {od54 an54:Option Addr} {sl54:Array (Option Value)}
    {f55:Addr} {oc55 kV55 doc55 pm55 cd55 ct55:Value} {od55 an55:Option Addr} {sl55:Array (Option Value)}
    {f56:Addr} {oc56 kV56 doc56 pm56 cd56 ct56:Value} {od56 an56:Option Addr} {sl56:Array (Option Value)}
    {u0:Value}
    {u1:Value}
    {u2:Value}
    {u3:Value}
    {u4:Value}
    {u5:Value}
    {u6:Value}
    {u7:Value}
    (aC:AL K AK "Land" = some (some (.ref C))) (pgC:DC K C Str.empty = true) (hdC:DX K C = true) (poC:ER K C = true) (saC:As K (.ref C) "__setattr__" = some (some (.builtin "object.__setattr__"))) (mkC:Dm K C = true) (kpC:AH K (.ref C) = true)
    (n_field_rows:As K (.ref C) "field_rows" = some none)
    (n_dyke_rows:As K (.ref C) "dyke_rows" = some none)
    (iha:As K (.ref C) "__class__" = some (some (.builtin "object.__class__"))) (ihn:DW K (.builtin "object.__class__") "__get__" = some (some (.builtin "getset_descriptor.__get__"))) (iht:Ec K (.builtin "object.__class__") = some true) (ihm:PySem.W.mroIn K C (.type "object") = some true)
    (ma18:As K (.ref C) "__init__" = some (some (.ref fm18))) (mi18:Be K (.ref fm18) = true) (ml18:K.lookup fm18 = some ⟨ocm18,odm18,.func (AO "__init__" "Land.__init__" (aL gO) (aK gO) (aB gO) .none kVm18 docm18 pmm18 anm18 cdm18 ctm18),slm18⟩) (mc18:AJ K cdm18 "Land.__init__" = true) (mk18:AH K (.ref fm18) = true)
    (ma19:As K (.ref C) "fields" = some (some (.ref fm19))) (mi19:Be K (.ref fm19) = true) (ml19:K.lookup fm19 = some ⟨ocm19,odm19,.func (AO "fields" "Land.fields" (aL fY) (aK fY) (aB fY) .none kVm19 docm19 pmm19 anm19 cdm19 ctm19),slm19⟩) (mc19:AJ K cdm19 "Land.fields" = true) (mk19:AH K (.ref fm19) = true)
    (ma20:As K (.ref C) "dykes" = some (some (.ref fm20))) (mi20:Be K (.ref fm20) = true) (ml20:K.lookup fm20 = some ⟨ocm20,odm20,.func (AO "dykes" "Land.dykes" (aL eW) (aK eW) (aB eW) .none kVm20 docm20 pmm20 anm20 cdm20 ctm20),slm20⟩) (mc20:AJ K cdm20 "Land.dykes" = true) (mk20:AH K (.ref fm20) = true)
    (ma21:As K (.ref C) "field_names" = some (some (.ref fm21))) (mi21:Be K (.ref fm21) = true) (ml21:K.lookup fm21 = some ⟨ocm21,odm21,.func (AO "field_names" "Land.field_names" (aL cM) (aK cM) (aB cM) .none kVm21 docm21 pmm21 anm21 cdm21 ctm21),slm21⟩) (mc21:AJ K cdm21 "Land.field_names" = true) (mk21:AH K (.ref fm21) = true)
    (ma22:As K (.ref C) "dyke_names" = some (some (.ref fm22))) (mi22:Be K (.ref fm22) = true) (ml22:K.lookup fm22 = some ⟨ocm22,odm22,.func (AO "dyke_names" "Land.dyke_names" (aL cV) (aK cV) (aB cV) .none kVm22 docm22 pmm22 anm22 cdm22 ctm22),slm22⟩) (mc22:AJ K cdm22 "Land.dyke_names" = true) (mk22:AH K (.ref fm22) = true)
    (ma23:As K (.ref C) "sluices" = some (some (.ref fm23))) (mi23:Be K (.ref fm23) = true) (ml23:K.lookup fm23 = some ⟨ocm23,odm23,.func (AO "sluices" "Land.sluices" (aL fC) (aK fC) (aB fC) .none kVm23 docm23 pmm23 anm23 cdm23 ctm23),slm23⟩) (mc23:AJ K cdm23 "Land.sluices" = true) (mk23:AH K (.ref fm23) = true)
    (ma24:As K (.ref C) "ground" = some (some (.ref fm24))) (mi24:Be K (.ref fm24) = true) (ml24:K.lookup fm24 = some ⟨ocm24,odm24,.func (AO "ground" "Land.ground" (aL eL) (aK eL) (aB eL) .none kVm24 docm24 pmm24 anm24 cdm24 ctm24),slm24⟩) (mc24:AJ K cdm24 "Land.ground" = true) (mk24:AH K (.ref fm24) = true)
    (ma25:As K (.ref C) "dues" = some (some (.ref fm25))) (mi25:Be K (.ref fm25) = true) (ml25:K.lookup fm25 = some ⟨ocm25,odm25,.func (AO "dues" "Land.dues" (aL hV) (aK hV) (aB hV) .none kVm25 docm25 pmm25 anm25 cdm25 ctm25),slm25⟩) (mc25:AJ K cdm25 "Land.dues" = true) (mk25:AH K (.ref fm25) = true)
    (ma26:As K (.ref C) "dyke" = some (some (.ref fm26))) (mi26:Be K (.ref fm26) = true) (ml26:K.lookup fm26 = some ⟨ocm26,odm26,.func (AO "dyke" "Land.dyke" (aL fS) (aK fS) (aB fS) .none kVm26 docm26 pmm26 anm26 cdm26 ctm26),slm26⟩) (mc26:AJ K cdm26 "Land.dyke" = true) (mk26:AH K (.ref fm26) = true)
    (ma27:As K (.ref C) "raised" = some (some (.ref fm27))) (mi27:Be K (.ref fm27) = true) (ml27:K.lookup fm27 = some ⟨ocm27,odm27,.func (AO "raised" "Land.raised" (aL fX) (aK fX) (aB fX) .none kVm27 docm27 pmm27 anm27 cdm27 ctm27),slm27⟩) (mc27:AJ K cdm27 "Land.raised" = true) (mk27:AH K (.ref fm27) = true)
    (a0:AL K AK "_wall" = some (some (.ref f0))) (l0:K.lookup f0 = some ⟨oc0,od0,.func (AO "_wall" "_wall" (aL pN) (aK pN) (aB pN) .none kV0 doc0 pm0 an0 cd0 ct0),sl0⟩) (c0:AJ K cd0 "_wall" = true) (k0:AH K (.ref f0) = true)
    (a1:AL K AK "is_whole" = some (some (.ref f1))) (l1:K.lookup f1 = some ⟨oc1,od1,.func (AO "is_whole" "is_whole" (aL gJ) (aK gJ) (aB gJ) .none kV1 doc1 pm1 an1 cd1 ct1),sl1⟩) (c1:AJ K cd1 "is_whole" = true) (k1:AH K (.ref f1) = true)
    (a2:AL K AK "is_name" = some (some (.ref f2))) (l2:K.lookup f2 = some ⟨oc2,od2,.func (AO "is_name" "is_name" (aL iI) (aK iI) (aB iI) .none kV2 doc2 pm2 an2 cd2 ct2),sl2⟩) (c2:AJ K cd2 "is_name" = true) (k2:AH K (.ref f2) = true)
    (a3:AL K AK "is_height" = some (some (.ref f3))) (l3:K.lookup f3 = some ⟨oc3,od3,.func (AO "is_height" "is_height" (aL fL) (aK fL) (aB fL) .none kV3 doc3 pm3 an3 cd3 ct3),sl3⟩) (c3:AJ K cd3 "is_height" = true) (k3:AH K (.ref f3) = true)
    (a4:AL K AK "is_amount" = some (some (.ref f4))) (l4:K.lookup f4 = some ⟨oc4,od4,.func (AO "is_amount" "is_amount" (aL fM) (aK fM) (aB fM) .none kV4 doc4 pm4 an4 cd4 ct4),sl4⟩) (c4:AJ K cd4 "is_amount" = true) (k4:AH K (.ref f4) = true)
    (a5:AL K AK "is_one_of" = some (some (.ref f5))) (l5:K.lookup f5 = some ⟨oc5,od5,.func (AO "is_one_of" "is_one_of" (aL fK) (aK fK) (aB fK) .none kV5 doc5 pm5 an5 cd5 ct5),sl5⟩) (c5:AJ K cd5 "is_one_of" = true) (k5:AH K (.ref f5) = true)
    (a6:AL K AK "is_list_of" = some (some (.ref f6))) (l6:K.lookup f6 = some ⟨oc6,od6,.func (AO "is_list_of" "is_list_of" (aL eS) (aK eS) (aB eS) .none kV6 doc6 pm6 an6 cd6 ct6),sl6⟩) (c6:AJ K cd6 "is_list_of" = true) (k6:AH K (.ref f6) = true)
    (a7:AL K AK "is_tuple_of" = some (some (.ref f7))) (l7:K.lookup f7 = some ⟨oc7,od7,.func (AO "is_tuple_of" "is_tuple_of" (aL eK) (aK eK) (aB eK) .none kV7 doc7 pm7 an7 cd7 ct7),sl7⟩) (c7:AJ K cd7 "is_tuple_of" = true) (k7:AH K (.ref f7) = true)
    (a8:AL K AK "none_twice" = some (some (.ref f8))) (l8:K.lookup f8 = some ⟨oc8,od8,.func (AO "none_twice" "none_twice" (aL eR) (aK eR) (aB eR) .none kV8 doc8 pm8 an8 cd8 ct8),sl8⟩) (c8:AJ K cd8 "none_twice" = true) (k8:AH K (.ref f8) = true)
    (a9:AL K AK "is_field" = some (some (.ref f9))) (l9:K.lookup f9 = some ⟨oc9,od9,.func (AO "is_field" "is_field" (aL gK) (aK gK) (aB gK) .none kV9 doc9 pm9 an9 cd9 ct9),sl9⟩) (c9:AJ K cd9 "is_field" = true) (k9:AH K (.ref f9) = true)
    (a10:AL K AK "are_fields" = some (some (.ref f10))) (l10:K.lookup f10 = some ⟨oc10,od10,.func (AO "are_fields" "are_fields" (aL eV) (aK eV) (aB eV) .none kV10 doc10 pm10 an10 cd10 ct10),sl10⟩) (c10:AJ K cd10 "are_fields" = true) (k10:AH K (.ref f10) = true)
    (a11:AL K AK "are_sides" = some (some (.ref f11))) (l11:K.lookup f11 = some ⟨oc11,od11,.func (AO "are_sides" "are_sides" (aL fQ) (aK fQ) (aB fQ) .none kV11 doc11 pm11 an11 cd11 ct11),sl11⟩) (c11:AJ K cd11 "are_sides" = true) (k11:AH K (.ref f11) = true)
    (a12:AL K AK "is_sill" = some (some (.ref f12))) (l12:K.lookup f12 = some ⟨oc12,od12,.func (AO "is_sill" "is_sill" (aL iH) (aK iH) (aB iH) .none kV12 doc12 pm12 an12 cd12 ct12),sl12⟩) (c12:AJ K cd12 "is_sill" = true) (k12:AH K (.ref f12) = true)
    (a13:AL K AK "is_dyke" = some (some (.ref f13))) (l13:K.lookup f13 = some ⟨oc13,od13,.func (AO "is_dyke" "is_dyke" (aL iJ) (aK iJ) (aB iJ) .none kV13 doc13 pm13 an13 cd13 ct13),sl13⟩) (c13:AJ K cd13 "is_dyke" = true) (k13:AH K (.ref f13) = true)
    (a14:AL K AK "are_dykes" = some (some (.ref f14))) (l14:K.lookup f14 = some ⟨oc14,od14,.func (AO "are_dykes" "are_dykes" (aL fR) (aK fR) (aB fR) .none kV14 doc14 pm14 an14 cd14 ct14),sl14⟩) (c14:AJ K cd14 "are_dykes" = true) (k14:AH K (.ref f14) = true)
    (a15:AL K AK "is_work" = some (some (.ref f15))) (l15:K.lookup f15 = some ⟨oc15,od15,.func (AO "is_work" "is_work" (aL iG) (aK iG) (aB iG) .none kV15 doc15 pm15 an15 cd15 ct15),sl15⟩) (c15:AJ K cd15 "is_work" = true) (k15:AH K (.ref f15) = true)
    (a16:AL K AK "are_works" = some (some (.ref f16))) (l16:K.lookup f16 = some ⟨oc16,od16,.func (AO "are_works" "are_works" (aL fP) (aK fP) (aB fP) .none kV16 doc16 pm16 an16 cd16 ct16),sl16⟩) (c16:AJ K cd16 "are_works" = true) (k16:AH K (.ref f16) = true)
    (a17:AL K AK "are_some_fields" = some (some (.ref f17))) (l17:K.lookup f17 = some ⟨oc17,od17,.func (AO "are_some_fields" "are_some_fields" (aL cU) (aK cU) (aB cU) .none kV17 doc17 pm17 an17 cd17 ct17),sl17⟩) (c17:AJ K cd17 "are_some_fields" = true) (k17:AH K (.ref f17) = true)
    (a18:AL K AK "spread" = some (some (.ref f18))) (l18:K.lookup f18 = some ⟨oc18,od18,.func (AO "spread" "spread" (aL jD) (aK jD) (aB jD) .none kV18 doc18 pm18 an18 cd18 ct18),sl18⟩) (c18:AJ K cd18 "spread" = true) (k18:AH K (.ref f18) = true)
    (a19:AL K AK "path_to" = some (some (.ref f19))) (l19:K.lookup f19 = some ⟨oc19,od19,.func (AO "path_to" "path_to" (aL iF) (aK iF) (aB iF) .none kV19 doc19 pm19 an19 cd19 ct19),sl19⟩) (c19:AJ K cd19 "path_to" = true) (k19:AH K (.ref f19) = true)
    (a20:AL K AK "check_wish" = some (some (.ref f20))) (l20:K.lookup f20 = some ⟨oc20,od20,.func (AO "check_wish" "check_wish" (aL eU) (aK eU) (aB eU) .none kV20 doc20 pm20 an20 cd20 ct20),sl20⟩) (c20:AJ K cd20 "check_wish" = true) (k20:AH K (.ref f20) = true)
    (a21:AL K AK "coins_to" = some (some (.ref f21))) (l21:K.lookup f21 = some ⟨oc21,od21,.func (AO "coins_to" "coins_to" (aL gM) (aK gM) (aB gM) .none kV21 doc21 pm21 an21 cd21 ct21),sl21⟩) (c21:AJ K cd21 "coins_to" = true) (k21:AH K (.ref f21) = true)
    (a22:AL K AK "coins_of" = some (some (.ref f22))) (l22:K.lookup f22 = some ⟨oc22,od22,.func (AO "coins_of" "coins_of" (aL gN) (aK gN) (aB gN) .none kV22 doc22 pm22 an22 cd22 ct22),sl22⟩) (c22:AJ K cd22 "coins_of" = true) (k22:AH K (.ref f22) = true)
    (a23:AL K AK "is_low" = some (some (.ref f23))) (l23:K.lookup f23 = some ⟨oc23,od23,.func (AO "is_low" "is_low" (aL jF) (aK jF) (aB jF) .none kV23 doc23 pm23 an23 cd23 ct23),sl23⟩) (c23:AJ K cd23 "is_low" = true) (k23:AH K (.ref f23) = true)
    (a24:AL K AK "is_gap" = some (some (.ref f24))) (l24:K.lookup f24 = some ⟨oc24,od24,.func (AO "is_gap" "is_gap" (aL jG) (aK jG) (aB jG) .none kV24 doc24 pm24 an24 cd24 ct24),sl24⟩) (c24:AJ K cd24 "is_gap" = true) (k24:AH K (.ref f24) = true)
    (a25:AL K AK "gap_coins" = some (some (.ref f25))) (l25:K.lookup f25 = some ⟨oc25,od25,.func (AO "gap_coins" "gap_coins" (aL fN) (aK fN) (aB fN) .none kV25 doc25 pm25 an25 cd25 ct25),sl25⟩) (c25:AJ K cd25 "gap_coins" = true) (k25:AH K (.ref f25) = true)
    (a26:AL K AK "steps_over" = some (some (.ref f26))) (l26:K.lookup f26 = some ⟨oc26,od26,.func (AO "steps_over" "steps_over" (aL eQ) (aK eQ) (aB eQ) .none kV26 doc26 pm26 an26 cd26 ct26),sl26⟩) (c26:AJ K cd26 "steps_over" = true) (k26:AH K (.ref f26) = true)
    (a27:AL K AK "room" = some (some (.ref f27))) (l27:K.lookup f27 = some ⟨oc27,od27,.func (AO "room" "room" (aL mK) (aK mK) (aB mK) .none kV27 doc27 pm27 an27 cd27 ct27),sl27⟩) (c27:AJ K cd27 "room" = true) (k27:AH K (.ref f27) = true)
    (a28:AL K AK "reached" = some (some (.ref f28))) (l28:K.lookup f28 = some ⟨oc28,od28,.func (AO "reached" "reached" (aL iE) (aK iE) (aB iE) .none kV28 doc28 pm28 an28 cd28 ct28),sl28⟩) (c28:AJ K cd28 "reached" = true) (k28:AH K (.ref f28) = true)
    (a29:AL K AK "path_with_room" = some (some (.ref f29))) (l29:K.lookup f29 = some ⟨oc29,od29,.func (AO "path_with_room" "path_with_room" (aL dD) (aK dD) (aB dD) .none kV29 doc29 pm29 an29 cd29 ct29),sl29⟩) (c29:AJ K cd29 "path_with_room" = true) (k29:AH K (.ref f29) = true)
    (a30:AL K AK "fullest_stream" = some (some (.ref f30))) (l30:K.lookup f30 = some ⟨oc30,od30,.func (AO "fullest_stream" "fullest_stream" (aL dE) (aK dE) (aB dE) .none kV30 doc30 pm30 an30 cd30 ct30),sl30⟩) (c30:AJ K cd30 "fullest_stream" = true) (k30:AH K (.ref f30) = true)
    (a31:AL K AK "works_round" = some (some (.ref f31))) (l31:K.lookup f31 = some ⟨oc31,od31,.func (AO "works_round" "works_round" (aL eJ) (aK eJ) (aB eJ) .none kV31 doc31 pm31 an31 cd31 ct31),sl31⟩) (c31:AJ K cd31 "works_round" = true) (k31:AH K (.ref f31) = true)
    (a32:AL K AK "fewest" = some (some (.ref f32))) (l32:K.lookup f32 = some ⟨oc32,od32,.func (AO "fewest" "fewest" (aL jH) (aK jH) (aB jH) .none kV32 doc32 pm32 an32 cd32 ct32),sl32⟩) (c32:AJ K cd32 "fewest" = true) (k32:AH K (.ref f32) = true)
    (a33:AL K AK "cost_of_none" = some (some (.ref f33))) (l33:K.lookup f33 = some ⟨oc33,od33,.func (AO "cost_of_none" "cost_of_none" (aL dR) (aK dR) (aB dR) .none kV33 doc33 pm33 an33 cd33 ct33),sl33⟩) (c33:AJ K cd33 "cost_of_none" = true) (k33:AH K (.ref f33) = true)
    (a34:AL K AK "cost" = some (some (.ref f34))) (l34:K.lookup f34 = some ⟨oc34,od34,.func (AO "cost" "cost" (aL mL) (aK mL) (aB mL) .none kV34 doc34 pm34 an34 cd34 ct34),sl34⟩) (c34:AJ K cd34 "cost" = true) (k34:AH K (.ref f34) = true)
    (a35:AL K AK "lists_of_places" = some (some (.ref f35))) (l35:K.lookup f35 = some ⟨oc35,od35,.func (AO "lists_of_places" "lists_of_places" (aL cR) (aK cR) (aB cR) .none kV35 doc35 pm35 an35 cd35 ct35),sl35⟩) (c35:AJ K cd35 "lists_of_places" = true) (k35:AH K (.ref f35) = true)
    (a36:AL K AK "companies" = some (some (.ref f36))) (l36:K.lookup f36 = some ⟨oc36,od36,.func (AO "companies" "companies" (aL fO) (aK fO) (aB fO) .none kV36 doc36 pm36 an36 cd36 ct36),sl36⟩) (c36:AJ K cd36 "companies" = true) (k36:AH K (.ref f36) = true)
    (a37:AL K AK "greatest_divisor" = some (some (.ref f37))) (l37:K.lookup f37 = some ⟨oc37,od37,.func (AO "greatest_divisor" "greatest_divisor" (aL cL) (aK cL) (aB cL) .none kV37 doc37 pm37 an37 cd37 ct37),sl37⟩) (c37:AJ K cd37 "greatest_divisor" = true) (k37:AH K (.ref f37) = true)
    (a38:AL K AK "fraction" = some (some (.ref f38))) (l38:K.lookup f38 = some ⟨oc38,od38,.func (AO "fraction" "fraction" (aL gL) (aK gL) (aB gL) .none kV38 doc38 pm38 an38 cd38 ct38),sl38⟩) (c38:AJ K cd38 "fraction" = true) (k38:AH K (.ref f38) = true)
    (a39:AL K AK "orders_of" = some (some (.ref f39))) (l39:K.lookup f39 = some ⟨oc39,od39,.func (AO "orders_of" "orders_of" (aL fJ) (aK fJ) (aB fJ) .none kV39 doc39 pm39 an39 cd39 ct39),sl39⟩) (c39:AJ K cd39 "orders_of" = true) (k39:AH K (.ref f39) = true)
    (a40:AL K AK "orders_behind" = some (some (.ref f40))) (l40:K.lookup f40 = some ⟨oc40,od40,.func (AO "orders_behind" "orders_behind" (aL dN) (aK dN) (aB dN) .none kV40 doc40 pm40 an40 cd40 ct40),sl40⟩) (c40:AJ K cd40 "orders_behind" = true) (k40:AH K (.ref f40) = true)
    (a41:AL K AK "share_of" = some (some (.ref f41))) (l41:K.lookup f41 = some ⟨oc41,od41,.func (AO "share_of" "share_of" (aL gI) (aK gI) (aB gI) .none kV41 doc41 pm41 an41 cd41 ct41),sl41⟩) (c41:AJ K cd41 "share_of" = true) (k41:AH K (.ref f41) = true)
    (a42:AL K AK "shares" = some (some (.ref f42))) (l42:K.lookup f42 = some ⟨oc42,od42,.func (AO "shares" "shares" (aL jE) (aK jE) (aB jE) .none kV42 doc42 pm42 an42 cd42 ct42),sl42⟩) (c42:AJ K cd42 "shares" = true) (k42:AH K (.ref f42) = true)
    (a43:AL K AK "_law_mixed" = some (some (.ref f43))) (l43:K.lookup f43 = some ⟨oc43,od43,.func (AO "_law_mixed" "_law_mixed" (aL kQ) (aK kQ) (aB kQ) .none kV43 doc43 pm43 an43 cd43 ct43),sl43⟩) (c43:AJ K cd43 "_law_mixed" = true) (k43:AH K (.ref f43) = true)
    (a44:AL K AK "_law_names" = some (some (.ref f44))) (l44:K.lookup f44 = some ⟨oc44,od44,.func (AO "_law_names" "_law_names" (aL kP) (aK kP) (aB kP) .none kV44 doc44 pm44 an44 cd44 ct44),sl44⟩) (c44:AJ K cd44 "_law_names" = true) (k44:AH K (.ref f44) = true)
    (a45:AL K AK "_law_height" = some (some (.ref f45))) (l45:K.lookup f45 = some ⟨oc45,od45,.func (AO "_law_height" "_law_height" (aL jK) (aK jK) (aB jK) .none kV45 doc45 pm45 an45 cd45 ct45),sl45⟩) (c45:AJ K cd45 "_law_height" = true) (k45:AH K (.ref f45) = true)
    (a46:AL K AK "_law_fields" = some (some (.ref f46))) (l46:K.lookup f46 = some ⟨oc46,od46,.func (AO "_law_fields" "_law_fields" (aL jL) (aK jL) (aB jL) .none kV46 doc46 pm46 an46 cd46 ct46),sl46⟩) (c46:AJ K cd46 "_law_fields" = true) (k46:AH K (.ref f46) = true)
    (a47:AL K AK "_law_dykes" = some (some (.ref f47))) (l47:K.lookup f47 = some ⟨oc47,od47,.func (AO "_law_dykes" "_law_dykes" (aL kR) (aK kR) (aB kR) .none kV47 doc47 pm47 an47 cd47 ct47),sl47⟩) (c47:AJ K cd47 "_law_dykes" = true) (k47:AH K (.ref f47) = true)
    (a48:AL K AK "_law_wish" = some (some (.ref f48))) (l48:K.lookup f48 = some ⟨oc48,od48,.func (AO "_law_wish" "_law_wish" (aL mN) (aK mN) (aB mN) .none kV48 doc48 pm48 an48 cd48 ct48),sl48⟩) (c48:AJ K cd48 "_law_wish" = true) (k48:AH K (.ref f48) = true)
    (a49:AL K AK "_law_divisor" = some (some (.ref f49))) (l49:K.lookup f49 = some ⟨oc49,od49,.func (AO "_law_divisor" "_law_divisor" (aL iK) (aK iK) (aB iK) .none kV49 doc49 pm49 an49 cd49 ct49),sl49⟩) (c49:AJ K cd49 "_law_divisor" = true) (k49:AH K (.ref f49) = true)
    (a50:AL K AK "_law_lowest" = some (some (.ref f50))) (l50:K.lookup f50 = some ⟨oc50,od50,.func (AO "_law_lowest" "_law_lowest" (aL jJ) (aK jJ) (aB jJ) .none kV50 doc50 pm50 an50 cd50 ct50),sl50⟩) (c50:AJ K cd50 "_law_lowest" = true) (k50:AH K (.ref f50) = true)
    (a51:AL K AK "_law_whole" = some (some (.ref f51))) (l51:K.lookup f51 = some ⟨oc51,od51,.func (AO "_law_whole" "_law_whole" (aL kO) (aK kO) (aB kO) .none kV51 doc51 pm51 an51 cd51 ct51),sl51⟩) (c51:AJ K cd51 "_law_whole" = true) (k51:AH K (.ref f51) = true)
    (a52:AL K AK "_law_is_share" = some (some (.ref f52))) (l52:K.lookup f52 = some ⟨oc52,od52,.func (AO "_law_is_share" "_law_is_share" (aL gQ) (aK gQ) (aB gQ) .none kV52 doc52 pm52 an52 cd52 ct52),sl52⟩) (c52:AJ K cd52 "_law_is_share" = true) (k52:AH K (.ref f52) = true)
    (a53:AL K AK "_law_orders" = some (some (.ref f53))) (l53:K.lookup f53 = some ⟨oc53,od53,.func (AO "_law_orders" "_law_orders" (aL jI) (aK jI) (aB jI) .none kV53 doc53 pm53 an53 cd53 ct53),sl53⟩) (c53:AJ K cd53 "_law_orders" = true) (k53:AH K (.ref f53) = true)
    (a54:AL K AK "_law_due" = some (some (.ref f54))) (l54:K.lookup f54 = some ⟨oc54,od54,.func (AO "_law_due" "_law_due" (aL pO) (aK pO) (aB pO) .none kV54 doc54 pm54 an54 cd54 ct54),sl54⟩) (c54:AJ K cd54 "_law_due" = true) (k54:AH K (.ref f54) = true)
    (a55:AL K AK "_law_good" = some (some (.ref f55))) (l55:K.lookup f55 = some ⟨oc55,od55,.func (AO "_law_good" "_law_good" (aL mO) (aK mO) (aB mO) .none kV55 doc55 pm55 an55 cd55 ct55),sl55⟩) (c55:AJ K cd55 "_law_good" = true) (k55:AH K (.ref f55) = true)
    (a56:AL K AK "law" = some (some (.ref f56))) (l56:K.lookup f56 = some ⟨oc56,od56,.func (AO "law" "law" (aL nZ) (aK nZ) (aB nZ) .none kV56 doc56 pm56 an56 cd56 ct56),sl56⟩) (c56:AJ K cd56 "law" = true) (k56:AH K (.ref f56) = true)
    (g0:AL K AK "SEA" = some (some u0)) (r0:bI (.str "sea") u0)
    (g1:AL K AK "LETTERS" = some (some u1)) (r1:bI (.str "abcdefghijklmnopqrstuvwxyz") u1)
    (g2:AL K AK "MOST_LETTERS" = some (some u2)) (r2:bI (.int 8) u2)
    (g3:AL K AK "MOST_HEIGHT" = some (some u3)) (r3:bI (.int 1000000) u3)
    (g4:AL K AK "MOST_AMOUNT" = some (some u4)) (r4:bI (.int 1000000) u4)
    (g5:AL K AK "MOST_FIELDS" = some (some u5)) (r5:bI (.int 12) u5)
    (g6:AL K AK "MOST_DYKES" = some (some u6)) (r6:bI (.int 40) u6)
    (g7:AL K AK "MOST_IN_A_WISH" = some (some u7)) (r7:bI (.int 8) u7)
    (z0:AL K AK "abs" = some none)
    (z1:AL K AK "all" = some none)
    (z2:AL K AK "bool" = some none)
    (z3:AL K AK "dict" = some none)
    (z4:AL K AK "int" = some none)
    (z5:AL K AK "isinstance" = some none)
    (z6:AL K AK "len" = some none)
    (z7:AL K AK "list" = some none)
    (z8:AL K AK "max" = some none)
    (z9:AL K AK "min" = some none)
    (z10:AL K AK "range" = some none)
    (z11:AL K AK "reversed" = some none)
    (z12:AL K AK "set" = some none)
    (z13:AL K AK "sorted" = some none)
    (z14:AL K AK "str" = some none)
    (z15:AL K AK "sum" = some none)
    (z16:AL K AK "tuple" = some none)  :Txt K mg C :=
  ⟨⟨pgC,hdC,poC,saC⟩,
   PySem.W.mg_of X G aC,
   n_field_rows,
   n_dyke_rows,
   ⟨iha,ihn,iht,ihm⟩,
   aOT ma18 mi18 ml18 mc18 mk18 mkC kpC (fun _ _ _ _ _ _ us hl=>match us,hl with | [_,_,_],_=>rfl),
   iW ma19 mi19 ml19 mc19 mk19 (fun _ _ _ _ _ _ us hl=>match us,hl with | [_],_=>rfl),
   iW ma20 mi20 ml20 mc20 mk20 (fun _ _ _ _ _ _ us hl=>match us,hl with | [_],_=>rfl),
   iW ma21 mi21 ml21 mc21 mk21 (fun _ _ _ _ _ _ us hl=>match us,hl with | [_],_=>rfl),
   iW ma22 mi22 ml22 mc22 mk22 (fun _ _ _ _ _ _ us hl=>match us,hl with | [_],_=>rfl),
   iW ma23 mi23 ml23 mc23 mk23 (fun _ _ _ _ _ _ us hl=>match us,hl with | [_],_=>rfl),
   iW ma24 mi24 ml24 mc24 mk24 (fun _ _ _ _ _ _ us hl=>match us,hl with | [_,_],_=>rfl),
   iW ma25 mi25 ml25 mc25 mk25 (fun _ _ _ _ _ _ us hl=>match us,hl with | [_,_],_=>rfl),
   iW ma26 mi26 ml26 mc26 mk26 (fun _ _ _ _ _ _ us hl=>match us,hl with | [_,_],_=>rfl),
   iW ma27 mi27 ml27 mc27 mk27 (fun _ _ _ _ _ _ us hl=>match us,hl with | [_,_],_=>rfl),
   bC X G a0 l0 c0 k0 (fun _ _ _ _ _ _ us hl=>match us,hl with | [_],_=>rfl),
   bC X G a1 l1 c1 k1 (fun _ _ _ _ _ _ us hl=>match us,hl with | [_],_=>rfl),
   bC X G a2 l2 c2 k2 (fun _ _ _ _ _ _ us hl=>match us,hl with | [_],_=>rfl),
   bC X G a3 l3 c3 k3 (fun _ _ _ _ _ _ us hl=>match us,hl with | [_],_=>rfl),
   bC X G a4 l4 c4 k4 (fun _ _ _ _ _ _ us hl=>match us,hl with | [_],_=>rfl),
   bC X G a5 l5 c5 k5 (fun _ _ _ _ _ _ us hl=>match us,hl with | [_,_],_=>rfl),
   bC X G a6 l6 c6 k6 (fun _ _ _ _ _ _ us hl=>match us,hl with | [_,_],_=>rfl),
   bC X G a7 l7 c7 k7 (fun _ _ _ _ _ _ us hl=>match us,hl with | [_,_],_=>rfl),
   bC X G a8 l8 c8 k8 (fun _ _ _ _ _ _ us hl=>match us,hl with | [_],_=>rfl),
   bC X G a9 l9 c9 k9 (fun _ _ _ _ _ _ us hl=>match us,hl with | [_],_=>rfl),
   bC X G a10 l10 c10 k10 (fun _ _ _ _ _ _ us hl=>match us,hl with | [_],_=>rfl),
   bC X G a11 l11 c11 k11 (fun _ _ _ _ _ _ us hl=>match us,hl with | [_,_,_],_=>rfl),
   bC X G a12 l12 c12 k12 (fun _ _ _ _ _ _ us hl=>match us,hl with | [_,_],_=>rfl),
   bC X G a13 l13 c13 k13 (fun _ _ _ _ _ _ us hl=>match us,hl with | [_,_],_=>rfl),
   bC X G a14 l14 c14 k14 (fun _ _ _ _ _ _ us hl=>match us,hl with | [_,_],_=>rfl),
   bC X G a15 l15 c15 k15 (fun _ _ _ _ _ _ us hl=>match us,hl with | [_,_],_=>rfl),
   bC X G a16 l16 c16 k16 (fun _ _ _ _ _ _ us hl=>match us,hl with | [_,_],_=>rfl),
   bC X G a17 l17 c17 k17 (fun _ _ _ _ _ _ us hl=>match us,hl with | [_,_],_=>rfl),
   bC X G a18 l18 c18 k18 (fun _ _ _ _ _ _ us hl=>match us,hl with | [_,_],_=>rfl),
   bC X G a19 l19 c19 k19 (fun _ _ _ _ _ _ us hl=>match us,hl with | [_,_],_=>rfl),
   bC X G a20 l20 c20 k20 (fun _ _ _ _ _ _ us hl=>match us,hl with | [_,_,_],_=>rfl),
   bC X G a21 l21 c21 k21 (fun _ _ _ _ _ _ us hl=>match us,hl with | [_,_],_=>rfl),
   bC X G a22 l22 c22 k22 (fun _ _ _ _ _ _ us hl=>match us,hl with | [_,_],_=>rfl),
   bC X G a23 l23 c23 k23 (fun _ _ _ _ _ _ us hl=>match us,hl with | [_,_,_],_=>rfl),
   bC X G a24 l24 c24 k24 (fun _ _ _ _ _ _ us hl=>match us,hl with | [_,_,_],_=>rfl),
   bC X G a25 l25 c25 k25 (fun _ _ _ _ _ _ us hl=>match us,hl with | [_,_],_=>rfl),
   bC X G a26 l26 c26 k26 (fun _ _ _ _ _ _ us hl=>match us,hl with | [_,_],_=>rfl),
   bC X G a27 l27 c27 k27 (fun _ _ _ _ _ _ us hl=>match us,hl with | [_,_,_],_=>rfl),
   bC X G a28 l28 c28 k28 (fun _ _ _ _ _ _ us hl=>match us,hl with | [_,_,_],_=>rfl),
   bC X G a29 l29 c29 k29 (fun _ _ _ _ _ _ us hl=>match us,hl with | [_,_,_,_],_=>rfl),
   bC X G a30 l30 c30 k30 (fun _ _ _ _ _ _ us hl=>match us,hl with | [_,_,_],_=>rfl),
   bC X G a31 l31 c31 k31 (fun _ _ _ _ _ _ us hl=>match us,hl with | [_,_,_,_],_=>rfl),
   bC X G a32 l32 c32 k32 (fun _ _ _ _ _ _ us hl=>match us,hl with | [_,_,_],_=>rfl),
   bC X G a33 l33 c33 k33 (fun _ _ _ _ _ _ us hl=>match us,hl with | [_],_=>rfl),
   bC X G a34 l34 c34 k34 (fun _ _ _ _ _ _ us hl=>match us,hl with | [_,_,_],_=>rfl),
   bC X G a35 l35 c35 k35 (fun _ _ _ _ _ _ us hl=>match us,hl with | [_],_=>rfl),
   bC X G a36 l36 c36 k36 (fun _ _ _ _ _ _ us hl=>match us,hl with | [_,_,_],_=>rfl),
   bC X G a37 l37 c37 k37 (fun _ _ _ _ _ _ us hl=>match us,hl with | [_,_],_=>rfl),
   bC X G a38 l38 c38 k38 (fun _ _ _ _ _ _ us hl=>match us,hl with | [_,_],_=>rfl),
   bC X G a39 l39 c39 k39 (fun _ _ _ _ _ _ us hl=>match us,hl with | [_],_=>rfl),
   bC X G a40 l40 c40 k40 (fun _ _ _ _ _ _ us hl=>match us,hl with | [_,_],_=>rfl),
   bC X G a41 l41 c41 k41 (fun _ _ _ _ _ _ us hl=>match us,hl with | [_,_,_],_=>rfl),
   bC X G a42 l42 c42 k42 (fun _ _ _ _ _ _ us hl=>match us,hl with | [_,_,_],_=>rfl),
   bC X G a43 l43 c43 k43 (fun _ _ _ _ _ _ us hl=>match us,hl with | [_,_],_=>rfl),
   bC X G a44 l44 c44 k44 (fun _ _ _ _ _ _ us hl=>match us,hl with | [_],_=>rfl),
   bC X G a45 l45 c45 k45 (fun _ _ _ _ _ _ us hl=>match us,hl with | [_],_=>rfl),
   bC X G a46 l46 c46 k46 (fun _ _ _ _ _ _ us hl=>match us,hl with | [_,_],_=>rfl),
   bC X G a47 l47 c47 k47 (fun _ _ _ _ _ _ us hl=>match us,hl with | [_,_,_,_],_=>rfl),
   bC X G a48 l48 c48 k48 (fun _ _ _ _ _ _ us hl=>match us,hl with | [_,_,_],_=>rfl),
   bC X G a49 l49 c49 k49 (fun _ _ _ _ _ _ us hl=>match us,hl with | [_,_],_=>rfl),
   bC X G a50 l50 c50 k50 (fun _ _ _ _ _ _ us hl=>match us,hl with | [_,_],_=>rfl),
   bC X G a51 l51 c51 k51 (fun _ _ _ _ _ _ us hl=>match us,hl with | [_],_=>rfl),
   bC X G a52 l52 c52 k52 (fun _ _ _ _ _ _ us hl=>match us,hl with | [_,_],_=>rfl),
   bC X G a53 l53 c53 k53 (fun _ _ _ _ _ _ us hl=>match us,hl with | [_],_=>rfl),
   bC X G a54 l54 c54 k54 (fun _ _ _ _ _ _ us hl=>match us,hl with | [_,_,_],_=>rfl),
   bC X G a55 l55 c55 k55 (fun _ _ _ _ _ _ us hl=>match us,hl with | [_,_],_=>rfl),
   bC X G a56 l56 c56 k56 (fun _ _ _ _ _ _ us hl=>match us,hl with | [_],_=>rfl),
   kA X G g0 r0,
   kA X G g1 r1,
   kA X G g2 r2,
   kA X G g3 r3,
   kA X G g4 r4,
   kA X G g5 r5,
   kA X G g6 r6,
   kA X G g7 r7,
   BE X G z0,
   BE X G z1,
   BE X G z2,
   BE X G z3,
   BE X G z4,
   BE X G z5,
   BE X G z6,
   BE X G z7,
   BE X G z8,
   BE X G z9,
   BE X G z10,
   BE X G z11,
   BE X G z12,
   BE X G z13,
   BE X G z14,
   BE X G z15,
   BE X G z16⟩
end K72
namespace PySem.W.Fast
def tw5220401086789175393 := 0
def tw2493351741334380843 := 0
def tw9743000348059403350 := 0
def tw3197593555226835610 := 0
def tw6743557881226551153 := 0
def tw15892864507732186785 := 0
def tw11711212214128638118 := 0
def tw7649577054687384034 := 0
def tw8703847471866415667 := 0
def tw8249136412126607618 := 0
def tw6893962988556103356 := 0
def tw13012469483333511494 := 0
def tw5458075840072959879 := 0
def tw13453720157609285693 := 0
def tw759027687674782074 := 0
def tw3934658418844713560 := 0
def tw16338936748421762910 := 0
def tw7317650987382183036 := 0
def tw9590197409912754248 := 0
def tw9012151298789828864 := 0
def tw12926062144587462301 := 0
def tw10660813526091891447 := 0
def tw2831062245590730857 := 0
def tw16437814758781081498 := 0
def tw18161714668888171844 := 0
def tw8908291520675310602 := 0
def tw12520665665209188651 := 0
def tw367553171930488355 := 0
def tw16587268959855213553 := 0
def tw16943699405479725184 := 0
def tw8048482306672038174 := 0
def tw10725007601039905191 := 0
def tw13701159458182430074 := 0
def tw6561934172088126806 := 0
def tw8043267656902134676 := 0
def tw14102203517443387179 := 0
def tw7118141225194663582 := 0
def tw10289280523833078179 := 0
def tw9814625742598263866 := 0
def tw17642661773338716890 := 0
def tw9375906962591414046 := 0
def tw17539726733219499219 := 0
def tw4418232862168282221 := 0
def tw13800790991214538171 := 0
def tw10923549289963752322 := 0
def tw16119514284802274873 := 0
def tw11484344779153976255 := 0
def tw9071855972992260438 := 0
def tw17018194928604237006 := 0
def tw6349876805412513944 := 0
def tw10616922957489400498 := 0
def tw11969108566067930820 := 0
def tw4031711354739505399 := 0
def tw11243509132781925320 := 0
def tw17251557456799938587 := 0
def tw4062860290882550478 := 0
def tw7053855879843100221 := 0
def tw15644821609617256702 := 0
def tw17269434708643614576 := 0
def tw18427976535102026294 := 0
def tw6429501594116068204 := 0
def tw14357092271508351474 := 0
def tw17464892518499107194 := 0
def tw14949813892893574462 := 0
def tw14462458376344778663 := 0
def tw4034709651422839085 := 0
def tw8127270476898052774 := 0
def tw11469297164266132867 := 0
def tw3080732818515816648 := 0
def tw10816896435188290574 := 0
def tw16784608822815801614 := 0
def tw6865232406261734053 := 0
def tw1754754880068307121 := 0
def tw4726615417821265415 := 0
def tw6962108064378381047 := 0
def tw3780739794682760601 := 0
def tw16470698487010212532 := 0
def tw6988008912656977927 := 0
def tw12748134326222702391 := 0
def tw966285440470338702 := 0
def tw535026831806100394 := 0
def tw772760895306398819 := 0
def tw11260627742327520242 := 0
def tw1005796126309885453 := 0
def tw5684829414727357816 := 0
def tw891857375457863237 := 0
def tw14909993293666912171 := 0
def tw9453127645093262775 := 0
def tw12549875260279731849 := 0
def tw5505537548501331276 := 0
def tw866105929045389976 := 0
def tw13729073732562102043 := 0
def tw8775732393119477655 := 0
def tw14924691759501559691 := 0
def tw2511044762934128348 := 0
def tw9590569290612484448 := 0
def tw5392627930606358166 := 0
def tw10336734338830067656 := 0
def tw9111990912297246197 := 0
def tw13609376189437450538 := 0
def tw6417718934076035458 := 0
def tw16519825681442176404 := 0
def tw3492055440124010866 := 0
def tw9481078187811652802 := 0
def tw17689755164818853705 := 0
def tw5836677573247989947 := 0
def tw7625075775081254391 := 0
def tw12617181853385702349 := 0
def tw13022183660660442416 := 0
def tw5012983637433559557 := 0
def tw6543780636152886520 := 0
def tw2250718435139412777 := 0
def tw12349952156614437869 := 0
def tw11768821174098165154 := 0
def tw16390455780943677184 := 0
def tw3547165758598552208 := 0
def tw11569183963580872432 := 0
def tw14969480168870476669 := 0
end PySem.W.Fast
open PySem PySem.W PyProof.Rows
set_option maxRecDepth 100000 in
set_option maxHeartbeats 0 in
theorem PySem.Challenge.cw_dykemoot_k72_means_over_all_orders_holds : PySem.Challenge.rw_dykemoot_k72_means_over_all_orders.Holds := by
 w_on; o_law; k_head; (case hw => w_witness2)
 k_fill
 refine L2.walk_lawT (l := PySem.Challenge.rw_dykemoot_k72_means_over_all_orders) 12 "lists_of_places" 378 376 ⟨rfl, by decide, by decide⟩ rfl rfl (fun w h Y => PySem.W.km_in_of Y) (fun w h Y => PySem.W.km_tabs_of Y 376 (by k_mem)) (fun w => by kernel_rfl) (fun w => by kernel_rfl) (fun w => by kernel_rfl) ?F
 case F =>
  intro w mg fa h KX G hmg
  refine' K72.law_mk hmg (K72.txt_mk KX G ?xaC ?xpgC ?xhdC ?xpoC ?xsaC ?xmkC ?xkpC ?xn_field_rows ?xn_dyke_rows ?xiha ?xihn ?xiht ?xihm ?xma18 ?xmi18 ?xml18 ?xmc18 ?xmk18 ?xma19 ?xmi19 ?xml19 ?xmc19 ?xmk19 ?xma20 ?xmi20 ?xml20 ?xmc20 ?xmk20 ?xma21 ?xmi21 ?xml21 ?xmc21 ?xmk21 ?xma22 ?xmi22 ?xml22 ?xmc22 ?xmk22 ?xma23 ?xmi23 ?xml23 ?xmc23 ?xmk23 ?xma24 ?xmi24 ?xml24 ?xmc24 ?xmk24 ?xma25 ?xmi25 ?xml25 ?xmc25 ?xmk25 ?xma26 ?xmi26 ?xml26 ?xmc26 ?xmk26 ?xma27 ?xmi27 ?xml27 ?xmc27 ?xmk27 ?xa0 ?xl0 ?xc0 ?xk0 ?xa1 ?xl1 ?xc1 ?xk1 ?xa2 ?xl2 ?xc2 ?xk2 ?xa3 ?xl3 ?xc3 ?xk3 ?xa4 ?xl4 ?xc4 ?xk4 ?xa5 ?xl5 ?xc5 ?xk5 ?xa6 ?xl6 ?xc6 ?xk6 ?xa7 ?xl7 ?xc7 ?xk7 ?xa8 ?xl8 ?xc8 ?xk8 ?xa9 ?xl9 ?xc9 ?xk9 ?xa10 ?xl10 ?xc10 ?xk10 ?xa11 ?xl11 ?xc11 ?xk11 ?xa12 ?xl12 ?xc12 ?xk12 ?xa13 ?xl13 ?xc13 ?xk13 ?xa14 ?xl14 ?xc14 ?xk14 ?xa15 ?xl15 ?xc15 ?xk15 ?xa16 ?xl16 ?xc16 ?xk16 ?xa17 ?xl17 ?xc17 ?xk17 ?xa18 ?xl18 ?xc18 ?xk18 ?xa19 ?xl19 ?xc19 ?xk19 ?xa20 ?xl20 ?xc20 ?xk20 ?xa21 ?xl21 ?xc21 ?xk21 ?xa22 ?xl22 ?xc22 ?xk22 ?xa23 ?xl23 ?xc23 ?xk23 ?xa24 ?xl24 ?xc24 ?xk24 ?xa25 ?xl25 ?xc25 ?xk25 ?xa26 ?xl26 ?xc26 ?xk26 ?xa27 ?xl27 ?xc27 ?xk27 ?xa28 ?xl28 ?xc28 ?xk28 ?xa29 ?xl29 ?xc29 ?xk29 ?xa30 ?xl30 ?xc30 ?xk30 ?xa31 ?xl31 ?xc31 ?xk31 ?xa32 ?xl32 ?xc32 ?xk32 ?xa33 ?xl33 ?xc33 ?xk33 ?xa34 ?xl34 ?xc34 ?xk34 ?xa35 ?xl35 ?xc35 ?xk35 ?xa36 ?xl36 ?xc36 ?xk36 ?xa37 ?xl37 ?xc37 ?xk37 ?xa38 ?xl38 ?xc38 ?xk38 ?xa39 ?xl39 ?xc39 ?xk39 ?xa40 ?xl40 ?xc40 ?xk40 ?xa41 ?xl41 ?xc41 ?xk41 ?xa42 ?xl42 ?xc42 ?xk42 ?xa43 ?xl43 ?xc43 ?xk43 ?xa44 ?xl44 ?xc44 ?xk44 ?xa45 ?xl45 ?xc45 ?xk45 ?xa46 ?xl46 ?xc46 ?xk46 ?xa47 ?xl47 ?xc47 ?xk47 ?xa48 ?xl48 ?xc48 ?xk48 ?xa49 ?xl49 ?xc49 ?xk49 ?xa50 ?xl50 ?xc50 ?xk50 ?xa51 ?xl51 ?xc51 ?xk51 ?xa52 ?xl52 ?xc52 ?xk52 ?xa53 ?xl53 ?xc53 ?xk53 ?xa54 ?xl54 ?xc54 ?xk54 ?xa55 ?xl55 ?xc55 ?xk55 ?xa56 ?xl56 ?xc56 ?xk56 ?xg0 ?xr0 ?xg1 ?xr1 ?xg2 ?xr2 ?xg3 ?xr3 ?xg4 ?xr4 ?xg5 ?xr5 ?xg6 ?xr6 ?xg7 ?xr7 ?xz0 ?xz1 ?xz2 ?xz3 ?xz4 ?xz5 ?xz6 ?xz7 ?xz8 ?xz9 ?xz10 ?xz11 ?xz12 ?xz13 ?xz14 ?xz15 ?xz16)
  (case xaC => k_is)
  (case xpgC => k_is)
  (case xhdC => k_is)
  (case xpoC => k_is)
  (case xsaC => k_is)
  (case xmkC => k_is)
  (case xkpC => k_is)
  (case xn_field_rows => k_is)
  (case xn_dyke_rows => k_is)
  (case xiha => k_is)
  (case xihn => k_is)
  (case xiht => k_is)
  (case xihm => k_is)
  (case xma18 => k_is)
  (case xmi18 => k_is)
  (case xml18 => k_is)
  (case xmc18 => k_is)
  (case xmk18 => k_is)
  (case xma19 => k_is)
  (case xmi19 => k_is)
  (case xml19 => k_is)
  (case xmc19 => k_is)
  (case xmk19 => k_is)
  (case xma20 => k_is)
  (case xmi20 => k_is)
  (case xml20 => k_is)
  (case xmc20 => k_is)
  (case xmk20 => k_is)
  (case xma21 => k_is)
  (case xmi21 => k_is)
  (case xml21 => k_is)
  (case xmc21 => k_is)
  (case xmk21 => k_is)
  (case xma22 => k_is)
  (case xmi22 => k_is)
  (case xml22 => k_is)
  (case xmc22 => k_is)
  (case xmk22 => k_is)
  (case xma23 => k_is)
  (case xmi23 => k_is)
  (case xml23 => k_is)
  (case xmc23 => k_is)
  (case xmk23 => k_is)
  (case xma24 => k_is)
  (case xmi24 => k_is)
  (case xml24 => k_is)
  (case xmc24 => k_is)
  (case xmk24 => k_is)
  (case xma25 => k_is)
  (case xmi25 => k_is)
  (case xml25 => k_is)
  (case xmc25 => k_is)
  (case xmk25 => k_is)
  (case xma26 => k_is)
  (case xmi26 => k_is)
  (case xml26 => k_is)
  (case xmc26 => k_is)
  (case xmk26 => k_is)
  (case xma27 => k_is)
  (case xmi27 => k_is)
  (case xml27 => k_is)
  (case xmc27 => k_is)
  (case xmk27 => k_is)
  (case xa0 => k_is)
  (case xl0 => k_is)
  (case xc0 => k_is)
  (case xk0 => k_is)
  (case xa1 => k_is)
  (case xl1 => k_is)
  (case xc1 => k_is)
  (case xk1 => k_is)
  (case xa2 => k_is)
  (case xl2 => k_is)
  (case xc2 => k_is)
  (case xk2 => k_is)
  (case xa3 => k_is)
  (case xl3 => k_is)
  (case xc3 => k_is)
  (case xk3 => k_is)
  (case xa4 => k_is)
  (case xl4 => k_is)
  (case xc4 => k_is)
  (case xk4 => k_is)
  (case xa5 => k_is)
  (case xl5 => k_is)
  (case xc5 => k_is)
  (case xk5 => k_is)
  (case xa6 => k_is)
  (case xl6 => k_is)
  (case xc6 => k_is)
  (case xk6 => k_is)
  (case xa7 => k_is)
  (case xl7 => k_is)
  (case xc7 => k_is)
  (case xk7 => k_is)
  (case xa8 => k_is)
  (case xl8 => k_is)
  (case xc8 => k_is)
  (case xk8 => k_is)
  (case xa9 => k_is)
  (case xl9 => k_is)
  (case xc9 => k_is)
  (case xk9 => k_is)
  (case xa10 => k_is)
  (case xl10 => k_is)
  (case xc10 => k_is)
  (case xk10 => k_is)
  (case xa11 => k_is)
  (case xl11 => k_is)
  (case xc11 => k_is)
  (case xk11 => k_is)
  (case xa12 => k_is)
  (case xl12 => k_is)
  (case xc12 => k_is)
  (case xk12 => k_is)
  (case xa13 => k_is)
  (case xl13 => k_is)
  (case xc13 => k_is)
  (case xk13 => k_is)
  (case xa14 => k_is)
  (case xl14 => k_is)
  (case xc14 => k_is)
  (case xk14 => k_is)
  (case xa15 => k_is)
  (case xl15 => k_is)
  (case xc15 => k_is)
  (case xk15 => k_is)
  (case xa16 => k_is)
  (case xl16 => k_is)
  (case xc16 => k_is)
  (case xk16 => k_is)
  (case xa17 => k_is)
  (case xl17 => k_is)
  (case xc17 => k_is)
  (case xk17 => k_is)
  (case xa18 => k_is)
  (case xl18 => k_is)
  (case xc18 => k_is)
  (case xk18 => k_is)
  (case xa19 => k_is)
  (case xl19 => k_is)
  (case xc19 => k_is)
  (case xk19 => k_is)
  (case xa20 => k_is)
  (case xl20 => k_is)
  (case xc20 => k_is)
  (case xk20 => k_is)
  (case xa21 => k_is)
  (case xl21 => k_is)
  (case xc21 => k_is)
  (case xk21 => k_is)
  (case xa22 => k_is)
  (case xl22 => k_is)
  (case xc22 => k_is)
  (case xk22 => k_is)
  (case xa23 => k_is)
  (case xl23 => k_is)
  (case xc23 => k_is)
  (case xk23 => k_is)
  (case xa24 => k_is)
  (case xl24 => k_is)
  (case xc24 => k_is)
  (case xk24 => k_is)
  (case xa25 => k_is)
  (case xl25 => k_is)
  (case xc25 => k_is)
  (case xk25 => k_is)
  (case xa26 => k_is)
  (case xl26 => k_is)
  (case xc26 => k_is)
  (case xk26 => k_is)
  (case xa27 => k_is)
  (case xl27 => k_is)
  (case xc27 => k_is)
  (case xk27 => k_is)
  (case xa28 => k_is)
  (case xl28 => k_is)
  (case xc28 => k_is)
  (case xk28 => k_is)
  (case xa29 => k_is)
  (case xl29 => k_is)
  (case xc29 => k_is)
  (case xk29 => k_is)
  (case xa30 => k_is)
  (case xl30 => k_is)
  (case xc30 => k_is)
  (case xk30 => k_is)
  (case xa31 => k_is)
  (case xl31 => k_is)
  (case xc31 => k_is)
  (case xk31 => k_is)
  (case xa32 => k_is)
  (case xl32 => k_is)
  (case xc32 => k_is)
  (case xk32 => k_is)
  (case xa33 => k_is)
  (case xl33 => k_is)
  (case xc33 => k_is)
  (case xk33 => k_is)
  (case xa34 => k_is)
  (case xl34 => k_is)
  (case xc34 => k_is)
  (case xk34 => k_is)
  (case xa35 => k_is)
  (case xl35 => k_is)
  (case xc35 => k_is)
  (case xk35 => k_is)
  (case xa36 => k_is)
  (case xl36 => k_is)
  (case xc36 => k_is)
  (case xk36 => k_is)
  (case xa37 => k_is)
  (case xl37 => k_is)
  (case xc37 => k_is)
  (case xk37 => k_is)
  (case xa38 => k_is)
  (case xl38 => k_is)
  (case xc38 => k_is)
  (case xk38 => k_is)
  (case xa39 => k_is)
  (case xl39 => k_is)
  (case xc39 => k_is)
  (case xk39 => k_is)
  (case xa40 => k_is)
  (case xl40 => k_is)
  (case xc40 => k_is)
  (case xk40 => k_is)
  (case xa41 => k_is)
  (case xl41 => k_is)
  (case xc41 => k_is)
  (case xk41 => k_is)
  (case xa42 => k_is)
  (case xl42 => k_is)
  (case xc42 => k_is)
  (case xk42 => k_is)
  (case xa43 => k_is)
  (case xl43 => k_is)
  (case xc43 => k_is)
  (case xk43 => k_is)
  (case xa44 => k_is)
  (case xl44 => k_is)
  (case xc44 => k_is)
  (case xk44 => k_is)
  (case xa45 => k_is)
  (case xl45 => k_is)
  (case xc45 => k_is)
  (case xk45 => k_is)
  (case xa46 => k_is)
  (case xl46 => k_is)
  (case xc46 => k_is)
  (case xk46 => k_is)
  (case xa47 => k_is)
  (case xl47 => k_is)
  (case xc47 => k_is)
  (case xk47 => k_is)
  (case xa48 => k_is)
  (case xl48 => k_is)
  (case xc48 => k_is)
  (case xk48 => k_is)
  (case xa49 => k_is)
  (case xl49 => k_is)
  (case xc49 => k_is)
  (case xk49 => k_is)
  (case xa50 => k_is)
  (case xl50 => k_is)
  (case xc50 => k_is)
  (case xk50 => k_is)
  (case xa51 => k_is)
  (case xl51 => k_is)
  (case xc51 => k_is)
  (case xk51 => k_is)
  (case xa52 => k_is)
  (case xl52 => k_is)
  (case xc52 => k_is)
  (case xk52 => k_is)
  (case xa53 => k_is)
  (case xl53 => k_is)
  (case xc53 => k_is)
  (case xk53 => k_is)
  (case xa54 => k_is)
  (case xl54 => k_is)
  (case xc54 => k_is)
  (case xk54 => k_is)
  (case xa55 => k_is)
  (case xl55 => k_is)
  (case xc55 => k_is)
  (case xk55 => k_is)
  (case xa56 => k_is)
  (case xl56 => k_is)
  (case xc56 => k_is)
  (case xk56 => k_is)
  (case xg0 => k_is)
  (case xr0 => exact ⟨_, rfl⟩)
  (case xg1 => k_is)
  (case xr1 => exact ⟨_, rfl⟩)
  (case xg2 => k_is)
  (case xr2 => exact ⟨_, rfl⟩)
  (case xg3 => k_is)
  (case xr3 => exact ⟨_, rfl⟩)
  (case xg4 => k_is)
  (case xr4 => exact ⟨_, rfl⟩)
  (case xg5 => k_is)
  (case xr5 => exact ⟨_, rfl⟩)
  (case xg6 => k_is)
  (case xr6 => exact ⟨_, rfl⟩)
  (case xg7 => k_is)
  (case xr7 => exact ⟨_, rfl⟩)
  (case xz0 => k_is)
  (case xz1 => k_is)
  (case xz2 => k_is)
  (case xz3 => k_is)
  (case xz4 => k_is)
  (case xz5 => k_is)
  (case xz6 => k_is)
  (case xz7 => k_is)
  (case xz8 => k_is)
  (case xz9 => k_is)
  (case xz10 => k_is)
  (case xz11 => k_is)
  (case xz12 => k_is)
  (case xz13 => k_is)
  (case xz14 => k_is)
  (case xz15 => k_is)
  (case xz16 => k_is)
