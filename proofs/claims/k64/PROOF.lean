import PyProof.Rows.All
import Wide.All
import OpenK.AllK
import Wide.FinOn
import Lean
import PyProof.EqAt
import PyProof.EqKinds
import PyProof.TupleCall
import PyProof.StrBlockI
import PyProof.SliceList
import PyProof.StrLawsIn
import PyProof.StrLaws
import PyProof.StrBlockG
import PyProof.StrLawsTight
import PyProof.StrLawsChain
import PySem.Challenge.RW_dykemoot_k64_whole_together_never_more
open List renaming length_map→AA,getElem?_eq_getElem→AD,getElem?_eq_some_iff→AE,take_of_length_le→AI,size_toArray→AQ,getElem?_map→AR,mem_of_getElem?→AS,mem_map→AT,mem_singleton→AU,mem_cons_of_mem→AV,map_append→AW,mem_cons_self→AY,length_take→AZ,getD_eq_getElem?_getD→Aa,map_cons→Ac,mem_cons→Af,length_append→Ag,take_add_one→Ai,mem_append_right→Aj,mem_append→Ak,length_cons→Am,nodup_cons→Aq,mem_filter→Ar,map_map→At,Nodup→Au,range→Az,length_filter_le→BC,mem_iff_getElem?→BI,lookup_cons→BL,all_eq_true→BS,not_mem_nil→Bc,getElem?_append_left→Bf,getElem?_take_of_lt→Bt,find?_cons→Bw,mem_append_left→CA,length_drop→CB,append_assoc→CH,length→CI,length_singleton→CL,lookup→Ca,pairwise_cons→Cb,getElem?_append_right→Cc,append_nil→Ch,map_nil→Ci,map_congr_left→Cn,filter_sublist→Co,getElem_mem→Cp,drop_eq_nil_of_le→Cu,nodup_append→DD,nodup_iff_pairwise_ne→DF,toArray→DH,getElem_of_mem→DL,Pairwise→DO,filter_append→DR,pairwise_singleton→DT,Perm→DU,getElem_inj→Dc,length_nil→Dj,length_reverse→Dn,filterMap_cons→Do,mem_range→EA,drop_eq_getElem_cons→EC,take_sublist→ED,length_range→EE,any_cons→EG,all_cons→EH,nil_lt_cons→ER,getElem_map→ES,filter_cons_of_pos→ET,filter_cons_of_neg→EU,filter_cons→EV,any_eq_true→EW,pairwise_lt_range→Ea,all_map→Eb,Sublist→Ec,range_succ→Ei,of_mem_zip→Ej,nil_append→Ek,getElem?_eq_none→En,mem_of_mem_take→Es,getElem?_set_ne→Et,drop_zero→Eu,map_take→FK,getElem?_drop→FM,flatMap_cons→FS,forIn_cons→Fe
open PySem renaming wpAny_bind→AB,wpAny_pure→AF,mainGlobals→AJ,SetTable→Al,sizeLine→An,starEach→As,NameKind→Ax,wpAny_mono→BJ,bootBuiltins→BN,compareOp→Be,codeAny_builtin→Bk,wpAny_newObj_type→Bm,wpAny_loadPart'→Br,wpAny_truthy_bool→Bu,sizeLine_eq→Bv,wpAny_holding→By,FuncData→Bz,wpAny_call_entry→CG,plainId_quiet→CJ,scanBound→CK,PassesOwn→CQ,wpAny_callSpecial?_slot→CZ,codeAny_mono→Ce,wpAny_Call_Name_kw→Cg,wpAny_setState_of→Cl,wpAny_setField→Cv,wpAny_typeNameOfWhole_keyiter→Cw,keywordEach→Cy,wpAny_passesOwn→DE,wpAny_pyIter_list→DG,mem_of_lookup→DI,sysModules→DM,wpAny_askSetting→DP,pickOrder→DQ,wpAny_setEntries_of→DS,wpAny_typeNameOf_keyiter→DV,wpAny_attempt→DW,wpAny_getItem_str_slice→Db,wpAny_fieldsOf→Dd,firstArgMember→De,wpAny_rule→Dl,wpAny_isInstance→Dm,attributeBase→Dq,sliceBounds→Dr,backToKw→Dt,wpAny_updateSeq→EB,Arguments→EJ,tupleKind_room_in1→EK,binaryOp→EL,behindInMarks→Ed,GenState→Ep,wpAny_typeOf→Ew,assignEach→Ex,wpAny_specialOf→FA,wpAny_ite_split→FB,wpAny_execs_nil→FC,post_val_or_str→FD,letOwnedTupleGo→FE,builtinLookup_eq_fast→FF,wpAny_seqItems→FN,bindArgs→FO,Within→FP,getMethod→FR,DictEntry→FT,wpAny_call→Fa,closureFor→Fb,wpAny_pyIter_slot→Ff,wpAny_dictEntries→Fg,foldedSetIterable→Fh,wpAny_of_eq→Fk,subscripted→Fm,wpAny_dictEpoch→Fn,typeLookup_type→Fo,codeAny_of_tree→Fp,wpAny_runValue→Fq,isSubtype_type→Fs,isSubtype_stop→Ft
open PySem.Heap renaming get?_push_of_some→AC,get?_push_size→AN,lt_size→AX,get?_update_other→Av,get?_update_self→BO,SameBut→BP,size_push→CO,size_update→FZ
open PySem.W renaming Frag→AG,keepIn→AH,codeIn→AK,nsIn→AM,fnOf→AO,findIn→Ap,mg_none_of→BD,isFn→Bn,kia_one→Bs,emptyDict→CC,kitOne→CN,instObj→Cf,plainGet→DZ,specialIn→Dy,hasDictIn→Dz,cellsFrom_some→EN,makesIn→EO,lookIn→Ee,plainGet_of→Eo,callWith_K→Ey,plainOver→FI,methodObj→FJ,takesIn→FV,takerIn→FW
open Nat renaming le_refl→AL,ne_of_lt→Ad,lt_of_lt_of_le→Ah,le_trans→BB,zero_le→BG,le_succ→CS,pow_le_pow_right→Cj,lt_succ_of_lt→Ck,lt_succ_self→Cr,lt_irrefl→DB,lt_trans→DJ,ne_of_gt→Du,le_of_lt→Dw,not_lt→Ef,lt_or_ge→Eg,le_of_eq→Eh,min_eq_left→Em,sub_self→FX,add_le_add→Fi
open Bool renaming false_ne_true→Ab,and_eq_true→Ae,and_eq_true_iff→BF,true_and→BX,false_eq_true→Bh,eq_iff_iff→Bp,false_and→Ev
open PySem.Value renaming ref→Ao,none→BW,type→Bx,int→EM,bool→FH
open PySem.NameKind renaming free→Aw,cell→CT
open Option renaming map_eq_some_iff→Ay,some→Bd,map_some→DN,isSome_map→FL
open Array renaming length_toList→BA,getElem?_eq_getElem→Bq,getElem?_toList→Cd,getElem?_eq_none→EZ,size_push→Fd
open PySem.F renaming called_set→BE,plainAttrs_list→BZ,type_list_append→Bi,slot_list_append→Bj,slot_dict_keyiterator_next→CY,slot_list_getattribute→EY
open Option.some renaming inj→BH
open PySem.Obj renaming mapSeq→BK,data_mapFields→Bo,isFreed_of_fields→DC,mapFields→Dh,cls_mapFields→EF,putSet→FQ
open Int renaming emod_lt_of_pos→BM,eq_ofNat_of_zero_le→BQ,emod_nonneg→BU,toNat_natCast→Bl,toNat→DK,zero_add→Da,le_refl→EI,mul_nonneg→Fj
open PySem.PassesOwn renaming never→BR
open PySem.Around renaming under_plainId→BT
open PyProof.Rows.F renaming plain_set_update_loop→BV,entry_set_update_loop→CM
open PySem.SetTable renaming below→BY,grown→DA,probe→Di,sizeAbove→Er
open PySem.SeqAt renaming EqAt→Ba
open False renaming elim→Bb
open PySem.Heap.SameBut renaming update→Bg
open ForInStep renaming yield→CF
open PySem.Builtin.List renaming listExtendWith→CP,listLengthHint→Cs,listSameRef→Dk
open List.Nodup renaming sublist→CU
open PyProof.Rows renaming callWith_type1→Cq,get?_update_seq→DX,listUpdate_at→FY
open True renaming intro→Ct
open PySem.Txt renaming slice→Cz,slice_le→FU
open PySem.Str renaming ofString→DY
open PySem.SetTable.probe renaming go→Df
open PySem.SetTable.below renaming go→Dg
open Classical renaming byContradiction→Dp
open Sum.inr renaming inj→Dx
open PySem.Paired renaming nil→EQ,cons→El,length→Ez
open List.Perm renaming refl→EX
open PySem.Walks renaming list→FG
set_option Elab.async false
set_option linter.all false
set_option maxRecDepth 100000
namespace L2
open PySem PySem.Spec PyProof.Rows
abbrev Key:=Sum Int Str
def tD:Key → Value → Bool
 | .inl k,v=>Value.isInt k v
 | .inr x,v=>Value.isStrOf x v
def aTM (w:World):Key → Int
 | .inl k=>hashInt k
 | .inr x=>hashStr w x
theorem bZ:∀ {k:Key} {v:Value},tD k v = true → (∃ i t,k = Sum.inl i ∧ v = EM i t) ∨ (∃ x t,k = Sum.inr x ∧ v = Value.str x t)
 | .inl i,v,h=>by
  obtain ⟨t,e⟩:=Value.isInt_shape (k:=i) (v:=v) h
  exact .inl ⟨i,t,rfl,e⟩
 | .inr x,v,h=>by
  obtain ⟨t,e⟩:=Value.isStrOf_shape (x:=x) (v:=v) h
  exact .inr ⟨x,t,rfl,e⟩
theorem rV (i:Int) (t:Tok):tD (.inl i) (.int i t) = true:=by simp [tD,Value.isInt]
theorem rT (x:Str) (t:Tok):tD (.inr x) (.str x t) = true:=by simp [tD,Value.isStrOf]
theorem aQT (a b:Int):decide ((Sum.inl a:Key) = Sum.inl b) = (a == b):=by
 by_cases e:a = b
 ·subst e;simp
 ·have h:¬ (Sum.inl a:Key) = Sum.inl b:=fun q=>e (Sum.inl.inj q)
  rw [decide_eq_false h]
  exact (beq_eq_false_iff_ne.mpr e).symm
theorem aQP (a b:Str):decide ((Sum.inr a:Key) = Sum.inr b) = decide (a = b):=by
 by_cases e:a = b
 ·subst e;simp
 ·have h:¬ (Sum.inr a:Key) = Sum.inr b:=fun q=>e (Dx q)
  rw [decide_eq_false h,decide_eq_false e]
theorem aQS (a:Int) (b:Str):decide ((Sum.inl a:Key) = Sum.inr b) = false:=decide_eq_false (fun q=>nomatch q)
theorem aQQ (a:Str) (b:Int):decide ((Sum.inr a:Key) = Sum.inl b) = false:=decide_eq_false (fun q=>nomatch q)
def aN (prog:Program) (w:World):PySem.KeyKind prog w Key where
 is:=tD
 hash:=aTM w
 inj:=fun v a b ha hb=>by
  rcases bZ ha with ⟨i,t,rfl,rfl⟩ | ⟨x,t,rfl,rfl⟩
  ·rcases bZ hb with ⟨j,u,rfl,e⟩ | ⟨y,u,rfl,e⟩
   ·injection e with e1 _;rw [e1]
   ·exact nomatch e
  ·rcases bZ hb with ⟨j,u,rfl,e⟩ | ⟨y,u,rfl,e⟩
   ·exact nomatch e
   ·injection e with e1 _;rw [e1]
 byValue:=fun k v h=>by
  rcases bZ h with ⟨i,t,rfl,rfl⟩ | ⟨x,t,rfl,rfl⟩ <;> rfl
 pyHash:=fun hv h=>by
  rcases bZ hv with ⟨i,t,rfl,rfl⟩ | ⟨x,t,rfl,rfl⟩
  ·exact wpAny_pyHash_int h
  ·exact wpAny_pyHash_str h
 eqBool:=fun hu hv h=>by
  rcases bZ hu with ⟨i,t,rfl,rfl⟩ | ⟨x,t,rfl,rfl⟩
  ·rcases bZ hv with ⟨j,u,rfl,rfl⟩ | ⟨y,u,rfl,rfl⟩
   ·rw [aQT] at h;exact wpAny_eqBool_int h
   ·rw [aQS] at h;exact Ba.int_str i t y u _ _ _ _ h
  ·rcases bZ hv with ⟨j,u,rfl,rfl⟩ | ⟨y,u,rfl,rfl⟩
   ·rw [aQQ] at h;exact Ba.str_int x t j u _ _ _ _ h
   ·rw [aQP] at h;exact wpAny_eqBool_str h
 «strs»:=fun k x t v h=>by
  rcases bZ h with ⟨i,u,rfl,e⟩ | ⟨y,u,rfl,e⟩
  ·exact nomatch e
  ·injection e with e1 _
   subst e1
   cases v <;> rfl
theorem aCX (prog:Program) (w:World) (i:Int) (t:Tok):(aN prog w).is (.inl i) (.int i t) = true:=rV i t
theorem aCW (prog:Program) (w:World) (x:Str) (t:Tok):(aN prog w).is (.inr x) (.str x t) = true:=rT x t
end L2
namespace L2
open PySem PySem.Spec PyProof.Rows
inductive V where
 | non | bl (b:Bool) | int (i:Int) | str (x:Str) | byt (b:Array UInt8) | flt (b:UInt64) | ref (a:Addr) | ty (n:String)
 deriving DecidableEq
def bG:V → Value → Prop
 | .non,u=>u = BW
 | .bl b,u=>u = FH b
 | .int i,u=>∃ t,u = EM i t
 | .str x,u=>∃ t,u = Value.str x t
 | .byt b,u=>∃ t,u = Value.bytes b t
 | .flt b,u=>∃ t,u = Value.float b t
 | .ref a,u=>u = Ao a
 | .ty n,u=>u = Bx n
abbrev bC:List V → List Value → Prop:=Paired bG
theorem bC.length {xs:List V} {us:List Value} (r:bC xs us):xs.length = us.length:=Ez r
theorem bC.get:∀ {xs:List V} {us:List Value} {i:Nat} {x:V},bC xs us → xs[i]? = some x → ∃ u,us[i]? = some u ∧ bG x u
 | _,_,_,_,.nil,e=>by simp at e
 | _,_,0,_,.cons r _,e=>by simp at e;subst e;exact ⟨_,rfl,r⟩
 | _,_,i + 1,x,.cons _ t,e=>by
  obtain ⟨u,h1,h2⟩:=bC.get (i:=i) (x:=x) t (by simpa using e)
  exact ⟨u,by simpa using h1,h2⟩
theorem bC.append:∀ {xs ys:List V} {us ws:List Value},bC xs us → bC ys ws → bC (xs ++ ys) (us ++ ws)
 | _,_,_,_,.nil,s=>s
 | _,_,_,_,.cons r t,s=>.cons r (bC.append t s)
theorem bC.take:∀ {xs:List V} {us:List Value} (n:Nat),bC xs us → bC (xs.take n) (us.take n)
 | _,_,0,_=>.nil
 | _,_,_ + 1,.nil=>.nil
 | _,_,n + 1,.cons r t=>.cons r (bC.take n t)
theorem bC.drop:∀ {xs:List V} {us:List Value} (n:Nat),bC xs us → bC (xs.drop n) (us.drop n)
 | _,_,0,r=>r
 | _,_,_ + 1,.nil=>.nil
 | _,_,n + 1,.cons _ t=>bC.drop n t
def oX:Option V → Option Value → Prop
 | some v,some u=>bG v u
 | none,none=>True
 | _,_=>False
def KV {κ:Type}:List (κ × V) → List (κ × Value) → Prop:=Paired fun (p:κ × V) (q:κ × Value)=>p.1 = q.1 ∧ bG p.2 q.2
def kV:Key → V
 | .inl i=>.int i
 | .inr x=>.str x
inductive HO where
 /-- a list -/
 | lst (xs:List V)
 /-- a tuple (never changes) -/
 | tup (xs:List V)
 /-- a dict whose keys are ints and texts;one whose keys are tuples of ints and texts (the empty one is both) -/
 | dK (kvs:List (Key × V)) | dT (kvs:List (List Key × V))
 /-- a set of ints: its members,its size -/
 | set (S:Int → Bool) (n:Nat)
 /-- an instance of the class at C,its dict at dx,its attributes -/
 | ins (C dx:Addr) (fs:List (Str × V))
 /-- the dict of the instance at x -/
 | own (x:Addr)
 /-- the dict of an exception -/
 | xd (fs:List (Str × V))
 /-- a bound method,f of x -/
 | met (f x:Addr)
 /-- a range object lo,lo + 1,.. below hi -/
 | rng (lo hi:Int)
 /-- a thing that is known to the object (the script;a dict while a loop walks it): read,never written while it is so -/
 | frz (o:Obj) (u:HO)
 /-- a code object's table -/
 | tbl (ps:Array Value)
 /-- any other thing,by what is true of its one object (a def of one's own: aJB a S n:=HO.ext fun h=>..) -/
 | ext (φ:Heap → Prop)
abbrev Hp:=Addr → Option HO
def upd (H:Hp) (a:Addr) (o:HO):Hp:=fun b=>if b = a then some o else H b
theorem aD {H:Hp} {a:Addr} {o:HO}:upd H a o a = some o:=by unfold upd;rw [if_pos rfl]
theorem aK {H:Hp} {a b:Addr} {o:HO} (h:b ≠ a):upd H a o b = H b:=by unfold upd;rw [if_neg h]
theorem yM {H:Hp} {a b:Addr} {o u:HO} (h:H a = some o) (h':H b = some u) (d:o ≠ u):a ≠ b:=by
 intro e;subst e;rw [h] at h';exact d (BH h')
theorem aT {H:Hp} {a b:Addr} {o:HO} (h:H a = some o) (h':H b = none):a ≠ b:=by
 intro e;subst e;rw [h] at h';cases h'
def sK (h:Heap) (a:Addr) (its:Array Value):Prop:=∃ o,h.get? a = some o ∧ o.cls = .type "tuple" ∧ ∃ n,o.data = .seq its n ∧ o.dict = none
theorem sK.tup {h:Heap} {a:Addr} {its:Array Value} (x:sK h a its):IsTup h a its:=by
 obtain ⟨o,e,c,n,d,_⟩:=x
 exact ⟨o,e,c,n,d⟩
theorem sK.new (h:Heap) (its:Array Value):sK (h.push { cls:=.type "tuple",data:=.seq its }) h.objs.size its:=⟨_,AN _ rfl,rfl,_,rfl,rfl⟩
section
variable (P:Program) (w:World)
def bL (H:Hp) (h:Heap) (a:Addr):HO → Prop
 | .lst xs=>xs.length ≤ An ∧ ∃ (its:List Value) (n:Nat),bC xs its ∧ h.get? a = some { cls:=.type "list",data:=.seq its.toArray n }
 | .tup xs=>xs.length ≤ An ∧ ∃ its:List Value,bC xs its ∧ sK h a its.toArray
 | .dK kvs=>kvs.length ≤ An ∧ (a == DM) = false ∧ ∃ vs,KV kvs vs ∧ h.DictOf (aN P w) a vs
 | .dT kvs=>kvs.length ≤ An ∧ (a == DM) = false ∧ ∃ xs:List (List Key × Addr × Value),
   Paired (fun (p:List Key × V) (q:List Key × Addr × Value)=>p.1 = q.1 ∧ H q.2.1 = some (.tup (p.1.map kV)) ∧ bG p.2 q.2.2) kvs xs ∧
   ∃ o es ep,h.get? a = some o ∧ o.ExactDict ∧ o.data = .dict es ep ∧ es.toList = xs.map (entryOfKey (tupleKind (aN P w))) ∧ (xs.map (·.1)).Nodup
 | .set S n=>h.SetOf (intKind P w) a S n
 | .ins C dx fs=>H dx = some (.own a) ∧ fs.length ≤ 1000 ∧ dx ≠ a ∧ h.get? a = some (Cf C dx) ∧
   ∃ mA,h.Ns1 dx mA ∧ (∀ f,oX (fs.lookup f) (mA f)) ∧ FP mA (fs.map (·.1))
 | .own _=>∃ o,h.get? a = some o
 | .xd fs=>∃ mA,h.Ns1 a mA ∧ ∀ f,oX (fs.lookup f) (mA f)
 | .rng lo hi=>∃ t u v,h.get? a = some { cls:=.type "range",data:=.fields #[.int lo t,.int hi u,.int 1 v] }
 | .frz o u=>h.get? a = some o ∧ bL H h a u
 | .tbl ps=>h.get? a = some { cls:=.none,data:=.fields ps }
 | .met f x=>h.get? a = some (FJ (.ref f) (.ref x))
 | .ext φ=>φ h ∧ (∃ o,h.get? a = some o) ∧ ∀ h1 h2:Heap,φ h1 → (∀ o,h1.get? a = some o → h2.get? a = some o) → φ h2
def HOk (H:Hp) (h:Heap):Prop:=∀ a o,H a = some o → bL P w H h a o
end
section
variable {P:Program} {w:World} {H H':Hp} {h h':Heap} {a:Addr} {o:HO}
theorem bL.lt (x:bL P w H h a o):a < h.objs.size:=by
 cases o with
 | lst xs=>obtain ⟨_,_,_,_,e⟩:=x;exact AX e
 | tup xs=>obtain ⟨_,_,_,_,e,_⟩:=x;exact AX e
 | dK kvs=>obtain ⟨_,_,_,_,o,_,_,e,_⟩:=x;exact AX e
 | dT kvs=>obtain ⟨_,_,_,_,o,_,_,e,_⟩:=x;exact AX e
 | set S n=>obtain ⟨o,_,_,_,e,_⟩:=x;exact AX e
 | ins C dx fs=>obtain ⟨_,_,_,e,_⟩:=x;exact AX e
 | own y=>obtain ⟨_,e⟩:=x;exact AX e
 | xd fs=>obtain ⟨_,⟨_,_,_,e,_⟩,_⟩:=x;exact AX e
 | rng lo hi=>obtain ⟨_,_,_,e⟩:=x;exact AX e
 | frz ob u=>obtain ⟨e,_⟩:=x;exact AX e
 | tbl ps=>exact AX (show h.get? a = some _ from x)
 | met f y=>exact AX (show h.get? a = some _ from x)
 | ext φ=>obtain ⟨_,⟨_,e⟩,_⟩:=x;exact AX e
theorem Paired.mapP {α β:Type} {F G:α → β → Prop}:∀ {l₁:List α} {l₂:List β},Paired F l₁ l₂ → (∀ a b,F a b → G a b) → Paired G l₁ l₂
 | _,_,.nil,_=>.nil
 | _,_,.cons r t,f=>.cons (f _ _ r) (Paired.mapP t f)
theorem bL.stay (x:bL P w H h a o) (k:∀ b u,(b = a ∨ H b = some (.own a)) → h.get? b = some u → h'.get? b = some u)
  (ho:∀ b,H b = some (.own a) → H' b = some (.own a)) (ht:∀ b xs,H b = some (.tup xs) → H' b = some (.tup xs)):bL P w H' h' a o:=by
 induction o with
 | lst xs=>obtain ⟨z,its,n,r,e⟩:=x;exact ⟨z,its,n,r,k _ _ (.inl rfl) e⟩
 | tup xs=>obtain ⟨z,its,r,ob,e,c⟩:=x;exact ⟨z,its,r,ob,k _ _ (.inl rfl) e,c⟩
 | dK kvs=>obtain ⟨z,y,vs,r,ob,es,ep,e,c⟩:=x;exact ⟨z,y,vs,r,ob,es,ep,k _ _ (.inl rfl) e,c⟩
 | dT kvs =>
  obtain ⟨z,y,xs,r,ob,es,ep,e,c⟩:=x
  exact ⟨z,y,xs,Paired.mapP r fun p q z=>⟨z.1,ht _ _ z.2.1,z.2.2⟩,ob,es,ep,k _ _ (.inl rfl) e,c⟩
 | set S n=>obtain ⟨ob,es,ep,t,e,c⟩:=x;exact ⟨ob,es,ep,t,k _ _ (.inl rfl) e,c⟩
 | ins C dx fs =>
  obtain ⟨d,z,ne,e,mA,⟨od,es,ep,e2,c⟩,r⟩:=x
  exact ⟨ho _ d,z,ne,k _ _ (.inl rfl) e,mA,⟨od,es,ep,k _ _ (.inr d) e2,c⟩,r⟩
 | own y=>obtain ⟨ob,e⟩:=x;exact ⟨ob,k _ _ (.inl rfl) e⟩
 | xd fs=>obtain ⟨mA,⟨od,es,ep,e,c⟩,r⟩:=x;exact ⟨mA,⟨od,es,ep,k _ _ (.inl rfl) e,c⟩,r⟩
 | rng lo hi=>obtain ⟨t,u,v,e⟩:=x;exact ⟨t,u,v,k _ _ (.inl rfl) e⟩
 | frz ob u ih=>obtain ⟨e,q⟩:=x;exact ⟨k _ _ (.inl rfl) e,ih q⟩
 | tbl ps =>
  have e:h.get? a = some { cls:=.none,data:=.fields ps }:=x
  show h'.get? a = some { cls:=.none,data:=.fields ps }
  exact k a _ (.inl rfl) e
 | met f y =>
  have e:h.get? a = some (FJ (.ref f) (.ref y)):=x
  show h'.get? a = some (FJ (.ref f) (.ref y))
  exact k a _ (.inl rfl) e
 | ext φ=>obtain ⟨p,⟨o,e⟩,st⟩:=x;exact ⟨st _ _ p fun o q=>k _ _ (.inl rfl) q,⟨o,k _ _ (.inl rfl) e⟩,st⟩
theorem HOk.lt (x:HOk P w H h) (e:H a = some o):a < h.objs.size:=(x a o e).lt
theorem HOk.fresh (x:HOk P w H h) (e:h.objs.size ≤ a):H a = none:=by
 cases q:H a with
 | none=>rfl
 | some u=>exact absurd (Ah (x.lt q) e) (DB _)
theorem HOk.kept (x:HOk P w H h) (k:∀ b u,h.get? b = some u → h'.get? b = some u):HOk P w H h':=fun a o e =>
 (x a o e).stay (fun b u _ q=>k b u q) (fun _ q=>q) fun _ _ q=>q
theorem HOk.laid (x:HOk P w H h) (k:∀ b u,h.get? b = some u → h'.get? b = some u) (hp:h.objs.size ≤ a) (new:bL P w (upd H a o) h' a o):HOk P w (upd H a o) h':=fun b u e=>by
 have hn:=x.fresh hp
 by_cases hb:b = a
 ·subst hb;rw [aD] at e;cases e;exact new
 ·rw [aK hb] at e
  exact (x b u e).stay (fun c v _ q=>k c v q) (fun c q=>by rw [aK (aT q hn)];exact q) fun c xs q=>by rw [aK (aT q hn)];exact q
end
def Rd (H:Hp) (a:Addr) (u:HO):Prop:=H a = some u ∨ ∃ o,H a = some (.frz o u)
theorem Rd.ok {P:Program} {w:World} {H:Hp} {h:Heap} {a:Addr} {u:HO} (r:Rd H a u) (x:HOk P w H h):bL P w H h a u:=by
 rcases r with r | ⟨o,r⟩
 ·exact x a u r
 ·obtain ⟨_,q⟩:=x a _ r
  exact q
def Mut:Option HO → Prop
 | some (.lst _)=>True
 | some (.dK _)=>True
 | some (.dT _)=>True
 | some (.set _ _)=>True
 | some (.ins _ _ _)=>True
 | some (.ext _)=>True
 | _=>False
section
variable {P:Program} {w:World} {H:Hp} {h h':Heap} {x e:Addr} {o':HO}
theorem HOk.write (ok:HOk P w H h) (mu:Mut (H x)) (he:e = x ∨ H e = some (.own x)) (k:∀ b u,b ≠ e → h.get? b = some u → h'.get? b = some u) (heo:∃ u,h'.get? e = some u)
  (new:bL P w (upd H x o') h' x o'):HOk P w (upd H x o') h':=fun b u q=>by
 have nown:∀ c y,H c = some (.own y) → c ≠ x:=fun c y r z=>by subst z;rw [r] at mu;exact mu
 have ntup:∀ c xs,H c = some (.tup xs) → c ≠ x:=fun c xs r z=>by subst z;rw [r] at mu;exact mu
 by_cases hb:b = x
 ·subst hb;rw [aD] at q;cases q;exact new
 ·rw [aK hb] at q
  by_cases hbe:b = e
  ·have q':H b = some (.own x):=by
    rcases he with z | z
    ·exact absurd (hbe.trans z) hb
    ·rw [hbe];exact z
   rw [q] at q';cases q'
   obtain ⟨v,hv⟩:=heo
   exact ⟨v,by rw [hbe];exact hv⟩
  ·refine (ok b u q).stay (fun c v hc r=>k c v ?_ r) (fun c r=>by rw [aK (nown c b r)];exact r) fun c xs r=>by rw [aK (ntup c xs r)];exact r
   rcases hc with rfl | hc
   ·exact hbe
   ·rintro rfl
    rcases he with z | z
    ·exact nown c b hc z
    ·rw [hc] at z;cases z;exact hb rfl
end
structure Un (fs ex:List Addr) (H H':Hp) (h h':Heap):Prop where
 keep:∀ b o,h.get? b = some o → H b = none → b ∉ fs → b ∉ ex → h'.get? b = some o
 slot:∀ b o,h.get? b = some o → H b = none → b ∈ fs → b ∉ ex → ∃ sl,h'.get? b = some { o with slots:=sl }
 free:∀ b o,h.get? b = some o → H b = none → b ∉ ex → H' b = none
 there:∀ b o,h.get? b = some o → b ∉ ex → ∃ o',h'.get? b = some o'
 tups:∀ b xs,H b = some (.tup xs) → H' b = some (.tup xs)
 frzs:∀ b o u,H b = some (.frz o u) → H' b = some (.frz o u)
 tbls:∀ b ps,H b = some (.tbl ps) → ∃ more,H' b = some (.tbl (ps ++ more))
section
variable {fs fs' ex ex':List Addr} {H H1 H2:Hp} {h h1 h2 h':Heap} {a x e:Addr} {o:HO}
theorem Un.any (u:Un fs ex H H1 h h1) {b:Addr} {ob:Obj} (q:h.get? b = some ob) (n:H b = none) (hx:b ∉ ex):∃ sl,h1.get? b = some { ob with slots:=sl }:=by
 by_cases hb:b ∈ fs
 ·exact u.slot b ob q n hb hx
 ·exact ⟨ob.slots,u.keep b ob q n hb hx⟩
theorem Un.kept (k:∀ b u,h.get? b = some u → h'.get? b = some u):Un fs ex H H h h' :=
 ⟨fun b ob q _ _ _=>k b ob q,fun b ob q _ _ _=>⟨ob.slots,k b ob q⟩,fun _ _ _ n _=>n,fun b ob q _=>⟨ob,k b ob q⟩,fun _ _ q=>q,fun _ _ _ q=>q,fun _ ps q=>⟨#[],by rw [q];simp⟩⟩
theorem Un.refl:Un fs ex H H h h:=Un.kept fun _ _ q=>q
theorem Un.laid (k:∀ b u,h.get? b = some u → h'.get? b = some u) (hp:h.objs.size ≤ a) (hn:H a = none):Un fs ex H (upd H a o) h h' where
 keep:=fun b u q _ _ _=>k b u q
 slot:=fun b u q _ _ _=>⟨u.slots,k b u q⟩
 free:=fun b u q n _=>by rw [aK (Ad (Ah (AX q) hp))];exact n
 there:=fun b u q _=>⟨u,k b u q⟩
 tups:=fun b xs q=>by rw [aK (aT q hn)];exact q
 frzs:=fun b u xs q=>by rw [aK (aT q hn)];exact q
 tbls:=fun b ps q=>⟨#[],by rw [aK (aT q hn),q];simp⟩
theorem Un.write (mu:Mut (H x)) (he:e = x ∨ H e = some (.own x)) (k:∀ b u,b ≠ e → h.get? b = some u → h'.get? b = some u) (heo:∃ u,h'.get? e = some u):Un fs ex H (upd H x o) h h':=by
 have hx:∀ b,H b = none → b ≠ x:=fun b n z=>by subst z;rw [n] at mu;exact mu
 have hb:∀ b,H b = none → b ≠ e:=fun b n z=>by
  subst z
  rcases he with r | r
  ·exact hx b n r
  ·rw [n] at r;cases r
 have hm:∀ b u,H b = some u → ¬ Mut (some u) → b ≠ x:=fun b u q nm z=>by subst z;rw [q] at mu;exact nm mu
 refine ⟨fun b u q n _ _=>k b u (hb b n) q,fun b u q n _ _=>⟨u.slots,k b u (hb b n) q⟩,fun b u q n _=>by rw [aK (hx b n)];exact n,fun b u q _=>?_,
  fun b xs q=>by rw [aK (hm b _ q fun z=>z)];exact q,fun b u xs q=>by rw [aK (hm b _ q fun z=>z)];exact q,fun b ps q=>⟨#[],by rw [aK (hm b _ q fun z=>z),q];simp⟩⟩
 by_cases hbe:b = e
 ·subst hbe;exact heo
 ·exact ⟨u,k b u hbe q⟩
end
def trk (h:Heap) (H:Hp):List Addr:=(Az h.objs.size).filter fun a=>(H a).isSome
def xO (h:Heap) (H:Hp):Heap:=PySem.W.hideAll h (trk h H)
theorem aIH (h:Heap) (H:Hp):(xO h H).objs.size = h.objs.size:=PySem.W.hideAll_size _ _
theorem aLV {h:Heap} {H:Hp} {b:Addr} {o:Obj} (e:h.get? b = some o) (n:H b = none):(xO h H).get? b = some o :=
 PySem.W.hideAll_get _ e fun hm=>by
  have q:(H b).isSome = true:=(Ar.mp hm).2
  rw [n] at q;simp at q
theorem aOF {h:Heap} {H:Hp} {b:Addr} {o:Obj} (e:(xO h H).get? b = some o):h.get? b = some o ∧ H b = none:=by
 have e':h.get? b = some o:=PySem.W.of_hideAll (trk h H) e
 refine ⟨e',?_⟩
 cases q:H b with
 | none=>rfl
 | some x =>
  have hm:b ∈ trk h H:=Ar.mpr ⟨EA.mpr (AX e'),by simp [q]⟩
  have z:(xO h H).get? b = none:=PySem.W.hideAll_none (trk h H) hm
  rw [z] at e;cases e
def aOZ (g h:Heap) (L:Addr):List (Addr × Obj):=(Az h.objs.size).filterMap fun a=>if a = L ∨ (g.get? a).isSome = true then none else (h.get? a).map fun o=>(a,o)
def rJ (g h:Heap) (L d:Addr):List (Addr × Obj):=(aOZ g h L).filter fun p=>decide (p.1 ≠ d)
end L2
namespace L2
open PySem PySem.Spec PyProof.Rows
structure Mod (K:AG) (mg:Str → Option Value) (base:Heap):Prop where
 kin:K.In base
 glob:base.Ns AJ mg
 blt:∃ mb,base.Ns builtinsNs mb ∧ ∀ x:Str,x ≠ "__name__" → mb x = BN x
 nolimit:base.NoLimit
structure Cx where
 prog:Program
 w:World
 K:AG
 mg:Str → Option Value
 base:Heap
 A:Around
 N:List Str
 s₀:Shared
 H₀:Hp
 env:Env
 outer:List Env
 stack:List Env
 ex:List Addr
 fn:Str → Bool
 calm:Bool
 pn:List (Addr × Obj)
 xe:Value → Shared → Prop
def frs (l:List Env):List Addr:=l.filterMap (·.frame)
abbrev Cx.fs (X:Cx):List Addr:=frs X.outer
def Vis (sc:Scope) (x:Str):Prop:=sc.names.lookup x = some .local ∨ sc.names.lookup x = some .cell ∨ sc.names.lookup x = some .free
def Loc (sc:Scope) (x:Str):Prop:=sc.names.lookup x = some .local ∨ sc.names.lookup x = some .cell
def aTW (env:Env) (h:Heap) (m:Str → Option Value) (x:Str) (u:Value):Prop :=
 (env.kindOf x = some .local ∧ m x = some u) ∨ ((env.kindOf x = some .cell ∨ env.kindOf x = some .free) ∧ ∃ c,env.cells.lookup x = some c ∧ h.IsCell c (some u))
structure Cx.Ok (X:Cx):Prop where
 mod:Mod X.K X.mg X.base
 kind:X.env.scope.kind = .function
 glob:X.env.globals = AJ
 blt:X.env.builtins = builtinsNs
 above:X.s₀.heap.objs.size ≤ X.env.locals
 inj:∀ x y c,X.env.cells.lookup x = some c → X.env.cells.lookup y = some c → x = y
 has:∀ x,(X.env.kindOf x = some .cell ∨ X.env.kindOf x = some .free) → ∃ c,X.env.cells.lookup x = some c
 cab:∀ x c,X.fn x = true → X.env.cells.lookup x = some c → X.s₀.heap.objs.size ≤ c
 hd:X.calm = true → X.A.handled = none
 frames:X.A.frames = some X.stack
 stk:X.stack = X.outer ∨ (X.stack = X.env :: X.outer ∧ X.env.frame = some X.env.locals)
 exf:∀ b ∈ X.ex,b ≠ X.env.locals ∧ ∀ x c,X.env.cells.lookup x = some c → c ≠ b
 bs:∀ b o,X.base.get? b = some o → X.s₀.heap.get? b = some o ∧ X.H₀ b = none
 bsz:X.base.objs.size ≤ X.s₀.heap.objs.size
 noex:∀ b o,X.base.get? b = some o → b ∉ X.ex
 exfs:∀ b ∈ X.ex,b ∉ X.fs
 funs:X.s₀.heap.FunFrames X.base X.outer
 frf:∀ b ∈ X.fs,X.H₀ b = none
structure Inv (X:Cx) (pins:List (Addr × Obj)) (σ:List (Option V)) (H:Hp) (s:Shared):Prop where
 ok:X.Ok
 os:s.os = X.s₀.os
 bare:AllBare s.gens
 base:Un X.fs X.ex X.H₀ H X.s₀.heap s.heap
 loc:∃ m,s.heap.Ns X.env.locals m ∧ ∀ (i:Nat) (x:Str) (v:V),X.N[i]? = some x → σ[i]? = some (some v) → Vis X.env.scope x → ∃ u,bG v u ∧ aTW X.env s.heap m x u
 cell:∀ x c,X.env.cells.lookup x = some c → ∃ v,s.heap.IsCell c v
 free:H X.env.locals = none
 freeC:∀ x c,X.env.cells.lookup x = some c → H c = none
 pin:∀ p ∈ X.pn ++ pins,s.heap.get? p.1 = some p.2 ∧ H p.1 = none ∧ p.1 ≠ X.env.locals ∧ p.1 ∉ X.fs ∧ ∀ v,p.2.data ≠ .cell v
 hok:HOk X.prog X.w H s.heap
 len:σ.length = X.N.length
section
variable {X:Cx} {pins:List (Addr × Obj)} {σ:List (Option V)} {H H':Hp} {s:Shared} {h':Heap}
theorem Cx.Ok.nofr (ok:X.Ok) {b:Addr} {o:Obj} (e:X.base.get? b = some o):b ∉ X.fs:=fun hb=>by
 have:=(ok.funs.mem hb).1
 rw [e] at this;cases this
theorem Inv.bs (I:Inv X pins σ H s):∀ b o,X.base.get? b = some o → s.heap.get? b = some o ∧ H b = none:=fun b o e =>
 ⟨I.base.keep b o (I.ok.bs b o e).1 (I.ok.bs b o e).2 (I.ok.nofr e) (I.ok.noex b o e),I.base.free b o (I.ok.bs b o e).1 (I.ok.bs b o e).2 (I.ok.noex b o e)⟩
theorem Inv.bk (I:Inv X pins σ H s):∀ b o,X.base.get? b = some o → s.heap.get? b = some o:=fun b o e=>(I.bs b o e).1
theorem Inv.mod (I:Inv X pins σ H s):Mod X.K X.mg X.base:=I.ok.mod
theorem Inv.kIn (I:Inv X pins σ H s):X.K.In s.heap:=I.ok.mod.kin.keeps I.bk
theorem Inv.fr (I:Inv X pins σ H s):∃ m,Fr X.base X.env.locals s.heap m :=
 let ⟨m,hn,_⟩:=I.loc
 ⟨m,hn,I.bk,BB I.ok.bsz I.ok.above⟩
theorem Inv.lt (I:Inv X pins σ H s):X.env.locals < s.heap.objs.size:=let ⟨_,hn,_⟩:=I.loc;hn.lt
theorem Inv.sz (I:Inv X pins σ H s):X.s₀.heap.objs.size ≤ s.heap.objs.size:=BB I.ok.above (Dw I.lt)
theorem Inv.nofs (I:Inv X pins σ H s) {a:Addr} (h:s.heap.objs.size ≤ a):a ∉ X.fs:=fun hb=>by
 obtain ⟨_,o,ho,_⟩:=I.ok.funs.mem hb
 exact absurd (Ah (AX ho) (BB I.sz h)) (DB _)
theorem Inv.cne (I:Inv X pins σ H s):∀ x c,X.env.cells.lookup x = some c → c ≠ X.env.locals:=fun x c e z=>by
 obtain ⟨v,o,ho,hd⟩:=I.cell x c e
 obtain ⟨m,⟨o',es,ep,ho',hd',_⟩,_⟩:=I.loc
 rw [z,ho'] at ho;cases ho;rw [hd'] at hd;cases hd
theorem Inv.funs (I:Inv X pins σ H s):s.heap.FunFrames X.base X.outer:=by
 have all:∀ (l:List Env),(∀ b ∈ frs l,b ∈ X.fs) → X.s₀.heap.FunFrames X.base l → s.heap.FunFrames X.base l:=by
  intro l
  induction l with
  | nil=>intro _ _;trivial
  | cons env r ih =>
   intro hs hl
   obtain ⟨hk,⟨L,o,hf,hn,ho,hd⟩,hr⟩:=hl
   have hL:L ∈ X.fs:=hs L (by unfold frs;rw [Do,hf];exact AY)
   obtain ⟨sl,e⟩:=I.base.slot L o ho (I.ok.frf L hL) hL fun z=>I.ok.exfs L z hL
   exact ⟨hk,⟨L,_,hf,hn,e,hd⟩,ih (fun b hb=>hs b (by unfold frs;rw [Do,hf];exact AV _ hb)) hr⟩
 exact all X.outer (fun _ hb=>hb) I.ok.funs
theorem Inv.stack (I:Inv X pins σ H s):s.heap.FunFrames X.base X.stack:=by
 rcases I.ok.stk with e | ⟨e,hf⟩
 ·rw [e];exact I.funs
 ·rw [e]
  obtain ⟨m,hn,_⟩:=I.loc
  refine .cons (by rw [I.ok.kind];decide) hf hn ?_ I.funs
  exact Heap.get?_none_of_le (BB I.ok.bsz I.ok.above)
theorem Inv.stkSub (I:Inv X pins σ H s):∀ b ∈ frs X.stack,b ∈ X.env.locals :: X.fs:=fun b hb=>by
 rcases I.ok.stk with e | ⟨e,hf⟩
 ·rw [e] at hb;exact AV _ hb
 ·rw [e] at hb
  unfold frs at hb
  rw [Do,hf] at hb
  exact hb
theorem Inv.stkFree (I:Inv X pins σ H s):∀ b ∈ frs X.stack,H b = none:=fun b hb=>by
 rcases Af.mp (I.stkSub b hb) with e | hb
 ·rw [e];exact I.free
 ·obtain ⟨_,o,ho,_⟩:=I.ok.funs.mem hb
  exact I.base.free b o ho (I.ok.frf b hb) fun z=>I.ok.exfs b z hb
theorem Inv.step {g':Array Ep} {t':Nat} {d':Drawn} {ch:List Addr} (I:Inv X pins σ H s)
  (hch:∀ b ∈ ch,(b ∈ X.ex ∨ X.s₀.heap.objs.size ≤ b) ∧ b ≠ X.env.locals ∧ (∀ x c,X.env.cells.lookup x = some c → c ≠ b) ∧ ∀ p ∈ X.pn ++ pins,p.1 ≠ b)
  (keep:∀ b o,b ≠ X.env.locals → b ∉ X.fs → b ∉ ch → s.heap.get? b = some o → H b = none → h'.get? b = some o)
  (slot:∀ b o,b ≠ X.env.locals → b ∈ X.fs → b ∉ ch → s.heap.get? b = some o → H b = none → ∃ sl,h'.get? b = some { o with slots:=sl }) (free:∀ b o,b ∉ ch → s.heap.get? b = some o → H b = none → H' b = none)
  (there:∀ b o,b ∉ ch → s.heap.get? b = some o → ∃ o',h'.get? b = some o')
  (tups:∀ b xs,H b = some (.tup xs) → H' b = some (.tup xs)) (frzs:∀ b o u,H b = some (.frz o u) → H' b = some (.frz o u)) (tbls:∀ b ps,H b = some (.tbl ps) → ∃ more,H' b = some (.tbl (ps ++ more)))
  (ns:∀ m,s.heap.Ns X.env.locals m → h'.Ns X.env.locals m) (hok:HOk X.prog X.w H' h') (hg:AllBare g') :
  Inv X pins σ H' { s with heap:=h',gens:=g',drawn:=d',toks:=t' }:=by
 have neL:∀ b o,X.s₀.heap.get? b = some o → b ≠ X.env.locals:=fun b o e=>Ad (Ah (AX e) I.ok.above)
 have neC:∀ b o,X.s₀.heap.get? b = some o → b ∉ X.ex → b ∉ ch:=fun b o e hx hb=>by
  rcases (hch b hb).1 with z | z
  ·exact hx z
  ·exact absurd (Ah (AX e) z) (DB _)
 have cellK:∀ x c,X.env.cells.lookup x = some c → ∀ v,s.heap.IsCell c v → h'.IsCell c v:=fun x c e v ⟨o,ho,hd⟩=>by
  have nch:c ∉ ch:=fun z=>(hch c z).2.2.1 x c e rfl
  by_cases hc:c ∈ X.fs
  ·obtain ⟨sl,q⟩:=slot c o (I.cne x c e) hc nch ho (I.freeC x c e)
   exact ⟨_,q,hd⟩
  ·exact ⟨o,keep c o (I.cne x c e) hc nch ho (I.freeC x c e),hd⟩
 refine ⟨I.ok,I.os,hg,⟨fun b o e n hb hx=>?_,fun b o e n hb hx=>?_,fun b o e n hx=>?_,fun b o e hx=>?_,fun b xs e=>tups b xs (I.base.tups b xs e),fun b o xs e=>frzs b o xs (I.base.frzs b o xs e),fun b ps e=>?_⟩,?_,fun x c e=>?_,?_,fun x c e=>?_,fun p hp=>?_,hok,I.len⟩
 ·exact keep b o (neL b o e) hb (neC b o e hx) (I.base.keep b o e n hb hx) (I.base.free b o e n hx)
 ·obtain ⟨sl,e1⟩:=I.base.slot b o e n hb hx
  obtain ⟨sl',e2⟩:=slot b _ (neL b o e) hb (neC b o e hx) e1 (I.base.free b o e n hx)
  exact ⟨sl',e2⟩
 ·obtain ⟨o',e1⟩:=I.base.there b o e hx
  exact free b o' (neC b o e hx) e1 (I.base.free b o e n hx)
 ·obtain ⟨o',e1⟩:=I.base.there b o e hx
  exact there b o' (neC b o e hx) e1
 ·obtain ⟨m1,e1⟩:=I.base.tbls b ps e
  obtain ⟨m2,e2⟩:=tbls b _ e1
  exact ⟨m1 ++ m2,by rw [e2,Array.append_assoc]⟩
 ·obtain ⟨m,hn,hl⟩:=I.loc
  refine ⟨m,ns m hn,fun i x v e1 e2 e3=>?_⟩
  obtain ⟨u,r,l⟩:=hl i x v e1 e2 e3
  refine ⟨u,r,?_⟩
  rcases l with l | ⟨k,c,e,z⟩
  ·exact .inl l
  ·exact .inr ⟨k,c,e,cellK x c e _ z⟩
 ·obtain ⟨v,z⟩:=I.cell x c e
  exact ⟨v,cellK x c e v z⟩
 ·obtain ⟨m,⟨o,_,_,ho,_⟩,_⟩:=I.loc
  exact free _ o (fun z=>(hch _ z).2.1 rfl) ho I.free
 ·obtain ⟨v,o,ho,hd⟩:=I.cell x c e
  exact free c o (fun z=>(hch c z).2.2.1 x c e rfl) ho (I.freeC x c e)
 ·obtain ⟨e,n,ne,nf,d⟩:=I.pin p hp
  have nch:p.1 ∉ ch:=fun z=>(hch p.1 z).2.2.2 p hp rfl
  exact ⟨keep p.1 p.2 ne nf nch e n,free p.1 p.2 nch e n,ne,nf,d⟩
theorem Inv.un {t':Nat} (I:Inv X pins σ H s) (u:Un X.fs [] H H' s.heap h') (hok:HOk X.prog X.w H' h'):Inv X pins σ H' { s with heap:=h',toks:=t' }:=by
 obtain ⟨m,⟨o,es,ep,ho,r⟩,_⟩:=id I.loc
 obtain ⟨sl,hL⟩:=u.any ho I.free (by simp)
 exact I.step (g':=s.gens) (d':=s.drawn) (ch:=[]) (fun _ z=>nomatch z) (fun b o _ hb _ e n=>u.keep b o e n hb (by simp)) (fun b o _ hb _ e n=>u.slot b o e n hb (by simp)) (fun b o _ e n=>u.free b o e n (by simp)) (fun b o _ e=>u.there b o e (by simp)) u.tups u.frzs u.tbls (fun m' hm=>by
  obtain ⟨o',es',ep',ho',r'⟩:=hm
  rw [ho] at ho';cases ho'
  exact ⟨_,es',ep',hL,r'⟩) hok I.bare
theorem Inv.call {g':Array Ep} {t':Nat} {d':Drawn} {ch:List Addr} (I:Inv X pins σ H s) (u:Un (frs X.stack) ch H H' s.heap h') (hok:HOk X.prog X.w H' h') (hg:AllBare g')
  (hch:∀ b ∈ ch,(b ∈ X.ex ∨ X.s₀.heap.objs.size ≤ b) ∧ b ≠ X.env.locals ∧ (∀ x c,X.env.cells.lookup x = some c → c ≠ b) ∧ ∀ p ∈ X.pn ++ pins,p.1 ≠ b) :
  Inv X pins σ H' { s with heap:=h',gens:=g',drawn:=d',toks:=t' }:=by
 obtain ⟨m,⟨o,es,ep,ho,r⟩,_⟩:=id I.loc
 obtain ⟨sl,hL⟩:=u.any ho I.free fun z=>(hch _ z).2.1 rfl
 exact I.step (ch:=ch) hch (fun b o hL hb hc e n=>u.keep b o e n (fun z=>(Af.mp (I.stkSub b z)).elim hL hb) hc) (fun b o _ _ hc e n=>u.any e n hc) (fun b o hc e n=>u.free b o e n hc) (fun b o hc e=>u.there b o e hc) u.tups u.frzs u.tbls (fun m' hm=>by
  obtain ⟨o',es',ep',ho',r'⟩:=hm
  rw [ho] at ho';cases ho'
  exact ⟨_,es',ep',hL,r'⟩) hok hg
theorem Inv.turned {t':Nat} {it:Addr} (I:Inv X pins σ H s) (k:∀ b o,b ≠ it → s.heap.get? b = some o → h'.get? b = some o) (hn:H it = none) (hL:it ≠ X.env.locals)
  (h1:it ∈ X.ex ∨ X.s₀.heap.objs.size ≤ it) (h2:∀ x c,X.env.cells.lookup x = some c → c ≠ it) (h3:∀ p ∈ X.pn ++ pins,p.1 ≠ it):Inv X pins σ H { s with heap:=h',toks:=t' }:=by
 have nit:∀ b u,H b = some u → b ≠ it:=fun b u e z=>by rw [z,hn] at e;cases e
 refine I.step (g':=s.gens) (d':=s.drawn) (ch:=[it]) (fun b hb=>?_) (fun b o _ _ hc e _=>k b o (fun z=>hc (by simp [z])) e) (fun b o _ _ hc e _=>⟨o.slots,k b o (fun z=>hc (by simp [z])) e⟩) (fun _ _ _ _ n=>n)
  (fun b o hc e=>⟨o,k b o (fun z=>hc (by simp [z])) e⟩) (fun _ _ e=>e) (fun _ _ _ e=>e) (fun b ps e=>⟨#[],by rw [e];simp⟩) (fun m hm=>?_) (fun b u e=>?_) I.bare
 ·have e:b = it:=by simpa using hb
  subst e
  exact ⟨h1,hL,h2,h3⟩
 ·obtain ⟨o,es,ep,ho,r⟩:=hm
  exact ⟨o,es,ep,k _ o (Ne.symm hL) ho,r⟩
 ·refine (I.hok b u e).stay (fun c v hc q=>k c v ?_ q) (fun _ q=>q) fun _ _ q=>q
  rcases hc with z | z
  ·rw [z];exact nit b u e
  ·exact nit c _ z
theorem Inv.tok (I:Inv X pins σ H s) (t:Nat):Inv X pins σ H { s with toks:=t }:=I.un (h':=s.heap) (t':=t) Un.refl I.hok
theorem Inv.kept {t':Nat} (I:Inv X pins σ H s) (k:∀ b u,s.heap.get? b = some u → h'.get? b = some u):Inv X pins σ H { s with heap:=h',toks:=t' }:=I.un (Un.kept k) (I.hok.kept k)
theorem Inv.laid {a:Addr} {o:HO} {t':Nat} (I:Inv X pins σ H s) (k:∀ b u,s.heap.get? b = some u → h'.get? b = some u) (hp:s.heap.objs.size ≤ a) (new:bL X.prog X.w (upd H a o) h' a o) :
  Inv X pins σ (upd H a o) { s with heap:=h',toks:=t' }:=I.un (Un.laid k hp (I.hok.fresh hp)) (I.hok.laid k hp new)
theorem Inv.write {x e:Addr} {o:HO} {t':Nat} (I:Inv X pins σ H s) (mu:Mut (H x)) (he:e = x ∨ H e = some (.own x)) (k:∀ b u,b ≠ e → s.heap.get? b = some u → h'.get? b = some u) (heo:∃ u,h'.get? e = some u)
  (new:bL X.prog X.w (upd H x o) h' x o):Inv X pins σ (upd H x o) { s with heap:=h',toks:=t' }:=I.un (Un.write mu he k heo) (I.hok.write mu he k heo new)
theorem Inv.weak {σ':List (Option V)} (I:Inv X pins σ H s) (hl:σ'.length = σ.length) (w:∀ (i:Nat) v,σ'[i]? = some (some v) → σ[i]? = some (some v)):Inv X pins σ' H s :=
 ⟨I.ok,I.os,I.bare,I.base,let ⟨m,hn,hl'⟩:=I.loc;⟨m,hn,fun i x v e1 e2 e3=>hl' i x v e1 (w i v e2) e3⟩,I.cell,I.free,I.freeC,I.pin,I.hok,hl.trans I.len⟩
theorem Inv.pins_of {pins':List (Addr × Obj)} (I:Inv X pins σ H s) (h:∀ p ∈ pins',s.heap.get? p.1 = some p.2 ∧ H p.1 = none ∧ p.1 ≠ X.env.locals ∧ p.1 ∉ X.fs ∧ ∀ v,p.2.data ≠ .cell v):Inv X pins' σ H s :=
 ⟨I.ok,I.os,I.bare,I.base,I.loc,I.cell,I.free,I.freeC,fun p hp=>(Ak.mp hp).elim (fun z=>I.pin p (CA _ z)) (h p),I.hok,I.len⟩
theorem vR {N:List Str} (hN:N.Nodup) {i j:Nat} {x:Str} (a:N[i]? = some x) (b:N[j]? = some x):i = j:=by
 obtain ⟨h1,e1⟩:=AE.mp a
 obtain ⟨h2,e2⟩:=AE.mp b
 exact (Dc hN).mp (e1.trans e2.symm)
theorem aHL {M:Model} {A:Around} {E:Value → Shared → Prop} {i:Nat} {x:Str} {v:V} {u:Value} {Q:Unit → Shared → Prop} (I:Inv X pins σ H s) (hN:X.N.Nodup) (hi:X.N[i]? = some x) (hx:Loc X.env.scope x) (r:bG v u)
  (h:∀ s',Inv X pins (σ.set i (some v)) H s' → (∃ a,BP a s.heap s'.heap ∧ (a = X.env.locals ∨ X.env.cells.lookup x = some a)) → Q () s') (hf:X.fn x = true ∨ X.env.scope.names.lookup x = some .local:=by first | exact .inl rfl | exact .inr rfl | assumption):wpAny M A (storeName X.env x u) Q E s:=by
 obtain ⟨m,hn,hl⟩:=id I.loc
 have hcls:(X.env.scope.kind == .class || (X.env.scope.kind == .module && X.env.locals != X.env.globals)) = false:=by rw [I.ok.kind];rfl
 have hiσ:i < σ.length:=by rw [I.len];exact (AE.mp hi).1
 have cne:=I.cne
 have tracked:∀ {a:Addr} {h':Heap},(∃ o,s.heap.get? a = some o ∧ H a = none) → BP a s.heap h' → HOk X.prog X.w H h':=fun {a h'} ha hs b ob e=>by
  obtain ⟨_,_,hfree⟩:=ha
  refine (I.hok b ob e).stay (fun c w' hc q=>(hs.2 c ?_).trans q) (fun _ q=>q) fun _ _ q=>q
  rintro rfl
  rcases hc with rfl | hc
  ·rw [hfree] at e;cases e
  ·rw [hfree] at hc;cases hc
 rcases hx with hk | hk
 ·refine wpAny_storeName_local hk hn (fun h' hn' hs=>?_) hcls
  obtain ⟨oL,_,_,hoL,_⟩:=id hn
  refine h _ ⟨I.ok,I.os,I.bare,⟨fun b o e n hb hx=>?_,fun b o e n hb hx=>?_,I.base.free,fun b o e hx=>?_,I.base.tups,I.base.frzs,I.base.tbls⟩,⟨_,hn',fun j y v' e1 e2 e3=>?_⟩,fun y c e=>?_,I.free,I.freeC,fun p hp=>?_,tracked ⟨oL,hoL,I.free⟩ hs,by simpa using I.len⟩ ⟨_,hs,.inl rfl⟩
  ·exact (hs.2 b (Ad (Ah (AX e) I.ok.above))).trans (I.base.keep b o e n hb hx)
  ·obtain ⟨sl,e1⟩:=I.base.slot b o e n hb hx
   exact ⟨sl,(hs.2 b (Ad (Ah (AX e) I.ok.above))).trans e1⟩
  ·obtain ⟨o',e1⟩:=I.base.there b o e hx
   exact ⟨o',(hs.2 b (Ad (Ah (AX e) I.ok.above))).trans e1⟩
  ·by_cases hj:j = i
   ·subst hj
    rw [hi] at e1;cases e1
    rw [List.getElem?_set_self hiσ] at e2
    cases e2
    exact ⟨u,r,.inl ⟨hk,by simp⟩⟩
   ·rw [Et (Ne.symm hj)] at e2
    obtain ⟨u',r',q⟩:=hl j y v' e1 e2 e3
    refine ⟨u',r',?_⟩
    rcases q with ⟨k,e⟩ | ⟨k,c,e,z⟩
    ·refine .inl ⟨k,?_⟩
     have:y ≠ x:=fun e=>hj (vR hN e1 (e ▸ hi))
     simp [this,e]
    ·exact .inr ⟨k,c,e,z.sameBut hs (cne y c e)⟩
  ·obtain ⟨w',z⟩:=I.cell y c e
   exact ⟨w',z.sameBut hs (cne y c e)⟩
  ·obtain ⟨e,n,ne,nf,d⟩:=I.pin p hp
   exact ⟨(hs.2 p.1 ne).trans e,n,ne,nf,d⟩
 ·have hfn:X.fn x = true:=by
   rcases hf with z | z
   ·exact z
   ·rw [z] at hk;cases hk
  obtain ⟨c,hc⟩:=I.ok.has x (.inl hk)
  obtain ⟨w',z⟩:=I.cell x c hc
  refine wpAny_storeName_cell I.ok.kind hk hc z (fun h' hc' hs=>?_)
  obtain ⟨oc,hoc,hocd⟩:=id z
  refine h { s with heap:=h' } ⟨I.ok,I.os,I.bare,⟨fun b o e n hb hx=>?_,fun b o e n hb hx=>?_,I.base.free,fun b o e hx=>?_,I.base.tups,I.base.frzs,I.base.tbls⟩,⟨m,hn.sameBut hs (Ne.symm (cne x c hc)),fun j y v' e1 e2 e3=>?_⟩,fun y c' e=>?_,I.free,I.freeC,fun p hp=>?_,tracked ⟨oc,hoc,I.freeC x c hc⟩ hs,by simpa using I.len⟩ ⟨c,hs,.inr hc⟩
  ·exact (hs.2 b (Ad (Ah (AX e) (I.ok.cab x c hfn hc)))).trans (I.base.keep b o e n hb hx)
  ·obtain ⟨sl,e1⟩:=I.base.slot b o e n hb hx
   exact ⟨sl,(hs.2 b (Ad (Ah (AX e) (I.ok.cab x c hfn hc)))).trans e1⟩
  ·obtain ⟨o',e1⟩:=I.base.there b o e hx
   exact ⟨o',(hs.2 b (Ad (Ah (AX e) (I.ok.cab x c hfn hc)))).trans e1⟩
  ·by_cases hj:j = i
   ·subst hj
    rw [hi] at e1;cases e1
    rw [List.getElem?_set_self hiσ] at e2
    cases e2
    exact ⟨u,r,.inr ⟨.inl hk,c,hc,hc'⟩⟩
   ·rw [Et (Ne.symm hj)] at e2
    obtain ⟨u',r',q⟩:=hl j y v' e1 e2 e3
    refine ⟨u',r',?_⟩
    rcases q with q | ⟨k,c',e,z'⟩
    ·exact .inl q
    ·refine .inr ⟨k,c',e,z'.sameBut hs ?_⟩
     rintro rfl
     exact hj (vR hN e1 (I.ok.inj _ _ _ e hc ▸ hi))
  ·by_cases hcc:c' = c
   ·subst hcc;exact ⟨_,hc'⟩
   ·obtain ⟨w2,z2⟩:=I.cell y c' e
    exact ⟨w2,z2.sameBut hs hcc⟩
  ·obtain ⟨e,n,ne,nf,d⟩:=I.pin p hp
   refine ⟨(hs.2 p.1 ?_).trans e,n,ne,nf,d⟩
   intro q
   rw [q,hoc] at e
   have q':oc = p.2:=BH e
   exact d w' (by rw [← q'];exact hocd)
theorem aBX {M:Model} {A:Around} {E:Value → Shared → Prop} {i:Nat} {x:Str} {v:V} {u:Value} {Q:Unit → Shared → Prop} (I:Inv X pins σ H s) (hN:X.N.Nodup) (hi:X.N[i]? = some x) (hx:Loc X.env.scope x) (r:bG v u)
  (h:∀ s',Inv X pins (σ.set i (some v)) H s' → Q () s') (hf:X.fn x = true ∨ X.env.scope.names.lookup x = some .local:=by first | exact .inl rfl | exact .inr rfl | assumption):wpAny M A (storeName X.env x u) Q E s :=
 aHL I hN hi hx r (fun s' I' _=>h s' I') hf
theorem Inv.call' {s':Shared} {ch:List Addr} (I:Inv X pins σ H s) (ho:s'.os = s.os) (u:Un (frs X.stack) ch H H' s.heap s'.heap) (hok:HOk X.prog X.w H' s'.heap) (hg:AllBare s'.gens)
  (hch:∀ b ∈ ch,(b ∈ X.ex ∨ X.s₀.heap.objs.size ≤ b) ∧ b ≠ X.env.locals ∧ (∀ x c,X.env.cells.lookup x = some c → c ≠ b) ∧ ∀ p ∈ X.pn ++ pins,p.1 ≠ b):Inv X pins σ H' s':=by
 obtain ⟨h',g',d',t',o'⟩:=s'
 have e:o' = s.os:=ho
 subst e
 exact I.call (g':=g') (t':=t') (d':=d') u hok hg hch
end
abbrev XK:=Value → Option Addr → Hp → Prop
abbrev St:=List (Option V)
abbrev VK:=V → Hp → Prop
abbrev TE:=St → Hp → VK → Prop
abbrev TT:=St → Hp → (Bool → Hp → Prop) → Prop
abbrev TA:=St → Hp → (List V → Hp → Prop) → Prop
structure Ends where
 nx:St → Hp → Prop
 rt:VK
 bk:St → Hp → Prop:=fun _ _=>False
 ct:St → Hp → Prop:=fun _ _=>False
abbrev TS:=Ends → St → Hp → Prop
def EP (X:Cx) (pins:List (Addr × Obj)) (σ:St) (Q:VK) (u:Value) (s':Shared):Prop:=∃ v H',Inv X pins σ H' s' ∧ bG v u ∧ Q v H'
def TP (X:Cx) (pins:List (Addr × Obj)) (σ:St) (Q:Bool → Hp → Prop) (b:Bool) (s':Shared):Prop:=∃ H',Inv X pins σ H' s' ∧ Q b H'
def AP (X:Cx) (pins:List (Addr × Obj)) (σ:St) (Q:List V → Hp → Prop) (us:List Value) (s':Shared):Prop:=∃ vs H',Inv X pins σ H' s' ∧ bC vs us ∧ Q vs H'
def SP (X:Cx) (pins:List (Addr × Obj)) (D:Ends) (f:Flow) (s':Shared):Prop :=
 match f with
 | .next=>∃ σ' H',Inv X pins σ' H' s' ∧ D.nx σ' H'
 | .brk=>∃ σ' H',Inv X pins σ' H' s' ∧ D.bk σ' H'
 | .cont=>∃ σ' H',Inv X pins σ' H' s' ∧ D.ct σ' H'
 | .ret u=>∃ v σ' H',Inv X pins σ' H' s' ∧ bG v u ∧ D.rt v H'
def PE (X:Cx) (e:Expr) (t:TE):Prop :=
 ∀ (pins:List (Addr × Obj)) (s:Shared) (σ:St) (H:Hp) (Q:VK),Inv X pins σ H s → t σ H Q → wpAny (model X.prog X.w) X.A (eval e X.env) (EP X pins σ Q) X.xe s
def PT (X:Cx) (e:Expr) (t:TT):Prop :=
 ∀ (pins:List (Addr × Obj)) (s:Shared) (σ:St) (H:Hp) (Q:Bool → Hp → Prop),Inv X pins σ H s → t σ H Q → wpAny (model X.prog X.w) X.A (isTrue e X.env (eval e X.env)) (TP X pins σ Q) X.xe s
def PW (X:Cx) (e:Expr) (t:TT):Prop :=
 ∀ (whole:Sem Value) (pins:List (Addr × Obj)) (s:Shared) (σ:St) (H:Hp) (Q:Bool → Hp → Prop),Inv X pins σ H s → t σ H Q → wpAny (model X.prog X.w) X.A (isTrue e X.env whole) (TP X pins σ Q) X.xe s
theorem PW.pt {X:Cx} {e:Expr} {t:TT} (h:PW X e t):PT X e t:=h _
def PA (X:Cx) (es:List Expr) (t:TA):Prop :=
 ∀ (pos:Pos) (pins:List (Addr × Obj)) (s:Shared) (σ:St) (H:Hp) (Q:List V → Hp → Prop),Inv X pins σ H s → t σ H Q → wpAny (model X.prog X.w) X.A (spliced (backTo pos (As es X.env))) (AP X pins σ Q) X.xe s
def PS (X:Cx) (st:Stmt) (t:TS):Prop :=
 ∀ (pins:List (Addr × Obj)) (s:Shared) (σ:St) (H:Hp) (D:Ends),Inv X pins σ H s → t D σ H → wpAny (model X.prog X.w) X.A (exec st X.env) (SP X pins D) X.xe s
def PSs (X:Cx) (st:List Stmt) (t:TS):Prop :=
 ∀ (pins:List (Addr × Obj)) (s:Shared) (σ:St) (H:Hp) (D:Ends),Inv X pins σ H s → t D σ H → wpAny (model X.prog X.w) X.A (execs st X.env) (SP X pins D) X.xe s
theorem thn {α:Type} {t:Sem α} {Q Q':α → Shared → Prop} {M:Model} {A:Around} {E:Value → Shared → Prop} {s:Shared} (h:wpAny M A t Q E s) (hQ:∀ a s,Q a s → Q' a s):wpAny M A t Q' E s:=BJ h hQ fun _ _ x=>x
end L2
namespace L2
open PySem PySem.Spec PyProof.Rows
section
variable {X:Cx}
def aNE (i:Nat):TE:=fun σ H Q=>∃ v,σ[i]? = some (some v) ∧ Q v H
def tC (v:V):TE:=fun _ H Q=>Q v H
theorem aQG {i:Nat} {x:Str} {pos:Pos} (hN:X.N[i]? = some x) (hv:Vis X.env.scope x) (hd:(x == ("__debug__":Str)) = false:=by decide) (hcd:(x == ("__classdict__":Str)) = false:=by decide):PE X (.Name x pos) (aNE i):=by
 intro pins s σ H Q I h
 obtain ⟨v,e,h⟩:=h
 obtain ⟨m,hn,hl⟩:=I.loc
 obtain ⟨u,r,l⟩:=hl i x v hN e hv
 have fin:EP X pins σ Q u s:=⟨v,H,I,r,h⟩
 rcases l with ⟨hk,hm⟩ | ⟨hk,c,hc,hcell⟩
 ·exact wpAny_Name (wpAny_loadName_local I.ok.kind hk hn hm fin) hd
 ·rcases hk with hk | hk
  ·exact wpAny_Name (wpAny_loadName_cell I.ok.kind hk hc hcell fin) hd
  ·exact wpAny_Name (wpAny_loadName_free I.ok.kind hk hc hcell fin hcd) hd
theorem aF {i j pos}:PE X (.Constant (.int i) j pos) (tC (.int i)):=fun _ _ _ H _ I h=>wpAny_Constant_int ⟨.int i,H,I.tok _,⟨_,rfl⟩,h⟩
theorem oZ {b j pos}:PE X (.Constant (.bool b) j pos) (tC (.bl b)):=fun _ _ _ H _ I h=>Constant_bool ⟨.bl b,H,I,rfl,h⟩
theorem aAM {j pos}:PE X (.Constant .none j pos) (tC .non):=fun _ _ _ H _ I h=>Constant_none ⟨.non,H,I,rfl,h⟩
theorem aER {x j pos}:PE X (.Constant (.str x) j pos) (tC (.str x)):=fun _ _ _ H _ I h=>Calls.Constant_str ⟨.str x,H,I.tok _,⟨_,rfl⟩,h⟩
def Gl (X:Cx) (x:Str):Prop:=X.env.kindOf x = some .globalImplicit
theorem aAW {E:Value → Shared → Prop} {pins:List (Addr × Obj)} {s:Shared} {σ:St} {H:Hp} {x:Str} {u:Value} {pos:Pos} {Q:Value → Shared → Prop} (I:Inv X pins σ H s) (hg:Gl X x) (hm:X.mg x = some u) (h:Q u s)
  (hd:(x == ("__debug__":Str)) = false:=by decide):wpAny (model X.prog X.w) X.A (eval (.Name x pos) X.env) Q E s :=
 Calls.Name_function_global I.ok.kind hg (Calls.loadGlobal_global (by rw [I.ok.glob];exact I.mod.glob.keeps I.bk) hm h) hd
theorem pR {E:Value → Shared → Prop} {pins:List (Addr × Obj)} {s:Shared} {σ:St} {H:Hp} {x:Str} {u:Value} {pos:Pos} {Q:Value → Shared → Prop} (I:Inv X pins σ H s) (hg:Gl X x) (hm:X.mg x = none) (hv:BN x = some u) (h:Q u s)
  (hn:x ≠ "__name__":=by decide) (hd:(x == ("__debug__":Str)) = false:=by decide):wpAny (model X.prog X.w) X.A (eval (.Name x pos) X.env) Q E s:=by
 obtain ⟨mb,h1,h2⟩:=I.mod.blt
 exact Calls.Name_function_global I.ok.kind hg (Calls.loadGlobal_builtin (by rw [I.ok.glob];exact I.mod.glob.keeps I.bk) hm (by rw [I.ok.blt];exact h1.keeps I.bk) ((h2 x hn).trans hv) h) hd
theorem aOA {x:Str} {v:V} {u:Value} {pos:Pos} (hg:Gl X x) (hm:X.mg x = some u) (r:bG v u) (hd:(x == ("__debug__":Str)) = false:=by decide):PE X (.Name x pos) (tC v) :=
 fun _ _ _ H _ I h=>aAW I hg hm ⟨v,H,I,r,h⟩ hd
theorem aOC {x:Str} {v:V} {u:Value} {pos:Pos} (hg:Gl X x) (hm:X.mg x = none) (hv:BN x = some u) (r:bG v u) (hn:x ≠ "__name__":=by decide) (hd:(x == ("__debug__":Str)) = false:=by decide):PE X (.Name x pos) (tC v) :=
 fun _ _ _ H _ I h=>pR I hg hm hv ⟨v,H,I,r,h⟩ hn hd
def t2I (ta tb:TE) (k:Int → Int → Hp → Prop):St → Hp → Prop:=fun σ H=>ta σ H fun x H1=>tb σ H1 fun y H2=>∃ i j,x = .int i ∧ y = .int j ∧ k i j H2
variable {a b:Expr} {ta tb:TE} {pos:Pos}
def PC (X:Cx) (op:CmpOp) (a b:Expr) (t:TE):Prop :=
 ∀ (pins:List (Addr × Obj)) (s:Shared) (σ:St) (H:Hp) (Q:VK),Inv X pins σ H s → t σ H Q →
  wpAny (model X.prog X.w) X.A (eval a X.env) (fun v s₁=>wpAny (model X.prog X.w) X.A (eval b X.env) (fun u s₂=>wpAny (model X.prog X.w) X.A (Be op v u) (EP X pins σ Q) X.xe s₂) X.xe s₁) X.xe s
def tCmp (p:Int → Int → Bool) (ta tb:TE):TE:=fun σ H Q=>t2I ta tb (fun i j H2=>Q (.bl (p i j)) H2) σ H
def tB (t:TE):TT:=fun σ H Q=>t σ H fun x H1=>∃ c,x = .bl c ∧ Q c H1
theorem aAJ {op:CmpOp} {t:TE} (h:PC X op a b t) (h1:Ed op b = false:=by first | exact nobehind _ (by decide) (by decide) | rfl):PT X (.Compare a [op] [b] pos) (tB t):=by
 intro pins s σ H Q I hw
 refine wpAny_isTrue_Compare1 (thn (h pins s σ H _ I hw) fun v s1 h1=>thn h1 fun u s2 h2=>thn h2 fun c s3 ⟨x,H1,I1,r1,q1⟩=>?_) h1
 obtain ⟨d,rfl,q⟩:=q1
 cases r1
 exact Bu ⟨H1,I1,q⟩
theorem dQ {e:Expr} {t:TE} (h:PE X e t) (he:∀ whole,isTrue e X.env whole = (do let v ← whole;standAt e.pos;holding [v] (truthy v)):=by intro _;rfl):PT X e (tB t):=by
 intro pins s σ H Q I hw
 refine isTrue_plain (thn (h pins s σ H _ I hw) fun v s1 ⟨x,H1,I1,r1,q1⟩=>?_) (he _)
 obtain ⟨d,rfl,q⟩:=q1
 cases r1
 exact Bu ⟨H1,I1,q⟩
variable {tA tB':TT} {rJ:List Expr}
def aTE (t u:TT):TT:=fun σ H Q=>t σ H fun c H1=>if c = true then u σ H1 Q else Q false H1
def tOr (t u:TT):TT:=fun σ H Q=>t σ H fun c H1=>if c = true then Q true H1 else u σ H1 Q
def aSX (t:TT):TT:=fun σ H Q=>t σ H fun c H1=>Q (!c) H1
theorem lT (ha:PT X a tA):PW X (.BoolOp .And [a] pos) tA:=by
 intro wh pins s σ H Q I h
 refine isTrue_and (thn (ha pins s σ H Q I h) fun c s1 e=>?_)
 cases c with
 | true=>exact isTrue_and_nil e
 | false=>exact e
theorem rK (ha:PT X a tA):PW X (.BoolOp .Or [a] pos) tA:=by
 intro wh pins s σ H Q I h
 refine isTrue_or (thn (ha pins s σ H Q I h) fun c s1 e=>?_)
 cases c with
 | false=>exact isTrue_or_nil e
 | true=>exact e
theorem nF (ha:PT X a tA) (hb:PW X (.BoolOp .And (b :: rJ) pos) tB'):PW X (.BoolOp .And (a :: b :: rJ) pos) (aTE tA tB'):=by
 intro wh pins s σ H Q I h
 refine isTrue_and (thn (ha pins s σ H _ I h) fun c s1 ⟨H1,I1,q1⟩=>?_)
 cases c with
 | true=>exact hb wh pins s1 σ H1 Q I1 q1
 | false=>exact ⟨H1,I1,q1⟩
theorem vD (ha:PT X a tA) (hb:PW X (.BoolOp .Or (b :: rJ) pos) tB'):PW X (.BoolOp .Or (a :: b :: rJ) pos) (tOr tA tB'):=by
 intro wh pins s σ H Q I h
 refine isTrue_or (thn (ha pins s σ H _ I h) fun c s1 ⟨H1,I1,q1⟩=>?_)
 cases c with
 | true=>exact ⟨H1,I1,q1⟩
 | false=>exact hb wh pins s1 σ H1 Q I1 q1
theorem eN (ha:PT X a tA):PT X (.UnaryOp .Not a pos) (aSX tA):=by
 intro pins s σ H Q I h
 exact isTrue_not (ha pins s σ H (fun c H1=>Q (!c) H1) I h)
def aRP (ta tb:TE):TE:=fun σ H Q=>ta σ H fun x H1=>∃ c,x = .bl c ∧ if c = true then tb σ H1 Q else Q (.bl false) H1
def aSW (ta tb:TE):TE:=fun σ H Q=>ta σ H fun x H1=>∃ c,x = .bl c ∧ if c = true then Q (.bl true) H1 else tb σ H1 Q
def aRK (ta:TE):TE:=fun σ H Q=>ta σ H fun x H1=>∃ c,x = .bl c ∧ Q (.bl (!c)) H1
theorem eO {op} {t:TE} (h:PE X a t):PE X (.BoolOp op [a] pos) t:=fun pins s σ H Q I hw=>BoolOp_one (h pins s σ H Q I hw)
theorem cZ (ha:PE X a ta) (hb:PE X (.BoolOp .And (b :: rJ) pos) tb):PE X (.BoolOp .And (a :: b :: rJ) pos) (aRP ta tb):=by
 intro pins s σ H Q I h
 refine BoolOp_and (thn (ha pins s σ H _ I h) fun v s1 ⟨x,H1,I1,r1,q1⟩=>?_)
 obtain ⟨c,rfl,q1⟩:=q1
 cases r1
 refine Bu ?_
 cases c with
 | true=>exact hb pins s1 σ H1 Q I1 q1
 | false=>exact ⟨.bl false,H1,I1,rfl,q1⟩
theorem aPN (ha:PE X a ta) (hb:PE X (.BoolOp .Or (b :: rJ) pos) tb):PE X (.BoolOp .Or (a :: b :: rJ) pos) (aSW ta tb):=by
 intro pins s σ H Q I h
 refine BoolOp_or (thn (ha pins s σ H _ I h) fun v s1 ⟨x,H1,I1,r1,q1⟩=>?_)
 obtain ⟨c,rfl,q1⟩:=q1
 cases r1
 refine Bu ?_
 cases c with
 | false=>exact hb pins s1 σ H1 Q I1 q1
 | true=>exact ⟨.bl true,H1,I1,rfl,q1⟩
theorem aQH (ha:PE X a ta):PE X (.UnaryOp .Not a pos) (aRK ta):=by
 intro pins s σ H Q I h
 refine UnaryOp_ (thn (ha pins s σ H _ I h) fun v s1 ⟨x,H1,I1,r1,q1⟩=>?_)
 obtain ⟨c,rfl,q1⟩:=q1
 cases r1
 exact not_of (Bu ⟨.bl (!c),H1,I1,rfl,q1⟩)
def tIf (t:TT) (ta tb:TE):TE:=fun σ H Q=>t σ H fun c H1=>if c = true then ta σ H1 Q else tb σ H1 Q
theorem aLA {c:Expr} (hc:PT X c tA) (ha:PE X a ta) (hb:PE X b tb):PE X (.IfExp c a b pos) (tIf tA ta tb):=by
 intro pins s σ H Q I h
 refine wpAny_IfExp (thn (hc pins s σ H _ I h) fun d s1 ⟨H1,I1,q1⟩=>?_)
 cases d with
 | true=>exact ha pins s1 σ H1 Q I1 q1
 | false=>exact hb pins s1 σ H1 Q I1 q1
end
end L2
namespace L2
open PySem PySem.Spec PyProof.Rows
def SqL (K:AG) (H:Hp) (a:Addr) (xs:List V):Prop :=
 Rd H a (.lst xs) ∨
  ∃ (o:Obj) (its:Array Value) (n:Nat),K.lookup a = some o ∧ o.cls = .type "list" ∧ o.dict = none ∧ o.data = .seq its n ∧ its.size ≤ An ∧ bC xs its.toList
def SqT (K:AG) (H:Hp) (a:Addr) (xs:List V):Prop :=
 Rd H a (.tup xs) ∨
  ∃ (o:Obj) (its:Array Value) (n:Nat),K.lookup a = some o ∧ o.cls = .type "tuple" ∧ o.data = .seq its n ∧ its.size ≤ An ∧ bC xs its.toList
def aTV:Value → Option V
 | .none=>some .non
 | .bool b=>some (.bl b)
 | .int i _=>some (.int i)
 | .str x _=>some (.str x)
 | .bytes b _=>some (.byt b)
 | .float b _=>some (.flt b)
 | .ref a=>some (.ref a)
 | .type n=>some (.ty n)
 | _=>none
theorem bG.abs {x:V} {u:Value} (r:bG x u):aTV u = some x:=by
 cases x with
 | non=>cases r;rfl
 | bl _=>cases r;rfl
 | int _=>obtain ⟨t,rfl⟩:=r;rfl
 | str _=>obtain ⟨t,rfl⟩:=r;rfl
 | byt _=>obtain ⟨t,rfl⟩:=r;rfl
 | flt _=>obtain ⟨t,rfl⟩:=r;rfl
 | ref _=>cases r;rfl
 | ty _=>cases r;rfl
theorem bG.inj {x y:V} {u:Value} (r:bG x u) (q:bG y u):x = y:=BH (r.abs.symm.trans q.abs)
theorem bC.inj:∀ {xs ys:List V} {us:List Value},bC xs us → bC ys us → xs = ys
 | _,_,_,.nil,.nil=>rfl
 | _,_,_,.cons r t,.cons r' t'=>by rw [r.inj r',bC.inj t t']
section
variable {X:Cx} {pins:List (Addr × Obj)} {σ:St} {H:Hp} {s:Shared} {a:Addr} {xs ys:List V}
theorem SqL.of {K:AG} (h:H a = some (.lst xs)):SqL K H a xs:=.inl (.inl h)
theorem SqT.of {K:AG} (h:H a = some (.tup xs)):SqT K H a xs:=.inl (.inl h)
theorem Inv.list (I:Inv X pins σ H s) (h:SqL X.K H a xs):∃ its:List Value,bC xs its ∧ PlainL s.heap a its.toArray ∧ xs.length ≤ An:=by
 rcases h with h | ⟨o,its,n,hk,hc,hd,hs,hz,r⟩
 ·obtain ⟨z,its,n,r,e⟩:=h.ok I.hok
  exact ⟨its,r,⟨_,n,e,rfl,rfl,rfl⟩,z⟩
 ·refine ⟨its.toList,r,⟨o,n,I.kIn a o hk,hc,hd,by simpa using hs⟩,?_⟩
  have e:=r.length
  simp only [BA] at e
  omega
theorem Inv.tuple (I:Inv X pins σ H s) (h:SqT X.K H a xs):∃ its:List Value,bC xs its ∧ IsTup s.heap a its.toArray ∧ xs.length ≤ An:=by
 rcases h with h | ⟨o,its,n,hk,hc,hs,hz,r⟩
 ·obtain ⟨z,its,r,p⟩:=h.ok I.hok
  exact ⟨its,r,p.tup,z⟩
 ·refine ⟨its.toList,r,⟨o,I.kIn a o hk,hc,n,by simpa using hs⟩,?_⟩
  have e:=r.length
  simp only [BA] at e
  omega
theorem Inv.list_inj (I:Inv X pins σ H s) (h:SqL X.K H a xs) (h':SqL X.K H a ys):xs = ys:=by
 obtain ⟨its,r,⟨o,n,e,_,_,d⟩,_⟩:=I.list h
 obtain ⟨its',r',⟨o',n',e',_,_,d'⟩,_⟩:=I.list h'
 rw [e] at e';cases e'
 rw [d] at d'
 injection d' with d1 _
 have:its = its':=by simpa using congrArg Array.toList d1
 subst this
 exact r.inj r'
theorem Inv.tuple_inj (I:Inv X pins σ H s) (h:SqT X.K H a xs) (h':SqT X.K H a ys):xs = ys:=by
 obtain ⟨its,r,⟨o,e,_,n,d⟩,_⟩:=I.tuple h
 obtain ⟨its',r',⟨o',e',_,n',d'⟩,_⟩:=I.tuple h'
 rw [e] at e';cases e'
 rw [d] at d'
 injection d' with d1 _
 have:its = its':=by simpa using congrArg Array.toList d1
 subst this
 exact r.inj r'
end
abbrev Cx.wish (X:Cx) (E:Value → Shared → Prop):Cx:={ X with xe:=E }
abbrev Cx.nox (X:Cx):Cx:=X.wish fun _ _=>False
theorem Cx.Ok.wish {X:Cx} (ok:X.Ok) (E:Value → Shared → Prop):(X.wish E).Ok :=
 ⟨ok.mod,ok.kind,ok.glob,ok.blt,ok.above,ok.inj,ok.has,ok.cab,ok.hd,ok.frames,ok.stk,ok.exf,ok.bs,ok.bsz,ok.noex,ok.exfs,ok.funs,ok.frf⟩
theorem Cx.Ok.unwish {X:Cx} {E:Value → Shared → Prop} (ok:(X.wish E).Ok):X.Ok :=
 ⟨ok.mod,ok.kind,ok.glob,ok.blt,ok.above,ok.inj,ok.has,ok.cab,ok.hd,ok.frames,ok.stk,ok.exf,ok.bs,ok.bsz,ok.noex,ok.exfs,ok.funs,ok.frf⟩
section
variable {X:Cx} {pins:List (Addr × Obj)} {σ:St} {H:Hp} {s:Shared} {E:Value → Shared → Prop}
theorem Inv.wish (I:Inv X pins σ H s) (E:Value → Shared → Prop):Inv (X.wish E) pins σ H s:=⟨I.ok.wish E,I.os,I.bare,I.base,I.loc,I.cell,I.free,I.freeC,I.pin,I.hok,I.len⟩
theorem Inv.unwish (I:Inv (X.wish E) pins σ H s):Inv X pins σ H s:=⟨I.ok.unwish,I.os,I.bare,I.base,I.loc,I.cell,I.free,I.freeC,I.pin,I.hok,I.len⟩
theorem SP.unwish {D:Ends} {f:Flow} {s':Shared} (h:SP (X.wish E) pins D f s'):SP X pins D f s':=by
 cases f with
 | next=>obtain ⟨σ',H',I,q⟩:=h;exact ⟨σ',H',I.unwish,q⟩
 | brk=>obtain ⟨σ',H',I,q⟩:=h;exact ⟨σ',H',I.unwish,q⟩
 | cont=>obtain ⟨σ',H',I,q⟩:=h;exact ⟨σ',H',I.unwish,q⟩
 | ret u=>obtain ⟨v,σ',H',I,r,q⟩:=h;exact ⟨v,σ',H',I.unwish,r,q⟩
theorem PSs.nox {st:List Stmt} {t:TS} (h:PSs X.nox st t):PSs X st t:=fun pins s σ H D I hw =>
 BJ (h pins s σ H D (I.wish _) hw) (fun _ _ q=>q.unwish) fun _ _ z=>Bb z
end
section
variable {X:Cx} {st:Stmt} {rJ:List Stmt} {t u:TS} {e:Expr} {te:TE} {pos:Pos}
def aRL:TS:=fun D σ H=>D.nx σ H
def kK (t u:TS):TS:=fun D σ H=>t { D with nx:=u D } σ H
theorem cE:PSs X [] aRL:=fun _ _ σ H _ I h=>FC ⟨σ,H,I,h⟩
theorem aG (h1:PS X st t) (h2:PSs X rJ u):PSs X (st :: rJ) (kK t u):=by
 intro pins s σ H D I h
 refine wpAny_execs_cons (thn (h1 pins s σ H { D with nx:=u D } I h) fun f s1 q=>?_)
 cases f with
 | next =>
  obtain ⟨σ',H',I',q⟩:=q
  exact h2 pins s1 σ' H' D I' q
 | ret v=>exact q
 | brk=>exact q
 | cont=>exact q
theorem aH (h1:PS X st t):PSs X [st] t:=by
 intro pins s σ H D I h
 refine wpAny_execs_cons (thn (h1 pins s σ H D I h) fun f s1 q=>?_)
 cases f with
 | next=>exact FC q
 | ret v=>exact q
 | brk=>exact q
 | cont=>exact q
theorem Inv.quiet {pins:List (Addr × Obj)} {σ:St} {H:Hp} {s:Shared} (I:Inv X pins σ H s):interactive X.env = false:=by simp [interactive,I.ok.kind]
def aRN (te:TE):TS:=fun D σ H=>te σ H fun _ H1=>D.nx σ H1
theorem iL (he:PE X e te) (hs:swapsWith e none pos.line X.env = pure false:=by rfl):PS X (.Expr e pos) (aRN te):=by
 intro pins s σ H D I h
 exact wpAny_Expr_any (thn (he pins s σ H _ I h) fun v s1 ⟨x,H1,I1,r1,q1⟩=>⟨σ,H1,I1,q1⟩) I.quiet hs
def aSV (te:TE):TS:=fun D σ H=>te σ H D.rt
theorem aQ (he:PE X e te):PS X (.Return (some e) pos) (aSV te):=by
 intro pins s σ H D I h
 exact wpAny_Return_some (thn (he pins s σ H _ I h) fun v s1 ⟨x,H1,I1,r1,q1⟩=>⟨x,σ,H1,I1,r1,q1⟩)
def aSZ (c:TT) (t u:TS):TS:=fun D σ H=>c σ H fun b H1=>if b = true then t D σ H1 else u D σ H1
theorem fB {c:Expr} {a b:List Stmt} {tc:TT} (hc:PT X c tc) (ha:PSs X a t) (hb:PSs X b u):PS X (.If c a b pos) (aSZ tc t u):=by
 intro pins s σ H D I h
 refine wpAny_If (thn (hc pins s σ H _ I h) fun d s1 ⟨H1,I1,q1⟩=>?_)
 cases d with
 | true=>exact ha pins s1 σ H1 D I1 q1
 | false=>exact hb pins s1 σ H1 D I1 q1
def aPX:TS:=fun _ _ _=>False
theorem lA:PS X st aPX:=fun _ _ _ _ _ _ h=>h.elim
end
abbrev TG:=V → St → Hp → (St → Hp → Prop) → Prop
abbrev TGs:=List V → St → Hp → (St → Hp → Prop) → Prop
def PG (X:Cx) (target:Expr) (t:TG):Prop :=
 ∀ (pins:List (Addr × Obj)) (s:Shared) (σ:St) (H:Hp) (v:V) (u:Value) (Q:St → Hp → Prop),Inv X pins σ H s → bG v u → t v σ H Q →
  wpAny (model X.prog X.w) X.A (assign target X.env u) (fun _ s'=>∃ σ' H',Inv X pins σ' H' s' ∧ Q σ' H') X.xe s
def PGs (X:Cx) (ts:List Expr) (t:TGs):Prop :=
 ∀ (pins:List (Addr × Obj)) (s:Shared) (σ:St) (H:Hp) (vs:List V) (us:List Value) (Q:St → Hp → Prop),Inv X pins σ H s → bC vs us → t vs σ H Q →
  wpAny (model X.prog X.w) X.A (assignInOrder ((Ex ts X.env).map (·.2)) us) (fun _ s'=>∃ σ' H',Inv X pins σ' H' s' ∧ Q σ' H') X.xe s
abbrev TSet:=V → V → V → Hp → (Hp → Prop) → Prop
abbrev TIp:=V → V → Hp → VK → Prop
section
variable {X:Cx} {pos:Pos}
def wG (i:Nat):TG:=fun v σ H Q=>Q (σ.set i (some v)) H
theorem aU {i:Nat} {x:Str} (hN:X.N.Nodup) (hi:X.N[i]? = some x) (hx:Loc X.env.scope x) (hf:X.fn x = true ∨ X.env.scope.names.lookup x = some .local:=by first | exact .inl rfl | exact .inr rfl | assumption):PG X (.Name x pos) (wG i):=by
 intro pins s σ H v u Q I r h
 exact wpAny_assign_Name (aBX I hN hi hx r (fun s' I'=>⟨_,H,I',h⟩) hf)
def aTR:TGs:=fun vs σ H Q=>vs = [] ∧ Q σ H
def aSN (t:TG) (u:TGs):TGs:=fun vs σ H Q=>∃ v r,vs = v :: r ∧ t v σ H fun σ' H'=>u r σ' H' Q
theorem qF:PGs X [] aTR:=by
 intro pins s σ H vs us Q I r h
 obtain ⟨e,h⟩:=h
 subst e
 cases r
 exact assignInOrder_nil ⟨σ,H,I,h⟩
theorem fX {e:Expr} {es:List Expr} {t:TG} {u:TGs} (h1:PG X e t) (h2:PGs X es u)
  (hs:(Ex (e :: es) X.env).map (·.2) = assign e X.env :: (Ex es X.env).map (·.2):=by rfl):PGs X (e :: es) (aSN t u):=by
 intro pins s σ H vs us Q I r h
 obtain ⟨v,vr,e1,h⟩:=h
 subst e1
 cases r with
 | cons r rr =>
  rw [hs]
  refine assignInOrder_cons (thn (h1 pins s σ H _ _ _ I r h) fun _ s1 ⟨σ1,H1,I1,q1⟩=>?_)
  exact h2 pins s1 σ1 H1 _ _ Q I1 rr q1
def aTQ (K:AG) (n:Nat) (t:TGs):TG:=fun v σ H Q=>∃ a xs,v = .ref a ∧ SqT K H a xs ∧ xs.length = n ∧ t xs σ H Q
theorem vG {es:List Expr} {k:Nat} {t:TGs} {n:Nat} (hc:X.calm = true) (h:PGs X es t)
  (hn:(Ex es X.env).length = n:=by rfl) (hst:(Ex es X.env).findIdx? (·.1) = none:=by rfl):PG X (.Tuple es k pos) (aTQ X.K n t):=by
 intro pins s σ H v u Q I r hw
 obtain ⟨a,xs,e1,hq,hl,hw⟩:=hw
 subst e1
 cases r
 obtain ⟨its,rv,ht,hz⟩:=I.tuple hq
 refine assign_Tuple_tuple (I.ok.hd hc) ht (by simp [hn,← hl,rv.length]) hst fun h' hx=>?_
 have I1:Inv X pins σ H { s with heap:=h' }:=I.kept (t':=s.toks) fun b o e=>hx b o (Ad (AX e)) e
 exact h pins _ σ H xs _ Q I1 (by simpa using rv) hw
def aPZ (te:TE) (g:TG):TS:=fun D σ H=>te σ H fun x H1=>g x σ H1 D.nx
theorem aAK {tg e:Expr} {te:TE} {g:TG} (he:PE X e te) (hg:PG X tg g) (hs:swapsWithSole [tg] e pos.line X.env = pure false:=by rfl) (hw:swappedStores [tg] e X.env = pure none:=by rfl)
  (h1:(Ex [tg] X.env).map (·.2) = [assign tg X.env]:=by rfl):PS X (.Assign [tg] e pos) (aPZ te g):=by
 intro pins s σ H D I h
 refine wpAny_Assign_stores (thn (he pins s σ H _ I h) fun v s1 ⟨x,H1,I1,r1,q1⟩=>?_) hs hw
 rw [h1]
 exact thn (hg pins s1 σ H1 x v _ I1 r1 q1) fun _ s2 q=>q
theorem aZ {i:Nat} {x:Str} {e:Expr} {te:TE} {pos':Pos} (hN:X.N.Nodup) (hi:X.N[i]? = some x) (hx:Loc X.env.scope x) (he:PE X e te) (hs:swapsWith e (some (.Name x pos')) pos.line X.env = pure false:=by rfl) (hf:X.fn x = true ∨ X.env.scope.names.lookup x = some .local:=by first | exact .inl rfl | exact .inr rfl | assumption) :
  PS X (.Assign [.Name x pos'] e pos) (aPZ te (wG i)):=by
 intro pins s σ H D I h
 refine wpAny_Assign_Name (thn (he pins s σ H _ I h) fun v s1 ⟨y,H1,I1,r1,q1⟩=>?_) hs
 exact aBX I1 hN hi hx r1 (fun s2 I2=>⟨_,H1,I2,q1⟩) hf
end
section
variable {X:Cx} {pos:Pos}
def aJK (c:TT) (tb:TS):TS:=fun D σ H=>∃ W:Nat → St → Hp → Prop,(∃ m,W m σ H) ∧ ∀ m σ H,W m σ H →
 c σ H fun b H1=>if b = true then ∃ N:St → Hp → Prop,(∀ σ' H',N σ' H' → ∃ m',m' < m ∧ W m' σ' H') ∧ tb { D with nx:=N,ct:=N,bk:=D.nx } σ H1 else D.nx σ H1
theorem vE {c:Expr} {body:List Stmt} {tc:TT} {tb:TS} (hp:CQ (model X.prog X.w) X.A X.env X.xe) (hc:PT X c tc) (hb:PSs X body tb):PS X (.While c body [] pos) (aJK tc tb):=by
 intro pins s σ H D I h
 obtain ⟨W,⟨m0,w0⟩,turn⟩:=h
 refine wpAny_While (codeAny_whileLoop (fun n s'=>∃ σ' H',Inv X pins σ' H' s' ∧ W n σ' H') ?_ m0 ⟨σ,H,I,w0⟩)
 rintro n s1 ⟨σ1,H1,I1,w1⟩
 refine DE hp (thn (hc pins s1 σ1 H1 _ I1 (turn n σ1 H1 w1)) fun b s2 ⟨H2,I2,q2⟩=>?_)
 cases b with
 | true =>
  obtain ⟨N,hN,q2⟩:=q2
  rw [if_pos rfl]
  refine DE hp (thn (hb pins s2 σ1 H2 _ I2 q2) fun f s3 q3=>?_)
  cases f with
  | next =>
   obtain ⟨σ3,H3,I3,n3⟩:=q3
   obtain ⟨m',hm,w3⟩:=hN σ3 H3 n3
   exact ⟨m',hm,σ3,H3,I3,w3⟩
  | cont =>
   obtain ⟨σ3,H3,I3,n3⟩:=q3
   obtain ⟨m',hm,w3⟩:=hN σ3 H3 n3
   exact ⟨m',hm,σ3,H3,I3,w3⟩
  | brk=>exact q3
  | ret v=>exact q3
 | false =>
  rw [if_neg Ab]
  exact FC ⟨σ1,H2,I2,q2⟩
end
structure It where
 go:Nat → Hp → Prop
 yld:Nat → Hp → V → Hp → Prop
 stop:Nat → Hp → Prop
def aBM (X:Cx) (pins:List (Addr × Obj)) (H:Hp) (b:Addr):Prop :=
 H b = none ∧ b ≠ X.env.locals ∧ b ∉ X.fs ∧ (b ∈ X.ex ∨ X.s₀.heap.objs.size ≤ b) ∧ (∀ x c,X.env.cells.lookup x = some c → c ≠ b) ∧ ∀ p ∈ X.pn ++ pins,p.1 ≠ b
theorem Inv.fpOk {X:Cx} {pins:List (Addr × Obj)} {σ:St} {H H':Hp} {s:Shared} {b:Addr} (I:Inv X pins σ H s) (hb:s.heap.objs.size ≤ b) (hn:H' b = none):aBM X pins H' b:=by
 refine ⟨hn,Du (Ah I.lt hb),I.nofs hb,.inr (BB I.sz hb),fun x c e z=>?_,fun p hp z=>?_⟩
 ·obtain ⟨v,q⟩:=I.cell x c e
  exact absurd (Ah q.lt (by rw [z];exact hb)) (DB _)
 ·exact absurd (Ah (AX (I.pin p hp).1) (by rw [z];exact hb)) (DB _)
structure Turn (P:Program) (w:World) (K:AG) (tg:Expr) (J:It) (fp:List Addr) (it:Addr) (tn:Nat → Heap → Prop):Prop where
 mem:it ∈ fp
 obj:∀ i h,tn i h → ∀ b ∈ fp,∃ o,h.get? b = some o ∧ ∀ v,o.data ≠ .cell v
 keep:∀ i h h',tn i h → (∀ b ∈ fp,∀ o,h.get? b = some o → h'.get? b = some o) → tn i h'
 item:∀ (X:Cx),X.prog = P → X.w = w → X.K = K → X.calm = true → ∀ (i:Nat) (pins:List (Addr × Obj)) (s:Shared) (σ:St) (H:Hp) (E:Value → Shared → Prop),Inv X pins σ H s → (∀ b ∈ fp,aBM X pins H b) → tn i s.heap → J.go i H →
  wpAny (model P w) X.A (pyNext (.ref it)) (fun r s1=>∃ u,r = some u ∧
   wpAny (model P w) X.A (FE tg (.ref it) u) (fun _ s2=>∃ x H',Inv X pins σ H' s2 ∧ bG x u ∧ J.yld i H x H' ∧ tn (i + 1) s2.heap ∧ ∀ b ∈ fp,H' b = none) E s1) E s
 done:∀ (X:Cx),X.prog = P → X.w = w → X.K = K → X.calm = true → ∀ (i:Nat) (pins:List (Addr × Obj)) (s:Shared) (σ:St) (H:Hp) (E:Value → Shared → Prop),Inv X pins σ H s → (∀ b ∈ fp,aBM X pins H b) → tn i s.heap → J.stop i H →
  wpAny (model P w) X.A (pyNext (.ref it)) (fun r s1=>r = none ∧ Inv X pins σ H s1) E s
 self:∀ (A:Around) (i:Nat) (s:Shared) (Q:Value → Shared → Prop) (E:Value → Shared → Prop),tn i s.heap → Q (.ref it) s → wpAny (model P w) A (pyIter (.ref it)) Q E s
abbrev TI:=St → Hp → (It → Hp → Prop) → Prop
def PIE (X:Cx) (pins:List (Addr × Obj)) (σ:St) (tg:Expr) (R:It → Hp → Prop) (itv:Value) (s2:Shared):Prop :=
 ∃ (it:Addr) (fp:List Addr) (tn:Nat → Heap → Prop) (J:It) (H':Hp),itv = .ref it ∧ Inv X pins σ H' s2 ∧ Turn X.prog X.w X.K tg J fp it tn ∧ tn 0 s2.heap ∧ (∀ b ∈ fp,aBM X pins H' b) ∧ R J H'
def PI (X:Cx) (tg iter:Expr) (wi:TI):Prop :=
 ∀ (pins:List (Addr × Obj)) (s:Shared) (σ:St) (H:Hp) (R:It → Hp → Prop),Inv X pins σ H s → wi σ H R →
  wpAny (model X.prog X.w) X.A (eval iter X.env) (fun v s1=>wpAny (model X.prog X.w) X.A (pyIter v) (PIE X pins σ tg R) X.xe s1) X.xe s
theorem yX {M:Model} {A:Around} {E:Value → Shared → Prop} {s:Shared} {tg:Expr} {it:Addr} {u:Value} {o:Obj} {n:String} {vs:Array Value} {Q:Unit → Shared → Prop} (ho:s.heap.get? it = some o) (hc:o.cls = .type n) (hd:o.data = .fields vs)
    (hn:["enumerate","zip","dict_itemiterator","dict_reverseitemiterator","odict_iterator","itertools.zip_longest","itertools.pairwise"].contains n = false) (hQ:Q () s):wpAny M A (FE tg (.ref it) u) Q E s:=by
  unfold FE
  cases tg <;> first
    | exact AF hQ
    | (cases u <;> first
        | exact AF hQ
        | (refine AB (wpAny_load ho ?_)
           rw [hc,hd]
           show wpAny M A (if (["enumerate","zip","dict_itemiterator","dict_reverseitemiterator","odict_iterator","itertools.zip_longest","itertools.pairwise"].contains n && vs[0]? == some (rawInt _)) = true then _ else _) Q E s
           rw [if_neg (by intro h;rw [hn,Ev] at h;cases h)]
           exact AF hQ))
def Itl (K:AG) (a:Addr):It :=
 ⟨fun i H=>∃ xs x,SqL K H a xs ∧ xs[i]? = some x,fun i H x H'=>H' = H ∧ ∀ xs,SqL K H a xs → xs[i]? = some x,fun i H=>∃ xs,SqL K H a xs ∧ xs.length ≤ i⟩
def Itt (K:AG) (a:Addr):It :=
 ⟨fun i H=>∃ xs x,SqT K H a xs ∧ xs[i]? = some x,fun i H x H'=>H' = H ∧ ∀ xs,SqT K H a xs → xs[i]? = some x,fun i H=>∃ xs,SqT K H a xs ∧ xs.length ≤ i⟩
def Itr (lo:Int) (n:Nat):It:=⟨fun i _=>i < n,fun i H x H'=>H' = H ∧ x = .int (lo + i),fun i _=>n ≤ i⟩
theorem aHI {P:Program} {w:World} {K:AG} {tg:Expr} (a it:Addr):Turn P w K tg (Itl K a) [it] it (fun i h=>h.IsListIter it a i) where
 mem:=by simp
 obj:=fun i h st b hb=>by
  have e:b = it:=by simpa using hb
  subst e
  obtain ⟨o,e,c,d⟩:=st
  exact ⟨o,e,fun v z=>by rw [d] at z;cases z⟩
 keep:=fun i h h' st k=>st.at fun o e=>k it (by simp) o e
 item:=by
  intro X hP hw hK hc i pins s σ H E I hf st hg
  subst hP hw hK
  obtain ⟨xs,x,hq,hx⟩:=hg
  obtain ⟨its,rv,p,hz⟩:=I.list hq
  obtain ⟨u,hu,ru⟩:=rv.get hx
  obtain ⟨f0,f1,f2,f3,f4,f5⟩:=hf it (by simp)
  refine wpAny_pyNext_list_item st p.isList (x:=u) (by simpa using hu) fun h' st' sb=>?_
  have I1:Inv X pins σ H { s with heap:=h' }:=I.turned (t':=s.toks) (fun b o hb e=>(sb.2 b hb).trans e) f0 f1 f3 f4 f5
  obtain ⟨o,e,c,d⟩:=id st'
  exact ⟨u,rfl,yX (s:={ s with heap:=h' }) e c d (by decide) ⟨x,H,I1,ru,⟨rfl,fun ys hy=>by rw [I.list_inj hy hq];exact hx⟩,st',fun b hb=>(hf b hb).1⟩⟩
 done:=by
  intro X hP hw hK hc i pins s σ H E I hf st hg
  subst hP hw hK
  obtain ⟨xs,hq,hx⟩:=hg
  obtain ⟨its,rv,p,hz⟩:=I.list hq
  obtain ⟨f0,f1,f2,f3,f4,f5⟩:=hf it (by simp)
  have hl:=rv.length
  exact wpAny_pyNext_list_end (I.ok.hd hc) st p.isList (by simp;omega) fun h' eb=>⟨rfl,I.turned (t':=s.toks) (fun b o hb e=>eb b o hb e) f0 f1 f3 f4 f5⟩
 self:=fun _ _ _ _ _ st h=>wpAny_pyIter_listiter st h
theorem aEA {P:Program} {w:World} {K:AG} {tg:Expr} (a it:Addr):Turn P w K tg (Itt K a) [it] it (fun i h=>h.IsTupleIter it a i) where
 mem:=by simp
 obj:=fun i h st b hb=>by
  have e:b = it:=by simpa using hb
  subst e
  obtain ⟨o,e,c,d⟩:=st
  exact ⟨o,e,fun v z=>by rw [d] at z;cases z⟩
 keep:=fun i h h' st k=>st.at fun o e=>k it (by simp) o e
 item:=by
  intro X hP hw hK hc i pins s σ H E I hf st hg
  subst hP hw hK
  obtain ⟨xs,x,hq,hx⟩:=hg
  obtain ⟨its,rv,p,hz⟩:=I.tuple hq
  obtain ⟨u,hu,ru⟩:=rv.get hx
  obtain ⟨f0,f1,f2,f3,f4,f5⟩:=hf it (by simp)
  refine wpAny_pyNext_tuple_item st (show s.heap.IsTuple a its.toArray from p) (x:=u) (by simpa using hu) fun h' st' sb=>?_
  have I1:Inv X pins σ H { s with heap:=h' }:=I.turned (t':=s.toks) (fun b o hb e=>(sb.2 b hb).trans e) f0 f1 f3 f4 f5
  obtain ⟨o,e,c,d⟩:=id st'
  exact ⟨u,rfl,yX (s:={ s with heap:=h' }) e c d (by decide) ⟨x,H,I1,ru,⟨rfl,fun ys hy=>by rw [I.tuple_inj hy hq];exact hx⟩,st',fun b hb=>(hf b hb).1⟩⟩
 done:=by
  intro X hP hw hK hc i pins s σ H E I hf st hg
  subst hP hw hK
  obtain ⟨xs,hq,hx⟩:=hg
  obtain ⟨its,rv,p,hz⟩:=I.tuple hq
  obtain ⟨f0,f1,f2,f3,f4,f5⟩:=hf it (by simp)
  have hl:=rv.length
  exact wpAny_pyNext_tuple_end (I.ok.hd hc) st (show s.heap.IsTuple a its.toArray from p) (by simp;omega) fun h' eb=>⟨rfl,I.turned (t':=s.toks) (fun b o hb e=>eb b o hb e) f0 f1 f3 f4 f5⟩
 self:=fun _ _ _ _ _ st h=>wpAny_pyIter_tupleiter st h
theorem aEB {P:Program} {w:World} {K:AG} {tg:Expr} (it:Addr) (lo:Int) (n:Nat):Turn P w K tg (Itr lo n) [it] it (fun i h=>IsRangeIter h it (lo + (i:Nat) * 1) ((n:Int) - (i:Nat)) 1) where
 mem:=by simp
 obj:=fun i h st b hb=>by
  have e:b = it:=by simpa using hb
  subst e
  exact ⟨_,st,fun v z=>by
   have z':Data.fields _ = Data.cell v:=z
   cases z'⟩
 keep:=fun i h h' st k=>k it (by simp) _ st
 item:=by
  intro X hP hw hK hc i pins s σ H E I hf st hg
  subst hP hw hK
  obtain ⟨f0,f1,f2,f3,f4,f5⟩:=hf it (by simp)
  have W:=Walks.range (prog:=X.prog) (w:=X.w) (I.ok.hd hc) it lo 1 n
  refine W.item i s _ _ hg st fun v h' tk hv st' kk=>?_
  obtain ⟨t,rfl⟩:=hv
  have I1:Inv X pins σ H { s with heap:=h',toks:=tk }:=I.turned (fun b o hb e=>kk b o (by simpa using hb) e) f0 f1 f3 f4 f5
  refine ⟨_,rfl,yX (s:={ s with heap:=h',toks:=tk }) (n:="range_iterator") st' rfl rfl (by decide) ⟨.int (lo + i),H,I1,⟨t,?_⟩,⟨rfl,rfl⟩,st',fun b hb=>(hf b hb).1⟩⟩
  rw [Int.mul_one]
 done:=by
  intro X hP hw hK hc i pins s σ H E I hf st hg
  subst hP hw hK
  obtain ⟨f0,f1,f2,f3,f4,f5⟩:=hf it (by simp)
  exact wpAny_pyNext_range_end (I.ok.hd hc) st (by have:n ≤ i:=hg;omega) fun h' eb=>⟨rfl,I.turned (t':=s.toks) (fun b o hb e=>eb b o hb e) f0 f1 f3 f4 f5⟩
 self:=fun _ _ _ _ _ st h=>wpAny_pyIter_rangeiter st h
end L2
namespace L2
open PySem PySem.Spec PyProof.Rows
section
variable {X:Cx} {tg:Expr}
def aSL (K:AG) (tl:TE):TI:=fun σ H R=>tl σ H fun x H1=>∃ a,x = .ref a ∧ (∃ xs,SqL K H1 a xs) ∧ R (Itl K a) H1
def aTO (K:AG) (tl:TE):TI:=fun σ H R=>tl σ H fun x H1=>∃ a,x = .ref a ∧ (∃ xs,SqT K H1 a xs) ∧ R (Itt K a) H1
theorem bT {l:Expr} {tl:TE} (hl:PE X l tl):PI X tg l (aSL X.K tl):=by
 intro pins s σ H R I h
 refine thn (hl pins s σ H _ I h) fun v s1 ⟨x,H1,I1,r1,q1⟩=>?_
 obtain ⟨a,e,⟨xs,hq⟩,q⟩:=q1
 subst e
 cases r1
 obtain ⟨its,rv,p,hz⟩:=I1.list hq
 refine DG p.isList ?_
 refine ⟨s1.heap.objs.size,[s1.heap.objs.size],_,_,H1,rfl,I1.kept (t':=s1.toks) fun b o e=>AC _ e,aHI a _,⟨_,AN _ rfl,rfl,rfl⟩,fun b hb=>?_,q⟩
 have e:b = s1.heap.objs.size:=by simpa using hb
 subst e
 exact I1.fpOk (AL _) (I1.hok.fresh (AL _))
theorem aKV {l:Expr} {tl:TE} (hl:PE X l tl):PI X tg l (aTO X.K tl):=by
 intro pins s σ H R I h
 refine thn (hl pins s σ H _ I h) fun v s1 ⟨x,H1,I1,r1,q1⟩=>?_
 obtain ⟨a,e,⟨xs,hq⟩,q⟩:=q1
 subst e
 cases r1
 obtain ⟨its,rv,p,hz⟩:=I1.tuple hq
 refine wpAny_pyIter_tuple (show s1.heap.IsTuple a its.toArray from p) ?_
 refine ⟨s1.heap.objs.size,[s1.heap.objs.size],_,_,H1,rfl,I1.kept (t':=s1.toks) fun b o e=>AC _ e,aEA a _,⟨_,AN _ rfl,rfl,rfl⟩,fun b hb=>?_,q⟩
 have e:b = s1.heap.objs.size:=by simpa using hb
 subst e
 exact I1.fpOk (AL _) (I1.hok.fresh (AL _))
theorem aKQ {pins:List (Addr × Obj)} {σ:St} {H:Hp} {s:Shared} {R:It → Hp → Prop} {E:Value → Shared → Prop} {lo hi:Int} {t u v:Tok} {tk:Nat} (I:Inv X pins σ H s) (h1:-(2 ^ 62) ≤ lo) (h2:lo < 2 ^ 62) (h3:-(2 ^ 62) ≤ hi) (h4:hi < 2 ^ 62)
  (q:R (Itr lo (hi - lo).toNat) H):wpAny (model X.prog X.w) X.A (pyIter (.ref s.heap.objs.size)) (PIE X pins σ tg R) E { s with heap:=s.heap.push { cls:=.type "range",data:=.fields #[.int lo t,.int hi u,.int 1 v] },toks:=tk }:=by
 refine wpAny_pyIter_range (IsRange.new ..) (small_one h1 h2 h3 h4) ?_
 have I1:Inv X pins σ H { s with heap:=s.heap.push { cls:=.type "range",data:=.fields #[.int lo t,.int hi u,.int 1 v] },toks:=tk }:=I.kept fun b o e=>AC _ e
 refine ⟨(s.heap.push { cls:=.type "range",data:=.fields #[.int lo t,.int hi u,.int 1 v] }).objs.size,[(s.heap.push { cls:=.type "range",data:=.fields #[.int lo t,.int hi u,.int 1 v] }).objs.size],_,_,H,rfl,
  I1.kept (t':=tk) fun b o e=>AC _ e,aEB _ lo (hi - lo).toNat,?_,fun b hb=>?_,q⟩
 ·have e1:lo + ((0:Nat):Int) * 1 = lo:=by simp
  have e2:(((hi - lo).toNat:Nat):Int) - ((0:Nat):Int) = Builtin.Range.rangeSize lo hi 1:=by rw [rangeSize_one];split <;> omega
  show IsRangeIter _ _ (lo + ((0:Nat):Int) * 1) ((((hi - lo).toNat:Nat):Int) - ((0:Nat):Int)) 1
  rw [e1,e2]
  exact AN _ rfl
 ·have e:b = (s.heap.push { cls:=.type "range",data:=.fields #[.int lo t,.int hi u,.int 1 v] }).objs.size:=by simpa using hb
  subst e
  exact I1.fpOk (AL _) (I1.hok.fresh (AL _))
def aSK (ta:TA):TI:=fun σ H R=>ta σ H fun vs H1=>∃ j:Int,vs = [.int j] ∧ -(2 ^ 62) ≤ j ∧ j < 2 ^ 62 ∧ R (Itr 0 j.toNat) H1
theorem jH {a:Expr} {ta:TA} {p pos:Pos} (hg:Gl X "range") (hm:X.mg "range" = none) (ha:PA X [a] ta) (hs:As [a] X.env = [(false,eval a X.env)]:=by rfl):PI X tg (.Call (.Name "range" p) [a] [] pos) (aSK ta):=by
 intro pins s σ H R I h
 refine Call_ (pR I hg hm boot_range (Cq (thn (ha pos pins s σ H _ I h) fun us s1 ⟨vs,H1,I1,r1,q1⟩=>?_) hs rfl))
 obtain ⟨j,e,q1,q2,q⟩:=q1
 subst e
 cases r1 with
 | cons r rr =>
  cases rr
  obtain ⟨t,rfl⟩:=r
  exact call_range_1 (aKQ I1 (by omega) (by omega) q1 q2 (by simpa using q))
def aTA (wi:TI) (g:TG) (tb:TS):TS:=fun D σ H=>wi σ H fun J H1=>∃ W:Nat → Nat → St → Hp → Prop,(∃ m,W 0 m σ H1) ∧ ∀ i m σ H,W i m σ H →
 (J.stop i H ∧ D.nx σ H) ∨ (J.go i H ∧ ∃ N:St → Hp → Prop,(∀ σ' H',N σ' H' → ∃ m',m' < m ∧ W (i + 1) m' σ' H') ∧ ∀ x H',J.yld i H x H' → g x σ H' fun σ2 H2=>tb { D with nx:=N,ct:=N,bk:=D.nx } σ2 H2)
def nG (fp:List Addr) (h:Heap):List (Addr × Obj):=fp.filterMap fun b=>(h.get? b).map fun o=>(b,o)
theorem mD {fp:List Addr} {h:Heap} {b:Addr} {o:Obj} (hb:b ∈ fp) (e:h.get? b = some o):(b,o) ∈ nG fp h:=List.mem_filterMap.mpr ⟨b,hb,by rw [e];rfl⟩
theorem yK {fp:List Addr} {h:Heap} {p:Addr × Obj} (hp:p ∈ nG fp h):p.1 ∈ fp ∧ h.get? p.1 = some p.2:=by
 obtain ⟨b,hb,e⟩:=List.mem_filterMap.mp hp
 cases q:h.get? b with
 | none=>rw [q] at e;cases e
 | some o =>
  rw [q] at e
  have e':(b,o) = p:=BH e
  subst e'
  exact ⟨hb,q⟩
theorem Inv.pinned {pins:List (Addr × Obj)} {σ:St} {H:Hp} {s:Shared} {fp:List Addr} (I:Inv X pins σ H s) (hf:∀ b ∈ fp,aBM X pins H b) (ho:∀ b ∈ fp,∃ o,s.heap.get? b = some o ∧ ∀ v,o.data ≠ .cell v):Inv X (pins ++ nG fp s.heap) σ H s :=
 I.pins_of fun p hp=>(Ak.mp hp).elim (fun z=>I.pin p (Aj _ z)) fun z=>by
  obtain ⟨hb,e⟩:=yK z
  obtain ⟨f0,f1,f2,_⟩:=hf p.1 hb
  obtain ⟨o,e',d⟩:=ho p.1 hb
  rw [e] at e';cases e'
  exact ⟨e,f0,f1,f2,d⟩
theorem Inv.unpinned {pins pl:List (Addr × Obj)} {σ:St} {H:Hp} {s:Shared} (I:Inv X (pins ++ pl) σ H s):Inv X pins σ H s:=I.pins_of fun p hp=>I.pin p (Aj _ (CA _ hp))
theorem iX {iter:Expr} {body:List Stmt} {wi:TI} {g:TG} {tb:TS} {pos:Pos} (hp:CQ (model X.prog X.w) X.A X.env X.xe) (hc:X.calm = true) (hi:PI X tg iter wi) (hg:PG X tg g) (hb:PSs X body tb)
  (hs:∀ x,Fh iter X.env x = pure x:=by intro _;rfl):PS X (.For tg iter body [] pos) (aTA wi g tb):=by
 intro pins s σ H D I h
 refine wpAny_For (thn (hi pins s σ H _ I h) fun v s1 h1=>thn h1 fun itv s2 h2=>?_) hs
 obtain ⟨it,fp,tn,J,H2,e,I2,T,st2,f2,W,⟨m0,w0⟩,turn⟩:=h2
 subst e
 have stat:∀ {H':Hp},(∀ b ∈ fp,H' b = none) → ∀ b ∈ fp,aBM X pins H' b:=fun hn b hb=>⟨hn b hb,(f2 b hb).2⟩
 refine codeAny_forLoop_any (fun n s'=>∃ i σ' H',Inv X pins σ' H' s' ∧ tn i s'.heap ∧ (∀ b ∈ fp,H' b = none) ∧ W i n σ' H') ?_ m0 ⟨0,σ,H2,I2,st2,fun b hb=>(f2 b hb).1,w0⟩
 rintro n s3 ⟨i,σ3,H3,I3,st3,fr3,w3⟩
 rcases turn i n σ3 H3 w3 with ⟨stop,qn⟩ | ⟨go,N,hN,step⟩
 ·refine DE hp (thn (T.done X rfl rfl rfl hc i pins s3 σ3 H3 X.xe I3 (stat fr3) st3 stop) fun r s4 ⟨hr,I4⟩=>?_)
  subst hr
  exact FC ⟨σ3,H3,I4,qn⟩
 ·refine DE hp (thn (T.item X rfl rfl rfl hc i pins s3 σ3 H3 X.xe I3 (stat fr3) st3 go) fun r s4 ⟨u,hr,h4⟩=>?_)
  subst hr
  refine DE hp (thn h4 fun _ s5 ⟨x,H5,I5,r5,y5,st5,fr5⟩=>?_)
  have I5':=I5.pinned (stat fr5) (T.obj _ _ st5)
  refine DE hp (thn (hg _ s5 σ3 H5 x u _ I5' r5 (step x H5 y5)) fun _ s6 ⟨σ6,H6,I6,q6⟩=>?_)
  refine DE hp (thn (hb _ s6 σ6 H6 _ I6 q6) fun f s7 q7=>?_)
  have again:∀ {σ7:St} {H7:Hp},Inv X (pins ++ nG fp s5.heap) σ7 H7 s7 → N σ7 H7 → ∃ m,m < n ∧ ∃ i σ' H',Inv X pins σ' H' s7 ∧ tn i s7.heap ∧ (∀ b ∈ fp,H' b = none) ∧ W i m σ' H':=fun {σ7 H7} I7 n7=>by
   obtain ⟨m',hm,w7⟩:=hN σ7 H7 n7
   refine ⟨m',hm,i + 1,σ7,H7,I7.unpinned,T.keep _ _ _ st5 fun b hb o e=>(I7.pin (b,o) (Aj _ (Aj _ (mD hb e)))).1,fun b hb=>?_,w7⟩
   obtain ⟨o,e,d⟩:=T.obj _ _ st5 b hb
   exact (I7.pin (b,o) (Aj _ (Aj _ (mD hb e)))).2.1
  cases f with
  | next=>obtain ⟨σ7,H7,I7,n7⟩:=q7;exact again I7 n7
  | cont=>obtain ⟨σ7,H7,I7,n7⟩:=q7;exact again I7 n7
  | brk=>obtain ⟨σ7,H7,I7,q7⟩:=q7;exact ⟨σ7,H7,I7.unpinned,q7⟩
  | ret v=>obtain ⟨x7,σ7,H7,I7,r7,q7⟩:=q7;exact ⟨x7,σ7,H7,I7.unpinned,r7,q7⟩
end
theorem nR {K:AG} {a:Addr} {xs:List V} {g:TG} {tb:TS} {D:Ends} {σ:St} {H:Hp} (Pv:Nat → St → Hp → Prop) (h0:Pv 0 σ H) (hl:∀ i σ H,i ≤ xs.length → Pv i σ H → SqL K H a xs)
  (hs:∀ i x σ H,xs[i]? = some x → Pv i σ H → g x σ H fun σ2 H2=>tb { D with nx:=Pv (i + 1),ct:=Pv (i + 1),bk:=D.nx } σ2 H2) (hd:∀ σ H,Pv xs.length σ H → D.nx σ H) :
  ∃ W:Nat → Nat → St → Hp → Prop,(∃ m,W 0 m σ H) ∧ ∀ i m σ H,W i m σ H →
   ((Itl K a).stop i H ∧ D.nx σ H) ∨ ((Itl K a).go i H ∧ ∃ N:St → Hp → Prop,(∀ σ' H',N σ' H' → ∃ m',m' < m ∧ W (i + 1) m' σ' H') ∧ ∀ x H',(Itl K a).yld i H x H' → g x σ H' fun σ2 H2=>tb { D with nx:=N,ct:=N,bk:=D.nx } σ2 H2):=by
 refine ⟨fun i m σ H=>m = xs.length - i ∧ i ≤ xs.length ∧ Pv i σ H,⟨xs.length,by simp,BG _,h0⟩,?_⟩
 rintro i m σ H ⟨rfl,hi,p⟩
 have q:=hl i σ H hi p
 by_cases hlt:i < xs.length
 ·refine .inr ⟨⟨xs,xs[i],q,by simp [hlt]⟩,Pv (i + 1),fun σ' H' p'=>⟨xs.length - (i + 1),by omega,rfl,hlt,p'⟩,fun x H' y=>?_⟩
  obtain ⟨e,y⟩:=y
  subst e
  exact hs i x σ _ (y xs q) p
 ·have e:i = xs.length:=by omega
  subst e
  exact .inl ⟨⟨xs,q,AL _⟩,hd σ H p⟩
theorem oQ {lo:Int} {n:Nat} {g:TG} {tb:TS} {D:Ends} {σ:St} {H:Hp} (Pv:Nat → St → Hp → Prop) (h0:Pv 0 σ H)
  (hs:∀ i σ H,i < n → Pv i σ H → g (.int (lo + i)) σ H fun σ2 H2=>tb { D with nx:=Pv (i + 1),ct:=Pv (i + 1),bk:=D.nx } σ2 H2) (hd:∀ σ H,Pv n σ H → D.nx σ H) :
  ∃ W:Nat → Nat → St → Hp → Prop,(∃ m,W 0 m σ H) ∧ ∀ i m σ H,W i m σ H →
   ((Itr lo n).stop i H ∧ D.nx σ H) ∨ ((Itr lo n).go i H ∧ ∃ N:St → Hp → Prop,(∀ σ' H',N σ' H' → ∃ m',m' < m ∧ W (i + 1) m' σ' H') ∧ ∀ x H',(Itr lo n).yld i H x H' → g x σ H' fun σ2 H2=>tb { D with nx:=N,ct:=N,bk:=D.nx } σ2 H2):=by
 refine ⟨fun i m σ H=>m = n - i ∧ i ≤ n ∧ Pv i σ H,⟨n,by simp,BG _,h0⟩,?_⟩
 rintro i m σ H ⟨rfl,hi,p⟩
 by_cases hlt:i < n
 ·refine .inr ⟨hlt,Pv (i + 1),fun σ' H' p'=>⟨n - (i + 1),by omega,rfl,hlt,p'⟩,fun x H' y=>?_⟩
  obtain ⟨e,y⟩:=y
  subst e y
  exact hs i σ _ hlt p
 ·have e:i = n:=by omega
  subst e
  exact .inl ⟨AL _,hd σ H p⟩
theorem uF {c:TT} {tb:TS} {D:Ends} {σ:St} {H:Hp} (Pv:St → Hp → Prop) (μ:St → Hp → Nat) (h0:Pv σ H)
  (hs:∀ σ H,Pv σ H → c σ H fun b H1=>if b = true then tb { D with nx:=fun σ' H'=>Pv σ' H' ∧ μ σ' H' < μ σ H,ct:=fun σ' H'=>Pv σ' H' ∧ μ σ' H' < μ σ H,bk:=D.nx } σ H1 else D.nx σ H1)
  (mono:∀ σ H Q Q',(∀ b H1,Q b H1 → Q' b H1) → c σ H Q → c σ H Q'):aJK c tb D σ H:=by
 refine ⟨fun m σ H=>m = μ σ H ∧ Pv σ H,⟨_,rfl,h0⟩,?_⟩
 rintro m σ H ⟨rfl,p⟩
 refine mono σ H _ _ (fun b H1 q=>?_) (hs σ H p)
 cases b with
 | true=>exact ⟨_,fun σ' H' ⟨p',l⟩=>⟨_,l,rfl,p'⟩,q⟩
 | false=>exact q
end L2
namespace L2
open PySem PySem.Spec PyProof.Rows
abbrev R2:=V → V → Hp → VK → Prop
def OpR (X:Cx) (f:Value → Value → Sem Value) (r:R2):Prop :=
 ∀ (pins:List (Addr × Obj)) (s:Shared) (σ:St) (H:Hp) (x y:V) (v u:Value) (Q:VK),Inv X pins σ H s → bG x v → bG y u → r x y H Q →
  wpAny (model X.prog X.w) X.A (f v u) (EP X pins σ Q) X.xe s
def UnR (X:Cx) (f:Value → Sem Value) (r:V → Hp → VK → Prop):Prop :=
 ∀ (pins:List (Addr × Obj)) (s:Shared) (σ:St) (H:Hp) (x:V) (v:Value) (Q:VK),Inv X pins σ H s → bG x v → r x H Q →
  wpAny (model X.prog X.w) X.A (f v) (EP X pins σ Q) X.xe s
def fG (X:Cx) (f:Value) (r:List V → Hp → VK → Prop):Prop :=
 ∀ (pins:List (Addr × Obj)) (s:Shared) (σ:St) (H:Hp) (xs:List V) (us:List Value) (Q:VK),Inv X pins σ H s → bC xs us → r xs H Q →
  wpAny (model X.prog X.w) X.A (call f us) (EP X pins σ Q) X.xe s
def tOp (r:R2) (ta tb:TE):TE:=fun σ H Q=>ta σ H fun x H1=>tb σ H1 fun y H2=>r x y H2 Q
def tUn (r:V → Hp → VK → Prop) (ta:TE):TE:=fun σ H Q=>ta σ H fun x H1=>r x H1 Q
def rI (C:Int → Int → Prop) (g:Int → Int → V):R2:=fun x y H Q=>∃ i j,x = .int i ∧ y = .int j ∧ C i j ∧ Q (g i j) H
def rI0 (g:Int → Int → V):R2:=fun x y H Q=>∃ i j,x = .int i ∧ y = .int j ∧ Q (g i j) H
def rU (g:Int → V):V → Hp → VK → Prop:=fun x H Q=>∃ i,x = .int i ∧ Q (g i) H
section
variable {X:Cx} {a b c:Expr} {ta tb tc:TE} {pos:Pos}
theorem aRC (ha:PE X a ta) (hb:PE X b tb) {pins:List (Addr × Obj)} {s:Shared} {σ:St} {H:Hp} {R:V → V → Hp → Prop} (I:Inv X pins σ H s)
  (h:ta σ H fun x H1=>tb σ H1 fun y H2=>R x y H2) {Q:Value → Shared → Prop} {f:Value → Value → Sem Value}
  (hf:∀ v u s2 x y H2,Inv X pins σ H2 s2 → bG x v → bG y u → R x y H2 → wpAny (model X.prog X.w) X.A (f v u) Q X.xe s2) :
  wpAny (model X.prog X.w) X.A (eval a X.env) (fun v s₁=>wpAny (model X.prog X.w) X.A (eval b X.env) (fun u s₂=>wpAny (model X.prog X.w) X.A (f v u) Q X.xe s₂) X.xe s₁) X.xe s:=by
 refine thn (ha pins s σ H _ I h) fun v s1 ⟨x,H1,I1,r1,q1⟩=>?_
 refine thn (hb pins s1 σ H1 _ I1 q1) fun u s2 ⟨y,H2,I2,r2,q2⟩=>?_
 exact hf v u s2 x y H2 I2 r1 r2 q2
theorem aL {op:Operator} {r:R2} (ho:OpR X (EL op) r) (ha:PE X a ta) (hb:PE X b tb):PE X (.BinOp a op b pos) (tOp r ta tb):=by
 intro pins s σ H Q I h
 exact wpAny_BinOp (aRC ha hb I h fun v u s2 x y H2 I2 rx ry q=>ho pins s2 σ H2 x y v u Q I2 rx ry q)
theorem aPM {op:UnaryOp} {r:V → Hp → VK → Prop} (ho:UnR X (unaryOp op) r) (ha:PE X a ta):PE X (.UnaryOp op a pos) (tUn r ta):=by
 intro pins s σ H Q I h
 exact UnaryOp_ (thn (ha pins s σ H _ I h) fun v s1 ⟨x,H1,I1,r1,q1⟩=>ho pins s1 σ H1 x v Q I1 r1 q1)
theorem opI {f:Value → Value → Sem Value} {C:Int → Int → Prop} {g:Int → Int → Int}
  (rule:∀ (i j:Int) (t u:Tok) (s:Shared) (Q:Value → Shared → Prop) (E:Value → Shared → Prop),C i j → Q (.int (g i j) s.toks) { s with toks:=s.toks + 1 } → wpAny (model X.prog X.w) X.A (f (.int i t) (.int j u)) Q E s) :
  OpR X f (rI C fun i j=>.int (g i j)):=by
 intro pins s σ H x y v u Q I rx ry h
 obtain ⟨i,j,rfl,rfl,hc,q⟩:=h
 obtain ⟨t,rfl⟩:=rx
 obtain ⟨t',rfl⟩:=ry
 exact rule i j t t' s _ _ hc ⟨.int (g i j),H,I.tok _,⟨_,rfl⟩,q⟩
theorem aSA {f:Value → Value → Sem Value} {g:Int → Int → Int}
  (rule:∀ (i j:Int) (t u:Tok) (s:Shared) (Q:Value → Shared → Prop) (E:Value → Shared → Prop),Q (.int (g i j) s.toks) { s with toks:=s.toks + 1 } → wpAny (model X.prog X.w) X.A (f (.int i t) (.int j u)) Q E s) :
  OpR X f (rI0 fun i j=>.int (g i j)):=by
 intro pins s σ H x y v u Q I rx ry h
 obtain ⟨i,j,rfl,rfl,q⟩:=h
 obtain ⟨t,rfl⟩:=rx
 obtain ⟨t',rfl⟩:=ry
 exact rule i j t t' s _ _ ⟨.int (g i j),H,I.tok _,⟨_,rfl⟩,q⟩
theorem aOE {f:Value → Value → Sem Value} {g:Int → Int → Bool}
  (rule:∀ (i j:Int) (t u:Tok) (s:Shared) (Q:Value → Shared → Prop) (E:Value → Shared → Prop),Q (.bool (g i j)) s → wpAny (model X.prog X.w) X.A (f (.int i t) (.int j u)) Q E s) :
  OpR X f (rI0 fun i j=>.bl (g i j)):=by
 intro pins s σ H x y v u Q I rx ry h
 obtain ⟨i,j,rfl,rfl,q⟩:=h
 obtain ⟨t,rfl⟩:=rx
 obtain ⟨t',rfl⟩:=ry
 exact rule i j t t' s _ _ ⟨.bl (g i j),H,I,rfl,q⟩
def aTX (i j:Int):Prop:=0 ≤ j ∧ j ≤ 1000000 ∧ i.natAbs < 2 ^ 64
def aRG (i j:Int):Prop:=(-(2 ^ 64) < i ∧ i < 2 ^ 64) ∨ (-(2 ^ 64) < j ∧ j < 2 ^ 64)
theorem aRG.ok {i j:Int} (h:aRG i j):IntMulOk i j:=by
 rcases h with ⟨h1,h2⟩ | ⟨h1,h2⟩
 ·exact .of_left (intBits_le_64 h1 h2)
 ·exact .of_right (intBits_le_64 h1 h2)
theorem cQ:OpR X (EL .Add) (rI0 fun i j=>.int (i + j)):=aSA fun _ _ _ _ _ _ _ q=>add_int q
theorem iY:OpR X (EL .Sub) (rI0 fun i j=>.int (i - j)):=aSA fun _ _ _ _ _ _ _ q=>sub_int q
theorem hZ:OpR X (EL .Mult) (rI aRG fun i j=>.int (i * j)):=opI fun _ _ _ _ _ _ _ hc q=>mul_int q hc.ok
theorem cO:OpR X (EL .Mod) (rI (fun _ j=>0 < j) fun i j=>.int (i % j)):=opI fun i j _ _ _ _ _ hc q=>by
 have h1:(0:Int) < j:=hc
 exact mod_int' (by omega) (by rw [Int.fmod_eq_emod_of_nonneg i (by omega)];exact q)
theorem lY:OpR X (EL .Pow) (rI aTX fun i j=>.int (i ^ j.toNat)):=opI fun _ _ _ _ _ _ _ hc q=>pow_int_small hc.1 hc.2.1 hc.2.2 q
theorem unI {f:Value → Sem Value} {g:Int → Int}
  (rule:∀ (i:Int) (t:Tok) (s:Shared) (Q:Value → Shared → Prop) (E:Value → Shared → Prop),Q (.int (g i) s.toks) { s with toks:=s.toks + 1 } → wpAny (model X.prog X.w) X.A (f (.int i t)) Q E s) :
  UnR X f (rU fun i=>.int (g i)):=by
 intro pins s σ H x v Q I rx h
 obtain ⟨i,rfl,q⟩:=h
 obtain ⟨t,rfl⟩:=rx
 exact rule i t s _ _ ⟨.int (g i),H,I.tok _,⟨_,rfl⟩,q⟩
theorem aJG:UnR X (unaryOp .USub) (rU fun i=>.int (-i)):=unI fun _ _ _ _ _ q=>neg_int q
end
def aRQ:V → V → Bool
 | .non,.non=>true | .non,.int _=>true | .int _,.non=>true | .non,.bl _=>true | .bl _,.non=>true | .non,.str _=>true | .str _,.non=>true
 | .int _,.int _=>true | .bl _,.bl _=>true | .str _,.str _=>true | .byt _,.byt _=>true
 | .int _,.str _=>true | .str _,.int _=>true | .bl _,.str _=>true | .str _,.bl _=>true
 | _,_=>false
def rEq:R2:=fun x y H Q=>aRQ x y = true ∧ Q (.bl (decide (x = y))) H
def rNe:R2:=fun x y H Q=>aRQ x y = true ∧ Q (.bl (!decide (x = y))) H
theorem mI {i j:Int}:decide (V.int i = V.int j) = (i == j):=by
 rw [Bp]
 simp
theorem aMO {i j:Bool}:decide (V.bl i = V.bl j) = (i == j):=by
 rw [Bp]
 simp
theorem qW {i j:Str}:decide (V.str i = V.str j) = (i == j):=by
 rw [Bp]
 simp
theorem aHA {i j:Array UInt8}:decide (V.byt i = V.byt j) = (i.toList == j.toList):=by
 rw [Bp]
 cases i
 cases j
 simp
section
variable {X:Cx} {a b c:Expr} {ta tb tc:TE} {pos:Pos}
theorem bS {pins:List (Addr × Obj)} {σ:St} {H:Hp} {s:Shared} {Q:VK} {k k':Bool} (I:Inv X pins σ H s) (q:Q (.bl k) H) (e:k = k'):EP X pins σ Q (.bool k') s:=by
 subst e
 exact ⟨.bl k,H,I,rfl,q⟩
theorem qI:OpR X (Be .Eq) rEq:=by
 intro pins s σ H x y v u Q I rx ry h
 obtain ⟨hs,q⟩:=h
 cases x with
 | non =>
  cases rx
  cases y with
  | non=>cases ry;exact PySem.EqNone.eq_none_none (bS I q (by simp))
  | bl j=>cases ry;exact PySem.EqNone.eq_none_bool (bS I q (by simp))
  | int j=>obtain ⟨t',rfl⟩:=ry;exact PySem.EqNone.eq_none_int (bS I q (by simp))
  | str j=>obtain ⟨t',rfl⟩:=ry;exact PySem.EqNone.eq_none_str (bS I q (by simp))
  | _=>exact absurd (show false = true from hs) Ab
 | bl i =>
  cases rx
  cases y with
  | non=>cases ry;exact PySem.EqNone.eq_bool_none (bS I q (by simp))
  | bl j=>cases ry;exact eq_bool (bS I q aMO)
  | str j=>obtain ⟨t',rfl⟩:=ry;exact PySem.EqMixed.eq_bool_str (bS I q (by simp))
  | _=>exact absurd (show false = true from hs) Ab
 | int i =>
  obtain ⟨t,rfl⟩:=rx
  cases y with
  | non=>cases ry;exact PySem.EqNone.eq_int_none (bS I q (by simp))
  | int j=>obtain ⟨t',rfl⟩:=ry;exact eq_int (bS I q mI)
  | str j=>obtain ⟨t',rfl⟩:=ry;exact PySem.EqMixed.eq_int_str (bS I q (by simp))
  | _=>exact absurd (show false = true from hs) Ab
 | str i =>
  obtain ⟨t,rfl⟩:=rx
  cases y with
  | non=>cases ry;exact PySem.EqNone.eq_str_none (bS I q (by simp))
  | bl j=>cases ry;exact PySem.EqMixed.eq_str_bool (bS I q (by simp))
  | int j=>obtain ⟨t',rfl⟩:=ry;exact PySem.EqMixed.eq_str_int (bS I q (by simp))
  | str j=>obtain ⟨t',rfl⟩:=ry;exact eq_str (bS I q qW)
  | _=>exact absurd (show false = true from hs) Ab
 | byt i =>
  obtain ⟨t,rfl⟩:=rx
  cases y with
  | byt j=>obtain ⟨t',rfl⟩:=ry;exact PySem.W.eq_bytes (bS I q aHA)
  | _=>exact absurd (show false = true from hs) Ab
 | _=>cases y <;> exact absurd (show false = true from hs) Ab
theorem aCQ:OpR X (Be .NotEq) rNe:=by
 intro pins s σ H x y v u Q I rx ry h
 obtain ⟨hs,q⟩:=h
 cases x with
 | non =>
  cases rx
  cases y with
  | non=>cases ry;exact PySem.EqNone.ne_none_none (bS I q (by simp))
  | bl j=>cases ry;exact PySem.EqNone.ne_none_bool (bS I q (by simp))
  | int j=>obtain ⟨t',rfl⟩:=ry;exact PySem.EqNone.ne_none_int (bS I q (by simp))
  | str j=>obtain ⟨t',rfl⟩:=ry;exact PySem.EqNone.ne_none_str (bS I q (by simp))
  | _=>exact absurd (show false = true from hs) Ab
 | bl i =>
  cases rx
  cases y with
  | non=>cases ry;exact PySem.EqNone.ne_bool_none (bS I q (by simp))
  | bl j=>cases ry;exact ne_bool (bS I q (congrArg not aMO))
  | str j=>obtain ⟨t',rfl⟩:=ry;exact PySem.EqMixed.ne_bool_str (bS I q (by simp))
  | _=>exact absurd (show false = true from hs) Ab
 | int i =>
  obtain ⟨t,rfl⟩:=rx
  cases y with
  | non=>cases ry;exact PySem.EqNone.ne_int_none (bS I q (by simp))
  | int j=>obtain ⟨t',rfl⟩:=ry;exact ne_int (bS I q (congrArg not mI))
  | str j=>obtain ⟨t',rfl⟩:=ry;exact PySem.EqMixed.ne_int_str (bS I q (by simp))
  | _=>exact absurd (show false = true from hs) Ab
 | str i =>
  obtain ⟨t,rfl⟩:=rx
  cases y with
  | non=>cases ry;exact PySem.EqNone.ne_str_none (bS I q (by simp))
  | bl j=>cases ry;exact PySem.EqMixed.ne_str_bool (bS I q (by simp))
  | int j=>obtain ⟨t',rfl⟩:=ry;exact PySem.EqMixed.ne_str_int (bS I q (by simp))
  | str j=>obtain ⟨t',rfl⟩:=ry;exact ne_str (bS I q (congrArg not qW))
  | _=>exact absurd (show false = true from hs) Ab
 | byt i =>
  obtain ⟨t,rfl⟩:=rx
  cases y with
  | byt j=>obtain ⟨t',rfl⟩:=ry;exact PySem.W.ne_bytes (bS I q (congrArg not aHA))
  | _=>exact absurd (show false = true from hs) Ab
 | _=>cases y <;> exact absurd (show false = true from hs) Ab
theorem vK:OpR X (Be .Lt) (rI0 fun i j=>.bl (decide (i < j))):=aOE fun _ _ _ _ _ _ _ q=>lt_int q
theorem qH:OpR X (Be .LtE) (rI0 fun i j=>.bl (decide (i ≤ j))):=aOE fun _ _ _ _ _ _ _ q=>le_int q
theorem aCR:OpR X (Be .Gt) (rI0 fun i j=>.bl (decide (j < i))):=aOE fun _ _ _ _ _ _ _ q=>gt_int q
theorem aLE:OpR X (Be .GtE) (rI0 fun i j=>.bl (decide (j ≤ i))):=aOE fun _ _ _ _ _ _ _ q=>ge_int q
theorem aHZ:OpR X (Be .In) (fun x y H Q=>∃ i j,x = .str i ∧ y = .str j ∧ Q (.bl (!(Builtin.Str.occurrences j i 0 j.length 1).isEmpty)) H):=by
 intro pins s σ H x y v u Q I rx ry h
 obtain ⟨i,j,rfl,rfl,q⟩:=h
 obtain ⟨t,rfl⟩:=rx
 obtain ⟨t',rfl⟩:=ry
 exact in_str (bS I q rfl)
theorem aQK:OpR X (Be .Is) (fun x y H Q=>y = .non ∧ Q (.bl (decide (x = .non))) H):=by
 intro pins s σ H x y v u Q I rx ry h
 obtain ⟨rfl,q⟩:=h
 cases ry
 refine is_none_gen (bS I q ?_)
 cases x <;> first
  | (cases rx;rfl)
  | (obtain ⟨t,rfl⟩:=rx;rfl)
theorem aOD:OpR X (Be .IsNot) (fun x y H Q=>y = .non ∧ Q (.bl (!decide (x = .non))) H):=by
 intro pins s σ H x y v u Q I rx ry h
 obtain ⟨rfl,q⟩:=h
 cases ry
 refine isnot_none_gen (bS I q ?_)
 cases x <;> first
  | (cases rx;rfl)
  | (obtain ⟨t,rfl⟩:=rx;rfl)
theorem bQ (b:Expr) {op:CmpOp} (h:op ≠ .In:=by decide) (h2:op ≠ .NotIn:=by decide):Ed op b = false:=by
 have e1:(op == CmpOp.In) = false:=by cases op <;> first | rfl | exact absurd rfl h
 have e2:(op == CmpOp.NotIn) = false:=by cases op <;> first | rfl | exact absurd rfl h2
 cases b <;> simp [Ed,e1,e2]
theorem dG {op:CmpOp} {r:R2} (ho:OpR X (Be op) r) (ha:PE X a ta) (hb:PE X b tb) (hm:Ed op b = false):PE X (.Compare a [op] [b] pos) (tOp r ta tb):=by
 intro pins s σ H Q I h
 exact wpAny_Compare1 (aRC ha hb I h fun v u s2 x y H2 I2 rx ry q=>ho pins s2 σ H2 x y v u Q I2 rx ry q) hm
def aPE (t:TE):TT:=fun σ H Q=>t σ H fun x H'=>∃ k,x = .bl k ∧ Q k H'
theorem cA {op:CmpOp} {r:R2} (ho:OpR X (Be op) r) (ha:PE X a ta) (hb:PE X b tb) (hm:Ed op b = false):PT X (.Compare a [op] [b] pos) (aPE (tOp r ta tb)):=by
 intro pins s σ H Q I h
 refine wpAny_isTrue_Compare1 (thn (ha pins s σ H _ I h) fun v s1 ⟨x,H1,I1,r1,q1⟩=>thn (hb pins s1 σ H1 _ I1 q1) fun u s2 ⟨y,H2,I2,r2,q2⟩ =>
  thn (ho pins s2 σ H2 x y v u _ I2 r1 r2 q2) fun c s3 ⟨z,H3,I3,r3,k,e,q3⟩=>?_) hm
 subst e
 cases r3
 exact Bu ⟨H3,I3,q3⟩
def aJL (r r':R2) (ta tb tc:TE):TE:=fun σ H Q=>ta σ H fun x H1=>tb σ H1 fun y H2=>r x y H2 fun z H3=>∃ k,z = .bl k ∧
 (if k = true then tc σ H3 fun w' H4=>r' y w' H4 Q else Q (.bl false) H3)
theorem vI {op op':CmpOp} {r r':R2} (ho:OpR X (Be op) r) (ho':OpR X (Be op') r') (ha:PE X a ta) (hb:PE X b tb) (hc:PE X c tc)
  (hm:lastMarks [op,op'] [b,c] = false:=by with_unfolding_all rfl):PE X (.Compare a [op,op'] [b,c] pos) (aJL r r' ta tb tc):=by
 intro pins s σ H Q I h
 refine Compare_chain (thn (ha pins s σ H _ I h) fun v s1 ⟨x,H1,I1,r1,q1⟩=>chain_link (thn (hb pins s1 σ H1 _ I1 q1) fun u s2 ⟨y,H2,I2,r2,q2⟩ =>
  thn (ho pins s2 σ H2 x y v u _ I2 r1 r2 q2) fun d s3 ⟨z,H3,I3,r3,k,e,q3⟩=>?_)) hm
 subst e
 cases r3
 refine Bu ?_
 cases k with
 | false=>exact ite_ff ⟨.bl false,H3,I3,rfl,q3⟩
 | true=>exact ite_tt (chain_last (thn (hc pins s3 σ H3 _ I3 q3) fun w' s4 ⟨z',H4,I4,r4,q4⟩=>ho' pins s4 σ H4 y z' u w' Q I4 r2 r4 q4))
theorem aKT {op op':CmpOp} {r r':R2} (ho:OpR X (Be op) r) (ho':OpR X (Be op') r') (ha:PE X a ta) (hb:PE X b tb) (hc:PE X c tc)
  (hm:lastMarks [op,op'] [b,c] = false:=by with_unfolding_all rfl):PT X (.Compare a [op,op'] [b,c] pos) (aPE (aJL r r' ta tb tc)):=by
 intro pins s σ H Q I h
 refine isTrue_chain (thn (ha pins s σ H _ I h) fun v s1 ⟨x,H1,I1,r1,q1⟩=>test_link (thn (hb pins s1 σ H1 _ I1 q1) fun u s2 ⟨y,H2,I2,r2,q2⟩ =>
  thn (ho pins s2 σ H2 x y v u _ I2 r1 r2 q2) fun d s3 ⟨z,H3,I3,r3,k,e,q3⟩=>?_)) hm
 subst e
 cases r3
 refine Bu ?_
 cases k with
 | false =>
  obtain ⟨k',e',q'⟩:=q3
  cases e'
  exact ite_ff ⟨H3,I3,q'⟩
 | true =>
  refine ite_tt (test_last (thn (hc pins s3 σ H3 _ I3 q3) fun w' s4 ⟨z',H4,I4,r4,q4⟩=>thn (ho' pins s4 σ H4 y z' u w' _ I4 r2 r4 q4) fun d' s5 ⟨z2,H5,I5,r5,k2,e2,q5⟩=>?_))
  subst e2
  cases r5
  exact Bu ⟨H5,I5,q5⟩
theorem vW:(An:Nat) < 2 ^ 63:=by rw [Bv];decide
theorem pM:OpR X (EL .Add) (fun x y H Q=>∃ i j,x = .str i ∧ y = .str j ∧ i.length + j.length ≤ An ∧ Q (.str (i ++ j)) H):=by
 intro pins s σ H x y v u Q I rx ry h
 obtain ⟨i,j,rfl,rfl,hz,q⟩:=h
 obtain ⟨t,rfl⟩:=rx
 obtain ⟨t',rfl⟩:=ry
 exact add_str (fun t' tk=>⟨.str (i ++ j),H,I.tok _,⟨_,rfl⟩,q⟩) hz
theorem aFW {x:V} {us:List Value} (r:bC [x] us):∃ u,us = [u] ∧ bG x u:=by
 cases r with
 | cons r1 r2=>cases r2;exact ⟨_,rfl,r1⟩
theorem aPD {x y:V} {us:List Value} (r:bC [x,y] us):∃ u w',us = [u,w'] ∧ bG x u ∧ bG y w':=by
 cases r with
 | cons r1 r2 =>
  cases r2 with
  | cons r3 r4=>cases r4;exact ⟨_,_,rfl,r1,r3⟩
theorem aIW (hc:X.calm = true):fG X (.builtin "max") (fun xs H Q=>∃ i j,xs = [.int i,.int j] ∧ Q (.int (if j > i then j else i)) H):=by
 intro pins s σ H xs us Q I r h
 obtain ⟨i,j,rfl,q⟩:=h
 obtain ⟨u,w',rfl,⟨t,rfl⟩,⟨t',rfl⟩⟩:=aPD r
 refine max_two_ints (I.ok.hd hc) fun h' tk k=>⟨_,H,I.kept k,?_,q⟩
 by_cases hj:j > i
 ·rw [if_pos hj,if_pos hj];exact ⟨_,rfl⟩
 ·rw [if_neg hj,if_neg hj];exact ⟨_,rfl⟩
theorem aIV (hc:X.calm = true):fG X (.builtin "min") (fun xs H Q=>∃ i j,xs = [.int i,.int j] ∧ Q (.int (if j < i then j else i)) H):=by
 intro pins s σ H xs us Q I r h
 obtain ⟨i,j,rfl,q⟩:=h
 obtain ⟨u,w',rfl,⟨t,rfl⟩,⟨t',rfl⟩⟩:=aPD r
 refine min_two_ints (I.ok.hd hc) fun h' tk k=>⟨_,H,I.kept k,?_,q⟩
 by_cases hj:j < i
 ·rw [if_pos hj,if_pos hj];exact ⟨_,rfl⟩
 ·rw [if_neg hj,if_neg hj];exact ⟨_,rfl⟩
end
end L2
namespace L2
open PySem PySem.Spec PyProof.Rows
structure ObjM (h:Heap) (x dx C:Addr) (mA:Str → Option Value):Prop where
 obj:h.get? x = some (Cf C dx)
 ns:h.Ns1 dx mA
 ne:dx ≠ x
theorem aID {h:Heap} {dx:Addr} {mA:Str → Option Value} (n:h.Ns1 dx mA):∃ od,h.get? dx = some od ∧ ∀ name,Ee name od = some (mA name):=by
 obtain ⟨o,es,ep,ho,hd,hk,_,hm⟩:=n
 refine ⟨o,ho,fun name=>?_⟩
 have e:=hm name
 unfold nsFind findBy at e
 rw [← Array.find?_toList] at e
 unfold Ee
 rw [hd]
 dsimp only
 split
 ·rename_i y q
  rw [q] at e
  exact congrArg some e
 ·rename_i q
  rw [q] at e
  have a:es.toList.any (·.refKey) = false:=by
   rw [List.any_eq_false]
   intro y hy
   obtain ⟨z,t,hkey⟩:=hk y (Array.mem_toList_iff.mp hy)
   simp [FT.refKey,hkey]
  have a':¬ es.toList.any (·.refKey) = true:=by rw [a];exact Ab
  rw [if_neg a']
  exact congrArg some e
theorem ObjM.look {h:Heap} {x dx C:Addr} {mA:Str → Option Value} (I:ObjM h x dx C mA):∃ od,PySem.W.InstAt h x (Cf C dx) C (some od) ∧ ∀ name,Ee name od = some (mA name) :=
 let ⟨od,ho,hl⟩:=aID I.ns
 ⟨od,⟨I.obj,rfl,rfl,ho⟩,hl⟩
section
variable {prog:Program} {w:World} {A:Around} {E:Value → Shared → Prop} {s:Shared} {K:AG} {x dx C f:Addr} {mA:Str → Option Value} {name:Str} {v:Value}
theorem aOQ {expr:Bool} {Q:Value → Shared → Prop} (X:K.In s.heap) (I:ObjM s.heap x dx C mA) (hg:DZ K C name = true) (hh:Dz K C = true)
  (ha:Ap K (.ref C) name = some none) (hv:mA name = some v) (hv':PySem.W.handedIn v = true) (h:Q v { s with toks:=s.toks + 1 }) :
  wpAny (model prog w) A (getAttr (.ref x) name expr) Q E s:=by
 obtain ⟨od,J,hl⟩:=I.look
 exact PySem.W.get_value X J (Eo hg).1 (PySem.W.findObj_own hh ha rfl (by rw [hl,hv])) hv' h
theorem aLX {pl:Sem Bool} {Q:Value × List Value → Shared → Prop} (X:K.In s.heap) (I:ObjM s.heap x dx C mA) (hg:DZ K C name = true)
  (hf:Ap K (.ref C) name = some (some (.ref f))) (ht:Bn K (.ref f) = true) (hv:mA name = none) (h:Q (.ref f,[.ref x]) s) :
  wpAny (model prog w) A (FR (.ref x) name pl) Q E s:=by
 obtain ⟨od,J,hl⟩:=I.look
 exact PySem.W.method_fn X J (Eo hg).1 (Eo hg).2 hf (beq_iff_eq.mp ht) (by show (Ee name od).map (·.isSome) = some false;rw [hl,hv];rfl) h
theorem aNR {ns:List Str} {Q:Unit → Shared → Prop} (X:K.In s.heap) (I:ObjM s.heap x dx C mA)
  (hs:Ap K (.ref C) "__setattr__" = some (some (.builtin "object.__setattr__"))) (hp:FI K C = true) (ht:FW K C name = some none) (hh:Dz K C = true)
  (hw:FP mA ns) (hsz:ns.length ≤ An)
  (h:∀ h',ObjM h' x dx C (fun y=>if y = name then some v else mA y) → BP dx s.heap h' → Q () { s with heap:=h',toks:=s.toks + 2 }) :
  wpAny (model prog w) A (setAttr (.ref x) name v) Q E s:=by
 obtain ⟨od,J,hl⟩:=I.look
 refine PySem.W.set_plain X J hs (PySem.W.osa_open (s:={ s with toks:=s.toks + 1 }) (r:=none) X J hp ht fun b=>?_)
 obtain ⟨cd,hc,hd'⟩:=PySem.W.any_some hh
 have hx:s.heap.get? x = some ⟨.ref C,some dx,.plain,#[]⟩:=I.obj
 refine AB (AF (AB (AB (wpAny_loadPart hx (AB (PySem.W.Looks.here (s:={ s with toks:=s.toks + 1 }) (PySem.W.looks_clsIn X hc) ?_))))))
 rw [hd']
 refine AF (a:=some dx) (AB (AF (AB ?_)))
 refine wpAny_nsSet1 (s:={ s with toks:=s.toks + 1 }) I.ns fun h' hn2 hs2=>?_
 obtain ⟨oD,esD,epD,hoD,hdD,hcD⟩:=hn2.count (FP.cons name v hw)
 refine AB (wpAny_lookBehind hoD (by rw [hdD];exact pastItsLine_dict (BB hcD (by rw [Am];omega))) ?_)
 exact AF (h _ ⟨(hs2.2 _ (Ne.symm I.ne)).trans I.obj,hn2,I.ne⟩ hs2)
theorem aLH {R:Result → Shared → Prop} {vs:List Value} {kw:List (Str × Value)} (X:K.In s.heap) (hm:EO K C = true)
  (hi:Ap K (.ref C) "__init__" = some (some (.ref f))) (hf:PySem.W.typeIn K (.ref f) = some (.type "function"))
  (h:codeAny (model prog w) (A.under (.builtin "type.__call__" ⟨.ref C :: vs,kw⟩)) (.call (.ref f) ⟨.ref (s.heap.objs.size + 1) :: vs,kw⟩) (PySem.W.InitBack (s.heap.objs.size + 1) R)
   { s with heap:=(s.heap.push CC).push (Cf C s.heap.objs.size) }) :
  codeAny (model prog w) A (.call (.ref C) ⟨vs,kw⟩) R s:=by
 obtain ⟨hh,g,d,t,os⟩:=s
 exact PySem.W.make_core (PySem.W.makes_of X hm) (PySem.W.looks_findIn X hi) (fun self=>PySem.W.bind_fn X self hf) (.inl rfl) h
end
def jE (f:Str) (v:V):List (Str × V) → List (Str × V)
 | []=>[(f,v)]
 | (g,x) :: r=>if g = f then (g,v) :: r else (g,x) :: jE f v r
theorem fE (f g:Str) (v:V):∀ fs:List (Str × V),(jE f v fs).lookup g = if g = f then some v else fs.lookup g
 | []=>by
  show Ca g [(f,v)] = _
  by_cases h:g = f
  ·have hb:(g == f) = true:=beq_iff_eq.mpr h
   simp only [Ca,hb,if_pos h]
  ·have hb:(g == f) = false:=beq_eq_false_iff_ne.mpr h
   simp only [Ca,hb,if_neg h]
 | (k,x) :: r=>by
  have ih:=fE f g v r
  rw [show jE f v ((k,x) :: r) = (if k = f then (k,v) :: r else (k,x) :: jE f v r) from rfl]
  by_cases hk:k = f
  ·rw [if_pos hk]
   by_cases h:g = k
   ·have hb:(g == k) = true:=beq_iff_eq.mpr h
    simp only [Ca,hb,if_pos (h.trans hk)]
   ·have hb:(g == k) = false:=beq_eq_false_iff_ne.mpr h
    simp only [Ca,hb,if_neg (fun e:g = f=>h (e.trans hk.symm))]
  ·rw [if_neg hk]
   by_cases h:g = k
   ·have hb:(g == k) = true:=beq_iff_eq.mpr h
    simp only [Ca,hb,if_neg (fun e:g = f=>hk (h.symm.trans e))]
   ·have hb:(g == k) = false:=beq_eq_false_iff_ne.mpr h
    simp only [Ca,hb]
    exact ih
theorem rS (f:Str) (v:V):∀ fs:List (Str × V),f ∈ (jE f v fs).map (·.1) ∧ ∀ g,g ∈ fs.map (·.1) → g ∈ (jE f v fs).map (·.1)
 | []=>⟨by simp [jE],fun g h=>by simp at h⟩
 | (k,x) :: r=>by
  obtain ⟨i1,i2⟩:=rS f v r
  rw [show jE f v ((k,x) :: r) = (if k = f then (k,v) :: r else (k,x) :: jE f v r) from rfl]
  by_cases hk:k = f
  ·rw [if_pos hk]
   subst hk
   exact ⟨by simp,fun g h=>by simpa using h⟩
  ·rw [if_neg hk]
   refine ⟨?_,fun g h=>?_⟩
   ·rw [Ac]
    exact AV _ i1
   ·rw [Ac] at h ⊢
    rcases Af.mp h with e | e
    ·exact Af.mpr (.inl e)
    ·exact AV _ (i2 g e)
theorem sZ (f:Str) (v:V):∀ fs:List (Str × V),(jE f v fs).length ≤ fs.length + 1
 | []=>by simp [jE]
 | (k,x) :: r=>by
  have ih:=sZ f v r
  rw [show jE f v ((k,x) :: r) = (if k = f then (k,v) :: r else (k,x) :: jE f v r) from rfl]
  by_cases hk:k = f
  ·rw [if_pos hk,Am,Am];omega
  ·rw [if_neg hk,Am,Am];omega
theorem oX.some_of {v:V} {o:Option Value} (r:oX (some v) o):∃ u,o = some u ∧ bG v u:=by
 cases o with
 | none=>exact (show False from r).elim
 | some u=>exact ⟨u,rfl,r⟩
theorem oX.none_of {o:Option Value} (r:oX none o):o = none:=by
 cases o with
 | none=>rfl
 | some u=>exact (show False from r).elim
theorem aII {v:V} {u:Value} (r:bG v u):PySem.W.handedIn u = true:=by
 cases v with
 | non=>cases (show u = BW from r);rfl
 | bl b=>cases (show u = FH b from r);rfl
 | int i=>obtain ⟨t,e⟩:=(show ∃ t,u = EM i t from r);cases e;rfl
 | str x=>obtain ⟨t,e⟩:=(show ∃ t,u = Value.str x t from r);cases e;rfl
 | byt b=>obtain ⟨t,e⟩:=(show ∃ t,u = Value.bytes b t from r);cases e;rfl
 | flt b=>obtain ⟨t,e⟩:=(show ∃ t,u = Value.float b t from r);cases e;rfl
 | ref a=>cases (show u = Ao a from r);rfl
 | ty n=>cases (show u = Bx n from r);rfl
section
variable {P:Program} {w:World} {H H':Hp} {h h':Heap} {a C dx:Addr} {fs fs':List (Str × V)}
theorem uE (hok:HOk P w H h) (e:H a = some (.ins C dx fs)):∃ mA,ObjM h a dx C mA ∧ (∀ f,oX (fs.lookup f) (mA f)) ∧ FP mA (fs.map (·.1)) ∧ fs.length ≤ 1000 ∧ H dx = some (.own a):=by
 obtain ⟨d,z,ne,ob,mA,n,r,q⟩:=(show bL P w H h a (.ins C dx fs) from hok a _ e)
 exact ⟨mA,⟨ob,n,ne⟩,r,q,z,d⟩
end
structure Cls (K:AG) (C:Addr):Prop where
 pg:DZ K C Str.empty = true
 hd:Dz K C = true
 po:FI K C = true
 sa:Ap K (.ref C) "__setattr__" = some (some (.builtin "object.__setattr__"))
theorem Cls.get {K:AG} {C:Addr} (c:Cls K C) (f:Str):DZ K C f = true:=c.pg
def oH (K:AG) (C:Addr) (f:Str):Prop:=Ap K (.ref C) f = some none
theorem oH.taker {K:AG} {C:Addr} {f:Str} (n:oH K C f):FW K C f = some none:=by
 unfold FW
 rw [show Ap K (.ref C) f = some none from n]
 rfl
structure Con (K:AG) (C:Addr) (f:Str) (v:V) (u:Value):Prop where
 at_:Ap K (.ref C) f = some (some u)
 rel:bG v u
 get:Dy K u "__get__" = some none
 cp:PySem.W.copiedNames.contains f = false
structure Meth (K:AG) (C:Addr) (m:Str) (f:Addr):Prop where
 at_:Ap K (.ref C) m = some (some (.ref f))
 fn:Bn K (.ref f) = true
 kp:AH K (.ref f) = true
section
variable {X:Cx} {pins:List (Addr × Obj)} {σ:St} {H:Hp} {s:Shared} {a C dx:Addr} {fs:List (Str × V)} {f:Str} {v:V} {A:Around} {E:Value → Shared → Prop}
theorem aFH {b:Bool} {Q:Value → Shared → Prop} (I:Inv X pins σ H s) (e:H a = some (.ins C dx fs)) (c:Cls X.K C) (n:oH X.K C f) (l:fs.lookup f = some v)
  (h:∀ u s',Inv X pins σ H s' → bG v u → Q u s'):wpAny (model X.prog X.w) A (getAttr (.ref a) f b) Q E s:=by
 obtain ⟨mA,O,r,_,_,_⟩:=uE I.hok e
 obtain ⟨u,hu,ru⟩:=oX.some_of (v:=v) (o:=mA f) (by rw [← l];exact r f)
 exact aOQ I.kIn O (c.get f) c.hd n hu (aII ru) (h u _ (I.tok _) ru)
theorem wF {m:Str} {g:Addr} {pl:Sem Bool} {Q:Value × List Value → Shared → Prop} (I:Inv X pins σ H s) (e:H a = some (.ins C dx fs)) (c:Cls X.K C) (k:Meth X.K C m g) (l:fs.lookup m = none)
  (h:Q (.ref g,[.ref a]) s):wpAny (model X.prog X.w) A (FR (.ref a) m pl) Q E s:=by
 obtain ⟨mA,O,r,_,_,_⟩:=uE I.hok e
 have hn:mA m = none:=oX.none_of (by rw [← l];exact r m)
 exact aLX I.kIn O (c.get m) k.at_ k.fn hn h
theorem aEK {y:V} {u:Value} {Q:Unit → Shared → Prop} (I:Inv X pins σ H s) (e:H a = some (.ins C dx fs)) (c:Cls X.K C) (n:oH X.K C f) (hl:fs.length < 1000) (ry:bG y u)
  (h:∀ s',Inv X pins σ (upd H a (.ins C dx (jE f y fs))) s' → Q () s'):wpAny (model X.prog X.w) A (setAttr (.ref a) f u) Q E s:=by
 obtain ⟨mA,O,r,wi,_,ho⟩:=uE I.hok e
 have hz:(fs.map (·.1)).length ≤ An:=by rw [AA,Bv];omega
 refine aNR I.kIn O c.sa c.po n.taker c.hd wi hz fun h' O' sb=>h _ ?_
 have hd:∃ o,h'.get? dx = some o:=let ⟨o,_,_,e',_⟩:=O'.ns;⟨o,e'⟩
 refine I.write (x:=a) (e:=dx) (by rw [e];exact Ct) (.inr ho) (fun b q hb z=>(sb.2 b hb).trans z) hd ?_
 refine ⟨by rw [aK O.ne];exact ho,?_,O.ne,O'.obj,_,O'.ns,fun g=>?_,fun g hg=>?_⟩
 ·have:=sZ f y fs;omega
 ·show oX ((jE f y fs).lookup g) (if g = f then some u else mA g)
  rw [fE]
  by_cases q:g = f
  ·rw [if_pos q,if_pos q];exact ry
  ·rw [if_neg q,if_neg q];exact r g
 ·by_cases q:g = f
  ·rw [q];exact (rS f y fs).1
  ·refine (rS f y fs).2 g (wi g fun z=>hg ?_)
   show (if g = f then some u else mA g) = none
   rw [if_neg q];exact z
theorem Inv.made (I:Inv X pins σ H s):Inv X pins σ (upd (upd H s.heap.objs.size (.own (s.heap.objs.size + 1))) (s.heap.objs.size + 1) (.ins C s.heap.objs.size []))
  { s with heap:=(s.heap.push CC).push (Cf C s.heap.objs.size) }:=by
 have e1:(s.heap.push CC).get? s.heap.objs.size = some CC:=AN s.heap rfl
 have e2:((s.heap.push CC).push (Cf C s.heap.objs.size)).get? (s.heap.objs.size + 1) = some (Cf C s.heap.objs.size):=by
  have:=AN (s.heap.push CC) (o:=Cf C s.heap.objs.size) rfl
  rwa [CO] at this
 have e3:(s.heap.push CC).Ns s.heap.objs.size (fun _=>none):=⟨CC,#[],_,e1,rfl,(fun e he=>absurd he (by simp)),fun _=>rfl⟩
 have I1:=I.laid (a:=s.heap.objs.size) (o:=.own (s.heap.objs.size + 1)) (h':=s.heap.push CC) (t':=s.toks) (fun b u q=>AC _ q) (AL _) ⟨_,e1⟩
 refine I1.laid (a:=s.heap.objs.size + 1) (o:=.ins C s.heap.objs.size []) (t':=s.toks) (fun b u q=>AC _ q) (Eh (CO _ _)) ?_
 have ne:s.heap.objs.size ≠ s.heap.objs.size + 1:=Ad (Cr _)
 refine ⟨by rw [aK ne,aD],BG _,ne,e2,fun _=>none,(Heap.Ns1.of_empty e3).at fun o q=>AC _ q,fun _=>Ct,fun y hy=>absurd rfl hy⟩
theorem aOY {prog:Program} {w:World} {env:Env} {e:Expr} {f:Str} {pos:Pos} {s:Shared} {Q:Value → Shared → Prop} (hb:Dq e f env (eval e env) = eval e env)
  (h:wpAny (model prog w) A (eval e env) (fun o s₁=>wpAny (model prog w) A (getAttr o f true) Q E s₁) E s):wpAny (model prog w) A (eval (.Attribute e f pos) env) Q E s :=
 Attribute_any_ h (by rw [arm_eval_Attribute,hb])
end
def aTB (K:AG) (ta:TE) (f:Str):TE:=fun σ H Q=>ta σ H fun x H1=>∃ a C dx fs v,x = .ref a ∧ H1 a = some (.ins C dx fs) ∧ Cls K C ∧ oH K C f ∧ fs.lookup f = some v ∧ Q v H1
def aTF (K:AG) (ta tv:TE) (f:Str):TS:=fun D σ H=>tv σ H fun y H1=>ta σ H1 fun x H2=>∃ a C dx fs,x = .ref a ∧ H2 a = some (.ins C dx fs) ∧ Cls K C ∧ oH K C f ∧ fs.length < 1000 ∧
 D.nx σ (upd H2 a (.ins C dx (jE f y fs)))
def aST (X:Cx) (op:Operator) (rd:V → V → Hp → VK → Prop):Prop :=
 ∀ (pins:List (Addr × Obj)) (s:Shared) (σ:St) (H:Hp) (x y:V) (u v:Value) (Q:VK),Inv X pins σ H s → bG x u → bG y v → rd x y H Q → wpAny (model X.prog X.w) X.A (inplaceOp op u v) (EP X pins σ Q) X.xe s
section
variable {X:Cx} {o e value:Expr} {f:Str} {pos pos' tpos:Pos} {ta tv:TE}
theorem vH (he:PE X e ta) (hb:Dq e f X.env (eval e X.env) = eval e X.env):PE X (.Attribute e f pos) (aTB X.K ta f):=by
 intro pins s σ H Q I h
 refine aOY hb (thn (he pins s σ H _ I h) fun u s1 ⟨x,H1,I1,rx,a,C,dx,fs,v,ex,ea,c,n,l,q⟩=>?_)
 subst ex
 obtain rfl:u = Ao a:=rx
 exact aFH I1 ea c n l fun u' s2 I2 ru=>⟨v,H1,I2,ru,q⟩
theorem aKU (ha:PE X o ta) (hv:PE X value tv) (hs:swapsWith value (some (.Attribute o f pos')) pos.line X.env = pure false):PS X (.Assign [.Attribute o f pos'] value pos) (aTF X.K ta tv f):=by
 intro pins s σ H D I h
 refine plainObj_wpAny_Assign_Attribute (thn (hv pins s σ H _ I h) fun u s1 ⟨y,H1,I1,ry,q⟩=>thn (ha pins s1 σ H1 _ I1 q) fun ov s2 ⟨x,H2,I2,rx,a,C,dx,fs,ex,ea,c,n,l,q2⟩=>?_) hs
 subst ex
 obtain rfl:ov = Ao a:=rx
 exact aEK I2 ea c n l ry fun s3 I3=>⟨σ,_,I3,q2⟩
def aTJ:V → V → Hp → VK → Prop:=fun x y H Q=>∃ i j,x = .int i ∧ y = .int j ∧ Q (.int (i + j)) H
theorem aQW:aST X .Add aTJ:=by
 rintro pins s σ H x y u v Q I rx ry ⟨i,j,rfl,rfl,q⟩
 obtain ⟨t,rfl⟩:=(show ∃ t,u = EM i t from rx)
 obtain ⟨t',rfl⟩:=(show ∃ t',v = EM j t' from ry)
 exact PyProof.Rows.iadd_int ⟨.int (i + j),H,I.tok _,⟨_,rfl⟩,q⟩
end
section
variable {X:Cx} {pins:List (Addr × Obj)} {σ:St} {H:Hp} {s:Shared} {A:Around} {E:Value → Shared → Prop} {Q:Value → Shared → Prop} {c:Value} {b:Bool}
inductive TyOf (K:AG) (H:Hp):V → Value → Prop where
 | non:TyOf K H .non (.type "NoneType")
 | bl (x:Bool):TyOf K H (.bl x) (.type "bool")
 | int (i:Int):TyOf K H (.int i) (.type "int")
 | str (x:Str):TyOf K H (.str x) (.type "str")
 | flt (x:UInt64):TyOf K H (.flt x) (.type "float")
 | lst {a:Addr} {xs:List V} (e:H a = some (.lst xs)):TyOf K H (.ref a) (.type "list")
 | frz {a:Addr} {o:Obj} {xs:List V} (e:H a = some (.frz o (.lst xs))):TyOf K H (.ref a) (.type "list")
 | tup {a:Addr} {xs:List V} (e:H a = some (.tup xs)):TyOf K H (.ref a) (.type "tuple")
 | dK {a:Addr} {kvs:List (Key × V)} (e:H a = some (.dK kvs)):TyOf K H (.ref a) (.type "dict")
 | dT {a:Addr} {kvs:List (List Key × V)} (e:H a = some (.dT kvs)):TyOf K H (.ref a) (.type "dict")
 | ins {a C dx:Addr} {fs:List (Str × V)} (e:H a = some (.ins C dx fs)) (cl:Cls K C) (ha:Ap K (.ref C) "__class__" = some (some (.builtin "object.__class__")))
   (hn:Dy K (.builtin "object.__class__") "__get__" = some (some (.builtin "getset_descriptor.__get__"))) (htk:FV K (.builtin "object.__class__") = some true)
   (hm:PySem.W.mroIn K C (.type "object") = some true):TyOf K H (.ref a) (.ref C)
theorem aIF {x:V} {u t:Value} (I:Inv X pins σ H s) (rx:bG x u) (ty:TyOf X.K H x t) (e:CN X.K t c = some b) (h:∀ tk,Q (.bool b) { s with toks:=tk }) :
  wpAny (model X.prog X.w) A (call (.builtin "isinstance") [u,c]) Q E s:=by
 cases ty with
 | non=>cases (show u = BW from rx);exact Bs PySem.W.kitx_none I.kIn Ct e (fun z=>nomatch z) h
 | bl y=>cases (show u = FH y from rx);exact Bs PySem.W.kitx_bool I.kIn Ct e (fun z=>nomatch z) h
 | int i=>obtain ⟨t,q⟩:=(show ∃ t,u = EM i t from rx);cases q;exact Bs PySem.W.kitx_int I.kIn Ct e (fun z=>nomatch z) h
 | str y=>obtain ⟨t,q⟩:=(show ∃ t,u = Value.str y t from rx);cases q;exact Bs PySem.W.kitx_str I.kIn Ct e (fun z=>nomatch z) h
 | flt y=>obtain ⟨t,q⟩:=(show ∃ t,u = Value.float y t from rx);cases q;exact Bs PySem.W.kitx_float I.kIn Ct e (fun z=>nomatch z) h
 | @lst a xs ea =>
  cases (show u = Ao a from rx)
  obtain ⟨_,_,n,_,h1⟩:=(show bL X.prog X.w H s.heap a (.lst xs) from I.hok a _ ea)
  exact Bs PySem.W.kitx_list I.kIn ⟨_,h1,rfl⟩ e (fun z=>nomatch z) h
 | @frz a ob xs ea =>
  cases (show u = Ao a from rx)
  obtain ⟨_,_,_,n,_,h1⟩:=(show bL X.prog X.w H s.heap a (.frz ob (.lst xs)) from I.hok a _ ea)
  exact Bs PySem.W.kitx_list I.kIn ⟨_,h1,rfl⟩ e (fun z=>nomatch z) h
 | @tup a xs ea =>
  cases (show u = Ao a from rx)
  obtain ⟨_,_,_,p⟩:=(show bL X.prog X.w H s.heap a (.tup xs) from I.hok a _ ea)
  obtain ⟨o,h1,h2,_⟩:=p
  exact Bs PySem.W.kitx_tuple I.kIn ⟨o,h1,h2⟩ e (fun z=>nomatch z) h
 | @dK a kvs ea =>
  cases (show u = Ao a from rx)
  obtain ⟨_,_,vs,_,p⟩:=(show bL X.prog X.w H s.heap a (.dK kvs) from I.hok a _ ea)
  obtain ⟨o,es,ep,h1,h2,_⟩:=p
  exact Bs PySem.W.kitx_dict I.kIn ⟨o,h1,h2.1⟩ e (fun z=>nomatch z) h
 | @dT a kvs ea =>
  cases (show u = Ao a from rx)
  obtain ⟨_,_,xs,_,o,es,ep,h1,h2,_⟩:=(show bL X.prog X.w H s.heap a (.dT kvs) from I.hok a _ ea)
  exact Bs PySem.W.kitx_dict I.kIn ⟨o,h1,h2.1⟩ e (fun z=>nomatch z) h
 | @ins a C dx fs ea cl ha hn htk hm =>
  cases (show u = Ao a from rx)
  obtain ⟨mA,O,_⟩:=uE I.hok ea
  obtain ⟨od,J,_⟩:=O.look
  exact Bs (PySem.W.kitx_own (cl.get _) cl.hd ha hn htk hm) I.kIn J e (fun z=>nomatch z) h
end
end L2
namespace L2
open PySem PySem.Spec PyProof.Rows
structure Room (k:Nat) (A:Around):Prop where
 hd:A.handled = none
 dp:A.depth + 3 * k + 5 < recursionLimit
 un:A.units + 16 * k + 200 < cLine
theorem Room.mono {j k:Nat} {A:Around} (r:Room k A) (h:j ≤ k):Room j A:=⟨r.hd,by have:=r.dp;omega,by have:=r.un;omega⟩
theorem Room.deeper {k:Nat} {A:Around} (r:Room (k + 1) A) (env:Env):Room k (A.deeper env) :=
 ⟨r.hd,by have:=r.dp;show A.depth + 1 + 3 * k + 5 < _;omega,by have:=r.un;show A.units + 3 + 16 * k + 200 < _;omega⟩
theorem Room.in1 {k:Nat} {A:Around} (r:Room (k + 1) A):Room k A.in1 :=
 ⟨r.hd,by have:=r.dp;show A.depth + 3 * k + 5 < _;omega,by have:=r.un;show A.units + 1 + 16 * k + 200 < _;omega⟩
theorem aFB {A:Around} {C:Addr} {us:List Value} {kw:List (Str × Value)}:(A.under (.builtin "type.__call__" ⟨.ref C :: us,kw⟩)).depth = A.depth + 1:=by
 first | rfl | simp [Around.under,Code.weight,Code.isCreation,Code.isGuard,Code.isCaller,Code.frames,Code.isFrame,guardIds]
theorem aFA {A:Around} {C:Addr} {us:List Value} {kw:List (Str × Value)}:(A.under (.builtin "type.__call__" ⟨.ref C :: us,kw⟩)).units = A.units + 1:=by
 first | rfl | simp [Around.under,Code.cUnits,Code.frames,Code.isFrame]
theorem Room.make {k:Nat} {A:Around} (r:Room (k + 1) A) (C:Addr) (us:List Value) (kw:List (Str × Value)):Room k (A.under (.builtin "type.__call__" ⟨.ref C :: us,kw⟩)) :=
 ⟨r.hd,by have:=r.dp;rw [aFB];omega,by have:=r.un;rw [aFA];omega⟩
theorem Room.depth {k:Nat} {A:Around} (r:Room k A):A.depth < recursionLimit:=by have:=r.dp;omega
theorem Room.units {k:Nat} {A:Around} (r:Room k A):A.units + 64 < cLine:=by have:=r.un;omega
def aHK:TA:=fun _ H Q=>Q [] H
def aBW (ta:TE) (tr:TA):TA:=fun σ H Q=>ta σ H fun x H1=>tr σ H1 fun xs H2=>Q (x :: xs) H2
section
variable {X:Cx} {e:Expr} {es:List Expr} {te:TE} {t:TA} {pos:Pos}
theorem aE:PA X [] aHK:=fun _ _ _ _ H Q I h=>Calls.spliced_nil ⟨[],H,I,.nil,h⟩
theorem aA (ha:PE X e te) (hr:PA X es t) (hs:As (e :: es) X.env = (false,eval e X.env) :: As es X.env:=by rfl):PA X (e :: es) (aBW te t):=by
 intro pos pins s σ H Q I h
 rw [hs]
 show wpAny _ _ (spliced ((false,eval e X.env) :: backTo pos (As es X.env))) _ _ s
 refine Calls.spliced_cons (thn (ha pins s σ H _ I h) fun u s1 ⟨x,H1,I1,r1,q1⟩=>?_)
 exact thn (hr pos pins s1 σ H1 _ I1 q1) fun us s2 ⟨xs,H2,I2,r2,q2⟩=>⟨x :: xs,H2,I2,.cons r1 r2,q2⟩
def aRH (t:TA):TE:=fun σ H Q=>t σ H fun xs H1=>xs.length ≤ An ∧ ∀ p,H1 p = none → Q (.ref p) (upd H1 p (.tup xs))
def aSY (t:TA):TE:=fun σ H Q=>t σ H fun xs H1=>xs.length ≤ An ∧ ∀ p,H1 p = none → Q (.ref p) (upd H1 p (.lst xs))
theorem dW {x1} (h:PA X es t):PE X (.Tuple es x1 pos) (aRH t):=by
 intro pins s σ H Q I hq
 refine wpAny_Tuple_spliced (thn (h pos pins s σ H _ I hq) fun us s1 ⟨xs,H1,I1,r,z,q⟩=>⟨by rw [← r.length];exact z,?_⟩)
 have hf:H1 s1.heap.objs.size = none:=I1.hok.fresh (AL _)
 refine ⟨.ref s1.heap.objs.size,upd H1 s1.heap.objs.size (.tup xs),I1.laid (t':=s1.toks) (fun b u e=>AC _ e) (AL _) ?_,rfl,q _ hf⟩
 exact ⟨z,us,r,⟨_,AN _ rfl,rfl,_,rfl,rfl⟩⟩
theorem fC (h:PA X es t):PE X (.List es pos) (aSY t):=by
 intro pins s σ H Q I hq
 refine wpAny_List_spliced (thn (h pos pins s σ H _ I hq) fun us s1 ⟨xs,H1,I1,r,z,q⟩=>⟨by rw [← r.length];exact z,?_⟩)
 have hf:H1 s1.heap.objs.size = none:=I1.hok.fresh (AL _)
 refine ⟨.ref s1.heap.objs.size,upd H1 s1.heap.objs.size (.lst xs),I1.laid (t':=s1.toks) (fun b u e=>AC _ e) (AL _) ?_,rfl,q _ hf⟩
 exact ⟨z,us,0,r,AN _ rfl⟩
end
abbrev Sp:=List V → Hp → VK → XK → Prop
abbrev CXT:=List Env → Hp → Shared → XK → Value → Shared → Prop
structure Env0 (P:Program) (w:World) (K:AG) (mg:Str → Option Value) (base:Heap) (A:Around) (outer:List Env) (s:Shared) (H:Hp):Prop where
 frames:A.frames = some outer
 mod:Mod K mg base
 bs:∀ b o,base.get? b = some o → s.heap.get? b = some o ∧ H b = none
 bsz:base.objs.size ≤ s.heap.objs.size
 funs:s.heap.FunFrames base outer
 frf:∀ b ∈ frs outer,H b = none
 hok:HOk P w H s.heap
 bare:AllBare s.gens
def CE (outer:List Env) (P:Program) (w:World) (H:Hp) (s:Shared) (Q:VK) (u:Value) (s':Shared):Prop :=
 ∃ v H',s'.os = s.os ∧ AllBare s'.gens ∧ Un (frs outer) [] H H' s.heap s'.heap ∧ HOk P w H' s'.heap ∧ bG v u ∧ Q v H'
def CR (CX:CXT) (outer:List Env) (P:Program) (w:World) (H:Hp) (s:Shared) (Q:VK) (E:XK) (r:Result) (s':Shared):Prop :=
 match r with
 | .ok (.ret u)=>CE outer P w H s Q u s'
 | .ok _=>False
 | .error e=>CX outer H s E e s'
structure FnOk (P:Program) (w:World) (K:AG) (mg:Str → Option Value) (base:Heap) (CX:CXT) (k:Nat) (f:Addr) (fd:Bz) (ps:List Str) (sp:Sp):Prop where
 len:∀ vs H Q E,sp vs H Q E → vs.length = ps.length
 run:∀ (A:Around) (outer:List Env) (s:Shared) (H:Hp) (args:Args) (us:List Value) (vs:List V) (Q:VK) (E:XK),Room k A → Env0 P w K mg base A outer s H → BindsTo s fd args (ps.zip us) → bC vs us → sp vs H Q E →
  codeAny (model P w) A (.call (.ref f) args) (CR CX outer P w H s Q E) s
theorem FnOk.imp {P:Program} {w:World} {K:AG} {mg:Str → Option Value} {base:Heap} {CX:CXT} {k:Nat} {f:Addr} {fd:Bz} {ps:List Str} {sp sp':Sp} (F:FnOk P w K mg base CX k f fd ps sp)
  (h:∀ vs H Q E,sp' vs H Q E → sp vs H Q E):FnOk P w K mg base CX k f fd ps sp' :=
 ⟨fun vs H Q E q=>F.len vs H Q E (h _ _ _ _ q),fun A outer s H args us vs Q E hr he hb hv hs=>F.run A outer s H args us vs Q E hr he hb hv (h _ _ _ _ hs)⟩
theorem Env0.make {P:Program} {w:World} {K:AG} {mg:Str → Option Value} {base:Heap} {A:Around} {outer:List Env} {s:Shared} {H:Hp} (e:Env0 P w K mg base A outer s H) (C:Addr) (us:List Value) (kw:List (Str × Value)) :
  Env0 P w K mg base (A.under (.builtin "type.__call__" ⟨.ref C :: us,kw⟩)) outer s H:=⟨by first | exact e.frames | (simpa [Around.under,Code.envs,Code.isFrame,pushEnvs] using e.frames),e.mod,e.bs,e.bsz,e.funs,e.frf,e.hok,e.bare⟩
theorem Env0.in1 {P:Program} {w:World} {K:AG} {mg:Str → Option Value} {base:Heap} {A:Around} {outer:List Env} {s:Shared} {H:Hp} (e:Env0 P w K mg base A outer s H) :
  Env0 P w K mg base A.in1 outer s H:=⟨e.frames,e.mod,e.bs,e.bsz,e.funs,e.frf,e.hok,e.bare⟩
section
variable {X:Cx} {pins:List (Addr × Obj)} {σ:St} {H:Hp} {s s':Shared}
theorem Inv.env0 (I:Inv X pins σ H s):Env0 X.prog X.w X.K X.mg X.base X.A X.stack s H :=
 ⟨I.ok.frames,I.ok.mod,I.bs,BB I.ok.bsz I.sz,I.stack,I.stkFree,I.hok,I.bare⟩
theorem Inv.after {Q:VK} {u:Value} (I:Inv X pins σ H s) (h:CE X.stack X.prog X.w H s Q u s'):EP X pins σ Q u s':=by
 obtain ⟨v,H',os,bare,un,hok,r,q⟩:=h
 obtain ⟨hh,g,d,t,os'⟩:=s'
 obtain rfl:os' = s.os:=os
 exact ⟨v,H',I.call (h':=hh) (g':=g) (d':=d) (t':=t) (ch:=[]) un hok bare (fun b z=>absurd z (by simp)),r,q⟩
end
def aPH (sp:Sp) (dvs:List V) (E:XK) (t:TA):TE:=fun σ H Q=>t σ H fun vs H1=>sp (vs ++ dvs) H1 Q E
def aFZ (C:Addr) (m:Str) (sp:Sp) (dvs:List V) (E:XK) (ta:TE) (t:TA):TE:=fun σ H Q=>ta σ H fun x H1=>∃ a dx fs,x = .ref a ∧ H1 a = some (.ins C dx fs) ∧ fs.lookup m = none ∧
 t σ H1 fun vs H2=>sp (x :: (vs ++ dvs)) H2 Q E
def aPF (C:Addr) (sp:Sp) (dvs:List V) (E:XK) (t:TA):TE:=fun σ H Q=>t σ H fun vs H1=>∀ x dx,H1 x = none → H1 dx = none → dx ≠ x →
 sp (.ref x :: (vs ++ dvs)) (upd (upd H1 dx (.own x)) x (.ins C dx [])) (fun v H2=>v = .non ∧ Q (.ref x) H2) E
def kC (K:AG) (fd:Bz) (ps:List Str) (ds:List Value):Prop :=
 ∀ (s:Shared) (us:List Value),K.In s.heap → (us ++ ds).length = ps.length → BindsTo s fd ⟨us,[]⟩ (ps.zip (us ++ ds))
theorem kC.all {K:AG} {fd:Bz} {ps:List Str} (h:∀ us:List Value,us.length = ps.length → FO fd ⟨us,[]⟩ = pure (ps.zip us)):kC K fd ps []:=fun s us _ hl=>by
 rw [Ch] at hl ⊢
 exact .of_eq (h us hl)
def pV (CX:CXT) (X:Cx) (E:XK):Prop:=∀ (pins:List (Addr × Obj)) (σ:St) (H:Hp) (s:Shared) (e:Value) (s':Shared),Inv X pins σ H s → CX X.stack H s E e s' → X.xe e s'
section
variable {X:Cx} {CX:CXT} {k:Nat} {f C:Addr} {fd:Bz} {ps:List Str} {sp:Sp} {dvs:List V} {ds:List Value} {E:XK} {x m:Str} {p pos apos:Pos} {e o:Expr} {es:List Expr} {ta:TE} {t:TA}
theorem aEN {pins:List (Addr × Obj)} {σ:St} {H:Hp} {s:Shared} {Q:VK} {us:List Value} {vs:List V} (F:FnOk X.prog X.w X.K X.mg X.base CX k f fd ps sp) (hr:Room k X.A) (hb:kC X.K fd ps ds) (hd:bC dvs ds) (hx:pV CX X E)
  (I:Inv X pins σ H s) (r:bC vs us) (h:sp (vs ++ dvs) H Q E):wpAny (model X.prog X.w) X.A (call (.ref f) us) (EP X pins σ Q) X.xe s:=by
 have r2:bC (vs ++ dvs) (us ++ ds):=r.append hd
 have hl:(us ++ ds).length = ps.length:=by rw [← r2.length];exact F.len _ _ _ _ h
 refine Fa (Ce (F.run X.A X.stack s H ⟨us,[]⟩ (us ++ ds) (vs ++ dvs) Q E hr I.env0 (hb s us I.kIn hl) r2 h) fun r s' hq=>?_)
 cases r with
 | error e=>exact hx pins σ H s e s' I hq
 | ok fl =>
  cases fl with
  | ret u=>exact I.after hq
  | next=>exact Bb hq
  | brk=>exact Bb hq
  | cont=>exact Bb hq
theorem aOB (F:FnOk X.prog X.w X.K X.mg X.base CX k f fd ps sp) (hr:Room k X.A) (hg:Gl X x) (hm:X.mg x = some (.ref f)) (hk:AH X.K (.ref f) = true) (hb:kC X.K fd ps ds) (hd:bC dvs ds) (hx:pV CX X E)
  (ha:PA X (e :: es) t) (hdb:(x == ("__debug__":Str)) = false:=by decide) (he:As (e :: es) X.env = (false,eval e X.env) :: As es X.env:=by rfl) (hpl:(backTo pos (As es X.env)).any (·.1) = false:=by rfl) :
  PE X (.Call (.Name x p) (e :: es) [] pos) (aPH sp dvs E t):=by
 intro pins s σ H Q I h
 refine Cg (aAW I hg hm ?_ hdb)
 refine Ey (h₀:=X.base) I.ok.mod.kin hk (thn (ha pos pins s σ H _ I h) fun us s1 ⟨vs,H1,I1,r,q⟩=>⟨I1.kIn,?_⟩) he hpl
 exact aEN F hr hb hd hx I1 r q
theorem aNX {pl:Sem Bool} (he:PE X o ta) (c:Cls X.K C) (hm:Meth X.K C m f) (F:FnOk X.prog X.w X.K X.mg X.base CX k f fd ps sp) (hr:Room k X.A) (hb:kC X.K fd ps ds) (hd:bC dvs ds) (hx:pV CX X E) (ha:PA X (e :: es) t)
  (hst:As (e :: es) X.env = (false,eval e X.env) :: As es X.env:=by rfl) (hpl:(backTo pos (As es X.env)).any (·.1) = false:=by rfl)
  (ht:eval (.Call (.Attribute o m apos) (e :: es) [] pos) X.env = (do
   let ov ← eval o X.env
   standAt apos.atName
   let (f,first) ← holding [ov] (FR ov m pl)
   callWith pos f first (backTo pos (As (e :: es) X.env)) (Dt pos (Cy [] X.env))):=by rfl) :
  PE X (.Call (.Attribute o m apos) (e :: es) [] pos) (aFZ C m sp dvs E ta t):=by
 intro pins s σ H Q I h
 refine PySem.W.methodCall_KW (pl:=pl) (thn (he pins s σ H _ I h) fun u s1 ⟨x,H1,I1,rx,a,dx,fs,ex,ea,l,q⟩=>?_) ht
 subst ex
 obtain rfl:u = Ao a:=rx
 refine wF I1 ea c hm l ?_
 refine Ey (first:=[.ref a]) (h₀:=X.base) I.ok.mod.kin hm.kp (thn (ha pos pins s1 σ H1 _ I1 q) fun us s2 ⟨vs,H2,I2,r,q2⟩=>⟨I2.kIn,?_⟩) hst hpl
 exact aEN (us:=.ref a :: us) (vs:=.ref a :: vs) F hr hb hd hx I2 (.cons rfl r) q2
theorem aKY {pl:Sem Bool} (he:PE X o ta) (c:Cls X.K C) (hm:Meth X.K C m f) (F:FnOk X.prog X.w X.K X.mg X.base CX k f fd ps sp) (hr:Room k X.A) (hb:kC X.K fd ps ds) (hd:bC dvs ds) (hx:pV CX X E)
  (ht:eval (.Call (.Attribute o m apos) [] [] pos) X.env = (do
   let ov ← eval o X.env
   standAt apos.atName
   let (f,first) ← holding [ov] (FR ov m pl)
   callWith pos f first (backTo pos (As [] X.env)) (Dt pos (Cy [] X.env))):=by rfl) :
  PE X (.Call (.Attribute o m apos) [] [] pos) (aFZ C m sp dvs E ta aHK):=by
 intro pins s σ H Q I h
 refine PySem.W.methodCall_KW (pl:=pl) (thn (he pins s σ H _ I h) fun u s1 ⟨x,H1,I1,rx,a,dx,fs,ex,ea,l,q⟩=>?_) ht
 subst ex
 obtain rfl:u = Ao a:=rx
 refine wF I1 ea c hm l ?_
 exact PySem.W.callWith_K0 (first:=[.ref a]) I1.kIn hm.kp (aEN (us:=[.ref a]) (vs:=[.ref a]) F hr hb hd hx I1 (.cons rfl .nil) q)
structure Mk (K:AG) (C f:Addr):Prop where
 makes:EO K C = true
 init:Ap K (.ref C) "__init__" = some (some (.ref f))
 fn:Bn K (.ref f) = true
 kp:AH K (.ref C) = true
theorem aKJ {pins:List (Addr × Obj)} {σ:St} {H:Hp} {s:Shared} {Q:VK} {us:List Value} {vs:List V} (M:Mk X.K C f) (F:FnOk X.prog X.w X.K X.mg X.base CX k f fd ps sp) (hr:Room (k + 1) X.A) (hb:kC X.K fd ps ds) (hd:bC dvs ds)
  (hx:pV CX X E) (I:Inv X pins σ H s) (r:bC vs us)
  (h:∀ x dx,H x = none → H dx = none → dx ≠ x → sp (.ref x :: (vs ++ dvs)) (upd (upd H dx (.own x)) x (.ins C dx [])) (fun v H2=>v = .non ∧ Q (.ref x) H2) E) :
  wpAny (model X.prog X.w) X.A (call (.ref C) us) (EP X pins σ Q) X.xe s:=by
 have hq:=h (s.heap.objs.size + 1) s.heap.objs.size (I.hok.fresh (CS _)) (I.hok.fresh (AL _)) (Ad (Cr _))
 have I2:=Inv.made (C:=C) I
 have r2:bC (V.ref (s.heap.objs.size + 1) :: (vs ++ dvs)) (Ao (s.heap.objs.size + 1) :: (us ++ ds)):=.cons rfl (r.append hd)
 have hl:(Ao (s.heap.objs.size + 1) :: us ++ ds).length = ps.length:=by
  have e:=r2.length
  rw [F.len _ _ _ _ hq] at e
  exact e.symm
 refine Fa (aLH (f:=f) I.kIn M.makes M.init (beq_iff_eq.mp M.fn) (Ce (F.run _ X.stack _ _ ⟨Ao (s.heap.objs.size + 1) :: us,[]⟩ (Ao (s.heap.objs.size + 1) :: (us ++ ds)) _ _ E (hr.make C us [])
  (I2.env0.make C us []) (hb _ (Ao (s.heap.objs.size + 1) :: us) I2.kIn hl) r2 hq) fun r s' hq'=>?_))
 cases r with
 | error e=>exact hx pins σ _ _ e s' I2 hq'
 | ok fl =>
  cases fl with
  | ret u =>
   obtain ⟨v,H',I3,rv,ev,q3⟩:=I2.after hq'
   subst ev
   exact ⟨rv,⟨V.ref (s.heap.objs.size + 1),H',I3,rfl,q3⟩⟩
  | next=>exact Bb hq'
  | brk=>exact Bb hq'
  | cont=>exact Bb hq'
theorem aNY (M:Mk X.K C f) (F:FnOk X.prog X.w X.K X.mg X.base CX k f fd ps sp) (hr:Room (k + 1) X.A) (hg:Gl X x) (hm:X.mg x = some (.ref C)) (hb:kC X.K fd ps ds) (hd:bC dvs ds) (hx:pV CX X E)
  (ha:PA X (e :: es) t) (hdb:(x == ("__debug__":Str)) = false:=by decide) (he:As (e :: es) X.env = (false,eval e X.env) :: As es X.env:=by rfl) (hpl:(backTo pos (As es X.env)).any (·.1) = false:=by rfl) :
  PE X (.Call (.Name x p) (e :: es) [] pos) (aPF C sp dvs E t):=by
 intro pins s σ H Q I h
 refine Cg (aAW I hg hm ?_ hdb)
 refine Ey (h₀:=X.base) I.ok.mod.kin M.kp (thn (ha pos pins s σ H _ I h) fun us s1 ⟨vs,H1,I1,r,q⟩=>⟨I1.kIn,?_⟩) he hpl
 exact aKJ M F hr hb hd hx I1 r q
end
def PK (X:Cx) (kws:List Keyword) (t:TA):Prop :=
 ∀ (pos:Pos) (pins:List (Addr × Obj)) (s:Shared) (σ:St) (H:Hp) (Q:List V → Hp → Prop),Inv X pins σ H s → t σ H Q → wpAny (model X.prog X.w) X.A (evalAll ((Dt pos (Cy kws X.env)).map (·.2))) (AP X pins σ Q) X.xe s
section
variable {X:Cx} {CX:CXT} {k:Nat} {f C:Addr} {fd:Bz} {ps ks:List Str} {sp:Sp} {E:XK} {x m:Str} {p pos apos kpos:Pos} {e o:Expr} {es:List Expr} {kws:List Keyword} {te ta:TE} {t tk:TA} {nm:Option Str}
theorem aQE:PK X [] aHK:=fun _ _ _ _ H Q I h=>wpAny_evalAll_nil ⟨[],H,I,.nil,h⟩
theorem aNV (ha:PE X e te) (hr:PK X kws t):PK X (⟨nm,e,kpos⟩ :: kws) (aBW te t):=by
 intro pos pins s σ H Q I h
 show wpAny _ _ (evalAll ((do let v ← eval e X.env;standAt pos;pure v) :: (Dt pos (Cy kws X.env)).map (·.2))) _ _ s
 refine wpAny_evalAll_cons (AB (thn (ha pins s σ H _ I h) fun u s1 ⟨x,H1,I1,r1,q1⟩=>AB (wpAny_standAt (AF ?_))))
 exact thn (hr pos pins s1 σ H1 _ I1 q1) fun us s2 ⟨xs,H2,I2,r2,q2⟩=>⟨x :: xs,H2,I2,.cons r1 r2,q2⟩
structure KBinds (K:AG) (fd:Bz) (ps ks:List Str) (g:List Value → List Value → List Value) (gV:List V → List V → List V):Prop where
 to:∀ (s:Shared) (us ws:List Value),K.In s.heap → (g us ws).length = ps.length → BindsTo s fd ⟨us,ks.zip ws⟩ (ps.zip (g us ws))
 rel:∀ {vs:List V} {us:List Value} {zs:List V} {ws:List Value},bC vs us → bC zs ws → bC (gV vs zs) (g us ws)
variable {g:List Value → List Value → List Value} {gV:List V → List V → List V}
end
structure FnScope (N P:List Str) (sc:Scope):Prop where
 kind:sc.kind = .function
 co:sc.isCoroutine = false
 gen:sc.isGenerator = false
 nd:N.Nodup
 pre:N.take P.length = P
 par:∀ x ∈ P,sc.names.lookup x = some .local ∨ sc.names.lookup x = some .cell
 nofree:∀ y ∈ sc.names,y.2 ≠ .free
theorem zK {kindOf:Str → Option Ax} {x:Str}:∀ {binds:List (Str × Value)} {m:Str → Option Value},(∀ v,(x,v) ∉ binds) → bindL kindOf binds m x = m x
 | [],_,_=>rfl
 | (n,v) :: r,m,h=>by
  unfold bindL
  rw [zK fun w hw=>h w (AV _ hw)]
  split
  ·have:x ≠ n:=by rintro rfl;exact h v AY
   simp [this]
  ·rfl
theorem zM {kindOf:Str → Option Ax} {x:Str}:∀ {binds:List (Str × Value)} {m:Str → Option Value},(∀ v,(x,v) ∉ binds) → bindC kindOf binds m x = m x
 | [],_,_=>rfl
 | (n,v) :: r,m,h=>by
  unfold bindC
  rw [zM fun w hw=>h w (AV _ hw)]
  split
  ·rfl
  ·have:x ≠ n:=by rintro rfl;exact h v AY
   simp [this]
theorem zL {kindOf:Str → Option Ax} {x:Str} {v:Value}:∀ {P:List Str} {vs:List Value} {i:Nat} {m:Str → Option Value},P.Nodup → P[i]? = some x → vs[i]? = some v → kindOf x = some .local →
  bindL kindOf (P.zip vs) m x = some v
 | [],_,_,_,_,h,_,_=>by simp at h
 | _ :: _,[],_,_,_,_,h,_=>by simp at h
 | p :: P,w :: vs,0,m,nd,h1,h2,hk=>by
  simp at h1 h2;subst h1;subst h2
  show bindL kindOf ((p,w) :: P.zip vs) m p = _
  unfold bindL
  rw [zK fun v hv=>(Aq.mp nd).1 (Ej hv).1,if_pos hk]
  simp
 | p :: P,w :: vs,i + 1,m,nd,h1,h2,hk=>by
  show bindL kindOf ((p,w) :: P.zip vs) m x = _
  unfold bindL
  exact zL (i:=i) (Aq.mp nd).2 (by simpa using h1) (by simpa using h2) hk
theorem zN {kindOf:Str → Option Ax} {x:Str} {v:Value}:∀ {P:List Str} {vs:List Value} {i:Nat} {m:Str → Option Value},P.Nodup → P[i]? = some x → vs[i]? = some v → kindOf x ≠ some .local →
  bindC kindOf (P.zip vs) m x = some v
 | [],_,_,_,_,h,_,_=>by simp at h
 | _ :: _,[],_,_,_,_,h,_=>by simp at h
 | p :: P,w :: vs,0,m,nd,h1,h2,hk=>by
  simp at h1 h2;subst h1;subst h2
  show bindC kindOf ((p,w) :: P.zip vs) m p = _
  unfold bindC
  rw [zM fun v hv=>(Aq.mp nd).1 (Ej hv).1,if_neg hk]
  simp
 | p :: P,w :: vs,i + 1,m,nd,h1,h2,hk=>by
  show bindC kindOf ((p,w) :: P.zip vs) m x = _
  unfold bindC
  exact zN (i:=i) (Aq.mp nd).2 (by simpa using h1) (by simpa using h2) hk
def start (N:List Str) (vs:List V):St:=vs.map some ++ List.replicate (N.length - vs.length) none
def mJ (CX:CXT) (P:Program) (w:World) (K:AG) (mg:Str → Option Value) (base:Heap) (N:List Str) (qual:Str) (scope:Scope) (f:Addr) (cd:Value) (A:Around) (outer:List Env) (s:Shared) (H:Hp) (E:XK):Cx where
 prog:=P
 w:=w
 K:=K
 mg:=mg
 base:=base
 A:=A.deeper (envOfC qual scope s.heap.objs.size f cd)
 N:=N
 s₀:=s
 H₀:=H
 env:=envOfC qual scope s.heap.objs.size f cd
 outer:=outer
 stack:=envOfC qual scope s.heap.objs.size f cd :: outer
 ex:=[]
 calm:=true
 fn:=fun _=>true
 pn:=[]
 xe:=fun e s'=>wpAny (model P w) (A.deeper (envOfC qual scope s.heap.objs.size f cd)) (leaving (envOfC qual scope s.heap.objs.size f cd) e) (fun _ s''=>CX outer H s E e s'') (fun e' s''=>CX outer H s E e' s'') s'
theorem aDQ {sc:Scope} {n:Nat} {x:Str} (h:sc.names.lookup x = some .cell):∃ c,(cellsFrom n sc.names []).lookup x = some c:=by
 have q:=EN sc.names n [] (.inl h)
 exact Option.isSome_iff_exists.mp q
theorem yV {CX:CXT} {P:Program} {w:World} {K:AG} {mg:Str → Option Value} {base:Heap} {N ps:List Str} {qual:Str} {scope:Scope} {f:Addr} {cd:Value} {A:Around} {outer:List Env} {s s1:Shared} {H:Hp} {E:XK} {us:List Value} {vs:List V}
  (S:FnScope N ps scope) (hd:A.handled = none) (e0:Env0 P w K mg base A outer s H) (hl:vs.length = ps.length) (r:bC vs us)
  (x:InCallC s s.heap.objs.size (bindL (envOfC qual scope s.heap.objs.size f cd).kindOf (ps.zip us) fun _=>none) (cellsFrom (s.heap.objs.size + 1) scope.names []) (bindC (envOfC qual scope s.heap.objs.size f cd).kindOf (ps.zip us) fun _=>none) s1) :
  Inv (mJ CX P w K mg base N qual scope f cd A outer s H E) [] (start N vs) H s1:=by
 have hpl:ps.length ≤ N.length:=by have:=congrArg CI S.pre;rw [AZ] at this;omega
 obtain ⟨h1,tk,rfl,hk⟩:=x.done
 have noA:∀ b:Addr,b ∉ (mJ CX P w K mg base N qual scope f cd A outer s H E).ex:=fun b z=>absurd (show b ∈ ([]:List Addr) from z) (by simp)
 refine ⟨⟨e0.mod,S.kind,rfl,rfl,AL _,fun y z c h1 h2=>?_,fun y hy=>?_,fun y c _ h=>?_,fun _=>hd,Around.frames_deeper e0.frames,.inr ⟨rfl,rfl⟩,fun b z=>absurd z (noA b),e0.bs,e0.bsz,fun b _ _=>noA b,fun b z=>absurd z (noA b),e0.funs,e0.frf⟩,
  rfl,e0.bare,Un.kept hk,⟨_,x.toInCall.ns,fun i y v h1 h2 h3=>?_⟩,fun y c h=>⟨_,x.cell y c h⟩,e0.hok.fresh (AL _),fun y c h=>?_,fun p hp=>absurd (show p ∈ ([]:List (Addr × Obj)) from hp) (by simp),e0.hok.kept hk,?_⟩
 ·exact name_of_addr x.apart (DI h1) (DI h2)
 ·have hy:scope.names.lookup y = some .cell ∨ scope.names.lookup y = some .free:=hy
  rcases hy with hy | hy
  ·exact aDQ hy
  ·exact absurd rfl (S.nofree _ (DI hy))
 ·exact Dw (x.above y c (DI h))
 ·have hi:i < vs.length:=by
   unfold start at h2
   by_cases hi:i < vs.length
   ·exact hi
   ·rw [Cc (by simpa using hi)] at h2
    rw [List.getElem?_replicate] at h2
    split at h2 <;> cases h2
  have ha:vs[i]? = some v:=by
   unfold start at h2
   rw [Bf (by simpa using hi),AR] at h2
   cases e:vs[i]? with
   | none=>rw [e] at h2;cases h2
   | some a=>rw [e] at h2;cases h2;rfl
  obtain ⟨u,hu,rv⟩:=r.get ha
  have hp:ps[i]? = some y:=by
   rw [← S.pre,Bt (by omega)];exact h1
  have ndP:ps.Nodup:=by rw [← S.pre];exact S.nd.sublist (ED _ _)
  refine ⟨u,rv,?_⟩
  rcases S.par y (AS hp) with k | k
  ·exact .inl ⟨k,zL ndP hp hu k⟩
  ·obtain ⟨c,e⟩:=aDQ (n:=s.heap.objs.size + 1) k
   refine .inr ⟨.inl k,c,e,?_⟩
   have q:=x.cell y c e
   rw [zN ndP hp hu (by show scope.names.lookup y ≠ _;rw [k];decide)] at q
   exact q
 ·exact e0.hok.fresh (Dw (x.above y c (DI h)))
 ·unfold start
  show _ = N.length
  rw [Ag,AA,List.length_replicate]
  omega
theorem aPO {CX:CXT} {P:Program} {w:World} {K:AG} {mg:Str → Option Value} {base:Heap} {k:Nat} {f:Addr} {name qual:Str} {params:EJ} {body:List Stmt} {scope:Scope} {dV kV doc pm cdv ct oc:Value} {an od:Option Addr}
  {osl:Array (Option Value)} {N ps:List Str} {sp:Sp} (lk:K.lookup f = some ⟨oc,od,.func (AO name qual params body scope dV kV doc pm an cdv ct),osl⟩) (hcd:AK K cdv qual = true) (S:FnScope N ps scope)
  (len:∀ vs H Q E,sp vs H Q E → vs.length = ps.length)
  (hbody:∀ (A:Around) (outer:List Env) (s:Shared) (H:Hp) (vs:List V) (Q:VK) (E:XK),Room k (A.deeper (envOfC qual scope s.heap.objs.size f cdv)) → sp vs H Q E →
   ∃ t,PSs (mJ CX P w K mg base N qual scope f cdv A outer s H E) body t ∧ t { nx:=fun _ H'=>Q .non H',rt:=Q } (start N vs) H) :
  FnOk P w K mg base CX (k + 1) f (AO name qual params body scope dV kV doc pm an cdv ct) ps sp:=by
 refine ⟨len,fun A outer s H args us vs Q E hr e0 hb r hsp=>?_⟩
 have hl:=len _ _ _ _ hsp
 have KX:K.In s.heap:=e0.mod.kin.keeps fun b o e=>(e0.bs b o e).1
 have lim:s.heap.NoLimit:=e0.mod.nolimit.keeps fun b o e=>(e0.bs b o e).1
 have hkind:∀ y ∈ ps.zip us,scope.names.lookup y.1 = some .local ∨ (scope.names.lookup y.1 = some .cell ∧ ((cellsFrom (s.heap.objs.size + 1) scope.names []).lookup y.1).isSome = true):=fun ⟨n,v⟩ hy=>by
  rcases S.par n (Ej hy).1 with q | q
  ·exact .inl q
  ·exact .inr ⟨q,EN _ _ _ (.inl q)⟩
 refine codeAny_call_function hr.depth (KX _ _ lk) rfl S.co S.gen rfl (PySem.W.codeRec_of KX hcd) (hb _ _ _ _ ?_)
 refine wpAny_newFunctionEnv_cells S.kind hkind fun env he s1 x=>?_
 subst he
 refine ⟨lim.keeps x.toInCall.keep,codeAny_func ?_⟩
 obtain ⟨t,ht,hq⟩:=hbody A outer s H vs Q E (hr.deeper _) hsp
 have I:Inv (mJ CX P w K mg base N qual scope f cdv A outer s H E) [] (start N vs) H s1:=yV S hr.hd e0 hl r x
 refine BJ (ht [] s1 (start N vs) H _ I hq) (fun fl s' hs=>?_) fun e s' hs=>hs
 have fin:∀ {σ':St} {H':Hp} {v:V} {u:Value},Inv (mJ CX P w K mg base N qual scope f cdv A outer s H E) [] σ' H' s' → bG v u → Q v H' → CE outer P w H s Q u s' :=
  fun {σ' H' v u} J rv q=>⟨v,H',J.os,J.bare,J.base,J.hok,rv,q⟩
 cases fl with
 | ret u =>
  obtain ⟨v,σ',H',J,rv,q⟩:=hs
  exact fin J rv q
 | next =>
  obtain ⟨σ',H',J,q⟩:=hs
  exact fin (v:=V.non) (u:=BW) J rfl q
 | brk =>
  obtain ⟨_,_,_,q⟩:=hs
  exact Bb q
 | cont =>
  obtain ⟨_,_,_,q⟩:=hs
  exact Bb q
end L2
namespace L2
open PySem PySem.Spec PyProof.Rows
section
variable {X:Cx} {x:Str} {p pos:Pos} {e:Expr} {es:List Expr} {t:TA} {id T:String} {r:List V → Hp → VK → Prop}
def tCB (r:List V → Hp → VK → Prop) (t:TA):TE:=fun σ H Q=>t σ H fun vs H1=>r vs H1 Q
theorem aV (hc:fG X (.builtin id) r) (hg:Gl X x) (hm:X.mg x = none) (hv:BN x = some (.builtin id)) (ha:PA X (e :: es) t) (hn:x ≠ "__name__":=by decide) (hdb:(x == ("__debug__":Str)) = false:=by decide)
  (he:As (e :: es) X.env = (false,eval e X.env) :: As es X.env:=by rfl) (hpl:(backTo pos (As es X.env)).any (·.1) = false:=by rfl):PE X (.Call (.Name x p) (e :: es) [] pos) (tCB r t):=by
 intro pins s σ H Q I h
 refine Cg (pR I hg hm hv ?_ hn hdb)
 exact PyProof.Rows.callWith_builtin1 (thn (ha pos pins s σ H _ I h) fun us s1 ⟨vs,H1,I1,r1,q1⟩=>hc pins s1 σ H1 vs us Q I1 r1 q1) he hpl
theorem bH (hc:fG X (.type T) r) (hg:Gl X x) (hm:X.mg x = none) (hv:BN x = some (.type T)) (ha:PA X (e :: es) t) (hn:x ≠ "__name__":=by decide) (hdb:(x == ("__debug__":Str)) = false:=by decide)
  (he:As (e :: es) X.env = (false,eval e X.env) :: As es X.env:=by rfl) (hpl:(backTo pos (As es X.env)).any (·.1) = false:=by rfl):PE X (.Call (.Name x p) (e :: es) [] pos) (tCB r t):=by
 intro pins s σ H Q I h
 refine Cg (pR I hg hm hv ?_ hn hdb)
 exact Cq (thn (ha pos pins s σ H _ I h) fun us s1 ⟨vs,H1,I1,r1,q1⟩=>hc pins s1 σ H1 vs us Q I1 r1 q1) he hpl
end
end L2
namespace L2
open PySem PySem.Spec PyProof.Rows
section
variable {κ:Type} [DecidableEq κ]
def dJ (kvs:List (κ × V)) (k:κ):Option V:=(kvs.find? fun kv=>decide (kv.1 = k)).map (·.2)
def jR (kvs:List (κ × V)) (k:κ) (v:V):List (κ × V) :=
 if (kvs.any fun kv=>decide (kv.1 = k)) = true then kvs.map (fun kv=>if kv.1 = k then (kv.1,v) else kv) else kvs ++ [(k,v)]
def dropK (kvs:List (κ × V)) (k:κ):List (κ × V):=kvs.filter fun kv=>decide (kv.1 ≠ k)
theorem dM {p:κ × V} {r:List (κ × V)} {k:κ} (e:p.1 = k):dJ (p :: r) k = some p.2:=by simp [dJ,Bw,e]
theorem dN {p:κ × V} {r:List (κ × V)} {k:κ} (e:¬ p.1 = k):dJ (p :: r) k = dJ r k:=by simp [dJ,Bw,e]
theorem jJ (k:κ):∀ kvs:List (κ × V),(kvs.any fun kv=>decide (kv.1 = k)) = (dJ kvs k).isSome
 | []=>rfl
 | p :: r=>by
  rw [EG]
  by_cases e:p.1 = k
  ·simp only [dM e,decide_eq_true e,Bool.true_or,Option.isSome_some]
  ·rw [dN e,decide_eq_false e,Bool.false_or];exact jJ k r
theorem aBS (k j:κ) (y:V):∀ kvs:List (κ × V),dJ (kvs.map fun kv=>if kv.1 = k then (kv.1,y) else kv) j = (dJ kvs j).map fun x=>if j = k then y else x
 | []=>rfl
 | p :: r=>by
  have ih:=aBS k j y r
  rw [Ac]
  by_cases h:p.1 = k
  ·rw [if_pos h]
   by_cases e:p.1 = j
   ·rw [dM (p:=(p.1,y)) e,dM e,DN,if_pos (e.symm.trans h)]
   ·rw [dN (p:=(p.1,y)) e,dN e,ih]
  ·rw [if_neg h]
   by_cases e:p.1 = j
   ·rw [dM (p:=p) e,dM e,DN,if_neg (fun z=>h (e.trans z))]
   ·rw [dN (p:=p) e,dN e,ih]
theorem xT (k j:κ) (y:V):∀ kvs:List (κ × V),dJ kvs k = none → dJ (kvs ++ [(k,y)]) j = if j = k then some y else dJ kvs j
 | [],_=>by
  by_cases e:k = j
  ·rw [if_pos e.symm];exact dM (p:=(k,y)) e
  ·rw [if_neg (fun z=>e z.symm)];exact dN (p:=(k,y)) e
 | p :: r,hn=>by
  rw [List.cons_append]
  have hk:¬ p.1 = k:=fun z=>by rw [dM z] at hn;cases hn
  rw [dN hk] at hn
  have ih:=xT k j y r hn
  by_cases e:p.1 = j
  ·rw [dM e,dM e,if_neg (fun z=>hk (e.trans z))]
  ·rw [dN e,dN e,ih]
theorem aJE (kvs:List (κ × V)) (k j:κ) (y:V):dJ (jR kvs k y) j = if j = k then some y else dJ kvs j:=by
 unfold jR
 by_cases a:(kvs.any fun kv=>decide (kv.1 = k)) = true
 ·rw [if_pos a,aBS]
  rw [jJ] at a
  by_cases e:j = k
  ·obtain ⟨x,hx⟩:=Option.isSome_iff_exists.mp a
   rw [if_pos e,e,hx,DN,if_pos rfl]
  ·rw [if_neg e]
   cases dJ kvs j with
   | none=>rfl
   | some x=>rw [DN,if_neg e]
 ·rw [if_neg a]
  refine xT k j y kvs ?_
  rw [jJ] at a
  cases q:dJ kvs k with
  | none=>rfl
  | some x=>rw [q] at a;exact (a rfl).elim
theorem nN (kvs:List (κ × V)) (k:κ) (v:V):(jR kvs k v).length ≤ kvs.length + 1:=by
 unfold jR
 split
 ·rw [AA];omega
 ·rw [Ag,Am,Dj];omega
theorem aKR {kvs:List (κ × V)} {k:κ} (v:V) (h:dJ kvs k = none):jR kvs k v = kvs ++ [(k,v)]:=by
 unfold jR
 rw [jJ,h]
 exact if_neg (by decide)
theorem oX.isSome_eq {o:Option V} {u:Option Value} (r:oX o u):o.isSome = u.isSome:=by
 cases o with
 | none=>cases u with
  | none=>rfl
  | some _=>exact (show False from r).elim
 | some _=>cases u with
  | none=>exact (show False from r).elim
  | some _=>rfl
theorem KV.val {kvs:List (κ × V)} {vs:List (κ × Value)} (r:KV kvs vs) (k:κ):oX (dJ kvs k) (valueAt vs k):=by
 unfold KV at r
 induction r with
 | nil=>exact Ct
 | @cons p q ps qs h t ih =>
  obtain ⟨h1,h2⟩:=h
  by_cases e:p.1 = k
  ·have e':q.1 = k:=h1.symm.trans e
   have b:valueAt (q :: qs) k = some q.2:=by simp [valueAt,Bw,e']
   rw [dM e,b];exact h2
  ·have e':¬ q.1 = k:=fun z=>e (h1.trans z)
   have b:valueAt (q :: qs) k = valueAt qs k:=by simp [valueAt,Bw,e']
   rw [dN e,b];exact ih
theorem KV.any {kvs:List (κ × V)} {vs:List (κ × Value)} (r:KV kvs vs) (k:κ):(kvs.any fun kv=>decide (kv.1 = k)) = vs.any fun kv=>decide (kv.1 = k):=by
 unfold KV at r
 induction r with
 | nil=>rfl
 | cons h t ih=>rw [EG,EG,ih,h.1]
theorem KV.repl {kvs:List (κ × V)} {vs:List (κ × Value)} (r:KV kvs vs) (k:κ) {y:V} {u:Value} (ry:bG y u) :
  KV (kvs.map fun kv=>if kv.1 = k then (kv.1,y) else kv) (vs.map fun kv=>if kv.1 = k then (kv.1,u) else kv):=by
 unfold KV at r ⊢
 induction r with
 | nil=>exact .nil
 | @cons p q ps qs h t ih =>
  rw [Ac,Ac]
  refine .cons ?_ ih
  obtain ⟨h1,h2⟩:=h
  by_cases e:p.1 = k
  ·rw [if_pos e,if_pos (h1.symm.trans e)];exact ⟨h1,ry⟩
  ·rw [if_neg e,if_neg (fun z=>e (h1.trans z))];exact ⟨h1,h2⟩
theorem KV.put {kvs:List (κ × V)} {vs:List (κ × Value)} (r:KV kvs vs) (k:κ) {y:V} {u:Value} (ry:bG y u):KV (jR kvs k y) (stored vs k u):=by
 unfold jR stored
 rw [r.any k]
 by_cases e:(vs.any fun kv=>decide (kv.1 = k)) = true
 ·rw [if_pos e,if_pos e];exact r.repl k ry
 ·rw [if_neg e,if_neg e];exact Paired.snoc r ⟨rfl,ry⟩
theorem KV.keys {kvs:List (κ × V)} {vs:List (κ × Value)} (r:KV kvs vs):kvs.map (·.1) = vs.map (·.1):=by
 unfold KV at r
 induction r with
 | nil=>rfl
 | cons h t ih=>rw [Ac,Ac,ih,h.1]
theorem KV.length {kvs:List (κ × V)} {vs:List (κ × Value)} (r:KV kvs vs):kvs.length = vs.length:=Ez r
end
theorem aDB {P:Program} {w:World} {k:Key} {u:Value} (r:bG (kV k) u):(aN P w).is k u = true:=by
 cases k with
 | inl i=>obtain ⟨t,e⟩:=(show ∃ t,u = EM i t from r);subst e;exact aCX P w i t
 | inr x=>obtain ⟨t,e⟩:=(show ∃ t,u = Value.str x t from r);subst e;exact aCW P w x t
theorem yU {P:Program} {w:World}:∀ {ks:List Key} {us:List Value},bC (ks.map kV) us → ItemsAre (aN P w) ks us
 | [],_,r=>by rw [Ci] at r;cases r;exact .nil
 | k :: ks,_,r=>by
  rw [Ac] at r
  cases r with
  | cons h t=>exact .cons (aDB h) (yU t)
abbrev KT (H:Hp):List (List Key × V) → List (List Key × Addr × Value) → Prop:=Paired fun p q=>p.1 = q.1 ∧ H q.2.1 = some (.tup (p.1.map kV)) ∧ bG p.2 q.2.2
theorem KT.val {H:Hp} {kvs:List (List Key × V)} {xs:List (List Key × Addr × Value)} (r:KT H kvs xs) (k:List Key):oX (dJ kvs k) ((atKey xs k).map (·.2)):=by
 induction r with
 | nil=>exact Ct
 | @cons p q ps qs h t ih =>
  obtain ⟨h1,_,h2⟩:=h
  by_cases e:p.1 = k
  ·have e':q.1 = k:=h1.symm.trans e
   have b:atKey (q :: qs) k = some q.2:=by simp [atKey,Bw,e']
   rw [dM e,b];exact h2
  ·have e':¬ q.1 = k:=fun z=>e (h1.trans z)
   have b:atKey (q :: qs) k = atKey qs k:=by simp [atKey,Bw,e']
   rw [dN e,b];exact ih
theorem KT.repl {H:Hp} {kvs:List (List Key × V)} {xs:List (List Key × Addr × Value)} (r:KT H kvs xs) (k:List Key) {y:V} {u:Value} (ry:bG y u) :
  KT H (kvs.map fun kv=>if kv.1 = k then (kv.1,y) else kv) (xs.map (putAt k u)):=by
 induction r with
 | nil=>exact .nil
 | @cons p q ps qs h t ih =>
  rw [Ac,Ac]
  refine .cons ?_ ih
  obtain ⟨h1,h2,h3⟩:=h
  unfold putAt
  by_cases e:p.1 = k
  ·rw [if_pos e,if_pos (h1.symm.trans e)];exact ⟨h1,h2,ry⟩
  ·rw [if_neg e,if_neg (fun z=>e (h1.trans z))];exact ⟨h1,h2,h3⟩
theorem KT.put {H:Hp} {kvs:List (List Key × V)} {xs:List (List Key × Addr × Value)} (r:KT H kvs xs) (k:List Key) {b:Addr} {y:V} {u:Value} (hb:H b = some (.tup (k.map kV))) (ry:bG y u) :
  KT H (jR kvs k y) (storedH xs k b u):=by
 have e:(kvs.any fun kv=>decide (kv.1 = k)) = (atKey xs k).isSome:=by
  rw [jJ,(r.val k).isSome_eq,FL]
 unfold jR storedH
 rw [e]
 by_cases q:(atKey xs k).isSome = true
 ·rw [if_pos q,if_pos q];exact r.repl k ry
 ·rw [if_neg q,if_neg q];exact Paired.snoc r ⟨rfl,hb,ry⟩
theorem KT.keeps {H H':Hp} {kvs:List (List Key × V)} {xs:List (List Key × Addr × Value)} (r:KT H kvs xs) (ht:∀ b ys,H b = some (.tup ys) → H' b = some (.tup ys)):KT H' kvs xs :=
 Paired.mapP r fun _ _ z=>⟨z.1,ht _ _ z.2.1,z.2.2⟩
section
variable {P:Program} {w:World} {H:Hp} {h:Heap} {a:Addr}
theorem aPK {u:HO} (ok:HOk P w H h) (e:Rd H a u):bL P w H h a u:=e.ok ok
theorem aDI {kvs:List (Key × V)} (ok:HOk P w H h) (e:Rd H a (.dK kvs)):kvs.length ≤ An ∧ (a == DM) = false ∧ ∃ vs,KV kvs vs ∧ h.DictOf (aN P w) a vs :=
 show bL P w H h a (.dK kvs) from aPK ok e
theorem aSR {kvs:List (Key × V)} (ok:HOk P w H h) (e:H a = some (.dK kvs)):kvs.length ≤ An ∧ (a == DM) = false ∧ ∃ vs,KV kvs vs ∧ h.DictOf (aN P w) a vs:=aDI ok (.inl e)
theorem wB {ks:List Key} (ok:HOk P w H h) (e:H a = some (.tup (ks.map kV))):(tupleKind (aN P w)).is h ks a:=by
 obtain ⟨_,its,r,o,h1,h2,n,h3,_⟩:=(show bL P w H h a (.tup (ks.map kV)) from ok a _ e)
 exact ⟨o,its.toArray,n,h1,h2,h3,by simpa using yU r⟩
theorem aDH {kvs:List (List Key × V)} (ok:HOk P w H h) (e:Rd H a (.dT kvs)):kvs.length ≤ An ∧ (a == DM) = false ∧
  ∃ xs,KT H kvs xs ∧ h.DictOfH (tupleKind (aN P w)) a xs:=by
 obtain ⟨z,y,xs,r,o,es,ep,h1,h2,h3,h4,h5⟩:=(show bL P w H h a (.dT kvs) from aPK ok e)
 refine ⟨z,y,xs,r,o,es,ep,h1,h2,h3,h4,fun x hx=>?_,h5⟩
 have all:∀ {l:List (List Key × V)} {m:List (List Key × Addr × Value)},KT H l m → ∀ x ∈ m,(tupleKind (aN P w)).is h x.1 x.2.1:=by
  intro l m q
  induction q with
  | nil=>intro x hx;exact nomatch hx
  | @cons p q ps qs hq t ih =>
   intro x hx
   rcases Af.mp hx with e | hx
   ·subst e
    exact wB ok (by rw [← hq.1];exact hq.2.1)
   ·exact ih x hx
 exact all r x hx
theorem aSP {kvs:List (List Key × V)} (ok:HOk P w H h) (e:H a = some (.dT kvs)):kvs.length ≤ An ∧ (a == DM) = false ∧
  ∃ xs,KT H kvs xs ∧ h.DictOfH (tupleKind (aN P w)) a xs:=aDH ok (.inl e)
end
def sL (H:Hp) (a:Addr) (y:V) (r:Option V):Prop :=
 (∃ kvs k,Rd H a (.dK kvs) ∧ y = kV k ∧ r = dJ kvs k) ∨ ∃ kvs k b,Rd H a (.dT kvs) ∧ y = .ref b ∧ H b = some (.tup (k.map kV)) ∧ r = dJ kvs k
def aJC (H:Hp) (a:Addr) (y v:V) (H':Hp):Prop :=
 (∃ kvs k,H a = some (.dK kvs) ∧ y = kV k ∧ kvs.length < An ∧ H' = upd H a (.dK (jR kvs k v))) ∨
 ∃ kvs k b,H a = some (.dT kvs) ∧ y = .ref b ∧ H b = some (.tup (k.map kV)) ∧ kvs.length < An ∧ H' = upd H a (.dT (jR kvs k v))
theorem sL.k {H:Hp} {a:Addr} {kvs:List (Key × V)} {k:Key} (e:H a = some (.dK kvs)):sL H a (kV k) (dJ kvs k):=.inl ⟨kvs,k,.inl e,rfl,rfl⟩
theorem aJC.t {H:Hp} {a b:Addr} {kvs:List (List Key × V)} {k:List Key} {v:V} (e:H a = some (.dT kvs)) (eb:H b = some (.tup (k.map kV))) (hl:kvs.length < An) :
  aJC H a (.ref b) v (upd H a (.dT (jR kvs k v))):=.inr ⟨kvs,k,b,e,rfl,eb,hl,rfl⟩
section
variable {X:Cx} {pins:List (Addr × Obj)} {σ:St} {H:Hp} {s:Shared} {a:Addr} {y v:V} {u r:Value} {o:Option V} {A:Around} {E:Value → Shared → Prop}
theorem Inv.big (I:Inv X pins σ H s):DM < s.heap.objs.size:=by
 have h:AJ < s.heap.objs.size:=(I.mod.glob.keeps I.bk).lt
 exact DJ (by decide) h
theorem zD {Q:Value → Shared → Prop} (hu:A.units + 1 < cLine) (I:Inv X pins σ H s) (g:sL H a y (some v)) (ry:bG y u) (h:∀ w' s',Inv X pins σ H s' → bG v w' → Q w' s') :
  wpAny (model X.prog X.w) A (getItem (.ref a) u) Q E s:=by
 rcases g with ⟨kvs,k,e,ey,l⟩ | ⟨kvs,k,b,e,ey,eb,l⟩
 ·subst ey
  obtain ⟨z,hd,vs,rel,dd⟩:=aDI I.hok e
  obtain ⟨w',hw,rw'⟩:=oX.some_of (v:=v) (o:=valueAt vs k) (by rw [l];exact rel.val k)
  exact wpAny_getItem_of (aDB ry) dd.mapOf hw (h w' _ (I.tok _) rw')
 ·subst ey
  cases (show u = Ao b from ry)
  obtain ⟨z,hd,xs,rel,dd⟩:=aDH I.hok e
  obtain ⟨w',hw,rw'⟩:=oX.some_of (v:=v) (o:=(atKey xs k).map (·.2)) (by rw [l];exact rel.val k)
  obtain ⟨p,hp,hp2⟩:=Ay.mp hw
  refine wpAny_getItem_heap (EK hu) (wB I.hok eb) dd hp ?_
  rw [hp2]
  exact h w' _ (I.tok _) rw'
theorem aTT {Q:Value → Shared → Prop} (hu:A.units + 1 < cLine) (I:Inv X pins σ H s) (g:sL H a y o) (ry:bG y u) (h:∀ s',Inv X pins σ H s' → Q (.bool o.isSome) s') :
  wpAny (model X.prog X.w) A (Be .In u (.ref a)) Q E s:=by
 rcases g with ⟨kvs,k,e,ey,l⟩ | ⟨kvs,k,b,e,ey,eb,l⟩
 ·subst ey
  obtain ⟨z,hd,vs,rel,dd⟩:=aDI I.hok e
  refine wpAny_in_of (aDB ry) hd dd.mapOf ?_
  rw [← (rel.val k).isSome_eq,← l]
  exact h _ (I.tok _)
 ·subst ey
  cases (show u = Ao b from ry)
  obtain ⟨z,hd,xs,rel,dd⟩:=aDH I.hok e
  refine wpAny_in_heap (EK hu) (wB I.hok eb) hd dd ?_
  have q:=(rel.val k).isSome_eq
  rw [FL] at q
  rw [← q,← l]
  exact h _ (I.tok _)
theorem aOW {Q:Value → Shared → Prop} (hu:A.units + 1 < cLine) (I:Inv X pins σ H s) (g:sL H a y o) (ry:bG y u) (h:∀ s',Inv X pins σ H s' → Q (.bool (!o.isSome)) s') :
  wpAny (model X.prog X.w) A (Be .NotIn u (.ref a)) Q E s:=by
 rcases g with ⟨kvs,k,e,ey,l⟩ | ⟨kvs,k,b,e,ey,eb,l⟩
 ·subst ey
  obtain ⟨z,hd,vs,rel,dd⟩:=aDI I.hok e
  refine wpAny_notIn_of (aDB ry) hd dd.mapOf ?_
  rw [← (rel.val k).isSome_eq,← l]
  exact h _ (I.tok _)
 ·subst ey
  cases (show u = Ao b from ry)
  obtain ⟨z,hd,xs,rel,dd⟩:=aDH I.hok e
  refine wpAny_notIn_heap (EK hu) (wB I.hok eb) hd dd ?_
  have q:=(rel.val k).isSome_eq
  rw [FL] at q
  rw [← q,← l]
  exact h _ (I.tok _)
theorem aHB {h':Heap} {t':Nat} {ob:HO} (I:Inv X pins σ H s) (mu:Mut (H a)) (hs:BP a s.heap h') (he:∃ q,h'.get? a = some q) (new:bL X.prog X.w (upd H a ob) h' a ob) :
  Inv X pins σ (upd H a ob) { s with heap:=h',toks:=t' } :=
 I.write (x:=a) (e:=a) mu (.inl rfl) (fun b q hb z=>(hs.2 b hb).trans z) he new
theorem aRA {P:Program} {w:World} {H':Hp} {h':Heap} {kvs:List (Key × V)} {vs:List (Key × Value)} (z:kvs.length ≤ An) (hd:(a == DM) = false) (rel:KV kvs vs) (dd:h'.DictOf (aN P w) a vs) :
  bL P w H' h' a (.dK kvs):=⟨z,hd,vs,rel,dd⟩
theorem zC {H':Hp} {Q:Unit → Shared → Prop} (hu:A.units + 1 < cLine) (I:Inv X pins σ H s) (g:aJC H a y v H') (ry:bG y u) (rv:bG v r) (h:∀ s',Inv X pins σ H' s' → Q () s') :
  wpAny (model X.prog X.w) A (setItem (.ref a) u r) Q E s:=by
 rcases g with ⟨kvs,k,e,ey,l,eH⟩ | ⟨kvs,k,b,e,ey,eb,l,eH⟩
 ·subst ey eH
  obtain ⟨z,hd,vs,rel,dd⟩:=aSR I.hok e
  have hz:vs.length ≤ An:=by rw [← rel.length];exact z
  have hl:(jR kvs k v).length ≤ An:=by have:=nN kvs k v;omega
  refine wpAny_setItem_pairs (hsz:=hz) (aDB ry) dd fun h' dd' hs=>h _ ?_
  have he:∃ q,h'.get? a = some q:=let ⟨q,_,_,hq,_⟩:=dd';⟨q,hq⟩
  exact aHB I (by rw [e];exact Ct) hs he (aRA hl hd (rel.put k rv) dd')
 ·subst ey eH
  cases (show u = Ao b from ry)
  obtain ⟨z,hd,xs,rel,dd⟩:=aSP I.hok e
  have hz:xs.length ≤ An:=by rw [← Ez rel];exact z
  have hl:(jR kvs k v).length ≤ An:=by have:=nN kvs k v;omega
  refine wpAny_setItem_heap (hsz:=hz) (EK hu) (wB I.hok eb) dd fun h' dd' hs=>h _ ?_
  obtain ⟨q,es,ep,hq,h2,h3,h4,_,h5⟩:=dd'
  refine aHB I (by rw [e];exact Ct) hs ⟨q,hq⟩ ⟨hl,hd,_,(rel.put k eb rv).keeps fun c ys ec=>?_,q,es,ep,hq,h2,h3,h4,h5⟩
  rw [aK (yM ec e (fun z=>nomatch z))]
  exact ec
end
section
variable {X:Cx} {pins:List (Addr × Obj)} {σ:St} {H:Hp} {s:Shared} {a:Addr} {kvs:List (Key × V)} {k:Key} {u:Value} {A:Around} {E:Value → Shared → Prop}
end
def aSS (i:Expr):Prop:=∀ ov iv,Fm i false ov iv = operate [ov,iv] (getItem ov iv)
theorem aNH {prog:Program} {w:World} {A:Around} {E:Value → Shared → Prop} {s:Shared} {env:Env} {value slice:Expr} {pos:Pos} {T id:String} {Q:Value → Shared → Prop}
  (hl:typeLookup (.type T) "__getitem__" = pure (some (.builtin id))) (hs:aSS slice)
  (h:wpAny (model prog w) A (eval value env) (fun o s₁=>wpAny (model prog w) A (eval slice env) (fun i s₂=>s₂.TypeIs o T ∧ wpAny (model prog w) A (getItem o i) Q E s₂) E s₁) E s) :
  wpAny (model prog w) A (eval (.Subscript value slice pos) env) Q E s:=by
 refine Subscript_ (BJ h (fun o s₁ h₁=>BJ h₁ (fun i s₂ h₂=>?_) fun _ _ x=>x) fun _ _ x=>x)
 obtain ⟨hT,h₂⟩:=h₂
 unfold subscriptTail
 refine AB ?_
 rw [getitemInPython_of_ne hT.not_modules]
 refine AB (FA hT hl ?_)
 have fin:wpAny (model prog w) A (Fm slice false o i) (fun r s₃=>wpAny (model prog w) A (letTemporaryGo value o r >>= fun _=>pure r) Q E s₃) E s₂:=by
  rw [hs o i]
  exact wpAny_operating (BJ h₂ (fun r s₃ h₃=>AB (wpAny_letTemporaryGo (AF h₃))) fun _ _ x=>x)
 first
  | exact AF (AB fin)
  | exact AB (AF (AB fin))
  | exact AB fin
theorem aDJ {X:Cx} {pins:List (Addr × Obj)} {σ:St} {H:Hp} {s:Shared} {a:Addr} {y:V} {o:Option V} (I:Inv X pins σ H s) (g:sL H a y o):s.TypeIs (.ref a) "dict":=by
 rcases g with ⟨kvs,k,e,_,_⟩ | ⟨kvs,k,b,e,_,_,_⟩
 ·obtain ⟨_,_,vs,_,dd⟩:=aDI I.hok e
  exact dd.typeIs
 ·obtain ⟨_,_,xs,_,dd⟩:=aDH I.hok e
  exact dd.typeIs
def aRO (td ty:TE):TE:=fun σ H Q=>td σ H fun x H1=>ty σ H1 fun y H2=>∃ a v,x = .ref a ∧ sL H2 a y (some v) ∧ Q v H2
def aTC (ty td:TE):TE:=fun σ H Q=>ty σ H fun y H1=>td σ H1 fun x H2=>∃ a o,x = .ref a ∧ sL H2 a y o ∧ Q (.bl o.isSome) H2
def aNG (ty td:TE):TE:=fun σ H Q=>ty σ H fun y H1=>td σ H1 fun x H2=>∃ a o,x = .ref a ∧ sL H2 a y o ∧ Q (.bl (!o.isSome)) H2
def aRR (td ty tv:TE):TS:=fun D σ H=>tv σ H fun v H1=>td σ H1 fun x H2=>ty σ H2 fun y H3=>∃ a H4,x = .ref a ∧ aJC H3 a y v H4 ∧ D.nx σ H4
def aRS (td ty tv:TE) (rd:V → V → Hp → VK → Prop):TS:=fun D σ H=>td σ H fun x H1=>ty σ H1 fun y H2=>∃ a v,x = .ref a ∧ sL H2 a y (some v) ∧
 tv σ H2 fun y2 H3=>rd v y2 H3 fun z H4=>∃ H5,aJC H4 a y z H5 ∧ D.nx σ H5
section
variable {X:Cx} {o i e value:Expr} {pos pos' tpos:Pos} {td ty tv:TE}
theorem cJ (hu:X.A.units + 1 < cLine) (ho:PE X o td) (hi:PE X i ty) (hs:aSS i):PE X (.Subscript o i pos) (aRO td ty):=by
 intro pins s σ H Q I h
 refine aNH PySem.F.slot_dict_getitem.lookup hs (thn (ho pins s σ H _ I h) fun u s1 ⟨x,H1,I1,rx,q1⟩=>thn (hi pins s1 σ H1 _ I1 q1) fun iv s2 ⟨y,H2,I2,ry,a,v,ex,g,q2⟩=>?_)
 subst ex
 obtain rfl:u = Ao a:=rx
 exact ⟨aDJ I2 g,zD hu I2 g ry fun w' s3 I3 rw'=>⟨v,H2,I3,rw',q2⟩⟩
theorem aLC (hu:X.A.units + 1 < cLine) (hi:PE X i ty) (ho:PE X o td):PC X .In i o (aTC ty td):=by
 intro pins s σ H Q I h
 refine thn (hi pins s σ H _ I h) fun iv s1 ⟨y,H1,I1,ry,q1⟩=>thn (ho pins s1 σ H1 _ I1 q1) fun u s2 ⟨x,H2,I2,rx,a,ov,ex,g,q2⟩=>?_
 subst ex
 obtain rfl:u = Ao a:=rx
 exact aTT hu I2 g ry fun s3 I3=>⟨.bl ov.isSome,H2,I3,rfl,q2⟩
theorem yG (hu:X.A.units + 1 < cLine) (hi:PE X i ty) (ho:PE X o td):PC X .NotIn i o (aNG ty td):=by
 intro pins s σ H Q I h
 refine thn (hi pins s σ H _ I h) fun iv s1 ⟨y,H1,I1,ry,q1⟩=>thn (ho pins s1 σ H1 _ I1 q1) fun u s2 ⟨x,H2,I2,rx,a,ov,ex,g,q2⟩=>?_
 subst ex
 obtain rfl:u = Ao a:=rx
 exact aOW hu I2 g ry fun s3 I3=>⟨.bl (!ov.isSome),H2,I3,rfl,q2⟩
theorem aGP (hu:X.A.units + 1 < cLine) (ho:PE X o td) (hi:PE X i ty) (hv:PE X value tv) (hs:swapsWith value (some (.Subscript o i pos')) pos.line X.env = pure false) :
  PS X (.Assign [.Subscript o i pos'] value pos) (aRR td ty tv):=by
 intro pins s σ H D I h
 refine wpAny_Assign_Subscript (thn (hv pins s σ H _ I h) fun r s1 ⟨v,H1,I1,rv,q1⟩=>thn (ho pins s1 σ H1 _ I1 q1) fun u s2 ⟨x,H2,I2,rx,q2⟩=>thn (hi pins s2 σ H2 _ I2 q2) fun iv s3 ⟨y,H3,I3,ry,a,H4,ex,g,q3⟩=>?_) hs
 subst ex
 obtain rfl:u = Ao a:=rx
 exact zC hu I3 g ry rv fun s4 I4=>⟨σ,H4,I4,q3⟩
theorem aNU {op:Operator} {rd:V → V → Hp → VK → Prop} (hu:X.A.units + 1 < cLine) (ho:PE X o td) (hi:PE X i ty) (hv:PE X value tv) (hop:aST X op rd)
  (ha:∀ ov iv new,augStore i ov iv new = (do holding [new,ov,iv] (setItem ov iv new);release [new,ov,iv] [];pure .next)):PS X (.AugAssign (.Subscript o i tpos) op value pos) (aRS td ty tv rd):=by
 intro pins s σ H D I h
 refine wpAny_AugAssign_SubscriptAny (thn (ho pins s σ H _ I h) fun u s1 ⟨x,H1,I1,rx,q1⟩=>thn (hi pins s1 σ H1 _ I1 q1) fun iv s2 ⟨y,H2,I2,ry,a,v,ex,g,q2⟩=>?_) ha
 subst ex
 obtain rfl:u = Ao a:=rx
 refine zD hu I2 g ry fun w' s3 I3 rw'=>thn (hv pins s3 σ H2 _ I3 q2) fun w2 s4 ⟨y2,H3,I4,ry2,q3⟩=>thn (hop pins s4 σ H3 v y2 w' w2 _ I4 rw' ry2 q3) fun w3 s5 ⟨z,H4,I5,rz,H5,g5,q4⟩=>?_
 exact zC hu I5 g5 ry rz fun s6 I6=>⟨σ,H5,I6,q4⟩
end
theorem aMK {P:Program} {w:World} {H:Hp} (h:Heap) (hb:DM < h.objs.size):bL P w H (h.push { cls:=.type "dict",data:=.dict #[] }) h.objs.size (.dT []) :=
 ⟨BG _,beq_eq_false_iff_ne.mpr (Ne.symm (Ad hb)),[],.nil,_,#[],0,AN _ rfl,⟨rfl,rfl,rfl⟩,rfl,rfl,List.nodup_nil⟩
def aPY:TE:=fun _ H Q=>∀ p,H p = none → Q (.ref p) (upd H p (.dT []))
section
variable {X:Cx} {pos:Pos}
theorem aLB:PE X (.Dict [] [] pos) aPY:=fun pins s σ H Q I h =>
 wpAny_Dict_empty ⟨.ref s.heap.objs.size,_,I.laid (a:=s.heap.objs.size) (o:=.dT []) (t':=s.toks) (fun _ _ q=>AC _ q) (AL _) (aMK s.heap I.big),rfl,h _ (I.hok.fresh (AL _))⟩
end
def aPW:List (TE × TE) → St → Hp → (List (V × V) → Hp → Prop) → Prop
 | [],_,H,Q=>Q [] H
 | (tk,tv) :: r,σ,H,Q=>tk σ H fun x H1=>tv σ H1 fun y H2=>aPW r σ H2 fun ps H3=>Q ((x,y) :: ps) H3
abbrev VV:List (V × V) → List (Value × Value) → Prop:=Paired fun p q=>bG p.1 q.1 ∧ bG p.2 q.2
def mergeK (kvs more:List (Key × V)):List (Key × V):=more.foldl (fun acc kv=>jR acc kv.1 kv.2) kvs
structure M1 (X:Cx) (o:Expr) (m:Str) (apos:Pos) (e:Expr) (cpos:Pos):Prop where
 base:Dq o m X.env (eval o X.env) = eval o X.env
 few:((backTo cpos (As [e] X.env)).all (fun x=>!x.1) && (Dt cpos (Cy [] X.env)).all (fun x=>x.1.isSome)
  && decide (([e]:List Expr).length + ([]:List Keyword).length + (if ([]:List Keyword).isEmpty then 0 else 1) < 30)) = true
 line:(apos.endLine == cpos.line) = true
 trees:backTo cpos (As [e] X.env) = [(false,eval e X.env)]
structure M2 (X:Cx) (o:Expr) (m:Str) (apos:Pos) (e f:Expr) (cpos:Pos):Prop where
 base:Dq o m X.env (eval o X.env) = eval o X.env
 few:((backTo cpos (As [e,f] X.env)).all (fun x=>!x.1) && (Dt cpos (Cy [] X.env)).all (fun x=>x.1.isSome)
  && decide (([e,f]:List Expr).length + ([]:List Keyword).length + (if ([]:List Keyword).isEmpty then 0 else 1) < 30)) = true
 line:(apos.endLine == cpos.line) = true
 trees:backTo cpos (As [e,f] X.env) = [(false,eval e X.env),(false,eval f X.env)]
def IsD (H:Hp) (a:Addr):Prop:=(∃ kvs,Rd H a (.dK kvs)) ∨ ∃ kvs,Rd H a (.dT kvs)
section
variable {X:Cx} {pins:List (Addr × Obj)} {σ:St} {H:Hp} {s:Shared} {a:Addr} {y d:V} {u r:Value} {o:Option V} {A:Around} {E:Value → Shared → Prop}
end
section
variable {X:Cx} {o e f:Expr} {apos cpos:Pos} {td ty tx:TE}
end
section
variable {X:Cx} {pins:List (Addr × Obj)} {σ:St} {H:Hp} {s:Shared} {a:Addr} {kvs:List (Key × V)} {A:Around} {E:Value → Shared → Prop}
end
section
variable {X:Cx} {pins:List (Addr × Obj)} {σ:St} {H:Hp} {s:Shared} {a:Addr} {y:V} {u:Value} {A:Around} {E:Value → Shared → Prop}
end
end L2
namespace HT
open PySem PyProof.Rows
def lexLt:List Int → List Int → Bool
 | [],[]=>false
 | [],_ :: _=>true
 | _ :: _,[]=>false
 | x :: xs,y :: ys=>if x = y then lexLt xs ys else decide (x < y)
theorem lexLt_cons (x y:Int) (xs ys:List Int):lexLt (x :: xs) (y :: ys) = if x = y then lexLt xs ys else decide (x < y):=rfl
theorem xL:lexLt [] [] = false:=rfl
theorem vX (y:Int) (ys:List Int):lexLt [] (y :: ys) = true:=rfl
theorem vY (x:Int) (xs:List Int):lexLt (x :: xs) [] = false:=rfl
theorem aMI (A:Around) (s:Shared) (a:Int) (t:Tok) (c:Int) (u:Tok):∃ e,Ba A s (.int a t) (.int c u) e ∧ (e = true ↔ a = c) :=
 ⟨(a == c),Ba.int_int a t c u,by simp⟩
theorem aKO (A:Around) (s:Shared) (a:Int) (t:Tok) (c:Int) (u:Tok) (prog:Program) (w:World) (E:Value → Shared → Prop) (Q:Value → Shared → Prop) (h:Q (.bool (decide (a < c))) s) :
  wpAny (model prog w) A (richCompare .Lt (.int a t) (.int c u)) Q E s :=
 (PyProof.Rows.lt_int h:wpAny (model prog w) A (Be .Lt (.int a t) (.int c u)) Q E s)
section
open PySem.SeqAt
open PySem.AutoSeq1 (wpAny_loadPart')
open PySem.MeetsSeq PySem.MeetsSeq2 PySem.MeetsSeq3
end
section
variable {prog:Program} {w:World} {A:Around} {E:Value → Shared → Prop} {s:Shared}
def sIx (n d:Nat):Option Int → Nat
 | none=>d
 | some v=>if v < 0 then (v + (n:Int)).toNat else min v.toNat n
theorem sIx_none (n d:Nat):sIx n d none = d:=rfl
theorem sIx_nat (n d k:Nat):sIx n d (some (k:Int)) = min k n:=by
 show (if (k:Int) < 0 then ((k:Int) + (n:Int)).toNat else min (k:Int).toNat n) = min k n
 rw [if_neg (by omega),Bl]
end
end HT
namespace L2
open PySem PySem.Spec PyProof.Rows
abbrev TO:=St → Hp → (Option Int → Hp → Prop) → Prop
def PO (X:Cx) (e:Option Expr) (t:TO):Prop :=
 ∀ (pins:List (Addr × Obj)) (s:Shared) (σ:St) (H:Hp) (Q:Option Int → Hp → Prop),Inv X pins σ H s → t σ H Q →
  wpAny (model X.prog X.w) X.A (evalPart e X.env) (fun u s'=>∃ o H',Inv X pins σ H' s' ∧ IsPart u o ∧ Q o H') X.xe s
def aNF:TO:=fun _ H Q=>Q none H
def aRJ (t:TE):TO:=fun σ H Q=>t σ H fun x H1=>∃ i,x = .int i ∧ Q (some i) H1
theorem wE {ns:List Int}:∀ {us:List Value},bC (ns.map V.int) us → IntsAre us ns:=by
 induction ns with
 | nil=>intro us r;rw [Ci] at r;cases r;exact .nil
 | cons n ns ih =>
  intro us r
  rw [Ac] at r
  cases r with
  | cons r1 r2 =>
   obtain ⟨t,e⟩:=r1
   subst e
   exact .cons n t (ih r2)
section
variable {X:Cx} {e:Expr} {te:TE} {lo hi:Option Expr} {tl th:TO} {pos p2:Pos}
theorem lW:PO X none aNF:=by
 intro pins s σ H Q I h
 rw [evalPart_none]
 exact AF ⟨none,H,I,.none,h⟩
theorem lU (h:PE X e te):PO X (some e) (aRJ te):=by
 intro pins s σ H Q I hw
 rw [evalPart_some]
 refine thn (h pins s σ H _ I hw) fun u s1 ⟨x,H1,I1,r1,q1⟩=>?_
 obtain ⟨i,rfl,q⟩:=q1
 obtain ⟨t,rfl⟩:=r1
 exact ⟨some i,H1,I1,.int i t,q⟩
def SlR (X:Cx) (r:V → Option Int → Option Int → Hp → VK → Prop):Prop :=
 ∀ (pins:List (Addr × Obj)) (s:Shared) (σ:St) (H:Hp) (x:V) (v vl vu:Value) (lo hi:Option Int) (sl:Addr) (Q:VK),Inv X pins σ H s → bG x v → s.heap.IsSliceOf sl vl vu .none → IsPart vl lo → IsPart vu hi → r x lo hi H Q →
  ∃ T id,typeLookup (.type T) "__getitem__" = pure (some (.builtin id)) ∧ s.TypeIs v T ∧ wpAny (model X.prog X.w) X.A (getItem v (.ref sl)) (EP X pins σ Q) X.xe s
def tSl (r:V → Option Int → Option Int → Hp → VK → Prop) (te:TE) (tl th:TO):TE:=fun σ H Q=>te σ H fun x H1=>tl σ H1 fun l H2=>th σ H2 fun u H3=>r x l u H3 Q
theorem jT {r:V → Option Int → Option Int → Hp → VK → Prop} (hr:SlR X r) (he:PE X e te) (hl:PO X lo tl) (hu:PO X hi th):PE X (.Subscript e (.Slice lo hi none p2) pos) (tSl r te tl th):=by
 intro pins s σ H Q I h
 refine Subscript_ (thn (he pins s σ H _ I h) fun v s1 ⟨x,H1,I1,r1,q1⟩=>?_)
 refine wpAny_Slice (thn (hl pins s1 σ H1 _ I1 q1) fun vl s2 ⟨l,H2,I2,pl,q2⟩=>thn (hu pins s2 σ H2 _ I2 q2) fun vu s3 ⟨u,H3,I3,pu,q3⟩=>?_)
 rw [evalPart_none]
 refine AF ?_
 have I4:Inv X pins σ H3 { s3 with heap:=s3.heap.push { cls:=.type "slice",data:=.fields #[vl,vu,.none] } }:=I3.kept (t':=s3.toks) fun b ob q=>AC _ q
 obtain ⟨T,id,hT,ht,hg⟩:=hr pins { s3 with heap:=s3.heap.push { cls:=.type "slice",data:=.fields #[vl,vu,.none] } } σ H3 x v vl vu l u s3.heap.objs.size Q I4 r1 (Heap.IsSliceOf.new ..) pl pu q3
 show wpAny (model X.prog X.w) X.A (subscriptTail e (.Slice lo hi none p2) v (.ref s3.heap.objs.size)) (EP X pins σ Q) X.xe { s3 with heap:=s3.heap.push { cls:=.type "slice",data:=.fields #[vl,vu,.none] } }
 exact tail_any (ops:=[.ref s3.heap.objs.size,v]) ht hT hg (by with_unfolding_all rfl)
def wO (xs:List V) (lo hi:Option Int):List V:=(xs.drop (HT.sIx xs.length 0 lo)).take (HT.sIx xs.length xs.length hi - HT.sIx xs.length 0 lo)
theorem aDM (xs:List V) (lo hi:Option Int):(wO xs lo hi).length ≤ xs.length:=by
 unfold wO
 rw [AZ,CB]
 omega
end
end L2
namespace L2
open PySem PySem.Spec PyProof.Rows
def ixN (n:Nat) (i:Int):Option Nat:=if 0 ≤ i then (if i < n then some i.toNat else none) else if -(n:Int) ≤ i then some (i + n).toNat else none
def atI {α:Type} (xs:List α) (i:Int):Option α:=(ixN xs.length i).bind fun j=>xs[j]?
theorem aON {n:Nat} {i:Int} {j:Nat} (h:ixN n i = some j):seqIndex? i n = some j ∧ j < n ∧ -(n:Int) ≤ i ∧ i < n:=by
 unfold ixN at h
 by_cases h0:0 ≤ i
 ·rw [if_pos h0] at h
  by_cases h1:i < n
  ·rw [if_pos h1] at h
   have e:i.toNat = j:=BH h
   exact ⟨by rw [seqIndex_of h0 h1,e],by omega,by omega,h1⟩
  ·rw [if_neg h1] at h;cases h
 ·rw [if_neg h0] at h
  by_cases h1:-(n:Int) ≤ i
  ·rw [if_pos h1] at h
   have e:(i + n).toNat = j:=BH h
   exact ⟨by rw [seqIndex_neg (by omega) h1,e],by omega,h1,by omega⟩
  ·rw [if_neg h1] at h;cases h
theorem aBL {α:Type} {xs:List α} {i:Int} {v:α} (h:atI xs i = some v):∃ j,seqIndex? i xs.length = some j ∧ xs[j]? = some v ∧ j < xs.length ∧ -(xs.length:Int) ≤ i ∧ i < xs.length:=by
 unfold atI at h
 cases e:ixN xs.length i with
 | none=>rw [e] at h;cases h
 | some j =>
  rw [e] at h
  obtain ⟨h1,h2,h3,h4⟩:=aON e
  exact ⟨j,h1,h,h2,h3,h4⟩
theorem aP {α:Type} {xs:List α} {j:Nat} {v:α} (h:xs[j]? = some v):atI xs (j:Int) = some v:=by
 have hj:j < xs.length:=(AE.mp h).1
 have e:ixN xs.length (j:Int) = some j:=by
  unfold ixN
  rw [if_pos (by omega),if_pos (by omega)];simp
 unfold atI;rw [e];exact h
def aPB (b:Expr):Prop:=∀ o i,Fm b false o i = operate [o,i] (getItem o i)
def IxR (X:Cx) (r:R2):Prop :=
 ∀ (value slice:Expr) (pins:List (Addr × Obj)) (s:Shared) (σ:St) (H:Hp) (x y:V) (v u:Value) (Q:VK),Inv X pins σ H s → bG x v → bG y u → r x y H Q →
  Fm slice false v u = operate [v,u] (getItem v u) → wpAny (model X.prog X.w) X.A (subscriptTail value slice v u) (EP X pins σ Q) X.xe s
def MtR (X:Cx) (id:String) (r:V → List V → Hp → VK → Prop):Prop :=
 ∀ (pins:List (Addr × Obj)) (s:Shared) (σ:St) (H:Hp) (x:V) (xs:List V) (v:Value) (us:List Value) (Q:VK),Inv X pins σ H s → bG x v → bC xs us → r x xs H Q →
  wpAny (model X.prog X.w) X.A (call (.builtin id) (v :: us)) (EP X pins σ Q) X.xe s
section
variable {X:Cx} {a b:Expr} {ta tb:TE} {pos:Pos}
theorem bD {r:R2} (hr:IxR X r) (ha:PE X a ta) (hb:PE X b tb) (hs:aPB b):PE X (.Subscript a b pos) (tOp r ta tb):=by
 intro pins s σ H Q I h
 exact Subscript_ (aRC ha hb I h fun v u s2 x y H2 I2 rx ry q=>hr a b pins s2 σ H2 x y v u Q I2 rx ry q (hs _ _))
def aRY (K:AG):R2:=fun x y H Q=>∃ p xs i v,x = .ref p ∧ y = .int i ∧ SqL K H p xs ∧ atI xs i = some v ∧ Q v H
def aRX (K:AG):R2:=fun x y H Q=>∃ p xs i v,x = .ref p ∧ y = .int i ∧ SqT K H p xs ∧ atI xs i = some v ∧ Q v H
def aTG:R2:=fun x y H Q=>∃ z i c,x = .str z ∧ y = .int i ∧ z.length ≤ An ∧ atI z.cps.toList i = some c ∧ Q (.str ⟨#[c]⟩) H
theorem aOM:IxR X (aRY X.K):=by
 intro value slice pins s σ H x y v u Q I rx ry h hs
 obtain ⟨p,xs,i,z,rfl,rfl,hq,he,q⟩:=h
 cases rx
 obtain ⟨t,rfl⟩:=ry
 obtain ⟨its,r,pl,hz⟩:=I.list hq
 obtain ⟨j,h1,h2,h3,h4,h5⟩:=aBL he
 obtain ⟨w,ew,rw'⟩:=r.get h2
 have hl:=r.length
 have hn:=vW
 have fin:EP X pins σ Q w s:=⟨z,H,I,rw',q⟩
 by_cases h0:0 ≤ i
 ·have hj:i.toNat = j:=by
   rw [seqIndex_of h0 h5] at h1
   exact BH h1
  exact item_listR pl.isList h0 (by omega) (by rw [hj];simpa using ew) fin hs
 ·have hj:(i + (its.toArray.size:Int)).toNat = j:=by
   rw [seqIndex_neg (by omega) h4] at h1
   rw [AQ,← hl]
   exact BH h1
  exact subscriptTail_builtinR (x:=w) pl.isList.typeIs slot_list_getitem.lookup
   (wpAny_getItem_list_neg (Q:=fun r s'=>r = w ∧ EP X pins σ Q r s') pl.isList (by omega) (by rw [AQ] <;> omega) (by omega) (by rw [hj];simpa using ew) ⟨rfl,fin⟩) hs
theorem aQU:IxR X (aRX X.K):=by
 intro value slice pins s σ H x y v u Q I rx ry h hs
 obtain ⟨p,xs,i,z,rfl,rfl,hq,he,q⟩:=h
 cases rx
 obtain ⟨t,rfl⟩:=ry
 obtain ⟨its,r,pl,hz⟩:=I.tuple hq
 obtain ⟨j,h1,h2,h3,h4,h5⟩:=aBL he
 obtain ⟨w,ew,rw'⟩:=r.get h2
 have hl:=r.length
 have hn:=vW
 have fin:EP X pins σ Q w s:=⟨z,H,I,rw',q⟩
 exact subscriptTail_builtinR (x:=w) pl.typeIs slot_tuple_getitem.lookup
  (getItem_tuple (j:=j) (Q:=fun r s'=>r = w ∧ EP X pins σ Q r s') pl (by omega) (by omega) (by rw [AQ,← hl];exact h1) (by simpa using ew) ⟨rfl,fin⟩) hs
theorem aAZ:IxR X aTG:=by
 intro value slice pins s σ H x y v u Q I rx ry h hs
 obtain ⟨z,i,c,rfl,rfl,hz,he,q⟩:=h
 obtain ⟨t,rfl⟩:=rx
 obtain ⟨t',rfl⟩:=ry
 obtain ⟨j,h1,h2,h3,h4,h5⟩:=aBL he
 have hl:z.cps.toList.length = z.length:=by simp [Str.length]
 rw [hl] at h1 h4 h5
 have hn:=vW
 exact tail_any (typeIs_str s z t) slot_str_getitem.lookup (getItem_str (c:=c) (by
  have e1:decide (i < -(2 ^ 63:Int)) = false:=decide_eq_false (by omega)
  have e2:decide (i ≥ 2 ^ 63) = false:=decide_eq_false (by omega)
  rw [e1,e2,Bool.or_false]) (by rw [h1];simpa using h2) ⟨.str ⟨#[c]⟩,H,I.tok _,⟨_,rfl⟩,q⟩) hs
theorem zX (lo hi:Option Int) (n:Nat):(Dr lo hi none n).1 = ((HT.sIx n 0 lo:Nat):Int) ∧ (Dr lo hi none n).2.1 = ((HT.sIx n n hi:Nat):Int) ∧ (Dr lo hi none n).2.2 = 1:=by
 refine ⟨?_,?_,rfl⟩
 ·cases lo with
  | none=>simp [Dr,HT.sIx]
  | some i =>
   simp only [Dr,HT.sIx,Option.getD_none,show (1:Int) > 0 by decide,if_true]
   by_cases h:i < 0
   ·simp only [h,if_true] <;> omega
   ·simp only [h,if_false] <;> omega
 ·cases hi with
  | none=>simp [Dr,HT.sIx]
  | some i =>
   simp only [Dr,HT.sIx,Option.getD_none,show (1:Int) > 0 by decide,if_true]
   by_cases h:i < 0
   ·simp only [h,if_true] <;> omega
   ·simp only [h,if_false] <;> omega
theorem xA (its:List Value) (lo hi:Option Int):slicePick its.toArray lo hi none = ((its.drop (HT.sIx its.length 0 lo)).take (HT.sIx its.length its.length hi - HT.sIx its.length 0 lo)).toArray:=by
 obtain ⟨h1,h2,h3⟩:=zX lo hi its.toArray.size
 unfold slicePick
 rw [h1,h2,h3]
 simp only [sliceRange_one,pick_run,AQ] <;> rfl
def aRV (K:AG):V → Option Int → Option Int → Hp → VK → Prop:=fun x lo hi H Q=>∃ a xs,x = .ref a ∧ SqL K H a xs ∧ ∀ p,H p = none → Q (.ref p) (upd H p (.lst (wO xs lo hi)))
theorem aNP:SlR X (aRV X.K):=by
 intro pins s σ H x v vl vu lo hi sl Q I rx hs pl pu h
 obtain ⟨a,xs,rfl,hx,q⟩:=h
 cases rx
 obtain ⟨its,r,ht,hz⟩:=I.list hx
 have hlen:=r.length
 refine ⟨"list",_,slot_list_getitem.lookup,ht.isList.typeIs,?_⟩
 refine wpAny_getItem_list_slice ht.isList hs pl pu .none (by simp) ?_ (by rw [AQ] <;> omega)
 rw [xA,← hlen]
 refine ⟨.ref s.heap.objs.size,_,I.laid (t':=s.toks) (o:=.lst (wO xs lo hi)) (fun b ob q=>AC _ q) (AL _) ?_,rfl,q _ (I.hok.fresh (AL _))⟩
 exact ⟨BB (aDM xs lo hi) hz,_,0,(r.drop (HT.sIx xs.length 0 lo)).take (HT.sIx xs.length xs.length hi - HT.sIx xs.length 0 lo),AN _ rfl⟩
def qU:V → Bool
 | .non=>true
 | .bl _=>true
 | .int _=>true
 | .str _=>true
 | _=>false
def eqV:V → V → Bool
 | .non,.non=>true
 | .bl a,.bl b=>a == b
 | .bl a,.int b=>(if a then 1 else 0) == b
 | .int a,.bl b=>a == (if b then 1 else 0)
 | .int a,.int b=>a == b
 | .str a,.str b=>a == b
 | _,_=>false
theorem mH {A:Around} {s:Shared} {y x:V} {u v:Value} (ry:bG y u) (rx:bG x v) (fy:qU y = true) (fx:qU x = true):Ba A s u v (eqV y x):=by
 cases y with
 | non =>
  cases ry
  cases x with
  | non=>cases rx;exact Ba.same _
  | bl b=>cases rx;exact Ba.none_bool b
  | int b=>obtain ⟨t,rfl⟩:=rx;exact Ba.none_int b t
  | str b=>obtain ⟨t,rfl⟩:=rx;exact Ba.none_str b t
  | _=>exact absurd (show false = true from fx) Ab
 | bl a =>
  cases ry
  cases x with
  | non=>cases rx;exact Ba.bool_none a
  | bl b=>cases rx;exact Ba.bool_bool a b
  | int b=>obtain ⟨t,rfl⟩:=rx;exact Ba.bool_int a b t
  | str b=>obtain ⟨t,rfl⟩:=rx;exact Ba.bool_str a b t
  | _=>exact absurd (show false = true from fx) Ab
 | int a =>
  obtain ⟨t',rfl⟩:=ry
  cases x with
  | non=>cases rx;exact Ba.int_none a t'
  | bl b=>cases rx;exact Ba.int_bool a t' b
  | int b=>obtain ⟨t,rfl⟩:=rx;exact Ba.int_int a t' b t
  | str b=>obtain ⟨t,rfl⟩:=rx;exact Ba.int_str a t' b t
  | _=>exact absurd (show false = true from fx) Ab
 | str a =>
  obtain ⟨t',rfl⟩:=ry
  cases x with
  | non=>cases rx;exact Ba.str_none a t'
  | bl b=>cases rx;exact Ba.str_bool a t' b
  | int b=>obtain ⟨t,rfl⟩:=rx;exact Ba.str_int a t' b t
  | str b=>obtain ⟨t,rfl⟩:=rx;exact Ba.str_str a t' b t
  | _=>exact absurd (show false = true from fx) Ab
 | _=>exact absurd (show false = true from fy) Ab
def eqU (x:V) (u:Value):Bool:=match u with
 | .none=>eqV .non x
 | .bool b=>eqV (.bl b) x
 | .int i _=>eqV (.int i) x
 | .str z _=>eqV (.str z) x
 | _=>false
theorem aMH {x y:V} {u:Value} (r:bG y u) (f:qU y = true):eqU x u = eqV y x:=by
 cases y with
 | non=>cases r;rfl
 | bl b=>cases r;rfl
 | int i=>obtain ⟨t,rfl⟩:=r;rfl
 | str z=>obtain ⟨t,rfl⟩:=r;rfl
 | _=>exact absurd (show false = true from f) Ab
theorem qY {x:V}:∀ {xs:List V} {us:List Value},bC xs us → xs.all qU = true → us.any (eqU x) = xs.any fun y=>eqV y x
 | _,_,.nil,_=>rfl
 | y :: xs,u :: us,.cons r t,f=>by
  rw [EH,Ae] at f
  rw [EG,EG,aMH r f.1,qY t f.2]
theorem nL {A:Around} {s:Shared} {x:V} {v:Value} (rx:bG x v) (fx:qU x = true):∀ {xs:List V} {us:List Value},bC xs us → xs.all qU = true → ∀ u ∈ us,Ba A s u v (eqU x u)
 | _,_,.nil,_=>fun u hu=>by cases hu
 | y :: xs,u :: us,.cons r t,f=>fun u' hu=>by
  rw [EH,Ae] at f
  rcases Af.mp hu with rfl | hu
  ·rw [aMH r f.1];exact mH r rx f.1 fx
  ·exact nL rx fx t f.2 u' hu
def inV (x:V) (xs:List V):Bool:=xs.any fun y=>eqV y x
def rIn (K:AG) (neg:Bool):R2:=fun x y H Q=>∃ p xs,y = .ref p ∧ (SqL K H p xs ∨ SqT K H p xs) ∧ qU x = true ∧ xs.all qU = true ∧ Q (.bl (if neg then !inV x xs else inV x xs)) H
theorem aIA:OpR X (Be .In) (rIn X.K false):=by
 intro pins s σ H x y v u Q I rx ry h
 obtain ⟨p,xs,rfl,hq,fx,fs,q⟩:=h
 cases ry
 rcases hq with hq | hq
 ·obtain ⟨its,r,pl,hz⟩:=I.list hq
  refine SeqAt.in_listAt (eqU x) pl.isList (fun w hw=>nL rx fx r fs w (by simpa using hw)) ⟨.bl _,H,I,rfl,?_⟩
  rw [show its.toArray.any (eqU x) = its.any (eqU x) by simp,qY r fs]
  exact q
 ·obtain ⟨its,r,pl,hz⟩:=I.tuple hq
  refine SeqAt.in_tupleAt (eqU x) pl (fun w hw=>nL rx fx r fs w (by simpa using hw)) ⟨.bl _,H,I,rfl,?_⟩
  rw [show its.toArray.any (eqU x) = its.any (eqU x) by simp,qY r fs]
  exact q
theorem aAN:OpR X (Be .NotIn) (rIn X.K true):=by
 intro pins s σ H x y v u Q I rx ry h
 obtain ⟨p,xs,rfl,hq,fx,fs,q⟩:=h
 cases ry
 rcases hq with hq | hq
 ·obtain ⟨its,r,pl,hz⟩:=I.list hq
  refine SeqAt.notIn_listAt (eqU x) pl.isList (fun w hw=>nL rx fx r fs w (by simpa using hw)) ⟨.bl _,H,I,rfl,?_⟩
  rw [show its.toArray.any (eqU x) = its.any (eqU x) by simp,qY r fs]
  exact q
 ·obtain ⟨its,r,pl,hz⟩:=I.tuple hq
  refine SeqAt.notIn_tupleAt (eqU x) pl (fun w hw=>nL rx fx r fs w (by simpa using hw)) ⟨.bl _,H,I,rfl,?_⟩
  rw [show its.toArray.any (eqU x) = its.any (eqU x) by simp,qY r fs]
  exact q
theorem aBJ:fG X (.builtin "len") (fun xs H Q=>∃ p ys,xs = [.ref p] ∧ (SqL X.K H p ys ∨ SqT X.K H p ys) ∧ Q (.int ys.length) H):=by
 intro pins s σ H xs us Q I r h
 obtain ⟨p,ys,rfl,hq,q⟩:=h
 obtain ⟨u,rfl,rx⟩:=aFW r
 cases rx
 have hn:=vW
 rcases hq with hq | hq
 ·obtain ⟨its,r',pl,hz⟩:=I.list hq
  have hlen:=r'.length
  exact Calls.call_len_list pl.isList (by simp only [AQ] <;> omega) ⟨.int ys.length,H,I.tok _,⟨s.toks + 1,by rw [AQ,hlen]⟩,q⟩
 ·obtain ⟨its,r',pl,hz⟩:=I.tuple hq
  have hlen:=r'.length
  exact len_tuple pl (by simp only [AQ] <;> omega) ⟨.int ys.length,H,I.tok _,⟨s.toks + 1,by rw [AQ,hlen]⟩,q⟩
theorem aBI:fG X (.builtin "len") (fun xs H Q=>∃ z,xs = [.str z] ∧ z.length ≤ An ∧ Q (.int z.length) H):=by
 intro pins s σ H xs us Q I r h
 obtain ⟨z,rfl,hz,q⟩:=h
 obtain ⟨u,rfl,t,rfl⟩:=aFW r
 have hn:=vW
 exact len_str (by omega) ⟨.int z.length,H,I.tok _,⟨_,rfl⟩,q⟩
theorem aBH:fG X (.type "list") (fun xs H Q=>∃ p ys,xs = [.ref p] ∧ (SqL X.K H p ys ∨ SqT X.K H p ys) ∧ ∀ l,H l = none → Q (.ref l) (upd H l (.lst ys))):=by
 intro pins s σ H xs us Q I r h
 obtain ⟨p,ys,rfl,hq,q⟩:=h
 obtain ⟨u,rfl,rx⟩:=aFW r
 cases rx
 have fin:∀ (its:List Value),bC ys its → ys.length ≤ An → ∀ (h':Heap) (c':Nat),(∀ b o',s.heap.get? b = some o' → h'.get? b = some o') →
   h'.get? s.heap.objs.size = some { cls:=.type "list",dict:=none,data:=.seq its.toArray c',slots:=#[] } → EP X pins σ Q (.ref s.heap.objs.size) { s with heap:=h' }:=fun its r' hz h' c' kp e =>
  ⟨.ref s.heap.objs.size,_,I.laid (t':=s.toks) kp (AL _) (show bL X.prog X.w _ h' _ (.lst ys) from ⟨hz,its,c',r',e⟩),rfl,q _ (I.hok.fresh (AL _))⟩
 rcases hq with hq | hq
 ·obtain ⟨its,r',pl,hz⟩:=I.list hq
  have hlen:=r'.length
  obtain ⟨o,ho,hc,n,hd⟩:=pl.isList
  exact call_list_seq p (.inl rfl) ho hc hd (fun h' c' kp e=>fin its r' hz h' c' kp e) (by simp only [AQ] <;> omega)
 ·obtain ⟨its,r',pl,hz⟩:=I.tuple hq
  have hlen:=r'.length
  obtain ⟨o,ho,hc,n,hd⟩:=pl
  exact call_list_seq p (.inr rfl) ho hc hd (fun h' c' kp e=>fin its r' hz h' c' kp e) (by simp only [AQ] <;> omega)
theorem eK:fG X (.type "tuple") (fun xs H Q=>∃ p ys,xs = [.ref p] ∧ ((SqL X.K H p ys ∧ ∀ l,H l = none → Q (.ref l) (upd H l (.tup ys))) ∨ (SqT X.K H p ys ∧ Q (.ref p) H))):=by
 intro pins s σ H xs us Q I r h
 obtain ⟨p,ys,rfl,h⟩:=h
 obtain ⟨u,rfl,rx⟩:=aFW r
 cases rx
 rcases h with ⟨hq,q⟩ | ⟨hq,q⟩
 ·obtain ⟨its,r',pl,hz⟩:=I.list hq
  have hlen:=r'.length
  refine call_tuple_list pl.isList (fun h' kp=>?_) (by simp only [AQ] <;> omega)
  have I1:Inv X pins σ H { s with heap:=h' }:=I.kept (t':=s.toks) kp
  have I2:Inv X pins σ (upd H h'.objs.size (.tup ys)) { s with heap:=h'.push { cls:=.type "tuple",data:=.seq its.toArray } } :=
   I1.laid (t':=s.toks) (fun b o e=>AC _ e) (AL _) (show bL X.prog X.w _ _ _ (.tup ys) from ⟨hz,its,r',sK.new _ _⟩)
  exact ⟨.ref h'.objs.size,_,I2,rfl,q _ (I1.hok.fresh (AL _))⟩
 ·obtain ⟨its,r',pl,hz⟩:=I.tuple hq
  exact call_tuple_same pl ⟨.ref p,H,I,rfl,q⟩
def tyV (K:AG) (T:String) (x:V) (H:Hp):Prop:=match x with
 | .str _=>T = "str"
 | .int _=>T = "int"
 | .ref p=>(T = "list" ∧ ∃ xs,SqL K H p xs) ∨ (T = "tuple" ∧ ∃ o,K.lookup p = some o ∧ o.cls = .type "tuple" ∧ o.dict = none) ∨
   (T = "dict" ∧ ((∃ kvs,H p = some (.dK kvs)) ∨ ∃ kvs,H p = some (.dT kvs))) ∨ (T = "set" ∧ ∃ S n,H p = some (.set S n)) ∨ (T = "tuple" ∧ ∃ xs,H p = some (.tup xs))
 | _=>False
theorem aJH {pins:List (Addr × Obj)} {σ:St} {H:Hp} {s:Shared} {T:String} {x:V} {v:Value} (I:Inv X pins σ H s) (r:bG x v) (ty:tyV X.K T x H) :
  s.TypeIs v T ∧ ∀ a,v = .ref a → ∃ ob,s.heap.get? a = some ob ∧ ob.dict = none:=by
 cases x with
 | str z =>
  obtain ⟨t,rfl⟩:=r
  cases (show T = "str" from ty)
  exact ⟨typeIs_str s z t,fun _ e=>nomatch e⟩
 | int i =>
  obtain ⟨t,rfl⟩:=r
  cases (show T = "int" from ty)
  exact ⟨typeIs_int s i t,fun _ e=>nomatch e⟩
 | ref p =>
  cases r
  rcases ty with ⟨rfl,xs,hq⟩ | ⟨rfl,o,hk,hc,hd⟩ | ⟨rfl,hk⟩ | ⟨rfl,S,n,hk⟩ | ⟨rfl,xs,hk⟩
  ·obtain ⟨its,_,pl,_⟩:=I.list hq
   refine ⟨pl.isList.typeIs,fun a e=>?_⟩
   cases e
   obtain ⟨o,n,e,c,hd,_⟩:=pl
   exact ⟨o,e,hd⟩
  ·refine ⟨⟨o,I.kIn p o hk,hc⟩,fun a e=>?_⟩
   cases e
   exact ⟨o,I.kIn _ o hk,hd⟩
  ·have z:∃ o,s.heap.get? p = some o ∧ o.ExactDict:=by
    rcases hk with ⟨kvs,hk⟩ | ⟨kvs,hk⟩
    ·obtain ⟨_,_,_,_,o,_,_,e,ex,_⟩:=I.hok p _ hk
     exact ⟨o,e,ex⟩
    ·obtain ⟨_,_,_,_,o,_,_,e,ex,_⟩:=I.hok p _ hk
     exact ⟨o,e,ex⟩
   obtain ⟨o,e,ex⟩:=z
   refine ⟨⟨o,e,ex.1⟩,fun a e2=>?_⟩
   cases e2
   exact ⟨o,e,ex.2.1⟩
  ·obtain ⟨o,_,_,_,e,ex,_⟩:=I.hok p _ hk
   refine ⟨⟨o,e,ex.1⟩,fun a e2=>?_⟩
   cases e2
   exact ⟨o,e,ex.2.1⟩
  ·obtain ⟨_,_,_,o,e,hc,_,_,hd⟩:=(show bL X.prog X.w H s.heap p (.tup xs) from I.hok p _ hk)
   refine ⟨⟨o,e,hc⟩,fun a e2=>?_⟩
   cases e2
   exact ⟨o,e,hd⟩
 | _=>exact Bb ty
def aTD (K:AG) (T:String) (r:V → List V → Hp → VK → Prop) (to:TE):TE:=fun σ H Q=>to σ H fun x H1=>tyV K T x H1 ∧ r x [] H1 Q
def tBM (K:AG) (T:String) (r:V → List V → Hp → VK → Prop) (to:TE) (t:TA):TE:=fun σ H Q=>to σ H fun x H1=>tyV K T x H1 ∧ t σ H1 fun xs H2=>r x xs H2 Q
variable {o e:Expr} {es:List Expr} {to:TE} {t:TA} {name:Str} {apos cpos:Pos} {T id:String} {r:V → List V → Hp → VK → Prop}
theorem aQJ (pa:PlainAttrs T) (slot:Slot T name id) (hty:typeOf (.builtin id) = pure (.type "method_descriptor")) (hm:MtR X id r) (ho:PE X o to)
  (hbase:Dq o name X.env (eval o X.env) = eval o X.env:=by rfl) (hline:(apos.endLine == cpos.line) = true:=by rfl):PE X (.Call (.Attribute o name apos) [] [] cpos) (aTD X.K T r to):=by
 intro pins s σ H Q I h
 refine wpAny_Call_method0_late hbase hline (thn (ho pins s σ H _ I h) fun v s1 ⟨x,H1,I1,r1,ty,q1⟩=>?_)
 obtain ⟨h1,h2⟩:=aJH I1 r1 ty
 exact ⟨T,id,pa,slot,hty,h1,h2,Calls.callWith_builtin rfl (PySem.evalArgs_none (hm pins s1 σ H1 x [] v [] Q I1 r1 .nil q1))⟩
theorem oY (pa:PlainAttrs T) (slot:Slot T name id) (hty:typeOf (.builtin id) = pure (.type "method_descriptor")) (hm:MtR X id r) (ho:PE X o to) (ha:PA X (e :: es) t)
  (hbase:Dq o name X.env (eval o X.env) = eval o X.env:=by rfl)
  (hfew:((backTo cpos (As (e :: es) X.env)).all (fun x=>!x.1) && (Dt cpos (Cy [] X.env)).all (fun x=>x.1.isSome)
   && decide ((e :: es).length + ([]:List Keyword).length + (if ([]:List Keyword).isEmpty then 0 else 1) < 30)) = true:=by rfl)
  (hline:(apos.endLine == cpos.line) = true:=by rfl) (hs:As (e :: es) X.env = (false,eval e X.env) :: As es X.env:=by rfl) (hplain:(backTo cpos (As es X.env)).any (·.1) = false:=by rfl) :
  PE X (.Call (.Attribute o name apos) (e :: es) [] cpos) (tBM X.K T r to t):=by
 intro pins s σ H Q I h
 refine wpAny_Call_method_late hbase hfew hline rfl (thn (ho pins s σ H _ I h) fun v s1 ⟨x,H1,I1,r1,ty,q1⟩=>?_)
 obtain ⟨h1,h2⟩:=aJH I1 r1 ty
 refine ⟨T,id,pa,slot,hty,h1,h2,?_⟩
 have hA:=ha cpos pins s1 σ H1 _ I1 q1
 rw [hs] at hA ⊢
 refine Calls.callWith_builtin (by show (false || (backTo cpos (As es X.env)).any (·.1)) = false;rw [hplain] <;> rfl) (Calls.evalArgs_plain ?_)
 exact thn hA fun us s2 ⟨vs,H2,I2,r2,q2⟩=>hm pins s2 σ H2 x vs v us Q I2 r1 r2 q2
end
end L2
namespace L2
open PySem PySem.Spec PyProof.Rows
def MtM (X:Cx) (id:String) (r:V → List V → Hp → VK → Prop):Prop :=
 ∀ (pins:List (Addr × Obj)) (s:Shared) (σ:St) (H:Hp) (x:V) (xs:List V) (v:Value) (us:List Value) (Q:VK),Inv X pins σ H s → bG x v → bC xs us → r x xs H Q →
  wpAny (model X.prog X.w) X.A (call (.builtin id) (v :: us)) (EP X pins σ Q) X.xe s
theorem bC.one:∀ {x:V} {us:List Value},bC [x] us → ∃ u,us = [u] ∧ bG x u
 | _,_,.cons r .nil=>⟨_,rfl,r⟩
theorem bC.two:∀ {x y:V} {us:List Value},bC [x,y] us → ∃ u v,us = [u,v] ∧ bG x u ∧ bG y v
 | _,_,_,.cons r (.cons q .nil)=>⟨_,_,rfl,r,q⟩
theorem bC.zero:∀ {us:List Value},bC [] us → us = []
 | _,.nil=>rfl
theorem bC.eraseIdx:∀ {xs:List V} {us:List Value} (i:Nat),bC xs us → bC (xs.eraseIdx i) (us.eraseIdx i)
 | _,_,_,.nil=>.nil
 | _,_,0,.cons _ t=>t
 | _,_,i + 1,.cons r t=>.cons r (bC.eraseIdx i t)
theorem yO {α:Type}:∀ (l:List α) (i:Nat),(l.eraseIdx i).length ≤ l.length
 | [],_=>AL _
 | _ :: _,0=>CS _
 | _ :: r,i + 1=>Nat.succ_le_succ (yO r i)
section
variable {X:Cx} {pins:List (Addr × Obj)} {σ:St} {H:Hp} {s:Shared} {l b:Addr} {xs ys zs:List V}
theorem Inv.lset {its its':List Value} {n:Nat} {f:Array Value → Array Value} {t':Nat} (I:Inv X pins σ H s) (hH:H l = some (.lst xs))
  (e:s.heap.get? l = some { cls:=.type "list",data:=.seq its.toArray n }) (hf:f its.toArray = its'.toArray) (hv:bC ys its') (hz:ys.length ≤ An) :
  Inv X pins σ (upd H l (.lst ys)) { s with heap:=s.heap.update l (BK f),toks:=t' }:=by
 have q:=PySem.IsL.update e f
 rw [hf] at q
 refine I.write (x:=l) (e:=l) (by rw [hH];exact trivial) (.inl rfl) (fun b' u hb hu=>(Av s.heap (BK f) (Ne.symm hb)).trans hu) ⟨_,q⟩ ?_
 exact ⟨hz,its',_,hv,q⟩
theorem Inv.lnew {its:List Value} {t':Nat} (I:Inv X pins σ H s) (hv:bC ys its) (hz:ys.length ≤ An) :
  Inv X pins σ (upd H s.heap.objs.size (.lst ys)) { s with heap:=s.heap.push { cls:=.type "list",data:=.seq its.toArray },toks:=t' } :=
 I.laid (fun _ _ q=>AC _ q) (AL _) ⟨hz,its,0,hv,AN _ rfl⟩
theorem Inv.fresh (I:Inv X pins σ H s):H s.heap.objs.size = none:=I.hok.fresh (AL _)
theorem Inv.lstM (I:Inv X pins σ H s) (hH:H l = some (.lst xs)):xs.length ≤ An ∧ ∃ (its:List Value) (n:Nat),bC xs its ∧ xs.length = its.length ∧ s.heap.get? l = some { cls:=.type "list",data:=.seq its.toArray n }:=by
 obtain ⟨z,its,n,r,e⟩:=I.hok l _ hH
 exact ⟨z,its,n,r,r.length,e⟩
end
section
variable {X:Cx}
def aNT:V → List V → Hp → VK → Prop:=fun x vs H Q=>∃ l xs y,x = .ref l ∧ vs = [y] ∧ H l = some (.lst xs) ∧ xs.length < An ∧ Q .non (upd H l (.lst (xs ++ [y])))
theorem gK:MtM X "list.append" aNT:=by
 intro pins s σ H x vs v us Q I rx rv h
 obtain ⟨l,xs,y,rfl,rfl,hH,hz,q⟩:=h
 cases rx
 obtain ⟨u,rfl,ru⟩:=rv.one
 obtain ⟨z,its,n,r,hl,e⟩:=I.lstM hH
 refine call_meets F.slot_list_append ⟨_,e,rfl⟩ F.entry_list_append (F.args_list_append_2 _ _) (PySem.list_append l its.toArray n u (by rw [AQ];omega)) ⟨e,?_⟩
 refine ⟨.non,_,I.lset (its':=its ++ [u]) hH e (by simp) (r.append (.cons ru .nil)) ?_,rfl,q⟩
 rw [Ag,CL]
 omega
def aQD:V → List V → Hp → VK → Prop:=fun x vs H Q=>∃ l xs i k y,x = .ref l ∧ vs = [.int i] ∧ H l = some (.lst xs) ∧ -(2 ^ 63) ≤ i ∧ i < 2 ^ 63 ∧ seqIndex? i xs.length = some k ∧ xs[k]? = some y ∧ Q y (upd H l (.lst (xs.eraseIdx k)))
theorem aLG:MtM X "list.pop" aQD:=by
 intro pins s σ H x vs v us Q I rx rv h
 obtain ⟨l,xs,i,k,y,rfl,rfl,hH,h1,h2,hk,hy,q⟩:=h
 cases rx
 obtain ⟨u,rfl,ru⟩:=rv.one
 obtain ⟨t,rfl⟩:=ru
 obtain ⟨z,its,n,r,hl,e⟩:=I.lstM hH
 obtain ⟨w,hw,rw'⟩:=r.get hy
 refine call_meets F.slot_list_pop ⟨_,e,rfl⟩ F.entry_list_pop (F.args_list_pop_2 _ _)
  (MeetsSeq.list_pop_at l its.toArray n i t k w (fitsIndex_both h1 h2) (by rw [AQ,← hl];exact hk) (by rw [← Cd];exact hw) (by rw [AQ];omega)) ⟨e,?_⟩
 refine ⟨y,_,I.lset (its':=its.eraseIdx k) hH e ?_ (r.eraseIdx k) ?_,rw',q⟩
 ·show its.toArray.eraseIdxIfInBounds k = (its.eraseIdx k).toArray
  rw [List.eraseIdxIfInBounds_toArray]
 ·have:=yO xs k
  omega
def aTI:R2:=fun x y H Q=>∃ l b xs zs,x = .ref l ∧ y = .ref b ∧ H l = some (.lst xs) ∧ H b = some (.lst zs) ∧ xs.length + zs.length ≤ An ∧ ∀ p,H p = none → Q (.ref p) (upd H p (.lst (xs ++ zs)))
theorem lZ:OpR X (EL .Add) aTI:=by
 intro pins s σ H x y v u Q I rx ry h
 obtain ⟨l,b,xs,zs,rfl,rfl,hH,hB,hz,q⟩:=h
 cases rx
 cases ry
 obtain ⟨z,its,n,r,hl,e⟩:=I.lstM hH
 obtain ⟨z2,its2,n2,r2,hl2,e2⟩:=I.lstM hB
 refine PySem.P.add_list e e2 ?_ (by rw [AQ,AQ];omega)
 have ea:its.toArray ++ its2.toArray = (its ++ its2).toArray:=by simp
 rw [ea]
 exact ⟨.ref _,_,I.lnew (t':=s.toks) (r.append r2) (by rw [Ag];omega),rfl,q _ I.fresh⟩
end
section
variable {prog:Program} {w:World} {A:Around} {E:Value → Shared → Prop} {s:Shared}
end
section
variable {X:Cx}
end
end L2
namespace Att
open PySem PySem.W PySem.Calls PyProof.Rows
theorem tS {P:Params} {h:Heap}:∀ (ns:List Int) (vs:List Value),WellAll P h vs (ns.map WData.int) → IntsAre vs ns:=by
 intro ns
 induction ns with
 | nil =>
  intro vs w
  rw [Ci] at w
  cases w
  exact .nil
 | cons n ns ih =>
  intro vs w
  rw [Ac] at w
  cases w with
  | cons a b =>
   cases a
   exact .cons _ _ (ih _ b)
theorem aHR {l:OpenLaw} {n:Nat} (hn:l.most = some n) {P:Params} {h:Heap} {args:List WData} {vals:List Value}
  (hpre:l.row.toRowW.claim.pre args = true) (hwl:WellAll P h vals args) :
  ∃ a vs ns,vals = [Ao a] ∧ args = [WData.list (ns.map WData.int)] ∧ h.get? a = some { cls:=.type "list",data:=.seq vs.toArray } ∧ IntsAre vs ns ∧ ns.length ≤ n:=by
 have hsh:WShape.hasAll [] args [.list .int] = true:=(pre_splitW hpre).1
 have hc:l.pre.holds [] { args:=args } = true:=(pre_splitW hpre).2
 obtain ⟨d,r,rfl,h1,h2⟩:=hasAllW_cons hsh
 obtain rfl:=hasAllW_nil h2
 obtain ⟨xs,rfl,h3⟩:=hasW_list h1
 obtain ⟨ns,rfl⟩:=items_int h3
 have hlen:ns.length ≤ n:=by
  unfold OpenLaw.pre at hc
  have h4:(WTm.not (.lt (.lit (.int (n:Int))) (.len (.arg 0)))).holds [] { args:=[.list (ns.map .int)] } = true:=by
   have h4:=(holds_andW hc).1
   rw [hn] at h4
   exact h4
  have h5:=condW_of h4 (w_not (w_lt w_lit (w_len_list (w_arg rfl))))
  rw [AA] at h5
  refine Nat.le_of_not_lt fun q=>?_
  have q':(n:Int) < ((ns.length:Nat):Int):=by omega
  first
   | (rw [decide_eq_true q'] at h5;exact absurd h5 (by decide))
   | (simp at h5;omega)
 cases hwl with
 | cons w1 w2 =>
  cases w2
  cases w1 with
  | list ho hall=>exact ⟨_,_,ns,rfl,rfl,ho,tS ns _ hall,hlen⟩
theorem aHX (l:OpenLaw) (args:List WData):l.row.toRowW.claim.post args (.bool true) args = true :=
 postW_of (r:=l.row.toRowW) (X:=(true == true))
  (show WShape.has [] (.bool true) .bool = true by first | rfl | decide | simp [WShape.has,WShape.arms,WShape.armsAll])
  (show (WTm.eq .res (.lit (.bool true))).value [] { args:=args,res:=some (.bool true),after:=args } = some (.bool (true == true)) from w_eq_bool (w_res rfl) w_lit) rfl
theorem attach_call {l:OpenLaw} {n:Nat} {q:Program} {loose:List Str} {XP:(Str → Option Value) → Heap → Prop} {YP:World → Heap → Prop} {d:DefRec}
  (hn:l.most = some n) (hdf:d.params.defaults = [])
  (call:∀ (w:World) (s₀ s₁:Shared) (mg mb:Str → Option Value) (fa:Addr) (o:Obj) (pm cd doc:Value) (a:Addr) (vs:List Value) (ns:List Int),
   Ground q loose [] XP w s₀ mg mb s₁.heap → YP w s₁.heap →
   s₁.heap.get? fa = some o → o.data = .func (docDef d.name d.params d.body d.scope pm cd doc) → s₁.heap.CodeRec cd d.name → mg d.name = some (.ref fa) →
   s₁.heap.get? a = some { cls:=.type "list",data:=.seq vs.toArray } → IntsAre vs ns → ns.length ≤ n → s₁.gens = #[] →
   codeAny (model l.prog w) callerA (.call (.ref fa) ⟨[.ref a],[]⟩) (fun r s'=>r = .ok (.ret (.bool true)) ∧ OldK s₁.heap s'.heap ∧ s'.os = s₁.os ∧ AllBare s'.gens) s₁) :
  WalkO q loose XP YP l.row.toRowW d [] (fun f vs=>PySem.call f vs):=by
 intro w s₀ s₁ mg mb G Y fa o pm cd doc dV kV ho hd hcd hD hmg hg args vals as hpre hlay hrd hwl hlo
 obtain rfl:dV = .none:=Dflts.none hD hdf
 obtain rfl:kV = .none:=Dflts.noKw hD
 obtain ⟨a,vs,ns,rfl,rfl,hobj,hints,hlen⟩:=aHR hn hpre hwl
 refine enter_call (Ce (call w s₀ s₁ mg mb fa o pm cd doc a vs ns G Y ho (fd_plain hd) hcd hmg hobj hints hlen hg) fun r s' hq=>?_)
 obtain ⟨rfl,h2,h3,h4⟩:=hq
 exact ⟨.inl ⟨.bool true,.bool true,[],rfl,fun _=>rfl,.bool true,aHX l _,fun _=>⟨DO.nil,fun _ hm=>(nomatch hm)⟩⟩,h2,h3,h4⟩
section
variable {prog:Program} {w:World} {A:Around} {E:Value → Shared → Prop} {s:Shared} {K:Frag}
def noObjs (h:Heap):Heap:={ h with objs:=#[] }
def ledger (h:Heap) (L d:Addr):List (Addr × Obj):=(Az h.objs.size).filterMap fun a=>if a = L ∨ a = d then none else (h.get? a).map fun o=>(a,o)
end
end Att
namespace L2
open PySem PySem.Spec PyProof.Rows
theorem xR:∀ {vs:List Value} {ns:List Int},IntsAre vs ns → bC (ns.map V.int) vs
 | _,_,.nil=>.nil
 | _,_,.cons n t h=>.cons ⟨t,rfl⟩ (xR h)
end L2
namespace L2
open PySem PySem.Spec PyProof.Rows
end L2
namespace L2
open PySem PySem.Spec PyProof.Rows
def iM (s:Stmt) (j:Nat):Stmt:=match s with
 | .ClassDef _ _ _ body _ _ _ _ _ _ _=>body.getD j (.Pass ⟨0,0,0,0⟩)
 | _=>.Pass ⟨0,0,0,0⟩
def aM (s:Stmt):EJ:=match s with
 | .FunctionDef _ a _ _ _ _ _ _ _ _=>a
 | _=>{ posonlyargs:=[],args:=[],vararg:=none,kwonlyargs:=[],kw_defaults:=[],kwarg:=none,defaults:=[] }
def aJ (s:Stmt):List Stmt:=match s with
 | .FunctionDef _ _ b _ _ _ _ _ _ _=>b
 | _=>[]
def aB (s:Stmt):Scope:=match s with
 | .FunctionDef _ _ _ _ _ _ sc _ _ _=>sc
 | _=>{ kind:=.function,names:=[],isGenerator:=false,isCoroutine:=false }
abbrev CX0:CXT:=fun _ _ _ _ _ _=>False
abbrev E0:XK:=fun _ _ _=>False
theorem aGQ {X:Cx}:pV CX0 X E0:=fun _ _ _ _ _ _ _ h=>h.elim
structure Fun (K:AG) (x qual:Str) (st:Stmt) (f:Addr) (fd:Bz):Prop where
 ex:∃ (oc:Value) (od:Option Addr) (kV doc pm:Value) (an:Option Addr) (cdv ct:Value) (osl:Array (Option Value)),
  fd = AO x qual (aM st) (aJ st) (aB st) .none kV doc pm an cdv ct ∧ K.lookup f = some ⟨oc,od,.func fd,osl⟩ ∧ AK K cdv qual = true
 kp:AH K (.ref f) = true
section
variable {P:Program} {w:World} {K:AG} {mg:Str → Option Value} {base:Heap}
theorem Fun.ok {x qual:Str} {st:Stmt} {f:Addr} {fd:Bz} {N ps:List Str} {k:Nat} {sp:Sp} (F:Fun K x qual st f fd) (S:FnScope N ps (aB st)) (len:∀ vs H Q E,sp vs H Q E → vs.length = ps.length)
  (hbody:∀ (cdv:Value) (A:Around) (outer:List Env) (s:Shared) (H:Hp) (vs:List V) (Q:VK) (E:XK),Room k (A.deeper (envOfC qual (aB st) s.heap.objs.size f cdv)) → sp vs H Q E →
   ∃ t,PSs (mJ CX0 P w K mg base N qual (aB st) f cdv A outer s H E).nox (aJ st) t ∧ t { nx:=fun _ H'=>Q .non H',rt:=Q } (start N vs) H):FnOk P w K mg base CX0 (k + 1) f fd ps sp:=by
 obtain ⟨oc,od,kV,doc,pm,an,cdv,ct,osl,rfl,lk,hcd⟩:=F.ex
 refine aPO lk hcd S len fun A outer s H vs Q E hr hsp=>?_
 obtain ⟨t,h,q⟩:=hbody cdv A outer s H vs Q E hr hsp
 exact ⟨t,h.nox,q⟩
theorem Fun.binds {x qual:Str} {st:Stmt} {f:Addr} {fd:Bz} {ps:List Str} (F:Fun K x qual st f fd)
  (h:∀ (kV doc pm:Value) (an:Option Addr) (cdv ct:Value) (us:List Value),us.length = ps.length → FO (AO x qual (aM st) (aJ st) (aB st) .none kV doc pm an cdv ct) ⟨us,[]⟩ = pure (ps.zip us)):kC K fd ps []:=by
 obtain ⟨oc,od,kV,doc,pm,an,cdv,ct,osl,rfl,lk,hcd⟩:=F.ex
 exact .all (h kV doc pm an cdv ct)
theorem rZ {x qual:Str} {st:Stmt} {f:Addr} {oc:Value} {od an:Option Addr} {osl:Array (Option Value)} {kV doc pm cdv ct:Value} (l:K.lookup f = some ⟨oc,od,.func (AO x qual (aM st) (aJ st) (aB st) .none kV doc pm an cdv ct),osl⟩)
  (c:AK K cdv qual = true) (k:AH K (.ref f) = true):Fun K x qual st f (AO x qual (aM st) (aJ st) (aB st) .none kV doc pm an cdv ct):=⟨⟨oc,od,kV,doc,pm,an,cdv,ct,osl,rfl,l,c⟩,k⟩
end
theorem lG {A:Around} {k:Nat} (hr:Room k A):A.units + 1 < cLine:=Nat.lt_of_le_of_lt (Nat.add_le_add_left (by decide:1 ≤ 64) _) hr.units
section
variable {X:Cx}
theorem pv (i:Nat) {x:Str} {pos:Pos} (hN:X.N[i]? = some x:=by rfl) (hv:Vis X.env.scope x:=by first | exact Or.inl rfl | exact Or.inr (Or.inl rfl) | exact Or.inr (Or.inr rfl)) (hd:(x == ("__debug__":Str)) = false:=by decide)
  (hcd:(x == ("__classdict__":Str)) = false:=by decide):PE X (.Name x pos) (aNE i):=aQG hN hv hd hcd
end
theorem bO {A B:Prop} (h:B):if false = true then A else B:=by
 rw [if_neg Ab]
 exact h
theorem dL {A B:Prop} (h:A):if true = true then A else B:=by
 rw [if_pos rfl]
 exact h
theorem jY {c A B:Prop} [Decidable c] (h1:c → A) (h2:¬ c → B):if c then A else B:=by
 by_cases h:c
 ·rw [if_pos h]
  exact h1 h
 ·rw [if_neg h]
  exact h2 h
def aI (H H':Hp):Prop:=∀ b o,H b = some o → H' b = some o
theorem aI.refl (H:Hp):aI H H:=fun _ _ h=>h
theorem aI.trans {H H1 H2:Hp} (a:aI H H1) (b:aI H1 H2):aI H H2:=fun c o h=>b c o (a c o h)
theorem aI.free {H H':Hp} (e:aI H H') {l:Addr} (h:H' l = Option.none):H l = Option.none:=by
 cases q:H l with
 | none=>rfl
 | some o =>
  rw [e l o q] at h
  cases h
theorem aI.seq {K:AG} {H H':Hp} {a:Addr} {xs:List V} (e:aI H H') (h:SqL K H a xs):SqL K H' a xs:=by
 rcases h with (h | ⟨o,h⟩) | h
 ·exact .inl (.inl (e _ _ h))
 ·exact .inl (.inr ⟨o,e _ _ h⟩)
 ·exact .inr h
end L2
namespace L2
open PySem PySem.Spec PyProof.Rows
section
variable {X:Cx}
end
section
variable {κ:Type} [DecidableEq κ]
theorem aJF {kvs:List (κ × V)} {k:κ} (h:dJ kvs k = none):¬ k ∈ kvs.map (·.1):=by
 intro m
 obtain ⟨p,hp,e⟩:=AT.mp m
 have q:(kvs.any fun kv=>decide (kv.1 = k)) = true:=EW.mpr ⟨p,hp,decide_eq_true e⟩
 rw [jJ,h] at q
 exact absurd q (by simp)
theorem aNA {kvs:List (κ × V)} {k:κ} {v:V} (h:dJ kvs k = some v):k ∈ kvs.map (·.1):=by
 have q:(kvs.any fun kv=>decide (kv.1 = k)) = true:=by
  rw [jJ,h]
  all_goals rfl
 obtain ⟨p,hp,e⟩:=EW.mp q
 exact AT.mpr ⟨p,hp,of_decide_eq_true e⟩
end
end L2
namespace Tx
open PySem PySem.Builtin PySem.Builtin.Str
def cl (n d:Nat):Option Int → Nat
 | none=>d
 | some i=>(max 0 (min (if i < 0 then i + n else i) n)).toNat
theorem cl_nat (n d k:Nat):cl n d (some (k:Int)) = min k n:=by
 show (max 0 (min (if (k:Int) < 0 then (k:Int) + n else (k:Int)) n)).toNat = min k n
 rw [if_neg (by omega)]
 omega
theorem aPQ (n d:Nat) (hd:d ≤ n):∀ o,cl n d o ≤ n
 | none=>hd
 | some i=>by
  show (max 0 (min (if i < 0 then i + n else i) n)).toNat ≤ n
  omega
theorem aFF (lo hi:Option Int) (n:Nat):strSliceIndices lo hi 1 n = (Az (cl n n hi - cl n 0 lo)).map (cl n 0 lo + ·):=by
 have h1:∀ (v:Option Int) (d:Nat),d ≤ n → (match v with | none=>(d:Int) | some i=>if (1:Int) > 0 then max 0 (min (if i < 0 then i + n else i) n) else max (-1) (min (if i < 0 then i + n else i) (n - 1))) = ((cl n d v:Nat):Int):=by
  intro v d hd
  cases v with
  | none=>rfl
  | some i =>
   show (if (1:Int) > 0 then max 0 (min (if i < 0 then i + n else i) n) else max (-1) (min (if i < 0 then i + n else i) (n - 1))) = (((max 0 (min (if i < 0 then i + n else i) n)).toNat:Nat):Int)
   rw [if_pos (by decide)]
   omega
 rw [← sliceRange_one]
 unfold strSliceIndices
 have a:=h1 lo 0 (BG _)
 have b:=h1 hi n (AL _)
 simp only [show (1:Int) > 0 by decide,if_true] at a b ⊢
 congr 1
theorem slice_codes (x:Str) (lo hi:Option Int):(Cz x lo hi).cps.toList = (x.cps.toList.drop (cl x.length 0 lo)).take (cl x.length x.length hi - cl x.length 0 lo):=by
 unfold Cz
 rw [aFF]
 split
 ·rename_i h
  have h':cl x.length x.length hi - cl x.length 0 lo = x.length:=by
   have:=(BF.mp h).2
   have:=beq_iff_eq.mp this
   simpa using this
  have h2:=aPQ x.length x.length (AL _) hi
  have h4:=aPQ x.length 0 (BG _) lo
  have h3:cl x.length 0 lo = 0:=by omega
  rw [h',h3,Eu,AI]
  show x.cps.toList.length ≤ x.cps.size
  simp
 ·rw [pick_run]
theorem app_codes (a b:Str):(a ++ b).cps.toList = a.cps.toList ++ b.cps.toList:=by
 simp [Str.cps_append]
theorem app_len (a b:Str):(a ++ b).length = a.length + b.length:=Str.length_append a b
end Tx
set_option maxHeartbeats 4000000
namespace L2
open PySem PySem.Spec PyProof.Rows
theorem nU {env:Env} {f:(Str × Ax) → List (Str × Addr) → Sem (ForInStep (List (Str × Addr)))}
  (hf:∀ n k cs,f (n,k) cs = if (k == Aw) = true then (cellOf env n >>= fun c=>pure (CF ((n,c) :: cs))) else pure (CF cs)) :
  ∀ (names:List (Str × Ax)) (acc:List (Str × Addr)),
  (∀ y ∈ names,y.2 = .free → ∃ c,env.cells.lookup y.1 = some c) →
  (∀ x c,acc.lookup x = some c → env.cells.lookup x = some c) →
  ∃ cl,forIn names acc f = (pure cl:Sem _) ∧ (∀ x c,cl.lookup x = some c → env.cells.lookup x = some c) ∧ (∀ x c,acc.lookup x = some c → ∃ d,cl.lookup x = some d) ∧
   ∀ x,(x,Aw) ∈ names → ∃ c,cl.lookup x = some c
 | [],acc,_,ha=>⟨acc,rfl,ha,fun x c e=>⟨c,e⟩,fun x m=>absurd m (by simp)⟩
 | (n,k) :: r,acc,hn,ha=>by
  have hr:∀ y ∈ r,y.2 = .free → ∃ c,env.cells.lookup y.1 = some c:=fun y hy=>hn y (AV _ hy)
  by_cases hk:k = .free
  ·subst hk
   obtain ⟨c,hc⟩:=hn (n,.free) AY rfl
   have hcell:cellOf env n = pure c:=by
    have hc':env.cells.lookup n = some c:=hc
    unfold cellOf
    rw [hc']
   have ha':∀ x d,Ca x ((n,c) :: acc) = some d → env.cells.lookup x = some d:=fun x d e=>by
    by_cases hx:(x == n) = true
    ·rw [BL,hx] at e
     obtain rfl:=beq_iff_eq.mp hx
     cases e
     exact hc
    ·have hx':(x == n) = false:=by simpa using hx
     rw [BL,hx'] at e
     exact ha x d e
   obtain ⟨cl,e1,e2,e3,e4⟩:=nU hf r ((n,c) :: acc) hr ha'
   refine ⟨cl,?_,e2,fun x d e=>?_,fun x m=>?_⟩
   ·rw [Fe,hf,if_pos (beq_self_eq_true _),hcell,pure_bind,pure_bind]
    exact e1
   ·by_cases hx:(x == n) = true
    ·exact e3 x c (by rw [BL,hx])
    ·have hx':(x == n) = false:=by simpa using hx
     exact e3 x d (by rw [BL,hx'];exact e)
   ·rcases Af.mp m with q | q
    ·have q':x = n:=congrArg Prod.fst q
     subst q'
     exact e3 x c (by rw [BL,beq_self_eq_true])
    ·exact e4 x q
  ·have hk':(k == Aw) = false:=by simpa using hk
   obtain ⟨cl,e1,e2,e3,e4⟩:=nU hf r acc hr ha
   refine ⟨cl,?_,e2,e3,fun x m=>?_⟩
   ·rw [Fe,hf,hk',if_neg Ab,pure_bind]
    exact e1
   ·rcases Af.mp m with q | q
    ·exact absurd (congrArg Prod.snd q).symm hk
    ·exact e4 x q
theorem wT {scope:Scope} {env:Env} (h:∀ y ∈ scope.names,y.2 = .free → ∃ c,env.cells.lookup y.1 = some c) :
  ∃ cl,Fb scope env = pure cl ∧ (∀ x c,cl.lookup x = some c → env.cells.lookup x = some c) ∧ ∀ x,(x,Aw) ∈ scope.names → ∃ c,cl.lookup x = some c:=by
 obtain ⟨cl,e1,e2,_,e4⟩:=nU (env:=env) (f:=fun (x:Str × Ax) cs=>match x with | (name,kind)=>if (kind == Aw) = true then (cellOf env name >>= fun c=>pure (CF ((name,c) :: cs))) else pure (CF cs)) (fun n k cs=>rfl) scope.names [] h (fun x c e=>by cases e)
 refine ⟨cl,?_,e2,e4⟩
 have:Fb scope env = (forIn scope.names [] (fun (x:Str × Ax) cs=>match x with | (name,kind)=>if (kind == Aw) = true then (cellOf env name >>= fun c=>pure (CF ((name,c) :: cs))) else pure (CF cs)) >>= fun cs=>pure cs):=by
  first | rfl | (unfold Fb;rfl) | (unfold Fb;simp only [pure_bind,bind_pure])
 rw [this,e1,pure_bind]
theorem jB {env:Env}:∀ {names:List (Str × Ax)} {x:Str},names.lookup x = some .free →
  (names.map fun (n,k)=>if (k == Aw && env.scope.kind == .function && env.kindOf n == some .cell) then (n,CT) else (n,k)).lookup x = some .cell ∨
  (names.map fun (n,k)=>if (k == Aw && env.scope.kind == .function && env.kindOf n == some .cell) then (n,CT) else (n,k)).lookup x = some .free
 | [],_,h=>by simp at h
 | (n,k) :: r,x,h=>by
  have ih:=@jB env r x
  show Ca x ((if (k == Aw && env.scope.kind == .function && env.kindOf n == some .cell) = true then (n,CT) else (n,k)) :: _) = _ ∨ Ca x ((if (k == Aw && env.scope.kind == .function && env.kindOf n == some .cell) = true then (n,CT) else (n,k)) :: _) = _
  cases hx:x == n with
  | true =>
   simp only [BL,hx] at h
   cases h
   by_cases hc:(Aw == Aw && env.scope.kind == .function && env.kindOf n == some .cell) = true
   ·rw [if_pos hc];left;simp only [BL,hx]
   ·rw [if_neg hc];right;simp only [BL,hx]
  | false =>
   simp only [BL,hx] at h
   by_cases hc:(k == Aw && env.scope.kind == .function && env.kindOf n == some .cell) = true
   ·rw [if_pos hc];simp only [BL,hx];exact ih h
   ·rw [if_neg hc];simp only [BL,hx];exact ih h
theorem kZ {env:Env}:∀ {names:List (Str × Ax)} {x:Str},(∀ y ∈ names,y.2 ≠ .cell) →
  ((names.map fun (n,k)=>if (k == Aw && env.scope.kind == .function && env.kindOf n == some .cell) then (n,CT) else (n,k)).lookup x = some .cell ∨
  (names.map fun (n,k)=>if (k == Aw && env.scope.kind == .function && env.kindOf n == some .cell) then (n,CT) else (n,k)).lookup x = some .free) → (x,Aw) ∈ names
 | [],_,_,h=>by rcases h with h | h <;> simp at h
 | (n,k) :: r,x,hn,h=>by
  have ih:=@kZ env r x (fun y hy=>hn y (AV _ hy))
  have h':Ca x ((if (k == Aw && env.scope.kind == .function && env.kindOf n == some .cell) = true then (n,CT) else (n,k)) :: (r.map fun (n,k)=>if (k == Aw && env.scope.kind == .function && env.kindOf n == some .cell) then (n,CT) else (n,k))) = some .cell ∨
   Ca x ((if (k == Aw && env.scope.kind == .function && env.kindOf n == some .cell) = true then (n,CT) else (n,k)) :: (r.map fun (n,k)=>if (k == Aw && env.scope.kind == .function && env.kindOf n == some .cell) then (n,CT) else (n,k))) = some .free:=h
  cases hx:x == n with
  | true =>
   obtain rfl:=beq_iff_eq.mp hx
   have hk:k = .free:=by
    by_cases hc:(k == Aw && env.scope.kind == .function && env.kindOf x == some .cell) = true
    ·have:=(BF.mp (BF.mp hc).1).1
     exact beq_iff_eq.mp this
    ·rw [if_neg hc] at h'
     simp only [BL,hx] at h'
     rcases h' with e | e
     ·cases e;exact absurd rfl (hn (x,.cell) AY)
     ·cases e;rfl
   subst hk
   exact AY
  | false =>
   refine AV _ (ih ?_)
   by_cases hc:(k == Aw && env.scope.kind == .function && env.kindOf n == some .cell) = true
   ·rw [if_pos hc] at h';simp only [BL,hx] at h';exact h'
   ·rw [if_neg hc] at h';simp only [BL,hx] at h';exact h'
structure BlkR where
 cl:List (Str × Addr)
 C:Addr
 s₀:Shared
 H₀:Hp
 ex:List Addr
abbrev blk (X:Cx) (scope:Scope) (N':List Str) (R:BlkR):Cx :=
 { prog:=X.prog,w:=X.w,K:=X.K,mg:=X.mg,base:=X.base,A:=X.A,N:=N',s₀:=R.s₀,H₀:=R.H₀,env:=compEnvC scope R.cl R.C X.env,outer:=X.stack,stack:=X.stack,ex:=R.ex,fn:=fun _=>false,calm:=X.calm,pn:=[],xe:=fun _ _=>False }
def aMY (X:Cx) (ifs:List Expr) (t:TT):Prop :=
 ∀ (pins:List (Addr × Obj)) (s:Shared) (σ:St) (H:Hp) (Q:Bool → Hp → Prop),Inv X pins σ H s → t σ H Q →
  wpAny (model X.prog X.w) X.A (forIn ifs true fun c r=>if r = true then do let ok ← isTrue c X.env (eval c X.env);pure (CF ok) else pure (CF r)) (TP X pins σ Q) X.xe s
def aRI:TT:=fun _ H Q=>Q true H
theorem cF {X:Cx}:aMY X [] aRI:=fun pins s σ H Q I h=>wpAny_tests_nil ⟨H,I,h⟩
theorem fW {X:Cx} {c:Expr} {t:TT} (h:PT X c t):aMY X [c] t:=fun pins s σ H Q I hw=>wpAny_tests_one (h pins s σ H Q I hw)
def aHF (nt:Nat) (g:TG):Prop:=∀ x σ H Q,g x σ H Q → g x σ H fun σ2 H2=>Q σ2 H2 ∧ σ2.length = σ.length ∧ ∀ i,nt ≤ i → σ2[i]? = σ[i]?
theorem aX {nt i:Nat} (h:i < nt):aHF nt (wG i):=fun x σ H Q q =>
 ⟨q,by simp,fun j hj=>Et (by omega)⟩
def oB (nt:Nat) (cap:List Nat) (σ:St):St:=List.replicate nt none ++ cap.map fun j=>(σ[j]?).join
theorem aJA {nt:Nat} {cap:List Nat} {σ:St}:(oB nt cap σ).length = nt + cap.length:=by simp [oB]
theorem zJ {nt:Nat} {cap:List Nat} {σ:St} {i:Nat} {v:V} (h:(oB nt cap σ)[i]? = some (some v)):∃ j,nt ≤ i ∧ cap[i - nt]? = some j ∧ σ[j]? = some (some v):=by
 unfold oB at h
 by_cases hi:i < nt
 ·rw [Bf (by simpa using hi),List.getElem?_replicate] at h
  rw [if_pos hi] at h
  cases h
 ·rw [Cc (by simp;omega),List.length_replicate,AR] at h
  cases e:cap[i - nt]? with
  | none=>rw [e] at h;cases h
  | some j =>
   rw [e] at h
   refine ⟨j,by omega,rfl,?_⟩
   have h':(σ[j]?).join = some v:=by simpa using h
   cases q:σ[j]? with
   | none=>rw [q] at h';cases h'
   | some o=>rw [q] at h';cases o with
    | none=>cases h'
    | some z=>cases h';rfl
theorem wS {prog:Program} {w:World} {A:Around} {R:Result → Shared → Prop} {s:Shared} {elt target iter:Expr} {ifs:List Expr} {scope:Scope} {pos:Pos} {it acc:Value} {env:Env} (I:Nat → Shared → Prop)
  (turn:∀ n s,I n s → wpAny (model prog w) A (pyNext it) (fun r s₁=>match r with
   | none=>R (.ok .next) s₁
   | some v=>wpAny (model prog w) A (FE target it v) (fun _ s₁=>wpAny (model prog w) A (assign target env v) (fun _ s₂ =>
     wpAny (model prog w) A (forIn ifs true fun c r=>if r = true then do let ok ← isTrue c env (eval c env);pure (CF ok) else pure (CF r)) (fun ok s₃ =>
      if ok = true then wpAny (model prog w) A (eval elt env) (fun x s₄ =>
       wpAny (model prog w) A (call (.builtin "list.append") [acc,x]) (fun _ s₅=>∃ m,m < n ∧ I m s₅) (notedBy (model prog w) A env fun e s'=>R (.error e) s') s₄) (notedBy (model prog w) A env fun e s'=>R (.error e) s') s₃
      else ∃ m,m < n ∧ I m s₃) (notedBy (model prog w) A env fun e s'=>R (.error e) s') s₂) (notedBy (model prog w) A env fun e s'=>R (.error e) s') s₁) (notedBy (model prog w) A env fun e s'=>R (.error e) s') s₁) (notedBy (model prog w) A env fun e s'=>R (.error e) s') s)
  (n:Nat) (h:I n s) :
  codeAny (model prog w) A (.compLoop (.ListComp elt [⟨target,iter,ifs,0⟩] scope pos) 0 it acc env) R s:=by
 refine codeAny_loop rfl I (fun n s hI=>?_) n h
 show wpAny _ A ((compTurn (.ListComp elt [⟨target,iter,ifs,0⟩] scope pos) 0 it acc env).onRaise (fun x=>do noteFrame x env;theTreesLotGoes x)) _ _ s
 refine wpAny_noted ?_
 rw [compTurn_list]
 refine AB (wpAny_standAt (AB (BJ (turn n s hI) (fun r s₁ h₁=>?_) fun _ _ h'=>h')))
 cases r with
 | none=>exact AF h₁
 | some v =>
  refine AB (BJ h₁ (fun _ s₁' h₁'=>?_) fun _ _ h'=>h')
  refine AB (BJ h₁' (fun _ s₂ h₂=>AB (BJ h₂ (fun ok s₃ h₃=>?_) fun _ _ h'=>h')) fun _ _ h'=>h')
  cases ok with
  | false=>exact AF ⟨rfl,h₃⟩
  | true =>
   exact AB (AB (BJ h₃ (fun x s₄ h₄=>AB (BJ h₄ (fun _ s₅ h₅=>AF (AF ⟨rfl,h₅⟩)) fun _ _ h'=>h')) fun _ _ h'=>h'))
abbrev CW:=Nat → Nat → List V → Hp → Prop
def uH (σb:St) (J:It) (g:TG) (tt:TT) (te:TE) (W:CW) (fin:List V → Hp → Prop) (i m:Nat) (ys:List V) (H:Hp):Prop :=
 (J.stop i H ∧ fin ys H) ∨
 (J.go i H ∧ ys.length < An ∧ ∀ x H',J.yld i H x H' → g x σb H' fun σ2 H2=>tt σ2 H2 fun b H3 =>
  if b = true then te σ2 H3 fun y H4=>∃ m',m' < m ∧ W (i + 1) m' (ys ++ [y]) H4 else ∃ m',m' < m ∧ W (i + 1) m' ys H3)
structure BlkEnd (X:Cx) (pins:List (Addr × Obj)) (H:Hp) (C:Addr) (s:Shared):Prop where
 ns:∃ m,s.heap.Ns C m
 fr:H C = none
 ne:C ≠ X.env.locals
 ab:X.s₀.heap.objs.size ≤ C
 cl:∀ x c,X.env.cells.lookup x = some c → c ≠ C
 pn:∀ p ∈ X.pn ++ pins,p.1 ≠ C
theorem wR {X:Cx} {pins:List (Addr × Obj)} {σ:St} {s₂:Shared} {H₂:Hp} {elt iter tg:Expr} {ifs:List Expr} {scope:Scope} {pos:Pos} {N':List Str} {nt:Nat} {cap:List Nat} {g:TG} {tt:TT} {te:TE} {cl:List (Str × Addr)}
  {it:Addr} {fp:List Addr} {tn:Nat → Heap → Prop} {J:It} {Q:List V → Hp → Prop} {E:Value → Shared → Prop}
  (hc:X.calm = true) (I₂:Inv X pins σ H₂ s₂) (T:Turn X.prog X.w X.K tg J fp it tn) (st:tn 0 s₂.heap) (hf:∀ b ∈ fp,aBM X pins H₂ b)
  (hclk:∀ x c,cl.lookup x = some c → X.env.cells.lookup x = some c) (hclh:∀ x,(x,Aw) ∈ scope.names → ∃ c,cl.lookup x = some c)
  (hcell:∀ y ∈ scope.names,y.2 ≠ .cell) (hkind:scope.kind = .function)
  (hfr:∀ y ∈ scope.names,y.2 = .free → (X.env.kindOf y.1 = some .cell ∨ X.env.kindOf y.1 = some .free))
  (hN:N'.length = nt + cap.length) (hcapN:∀ (k j:Nat),cap[k]? = some j → N'[nt + k]? = X.N[j]?) (hcapF:∀ x ∈ N'.drop nt,scope.names.lookup x = some .free)
  (hg:∀ R,PG (blk X scope N' R) tg g) (hgk:aHF nt g) (ht:∀ R,aMY (blk X scope N' R) ifs tt) (he:∀ R,PE (blk X scope N' R) elt te)
  (h:∃ W:CW,(∃ m,W 0 m [] H₂) ∧ ∀ i m ys H,W i m ys H → uH (oB nt cap σ) J g tt te W Q i m ys H)
  {RR:Value → Addr → Result → Shared → Prop}
  (hRR:∀ D C s' H' ys,H' D = none → Q ys H' → Inv X pins σ (upd H' D (.lst ys)) s' → BlkEnd X pins (upd H' D (.lst ys)) C s' → RR (.ref D) C (.ok .next) s') :
  wpAny (model X.prog X.w) X.A (newList []) (fun acc s₃=>wpAny (model X.prog X.w) X.A (newFunctionEnv scope X.env.globals cl [] X.env.qual none .none (some X.env)) (fun cenv s₄ =>
   codeAny (model X.prog X.w) X.A (.compStart (.ListComp elt [⟨tg,iter,ifs,0⟩] scope pos) 0 (.ref it) acc { cenv with scope:=relabel scope X.env }) (RR acc cenv.locals) s₄) E s₃) E s₂:=by
 obtain ⟨W,⟨m0,w0⟩,turn⟩:=h
 refine Bm (wpAny_newFunctionEnv hcell (by intro y hy;simp at hy) (fun h₁ hns₁ hsb₁=>?_) hkind)
 dsimp only at hns₁ hsb₁ ⊢
 generalize hH2:s₂.heap.push { cls:=.type "list",dict:=none,data:=.seq ([]:List Value).toArray } = Hx at hns₁ hsb₁ ⊢
 have hC:Hx.objs.size = s₂.heap.objs.size + 1:=by rw [← hH2,CO]
 generalize hD:s₂.heap.objs.size = D at hC ⊢
 generalize hCC:Hx.objs.size = C at hns₁ hsb₁ hC ⊢
 have hDC:D ≠ C:=by omega
 have below:∀ b,b < s₂.heap.objs.size → b ≠ C ∧ b ≠ D:=fun b hb=>by omega
 have old:∀ b o,s₂.heap.get? b = some o → h₁.get? b = some o:=fun b o e=>hsb₁.extBut b o (below b (AX e)).1 (AC _ (hH2 ▸ AC _ e))
 have hacc:h₁.get? D = some { cls:=.type "list",data:=.seq ([]:List Value).toArray }:=hsb₁.extBut _ _ hDC (AC _ (by rw [← hH2,← hD];exact AN _ rfl))
 have freshD:H₂ D = none:=I₂.hok.fresh (by omega)
 have freshC:H₂ C = none:=I₂.hok.fresh (by omega)
 have fpo:∀ b ∈ fp,∃ o,s₂.heap.get? b = some o ∧ ∀ v,o.data ≠ .cell v:=T.obj 0 _ st
 have fplt:∀ b ∈ fp,b < s₂.heap.objs.size:=fun b hb=>let ⟨o,e,_⟩:=fpo b hb;AX e
 have celllt:∀ x c,X.env.cells.lookup x = some c → c < s₂.heap.objs.size:=fun x c e=>let ⟨v,z⟩:=I₂.cell x c e;z.lt
 have pinlt:∀ p ∈ X.pn ++ pins,p.1 < s₂.heap.objs.size:=fun p hp=>AX (I₂.pin p hp).1
 let R:BlkR:=⟨cl,C,s₂,H₂,fp⟩
 have okb:(blk X scope N' R).Ok:={
  mod:=I₂.mod
  kind:=hkind
  glob:=I₂.ok.glob
  blt:=I₂.ok.blt
  above:=(by show s₂.heap.objs.size ≤ C;omega)
  inj:=fun x y c e1 e2=>I₂.ok.inj x y c (hclk x c e1) (hclk y c e2)
  has:=fun x hx=>hclh x (kZ hcell hx)
  cab:=fun x c hx _=>by cases hx
  hd:=I₂.ok.hd
  frames:=I₂.ok.frames
  stk:=.inl rfl
  exf:=fun b hb=>⟨(below b (fplt b hb)).1,fun x c e=>(hf b hb).2.2.2.2.1 x c (hclk x c e)⟩
  bs:=I₂.bs
  bsz:=BB I₂.ok.bsz I₂.sz
  noex:=fun b o e hb=>by
   rcases (hf b hb).2.2.2.1 with z | z
   ·exact I₂.ok.noex b o e z
   ·exact absurd (Ah (AX e) (BB I₂.ok.bsz z)) (DB _)
  exfs:=fun b hb z=>by
   rcases Af.mp (I₂.stkSub b z) with q | q
   ·exact (hf b hb).2.1 q
   ·exact (hf b hb).2.2.1 q
  funs:=I₂.stack
  frf:=I₂.stkFree }
 have nofs:∀ a,s₂.heap.objs.size ≤ a → a ∉ frs X.stack:=fun a ha z=>by
  rcases Af.mp (I₂.stkSub a z) with q | q
  ·exact absurd (Ah I₂.lt ha) (by rw [q];exact DB _)
  ·exact I₂.nofs ha q
 have hDle:s₂.heap.objs.size ≤ D:=by omega
 have hCle:s₂.heap.objs.size ≤ C:=by omega
 have stat:∀ {H':Hp} {ob:Obj},(∀ b ∈ fp,H' b = none) → ∀ b ∈ fp,aBM (blk X scope N' R) [(D,ob)] H' b:=fun {H' ob} hn b hb =>
  ⟨hn b hb,(below b (fplt b hb)).1,okb.exfs b hb,.inl hb,fun x c e=>(hf b hb).2.2.2.2.1 x c (hclk x c e),fun p hp=>by
   have e:p = (D,ob):=by simpa using hp
   rw [e]
   exact Ne.symm (below b (fplt b hb)).2⟩
 have entry:∀ tk,Inv (blk X scope N' R) [(D,{ cls:=.type "list",data:=.seq ([]:List Value).toArray })] (oB nt cap σ) H₂ { s₂ with heap:=h₁,toks:=tk }:=fun tk=>{
  ok:=okb
  os:=rfl
  bare:=I₂.bare
  base:=Un.kept old
  loc:=by
   refine ⟨_,hns₁,fun i x v e1 e2 e3=>?_⟩
   obtain ⟨j,hi,hj,hv⟩:=zJ e2
   have hx:X.N[j]? = some x:=by
    rw [← hcapN _ _ hj,show nt + (i - nt) = i by omega]
    exact e1
   have hxm:x ∈ N'.drop nt:=by
    refine AS (i:=i - nt) ?_
    rw [FM,show nt + (i - nt) = i by omega]
    exact e1
   have hfree:=hcapF x hxm
   have hmem:(x,Aw) ∈ scope.names:=by
    have:∀ (l:List (Str × Ax)),l.lookup x = some .free → (x,Aw) ∈ l:=by
     intro l
     induction l with
     | nil=>intro q;cases q
     | cons a r ih =>
      intro q
      obtain ⟨n,k⟩:=a
      cases hxn:x == n with
      | true =>
       rw [BL,hxn] at q
       obtain rfl:=beq_iff_eq.mp hxn
       cases q
       exact AY
      | false =>
       rw [BL,hxn] at q
       exact AV _ (ih q)
    exact this _ hfree
   have hk:=hfr (x,.free) hmem rfl
   obtain ⟨m,hn,hl⟩:=I₂.loc
   have vis:Vis X.env.scope x:=by
    rcases hk with k | k
    ·exact .inr (.inl k)
    ·exact .inr (.inr k)
   obtain ⟨u,ru,lk⟩:=hl j x v hx hv vis
   refine ⟨u,ru,?_⟩
   rcases lk with ⟨k,_⟩ | ⟨k,c,hc1,hc2⟩
   ·exfalso
    rcases hk with z | z
    ·rw [z] at k;cases k
    ·rw [z] at k;cases k
   ·obtain ⟨d,hd⟩:=hclh x hmem
    have hd':=hclk x d hd
    rw [hc1] at hd'
    cases hd'
    refine .inr ⟨jB hfree,c,hd,?_⟩
    obtain ⟨o,ho,hdat⟩:=hc2
    exact ⟨o,old c o ho,hdat⟩
  cell:=fun x c e=>by
   obtain ⟨v,o,ho,hdat⟩:=I₂.cell x c (hclk x c e)
   exact ⟨v,o,old c o ho,hdat⟩
  free:=freshC
  freeC:=fun x c e=>I₂.freeC x c (hclk x c e)
  pin:=fun p hp=>by
   have e:p = (D,{ cls:=.type "list",data:=.seq ([]:List Value).toArray }):=by simpa using hp
   subst e
   exact ⟨hacc,freshD,hDC,nofs D hDle,fun v z=>by cases z⟩
  hok:=I₂.hok.kept old
  len:=by rw [aJA,hN] }
 have loop:∀ tk,codeAny (model X.prog X.w) X.A (.compLoop (.ListComp elt [⟨tg,iter,ifs,0⟩] scope pos) 0 (.ref it) (.ref D) (compEnvC scope cl C X.env)) (RR (.ref D) C) { s₂ with heap:=h₁,toks:=tk }:=by
  intro tk
  refine wS (fun n s'=>∃ i ys H' its k,Inv (blk X scope N' R) [(D,{ cls:=.type "list",data:=.seq its.toArray k })] (oB nt cap σ) H' s' ∧ tn i s'.heap ∧ (∀ b ∈ fp,H' b = none) ∧ bC ys its ∧ ys.length ≤ An ∧ W i n ys H') ?_ m0
   ⟨0,[],H₂,[],0,entry tk,T.keep _ _ _ st fun b hb o e=>old b o e,fun b hb=>(hf b hb).1,.nil,BG _,w0⟩
  rintro n s3 ⟨i,ys,H3,its,k,I3,st3,fr3,rv,hz,w3⟩
  have pD:=I3.pin (D,{ cls:=.type "list",data:=.seq its.toArray k }) (by simp)
  rcases turn i n ys H3 w3 with ⟨stop,qn⟩ | ⟨go,hlt,step⟩
  ·-- the end
   refine BJ (T.done (blk X scope N' R) rfl rfl rfl hc i _ s3 _ H3 (fun _ _=>False) I3 (stat fr3) st3 stop) (fun r s4 ⟨hr,I4⟩=>?_) fun _ _ z=>z.elim
   subst hr
   have pD4:=I4.pin (D,{ cls:=.type "list",data:=.seq its.toArray k }) (by simp)
   have b4:Un (frs X.stack) fp H₂ H3 s₂.heap s4.heap:=I4.base
   have u4:Un (frs X.stack) fp H₂ (upd H3 D (.lst ys)) s₂.heap s4.heap:={
    keep:=b4.keep
    slot:=b4.slot
    free:=fun b o e n hx=>by
     rw [aK (below b (AX e)).2]
     exact b4.free b o e n hx
    there:=b4.there
    tups:=fun b xs e=>by
     have z:=b4.tups b xs e
     rw [aK (aT z pD4.2.1)]
     exact z
    frzs:=fun b o u e=>by
     have z:=b4.frzs b o u e
     rw [aK (aT z pD4.2.1)]
     exact z
    tbls:=fun b ps e=>by
     obtain ⟨more,z⟩:=b4.tbls b ps e
     exact ⟨more,by rw [aK (aT z pD4.2.1)];exact z⟩ }
   have hok4:HOk X.prog X.w (upd H3 D (.lst ys)) s4.heap:=fun b u e=>by
    by_cases hb:b = D
    ·subst hb
     rw [aD] at e
     cases e
     exact ⟨hz,its,k,rv,pD4.1⟩
    ·rw [aK hb] at e
     exact (I4.hok b u e).stay (fun c v _ q=>q) (fun c q=>by rw [aK (aT q pD4.2.1)];exact q) fun c xs q=>by rw [aK (aT q pD4.2.1)];exact q
   have I5:Inv X pins σ (upd H3 D (.lst ys)) s4:=I₂.call' I4.os u4 hok4 I4.bare fun b hb=>⟨(hf b hb).2.2.2.1,(hf b hb).2.1,(hf b hb).2.2.2.2.1,(hf b hb).2.2.2.2.2⟩
   refine hRR D C s4 H3 ys pD4.2.1 qn I5 ?_
   obtain ⟨m,hn,_⟩:=I4.loc
   exact ⟨⟨m,hn⟩,by rw [aK (Ne.symm hDC)];exact I4.free,fun z=>absurd I₂.lt (by rw [← z];exact Ef.mpr hCle),BB I₂.sz hCle,fun x c e=>Ad (Ah (celllt x c e) hCle),fun p hp=>Ad (Ah (pinlt p hp) hCle)⟩
  ·-- a turn
   refine BJ (T.item (blk X scope N' R) rfl rfl rfl hc i _ s3 _ H3 (fun _ _=>False) I3 (stat fr3) st3 go) (fun r s4 ⟨u,hr,h4⟩=>?_) fun _ _ z=>z.elim
   subst hr
   refine BJ h4 (fun _ s5 ⟨x,H5,I5,r5,y5,st5,fr5⟩=>?_) fun _ _ z=>z.elim
   have I5':=I5.pinned (stat fr5) (T.obj _ _ st5)
   refine BJ (hg R _ s5 _ H5 x u _ I5' r5 (hgk _ _ _ _ (step x H5 y5))) (fun _ s6 ⟨σ6,H6,I6,q6,l6,k6⟩=>?_) fun _ _ z=>z.elim
   refine BJ (ht R _ s6 σ6 H6 _ I6 q6) (fun ok s7 ⟨H7,I7,q7⟩=>?_) fun _ _ z=>z.elim
   have weak:∀ {H8:Hp} {s8:Shared} {ps:List (Addr × Obj)},Inv (blk X scope N' R) ps σ6 H8 s8 → Inv (blk X scope N' R) ps (oB nt cap σ) H8 s8:=fun I8=>I8.weak (by rw [l6]) fun j v e=>by
    obtain ⟨_,hj,_,_⟩:=zJ e
    rw [k6 j hj]
    exact e
   have tnK:∀ {H8:Hp} {s8:Shared} {σ8:St},Inv (blk X scope N' R) ([(D,{ cls:=.type "list",data:=.seq its.toArray k })] ++ nG fp s5.heap) σ8 H8 s8 → tn (i + 1) s8.heap ∧ ∀ b ∈ fp,H8 b = none:=fun {H8 s8 σ8} I8 =>
    ⟨T.keep _ _ _ st5 fun b hb o e=>(I8.pin (b,o) (Aj _ (Aj _ (mD hb e)))).1,fun b hb=>by
     obtain ⟨o,e,_⟩:=T.obj _ _ st5 b hb
     exact (I8.pin (b,o) (Aj _ (Aj _ (mD hb e)))).2.1⟩
   cases ok with
   | false =>
    rw [if_neg Ab] at q7 ⊢
    obtain ⟨m',hm,w7⟩:=q7
    exact ⟨m',hm,i + 1,ys,H7,its,k,weak I7.unpinned,(tnK I7).1,(tnK I7).2,rv,hz,w7⟩
   | true =>
    rw [if_pos rfl] at q7 ⊢
    refine BJ (he R _ s7 σ6 H7 _ I7 q7) (fun xv s8 ⟨y,H8,I8,ry,q8⟩=>?_) fun _ _ z=>z.elim
    obtain ⟨m',hm,w8⟩:=q8
    have pD8:=I8.pin (D,{ cls:=.type "list",data:=.seq its.toArray k }) (by simp)
    have hsz:its.toArray.size ≤ An:=by rw [AQ,← rv.length];omega
    refine wpAny_list_append_plain (hsz:=hsz) ⟨k,pD8.1⟩ fun h9 hl9 hs9=>?_
    obtain ⟨k9,hl9⟩:=hl9
    have tn8:=tnK I8
    have I8':Inv (blk X scope N' R) (nG fp s5.heap) (oB nt cap σ) H8 s8:=(weak I8).pins_of fun p hp=>I8.pin p (Aj _ (Aj _ hp))
    have I9:Inv (blk X scope N' R) (nG fp s5.heap) (oB nt cap σ) H8 { s8 with heap:=h9 }:=I8'.turned (it:=D) (t':=s8.toks) (fun b o hb e=>hs9.extBut b o hb e) pD8.2.1 pD8.2.2.1 (.inr hDle)
     (fun x c e=>Ad (Ah (celllt x c (hclk x c e)) hDle)) fun p hp=>by
      have hp':p ∈ nG fp s5.heap:=by simpa using hp
      exact Ad (Ah (fplt p.1 (yK hp').1) hDle)
    have e9:h9.get? D = some { cls:=.type "list",data:=.seq (its ++ [xv]).toArray k9 }:=by
     rw [hl9]
     simp
    refine ⟨m',hm,i + 1,ys ++ [y],H8,its ++ [xv],k9,I9.pins_of fun p hp=>?_,T.keep _ _ _ tn8.1 fun b hb o e=>hs9.extBut b o (Ad (Ah (fplt b hb) hDle)) e,tn8.2,rv.append (.cons ry .nil),by rw [Ag];exact hlt,w8⟩
    have e:p = (D,{ cls:=.type "list",data:=.seq (its ++ [xv]).toArray k9 }):=by simpa using hp
    subst e
    exact ⟨e9,pD8.2.1,pD8.2.2.1,pD8.2.2.2.1,fun v z=>by cases z⟩
 exact codeAny_compStart_list (loop _) (T.self _ 0 _ _ _ (T.keep _ _ _ st fun b hb o e=>old b o e) (loop _))
def aPG (nt:Nat) (cap:List Nat) (wi:TI) (g:TG) (tt:TT) (te:TE):TE:=fun σ H Q=>wi σ H fun J H1=>∃ W:CW,(∃ m,W 0 m [] H1) ∧ ∀ i m ys H,W i m ys H → uH (oB nt cap σ) J g tt te W (fun ys H'=>∀ p,H' p = none → Q (.ref p) (upd H' p (.lst ys))) i m ys H
theorem kI {α:Type} {l:List α} {p:α → Bool} (h:l.all p = true):∀ x ∈ l,p x = true:=fun x hx=>BS.mp h x hx
theorem cB {X:Cx} {elt iter tg:Expr} {ifs:List Expr} {scope:Scope} {pos:Pos} {wi:TI} {g:TG} {tt:TT} {te:TE} (N':List Str) (nt:Nat) (cap:List Nat)
  (hc:X.calm = true) (hi:PI X tg iter wi) (hg:∀ R,PG (blk X scope N' R) tg g) (hgk:aHF nt g) (ht:∀ R,aMY (blk X scope N' R) ifs tt) (he:∀ R,PE (blk X scope N' R) elt te)
  (hcell:(scope.names.all fun y=>!(y.2 == .cell)) = true:=by rfl) (hkind:scope.kind = .function:=by rfl)
  (hnames:(scope.names.all fun y=>!(y.2 == .local) || (scope.names.lookup y.1 == some .local)) = true:=by rfl)
  (hfr:(scope.names.all fun y=>!(y.2 == .free) || (X.env.kindOf y.1 == some .cell || X.env.kindOf y.1 == some .free)) = true:=by rfl)
  (hN:N'.length = nt + cap.length:=by rfl) (hcapN:(cap.map fun j=>X.N[j]?) = (N'.drop nt).map some:=by rfl) (hcapF:((N'.drop nt).all fun x=>scope.names.lookup x == some .free) = true:=by rfl)
  (hs:∀ x,Fh iter X.env x = pure x:=by intro _;rfl) :
  PE X (.ListComp elt [⟨tg,iter,ifs,0⟩] scope pos) (aPG nt cap wi g tt te):=by
 intro pins s σ H Q I h
 have hfr':∀ y ∈ scope.names,y.2 = .free → (X.env.kindOf y.1 = some .cell ∨ X.env.kindOf y.1 = some .free):=fun y hy e=>by
  have z:=kI hfr y hy
  rw [e] at z
  have z':(X.env.kindOf y.1 == some .cell || X.env.kindOf y.1 == some .free) = true:=z
  rcases Bool.or_eq_true_iff.mp z' with q | q
  ·exact .inl (beq_iff_eq.mp q)
  ·exact .inr (beq_iff_eq.mp q)
 have hcell':∀ y ∈ scope.names,y.2 ≠ .cell:=fun y hy e=>by
  have z:=kI hcell y hy
  rw [e] at z
  cases z
 obtain ⟨cl,hcl,hclk,hclh⟩:=wT (scope:=scope) (env:=X.env) fun y hy e=>I.ok.has y.1 (hfr' y hy e)
 have hnames':∀ y ∈ scope.names,y.2 = .local → scope.names.lookup y.1 = some .local:=fun y hy e=>by
  have z:=kI hnames y hy
  rw [e] at z
  exact beq_iff_eq.mp z
 have hcapN':∀ (k j:Nat),cap[k]? = some j → N'[nt + k]? = X.N[j]?:=fun k j e=>by
  have z:=congrArg (fun l:List (Option Str)=>l[k]?) hcapN
  simp only [AR,e,DN,FM] at z
  cases q:N'[nt + k]? with
  | none=>rw [q] at z;cases z
  | some x=>rw [q] at z;exact (BH z).symm
 rw [eval_ListComp]
 refine wpAny_comprehension_free (use:=none) rfl hs hcl hkind hnames' (thn (hi pins s σ H _ I h) fun v s1 h1=>thn h1 fun itv s2 h2=>?_)
 obtain ⟨it,fp,tn,J,H2,e,I2,T,st2,f2,hw⟩:=h2
 subst e
 refine wR (RR:=fun acc C=>compPost (model X.prog X.w) X.A X.xe none (EP X pins σ Q) acc C) hc I2 T st2 f2 hclk hclh hcell' hkind hfr' hN hcapN' (fun x hx=>beq_iff_eq.mp (kI hcapF x hx)) hg hgk ht he hw ?_
 intro D C s' H' ys hD q I' B
 obtain ⟨m,hn⟩:=B.ns
 refine ⟨m,hn,fun h' hs'=>⟨.ref D,_,I'.turned (it:=C) (t':=s'.toks) (fun b o hb e=>hs'.extBut b o hb e) B.fr B.ne (.inr B.ab) B.cl B.pn,rfl,q D hD⟩⟩
end L2
namespace L2
open PySem PySem.Spec PyProof.Rows
section
variable {X:Cx}
def aRB:V → Option Value
 | .ty n=>some (.type n)
 | .ref a=>some (.ref a)
 | _=>none
theorem aMR {y:V} {c u:Value} (h:aRB y = some c) (r:bG y u):u = c:=by
 cases y with
 | ty n=>cases h;exact r
 | ref a=>cases h;exact r
 | non=>cases h
 | bl b=>cases h
 | int i=>cases h
 | str x=>cases h
 | byt b=>cases h
 | flt b=>cases h
theorem aDR:fG X (.builtin "isinstance") (fun xs H Q=>∃ x y c t b,xs = [x,y] ∧ aRB y = some c ∧ TyOf X.K H x t ∧ CN X.K t c = some b ∧ Q (.bl b) H):=by
 intro pins s σ H xs us Q I r h
 obtain ⟨x,y,c,t,b,rfl,hc,ty,e,q⟩:=h
 obtain ⟨u,v,rfl,ru,rv⟩:=bC.two r
 obtain rfl:=aMR hc rv
 exact aIF I ru ty e fun tk=>⟨.bl b,H,I.tok tk,rfl,q⟩
theorem tG:∀ {bs:List Bool} {us:List Value},bC (bs.map V.bl) us → LSm.BoolsAre us bs
 | [],us,r=>by
  rw [Ci] at r
  cases r
  exact .nil
 | b :: bs,us,r=>by
  rw [Ac] at r
  cases r with
  | cons r1 r2 =>
   cases r1
   exact .cons b (tG r2)
theorem oA (hc:X.calm = true):fG X (.builtin "all") (fun xs H Q=>∃ (p:Addr) (bs:List Bool),xs = [.ref p] ∧ SqL X.K H p (bs.map V.bl) ∧ Q (.bl (bs.all id)) H):=by
 intro pins s σ H xs us Q I r h
 obtain ⟨p,bs,rfl,hq,q⟩:=h
 obtain ⟨u,rfl,ru⟩:=bC.one r
 cases ru
 obtain ⟨its,rv,pl,hz⟩:=I.list hq
 obtain ⟨m,F⟩:=I.fr
 have hb:=tG rv
 have hl:=pl.isList
 have hlt:p < s.heap.objs.size:=by obtain ⟨_,e,_⟩:=hl;exact AX e
 refine call_all_walk (DG hl ?_)
 refine ⟨s.heap.objs.size,[s.heap.objs.size,p],[s.heap.objs.size],its.toArray.size,_,_,fun i=>(bs[i]?).getD true,rfl,FG (A:=X.A.in1) (I.ok.hd hc) _ p (Ad hlt) its.toArray,
  ⟨⟨_,AN _ rfl,rfl,rfl⟩,hl.push _⟩,fun i v s' Q' E' hP hQ=>?_,fun h' tk hk=>?_⟩
 ·obtain ⟨b,e,rfl⟩:=hb.get i v (by simpa using hP)
  simp only [e,Option.getD_some] at hQ
  exact Bu hQ
 ·have e:((Az its.toArray.size).all fun i=>(bs[i]?).getD true) = bs.all id:=by
   rw [AQ,hb.length];exact LSm.range_all bs
  rw [e]
  exact ⟨.bl _,H,I.kept (LSm.kept_iter hk),rfl,q⟩
theorem aJY:SlR X (fun x lo hi H Q=>∃ z,x = .str z ∧ z.length ≤ An ∧ Q (.str (Cz z lo hi)) H):=by
 intro pins s σ H x v vl vu lo hi sl Q I rx hs pl pu h
 obtain ⟨z,rfl,hz,q⟩:=h
 obtain ⟨t,rfl⟩:=rx
 refine ⟨"str",_,F.slot_str_getitem.lookup,typeIs_str _ _ _,?_⟩
 have fin:∀ (t':Tok) (k:Nat),EP X pins σ Q (.str (Cz z lo hi) t') { s with toks:=k }:=fun t' k=>⟨.str _,H,I.tok k,⟨t',rfl⟩,q⟩
 cases pl with
 | none =>
  cases pu with
  | none=>exact Db (l:=none) (u:=none) (st:=none) hs rfl (FD ⟨BB (FU z _ _) hz,fun t' k=>fin t' k⟩)
  | int j uj=>exact Db (l:=none) (u:=some (j,uj)) (st:=none) hs rfl (FD ⟨BB (FU z _ _) hz,fun t' k=>fin t' k⟩)
 | int i ui =>
  cases pu with
  | none=>exact Db (l:=some (i,ui)) (u:=none) (st:=none) hs rfl (FD ⟨BB (FU z _ _) hz,fun t' k=>fin t' k⟩)
  | int j uj=>exact Db (l:=some (i,ui)) (u:=some (j,uj)) (st:=none) hs rfl (FD ⟨BB (FU z _ _) hz,fun t' k=>fin t' k⟩)
theorem bW:OpR X (EL .FloorDiv) (rI (fun _ j=>0 < j ∧ j.natAbs.log2 < 9000) fun i j=>.int (i / j)):=opI fun i j _ _ _ _ _ hc q=>by
 have h1:(0:Int) < j:=hc.1
 exact floordiv_int (by omega) (by rw [Int.fdiv_eq_ediv_of_nonneg i (by omega)];exact q) (.inl (PyProof.noPylong_of_log2 hc.2))
def Its (x:Str):It where
 go:=fun i _=>i < x.cps.size
 yld:=fun i H v H'=>H' = H ∧ ∃ c,x.cps[i]? = some c ∧ v = .str ⟨#[c]⟩
 stop:=fun i _=>i = x.cps.size
theorem aBU {P:Program} {w:World} {K:AG} {tg:Expr} (it:Addr) (x:Str) (t:Tok) (ty:String)
  (W:∀ A:Around,A.handled = none → Walks P w A it [it] [it] x.cps.size (SignAt x) (fun i h=>h.IsStrIter it ty x t i))
  (hn:["enumerate","zip","dict_itemiterator","dict_reverseitemiterator","odict_iterator","itertools.zip_longest","itertools.pairwise"].contains ty = false)
  (self:∀ (A:Around) (i:Nat) (s:Shared) (Q:Value → Shared → Prop) (E:Value → Shared → Prop),s.heap.IsStrIter it ty x t i → Q (.ref it) s → wpAny (model P w) A (pyIter (.ref it)) Q E s) :
  Turn P w K tg (Its x) [it] it (fun i h=>h.IsStrIter it ty x t i) where
 mem:=by simp
 obj:=fun i h st b hb=>by
  have e:b = it:=by simpa using hb
  subst e
  obtain ⟨o,e,c,d⟩:=st
  exact ⟨o,e,fun v z=>by rw [d] at z;cases z⟩
 keep:=fun i h h' st k=>let ⟨o,ho,r⟩:=st;⟨o,k it (by simp) o ho,r⟩
 item:=by
  intro X hP hw hK hc i pins s σ H E I hf st hg
  subst hP hw hK
  obtain ⟨f0,f1,f2,f3,f4,f5⟩:=hf it (by simp)
  refine (W X.A (I.ok.hd hc)).item i s _ _ hg st fun v h' tk hv st' kk=>?_
  obtain ⟨c,u,hx,rfl⟩:=hv
  have I1:Inv X pins σ H { s with heap:=h',toks:=tk }:=I.turned (fun b o hb e=>kk b o (by simpa using hb) e) f0 f1 f3 f4 f5
  obtain ⟨o,e,cc,d⟩:=id st'
  exact ⟨_,rfl,yX (s:={ s with heap:=h',toks:=tk }) e cc d hn ⟨.str ⟨#[c]⟩,H,I1,⟨u,rfl⟩,⟨rfl,c,hx,rfl⟩,st',fun b hb=>(hf b hb).1⟩⟩
 done:=by
  intro X hP hw hK hc i pins s σ H E I hf st hg
  subst hP hw hK
  obtain ⟨f0,f1,f2,f3,f4,f5⟩:=hf it (by simp)
  have hg':i = x.cps.size:=hg
  subst hg'
  exact (W X.A (I.ok.hd hc)).done s _ _ st fun h' tk kk=>⟨rfl,I.turned (fun b o hb e=>kk b o (by simpa using hb) e) f0 f1 f3 f4 f5⟩
 self:=self
def aTP (tl:TE):TI:=fun σ H R=>tl σ H fun x H1=>∃ z,x = .str z ∧ R (Its z) H1
theorem aQF {tg l:Expr} {tl:TE} (hl:PE X l tl):PI X tg l (aTP tl):=by
 intro pins s σ H R I h
 refine thn (hl pins s σ H _ I h) fun v s1 ⟨x,H1,I1,r1,q1⟩=>?_
 obtain ⟨z,e,q⟩:=q1
 subst e
 obtain ⟨t,rfl⟩:=r1
 have fp:∀ b ∈ [s1.heap.objs.size],aBM X pins H1 b:=fun b hb=>by
  have e:b = s1.heap.objs.size:=by simpa using hb
  subst e
  exact I1.fpOk (AL _) (I1.hok.fresh (AL _))
 cases ha:z.cps.all (· < 128)
 ·refine wpAny_pyIter_wide ha ?_
  exact ⟨s1.heap.objs.size,[s1.heap.objs.size],_,_,H1,rfl,I1.kept (t':=s1.toks) fun b o e=>AC _ e,aBU _ z t "str_iterator" (fun A hA=>Walks.strWide hA _ z t) (by decide) (fun A i s Q E st h=>wpAny_pyIter_striter_wide st h),
   ⟨_,AN _ rfl,rfl,rfl⟩,fp,q⟩
 ·refine wpAny_pyIter_ascii ha ?_
  exact ⟨s1.heap.objs.size,[s1.heap.objs.size],_,_,H1,rfl,I1.kept (t':=s1.toks) fun b o e=>AC _ e,aBU _ z t "str_ascii_iterator" (fun A hA=>Walks.strAscii hA _ z t) (by decide) (fun A i s Q E st h=>wpAny_pyIter_striter_ascii st h),
   ⟨_,AN _ rfl,rfl,rfl⟩,fp,q⟩
end
theorem aMQ {σb:St} {x:Str} {g:TG} {tt:TT} {te:TE} {fin:List V → Hp → Prop} {H:Hp} (hz:x.cps.size ≤ An) (Pv:Nat → List V → Hp → Prop) (h0:Pv 0 [] H) (hl:∀ i ys H,Pv i ys H → ys.length ≤ i)
  (hs:∀ i c ys H (K:VK) (K':Hp → Prop),x.cps[i]? = some c → Pv i ys H → (∀ y H4,Pv (i + 1) (ys ++ [y]) H4 → K y H4) → (∀ H3,Pv (i + 1) ys H3 → K' H3) →
   g (.str ⟨#[c]⟩) σb H fun σ2 H2=>tt σ2 H2 fun b H3=>if b = true then te σ2 H3 K else K' H3)
  (hd:∀ ys H,Pv x.cps.size ys H → fin ys H):∃ W:CW,(∃ m,W 0 m [] H) ∧ ∀ i m ys H,W i m ys H → uH σb (Its x) g tt te W fin i m ys H:=by
 refine ⟨fun i m ys H=>m = x.cps.size - i ∧ i ≤ x.cps.size ∧ Pv i ys H,⟨x.cps.size,by simp,BG _,h0⟩,?_⟩
 rintro i m ys H ⟨rfl,hi,p⟩
 by_cases hlt:i < x.cps.size
 ·refine .inr ⟨hlt,?_,fun v H' y=>?_⟩
  ·have:=hl i ys H p;omega
  ·obtain ⟨e,c,hx,rfl⟩:=y
   subst e
   exact hs i c ys _ _ _ hx p (fun y H4 q=>⟨x.cps.size - (i + 1),by omega,rfl,hlt,q⟩) fun H3 q=>⟨x.cps.size - (i + 1),by omega,rfl,hlt,q⟩
 ·have e:i = x.cps.size:=by omega
  subst e
  exact .inl ⟨rfl,hd ys H p⟩
theorem bI {F:AG} {a:Addr} {xs:List V} {σb:St} {g:TG} {tt:TT} {te:TE} {fin:List V → Hp → Prop} {H:Hp} (hz:xs.length ≤ An) (Pv:Nat → List V → Hp → Prop) (h0:Pv 0 [] H)
  (hl:∀ i ys H,i ≤ xs.length → Pv i ys H → SqL F H a xs ∧ ys.length ≤ i)
  (hs:∀ i x ys H (K:VK) (K':Hp → Prop),xs[i]? = some x → Pv i ys H → (∀ y H4,Pv (i + 1) (ys ++ [y]) H4 → K y H4) → (∀ H3,Pv (i + 1) ys H3 → K' H3) →
   g x σb H fun σ2 H2=>tt σ2 H2 fun b H3=>if b = true then te σ2 H3 K else K' H3)
  (hd:∀ ys H,Pv xs.length ys H → fin ys H):∃ W:CW,(∃ m,W 0 m [] H) ∧ ∀ i m ys H,W i m ys H → uH σb (Itl F a) g tt te W fin i m ys H:=by
 refine ⟨fun i m ys H=>m = xs.length - i ∧ i ≤ xs.length ∧ Pv i ys H,⟨xs.length,by simp,BG _,h0⟩,?_⟩
 rintro i m ys H ⟨rfl,hi,p⟩
 obtain ⟨q,ql⟩:=hl i ys H hi p
 by_cases hlt:i < xs.length
 ·refine .inr ⟨⟨xs,xs[i],q,by simp [hlt]⟩,by omega,fun x H' y=>?_⟩
  obtain ⟨e,y⟩:=y
  subst e
  exact hs i x ys _ _ _ (y xs q) p (fun y H4 q=>⟨xs.length - (i + 1),by omega,rfl,hlt,q⟩) fun H3 q=>⟨xs.length - (i + 1),by omega,rfl,hlt,q⟩
 ·have e:i = xs.length:=by omega
  subst e
  exact .inl ⟨⟨xs,q,AL _⟩,hd ys H p⟩
theorem wQ {lo:Int} {n:Nat} {σb:St} {g:TG} {tt:TT} {te:TE} {fin:List V → Hp → Prop} {H:Hp} (hz:n ≤ An) (Pv:Nat → List V → Hp → Prop) (h0:Pv 0 [] H) (hl:∀ i ys H,Pv i ys H → ys.length ≤ i)
  (hs:∀ i ys H (K:VK) (K':Hp → Prop),i < n → Pv i ys H → (∀ y H4,Pv (i + 1) (ys ++ [y]) H4 → K y H4) → (∀ H3,Pv (i + 1) ys H3 → K' H3) →
   g (.int (lo + i)) σb H fun σ2 H2=>tt σ2 H2 fun b H3=>if b = true then te σ2 H3 K else K' H3)
  (hd:∀ ys H,Pv n ys H → fin ys H):∃ W:CW,(∃ m,W 0 m [] H) ∧ ∀ i m ys H,W i m ys H → uH σb (Itr lo n) g tt te W fin i m ys H:=by
 refine ⟨fun i m ys H=>m = n - i ∧ i ≤ n ∧ Pv i ys H,⟨n,by simp,BG _,h0⟩,?_⟩
 rintro i m ys H ⟨rfl,hi,p⟩
 by_cases hlt:i < n
 ·refine .inr ⟨hlt,?_,fun v H' y=>?_⟩
  ·have:=hl i ys H p;omega
  ·obtain ⟨e,y⟩:=y
   subst e y
   exact hs i ys _ _ _ hlt p (fun y H4 q=>⟨n - (i + 1),by omega,rfl,hlt,q⟩) fun H3 q=>⟨n - (i + 1),by omega,rfl,hlt,q⟩
 ·have e:i = n:=by omega
  subst e
  exact .inl ⟨AL _,hd ys H p⟩
end L2
namespace L2
open PySem PySem.Spec PyProof.Rows
structure DefAt (K:AG) (mg:Str → Option Value) (x:Str) (st:Stmt) (ps:List Str):Prop where
 ex:∃ (f:Addr) (fd:Bz),Fun K x x st f fd ∧ kC K fd ps [] ∧ mg x = some (.ref f)
structure Fc (P:Program) (w:World) (K:AG) (mg:Str → Option Value) (base:Heap) (k:Nat) (x:Str) (ps:List Str) (sp:Sp):Prop where
 ex:∃ (f:Addr) (fd:Bz),FnOk P w K mg base CX0 k f fd ps sp ∧ kC K fd ps [] ∧ mg x = some (.ref f) ∧ AH K (.ref f) = true
section
variable {P:Program} {w:World} {K:AG} {mg:Str → Option Value} {base:Heap}
theorem DefAt.fc {x:Str} {st:Stmt} {N ps:List Str} {k:Nat} {sp:Sp} (D:DefAt K mg x st ps) (S:FnScope N ps (aB st)) (len:∀ vs H Q E,sp vs H Q E → vs.length = ps.length)
  (hbody:∀ (f:Addr) (cdv:Value) (A:Around) (outer:List Env) (s:Shared) (H:Hp) (vs:List V) (Q:VK) (E:XK),Room k (A.deeper (envOfC x (aB st) s.heap.objs.size f cdv)) → sp vs H Q E →
   ∃ t,PSs (mJ CX0 P w K mg base N x (aB st) f cdv A outer s H E).nox (aJ st) t ∧ t { nx:=fun _ H'=>Q .non H',rt:=Q } (start N vs) H):Fc P w K mg base (k + 1) x ps sp:=by
 obtain ⟨f,fd,F,b,m⟩:=D.ex
 exact ⟨f,fd,F.ok S len fun cdv A outer s H vs Q E hr h=>hbody f cdv A outer s H vs Q E hr h,b,m,F.kp⟩
theorem bB {h:Heap} {x:Str} {st:Stmt} {ps:List Str} {f:Addr} {oc:Value} {od an:Option Addr} {osl:Array (Option Value)} {kV doc pm cdv ct:Value} (X:K.In h) (G:h.Ns AJ mg)
  (a:AM K AJ x = some (some (.ref f))) (l:K.lookup f = some ⟨oc,od,.func (AO x x (aM st) (aJ st) (aB st) .none kV doc pm an cdv ct),osl⟩)
  (c:AK K cdv x = true) (k:AH K (.ref f) = true)
  (hb:∀ (kV doc pm:Value) (an:Option Addr) (cdv ct:Value) (us:List Value),us.length = ps.length → FO (AO x x (aM st) (aJ st) (aB st) .none kV doc pm an cdv ct) ⟨us,[]⟩ = pure (ps.zip us)):DefAt K mg x st ps :=
 ⟨f,_,rZ l c k,(rZ l c k).binds hb,PySem.W.mg_of X G a⟩
end
section
variable {X:Cx} {k:Nat} {ps:List Str} {sp:Sp} {x:Str} {p pos:Pos} {e:Expr} {es:List Expr} {t:TA}
theorem bF (F:Fc X.prog X.w X.K X.mg X.base k x ps sp) (hr:Room k X.A) (ha:PA X (e :: es) t) (hg:Gl X x:=by rfl) (hdb:(x == ("__debug__":Str)) = false:=by decide)
  (he:As (e :: es) X.env = (false,eval e X.env) :: As es X.env:=by rfl) (hpl:(backTo pos (As es X.env)).any (·.1) = false:=by rfl) :
  PE X (.Call (.Name x p) (e :: es) [] pos) (aPH sp [] E0 t):=by
 obtain ⟨f,fd,G,b,m,kp⟩:=F.ex
 exact aOB G hr hg m kp b .nil aGQ ha hdb he hpl
end
def sp1 (f:V → Hp → VK → Prop):Sp:=fun vs H Q _=>∃ x,vs = [x] ∧ f x H Q
def sp2 (f:V → V → Hp → VK → Prop):Sp:=fun vs H Q _=>∃ x y,vs = [x,y] ∧ f x y H Q
def sp3 (f:V → V → V → Hp → VK → Prop):Sp:=fun vs H Q _=>∃ x y z,vs = [x,y,z] ∧ f x y z H Q
theorem oV {f:V → Hp → VK → Prop}:∀ vs H Q E,sp1 f vs H Q E → vs.length = 1:=fun vs H Q E ⟨x,e,_⟩=>by rw [e];rfl
theorem kM {f:V → V → Hp → VK → Prop}:∀ vs H Q E,sp2 f vs H Q E → vs.length = 2:=fun vs H Q E ⟨x,y,e,_⟩=>by rw [e];rfl
theorem qP {f:V → V → V → Hp → VK → Prop}:∀ vs H Q E,sp3 f vs H Q E → vs.length = 3:=fun vs H Q E ⟨x,y,z,e,_⟩=>by rw [e];rfl
theorem cH:BN "isinstance" = some (.builtin "isinstance"):=by decide +kernel
theorem lM:BN "all" = some (.builtin "all"):=by decide +kernel
theorem bN:BN "len" = some (.builtin "len"):=by decide +kernel
theorem aIY:BN "max" = some (.builtin "max"):=by decide +kernel
theorem zI:BN "min" = some (.builtin "min"):=by decide +kernel
theorem zH:BN "str" = some (.type "str"):=by decide +kernel
theorem aIZ:BN "int" = some (.type "int"):=by decide +kernel
theorem aFQ:BN "bool" = some (.type "bool"):=by decide +kernel
theorem cM:BN "list" = some (.type "list"):=by decide +kernel
theorem fF:BN "tuple" = some (.type "tuple"):=by decide +kernel
theorem kA:BN "dict" = some (.type "dict"):=by decide +kernel
theorem sI:BN "set" = some (.type "set"):=by decide +kernel
inductive Pl (K:AG) (H:Hp):V → Prop where
 | non:Pl K H .non
 | bl (b:Bool):Pl K H (.bl b)
 | int (i:Int):Pl K H (.int i)
 | str (x:Str):Pl K H (.str x)
 | lst {a:Addr} {xs:List V} (e:H a = some (.lst xs)):Pl K H (.ref a)
 | frz {a:Addr} {o:Obj} {xs:List V} (e:H a = some (.frz o (.lst xs))):Pl K H (.ref a)
 | tup {a:Addr} {xs:List V} (e:H a = some (.tup xs)):Pl K H (.ref a)
 | dK {a:Addr} {kvs:List (Key × V)} (e:H a = some (.dK kvs)):Pl K H (.ref a)
theorem lC (K:AG) (n:String):CN K (.type n) (.type n) = some true:=by
 unfold CN
 rw [if_pos (by simp)]
end L2
namespace L2
open PySem PySem.Spec PyProof.Rows
def kO (mg:Str → Option Value) (x:Str) (v:V):Prop:=∃ u,mg x = some u ∧ bG v u
theorem tO {X:Cx} {x:Str} {v:V} {pos:Pos} (h:kO X.mg x v) (hg:Gl X x:=by rfl) (hd:(x == ("__debug__":Str)) = false:=by decide):PE X (.Name x pos) (tC v):=by
 obtain ⟨u,hm,r⟩:=h
 exact aOA hg hm r hd
theorem kG {K:AG} {mg:Str → Option Value} {h:Heap} {x:Str} {v:V} {u:Value} (X:K.In h) (G:h.Ns AJ mg) (a:AM K AJ x = some (some u)) (r:bG v u):kO mg x v:=⟨u,PySem.W.mg_of X G a,r⟩
end L2
namespace L2
open PySem PySem.Spec PyProof.Rows
def sC:HO → Bool
 | .lst _=>true
 | .dK _=>true
 | .set _ _=>true
 | .ext _=>true
 | .rng _ _=>true
 | _=>false
def hJ (H' H'':Hp):Prop:=∀ b,H'' b = H' b ∨ (H'' b = none ∧ ∃ o,H' b = some o ∧ sC o = true)
theorem hJ.refl (H:Hp):hJ H H:=fun _=>.inl rfl
theorem hJ.trans {H1 H2 H3:Hp} (a:hJ H1 H2) (b:hJ H2 H3):hJ H1 H3:=fun c=>by
 rcases b c with e | ⟨e,o,q,d⟩
 ·rcases a c with e' | ⟨e',o,q,d⟩
  ·exact .inl (e.trans e')
  ·exact .inr ⟨e.trans e',o,q,d⟩
 ·rcases a c with e' | ⟨e',_⟩
  ·exact .inr ⟨e,o,e' ▸ q,d⟩
  ·rw [e'] at q;cases q
theorem hJ.new {H:Hp} {p:Addr} {o:HO} (h:H p = none) (d:sC o = true):hJ (upd H p o) H:=fun b=>by
 by_cases hb:b = p
 ·subst hb
  exact .inr ⟨h,o,aD,d⟩
 ·exact .inl (aK hb).symm
theorem hJ.lst {H:Hp} {p:Addr} {xs:List V} (h:H p = none):hJ (upd H p (.lst xs)) H:=hJ.new h rfl
def cP (Q:VK):VK:=fun v H'=>∃ H'',hJ H' H'' ∧ Q v H''
theorem cP.of {Q:VK} {v:V} {H H':Hp} (d:hJ H' H) (q:Q v H):cP Q v H':=⟨H,d,q⟩
theorem HOk.drop {P:Program} {w:World} {H' H'':Hp} {h:Heap} (d:hJ H' H'') (ok:HOk P w H' h):HOk P w H'' h:=fun b o e=>by
 have e':H' b = some o:=by
  rcases d b with z | ⟨z,_⟩
  ·exact z.symm.trans e
  ·rw [z] at e;cases e
 refine (ok b o e').stay (fun _ _ _ q=>q) (fun c q=>?_) fun c xs q=>?_
 ·rcases d c with z | ⟨_,o',z',dr⟩
  ·exact z.trans q
  ·rw [q] at z';cases z';cases dr
 ·rcases d c with z | ⟨_,o',z',dr⟩
  ·exact z.trans q
  ·rw [q] at z';cases z';cases dr
theorem Un.drop {fs ex:List Addr} {H H' H'':Hp} {h h':Heap} (d:hJ H' H'') (u:Un fs ex H H' h h'):Un fs ex H H'' h h' where
 keep:=u.keep
 slot:=u.slot
 free:=fun b o e n hx=>by
  rcases d b with z | ⟨z,_⟩
  ·exact z.trans (u.free b o e n hx)
  ·exact z
 there:=u.there
 tups:=fun b xs e=>by
  have q:=u.tups b xs e
  rcases d b with z | ⟨_,o',z',dr⟩
  ·exact z.trans q
  ·rw [q] at z';cases z';cases dr
 frzs:=fun b o v e=>by
  have q:=u.frzs b o v e
  rcases d b with z | ⟨_,o',z',dr⟩
  ·exact z.trans q
  ·rw [q] at z';cases z';cases dr
 tbls:=fun b ps e=>by
  obtain ⟨m,q⟩:=u.tbls b ps e
  rcases d b with z | ⟨_,o',z',dr⟩
  ·exact ⟨m,z.trans q⟩
  ·rw [q] at z';cases z';cases dr
theorem FnOk.drop {P:Program} {w:World} {K:AG} {mg:Str → Option Value} {base:Heap} {k:Nat} {f:Addr} {fd:Bz} {ps:List Str} {sp:Sp} (len:∀ vs H Q E,sp vs H Q E → vs.length = ps.length)
  (F:FnOk P w K mg base CX0 k f fd ps (fun vs H Qd E=>∃ Q,sp vs H Q E ∧ Qd = cP Q)):FnOk P w K mg base CX0 k f fd ps sp:=by
 refine ⟨len,fun A outer s H args us vs Q E hr he hb hv hs=>Ce (F.run A outer s H args us vs (cP Q) E hr he hb hv ⟨Q,hs,rfl⟩) fun r s' h=>?_⟩
 cases r with
 | error e=>exact h
 | ok fl =>
  cases fl with
  | ret u =>
   obtain ⟨v,H',os,bare,un,hok,rv,H'',d,q⟩:=h
   exact ⟨v,H'',os,bare,un.drop d,hok.drop d,rv,q⟩
  | next=>exact h
  | brk=>exact h
  | cont=>exact h
theorem DefAt.fcD {P:Program} {w:World} {K:AG} {mg:Str → Option Value} {base:Heap} {x:Str} {st:Stmt} {N ps:List Str} {k:Nat} {sp:Sp} (D:DefAt K mg x st ps) (S:FnScope N ps (aB st)) (len:∀ vs H Q E,sp vs H Q E → vs.length = ps.length)
  (hbody:∀ (f:Addr) (cdv:Value) (A:Around) (outer:List Env) (s:Shared) (H:Hp) (vs:List V) (Q:VK) (E:XK),Room k (A.deeper (envOfC x (aB st) s.heap.objs.size f cdv)) → sp vs H Q E →
   ∃ t,PSs (mJ CX0 P w K mg base N x (aB st) f cdv A outer s H E).nox (aJ st) t ∧ t { nx:=fun _ H'=>cP Q .non H',rt:=cP Q } (start N vs) H):Fc P w K mg base (k + 1) x ps sp:=by
 obtain ⟨f,fd,F,b,m⟩:=D.ex
 refine ⟨f,fd,FnOk.drop len (F.ok S (fun vs H Q E ⟨Q',h,_⟩=>len vs H Q' E h) fun cdv A outer s H vs Q E hr ⟨Q',h,e⟩=>?_),b,m,F.kp⟩
 subst e
 exact hbody f cdv A outer s H vs Q' E hr h
end L2
namespace L2
open PySem PySem.Spec PyProof.Rows
theorem aI.upd {H:Hp} {p:Addr} {o:HO} (h:H p = none):aI H (upd H p o):=fun b u e=>by
 rw [aK (aT e h)]
 exact e
end L2
namespace L2
open PySem PySem.Spec PyProof.Rows
theorem sS {X:Cx} {x:Str} {n:String} {pos:Pos} (hm:X.mg x = none) (hv:BN x = some (.type n)) (hg:Gl X x:=by rfl) (hn:x ≠ "__name__":=by decide) (hd:(x == ("__debug__":Str)) = false:=by decide):PE X (.Name x pos) (tC (.ty n)) :=
 aOC hg hm hv rfl hn hd
end L2
namespace L2
theorem aY {n:Nat} (h:Nat.ble n 1000 = true):n ≤ PySem.sizeLine:=BB (Nat.le_of_ble_eq_true h) (by decide)
end L2
namespace L2
open PySem PySem.Spec PyProof.Rows
def Ite (K:AG) (a:Addr):It where
 go:=fun i H=>∃ xs x,SqL K H a xs ∧ xs[i]? = some x
 yld:=fun i H v H'=>∃ p x,H p = none ∧ v = .ref p ∧ H' = upd H p (.tup [.int i,x]) ∧ ∀ ys,SqL K H a ys → ys[i]? = some x
 stop:=fun i H=>∃ xs,SqL K H a xs ∧ xs.length ≤ i
end L2
namespace L2
open PySem PySem.Spec PyProof.Rows
inductive Dv where
 | non | bl (b:Bool) | int (i:Int) | str (x:Str) | lst (ds:List Dv) | tup (ds:List Dv) | dct (ks:List Key) (ds:List Dv)
mutual
def Is (H:Hp):Dv → V → Prop
 | .non,v=>v = .non
 | .bl b,v=>v = .bl b
 | .int i,v=>v = .int i
 | .str x,v=>v = .str x
 | .lst ds,v=>∃ a vs,v = .ref a ∧ H a = some (.lst vs) ∧ IsL H ds vs
 | .tup ds,v=>∃ a vs,v = .ref a ∧ H a = some (.tup vs) ∧ IsL H ds vs
 | .dct ks ds,v=>∃ a vs,v = .ref a ∧ H a = some (.dK (ks.zip vs)) ∧ vs.length = ks.length ∧ IsL H ds vs
def IsL (H:Hp):List Dv → List V → Prop
 | [],vs=>vs = []
 | d :: ds,vs=>∃ v r,vs = v :: r ∧ Is H d v ∧ IsL H ds r
end
def aQV:HO → Bool
 | .lst _=>true
 | .tup _=>true
 | .dK _=>true
 | _=>false
def wZ (H H':Hp):Prop:=∀ b o,H b = some o → aQV o = true → H' b = some o
mutual
theorem Is.sameD {H H':Hp} (S:wZ H H'):∀ (d:Dv) (v:V),Is H d v → Is H' d v
 | .non,_,h=>h
 | .bl _,_,h=>h
 | .int _,_,h=>h
 | .str _,_,h=>h
 | .lst ds,_,⟨a,vs,e,o,h⟩=>⟨a,vs,e,S _ _ o rfl,IsL.sameD S ds vs h⟩
 | .tup ds,_,⟨a,vs,e,o,h⟩=>⟨a,vs,e,S _ _ o rfl,IsL.sameD S ds vs h⟩
 | .dct ks ds,_,⟨a,vs,e,o,l,h⟩=>⟨a,vs,e,S _ _ o rfl,l,IsL.sameD S ds vs h⟩
theorem IsL.sameD {H H':Hp} (S:wZ H H'):∀ (ds:List Dv) (vs:List V),IsL H ds vs → IsL H' ds vs
 | [],_,h=>h
 | d :: ds,_,⟨v,r,e,h,t⟩=>⟨v,r,e,Is.sameD S d v h,IsL.sameD S ds r t⟩
end
theorem Is.same {H H':Hp} (S:aI H H') (d:Dv) (v:V) (h:Is H d v):Is H' d v:=Is.sameD (fun b o e _=>S b o e) d v h
theorem IsL.same {H H':Hp} (S:aI H H') (ds:List Dv) (vs:List V) (h:IsL H ds vs):IsL H' ds vs:=IsL.sameD (fun b o e _=>S b o e) ds vs h
mutual
def aBD:Dv → Bool
 | .lst _=>false
 | .dct _ _=>false
 | .tup ds=>yW ds
 | _=>true
def yW:List Dv → Bool
 | []=>true
 | d :: ds=>aBD d && yW ds
end
def iW (H H':Hp):Prop:=∀ a xs,H a = some (.tup xs) → H' a = some (.tup xs)
mutual
theorem Is.keep {H H':Hp} (S:iW H H'):∀ (d:Dv) (v:V),aBD d = true → Is H d v → Is H' d v
 | .non,_,_,h=>h
 | .bl _,_,_,h=>h
 | .int _,_,_,h=>h
 | .str _,_,_,h=>h
 | .lst ds,_,f,_=>by cases f
 | .tup ds,_,f,⟨a,vs,e,o,h⟩=>⟨a,vs,e,S _ _ o,IsL.keep S ds vs f h⟩
 | .dct ks ds,_,f,_=>by cases f
theorem IsL.keep {H H':Hp} (S:iW H H'):∀ (ds:List Dv) (vs:List V),yW ds = true → IsL H ds vs → IsL H' ds vs
 | [],_,_,h=>h
 | d :: ds,_,f,⟨v,r,e,h,t⟩=>⟨v,r,e,Is.keep S d v (BF.mp f).1 h,IsL.keep S ds r (BF.mp f).2 t⟩
end
mutual
def deq:Dv → Dv → Bool
 | .non,.non=>true
 | .bl a,.bl b=>a == b
 | .bl a,.int b=>(if a then 1 else 0) == b
 | .int a,.bl b=>a == (if b then 1 else 0)
 | .int a,.int b=>a == b
 | .str a,.str b=>a == b
 | .lst a,.lst b=>qV a b
 | .tup a,.tup b=>qV a b
 | _,_=>false
def qV:List Dv → List Dv → Bool
 | [],[]=>true
 | a :: r,b :: q=>deq a b && qV r q
 | _,_=>false
end
mutual
def bA:Nat → Dv → Bool
 | _,.dct _ _=>false
 | 0,.lst _=>false
 | 0,.tup _=>false
 | n + 1,.lst ds=>cK n ds
 | n + 1,.tup ds=>cK n ds
 | _,_=>true
def cK:Nat → List Dv → Bool
 | _,[]=>true
 | n,d :: ds=>bA n d && cK n ds
end
mutual
theorem aDK:∀ (n:Nat) (d:Dv),bA n d = true → deq d d = true
 | _,.non,_=>rfl
 | _,.bl b,_=>beq_self_eq_true b
 | _,.int i,_=>beq_self_eq_true i
 | _,.str x,_=>beq_self_eq_true x
 | 0,.lst ds,f=>by simp [bA] at f
 | 0,.tup ds,f=>by simp [bA] at f
 | n + 1,.lst ds,f=>sD n ds (by simpa [bA] using f)
 | n + 1,.tup ds,f=>sD n ds (by simpa [bA] using f)
 | n,.dct ks ds,f=>by simp [bA] at f
theorem sD:∀ (n:Nat) (ds:List Dv),cK n ds = true → qV ds ds = true
 | _,[],_=>rfl
 | n,d :: ds,f=>by
  rw [cK,Ae] at f
  show (deq d d && qV ds ds) = true
  rw [aDK n d f.1,sD n ds f.2];rfl
end
theorem IsL.length {H:Hp}:∀ {ds:List Dv} {vs:List V},IsL H ds vs → vs.length = ds.length
 | [],_,h=>by rw [show _ = [] from h];rfl
 | d :: ds,_,⟨v,r,e,_,t⟩=>by rw [e,Am,Am,IsL.length t]
mutual
theorem Is.inj {H:Hp}:∀ (d e:Dv) (v:V),Is H d v → Is H e v → (∃ n,bA n d = true) → (∃ n,bA n e = true) → d = e
 | .non,e,v,h,h',_,_=>by
  cases e <;> simp_all [Is]
 | .bl b,e,v,h,h',_,_=>by
  cases e <;> simp_all [Is]
 | .int b,e,v,h,h',_,_=>by
  cases e <;> simp_all [Is]
 | .str b,e,v,h,h',_,_=>by
  cases e <;> simp_all [Is]
 | .lst ds,e,v,⟨a,vs,q,o,h⟩,h',⟨n,f⟩,⟨m,g⟩=>by
  subst q
  cases e with
  | lst es =>
   obtain ⟨a',vs',q',o',h'⟩:=h'
   cases q'
   rw [o] at o'
   cases o'
   cases n with
   | zero=>simp [bA] at f
   | succ n =>
    cases m with
    | zero=>simp [bA] at g
    | succ m=>rw [IsL.inj ds es vs h h' ⟨n,by simpa [bA] using f⟩ ⟨m,by simpa [bA] using g⟩]
  | tup es =>
   obtain ⟨a',vs',q',o',h'⟩:=h'
   cases q'
   rw [o] at o'
   cases o'
  | dct ks es=>simp [bA] at g
  | _=>simp_all [Is]
 | .tup ds,e,v,⟨a,vs,q,o,h⟩,h',⟨n,f⟩,⟨m,g⟩=>by
  subst q
  cases e with
  | tup es =>
   obtain ⟨a',vs',q',o',h'⟩:=h'
   cases q'
   rw [o] at o'
   cases o'
   cases n with
   | zero=>simp [bA] at f
   | succ n =>
    cases m with
    | zero=>simp [bA] at g
    | succ m=>rw [IsL.inj ds es vs h h' ⟨n,by simpa [bA] using f⟩ ⟨m,by simpa [bA] using g⟩]
  | lst es =>
   obtain ⟨a',vs',q',o',h'⟩:=h'
   cases q'
   rw [o] at o'
   cases o'
  | dct ks es=>simp [bA] at g
  | _=>simp_all [Is]
 | .dct ks ds,e,v,_,h',⟨n,f⟩,_=>by simp [bA] at f
theorem IsL.inj {H:Hp}:∀ (ds es:List Dv) (vs:List V),IsL H ds vs → IsL H es vs → (∃ n,cK n ds = true) → (∃ n,cK n es = true) → ds = es
 | [],es,vs,h,h',_,_=>by
  rw [show vs = [] from h] at h'
  cases es with
  | nil=>rfl
  | cons e es=>obtain ⟨v,r,q,_⟩:=h';cases q
 | d :: ds,es,vs,⟨v,r,q,h,t⟩,h',⟨n,f⟩,⟨m,g⟩=>by
  subst q
  cases es with
  | nil=>cases (show v :: r = [] from h')
  | cons e es =>
   obtain ⟨v',r',q',h',t'⟩:=h'
   cases q'
   rw [cK,Ae] at f g
   rw [Is.inj d e v h h' ⟨n,f.1⟩ ⟨m,g.1⟩,IsL.inj ds es r t t' ⟨n,f.2⟩ ⟨m,g.2⟩]
end
theorem IsL.get {H:Hp}:∀ {ds:List Dv} {vs:List V} {i:Nat} {d:Dv},IsL H ds vs → ds[i]? = some d → ∃ v,vs[i]? = some v ∧ Is H d v
 | [],_,_,_,_,e=>by simp at e
 | d :: ds,_,0,d',⟨v,r,e,h,t⟩,q=>by
  simp at q
  subst q e
  exact ⟨v,rfl,h⟩
 | d :: ds,_,i + 1,d',⟨v,r,e,h,t⟩,q=>by
  subst e
  obtain ⟨u,h1,h2⟩:=IsL.get (i:=i) t (by simpa using q)
  exact ⟨u,by simpa using h1,h2⟩
theorem pU:∀ (ds es:List Dv),ds.length = es.length → (Az ds.length).all (fun j=>deq (ds.getD j .non) (es.getD j .non)) = qV ds es
 | [],[],_=>rfl
 | d :: ds,e :: es,h=>by
  have ih:=pU ds es (by simpa using h)
  rw [Am,List.range_succ_eq_map,EH,Eb]
  show (deq d e && (Az ds.length).all (fun j=>deq (ds.getD j .non) (es.getD j .non))) = (deq d e && qV ds es)
  rw [ih]
 | [],_ :: _,h=>by simp at h
 | _ :: _,[],h=>by simp at h
theorem wN:∀ (ds es:List Dv),ds.length ≠ es.length → qV ds es = false
 | [],[],h=>absurd rfl h
 | d :: ds,e :: es,h=>by
  show (deq d e && qV ds es) = false
  rw [wN ds es (fun q=>h (by simp [q]))]
  simp
 | [],_ :: _,_=>rfl
 | _ :: _,[],_=>rfl
theorem nV:∀ {n:Nat} {ds:List Dv} {i:Nat} {d:Dv},cK n ds = true → ds[i]? = some d → bA n d = true
 | n,[],_,_,_,e=>by simp at e
 | n,d :: ds,0,d',f,e=>by
  simp at e
  subst e
  rw [cK,Ae] at f
  exact f.1
 | n,d :: ds,i + 1,d',f,e=>by
  rw [cK,Ae] at f
  exact nV (i:=i) f.2 (by simpa using e)
theorem IsL.snoc {H:Hp} {d:Dv} {v:V} (h:Is H d v):∀ {ds:List Dv} {vs:List V},IsL H ds vs → IsL H (ds ++ [d]) (vs ++ [v])
 | [],_,e=>by
  rw [show _ = [] from e]
  exact ⟨v,[],rfl,h,rfl⟩
 | d' :: ds,_,⟨v',r,e,h',t⟩=>by
  subst e
  exact ⟨v',r ++ [v],rfl,h',IsL.snoc h t⟩
theorem IsL.rev {H:Hp}:∀ {ds:List Dv} {vs:List V},IsL H ds vs → IsL H ds.reverse vs.reverse
 | [],_,e=>by rw [show _ = [] from e];exact rfl
 | d :: ds,_,⟨v,r,e,h,t⟩=>by
  subst e
  rw [List.reverse_cons,List.reverse_cons]
  exact IsL.snoc h (IsL.rev t)
theorem IsL.app {H:Hp} {es:List Dv} {us:List V} (h:IsL H es us):∀ {ds:List Dv} {vs:List V},IsL H ds vs → IsL H (ds ++ es) (vs ++ us)
 | [],_,e=>by rw [show _ = [] from e];exact h
 | d :: ds,_,⟨v,r,e,h',t⟩=>by
  subst e
  exact ⟨v,r ++ us,rfl,h',IsL.app h t⟩
theorem IsL.strs (H:Hp):∀ zs:List Str,IsL H (zs.map Dv.str) (zs.map V.str)
 | []=>rfl
 | z :: zs=>⟨.str z,zs.map V.str,rfl,rfl,IsL.strs H zs⟩
theorem fZ:∀ {ds:List Dv},(∀ d ∈ ds,aBD d = true) → yW ds = true
 | [],_=>rfl
 | d :: ds,h=>by
  rw [yW,h d AY,fZ fun e m=>h e (AV _ m)]
  rfl
theorem iW.lst {H:Hp} {l:Addr} {xs:List V} {o:HO} (h:H l = some (.lst xs)):iW H (upd H l o):=fun a ys e=>by
 have:a ≠ l:=yM e h (by intro z;cases z)
 rw [aK this]
 exact e
theorem aI.over {H H':Hp} {l:Addr} {o:HO} (S:aI H H') (hl:H l = none):aI H (L2.upd H' l o):=fun b u e=>by
 rw [aK (aT e hl)]
 exact S b u e
theorem wJ {n:Nat}:∀ {ds:List Dv},(∀ d ∈ ds,bA n d = true) → cK n ds = true
 | [],_=>by rw [cK]
 | d :: ds,h=>by
  rw [cK,h d AY,wJ fun e m=>h e (AV _ m)]
  rfl
inductive View (s:Shared) (H:Hp):Dv → Value → Prop where
 | non:View s H .non .none
 | bl (b:Bool):View s H (.bl b) (.bool b)
 | int (i:Int) (t:Tok):View s H (.int i) (.int i t)
 | str (x:Str) (t:Tok):View s H (.str x) (.str x t)
 | lst {ds:List Dv} {l:Addr} {its:List Value} {vs:List V} (hl:s.heap.IsList l its.toArray) (r:bC vs its) (h:IsL H ds vs):View s H (.lst ds) (.ref l)
 | tup {ds:List Dv} {l:Addr} {its:List Value} {vs:List V} (hl:s.heap.IsTuple l its.toArray) (r:bC vs its) (h:IsL H ds vs):View s H (.tup ds) (.ref l)
section
variable {X:Cx} {pins:List (Addr × Obj)} {σ:St} {H:Hp} {s:Shared}
theorem Is.view (I:Inv X pins σ H s) {n:Nat} {d:Dv} {v:V} {u:Value} (f:bA n d = true) (h:Is H d v) (r:bG v u):View s H d u:=by
 cases d with
 | non=>cases (show v = .non from h);cases r;exact .non
 | bl b=>cases (show v = .bl b from h);cases r;exact .bl b
 | int b=>cases (show v = .int b from h);obtain ⟨t,rfl⟩:=r;exact .int b t
 | str b=>cases (show v = .str b from h);obtain ⟨t,rfl⟩:=r;exact .str b t
 | lst ds =>
  obtain ⟨a,vs,rfl,o,h⟩:=h
  cases r
  obtain ⟨its,rv,pl,hz⟩:=I.list (SqL.of o)
  exact .lst pl.isList rv h
 | tup ds =>
  obtain ⟨a,vs,rfl,o,h⟩:=h
  cases r
  obtain ⟨its,rv,pl,hz⟩:=I.tuple (SqT.of o)
  exact .tup pl rv h
 | dct ks ds=>simp [bA] at f
open PySem.SeqAt in
theorem mE {n:Nat} {A:Around} (hu:A.units + n < cLine)
  (ih:∀ (d e:Dv) (v v':V) (u u':Value) (A:Around),A.units + n < cLine → bA n d = true → bA n e = true → Is H d v → Is H e v' → bG v u → bG v' u' → EqAt A s u u' (deq d e))
  {ds es:List Dv} {vs vs':List V} {its its':List Value} (f:cK n ds = true) (g:cK n es = true) (h:IsL H ds vs) (h':IsL H es vs') (r:bC vs its) (r':bC vs' its')
  (j:Nat) (h1:j < its.toArray.size) (h2:j < its'.toArray.size):EqAt A s its.toArray[j] its'.toArray[j] (deq (ds.getD j .non) (es.getD j .non)):=by
 have l1:=r.length
 have l2:=r'.length
 have l3:=h.length
 have l4:=h'.length
 rw [AQ] at h1 h2
 have e1:ds[j]? = some (ds.getD j .non):=by
  rw [Aa,AD (by omega)];rfl
 have e2:es[j]? = some (es.getD j .non):=by
  rw [Aa,AD (by omega)];rfl
 obtain ⟨v,q1,i1⟩:=h.get e1
 obtain ⟨v',q2,i2⟩:=h'.get e2
 obtain ⟨u,p1,k1⟩:=r.get q1
 obtain ⟨u',p2,k2⟩:=r'.get q2
 have z1:its.toArray[j] = u:=by
  have:=AE.mp p1
  obtain ⟨_,e⟩:=this
  simpa using e
 have z2:its'.toArray[j] = u':=by
  have:=AE.mp p2
  obtain ⟨_,e⟩:=this
  simpa using e
 rw [z1,z2]
 exact ih _ _ v v' u u' A hu (nV f e1) (nV g e2) i1 i2 k1 k2
open PySem.SeqAt in
theorem aPL (I:Inv X pins σ H s) {n:Nat}
  (ih:∀ (d e:Dv) (v v':V) (u u':Value) (A:Around),A.units + n < cLine → bA n d = true → bA n e = true → Is H d v → Is H e v' → bG v u → bG v' u' → EqAt A s u u' (deq d e))
  (d e:Dv) (v v':V) (u u':Value) (A:Around) (hu:A.units + (n + 1) < cLine) (f:bA (n + 1) d = true) (g:bA (n + 1) e = true) (h:Is H d v) (h':Is H e v') (r:bG v u) (r':bG v' u') :
  RcAt A s u u' (deq d e) ∧ RcNeAt A s u u' (!deq d e):=by
 have hu0:A.units < cLine:=by omega
 have hu1:A.in1.units + n < cLine:=by show A.units + 1 + n < cLine;omega
 have w:=Is.view I f h r
 have w':=Is.view I g h' r'
 cases w with
 | non =>
  cases w' with
  | non=>exact ⟨RcAt.none_none,RcNeAt.none_none⟩
  | bl b=>exact ⟨RcAt.none_bool _,RcNeAt.none_bool _⟩
  | int b t=>exact ⟨RcAt.none_int _ _,RcNeAt.none_int _ _⟩
  | str b t=>exact ⟨RcAt.none_str _ _,RcNeAt.none_str _ _⟩
  | lst hl _ _=>exact ⟨RcAt.none_list hl hu0,RcNeAt.none_list hl hu0⟩
  | tup hl _ _=>exact ⟨RcAt.none_tuple hl hu0,RcNeAt.none_tuple hl hu0⟩
 | bl a =>
  cases w' with
  | non=>exact ⟨RcAt.bool_none _,RcNeAt.bool_none _⟩
  | bl b=>exact ⟨RcAt.bool_bool _ _,RcNeAt.bool_bool _ _⟩
  | int b t=>exact ⟨RcAt.bool_int _ _ _,RcNeAt.bool_int _ _ _⟩
  | str b t=>exact ⟨RcAt.bool_str _ _ _,RcNeAt.bool_str _ _ _⟩
  | lst hl _ _=>exact ⟨RcAt.bool_list _ hl hu0,RcNeAt.bool_list _ hl hu0⟩
  | tup hl _ _=>exact ⟨RcAt.bool_tuple _ hl hu0,RcNeAt.bool_tuple _ hl hu0⟩
 | int a t =>
  cases w' with
  | non=>exact ⟨RcAt.int_none _ _,RcNeAt.int_none _ _⟩
  | bl b=>exact ⟨RcAt.int_bool _ _ _,RcNeAt.int_bool _ _ _⟩
  | int b t=>exact ⟨RcAt.int_int _ _ _ _,RcNeAt.int_int _ _ _ _⟩
  | str b t=>exact ⟨RcAt.int_str _ _ _ _,RcNeAt.int_str _ _ _ _⟩
  | lst hl _ _=>exact ⟨RcAt.int_list _ _ hl hu0,RcNeAt.int_list _ _ hl hu0⟩
  | tup hl _ _=>exact ⟨RcAt.int_tuple _ _ hl hu0,RcNeAt.int_tuple _ _ hl hu0⟩
 | str a t =>
  cases w' with
  | non=>exact ⟨RcAt.str_none _ _,RcNeAt.str_none _ _⟩
  | bl b=>exact ⟨RcAt.str_bool _ _ _,RcNeAt.str_bool _ _ _⟩
  | int b t=>exact ⟨RcAt.str_int _ _ _ _,RcNeAt.str_int _ _ _ _⟩
  | str b t=>exact ⟨RcAt.str_str _ _ _ _,RcNeAt.str_str _ _ _ _⟩
  | lst hl _ _=>exact ⟨RcAt.str_list _ _ hl hu0,RcNeAt.str_list _ _ hl hu0⟩
  | tup hl _ _=>exact ⟨RcAt.str_tuple _ _ hl hu0,RcNeAt.str_tuple _ _ hl hu0⟩
 | @lst ds l its vs hl rv hi =>
  cases w' with
  | non=>exact ⟨RcAt.list_none hl hu0,RcNeAt.list_none hl hu0⟩
  | bl b=>exact ⟨RcAt.list_bool _ hl hu0,RcNeAt.list_bool _ hl hu0⟩
  | int b t=>exact ⟨RcAt.list_int _ _ hl hu0,RcNeAt.list_int _ _ hl hu0⟩
  | str b t=>exact ⟨RcAt.list_str _ _ hl hu0,RcNeAt.list_str _ _ hl hu0⟩
  | @lst es l' its' vs' hl' rv' hi' =>
   have f':cK n ds = true:=by simpa [bA] using f
   have g':cK n es = true:=by simpa [bA] using g
   have l1:=rv.length
   have l2:=rv'.length
   have l3:=hi.length
   have l4:=hi'.length
   by_cases hq:ds.length = es.length
   ·have hsz:its.toArray.size = its'.toArray.size:=by rw [AQ,AQ];omega
    have key:(Az its.toArray.size).all (fun j=>deq (ds.getD j .non) (es.getD j .non)) = deq (.lst ds) (.lst es):=by
     rw [AQ,show its.length = ds.length by omega]
     exact pU ds es hq
    rw [← key]
    exact ⟨RcAt.lists hl hl' hsz hu0 (mE hu1 ih f' g' hi hi' rv rv'),RcNeAt.lists hl hl' hsz hu0 (mE hu1 ih f' g' hi hi' rv rv')⟩
   ·have key:deq (.lst ds) (.lst es) = false:=wN ds es hq
    have hsz:(its.toArray.size != its'.toArray.size) = true:=by
     rw [AQ,AQ,bne_iff_ne];omega
    rw [key]
    exact ⟨RcAt.lists_lengths hl hl' hsz hu0,RcNeAt.lists_lengths hl hl' hsz hu0⟩
  | tup hl' _ _=>exact ⟨RcAt.list_tuple hl hl' hu0,RcNeAt.list_tuple hl hl' hu0⟩
 | @tup ds l its vs hl rv hi =>
  cases w' with
  | non=>exact ⟨RcAt.tuple_none hl hu0,RcNeAt.tuple_none hl hu0⟩
  | bl b=>exact ⟨RcAt.tuple_bool _ hl hu0,RcNeAt.tuple_bool _ hl hu0⟩
  | int b t=>exact ⟨RcAt.tuple_int _ _ hl hu0,RcNeAt.tuple_int _ _ hl hu0⟩
  | str b t=>exact ⟨RcAt.tuple_str _ _ hl hu0,RcNeAt.tuple_str _ _ hl hu0⟩
  | lst hl' _ _=>exact ⟨RcAt.tuple_list hl hl' hu0,RcNeAt.tuple_list hl hl' hu0⟩
  | @tup es l' its' vs' hl' rv' hi' =>
   have f':cK n ds = true:=by simpa [bA] using f
   have g':cK n es = true:=by simpa [bA] using g
   have l1:=rv.length
   have l2:=rv'.length
   have l3:=hi.length
   have l4:=hi'.length
   have key:((Az (min its.toArray.size its'.toArray.size)).all (fun j=>deq (ds.getD j .non) (es.getD j .non)) && its.toArray.size == its'.toArray.size) = deq (.tup ds) (.tup es):=by
    rw [AQ,AQ,show its.length = ds.length by omega,show its'.length = es.length by omega]
    show _ = qV ds es
    by_cases hq:ds.length = es.length
    ·rw [← hq,Nat.min_self,pU ds es hq]
     simp
    ·rw [wN ds es hq,beq_eq_false_iff_ne.mpr hq]
     simp
   rw [← key]
   exact ⟨RcAt.tuples hl hl' hu0 (mE hu1 ih f' g' hi hi' rv rv'),RcNeAt.tuples hl hl' hu0 (mE hu1 ih f' g' hi hi' rv rv')⟩
open PySem.SeqAt in
theorem Is.eqAt (I:Inv X pins σ H s):∀ (n:Nat) (d e:Dv) (v v':V) (u u':Value) (A:Around),A.units + n < cLine → bA n d = true → bA n e = true → Is H d v → Is H e v' → bG v u → bG v' u' → EqAt A s u u' (deq d e):=by
 intro n
 induction n with
 | zero =>
  intro d e v v' u u' A hu f g h h' r r'
  cases d with
  | lst _=>simp [bA] at f
  | tup _=>simp [bA] at f
  | dct _ _=>simp [bA] at f
  | non =>
   cases e with
   | lst _=>simp [bA] at g
   | tup _=>simp [bA] at g
   | dct _ _=>simp [bA] at g
   | _=>cases h;cases h';exact mH r r' rfl rfl
  | bl b =>
   cases e with
   | lst _=>simp [bA] at g
   | tup _=>simp [bA] at g
   | dct _ _=>simp [bA] at g
   | _=>cases h;cases h';exact mH r r' rfl rfl
  | int b =>
   cases e with
   | lst _=>simp [bA] at g
   | tup _=>simp [bA] at g
   | dct _ _=>simp [bA] at g
   | _=>cases h;cases h';exact mH r r' rfl rfl
  | str b =>
   cases e with
   | lst _=>simp [bA] at g
   | tup _=>simp [bA] at g
   | dct _ _=>simp [bA] at g
   | _=>cases h;cases h';exact mH r r' rfl rfl
 | succ n ih =>
  intro d e v v' u u' A hu f g h h' r r'
  have rc:=(aPL I ih d e v v' u u' A hu f g h h' r r').1
  have w:=Is.view I f h r
  have w':=Is.view I g h' r'
  have fin:∀ (l l':Addr),u = .ref l → u' = .ref l' → EqAt A s u u' (deq d e):=by
   rintro l l' rfl rfl
   by_cases hq:l = l'
   ·subst hq
    have e1:v = .ref l:=r.inj (show bG (.ref l) (.ref l) from rfl)
    have e2:v' = .ref l:=r'.inj (show bG (.ref l) (.ref l) from rfl)
    subst e1 e2
    have e3:=Is.inj d e _ h h' ⟨_,f⟩ ⟨_,g⟩
    subst e3
    rw [aDK _ d f]
    exact EqAt.same _
   ·exact EqAt.of_refs hq rc
  cases w with
  | lst hl _ _ =>
   cases w' with
   | lst hl' _ _=>exact fin _ _ rfl rfl
   | tup hl' _ _=>exact fin _ _ rfl rfl
   | non=>exact EqAt.list_none hl (by omega)
   | bl b=>exact EqAt.list_bool _ hl (by omega)
   | int b t=>exact EqAt.list_int _ _ hl (by omega)
   | str b t=>exact EqAt.list_str _ _ hl (by omega)
  | tup hl _ _ =>
   cases w' with
   | lst hl' _ _=>exact fin _ _ rfl rfl
   | tup hl' _ _=>exact fin _ _ rfl rfl
   | non=>exact EqAt.tuple_none hl (by omega)
   | bl b=>exact EqAt.tuple_bool _ hl (by omega)
   | int b t=>exact EqAt.tuple_int _ _ hl (by omega)
   | str b t=>exact EqAt.tuple_str _ _ hl (by omega)
  | non =>
   cases w' with
   | lst hl' _ _=>exact EqAt.none_list hl' (by omega)
   | tup hl' _ _=>exact EqAt.none_tuple hl' (by omega)
   | _=>cases h;cases h';exact mH r r' rfl rfl
  | bl b =>
   cases w' with
   | lst hl' _ _=>exact EqAt.bool_list _ hl' (by omega)
   | tup hl' _ _=>exact EqAt.bool_tuple _ hl' (by omega)
   | _=>cases h;cases h';exact mH r r' rfl rfl
  | int b t =>
   cases w' with
   | lst hl' _ _=>exact EqAt.int_list _ _ hl' (by omega)
   | tup hl' _ _=>exact EqAt.int_tuple _ _ hl' (by omega)
   | _=>cases h;cases h';exact mH r r' rfl rfl
  | str b t =>
   cases w' with
   | lst hl' _ _=>exact EqAt.str_list _ _ hl' (by omega)
   | tup hl' _ _=>exact EqAt.str_tuple _ _ hl' (by omega)
   | _=>cases h;cases h';exact mH r r' rfl rfl
end
def aTH (neg:Bool):R2:=fun x y H Q=>∃ d e,Is H d x ∧ Is H e y ∧ bA 30 d = true ∧ bA 30 e = true ∧ Q (.bl (if neg then !deq d e else deq d e)) H
theorem aQL {X:Cx} (hu:X.A.units + 64 < cLine):OpR X (Be .Eq) (aTH false):=by
 intro pins s σ H x y v u Q I rx ry h
 obtain ⟨d,e,h,h',f,g,q⟩:=h
 exact (aPL (n:=29) I (Is.eqAt I 29) d e x y v u X.A (by omega) f g h h' rx ry).1 _ _ _ _ ⟨.bl _,H,I,rfl,q⟩
end L2
namespace L2
open PySem PySem.Spec PyProof.Rows
instance keyMem (k:Key) (l:List Key):Decidable (k ∈ l):=decidable_of_iff (l.any (fun x=>decide (x = k)) = true) (by simp)
def dA (key:Nat → Key):Nat → List Key
 | 0=>[]
 | i + 1=>if key i ∈ dA key i then dA key i else dA key i ++ [key i]
theorem qN (key:Nat → Key):∀ i,(dA key i).length ≤ i
 | 0=>AL _
 | i + 1=>by
  have ih:=qN key i
  show (if key i ∈ dA key i then dA key i else dA key i ++ [key i]).length ≤ i + 1
  split
  ·omega
  ·rw [Ag,CL];omega
theorem vT (key:Nat → Key) (k:Key):∀ i,k ∈ dA key i ↔ ∃ j,j < i ∧ key j = k
 | 0=>by
  constructor
  ·intro h;cases h
  ·rintro ⟨j,h,_⟩;omega
 | i + 1=>by
  have ih:=vT key k i
  show k ∈ (if key i ∈ dA key i then dA key i else dA key i ++ [key i]) ↔ _
  have step:(k ∈ dA key i ∨ k = key i) ↔ ∃ j,j < i + 1 ∧ key j = k:=by
   rw [ih]
   constructor
   ·rintro (⟨j,h,e⟩ | e)
    ·exact ⟨j,by omega,e⟩
    ·exact ⟨i,by omega,e.symm⟩
   ·rintro ⟨j,h,e⟩
    by_cases hj:j = i
    ·subst hj;exact .inr e.symm
    ·exact .inl ⟨j,by omega,e⟩
  rw [← step]
  split
  ·rename_i h
   constructor
   ·exact .inl
   ·rintro (h' | rfl)
    ·exact h'
    ·exact h
  ·rw [Ak,AU]
theorem yN (key:Nat → Key):∀ n,(dA key n).length = n ↔ ∀ i j,i < j → j < n → key i ≠ key j
 | 0=>⟨fun _ i j _ h=>absurd h (Nat.not_lt_zero _),fun _=>rfl⟩
 | n + 1=>by
  have ih:=yN key n
  have le:=qN key n
  have mm:=vT key (key n) n
  show (if key n ∈ dA key n then dA key n else dA key n ++ [key n]).length = n + 1 ↔ _
  split
  ·rename_i h
   constructor
   ·intro e;omega
   ·intro e
    obtain ⟨j,hj,q⟩:=mm.mp h
    exact absurd q (e j n hj (Cr n))
  ·rename_i h
   rw [Ag,CL,Nat.add_right_cancel_iff,ih]
   constructor
   ·intro e i j hi hj
    by_cases q:j = n
    ·subst q
     exact fun z=>h (mm.mpr ⟨i,hi,z⟩)
    ·exact e i j hi (by omega)
   ·intro e i j hi hj
    exact e i j hi (by omega)
def lL (ks:List Key):List Key:=dA (fun i=>ks.getD i (.inl 0)) ks.length
theorem zB (ks:List Key):(lL ks).length = ks.length ↔ ks.Nodup:=by
 unfold lL
 rw [yN,DF,List.pairwise_iff_getElem]
 constructor
 ·intro h i j hi hj hij
  have:=h i j hij hj
  simpa [Aa,hi,hj] using this
 ·intro h i j hij hj
  have hi:i < ks.length:=by omega
  have:=h i j hi hj hij
  simpa [Aa,hi,hj] using this
theorem aBF (ks:List Key):(lL ks).length ≤ ks.length:=qN _ _
def aJB (P:Program) (w:World) (a:Addr) (S:Key → Bool) (n:Nat):HO:=.ext fun h=>h.SetOf (aN P w) a S n
theorem aJB.ok {P:Program} {w:World} {H:Hp} {h:Heap} {a:Addr} {S:Key → Bool} {n:Nat} (x:h.SetOf (aN P w) a S n):bL P w H h a (aJB P w a S n) :=
 ⟨x,let ⟨o,_,_,_,ho,_⟩:=x;⟨o,ho⟩,fun _ _ ⟨o,es,ep,t,ho,r⟩ k=>⟨o,es,ep,t,k o ho,r⟩⟩
theorem aDA {P:Program} {w:World} {k:Key} {v:Value} (h:(aN P w).is k v = true):v.scannable = true:=by
 rcases bZ h with ⟨i,t,rfl,rfl⟩ | ⟨x,t,rfl,rfl⟩ <;> rfl
section
variable {P:Program} {w:World} {A:Around} {R:Result → Shared → Prop} {I:Addr} {fp wr:List Addr} {G:Array Ep → Array Ep → Prop} {n:Nat} {Pv:Nat → Value → Prop} {Stt:Nat → Shared → Prop}
theorem aEM {h:Heap} {a:Addr} {S S':Key → Bool} {n n':Nat} (x:h.SetOf (aN P w) a S n) (e:∀ k,S k = S' k) (q:n = n'):h.SetOf (aN P w) a S' n':=by
 obtain rfl:S = S':=funext e
 subst q
 exact x
theorem aKC (W:WalksS P w A.in1 I fp wr G n Pv Stt) (D:Addr) (hD:D ∉ fp) (key:Nat → Key) (hv:∀ i v,Pv i v → (aN P w).is (key i) v = true) (hb:n + 1 < CK) (fin:∀ s s',Moved (D :: wr) G s s' → s'.heap.SetOf (aN P w) D (fun k=>decide (k ∈ dA key n)) (dA key n).length → True) :
  ∀ (m i:Nat) (s:Shared),n - i = m → i ≤ n → Stt i s → s.heap.SetOf (aN P w) D (fun k=>decide (k ∈ dA key i)) (dA key i).length →
   (∀ s',Moved (D :: wr) G s s' → s'.heap.SetOf (aN P w) D (fun k=>decide (k ∈ dA key n)) (dA key n).length → R (.ok (.ret .none)) s') →
   codeAny (model P w) A (.builtin "set.update.loop" ⟨[.ref D,.ref I],[]⟩) R s:=by
 have hDw:D ∉ wr:=fun z=>hD (W.sub _ z)
 have sub:∀ b ∈ wr,b ∈ D :: wr:=fun b z=>AV _ z
 have moved:∀ {s s':Shared} {S:Key → Bool} {c:Nat},Moved wr G s s' → s.heap.SetOf (aN P w) D S c → s'.heap.SetOf (aN P w) D S c:=fun mv ⟨o,es,ep,t,ho,r⟩=>⟨o,es,ep,t,mv.heap D _ hDw ho,r⟩
 intro m
 induction m with
 | zero =>
  intro i s e1 e2 st hS hR
  obtain rfl:i = n:=by omega
  refine Bk CM ?_
  rw [BT BV _]
  show wpAny _ A.in1 (pyNext (.ref I) >>= _) _ _ s
  refine AB (W.done s _ _ st fun s' mv=>?_)
  exact AF (hR s' (mv.mono sub) (moved mv hS))
 | succ m ih =>
  intro i s e1 e2 st hS hR
  have lt:i < n:=by omega
  refine Bk CM ?_
  rw [BT BV _]
  show wpAny _ A.in1 (pyNext (.ref I) >>= _) _ _ s
  refine AB (W.item i s _ _ lt st fun v s' pv st' mv=>?_)
  have hk:=hv i v pv
  have hS1:=moved mv hS
  show wpAny _ A.in1 (holding [v] (setAdd D v) >>= _) _ _ s'
  refine AB (By ?_)
  unfold setAdd
  refine By (AB ((aN P w).pyHash (k:=key i) hk ?_))
  have room:(dA key i).length + 1 < CK:=by have:=qN key i;omega
  refine wpAny_setAddHashed_of (knd:=aN P w) (s:={ s' with toks:=s'.toks + 1 }) hk (aDA hk) hS1 room fun h' sb hS2=>?_
  have hS3:h'.SetOf (aN P w) D (fun k=>decide (k ∈ dA key (i + 1))) (dA key (i + 1)).length:=by
   refine aEM hS2 (fun k=>?_) ?_
   ·show (decide (k ∈ dA key i) || decide (k = key i)) = decide (k ∈ if key i ∈ dA key i then dA key i else dA key i ++ [key i])
    by_cases z:key i ∈ dA key i
    ·rw [if_pos z]
     by_cases y:k = key i
     ·subst y;simp [z]
     ·simp [y]
    ·rw [if_neg z]
     simp
   ·show (if decide (key i ∈ dA key i) = true then (dA key i).length else (dA key i).length + 1) = (if key i ∈ dA key i then dA key i else dA key i ++ [key i]).length
    by_cases z:key i ∈ dA key i
    ·rw [if_pos z,if_pos (decide_eq_true z)]
    ·rw [if_neg z,if_neg (by simpa using z)]
     simp
  refine AF ⟨CJ BV _,ih (i + 1) _ (by omega) lt (W.frame _ s' _ _ st' (CS _) fun b hb o e=>?_) hS3 fun s2 mv2 hS4=>?_⟩
  ·rw [sb.2 b (fun z:b = D=>hD (by rw [← z];exact hb))]
   exact e
  ·refine hR s2 (Moved.trans W.gtrans ((mv.mono sub).then_heap (CS _) fun b o hb e=>?_) mv2) hS4
   rw [sb.2 b (fun z:b = D=>hb (by rw [z];exact AY))]
   exact e
end
section
variable {P:Program} {w:World} {A:Around} {E:Value → Shared → Prop} {s:Shared}
abbrev jX (led:Bool):Obj:={ cls:=.type "set",dict:=none,data:=.set #[] 0 (.fresh 0 0 led) }
set_option maxHeartbeats 8000000 in
theorem aCI {l:Addr} {its:List Value} {ks:List Key} {Q:Value → Shared → Prop} (hh:A.handled = none) (hl:s.heap.IsList l its.toArray) (hk:∀ i v,its[i]? = some v → (aN P w).is (ks.getD i (.inl 0)) v = true) (hn:its.length = ks.length) (hb:its.length + 1 < CK)
  (h:∀ (h':Heap) (tk:Nat),h'.SetOf (aN P w) s.heap.objs.size (fun k=>decide (k ∈ lL ks)) (lL ks).length → (∀ b o,s.heap.get? b = some o → h'.get? b = some o) → Q (.ref s.heap.objs.size) { s with heap:=h',toks:=tk }) :
  wpAny (model P w) A (call (.type "set") [.ref l]) Q E s:=by
 obtain ⟨c,tl,hmro⟩:=BE.mro
 have m1:=BE.made
 have m2:=BE.sub
 refine Fa (Fp ?_)
 show wpAny _ _ (callAny (.type "set") _) _ _ _
 refine AF ⟨Code.quiet_builtin _ (by decide +kernel),Bk PySem.F.entry_type_call ?_⟩
 rw [Around.under_plain (weight_type_call_type "set" [.ref l] []) rfl]
 have m3:=BE.notType
 have m4:=BE.canCreate
 have m5:=PySem.F.typeCall_set_1 (.ref l)
 repeat (any_goals (first | assumption | wp_step))
 refine Ce (code_set_new_1 (.ref l) (E:=E) (Q₁:=fun ob s1=>∃ led:Bool,ob = .ref s.heap.objs.size ∧ s1 = { s with heap:=s.heap.push (jX led) }) fun led=>⟨led,rfl,rfl⟩) fun r s1 hr=>?_
 cases r with
 | error e=>exact hr
 | ok fl =>
  cases fl with
  | ret ob =>
   obtain ⟨led,rfl,rfl⟩:=hr
   have hS:(s.heap.push (jX led)).get? s.heap.objs.size = some (jX led):=AN _ rfl
   have hT:Shared.TypeIs { s with heap:=s.heap.push (jX led) } (.ref s.heap.objs.size) "set":=⟨_,hS,rfl⟩
   have m6:=BE.init.lookup
   have m7:=BE.init.bind (.ref s.heap.objs.size)
   repeat (any_goals (first | assumption | wp_step))
   refine Ce (codeAny_call_builtin (R:=wants (fun r s2=>r = .none ∧ ∃ h' tk,s2 = { s with heap:=h',toks:=tk } ∧ h'.SetOf (aN P w) s.heap.objs.size (fun k=>decide (k ∈ lL ks)) (lL ks).length ∧ (∀ b o,s.heap.get? b = some o → h'.get? b = some o)) E)
    BE.init.plain PySem.F.entry_set_init (check_set_init_1 hT ?_)) fun r2 s2 hr2=>?_
   ·obtain ⟨⟨oc,od,oda,osl⟩,hol,hcl,nl,hdl⟩:=hl
    simp only at hcl hdl
    subst hcl hdl
    have hol1:(s.heap.push (jX led)).get? l = some { cls:=.type "list",dict:=od,data:=.seq its.toArray nl,slots:=osl }:=AC _ hol
    have m8:=PySem.F.sub_list_set
    have m9:=PySem.F.sub_list_frozenset
    have m10:(Bx "list" == Bx "dict") = false:=by decide
    have hl1:(s.heap.push (jX led)).IsList l its.toArray:=⟨_,hol1,rfl,nl,rfl⟩
    have lS:l < s.heap.objs.size:=AX hol
    unfold Builtin.«set.__init__» noKeywords Builtin.Frozenset.updateFrom
    generalize hPI:pyIter = PI
    wp_walk
    subst hPI
    refine DG hl1 (AB (Fq ?_))
    have hh3:A.in1.in1.in1.handled = none:=by simp [hh]
    have nI:l ≠ (s.heap.push (jX led)).objs.size:=by rw [CO];exact Ad (Ck lS)
    have nS:s.heap.objs.size ∉ [(s.heap.push (jX led)).objs.size,l]:=by
     rw [CO]
     simp only [Af,AU,Bc,or_false,not_or]
     exact ⟨Ad (Cr _),Du lS⟩
    have sz:its.toArray.size = ks.length:=by rw [AQ,hn]
    refine aKC ((FG hh3 _ l nI its.toArray).toS) s.heap.objs.size nS (fun i=>ks.getD i (.inl 0)) (fun i v pv=>hk i v (by simpa using pv)) (by rw [AQ];exact hb) (fun _ _ _ _=>trivial) (its.toArray.size - 0) 0 _ (by omega) (BG _)
     ⟨⟨_,AN _ rfl,rfl,rfl⟩,(hl1.push _)⟩ ?_ ?_
    ·have g:((s.heap.push (jX led)).push { cls:=.type "list_iterator",data:=.fields #[.ref l,.int 0 0] }).get? s.heap.objs.size = some (jX led):=AC _ hS
     exact ⟨_,#[],0,_,g,⟨rfl,rfl,rfl⟩,rfl,fun e he=>by simp at he,fun k=>by simp [dA],by decide,by rfl,rfl⟩
    ·intro s3 mv hS3
     obtain ⟨h3,g3,d3,t3,o3⟩:=s3
     have e1:g3 = s.gens:=mv.gens
     have e2:d3 = s.drawn:=mv.drawn
     have e3:o3 = s.os:=mv.os
     subst e1 e2 e3
     rw [sz] at hS3
     show wpAny _ _ _ _ _ _
     refine AF ?_
     show wpAny _ _ (ret BW) _ _ _
     refine AF ⟨rfl,h3,t3,rfl,hS3,fun b o e=>?_⟩
     have lb:=AX e
     have b1:b ≠ s.heap.objs.size:=Ad lb
     have b2:b ≠ (s.heap.push (jX led)).objs.size:=by rw [CO];exact Ad (Ck lb)
     exact mv.heap b o (by simp only [Af,AU,Bc,or_false,not_or];exact ⟨b1,b2⟩) (AC _ (AC _ e))
   ·cases r2 with
    | error e=>exact hr2
    | ok f2 =>
     cases f2 with
     | ret r =>
      obtain ⟨rfl,h',tk,rfl,hS2,hk2⟩:=hr2
      repeat (any_goals (first | assumption | wp_step))
      exact h _ _ hS2 hk2
     | _=>exact hr2.elim
  | _=>exact hr.elim
end
section
variable {X:Cx}
theorem aAY {P:Program} {w:World}:∀ {ks:List Key} {us:List Value},bC (ks.map kV) us → ∀ i v,us[i]? = some v → (aN P w).is (ks.getD i (.inl 0)) v = true
 | [],us,r,i,v,e=>by
  rw [Ci] at r
  cases r
  simp at e
 | k :: ks,us,r,i,v,e=>by
  rw [Ac] at r
  cases r with
  | cons r1 r2 =>
   cases i with
   | zero =>
    simp at e
    subst e
    cases k with
    | inl z=>obtain ⟨t,rfl⟩:=r1;exact rV z t
    | inr z=>obtain ⟨t,rfl⟩:=r1;exact rT z t
   | succ i =>
    have:=aAY (P:=P) (w:=w) r2 i v (by simpa using e)
    simpa using this
theorem pF (hc:X.calm = true):fG X (.type "set") (fun xs H Q=>∃ (p:Addr) (ks:List Key),xs = [.ref p] ∧ SqL X.K H p (ks.map kV) ∧ ks.length ≤ 1000 ∧
  ∀ l,H l = none → Q (.ref l) (upd H l (aJB X.prog X.w l (fun k=>decide (k ∈ lL ks)) (lL ks).length))):=by
 intro pins s σ H xs us Q I r h
 obtain ⟨p,ks,rfl,hq,hn,q⟩:=h
 obtain ⟨u,rfl,ru⟩:=bC.one r
 cases ru
 obtain ⟨its,rv,pl,hz⟩:=I.list hq
 have hlen:=rv.length
 rw [AA] at hlen
 refine aCI (ks:=ks) (I.ok.hd hc) pl.isList (aAY rv) hlen.symm (by unfold CK;omega) fun h' tk hS hk=>?_
 exact ⟨.ref s.heap.objs.size,_,I.laid (t':=tk) hk (AL _) (aJB.ok hS),rfl,q _ (I.hok.fresh (AL _))⟩
theorem call_len_set:fG X (.builtin "len") (fun xs H Q=>∃ l S n,xs = [.ref l] ∧ H l = some (aJB X.prog X.w l S n) ∧ n ≤ 1000 ∧ Q (.int n) H):=by
 intro pins s σ H xs us Q I r h
 obtain ⟨l,S,n,rfl,e,hn,q⟩:=h
 obtain ⟨u,rfl,ru⟩:=bC.one r
 cases ru
 obtain ⟨⟨o,es,ep,t,ho,hex,hd,hel,hmem,hb,hf,hes⟩,_⟩:=I.hok l _ e
 refine PySem.call_len_set ho hex hd hf (by rw [hes];omega) ⟨.int n,H,I.tok _,⟨s.toks + 1,by rw [hes]⟩,q⟩
end
end L2
namespace L2
open PySem PySem.Spec PyProof.Rows
section
variable {X:Cx}
theorem yT {k:Key} {v:Value} (h:tD k v = true):bG (kV k) v:=by
 rcases bZ h with ⟨i,t,rfl,rfl⟩ | ⟨x,t,rfl,rfl⟩
 ·exact ⟨t,rfl⟩
 ·exact ⟨t,rfl⟩
theorem tW:∀ {xs:List V} {us:List Value},us.length = xs.length → (∀ (j:Nat) (u:Value) (x:V),us[j]? = some u → xs[j]? = some x → bG x u) → bC xs us
 | [],[],_,_=>.nil
 | x :: xs,u :: us,hl,h=>.cons (h 0 u x rfl rfl) (tW (by simpa using hl) fun j v y e1 e2=>h (j + 1) v y (by simpa using e1) (by simpa using e2))
 | [],_ :: _,hl,_=>by simp at hl
 | _ :: _,[],hl,_=>by simp at hl
theorem KV.get:∀ {kvs:List (Key × V)} {vs:List (Key × Value)} {i:Nat} {p:Key × Value},KV kvs vs → vs[i]? = some p → ∃ q,kvs[i]? = some q ∧ q.1 = p.1 ∧ bG q.2 p.2
 | _,_,_,_,.nil,e=>by simp at e
 | _,_,0,_,.cons r _,e=>by simp at e;subst e;exact ⟨_,rfl,r.1,r.2⟩
 | _,_,i + 1,p,.cons _ t,e=>by
  obtain ⟨q,h1,h2⟩:=KV.get (i:=i) (p:=p) t (by simpa using e)
  exact ⟨q,by simpa using h1,h2⟩
theorem nZ (hc:X.calm = true):fG X (.type "list") (fun xs H Q=>∃ p kvs,xs = [.ref p] ∧ Rd H p (.dK kvs) ∧ ∀ l,H l = none → Q (.ref l) (upd H l (.lst (kvs.map fun kv=>kV kv.1)))):=by
 intro pins s σ H xs us Q I r h
 obtain ⟨p,kvs,rfl,hq,q⟩:=h
 obtain ⟨u,rfl,ru⟩:=bC.one r
 cases ru
 obtain ⟨hz,lo,vs,kv,hD⟩:=hq.ok I.hok
 obtain ⟨ep,hat⟩:=hD.dictAt
 have hl:=KV.length kv
 refine PySem.W.kdl_call (PySem.W.kdl_dict (knd:=aN X.prog X.w) (kvs:=vs) (ep:=ep) lo) (I.ok.hd hc) hat (by omega) fun h' tk acc c hk hg hi=>?_
 refine ⟨.ref s.heap.objs.size,_,I.laid (t':=tk) hk (AL _) (show bL X.prog X.w _ h' _ (.lst (kvs.map fun kv=>kV kv.1)) from ⟨by rw [AA];exact hz,acc.toList,c,?_,by simpa using hg⟩),rfl,q _ (I.hok.fresh (AL _))⟩
 refine tW (by rw [AA,BA,hi.1,hl]) fun j u x e1 e2=>?_
 obtain ⟨k,y,e3,e4⟩:=hi.2 j u (by rw [← Cd];exact e1)
 obtain ⟨z,e5,e6,_⟩:=KV.get kv e3
 rw [AR,e5] at e2
 have e2':kV z.1 = x:=by simpa using e2
 subst e2'
 rw [show z.1 = k from e6]
 exact yT e4
def aDW (v d:Addr):HO:=.ext fun h=>h.IsValuesView v d
theorem aDW.ok {P:Program} {w:World} {H:Hp} {h:Heap} {v d:Addr} (x:h.IsValuesView v d):bL P w H h v (aDW v d) :=
 ⟨x,let ⟨o,ho,_⟩:=x;⟨o,ho⟩,fun _ _ ⟨o,ho,r⟩ k=>⟨o,k o ho,r⟩⟩
theorem aIC:MtR X "dict.values" (fun x vs H Q=>∃ d kvs,x = .ref d ∧ vs = [] ∧ Rd H d (.dK kvs) ∧ ∀ v,H v = none → Q (.ref v) (upd H v (aDW v d))):=by
 intro pins s σ H x vs v us Q I rx rv h
 obtain ⟨d,kvs,rfl,rfl,hq,q⟩:=h
 cases rx
 have hus:=rv.zero
 subst hus
 obtain ⟨hz,lo,ws,kv,hD⟩:=hq.ok I.hok
 refine call_meetsIn PySem.F.slot_dict_values hD.typeIs PySem.F.entry_dict_values (PySem.F.args_dict_values_1 _) (meets_dict_values (aN X.prog X.w) d lo) ⟨⟨ws,hD⟩,?_⟩
 exact ⟨.ref s.heap.objs.size,_,I.laid (t':=s.toks) (fun b ob e=>AC _ e) (AL _) (aDW.ok ⟨_,AN _ rfl,rfl,rfl⟩),rfl,q _ (I.hok.fresh (AL _))⟩
theorem sH (hc:X.calm = true):fG X (.type "list") (fun xs H Q=>∃ v d kvs,xs = [.ref v] ∧ H v = some (aDW v d) ∧ Rd H d (.dK kvs) ∧ ∀ l,H l = none → Q (.ref l) (upd H l (.lst (kvs.map (·.2))))):=by
 intro pins s σ H xs us Q I r h
 obtain ⟨v,d,kvs,rfl,ev,hq,q⟩:=h
 obtain ⟨u,rfl,ru⟩:=bC.one r
 cases ru
 obtain ⟨hz,lo,vs,kv,hD⟩:=hq.ok I.hok
 obtain ⟨hv,_⟩:=I.hok v _ ev
 obtain ⟨ep,hat⟩:=hD.dictAt
 have hl:=KV.length kv
 refine PySem.W.kdl_call (PySem.W.kdl_values (knd:=aN X.prog X.w) (kvs:=vs) (ep:=ep)) (I.ok.hd hc) ⟨hv,hat⟩ (by omega) fun h' tk acc c hk hg hi=>?_
 refine ⟨.ref s.heap.objs.size,_,I.laid (t':=tk) hk (AL _) (show bL X.prog X.w _ h' _ (.lst (kvs.map (·.2))) from ⟨by rw [AA];exact hz,acc.toList,c,?_,by simpa using hg⟩),rfl,q _ (I.hok.fresh (AL _))⟩
 refine tW (by rw [AA,BA,hi.1,hl]) fun j u x e1 e2=>?_
 obtain ⟨k,e3⟩:=hi.2 j u (by rw [← Cd];exact e1)
 obtain ⟨z,e5,_,e6⟩:=KV.get kv e3
 rw [AR,e5] at e2
 have e2':z.2 = x:=by simpa using e2
 subst e2'
 exact e6
end
section
variable {X:Cx} {e se:Expr} {te ts:TE} {p2 pos:Pos}
end
end L2
namespace L2
open PySem PySem.Spec PyProof.Rows
theorem vV:typeLookup (.type "list") "keys" = pure none:=by rw [Fo,FF];kernel_rfl
section
variable {P:Program} {w:World} {A:Around} {E:Value → Shared → Prop} {s:Shared}
theorem aAS {a:Addr} {xs:Array Value} {k:Nat} {sl:Array (Option Value)} {Q:Option Value → Shared → Prop} (hA:A.handled = none) (hx:s.heap.get? a = some { cls:=.type "list",dict:=none,data:=.seq xs k,slots:=sl })
  (h:∀ h' tk,(∀ b o,s.heap.get? b = some o → h'.get? b = some o) → Q none { s with heap:=h',toks:=tk }):wpAny (model P w) A (getAttr? (.ref a) "keys") Q E s:=by
 obtain ⟨hp,g,d,tk,os⟩:=s
 have hT:∀ tk',(⟨hp,g,d,tk',os⟩:Shared).TypeIs (.ref a) "list":=fun _=>⟨_,hx,rfl⟩
 have f1:=sub_AttributeError
 have f3:=EY.lookup
 have f4:=EY.bind (.ref a)
 have f5:=am_list_getattr_none
 unfold getAttr? getAttrBy? getAttrBy
 repeat (any_goals (first | assumption | exact hT _ | ((with_reducible show wpAny _ _ (call (Value.builtin "list.__getattribute__") _ _) _ _ _);refine call_meets EY (hT _) am_entry_list_getattribute (F.args_list_getattribute_2 _ _) (meets_getattribute_miss_list a xs k sl "keys" _ vV (by decide +kernel)) ⟨hx,hA,fun h' tk' e hx'=>?_⟩) | wp_step))
 obtain ⟨t',u',he⟩:=hx'.there
 show wpAny _ _ (getattributeRaised _ _ _ _ _ _ _) _ _ _
 unfold getattributeRaised
 repeat (any_goals (first | assumption | wp_step))
 exact h _ _ hx'.keeps
end
theorem mQ:entryFor table "dict.update.loop" = some Builtin.«dict.update.loop»:=entryFor_of_tree (by kernel_rfl)
theorem gM:plainId "dict.update.loop" = true:=by decide +kernel
section
variable {P:Program} {w:World} {A:Around} {R:Result → Shared → Prop} {I:Addr} {fp wr:List Addr} {G:Array Ep → Array Ep → Prop} {n:Nat} {Pv:Nat → Value → Prop} {Stt:Nat → Shared → Prop}
theorem aIQ (W:WalksS P w A.in1 I fp wr G n Pv Stt) (D:Addr) (hD:D ∉ fp) (res:Value) (kvs:List (Key × Value)) (hn:kvs.length = n) (hz:n ≤ An) (s₀:Shared)
  (hv:∀ (i:Nat) (v:Value),Pv i v → ∃ (a:Addr) (k:Key) (kv x:Value) (ob:Obj) (c:Nat),v = .ref a ∧ a ∉ D :: wr ∧ s₀.heap.get? a = some ob ∧ ob.cls = .type "tuple" ∧ ob.data = .seq #[kv,x] c ∧ kvs[i]? = some (k,x) ∧ (aN P w).is k kv = true) :
  ∀ (m i:Nat) (s:Shared),n - i = m → i ≤ n → Stt i s → (∀ b o,b ∉ D :: wr → s₀.heap.get? b = some o → s.heap.get? b = some o) → s.heap.DictOf (aN P w) D (merged [] (kvs.take i)) →
   (∀ s',Moved (D :: wr) G s s' → s'.heap.DictOf (aN P w) D (merged [] kvs) → R (.ok (.ret res)) s') →
   codeAny (model P w) A (.builtin "dict.update.loop" ⟨[.ref D,.ref I,rawInt i,res],[]⟩) R s:=by
 have hDw:D ∉ wr:=fun z=>hD (W.sub _ z)
 have sub:∀ b ∈ wr,b ∈ D :: wr:=fun b z=>AV _ z
 have moved:∀ {s s':Shared} {l:List (Key × Value)},Moved wr G s s' → s.heap.DictOf (aN P w) D l → s'.heap.DictOf (aN P w) D l:=fun mv ⟨o,es,ep,ho,r⟩=>⟨o,es,ep,mv.heap D _ hDw ho,r⟩
 intro m
 induction m with
 | zero =>
  intro i s e1 e2 st kp hS hR
  obtain rfl:i = n:=by omega
  rw [AI (by omega)] at hS
  refine Bk mQ ?_
  rw [BT gM _]
  show wpAny _ A.in1 (pyNext (.ref I) >>= _) _ _ s
  refine AB (W.done s _ _ st fun s' mv=>?_)
  show wpAny _ A.in1 (Builtin.Dict.addKeywords D [] >>= _) _ _ s'
  refine AB (AF ?_)
  exact AF (hR s' (mv.mono sub) (moved mv hS))
 | succ m ih =>
  intro i s e1 e2 st kp hS hR
  have lt:i < n:=by omega
  refine Bk mQ ?_
  rw [BT gM _]
  show wpAny _ A.in1 (pyNext (.ref I) >>= _) _ _ s
  refine AB (W.item i s _ _ lt st fun v s' pv st' mv=>?_)
  obtain ⟨a,k,kv,x,ob,c,rfl,ha,hg,hc,hd,hi,hk⟩:=hv i v pv
  have hS1:=moved mv hS
  have hg1:s'.heap.get? a = some ob:=mv.heap a ob (fun z=>ha (sub a z)) (kp a ob ha hg)
  have hT:s'.TypeIs (.ref a) "tuple":=⟨ob,hg1,hc⟩
  refine AB (By (AB (wpAny_tryCatch ?_)))
  unfold Builtin.Dict.pairItems
  refine AB (Ew hT ?_)
  rw [if_pos (by decide)]
  refine AB (FN hg1 hd (AF ?_))
  show wpAny _ _ (holding [kv,x] (dictSet D kv x)) _ _ s'
  refine By (wpAny_dictSet_pairs hk hS1 (fun h' hS2 sb=>?_) ?_)
  ·have e:merged [] (kvs.take (i + 1)) = stored (merged [] (kvs.take i)) k x:=merged_take_succ [] kvs i (k,x) hi
   rw [← e] at hS2
   refine AF ⟨CJ gM _,ih (i + 1) _ (by omega) lt (W.frame _ s' _ _ st' (CS _) fun b hb o e=>?_) (fun b o hb e=>?_) hS2 fun s2 mv2 hS4=>?_⟩
   ·rw [sb.2 b (fun z:b = D=>hD (by rw [← z];exact hb))]
    exact e
   ·rw [sb.2 b (fun z:b = D=>hb (by rw [z];exact AY))]
    exact mv.heap b o (fun z=>hb (sub b z)) (kp b o hb e)
   ·refine hR s2 (Moved.trans W.gtrans ((mv.mono sub).then_heap (CS _) fun b o hb e=>?_) mv2) hS4
    rw [sb.2 b (fun z:b = D=>hb (by rw [z];exact AY))]
    exact e
  ·have:=merged_length_le ([]:List (Key × Value)) (kvs.take i)
   rw [AZ] at this
   simp only [Dj] at this
   omega
end
section
variable {P:Program} {w:World} {A:Around} {E:Value → Shared → Prop} {s:Shared}
theorem xP {l:Addr} {its:List Value} {kvs:List (Key × Value)} {Q:Value → Shared → Prop} (hh:A.handled = none) (hl:PlainL s.heap l its.toArray) (hn:its.length = kvs.length) (hz:its.length ≤ An)
  (hv:∀ (i:Nat) (v:Value),its[i]? = some v → ∃ (a:Addr) (k:Key) (kv x:Value) (ob:Obj) (c:Nat),v = .ref a ∧ s.heap.get? a = some ob ∧ ob.cls = .type "tuple" ∧ ob.data = .seq #[kv,x] c ∧ kvs[i]? = some (k,x) ∧ (aN P w).is k kv = true)
  (h:∀ (h':Heap) (tk:Nat),h'.DictOf (aN P w) s.heap.objs.size (merged [] kvs) → (∀ b o,s.heap.get? b = some o → h'.get? b = some o) → Q (.ref s.heap.objs.size) { s with heap:=h',toks:=tk }) :
  wpAny (model P w) A (call (.type "dict") [.ref l]) Q E s:=by
 refine callType_codes (Q₁:=fun (obj:Value) (s₁:Shared)=>obj = Ao s.heap.objs.size ∧ s₁ = { s with heap:=s.heap.push { cls:=.type "dict",data:=.dict #[] } }) F.kt_called_dict (F.kt_typeCall_dict_1 _) F.entry_dict_init (kt_code_dict_new _ ⟨rfl,rfl⟩) ?_
 rintro obj s₁ ⟨rfl,rfl⟩
 have hnew:(s.heap.push { cls:=.type "dict",data:=.dict #[] }).DictOf (aN P w) s.heap.objs.size []:=Heap.DictOf.new s.heap
 obtain ⟨⟨oc,od,oda,osl⟩,nl,hol,hcl,hod,hdl⟩:=id hl
 simp only at hcl hod hdl
 subst hcl hod hdl
 have lS:l < s.heap.objs.size:=AX hol
 have hol1:=AC (h:=s.heap) { cls:=.type "dict",data:=.dict #[] } hol
 refine ⟨hnew.typeIs,F.args_dict_init_2 _ _,?_⟩
 unfold Builtin.«dict.__init__»
 refine AB ?_
 unfold Builtin.Dict.selfAndRest
 refine AB (wpAny_notOrdered_dict hnew.typeIs ?_)
 show wpAny _ _ (pure (s.heap.objs.size,[Ao l])) _ _ _
 refine AF ?_
 show wpAny _ _ (Builtin.Dict.updateFrom "dict.__init__" s.heap.objs.size (.ref l) [] .none) _ _ _
 unfold Builtin.Dict.updateFrom
 refine AB (Ew (T:="list") ⟨_,hol1,rfl⟩ ?_)
 rw [if_pos (by decide)]
 refine AB (aAS (by simp [hh]) hol1 fun h1 t1 k1=>?_)
 show wpAny _ _ (rule _ >>= _) _ _ _
 refine AB (Dl ?_)
 have hol2:=k1 _ _ hol1
 have hl2:h1.IsList l its.toArray:=⟨_,hol2,rfl,nl,rfl⟩
 refine AB (DG (s:={ s with heap:=h1,toks:=t1 }) hl2 ?_)
 have sz1:s.heap.objs.size < h1.objs.size:=by
  obtain ⟨o,es,ep,ho,_⟩:=hnew
  exact AX (k1 _ _ ho)
 have nI:l ≠ h1.objs.size:=Ad (AX hol2)
 have nD:s.heap.objs.size ∉ [h1.objs.size,l]:=by
  simp only [Af,AU,Bc,or_false,not_or]
  exact ⟨Ad sz1,Du lS⟩
 refine AF ⟨CJ gM _,?_⟩
 have hh2:A.in1.in1.handled = none:=by simp [hh]
 refine aIQ ((FG hh2 _ l nI its.toArray).toS) s.heap.objs.size nD .none kvs (by rw [AQ,hn]) (by rw [AQ];exact hz) { s with heap:=h1.push { cls:=.type "list_iterator",data:=.fields #[.ref l,.int 0 0] },toks:=t1 } (fun i v pv=>?_) (its.toArray.size - 0) 0 _ (by omega) (BG _)
  ⟨⟨_,AN _ rfl,rfl,rfl⟩,(hl2.push _)⟩ (fun _ _ _ e=>e) ?_ ?_
 ·obtain ⟨a,k,kv,x,ob,c,rfl,hg,hc,hd,hi,hk⟩:=hv i v (by simpa using pv)
  have la:=AX hg
  refine ⟨a,k,kv,x,ob,c,rfl,?_,AC _ (k1 _ _ (AC _ hg)),hc,hd,hi,hk⟩
  simp only [Af,AU,Bc,or_false,not_or]
  exact ⟨Ad la,Ad (DJ la sz1)⟩
 ·obtain ⟨o,es,ep,ho,r⟩:=hnew
  exact ⟨o,es,ep,AC _ (k1 _ _ ho),r⟩
 ·intro s3 mv hS3
  obtain ⟨h3,g3,d3,t3,o3⟩:=s3
  have e1:g3 = s.gens:=mv.gens
  have e2:d3 = s.drawn:=mv.drawn
  have e3:o3 = s.os:=mv.os
  subst e1 e2 e3
  refine ⟨rfl,h h3 t3 hS3 fun b o e=>?_⟩
  have lb:=AX e
  refine mv.heap b o ?_ (AC _ (k1 _ _ (AC _ e)))
  simp only [Af,AU,Bc,or_false,not_or]
  exact ⟨Ad lb,Ad (DJ lb sz1)⟩
end
def bV (H:Hp) (ys:List V) (kvs:List (Key × V)):Prop:=Paired (fun (y:V) (kv:Key × V)=>∃ a,y = .ref a ∧ H a = some (.tup [kV kv.1,kv.2])) ys kvs
theorem bV.nil (H:Hp):bV H [] []:=EQ
theorem bV.len {H:Hp} {ys:List V} {kvs:List (Key × V)} (h:bV H ys kvs):ys.length = kvs.length:=Ez h
theorem bV.same {H H':Hp} (S:aI H H'):∀ {ys:List V} {kvs:List (Key × V)},bV H ys kvs → bV H' ys kvs
 | _,_,EQ=>EQ
 | _,_,El ⟨a,e,o⟩ t=>El ⟨a,e,S _ _ o⟩ (bV.same S t)
theorem bV.snoc {H:Hp} {ys:List V} {kvs:List (Key × V)} {p:Addr} {k:Key} {v:V} (h:bV H ys kvs) (hp:H p = none):bV (upd H p (.tup [kV k,v])) (ys ++ [.ref p]) (kvs ++ [(k,v)]) :=
 Paired.snoc (h.same (aI.upd hp)) ⟨p,rfl,aD⟩
section
variable {X:Cx}
theorem aNS {P:Program} {w:World} {k:Key} {u:Value} (r:bG (kV k) u):(aN P w).is k u = true:=by
 cases k with
 | inl z=>obtain ⟨t,rfl⟩:=r;exact rV z t
 | inr z=>obtain ⟨t,rfl⟩:=r;exact rT z t
theorem qG {pins:List (Addr × Obj)} {σ:St} {H:Hp} {s:Shared} (I:Inv X pins σ H s):∀ {ys:List V} {kvs:List (Key × V)} {its:List Value},bV H ys kvs → bC ys its →
  ∃ vk:List (Key × Value),KV kvs vk ∧ its.length = vk.length ∧ ∀ (i:Nat) (v:Value),its[i]? = some v → ∃ (a:Addr) (k:Key) (kv x:Value) (ob:Obj) (c:Nat),v = .ref a ∧ s.heap.get? a = some ob ∧ ob.cls = .type "tuple" ∧ ob.data = .seq #[kv,x] c ∧ vk[i]? = some (k,x) ∧ (aN X.prog X.w).is k kv = true
 | _,_,_,EQ,EQ=>⟨[],EQ,rfl,fun i v e=>by simp at e⟩
 | _,(k,v0) :: kvs,u :: its,El ⟨a,e,o⟩ t,El r rs=>by
  obtain ⟨vk,h1,h2,h3⟩:=qG I t rs
  subst e
  cases r
  obtain ⟨tis,rt,⟨ob,g,hc,c,hd⟩,_⟩:=I.tuple (SqT.of o)
  obtain ⟨ku,xu,rfl,rk,rx⟩:=bC.two rt
  refine ⟨(k,xu) :: vk,El ⟨rfl,rx⟩ h1,by simp [h2],fun i v e=>?_⟩
  cases i with
  | zero =>
   simp at e
   subst e
   exact ⟨a,k,ku,xu,ob,c,rfl,g,hc,hd,rfl,aNS rk⟩
  | succ i =>
   obtain ⟨a',k',kv',x',ob',c',q⟩:=h3 i v (by simpa using e)
   exact ⟨a',k',kv',x',ob',c',by simpa using q⟩
theorem eJ (hc:X.calm = true):fG X (.type "dict") (fun xs H Q=>∃ (p:Addr) (ys:List V) (kvs:List (Key × V)),xs = [.ref p] ∧ SqL X.K H p ys ∧ bV H ys kvs ∧ kvs.length ≤ 1000 ∧ (kvs.map (·.1)).Nodup ∧ ∀ l,H l = none → Q (.ref l) (upd H l (.dK kvs))):=by
 intro pins s σ H xs us Q I r h
 obtain ⟨p,ys,kvs,rfl,hq,hp,hn,nd,q⟩:=h
 obtain ⟨u,rfl,ru⟩:=bC.one r
 cases ru
 obtain ⟨its,rv,pl,hz⟩:=I.list hq
 obtain ⟨vk,kv,el,hv⟩:=qG I hp rv
 have big:(1000:Nat) ≤ An:=by decide
 have l1:=KV.length kv
 have ek:vk.map (·.1) = kvs.map (·.1):=(KV.keys kv).symm
 refine xP (kvs:=vk) (I.ok.hd hc) pl el (by omega) hv fun h' tk hD hk=>?_
 rw [merged_nil_of_nodup vk (by rw [ek];exact nd)] at hD
 refine ⟨.ref s.heap.objs.size,_,I.laid (t':=tk) hk (AL _) (show bL X.prog X.w _ h' _ (.dK kvs) from ⟨by omega,?_,vk,kv,hD⟩),rfl,q _ (I.hok.fresh (AL _))⟩
 have b:=I.big
 exact beq_eq_false_iff_ne.mpr (Du b)
end
end L2
namespace L2
open PySem PySem.Spec PyProof.Rows
structure MethAt (K:AG) (C:Addr) (m qual:Str) (st:Stmt) (ps:List Str):Prop where
 ex:∃ (f:Addr) (fd:Bz),Fun K m qual st f fd ∧ kC K fd ps [] ∧ Meth K C m f
structure InitAt (K:AG) (C:Addr) (qual:Str) (st:Stmt) (ps:List Str):Prop where
 ex:∃ (f:Addr) (fd:Bz),Fun K "__init__" qual st f fd ∧ kC K fd ps [] ∧ Mk K C f
structure Mc (P:Program) (w:World) (K:AG) (mg:Str → Option Value) (base:Heap) (k:Nat) (C:Addr) (m:Str) (ps:List Str) (sp:Sp):Prop where
 ex:∃ (f:Addr) (fd:Bz),FnOk P w K mg base CX0 k f fd ps sp ∧ kC K fd ps [] ∧ Meth K C m f
structure Ic (P:Program) (w:World) (K:AG) (mg:Str → Option Value) (base:Heap) (k:Nat) (C:Addr) (ps:List Str) (sp:Sp):Prop where
 ex:∃ (f:Addr) (fd:Bz),FnOk P w K mg base CX0 k f fd ps sp ∧ kC K fd ps [] ∧ Mk K C f
section
variable {P:Program} {w:World} {K:AG} {mg:Str → Option Value} {base:Heap} {C:Addr} {m qual:Str} {st:Stmt} {N ps:List Str} {k:Nat} {sp:Sp}
theorem MethAt.mc (D:MethAt K C m qual st ps) (S:FnScope N ps (aB st)) (len:∀ vs H Q E,sp vs H Q E → vs.length = ps.length)
  (hbody:∀ (f:Addr) (cdv:Value) (A:Around) (outer:List Env) (s:Shared) (H:Hp) (vs:List V) (Q:VK) (E:XK),Room k (A.deeper (envOfC qual (aB st) s.heap.objs.size f cdv)) → sp vs H Q E →
   ∃ t,PSs (mJ CX0 P w K mg base N qual (aB st) f cdv A outer s H E).nox (aJ st) t ∧ t { nx:=fun _ H'=>Q .non H',rt:=Q } (start N vs) H):Mc P w K mg base (k + 1) C m ps sp:=by
 obtain ⟨f,fd,F,b,mm⟩:=D.ex
 exact ⟨f,fd,F.ok S len fun cdv A outer s H vs Q E hr h=>hbody f cdv A outer s H vs Q E hr h,b,mm⟩
theorem InitAt.ic (D:InitAt K C qual st ps) (S:FnScope N ps (aB st)) (len:∀ vs H Q E,sp vs H Q E → vs.length = ps.length)
  (hbody:∀ (f:Addr) (cdv:Value) (A:Around) (outer:List Env) (s:Shared) (H:Hp) (vs:List V) (Q:VK) (E:XK),Room k (A.deeper (envOfC qual (aB st) s.heap.objs.size f cdv)) → sp vs H Q E →
   ∃ t,PSs (mJ CX0 P w K mg base N qual (aB st) f cdv A outer s H E).nox (aJ st) t ∧ t { nx:=fun _ H'=>Q .non H',rt:=Q } (start N vs) H):Ic P w K mg base (k + 1) C ps sp:=by
 obtain ⟨f,fd,F,b,mm⟩:=D.ex
 exact ⟨f,fd,F.ok S len fun cdv A outer s H vs Q E hr h=>hbody f cdv A outer s H vs Q E hr h,b,mm⟩
theorem Mc.imp {sp':Sp} (F:Mc P w K mg base k C m ps sp) (h:∀ vs H Q E,sp' vs H Q E → sp vs H Q E):Mc P w K mg base k C m ps sp':=by
 obtain ⟨f,fd,G,b,mm⟩:=F.ex
 exact ⟨f,fd,G.imp h,b,mm⟩
theorem jG {f:Addr} {oc:Value} {od an:Option Addr} {osl:Array (Option Value)} {kV doc pm cdv ct:Value} (a:Ap K (.ref C) m = some (some (.ref f))) (i:Bn K (.ref f) = true)
  (l:K.lookup f = some ⟨oc,od,.func (AO m qual (aM st) (aJ st) (aB st) .none kV doc pm an cdv ct),osl⟩) (c:AK K cdv qual = true) (kp:AH K (.ref f) = true)
  (hb:∀ (kV doc pm:Value) (an:Option Addr) (cdv ct:Value) (us:List Value),us.length = ps.length → FO (AO m qual (aM st) (aJ st) (aB st) .none kV doc pm an cdv ct) ⟨us,[]⟩ = pure (ps.zip us)):MethAt K C m qual st ps :=
 ⟨f,_,rZ l c kp,(rZ l c kp).binds hb,⟨a,i,kp⟩⟩
theorem aOP {f:Addr} {oc:Value} {od an:Option Addr} {osl:Array (Option Value)} {kV doc pm cdv ct:Value} (a:Ap K (.ref C) "__init__" = some (some (.ref f))) (i:Bn K (.ref f) = true)
  (l:K.lookup f = some ⟨oc,od,.func (AO "__init__" qual (aM st) (aJ st) (aB st) .none kV doc pm an cdv ct),osl⟩) (c:AK K cdv qual = true) (kp:AH K (.ref f) = true)
  (mk:EO K C = true) (kc:AH K (.ref C) = true)
  (hb:∀ (kV doc pm:Value) (an:Option Addr) (cdv ct:Value) (us:List Value),us.length = ps.length → FO (AO "__init__" qual (aM st) (aJ st) (aB st) .none kV doc pm an cdv ct) ⟨us,[]⟩ = pure (ps.zip us)):InitAt K C qual st ps :=
 ⟨f,_,rZ l c kp,(rZ l c kp).binds hb,⟨mk,a,i,kc⟩⟩
end
section
variable {X:Cx} {k:Nat} {ps:List Str} {sp:Sp} {x m:Str} {p pos apos:Pos} {o e:Expr} {es:List Expr} {ta:TE} {t:TA} {C:Addr}
theorem aNZ {pl:Sem Bool} (c:Cls X.K C) (F:Mc X.prog X.w X.K X.mg X.base k C m ps sp) (hr:Room k X.A) (ho:PE X o ta) (ha:PA X (e :: es) t)
  (hst:As (e :: es) X.env = (false,eval e X.env) :: As es X.env:=by rfl) (hpl:(backTo pos (As es X.env)).any (·.1) = false:=by rfl)
  (ht:eval (.Call (.Attribute o m apos) (e :: es) [] pos) X.env = (do
   let ov ← eval o X.env
   standAt apos.atName
   let (f,first) ← holding [ov] (FR ov m pl)
   callWith pos f first (backTo pos (As (e :: es) X.env)) (Dt pos (Cy [] X.env))):=by rfl) :
  PE X (.Call (.Attribute o m apos) (e :: es) [] pos) (aFZ C m sp [] E0 ta t):=by
 obtain ⟨f,fd,G,b,mm⟩:=F.ex
 exact aNX (pl:=pl) ho c mm G hr b .nil aGQ ha hst hpl ht
theorem aKZ {pl:Sem Bool} (c:Cls X.K C) (F:Mc X.prog X.w X.K X.mg X.base k C m ps sp) (hr:Room k X.A) (ho:PE X o ta)
  (ht:eval (.Call (.Attribute o m apos) [] [] pos) X.env = (do
   let ov ← eval o X.env
   standAt apos.atName
   let (f,first) ← holding [ov] (FR ov m pl)
   callWith pos f first (backTo pos (As [] X.env)) (Dt pos (Cy [] X.env))):=by rfl) :
  PE X (.Call (.Attribute o m apos) [] [] pos) (aFZ C m sp [] E0 ta aHK):=by
 obtain ⟨f,fd,G,b,mm⟩:=F.ex
 exact aKY (pl:=pl) ho c mm G hr b .nil aGQ ht
theorem aRZ (hm:X.mg x = some (.ref C)) (F:Ic X.prog X.w X.K X.mg X.base k C ps sp) (hr:Room (k + 1) X.A) (ha:PA X (e :: es) t) (hg:Gl X x:=by rfl) (hdb:(x == ("__debug__":Str)) = false:=by decide)
  (he:As (e :: es) X.env = (false,eval e X.env) :: As es X.env:=by rfl) (hpl:(backTo pos (As es X.env)).any (·.1) = false:=by rfl) :
  PE X (.Call (.Name x p) (e :: es) [] pos) (aPF C sp [] E0 t):=by
 obtain ⟨f,fd,G,b,mm⟩:=F.ex
 exact aNY mm G hr hg hm b .nil aGQ ha hdb he hpl
end
section
variable {X:Cx} {K:AG}
theorem aS (e:X.K = K):IxR X (aRX K):=by subst e;exact aQU
theorem gZ (e:X.K = K):IxR X (aRY K):=by subst e;exact aOM
theorem mU (e:X.K = K):SlR X (aRV K):=by subst e;exact aNP
theorem jU (e:X.K = K):OpR X (Be .In) (rIn K false):=by subst e;exact aIA
theorem pA (e:X.K = K):OpR X (Be .NotIn) (rIn K true):=by subst e;exact aAN
theorem bE (e:X.K = K):fG X (.builtin "len") (fun xs H Q=>∃ p ys,xs = [.ref p] ∧ (SqL K H p ys ∨ SqT K H p ys) ∧ Q (.int ys.length) H):=by subst e;exact aBJ
theorem dI (e:X.K = K):fG X (.builtin "isinstance") (fun xs H Q=>∃ x y c t b,xs = [x,y] ∧ aRB y = some c ∧ TyOf K H x t ∧ CN K t c = some b ∧ Q (.bl b) H):=by subst e;exact aDR
theorem eL (e:X.K = K):fG X (.type "list") (fun xs H Q=>∃ p ys,xs = [.ref p] ∧ (SqL K H p ys ∨ SqT K H p ys) ∧ ∀ l,H l = none → Q (.ref l) (upd H l (.lst ys))):=by subst e;exact aBH
end
theorem kD {j:Int} (h:decide (0 < j) = true):0 < j:=of_decide_eq_true h
end L2
namespace L2
open PySem PySem.Spec PyProof.Rows
theorem jS {X:Cx} {i:Nat} {x:Str} {elt iter tg:Expr} {ifs:List Expr} {scope:Scope} {pos pos' cpos:Pos} {wi:TI} {g:TG} {tt:TT} {te:TE} (hXN:X.N.Nodup) (hix:X.N[i]? = some x) (N':List Str) (nt:Nat) (cap:List Nat)
  (hc:X.calm = true) (hi:PI X tg iter wi) (hg:∀ R,PG (blk X scope N' R) tg g) (hgk:aHF nt g) (ht:∀ R,aMY (blk X scope N' R) ifs tt) (he:∀ R,PE (blk X scope N' R) elt te)
  (hx:Loc X.env.scope x:=by exact Or.inl rfl) (hfn:X.fn x = true ∨ X.env.scope.names.lookup x = some .local:=by first | exact .inl rfl | exact .inr rfl | assumption)
  (hsw:swapsWith (.ListComp elt [⟨tg,iter,ifs,0⟩] scope cpos) (some (.Name x pos')) pos.line X.env = pure true:=by rfl)
  (hcell:(scope.names.all fun y=>!(y.2 == .cell)) = true:=by rfl) (hkind:scope.kind = .function:=by rfl)
  (hnames:(scope.names.all fun y=>!(y.2 == .local) || (scope.names.lookup y.1 == some .local)) = true:=by rfl)
  (hfr:(scope.names.all fun y=>!(y.2 == .free) || (X.env.kindOf y.1 == some .cell || X.env.kindOf y.1 == some .free)) = true:=by rfl)
  (hN:N'.length = nt + cap.length:=by rfl) (hcapN:(cap.map fun j=>X.N[j]?) = (N'.drop nt).map some:=by rfl) (hcapF:((N'.drop nt).all fun x=>scope.names.lookup x == some .free) = true:=by rfl)
  (hs:∀ x,Fh iter X.env x = pure x:=by intro _;rfl) :
  PS X (.Assign [.Name x pos'] (.ListComp elt [⟨tg,iter,ifs,0⟩] scope cpos) pos) (aPZ (aPG nt cap wi g tt te) (wG i)):=by
 intro pins s σ H Ds I h
 have hfr':∀ y ∈ scope.names,y.2 = .free → (X.env.kindOf y.1 = some .cell ∨ X.env.kindOf y.1 = some .free):=fun y hy e=>by
  have z:=kI hfr y hy
  rw [e] at z
  have z':(X.env.kindOf y.1 == some .cell || X.env.kindOf y.1 == some .free) = true:=z
  rcases Bool.or_eq_true_iff.mp z' with q | q
  ·exact .inl (beq_iff_eq.mp q)
  ·exact .inr (beq_iff_eq.mp q)
 have hcell':∀ y ∈ scope.names,y.2 ≠ .cell:=fun y hy e=>by
  have z:=kI hcell y hy
  rw [e] at z
  cases z
 obtain ⟨cl,hcl,hclk,hclh⟩:=wT (scope:=scope) (env:=X.env) fun y hy e=>I.ok.has y.1 (hfr' y hy e)
 have hnames':∀ y ∈ scope.names,y.2 = .local → scope.names.lookup y.1 = some .local:=fun y hy e=>by
  have z:=kI hnames y hy
  rw [e] at z
  exact beq_iff_eq.mp z
 have hcapN':∀ (k j:Nat),cap[k]? = some j → N'[nt + k]? = X.N[j]?:=fun k j e=>by
  have z:=congrArg (fun l:List (Option Str)=>l[k]?) hcapN
  simp only [AR,e,DN,FM] at z
  cases q:N'[nt + k]? with
  | none=>rw [q] at z;cases z
  | some x=>rw [q] at z;exact (BH z).symm
 rw [exec_Assign_Name_used _ _ _ _ hsw]
 refine AB (wpAny_standAt (AB ?_))
 show wpAny _ X.A (do let _ ← comprehension (.ListComp elt [⟨tg,iter,ifs,0⟩] scope cpos) scope X.env _ (newList []) false (eval iter X.env) (some (assign (.Name x pos') X.env))) _ _ s
 refine AB (BJ (wpAny_comprehension_free (use:=some (assign (.Name x pos') X.env)) (Q:=fun _ s'=>SP X pins Ds .next s') rfl hs hcl hkind hnames'
  (thn (hi pins s σ H _ I h) fun v s1 h1=>thn h1 fun itv s2 h2=>?_)) (fun _ s' hq=>AF (AF hq)) fun _ _ e=>e)
 obtain ⟨it,fp,tn,J,H2,e,I2,T,st2,f2,hw⟩:=h2
 subst e
 refine wR (RR:=fun acc C=>compPost (model X.prog X.w) X.A X.xe (some (assign (.Name x pos') X.env)) (fun _ s'=>SP X pins Ds .next s') acc C) hc I2 T st2 f2 hclk hclh hcell' hkind hfr' hN hcapN' (fun x hx=>beq_iff_eq.mp (kI hcapF x hx)) hg hgk ht he hw ?_
 intro D C s' H' ys hD q I' B
 obtain ⟨m,hn⟩:=B.ns
 obtain ⟨oC,es,ep,hoC,hdC,hrest⟩:=id hn
 have nofs:C ∉ X.fs:=fun hb=>by
  obtain ⟨_,o,ho,_⟩:=I'.ok.funs.mem hb
  exact absurd (Ah (AX ho) B.ab) (DB _)
 have IC:Inv X ((C,oC) :: pins) σ (upd H' D (.lst ys)) s':=I'.pins_of fun p hp=>by
  rcases Af.mp hp with rfl | hp
  ·exact ⟨hoC,B.fr,B.ne,nofs,fun v z=>by rw [hdC] at z;cases z⟩
  ·exact I'.pin p (Aj _ hp)
 show wpAny _ X.A (assign (.Name x pos') X.env (.ref D)) _ _ _
 refine thn (aU hXN hix hx hfn ((C,oC) :: pins) s' σ (upd H' D (.lst ys)) (.ref D) (.ref D) Ds.nx IC rfl (q D hD)) fun _ s'' h''=>?_
 obtain ⟨σ2,H3,I3,q3⟩:=h''
 have pC:=I3.pin (C,oC) (Aj _ AY)
 refine ⟨m,hn.at' (fun o e=>?_),fun h4 hs4=>⟨σ2,H3,?_,q3⟩⟩
 ·rw [hoC] at e
  cases e
  exact pC.1
 ·have I4:Inv X pins σ2 H3 s'':=I3.pins_of fun p hp=>I3.pin p (Aj _ (AV _ hp))
  exact I4.turned (it:=C) (t':=s''.toks) (fun b o hb e=>hs4.extBut b o hb e) pC.2.1 B.ne (.inr B.ab) B.cl B.pn
end L2
namespace L2
open PySem PySem.Spec PyProof.Rows
section
variable {X:Cx}
end
structure InstC (K:AG) (C:Addr):Prop where
 ha:Ap K (.ref C) "__class__" = some (some (.builtin "object.__class__"))
 hn:Dy K (.builtin "object.__class__") "__get__" = some (some (.builtin "getset_descriptor.__get__"))
 htk:FV K (.builtin "object.__class__") = some true
 hm:PySem.W.mroIn K C (.type "object") = some true
theorem MethAt.mcD {P:Program} {w:World} {K:AG} {mg:Str → Option Value} {base:Heap} {C:Addr} {m qual:Str} {st:Stmt} {N ps:List Str} {k:Nat} {sp:Sp} (D:MethAt K C m qual st ps) (S:FnScope N ps (aB st)) (len:∀ vs H Q E,sp vs H Q E → vs.length = ps.length)
  (hbody:∀ (f:Addr) (cdv:Value) (A:Around) (outer:List Env) (s:Shared) (H:Hp) (vs:List V) (Q:VK) (E:XK),Room k (A.deeper (envOfC qual (aB st) s.heap.objs.size f cdv)) → sp vs H Q E →
   ∃ t,PSs (mJ CX0 P w K mg base N qual (aB st) f cdv A outer s H E).nox (aJ st) t ∧ t { nx:=fun _ H'=>cP Q .non H',rt:=cP Q } (start N vs) H):Mc P w K mg base (k + 1) C m ps sp:=by
 obtain ⟨f,fd,F,b,mm⟩:=D.ex
 refine ⟨f,fd,FnOk.drop len (F.ok S (fun vs H Q E ⟨Q',h,_⟩=>len vs H Q' E h) fun cdv A outer s H vs Q E hr ⟨Q',h,e⟩=>?_),b,mm⟩
 subst e
 exact hbody f cdv A outer s H vs Q' E hr h
theorem hJ.under {H:Hp} {p q:Addr} {o u:HO} (hp:H p = none) (d:sC o = true) (hq:L2.upd H p o q = none):hJ (L2.upd (L2.upd H p o) q u) (L2.upd H q u):=fun b=>by
 by_cases hb:b = q
 ·subst hb
  left
  rw [aD,aD]
 ·rw [aK hb,aK hb]
  by_cases hc:b = p
  ·subst hc
   right
   exact ⟨hp,o,aD,d⟩
  ·left
   rw [aK hc]
end L2
namespace Ld
open PySem L2
def fL (c:Nat):Bool:=decide (97 ≤ c) && decide (c ≤ 122)
def fD (z:Str):Bool:=decide (1 ≤ z.length) && decide (z.length ≤ 8) && !decide (z = "sea") && z.cps.toList.all fL
def isInt:Dv → Bool
 | .int _=>true
 | _=>false
def aLQ:Dv → Bool
 | .bl _=>true
 | _=>false
def aSG:Dv → Bool
 | .str _=>true
 | _=>false
def aSI:Dv → Bool
 | .lst _=>true
 | _=>false
def aSF:Dv → Bool
 | .tup _=>true
 | _=>false
def aFX (n:Int):Dv → Bool
 | .tup ds=>decide ((ds.length:Int) = n)
 | _=>false
def aLI (n:Int):Dv → Bool
 | .lst ds=>decide (1 ≤ ds.length) && decide ((ds.length:Int) ≤ n)
 | _=>false
def pT:Dv → Bool
 | .str z=>fD z
 | _=>false
def hgt (i:Int):Bool:=decide (-1000000 ≤ i) && decide (i ≤ 1000000)
def amt (i:Int):Bool:=decide (0 ≤ i) && decide (i ≤ 1000000)
def fY:Dv → Bool
 | .int i=>hgt i
 | _=>false
def lF:Dv → Bool
 | .int i=>amt i
 | _=>false
def qJ (zs:List Str):Dv → Bool
 | .str z=>decide (z ∈ zs)
 | _=>false
def cI:Dv → Option Str
 | .tup (.str z :: _)=>some z
 | _=>none
def bY:Dv → Bool
 | .tup [a,b,c]=>pT a && (fY b && lF c)
 | _=>false
def lN:Dv → Bool
 | .lst ds=>(decide (1 ≤ ds.length) && decide (ds.length ≤ 12)) && (ds.all bY && decide ((ds.map cI).Nodup))
 | _=>false
def oE (zs:List Str) (a b:Dv):Bool:=qJ zs a && (qJ zs b && !deq a b)
def mF (c:Dv):Dv → Bool
 | .non=>true
 | .int i=>hgt i && (match c with | .int j=>decide (i < j) | _=>false)
 | _=>false
def cL (zs:List Str):Dv → Bool
 | .tup [n,a,b,c,r,s]=>pT n && oE zs a b && (fY c && (lF r && mF c s))
 | _=>false
def oF (zs:List Str):Dv → Bool
 | .lst ds=>(decide (1 ≤ ds.length) && decide (ds.length ≤ 40)) && (ds.all (cL zs) && decide ((ds.map cI).Nodup))
 | _=>false
mutual
def small:Dv → Bool
 | .str z=>decide (z.length ≤ 1000)
 | .lst ds=>decide (ds.length ≤ 1000) && hV ds
 | .tup ds=>decide (ds.length ≤ 1000) && hV ds
 | _=>true
def hV:List Dv → Bool
 | []=>true
 | d :: ds=>small d && hV ds
end
theorem jL:∀ {ds:List Dv} {d:Dv},hV ds = true → d ∈ ds → small d = true
 | [],_,_,m=>by cases m
 | e :: ds,d,f,m=>by
  rw [hV,Ae] at f
  rcases Af.mp m with rfl | m
  ·exact f.1
  ·exact jL f.2 m
theorem xZ {ds:List Dv} (h:small (.tup ds) = true):hV ds = true:=(BF.mp (show (decide (ds.length ≤ 1000) && hV ds) = true from h)).2
theorem sJ (K:AG) {H:Hp} {d:Dv} {x:V} (h:Is H d x):∃ t,TyOf K H x t ∧ CN K t (.type "int") = some (isInt d || aLQ d) ∧ CN K t (.type "bool") = some (aLQ d) ∧
  CN K t (.type "str") = some (aSG d) ∧ CN K t (.type "list") = some (aSI d) ∧ CN K t (.type "tuple") = some (aSF d):=by
 cases d with
 | non=>cases (show x = .non from h);exact ⟨_,.non,rfl,rfl,rfl,rfl,rfl⟩
 | bl b=>cases (show x = .bl b from h);exact ⟨_,.bl b,rfl,lC _ _,rfl,rfl,rfl⟩
 | int i=>cases (show x = .int i from h);exact ⟨_,.int i,lC _ _,rfl,rfl,rfl,rfl⟩
 | str z=>cases (show x = .str z from h);exact ⟨_,.str z,rfl,rfl,lC _ _,rfl,rfl⟩
 | lst ds=>obtain ⟨a,vs,rfl,e,_⟩:=h;exact ⟨_,.lst e,rfl,rfl,rfl,lC _ _,rfl⟩
 | tup ds=>obtain ⟨a,vs,rfl,e,_⟩:=h;exact ⟨_,.tup e,rfl,rfl,rfl,rfl,lC _ _⟩
 | dct ks ds=>obtain ⟨a,vs,rfl,e,_⟩:=h;exact ⟨_,.dK e,rfl,rfl,rfl,rfl,rfl⟩
theorem aAV:("abcdefghijklmnopqrstuvwxyz":Str).cps.toList = [97,98,99,100,101,102,103,104,105,106,107,108,109,110,111,112,113,114,115,116,117,118,119,120,121,122]:=by decide +kernel
theorem aFG (c:Nat):(!(Builtin.Str.occurrences ("abcdefghijklmnopqrstuvwxyz":Str) ⟨#[c]⟩ 0 ("abcdefghijklmnopqrstuvwxyz":Str).length 1).isEmpty) = fL c:=by
 rw [PySem.StrLaws.found_one,aAV]
 have h1:∀ d,d ∈ ([97,98,99,100,101,102,103,104,105,106,107,108,109,110,111,112,113,114,115,116,117,118,119,120,121,122]:List Nat) → 97 ≤ d ∧ d ≤ 122:=by decide
 have h2:∀ k,k < 26 → (97 + k) ∈ ([97,98,99,100,101,102,103,104,105,106,107,108,109,110,111,112,113,114,115,116,117,118,119,120,121,122]:List Nat):=by decide
 unfold fL
 by_cases h:97 ≤ c ∧ c ≤ 122
 ·have e:=h2 (c - 97) (by omega)
  rw [show 97 + (c - 97) = c by omega] at e
  rw [decide_eq_true e,decide_eq_true h.1,decide_eq_true h.2]
  rfl
 ·have e:¬ c ∈ ([97,98,99,100,101,102,103,104,105,106,107,108,109,110,111,112,113,114,115,116,117,118,119,120,121,122]:List Nat):=fun m=>h (h1 c m)
  rw [decide_eq_false e]
  by_cases h':97 ≤ c
  ·rw [decide_eq_true h',decide_eq_false (fun z=>h ⟨h',z⟩)]
   rfl
  ·rw [decide_eq_false h']
   rfl
def aO (d:Dv):Str:=(cI d).getD ""
def nP (d:Dv):Key:=.inr (aO d)
theorem aMF {d:Dv} {z:Str} (h:cI d = some z):aO d = z:=by unfold aO;rw [h];rfl
def nO (d1 d2:Addr):List (Str × V):=jE "dyke_rows" (.ref d2) (jE "field_rows" (.ref d1) [])
theorem aSO:¬ (("field_rows":Str) = "dyke_rows"):=by decide +kernel
theorem aGU (d1 d2:Addr):(nO d1 d2).lookup ("field_rows":Str) = some (.ref d1):=by
 unfold nO
 rw [fE,if_neg aSO,fE,if_pos rfl]
theorem aAX (d1 d2:Addr):(nO d1 d2).lookup ("dyke_rows":Str) = some (.ref d2):=by
 unfold nO
 rw [fE,if_pos rfl]
theorem lB (d1 d2:Addr) {m:Str} (h1:¬ m = "dyke_rows") (h2:¬ m = "field_rows"):(nO d1 d2).lookup m = none:=by
 unfold nO
 rw [fE,if_neg h1,fE,if_neg h2]
 all_goals rfl
def oG (H:Hp) (a:Addr) (ds:List Dv):Prop:=∃ kvs,H a = some (.dK kvs) ∧ kvs.map (·.1) = ds.map nP ∧ IsL H ds (kvs.map (·.2))
theorem oG.same {H H':Hp} (S:aI H H') {a:Addr} {ds:List Dv} (h:oG H a ds):oG H' a ds:=by
 obtain ⟨kvs,e,k,i⟩:=h
 exact ⟨kvs,S _ _ e,k,IsL.same S _ _ i⟩
structure LandAt (C:Addr) (H:Hp) (x:Addr) (fs ds:List Dv):Prop where
 ex:∃ dx d1 d2,H x = some (.ins C dx (nO d1 d2)) ∧ oG H d1 fs ∧ oG H d2 ds
 okf:lN (.lst fs) = true
 okd:oF ("sea" :: fs.map aO) (.lst ds) = true
theorem LandAt.same {C:Addr} {H H':Hp} (S:aI H H') {x:Addr} {fs ds:List Dv} (h:LandAt C H x fs ds):LandAt C H' x fs ds:=by
 obtain ⟨⟨dx,d1,d2,e,t1,t2⟩,a,b⟩:=h
 exact ⟨⟨dx,d1,d2,S _ _ e,t1.same S,t2.same S⟩,a,b⟩
theorem zP:∀ {kvs:List (Key × V)} {H:Hp} {ds:List Dv} {d:Dv},kvs.map (·.1) = ds.map nP → IsL H ds (kvs.map (·.2)) → (ds.map aO).Nodup → d ∈ ds → ∃ v,dJ kvs (.inr (aO d)) = some v ∧ Is H d v
 | [],_,[],_,_,_,_,m=>by cases m
 | [],_,_ :: _,_,e,_,_,_=>by simp at e
 | _ :: _,_,[],_,_,_,_,m=>by cases m
 | (k,v) :: kvs,H,d0 :: ds,d,e,i,n,m=>by
  obtain ⟨v',r,e1,h0,t⟩:=i
  rw [Ac] at e1
  cases e1
  rw [Ac,Ac,List.cons.injEq] at e
  have ek:k = nP d0:=e.1
  rw [Ac,Aq] at n
  by_cases q:aO d = aO d0
  ·have:d = d0:=by
    rcases Af.mp m with rfl | m
    ·rfl
    ·exact absurd (AT.mpr ⟨d,m,q⟩) n.1
   subst this
   refine ⟨v,?_,h0⟩
   unfold dJ
   rw [Bw,ek]
   simp [nP]
  ·have m':d ∈ ds:=by
    rcases Af.mp m with rfl | m
    ·exact absurd rfl q
    ·exact m
   obtain ⟨u,e2,h2⟩:=zP (kvs:=kvs) e.2 t n.2 m'
   refine ⟨u,?_,h2⟩
   unfold dJ at e2 ⊢
   have hk:¬ k = Sum.inr (aO d):=by
    rw [ek]
    intro z
    exact q (Dx z).symm
   rw [Bw,decide_eq_false (show ¬ (k,v).1 = Sum.inr (aO d) from hk)]
   exact e2
theorem iG:∀ {ds:List Dv} {p:Dv → Bool},(∀ d,p d = true → ∃ z,cI d = some z) → ds.all p = true → ds.map cI = (ds.map aO).map some
 | [],_,_,_=>rfl
 | d :: ds,p,hp,h=>by
  rw [EH,Ae] at h
  obtain ⟨z,e⟩:=hp d h.1
  rw [Ac,Ac,Ac,iG hp h.2,aMF e,e]
theorem dX (zs:List Str):(zs.map some).Nodup ↔ zs.Nodup:=by
 induction zs with
 | nil=>simp
 | cons z zs ih =>
  rw [Ac,Aq,Aq,ih]
  simp
theorem bU {d:Dv} (h:bY d = true):∃ z g e,d = .tup [.str z,.int g,.int e] ∧ fD z = true ∧ hgt g = true ∧ amt e = true:=by
 unfold bY at h
 split at h
 ·rename_i a b c
  rw [Ae,Ae] at h
  obtain ⟨h1,h2,h3⟩:=h
  cases a with
  | str z =>
   cases b with
   | int g =>
    cases c with
    | int e=>exact ⟨z,g,e,rfl,h1,h2,h3⟩
    | _=>cases h3
   | _=>cases h2
  | _=>cases h1
 ·cases h
theorem tF (d:Dv) (h:bY d = true):∃ z,cI d = some z:=by
 obtain ⟨z,_,_,rfl,_⟩:=bU h
 exact ⟨z,rfl⟩
theorem bJ {zs:List Str} {d:Dv} (h:cL zs d = true):∃ n a b c r s,d = .tup [.str n,.str a,.str b,.int c,.int r,s] ∧ fD n = true ∧ a ∈ zs ∧ b ∈ zs ∧ a ≠ b ∧ hgt c = true ∧ amt r = true ∧ mF (.int c) s = true:=by
 unfold cL at h
 split at h
 ·rename_i n a b c r s
  rw [Ae,Ae,Ae,Ae] at h
  obtain ⟨⟨h1,h2⟩,h3,h4,h5⟩:=h
  unfold oE at h2
  rw [Ae,Ae] at h2
  obtain ⟨h6,h7,h8⟩:=h2
  cases n with
  | str n =>
   cases a with
   | str a =>
    cases b with
    | str b =>
     cases c with
     | int c =>
      cases r with
      | int r =>
       refine ⟨n,a,b,c,r,s,rfl,h1,of_decide_eq_true h6,of_decide_eq_true h7,?_,h3,h4,h5⟩
       intro z
       subst z
       have:(!(a == a)) = true:=h8
       rw [beq_self_eq_true] at this
       cases this
      | _=>cases h4
     | _=>cases h3
    | _=>cases h7
   | _=>cases h6
  | _=>cases h1
 ·cases h
theorem wL {zs:List Str} (d:Dv) (h:cL zs d = true):∃ z,cI d = some z:=by
 obtain ⟨z,_,_,_,_,_,rfl,_⟩:=bJ h
 exact ⟨z,rfl⟩
structure GoodF (fs:List Dv):Prop where
 l1:1 ≤ fs.length
 l2:fs.length ≤ 12
 all:∀ d ∈ fs,bY d = true
 nd:(fs.map aO).Nodup
structure GoodD (zs:List Str) (ds:List Dv):Prop where
 l1:1 ≤ ds.length
 l2:ds.length ≤ 40
 all:∀ d ∈ ds,cL zs d = true
 nd:(ds.map aO).Nodup
theorem rX (fs:List Dv):lN (.lst fs) = true ↔ GoodF fs:=by
 show ((decide (1 ≤ fs.length) && decide (fs.length ≤ 12)) && (fs.all bY && decide ((fs.map cI).Nodup))) = true ↔ _
 rw [Ae,Ae,Ae,decide_eq_true_iff,decide_eq_true_iff,decide_eq_true_iff]
 constructor
 ·rintro ⟨⟨a,b⟩,c,d⟩
  rw [iG tF c,dX] at d
  exact ⟨a,b,BS.mp c,d⟩
 ·rintro ⟨a,b,c,d⟩
  have c':=BS.mpr c
  refine ⟨⟨a,b⟩,c',?_⟩
  rw [iG tF c',dX]
  exact d
theorem rY (zs:List Str) (ds:List Dv):oF zs (.lst ds) = true ↔ GoodD zs ds:=by
 show ((decide (1 ≤ ds.length) && decide (ds.length ≤ 40)) && (ds.all (cL zs) && decide ((ds.map cI).Nodup))) = true ↔ _
 rw [Ae,Ae,Ae,decide_eq_true_iff,decide_eq_true_iff,decide_eq_true_iff]
 constructor
 ·rintro ⟨⟨a,b⟩,c,d⟩
  rw [iG wL c,dX] at d
  exact ⟨a,b,BS.mp c,d⟩
 ·rintro ⟨a,b,c,d⟩
  have c':=BS.mpr c
  refine ⟨⟨a,b⟩,c',?_⟩
  rw [iG wL c',dX]
  exact d
def aSH:Dv → Bool
 | .non=>true
 | _=>false
def hasSill:Dv → Bool
 | .tup [_,_,_,_,_,s]=>!aSH s
 | _=>false
theorem yA:∀ {ds:List Dv},(∀ d ∈ ds,small d = true) → hV ds = true
 | [],_=>rfl
 | d :: ds,h=>by
  rw [hV,h d AY,yA fun e m=>h e (AV _ m)]
  rfl
end Ld
namespace Mt02
open PySem L2 Ld
def aTU (i:Nat):Nat:=if i < 18 then 97 + i else 98 + i
def rst (c:Int):Nat → Int
 | 0=>c / 3
 | j + 1=>rst c j / 25
def num (o:Nat → Int) (c p b:Int) (k j:Nat):Int:=if (j:Int) = b then c / 17 + ((k:Int) / 25) else if (j:Int) = p then c / 11 + (k:Int) else o j
def code (o:Nat → Int) (c p b:Int) (k j:Nat):Nat:=aTU (num o c p b k j % 25).toNat
def nm (o:Nat → Int) (c p b:Int) (n k:Nat):Str:=⟨((Az n).map (code o c p b k)).toArray⟩
structure Names (zs:List Str) (n:Nat):Prop where
 len:zs.length = n
 nd:zs.Nodup
 good:∀ z ∈ zs,fD z = true
end Mt02
namespace Mt04
open PySem L2 Ld
def aFO:Dv → Int
 | .tup [_,_,_,.int c,_,_]=>c
 | _=>0
def hOf:Dv → Int
 | .tup [_,.int h]=>h
 | _=>0
def hE (ds:List Dv) (z:Str):Int:=(ds.find? fun d=>decide (aO d = z)).elim 0 aFO
def dS (ds:List Dv):Dv → Bool
 | .tup [.str z,.int h]=>decide (z ∈ ds.map aO) && (hgt h && decide (hE ds z ≤ h))
 | _=>false
def aDU (ds:List Dv):Dv → Bool
 | .lst ws=>ws.all (dS ds) && decide ((ws.map cI).Nodup)
 | _=>false
theorem aOT {ds:List Dv} (nd:(ds.map aO).Nodup) {d:Dv} (m:d ∈ ds):(ds.find? fun e=>decide (aO e = aO d)) = some d:=by
 induction ds with
 | nil=>cases m
 | cons e ds ih =>
  rw [Ac,Aq] at nd
  rw [Bw]
  by_cases q:aO e = aO d
  ·rw [decide_eq_true q]
   rcases Af.mp m with rfl | m
   ·rfl
   ·exact absurd (AT.mpr ⟨d,m,q.symm⟩) nd.1
  ·rw [decide_eq_false q]
   rcases Af.mp m with rfl | m
   ·exact absurd rfl q
   ·exact ih nd.2 m
theorem wP {ds:List Dv} (nd:(ds.map aO).Nodup) {d:Dv} (m:d ∈ ds):hE ds (aO d) = aFO d:=by
 unfold hE
 rw [aOT nd m]
 rfl
theorem pH {ds:List Dv} {d:Dv} (h:dS ds d = true):∃ z v,d = .tup [.str z,.int v] ∧ z ∈ ds.map aO ∧ hgt v = true ∧ hE ds z ≤ v:=by
 unfold dS at h
 split at h
 ·rename_i z v
  rw [Ae,Ae] at h
  exact ⟨z,v,rfl,of_decide_eq_true h.1,h.2.1,of_decide_eq_true h.2.2⟩
 ·cases h
theorem pI {ds:List Dv} (d:Dv) (h:dS ds d = true):∃ z,cI d = some z:=by
 obtain ⟨z,_,rfl,_⟩:=pH h
 exact ⟨z,rfl⟩
structure GoodW (ds ws:List Dv):Prop where
 all:∀ d ∈ ws,dS ds d = true
 nd:(ws.map aO).Nodup
theorem aIK (ds ws:List Dv):aDU ds (.lst ws) = true ↔ GoodW ds ws:=by
 show (ws.all (dS ds) && decide ((ws.map cI).Nodup)) = true ↔ _
 rw [Ae,decide_eq_true_iff]
 constructor
 ·rintro ⟨c,d⟩
  rw [iG pI c,dX] at d
  exact ⟨BS.mp c,d⟩
 ·rintro ⟨c,d⟩
  have c':=BS.mpr c
  refine ⟨c',?_⟩
  rw [iG pI c',dX]
  exact d
def wAt (ws:List Dv) (z:Str):Option Int:=(ws.find? fun d=>decide (aO d = z)).map hOf
def aTK (ws:List Dv):Dv → Dv
 | .tup [.str n,a,b,.int c,r,s]=>.tup [.str n,a,b,.int ((wAt ws n).getD c),r,s]
 | d=>d
def raisedD (ds ws:List Dv):List Dv:=ds.map (aTK ws)
def kvOf (d:Dv):Key × V:=(nP d,.int (hOf d))
end Mt04
namespace Mt22
open PySem L2 Ld
structure St where
 nm:Str
 near:Str
 far:Str
 h:Int
abbrev Lo:=Str → Option Int
def sea:Str:="sea"
def lo0:Lo:=fun z=>if z = sea then some (-1000000) else none
def aRU (lo:Lo) (s:St):Lo:=match lo s.near with
 | none=>lo
 | some a=>fun z=>if z = s.far then some (match lo s.far with | none=>max a s.h | some b=>min (max a s.h) b) else lo z
def aRT (S:List St) (lo:Lo):Lo:=S.foldl aRU lo
def aKL (S:List St):Nat → Lo
 | 0=>lo0
 | n + 1=>aRT S (aKL S n)
inductive Walk (S:List St):Nat → Str → Int → Prop
 | sea:Walk S 0 Mt22.sea (-1000000)
 | step {k:Nat} {a:Int} {s:St} (w:Walk S k s.near a) (m:s ∈ S):Walk S (k + 1) s.far (max a s.h)
def Le (lo lo':Lo):Prop:=∀ z c,lo' z = some c → ∃ d,lo z = some d ∧ d ≤ c
def Att (S:List St) (lo:Lo):Prop:=∀ z c,lo z = some c → ∃ k,Walk S k z c
inductive Path (S:List St):List Str → Str → Int → Prop
 | sea:Path S [] Mt22.sea (-1000000)
 | step {p:List Str} {a:Int} {s:St} (w:Path S p s.near a) (m:s ∈ S) (n:s.far ∉ p):Path S (s.far :: p) s.far (max a s.h)
theorem pP {α:Type} [DecidableEq α]:∀ {P N:List α},P.Nodup → (∀ x ∈ P,x ∈ N) → P.length ≤ N.length
 | [],N,_,_=>BG _
 | x :: P,N,nd,sub=>by
  have hx:=sub x AY
  rw [Aq] at nd
  have:=pP (P:=P) (N:=N.erase x) nd.2 fun y m=>(List.mem_erase_of_ne (a:=y) (b:=x) (fun e=>nd.1 (by rw [← e];exact m))).mpr (sub y (AV _ m))
  rw [List.length_erase_of_mem hx] at this
  have hp:=List.length_pos_of_mem hx
  rw [Am]
  omega
structure Flood (S:List St) (lo:Lo):Prop where
 att:Att S lo
 low:∀ k v b,Walk S k v b → ∃ c,lo v = some c ∧ c ≤ b
inductive Come (S:List St) (L:Int):Str → Prop
 | sea:Come S L Mt22.sea
 | step {s:St} (w:Come S L s.near) (m:s ∈ S) (h:s.h < L):Come S L s.far
end Mt22
namespace MtF
open PySem L2 Ld Mt04 Mt22
def aQC:Dv → Dv
 | .tup [_,_,_,_,_,s]=>s
 | _=>.non
def aSJ:Dv → Int
 | .int i=>i
 | _=>0
def aSB:Dv → Str
 | .tup [_,.str a,_,_,_,_]=>a
 | _=>""
def aLD:Dv → Str
 | .tup [_,_,.str b,_,_,_]=>b
 | _=>""
def aQB (op:List Str) (d:Dv):Int:=if aO d ∈ op then aSJ (aQC d) else aFO d
def aBE:Dv → Int
 | .tup [_,.int g,_]=>g
 | _=>0
def qR (fs:List Dv) (z:Str):Int:=(fs.find? fun d=>decide (aO d = z)).elim 0 aBE
theorem aOS {ds:List Dv} (nd:(ds.map aO).Nodup) {d:Dv} (m:d ∈ ds):(ds.find? fun e=>decide (aO e = aO d)) = some d:=by
 induction ds with
 | nil=>cases m
 | cons e ds ih =>
  rw [Ac,Aq] at nd
  rw [Bw]
  rcases Af.mp m with rfl | m
  ·rw [decide_eq_true rfl]
  ·have hne:aO e ≠ aO d:=fun c=>nd.1 (c ▸ AT.mpr ⟨d,m,rfl⟩)
   rw [decide_eq_false hne]
   exact ih nd.2 m
theorem aIJ {fs:List Dv} (nd:(fs.map aO).Nodup) {d:Dv} (m:d ∈ fs):qR fs (aO d) = aBE d:=by
 show (fs.find? fun e=>decide (aO e = aO d)).elim 0 aBE = _
 rw [aOS nd m]
 rfl
def aJN (fs:List Dv) (op:List Str) (d:Dv) (near far:Str):List Mt22.St:=if far = "sea" then [] else [⟨aO d,near,far,max (aQB op d) (qR fs far)⟩]
def stepsOf (fs:List Dv) (op:List Str) (d:Dv):List Mt22.St:=aJN fs op d (aSB d) (aLD d) ++ aJN fs op d (aLD d) (aSB d)
def aQA (fs ds:List Dv) (op:List Str):List Mt22.St:=ds.flatMap (stepsOf fs op)
def bM (s:Mt22.St):Dv:=.tup [.str s.nm,.str s.near,.str s.far,.int s.h]
def flo (fs ds:List Dv) (op:List Str):Mt22.Lo:=aKL (aQA fs ds op) fs.length
def optV:Option Int → V
 | some i=>.int i
 | none=>.non
end MtF
namespace Mt21
open PySem L2 Ld Mt02
def ab (i:Int):Nat:=97 + (i % 26).toNat
theorem oS (i:Int):fL (ab i) = true:=by
 have h0:=BU i (show (26:Int) ≠ 0 by decide)
 have h1:=BM i (show (0:Int) < 26 by decide)
 unfold ab fL
 rw [decide_eq_true (by omega),decide_eq_true (by omega)]
 rfl
theorem aPA:("abcdefghijklmnopqrstuvwxyz":Str).cps.toList = (Az 26).map fun i=>97 + i:=by decide +kernel
theorem aHE (i:Int):atI ("abcdefghijklmnopqrstuvwxyz":Str).cps.toList (i % 26) = some (ab i):=by
 have h0:=BU i (show (26:Int) ≠ 0 by decide)
 have h1:=BM i (show (0:Int) < 26 by decide)
 obtain ⟨k,hk⟩:=BQ h0
 unfold ab
 rw [hk,aPA]
 refine aP ?_
 rw [AR,List.getElem?_range (by omega)]
 rfl
def kL (i:Int):Str:=⟨#[ab i]⟩
theorem wD:∀ (ys:List Str) (acc:Array Nat),(ys.foldl (fun acc p=>acc ++ ("":Str).cps ++ p.cps) acc).toList = acc.toList ++ (ys.map fun y=>y.cps.toList).flatten
 | [],acc=>by simp
 | y :: ys,acc=>by
  rw [List.foldl_cons,wD ys]
  have:("":Str).cps = #[]:=by decide +kernel
  rw [this]
  simp
theorem aFD (ys:List Str):(Txt.join "" ys).cps.toList = (ys.map fun y=>y.cps.toList).flatten:=by
 cases ys with
 | nil =>
  show (Str.empty.cps).toList = []
  decide +kernel
 | cons y ys =>
  show (List.foldl (fun acc p=>acc ++ ("":Str).cps ++ p.cps) y.cps ys).toList = _
  rw [wD]
  simp
theorem uG (z:Str) (k:Nat) (h:k ≤ z.length):(Cz z none (some (k:Int))).cps.toList = z.cps.toList.take k:=by
 rw [Tx.slice_codes,Tx.cl_nat]
 show (z.cps.toList.drop 0).take (min k z.length - 0) = _
 rw [Eu,Nat.sub_zero,Em h]
theorem wM (z:Str) (k:Nat) (h:k ≤ z.length):(Cz z (some (k:Int)) none).cps.toList = z.cps.toList.drop k:=by
 rw [Tx.slice_codes,Tx.cl_nat,Em h]
 show (z.cps.toList.drop k).take (z.length - k) = _
 rw [AI]
 rw [CB]
 show z.cps.toList.length - k ≤ z.length - k
 simp [Str.length]
theorem iE (z:Str):z.length = z.cps.toList.length:=by simp [Str.length]
theorem aGS {z:Str} (h:z.cps.toList.all fL = true) (h1:1 ≤ z.length) (h2:z.length ≤ 8) (h3:z.length ≠ 3):fD z = true:=by
 have e:¬ z = "sea":=fun e=>by
  rw [e] at h3
  exact h3 (by decide +kernel)
 unfold fD
 rw [h,decide_eq_true h1,decide_eq_true h2,decide_eq_false e]
 rfl
theorem sW {f:Nat → Str} {n:Nat} (h:∀ k l,k < n → l < n → f k = f l → k = l):((Az n).map f).Nodup:=by
 rw [DF,List.pairwise_map]
 refine DO.imp_of_mem ?_ (Ea (n:=n))
 intro k l hk hl hkl he
 have:=h k l (EA.mp hk) (EA.mp hl) he
 omega
theorem aET {a:Int} {n:Nat} (hn:n ≤ 26):Names ((Az n).map fun (k:Nat)=>kL (a + 5 * (k:Int))) n where
 len:=by simp
 nd:=sW fun k l hk hl e=>by
  have e':[ab (a + 5 * (k:Int))] = [ab (a + 5 * (l:Int))]:=congrArg (fun z:Str=>z.cps.toList) e
  have e2:ab (a + 5 * (k:Int)) = ab (a + 5 * (l:Int)):=by simpa using e'
  unfold ab at e2
  omega
 good z m:=by
  obtain ⟨k,_,rfl⟩:=AT.mp m
  refine aGS ?_ (show 1 ≤ 1 by decide) (show 1 ≤ 8 by decide) (show (1:Nat) ≠ 3 by decide)
  show (fL (ab _) && true) = true
  rw [oS]
  rfl
structure Put (z b:Str) (at':Nat) (x y:Int):Prop where
 codes:z.cps.toList = b.cps.toList.take at' ++ [ab x,ab y] ++ b.cps.toList.drop at'
theorem aHW {b:Str} {sz at' n:Nat} {p q:Int} {f:Nat → Str} (hb:b.cps.toList.all fL = true) (hl:b.length = sz) (h2:2 ≤ sz) (h6:sz ≤ 6) (ha:at' ≤ sz) (hn:n ≤ 52) (hf:∀ k,k < n → Put (f k) b at' ((k:Int) + p) ((k:Int) / 26 + q)) :
  Names ((Az n).map f) n where
 len:=by simp
 nd:=sW fun k l hk hl' e=>by
  have h1:=(hf k hk).codes
  have h2:=(hf l hl').codes
  rw [e,h2] at h1
  have hlt:(b.cps.toList.take at').length = at':=by
   rw [AZ,← iE,hl]
   omega
  rw [CH,CH] at h1
  have h3:=List.append_cancel_left h1
  have e1:ab ((l:Int) + p) = ab ((k:Int) + p) ∧ ab ((l:Int) / 26 + q) = ab ((k:Int) / 26 + q):=by
   simpa using h3
  unfold ab at e1
  omega
 good z m:=by
  obtain ⟨k,mk,rfl⟩:=AT.mp m
  have h:=(hf k (EA.mp mk)).codes
  have hlen:(f k).length = sz + 2:=by
   rw [iE,h,Ag,Ag,AZ,CB,← iE,hl]
   show min at' sz + 2 + (sz - at') = _
   omega
  refine aGS ?_ (by omega) (by omega) (by omega)
  rw [h,List.all_append,List.all_append]
  have t1:(b.cps.toList.take at').all fL = true:=BS.mpr fun x m=>BS.mp hb x (Es m)
  have t2:(b.cps.toList.drop at').all fL = true:=BS.mpr fun x m=>BS.mp hb x (List.mem_of_mem_drop m)
  rw [t1,t2]
  show (true && (fL (ab _) && (fL (ab _) && true)) && true) = true
  rw [oS,oS]
  rfl
end Mt21
namespace Mt31
open PySem L2 Ld Mt22
abbrev Cm:=List (Str × Option Mt22.St)
def keys (cm:Cm):List Str:=cm.map (·.1)
structure Came (S:List Mt22.St) (cm:Cm):Prop where
 nd:(keys cm).Nodup
 first:cm[0]? = some (Mt22.sea,none)
 prev:∀ (i:Nat) (z:Str) (o:Option Mt22.St),0 < i → cm[i]? = some (z,o) → ∃ s,o = some s ∧ s ∈ S ∧ s.far = z ∧ s.near ∈ keys (cm.take i)
def tU (S:List Mt22.St) (cm:Cm) (p:Nat):Prop:=∀ (i:Nat) (u:Str),i < p → (keys cm)[i]? = some u → ∀ s ∈ S,s.near = u → s.far ∈ keys cm
theorem lD (a b:Cm):keys (a ++ b) = keys a ++ keys b:=AW
theorem tU.snoc {S:List Mt22.St} {cm:Cm} {p:Nat} (h:tU S cm p) (hp:p ≤ cm.length) (x:Str × Option Mt22.St):tU S (cm ++ [x]) p:=fun i u hi e s ms en=>by
 rw [lD,Bf (by unfold keys;rw [AA];omega)] at e
 rw [lD]
 exact CA _ (h i u hi e s ms en)
inductive Chain (S:List Mt22.St):List Mt22.St → Str → Prop
 | nil:Chain S [] Mt22.sea
 | snoc {ss:List Mt22.St} {s:Mt22.St} (c:Chain S ss s.near) (m:s ∈ S) (n:s.far ∉ ss.map (·.far)):Chain S (ss ++ [s]) s.far
def hm (ss:List Mt22.St):Int:=ss.foldl (fun a s=>max a s.h) (-1000000)
theorem zF {S:List Mt22.St} {ss:List Mt22.St} {v:Str} (c:Chain S ss v):(∀ s ∈ ss,s ∈ S) ∧ (ss.map (·.far)).Nodup:=by
 induction c with
 | nil=>exact ⟨(fun s m=>by cases m),by simp⟩
 | @snoc ss s c m n ih =>
  refine ⟨fun t mt=>?_,?_⟩
  ·rcases Ak.mp mt with mt | mt
   ·exact ih.1 t mt
   ·rw [AU.mp mt];exact m
  ·rw [AW,DD]
   refine ⟨ih.2,by simp,fun a ha b hb=>?_⟩
   have hb':b = s.far:=AU.mp hb
   intro e
   have e':a = s.far:=e.trans hb'
   exact n (e' ▸ ha)
def aRE (S:List Mt22.St) (cm:Cm) (j:Nat) (z:Str) (tl:List Mt22.St) (side:Str):Prop:=∀ ss,Chain S ss z → (∀ y ∈ ss.map (·.far),y ∈ keys (cm.take (j + 1))) → Chain S (ss ++ tl) side
theorem aHJ {S:List Mt22.St} {cm:Cm} (h:Came S cm) {i j:Nat} {z:Str} {s:Mt22.St} {tl:List Mt22.St} {side:Str} (hj:cm[j]? = some (z,some s)) (ms:s ∈ S) (hf:s.far = z) (hi:i < j) (hu:(keys cm)[i]? = some s.near) (t:aRE S cm j z tl side):aRE S cm i s.near (s :: tl) side:=fun ss c sub=>by
 have e:ss ++ s :: tl = (ss ++ [s]) ++ tl:=by rw [CH];rfl
 have kj:(keys cm)[j]? = some z:=by unfold keys;rw [AR,hj];rfl
 have ktake:∀ n,keys (cm.take n) = (keys cm).take n:=fun n=>by unfold keys;rw [FK]
 have fresh:s.far ∉ ss.map (·.far):=fun m=>by
  have h1:=sub _ m
  rw [ktake,hf] at h1
  obtain ⟨k,hk⟩:=BI.mp h1
  have hkl:=(AE.mp hk).1
  rw [AZ] at hkl
  rw [Bt (by omega)] at hk
  obtain ⟨h2,e2⟩:=AE.mp hk
  obtain ⟨h3,e3⟩:=AE.mp kj
  have:=(Dc h.nd).mp (e2.trans e3.symm)
  omega
 rw [e]
 refine t (ss ++ [s]) (hf ▸ Chain.snoc c ms fresh) fun y my=>?_
 rw [ktake]
 rw [AW] at my
 rcases Ak.mp my with my | my
 ·have:=sub y my
  rw [ktake] at this
  obtain ⟨k,hk⟩:=BI.mp this
  have hkl:=(AE.mp hk).1
  rw [AZ] at hkl
  rw [Bt (by omega)] at hk
  exact AS (i:=k) (by rw [Bt (by omega)];exact hk)
 ·have:y = s.far:=AU.mp my
  rw [this,hf]
  exact AS (i:=j) (by rw [Bt (by omega)];exact kj)
end Mt31
namespace Mt61
open PySem L2 Mt22 Mt31
structure Gap where
 nm:Str
 a:Str
 b:Str
 cap:Int
abbrev Fl:=Str → Int
def sm {α:Type} (xs:List α) (f:α → Int):Int:=(xs.map f).sum
section
variable {α β:Type}
theorem zW (f:α → Int):sm [] f = 0:=rfl
theorem bK (x:α) (xs:List α) (f:α → Int):sm (x :: xs) f = f x + sm xs f:=by
 unfold sm;rw [Ac,List.sum_cons]
theorem aJX (f:α → Int):∀ xs ys:List α,sm (xs ++ ys) f = sm xs f + sm ys f
 | [],ys=>by rw [Ek,zW];omega
 | x :: xs,ys=>by rw [List.cons_append,bK,bK,aJX f xs ys];omega
theorem gO {f g:α → Int}:∀ {xs:List α},(∀ x ∈ xs,f x = g x) → sm xs f = sm xs g
 | [],_=>rfl
 | x :: xs,h=>by rw [bK,bK,h x AY,gO fun y m=>h y (AV _ m)]
theorem aCF {f g:α → Int}:∀ {xs:List α},(∀ x ∈ xs,f x ≤ g x) → sm xs f ≤ sm xs g
 | [],_=>EI _
 | x :: xs,h=>by
  rw [bK,bK]
  have:=h x AY
  have:=aCF (xs:=xs) fun y m=>h y (AV _ m)
  omega
theorem kF {f:α → Int} {xs:List α} (h:∀ x ∈ xs,f x = 0):sm xs f = 0:=by
 rw [gO h]
 induction xs with
 | nil=>rfl
 | cons x xs ih=>rw [bK,ih fun y m=>h y (AV _ m)];rfl
theorem uQ (f g:α → Int):∀ xs:List α,sm xs (fun x=>f x + g x) = sm xs f + sm xs g
 | []=>rfl
 | x :: xs=>by rw [bK,bK,bK,uQ f g xs];omega
theorem aEJ (f g:α → Int):∀ xs:List α,sm xs (fun x=>f x - g x) = sm xs f - sm xs g
 | []=>rfl
 | x :: xs=>by rw [bK,bK,bK,aEJ f g xs];omega
theorem aGK (f:α → β → Int) (ys:List β):∀ xs:List α,sm xs (fun x=>sm ys (f x)) = sm ys (fun y=>sm xs fun x=>f x y)
 | []=>(kF (fun _ _=>rfl)).symm
 | x :: xs=>by
  rw [bK,aGK f ys xs,← uQ]
  exact gO fun y _=>by rw [bK]
theorem aCE (X:α → Bool) (f:α → Int):∀ xs:List α,sm xs f = sm (xs.filter X) f + sm (xs.filter fun x=>!X x) f
 | []=>rfl
 | x :: xs=>by
  rw [bK,aCE X f xs]
  cases h:X x with
  | true=>rw [ET h,EU (by simp [h]),bK];omega
  | false=>rw [EU (by simp [h]),ET (by simp [h]),bK];omega
theorem oJ (X:α → Bool) (f:α → Int):∀ xs:List α,sm (xs.filter X) f = sm xs fun x=>if X x = true then f x else 0
 | []=>rfl
 | x :: xs=>by
  cases h:X x with
  | true=>rw [ET h,bK,bK,if_pos h,oJ X f xs]
  | false=>rw [EU (by simp [h]),bK,if_neg (by simp [h]),oJ X f xs];omega
end
theorem zV {V:List Str} (X:Str → Bool) {w:Str} (c:Int) (nd:V.Nodup) (m:w ∈ V):sm (V.filter X) (fun v=>if w = v then c else 0) = if X w = true then c else 0:=by
 rw [oJ]
 induction V with
 | nil=>cases m
 | cons v V ih =>
  rw [Aq] at nd
  rw [bK]
  by_cases e:w = v
  ·subst e
   rw [kF (xs:=V) fun x mx=>?_]
   ·simp
   ·have:w ≠ x:=fun e=>nd.1 (e ▸ mx)
    simp [this]
  ·have mV:w ∈ V:=by
    rcases Af.mp m with h | h
    ·exact absurd h e
    ·exact h
   rw [ih nd.2 mV]
   simp [e]
theorem aGJ {G:List Gap} (nd:(G.map (·.nm)).Nodup) {g0:Gap} (m:g0 ∈ G) (c:Gap → Int):sm G (fun g=>if g.nm = g0.nm then c g else 0) = c g0:=by
 induction G with
 | nil=>cases m
 | cons g G ih =>
  rw [Ac,Aq] at nd
  rw [bK]
  rcases Af.mp m with rfl | m
  ·rw [kF (xs:=G) fun x mx=>?_]
   ·simp
   ·have:x.nm ≠ g0.nm:=fun e=>nd.1 (e ▸ AT.mpr ⟨x,mx,rfl⟩)
    simp [this]
  ·have:g.nm ≠ g0.nm:=fun e=>nd.1 (e ▸ AT.mpr ⟨g0,m,rfl⟩)
   rw [ih nd.2 m]
   simp [this]
def aCV (f:Fl) (v:Str) (g:Gap):Int:=(if g.b = v then f g.nm else 0) - (if g.a = v then f g.nm else 0)
def net (G:List Gap) (f:Fl) (v:Str):Int:=sm G (aCV f v)
def aIG (X:Str → Bool) (f:Fl) (g:Gap):Int:=(if X g.b = true then f g.nm else 0) - (if X g.a = true then f g.nm else 0)
def val (G:List Gap) (f:Fl):Int:=- net G f sea
def nX (X:Str → Bool) (g:Gap):Int:=if X g.a = X g.b then 0 else g.cap
def cut (G:List Gap) (X:Str → Bool):Int:=sm G (nX X)
structure Gaps (V:List Str) (G:List Gap):Prop where
 nd:(G.map (·.nm)).Nodup
 ends:∀ g ∈ G,g.a ∈ V ∧ g.b ∈ V ∧ g.a ≠ g.b
 cap:∀ g ∈ G,0 ≤ g.cap
 vnd:V.Nodup
 sea:Mt22.sea ∈ V
def aFS (G:List Gap) (f:Fl):Prop:=∀ g ∈ G,-g.cap ≤ f g.nm ∧ f g.nm ≤ g.cap
theorem aGR {V:List Str} {G:List Gap} (h:Gaps V G) (X:Str → Bool) (f:Fl):sm (V.filter X) (net G f) = sm G (aIG X f):=by
 unfold net
 rw [aGK]
 refine gO fun g mg=>?_
 obtain ⟨ma,mb,_⟩:=h.ends g mg
 show sm (V.filter X) (fun v=>(if g.b = v then f g.nm else 0) - (if g.a = v then f g.nm else 0)) = _
 rw [aEJ,zV X (f g.nm) h.vnd mb,zV X (f g.nm) h.vnd ma]
 rfl
theorem aOG {V:List Str} {G:List Gap} (h:Gaps V G) (f:Fl):sm V (net G f) = 0:=by
 have:=aGR h (fun _=>true) f
 rw [List.filter_eq_self.mpr (fun _ _=>rfl)] at this
 rw [this]
 refine kF fun g _=>?_
 unfold aIG
 simp
theorem aBR {V:List Str} {G:List Gap} (h:Gaps V G) {f:Fl} {X:Str → Bool} (hs:X Mt22.sea = false) (hz:∀ v ∈ V,v ≠ Mt22.sea → X v = false → net G f v = 0):sm G (aIG X f) = val G f:=by
 rw [← aGR h X f]
 have a:=aOG h f
 rw [aCE X (net G f) V] at a
 have b:sm (V.filter fun x=>!X x) (net G f) = net G f Mt22.sea:=by
  have e:sm (V.filter fun x=>!X x) (net G f) = sm (V.filter fun x=>!X x) (fun v=>if Mt22.sea = v then net G f Mt22.sea else 0):=gO fun v mv=>by
   rw [Ar] at mv
   by_cases hv:Mt22.sea = v
   ·rw [if_pos hv,hv]
   ·rw [if_neg hv]
    exact hz v mv.1 (fun e=>hv e.symm) (by simpa using mv.2)
  rw [e,zV (fun x=>!X x) _ h.vnd h.sea,hs]
  rfl
 unfold val
 omega
theorem aOO {G:List Gap} {f:Fl} (hf:aFS G f) (X:Str → Bool):∀ g ∈ G,aIG X f g ≤ nX X g:=fun g m=>by
 obtain ⟨h1,h2⟩:=hf g m
 unfold aIG nX
 cases ha:X g.a <;> cases hb:X g.b <;> simp <;> omega
theorem aPS {V:List Str} {G:List Gap} (h:Gaps V G) {f:Fl} (hf:aFS G f) {X:Str → Bool} (hs:X Mt22.sea = false) (hz:∀ v ∈ V,v ≠ Mt22.sea → X v = false → net G f v = 0):val G f ≤ cut G X:=by
 rw [← aBR h hs hz]
 exact aCF (aOO hf X)
theorem aPT {V:List Str} {G:List Gap} (h:Gaps V G) {f:Fl} {X:Str → Bool} (hs:X Mt22.sea = false) (hz:∀ v ∈ V,v ≠ Mt22.sea → X v = false → net G f v = 0)
  (h1:∀ g ∈ G,X g.a = false → X g.b = true → f g.nm = g.cap) (h2:∀ g ∈ G,X g.a = true → X g.b = false → f g.nm = -g.cap):val G f = cut G X:=by
 rw [← aBR h hs hz]
 refine gO fun g m=>?_
 have e1:=h1 g m
 have e2:=h2 g m
 unfold aIG nX
 cases ha:X g.a <;> cases hb:X g.b <;> simp [ha,hb] at e1 e2 ⊢ <;> omega
def up (g:Gap):Mt22.St:=⟨g.nm,g.a,g.b,1⟩
def dn (g:Gap):Mt22.St:=⟨g.nm,g.b,g.a,-1⟩
def stepsOf (G:List Gap):List Mt22.St:=G.flatMap fun g=>[up g,dn g]
theorem jI {G:List Gap} {s:Mt22.St}:s ∈ stepsOf G ↔ ∃ g ∈ G,s = up g ∨ s = dn g:=by
 unfold stepsOf
 rw [List.mem_flatMap]
 simp
def kE (m:Int) (f:Fl) (s:Mt22.St):Fl:=fun n=>if n = s.nm then f n + s.h * m else f n
theorem aOH {V:List Str} {G:List Gap} (h:Gaps V G) {s:Mt22.St} (ms:s ∈ stepsOf G) (m:Int) (f:Fl) (v:Str):net G (kE m f s) v = net G f v + ((if s.far = v then m else 0) - (if s.near = v then m else 0)):=by
 obtain ⟨g0,m0,e⟩:=jI.mp ms
 have key:net G (kE m f s) v = net G f v + sm G (fun g=>if g.nm = g0.nm then ((if s.far = v then m else 0) - (if s.near = v then m else 0)) else 0):=by
  unfold net
  rw [← uQ]
  refine gO fun g mg=>?_
  unfold aCV kE
  have hn:s.nm = g0.nm:=by rcases e with rfl | rfl <;> rfl
  by_cases hg:g.nm = g0.nm
  ·have eg:g = g0:=by
    have nd:=h.nd
    obtain ⟨i,hi⟩:=BI.mp mg
    obtain ⟨j,hj⟩:=BI.mp m0
    obtain ⟨li,ei⟩:=AE.mp hi
    obtain ⟨lj,ej⟩:=AE.mp hj
    have:i = j:=(Dc (xs:=G.map (·.nm)) (h₀:=by rw [AA];exact li) (h₁:=by rw [AA];exact lj) nd).mp (by rw [ES,ES,ei,ej,hg])
    subst this
    rw [← ei,← ej]
   subst eg
   rw [if_pos hg,if_pos hn.symm]
   rcases e with rfl | rfl
   ·show (if g.b = v then f g.nm + 1 * m else 0) - (if g.a = v then f g.nm + 1 * m else 0) = (if g.b = v then f g.nm else 0) - (if g.a = v then f g.nm else 0) + ((if g.b = v then m else 0) - (if g.a = v then m else 0))
    split <;> split <;> omega
   ·show (if g.b = v then f g.nm + -1 * m else 0) - (if g.a = v then f g.nm + -1 * m else 0) = (if g.b = v then f g.nm else 0) - (if g.a = v then f g.nm else 0) + ((if g.a = v then m else 0) - (if g.b = v then m else 0))
    split <;> split <;> omega
  ·have hg':¬ g.nm = s.nm:=fun e=>hg (e.trans hn)
   simp only [if_neg hg,if_neg hg']
   omega
 rw [key,aGJ h.nd m0]
theorem rQ {V:List Str} {G:List Gap} (h:Gaps V G) {S ss:List Mt22.St} {z:Str} (c:Chain S ss z) (hS:∀ s ∈ S,s ∈ stepsOf G) (m:Int) (f:Fl) (v:Str):net G (ss.foldl (kE m) f) v = net G f v + ((if z = v then m else 0) - (if Mt22.sea = v then m else 0)):=by
 induction c with
 | nil =>
  show net G f v = _
  omega
 | @snoc ss s c ms n ih =>
  rw [List.foldl_append]
  show net G (kE m (ss.foldl (kE m) f) s) v = _
  rw [aOH h (hS s ms),ih]
  omega
theorem aGW (m:Int) (n:Str):∀ (ss:List Mt22.St) (f:Fl),(ss.foldl (kE m) f) n = f n + m * sm ss (fun s=>if s.nm = n then s.h else 0)
 | [],f=>by rw [zW,Int.mul_zero,Int.add_zero];rfl
 | s :: ss,f=>by
  show (ss.foldl (kE m) (kE m f s)) n = _
  rw [aGW m n ss,bK,Int.mul_add]
  unfold kE
  by_cases e:s.nm = n
  ·rw [if_pos e,if_pos e.symm,Int.mul_comm m s.h]
   omega
  ·rw [if_neg e,if_neg (fun q=>e q.symm),Int.mul_zero]
   omega
theorem aOR {V:List Str} {G:List Gap} (h:Gaps V G) {g g':Gap} (m:g ∈ G) (m':g' ∈ G) (e:g.nm = g'.nm):g = g':=by
 obtain ⟨i,hi⟩:=BI.mp m
 obtain ⟨j,hj⟩:=BI.mp m'
 obtain ⟨li,ei⟩:=AE.mp hi
 obtain ⟨lj,ej⟩:=AE.mp hj
 have:i = j:=(Dc (xs:=G.map (·.nm)) (h₀:=by rw [AA];exact li) (h₁:=by rw [AA];exact lj) h.nd).mp (by rw [ES,ES,ei,ej,e])
 subst this
 rw [← ei,← ej]
instance stDec:DecidableEq Mt22.St:=fun a b=>decidable_of_iff (a.nm = b.nm ∧ a.near = b.near ∧ a.far = b.far ∧ a.h = b.h) (by
 cases a;cases b;simp)
theorem aCG {V:List Str} {G:List Gap} (h:Gaps V G) {g:Gap} (mg:g ∈ G):∀ {ss:List Mt22.St},(∀ s ∈ ss,s ∈ stepsOf G) → ss.Nodup → sm ss (fun s=>if s.nm = g.nm then s.h else 0) = (if up g ∈ ss then 1 else 0) - (if dn g ∈ ss then 1 else 0)
 | [],_,_=>by simp [zW]
 | s :: ss,hs,nd=>by
  rw [Aq] at nd
  rw [bK,aCG h mg (fun t m=>hs t (AV _ m)) nd.2]
  have ne:up g ≠ dn g:=fun e=>by
   have:=congrArg Mt22.St.h e
   exact absurd this (by show (1:Int) ≠ -1;decide)
  by_cases e:s.nm = g.nm
  ·obtain ⟨g',m',e'⟩:=jI.mp (hs s AY)
   have eg:g' = g:=aOR h m' mg (by rcases e' with rfl | rfl <;> exact e)
   subst eg
   rcases e' with rfl | rfl
   ·rw [if_pos e,if_pos AY,if_neg nd.1]
    have:(dn g' ∈ up g' :: ss) ↔ dn g' ∈ ss:=by simp [Ne.symm ne]
    simp only [this]
    show (1:Int) + _ = _
    omega
   ·rw [if_pos e,if_pos (show dn g' ∈ dn g' :: ss from AY),if_neg nd.1]
    have:(up g' ∈ dn g' :: ss) ↔ up g' ∈ ss:=by simp [ne]
    simp only [this]
    show (-1:Int) + _ = _
    omega
  ·have n1:s ≠ up g:=fun q=>e (by rw [q];rfl)
   have n2:s ≠ dn g:=fun q=>e (by rw [q];rfl)
   have:(up g ∈ s :: ss) ↔ up g ∈ ss:=by simp [Ne.symm n1]
   have h2:(dn g ∈ s :: ss) ↔ dn g ∈ ss:=by simp [Ne.symm n2]
   simp only [this,h2,if_neg e]
   omega
def qX (G:List Gap) (n:Str):Int:=sm G fun g=>if g.nm = n then g.cap else 0
theorem nY {V:List Str} {G:List Gap} (h:Gaps V G) {g:Gap} (m:g ∈ G):qX G g.nm = g.cap:=aGJ h.nd m (·.cap)
def room (G:List Gap) (f:Fl) (s:Mt22.St):Int:=qX G s.nm - s.h * f s.nm
theorem aGM {V:List Str} {G:List Gap} (h:Gaps V G) {g:Gap} (m:g ∈ G) (f:Fl):room G f (up g) = g.cap - f g.nm:=by
 show qX G g.nm - 1 * f g.nm = _
 rw [nY h m]
 omega
theorem aGN {V:List Str} {G:List Gap} (h:Gaps V G) {g:Gap} (m:g ∈ G) (f:Fl):room G f (dn g) = g.cap + f g.nm:=by
 show qX G g.nm - -1 * f g.nm = _
 rw [nY h m]
 omega
theorem aFJ {V:List Str} {G:List Gap} (h:Gaps V G) {S ss:List Mt22.St} {z:Str} (c:Chain S ss z) (hS:∀ s ∈ S,s ∈ stepsOf G) {m:Int} (m0:0 ≤ m) {f:Fl} (hf:aFS G f) (hr:∀ s ∈ ss,m ≤ room G f s):aFS G (ss.foldl (kE m) f):=fun g mg=>by
 obtain ⟨f1,f2⟩:=hf g mg
 obtain ⟨sub,nd⟩:=zF c
 have nd':ss.Nodup:=by
  rw [DF]
  exact ((List.pairwise_map.mp (DF.mp nd))).imp fun hne e=>hne (by rw [e])
 rw [aGW,aCG h mg (fun s ms=>hS s (sub s ms)) nd']
 have r1:up g ∈ ss → m ≤ g.cap - f g.nm:=fun q=>by have:=hr _ q;rwa [aGM h mg] at this
 have r2:dn g ∈ ss → m ≤ g.cap + f g.nm:=fun q=>by have:=hr _ q;rwa [aGN h mg] at this
 by_cases u:up g ∈ ss <;> by_cases d:dn g ∈ ss
 ·rw [if_pos u,if_pos d];have:=r1 u;have:=r2 d;omega
 ·rw [if_pos u,if_neg d];have:=r1 u;omega
 ·rw [if_neg u,if_pos d];have:=r2 d;omega
 ·rw [if_neg u,if_neg d];omega
structure Stream (V:List Str) (G:List Gap) (ws:List Str) (f:Fl):Prop where
 fits:aFS G f
 zero:∀ v ∈ V,v ≠ Mt22.sea → v ∉ ws → net G f v = 0
 gain:∀ v ∈ ws,0 ≤ net G f v
theorem Stream.none {V:List Str} {G:List Gap} (h:Gaps V G) (ws:List Str) {f:Fl} (hf:∀ g ∈ G,f g.nm = 0):Stream V G ws f:=by
 have z:∀ v,net G f v = 0:=fun v=>kF fun g m=>by
  unfold aCV
  rw [hf g m]
  simp
 refine ⟨fun g m=>?_,fun v _ _ _=>z v,fun v _=>by rw [z v];exact EI _⟩
 have:=h.cap g m
 rw [hf g m]
 omega
theorem Stream.more {V:List Str} {G:List Gap} (h:Gaps V G) {ws:List Str} {f:Fl} (st:Stream V G ws f) {S ss:List Mt22.St} {z:Str} (c:Chain S ss z) (hS:∀ s ∈ S,s ∈ stepsOf G) {m:Int} (m0:0 ≤ m) (hr:∀ s ∈ ss,m ≤ room G f s) (mz:z ∈ ws) (ns:Mt22.sea ∉ ws) :
  Stream V G ws (ss.foldl (kE m) f) ∧ val G (ss.foldl (kE m) f) = val G f + m:=by
 have zs:z ≠ Mt22.sea:=fun e=>ns (e ▸ mz)
 refine ⟨⟨aFJ h c hS m0 st.fits hr,fun v mv hv hw=>?_,fun v mv=>?_⟩,?_⟩
 ·rw [rQ h c hS,st.zero v mv hv hw,if_neg (show ¬ z = v from fun e=>hw (e ▸ mz)),if_neg (show ¬ Mt22.sea = v from fun e=>hv e.symm)]
  rfl
 ·rw [rQ h c hS,if_neg (show ¬ Mt22.sea = v from fun e=>ns (e ▸ mv))]
  have:=st.gain v mv
  split <;> omega
 ·unfold val
  rw [rQ h c hS,if_neg zs,if_pos rfl]
  omega
def aBV (G:List Gap):Int:=sm G (·.cap)
theorem aHH {V:List Str} {G:List Gap} (h:Gaps V G) {f:Fl} (hf:aFS G f):val G f ≤ aBV G:=by
 unfold val net aBV
 have:sm G (aCV f Mt22.sea) ≥ sm G (fun g=>0 - g.cap):=aCF fun g m=>by
  obtain ⟨f1,f2⟩:=hf g m
  obtain ⟨_,_,ne⟩:=h.ends g m
  have:=h.cap g m
  unfold aCV
  by_cases e1:g.b = Mt22.sea <;> by_cases e2:g.a = Mt22.sea
  ·exact absurd (e2.trans e1.symm) ne
  ·rw [if_pos e1,if_neg e2];omega
  ·rw [if_neg e1,if_pos e2];omega
  ·rw [if_neg e1,if_neg e2];omega
 rw [aEJ,kF (f:=fun _=>(0:Int)) (fun _ _=>rfl)] at this
 have e:(sm G fun x=>x.cap) = sm G Gap.cap:=rfl
 omega
structure Round (G:List Gap) (f:Fl) (ws R B:List Str):Prop where
 sea:Mt22.sea ∈ R
 closed:∀ s ∈ stepsOf G,0 < room G f s → s.near ∈ R → s.far ∈ R
 wout:∀ z ∈ ws,z ∉ R
 win:∀ z ∈ ws,z ∈ B
 bout:∀ z ∈ B,z ∉ R
 bclosed:∀ s ∈ stepsOf G,s.far ∉ R → s.near ∈ B → s.far ∈ B
instance memStr (z:Str) (l:List Str):Decidable (z ∈ l):=inferInstance
def inB (B:List Str):Str → Bool:=fun z=>decide (z ∈ B)
theorem pK {V:List Str} {G:List Gap} (h:Gaps V G) {f:Fl} (hf:aFS G f) {ws R B:List Str} (r:Round G f ws R B) {g:Gap} (m:g ∈ G) :
  (g.a ∉ B → g.b ∈ B → g.a ∈ R ∧ f g.nm = g.cap) ∧ (g.a ∈ B → g.b ∉ B → g.b ∈ R ∧ f g.nm = -g.cap):=by
 obtain ⟨f1,f2⟩:=hf g m
 have mu:up g ∈ stepsOf G:=jI.mpr ⟨g,m,.inl rfl⟩
 have md:dn g ∈ stepsOf G:=jI.mpr ⟨g,m,.inr rfl⟩
 refine ⟨fun ha hb=>?_,fun ha hb=>?_⟩
 ·have aR:g.a ∈ R:=Dp fun n=>ha (r.bclosed _ md n hb)
  refine ⟨aR,?_⟩
  have:¬ 0 < room G f (up g):=fun q=>r.bout _ hb (r.closed _ mu q aR)
  rw [aGM h m] at this
  omega
 ·have bR:g.b ∈ R:=Dp fun n=>hb (r.bclosed _ mu n ha)
  refine ⟨bR,?_⟩
  have:¬ 0 < room G f (dn g):=fun q=>r.bout _ ha (r.closed _ md q bR)
  rw [aGN h m] at this
  omega
theorem yD {V:List Str} {G:List Gap} (h:Gaps V G) {f:Fl} {ws R B:List Str} (st:Stream V G ws f) (r:Round G f ws R B):val G f = cut G (inB B):=by
 have sB:Mt22.sea ∉ B:=fun m=>r.bout _ m r.sea
 refine aPT h (decide_eq_false sB) (fun v mv hv hX=>?_) (fun g m ha hb=>?_) (fun g m ha hb=>?_)
 ·exact st.zero v mv hv fun w=>(of_decide_eq_false hX) (r.win v w)
 ·exact ((pK h st.fits r m).1 (of_decide_eq_false ha) (of_decide_eq_true hb)).2
 ·exact ((pK h st.fits r m).2 (of_decide_eq_true ha) (of_decide_eq_false hb)).2
def eM (G:List Gap) (R B:List Str):List Mt22.St:=(stepsOf G).filter fun s=>decide (s.near ∈ R) && decide (s.far ∈ B)
theorem aEO {V:List Str} {G:List Gap} (h:Gaps V G) {f:Fl} {ws R B:List Str} (st:Stream V G ws f) (r:Round G f ws R B):sm (eM G R B) (fun s=>qX G s.nm) = val G f:=by
 rw [yD h st r]
 unfold eM cut stepsOf
 rw [oJ]
 have key:∀ G':List Gap,(∀ g ∈ G',g ∈ G) → sm (G'.flatMap fun g=>[up g,dn g]) (fun s=>if (decide (s.near ∈ R) && decide (s.far ∈ B)) = true then qX G s.nm else 0) = sm G' (nX (inB B)):=by
  intro G'
  induction G' with
  | nil=>intro _;rfl
  | cons g G' ih =>
   intro sub
   have m:=sub g AY
   rw [FS,aJX,ih fun x mx=>sub x (AV _ mx),bK g]
   congr 1
   rw [bK,bK,zW]
   show (if (decide (g.a ∈ R) && decide (g.b ∈ B)) = true then qX G g.nm else 0) + ((if (decide (g.b ∈ R) && decide (g.a ∈ B)) = true then qX G g.nm else 0) + 0) = (if decide (g.a ∈ B) = decide (g.b ∈ B) then 0 else g.cap)
   rw [nY h m]
   obtain ⟨e1,e2⟩:=pK h st.fits r m
   by_cases ha:g.a ∈ B <;> by_cases hb:g.b ∈ B
   ·have:=r.bout _ ha
    have:=r.bout _ hb
    simp [*]
   ·have:=r.bout _ ha
    have:=(e2 ha hb).1
    simp [*]
   ·have:=r.bout _ hb
    have:=(e1 ha hb).1
    simp [*]
   ·simp [*]
 exact key G fun g m=>m
def dC (G:List Gap) (ws:List Str) (c:Int):Prop:=(∃ X:Str → Bool,X Mt22.sea = false ∧ (∀ z ∈ ws,X z = true) ∧ cut G X = c) ∧ ∀ X:Str → Bool,X Mt22.sea = false → (∀ z ∈ ws,X z = true) → c ≤ cut G X
theorem sQ {V:List Str} {G:List Gap} (h:Gaps V G) {f:Fl} {ws R B:List Str} (st:Stream V G ws f) (r:Round G f ws R B):dC G ws (val G f):=by
 refine ⟨⟨inB B,decide_eq_false fun m=>r.bout _ m r.sea,fun z m=>decide_eq_true (r.win z m),(yD h st r).symm⟩,fun X hs hw=>?_⟩
 refine aPS h st.fits hs fun v mv hv hX=>st.zero v mv hv fun w=>?_
 rw [hw v w] at hX
 cases hX
theorem dC.uniq {G:List Gap} {ws:List Str} {c d:Int} (h:dC G ws c) (h':dC G ws d):c = d:=by
 obtain ⟨⟨X,s,w,e⟩,a⟩:=h
 obtain ⟨⟨X',s',w',e'⟩,a'⟩:=h'
 have:=a X' s' w'
 have:=a' X s w
 omega
end Mt61
namespace Mt61
open PySem L2 Mt22 Mt31
structure CameG (zs:List Str) (S:List Mt22.St) (cm:Cm):Prop where
 nd:(keys cm).Nodup
 le:zs.length ≤ cm.length
 first:∀ (i:Nat) (z:Str),zs[i]? = some z → cm[i]? = some (z,none)
 prev:∀ (i:Nat) (z:Str) (o:Option Mt22.St),zs.length ≤ i → cm[i]? = some (z,o) → ∃ s,o = some s ∧ s ∈ S ∧ s.far = z ∧ s.near ∈ keys (cm.take i)
theorem CameG.snoc {zs:List Str} {S:List Mt22.St} {cm:Cm} (h:CameG zs S cm) {s:Mt22.St} (ms:s ∈ S) (hn:s.near ∈ keys cm) (hf:s.far ∉ keys cm):CameG zs S (cm ++ [(s.far,some s)]) where
 nd:=by
  rw [lD,DD]
  refine ⟨h.nd,by simp [keys],fun a ha b hb=>?_⟩
  have:b = s.far:=by simpa [keys] using hb
  rw [this]
  exact fun e=>hf (e ▸ ha)
 le:=by
  rw [Ag]
  have:=h.le
  omega
 first i z e:=by
  have:=(AE.mp e).1
  have:=h.le
  rw [Bf (by omega)]
  exact h.first i z e
 prev i z o hi e:=by
  by_cases hl:i < cm.length
  ·rw [Bf hl] at e
   obtain ⟨t,h1,h2,h3,h4⟩:=h.prev i z o hi e
   exact ⟨t,h1,h2,h3,by rw [List.take_append_of_le_length (Dw hl)];exact h4⟩
  ·have hlen:=(AE.mp e).1
   rw [Ag] at hlen
   have hi':i = cm.length:=by
    have:([(s.far,some s)]:Cm).length = 1:=rfl
    omega
   subst hi'
   rw [Cc (AL _),FX] at e
   cases e
   refine ⟨s,rfl,ms,rfl,?_⟩
   rw [List.take_append_of_le_length (AL _),AI (AL _)]
   exact hn
theorem CameG.init {zs:List Str} (S:List Mt22.St) (nd:zs.Nodup):CameG zs S (zs.map fun z=>(z,none)) where
 nd:=by
  have:keys (zs.map fun z=>((z,none):Str × Option Mt22.St)) = zs:=by unfold keys;rw [At];exact List.map_id _
  rw [this]
  exact nd
 le:=by rw [AA];exact AL _
 first i z e:=by rw [AR,e];rfl
 prev i z o hi e:=by
  have:=(AE.mp e).1
  rw [AA] at this
  omega
theorem CameG.came {S:List Mt22.St} {cm:Cm} (h:CameG [Mt22.sea] S cm):Came S cm:=⟨h.nd,h.first 0 _ rfl,fun i z o hi e=>h.prev i z o (by show 1 ≤ i;omega) e⟩
theorem CameG.mem {zs:List Str} {S:List Mt22.St} {cm:Cm} (h:CameG zs S cm) {z:Str} (m:z ∈ keys cm):z ∈ zs ∨ ∃ s ∈ S,s.far = z:=by
 unfold keys at m
 obtain ⟨x,mx,rfl⟩:=AT.mp m
 obtain ⟨i,hi⟩:=BI.mp mx
 by_cases hl:i < zs.length
 ·obtain ⟨z,ez⟩:∃ z,zs[i]? = some z:=⟨_,AD hl⟩
  have:=h.first i z ez
  rw [hi] at this
  cases this
  exact .inl (AS ez)
 ·obtain ⟨s,_,ms,e,_⟩:=h.prev i x.1 x.2 (by omega) hi
  exact .inr ⟨s,ms,e⟩
theorem CameG.start {zs:List Str} {S:List Mt22.St} {cm:Cm} (h:CameG zs S cm) {z:Str} (m:z ∈ zs):z ∈ keys cm:=by
 obtain ⟨i,hi⟩:=BI.mp m
 exact AT.mpr ⟨_,AS (h.first i z hi),rfl⟩
theorem nH {S:List Mt22.St} {cm:Cm} (c:tU S cm cm.length):∀ s ∈ S,s.near ∈ keys cm → s.far ∈ keys cm:=fun s ms hn=>by
 obtain ⟨i,hi⟩:=BI.mp hn
 have hl:=(AE.mp hi).1
 unfold keys at hl
 rw [AA] at hl
 exact c i _ hl hi s ms rfl
end Mt61
namespace Mt05
open PySem L2 Ld Mt02
def noS (z:Str):Prop:=¬ (115:Nat) ∈ z.cps.toList
structure NamesS (zs:List Str) (n:Nat):Prop where
 nm:Names zs n
 nos:∀ z ∈ zs,noS z
end Mt05
namespace L2
open PySem PySem.Spec PyProof.Rows
theorem aIX:BN "sum" = some (.builtin "sum"):=by decide +kernel
theorem nQ {ns:List Int} {us:List Value} (h:IntsAre us ns):us.length = ns.length ∧ ∀ (i:Nat) (v:Value),us[i]? = some v → ∃ t,v = .int (ns.getD i 0) t:=by
 induction h with
 | nil=>exact ⟨rfl,fun i v e=>by cases e⟩
 | cons n t r ih =>
  refine ⟨by rw [Am,Am,ih.1],fun i v e=>?_⟩
  cases i with
  | zero=>cases e;exact ⟨t,rfl⟩
  | succ i=>exact ih.2 i v e
theorem sR (ns:List Int):∀ n,n ≤ ns.length → preSum (fun i=>ns.getD i 0) n = (ns.take n).sum
 | 0,_=>by rw [List.take_zero];rfl
 | n + 1,h=>by
  have ih:=sR ns n (by omega)
  have e:ns.take (n + 1) = ns.take n ++ [ns.getD n 0]:=by
   rw [Ai,AD (by omega),Aa,AD (by omega)]
   rfl
  rw [e,List.sum_append,← ih]
  show preSum _ n + ns.getD n 0 = _
  simp
section
variable {X:Cx}
theorem aMT (hc:X.calm = true):fG X (.builtin "sum") (fun xs H Q=>∃ (p:Addr) (ns:List Int),xs = [.ref p] ∧ SqL X.K H p (ns.map V.int) ∧ Q (.int ns.sum) H):=by
 intro pins s σ H xs us Q I r h
 obtain ⟨p,ns,rfl,hq,q⟩:=h
 obtain ⟨u,rfl,ru⟩:=bC.one r
 cases ru
 obtain ⟨its,rv,pl,hz⟩:=I.list hq
 have hb:=nQ (wE rv)
 have hl:=pl.isList
 have hlt:p < s.heap.objs.size:=by obtain ⟨_,e,_⟩:=hl;exact AX e
 refine call_sum_walkG (DG hl ?_)
 refine ⟨s.heap.objs.size,[s.heap.objs.size,p],[s.heap.objs.size],its.toArray.size,_,_,fun i=>ns.getD i 0,rfl,FG (A:=X.A.in1) (I.ok.hd hc) _ p (Ad hlt) its.toArray,
  ⟨⟨_,AN _ rfl,rfl,rfl⟩,hl.push _⟩,fun b hb'=>?_,fun i v hP=>hb.2 i v (by simpa using hP),fun h' tk t' hk=>?_⟩
 ·simp only [Af,Bc,or_false] at hb'
  show b < (s.heap.push _).objs.size
  rw [show (s.heap.push _).objs.size = s.heap.objs.size + 1 from Fd ..]
  rcases hb' with e | e
  ·rw [e];exact Cr _
  ·rw [e];exact Ck hlt
 ·have e:preSum (fun i=>ns.getD i 0) its.toArray.size = ns.sum:=by
   rw [sR _ _ (by rw [AQ];omega),AI (by rw [AQ];omega)]
  rw [e]
  exact ⟨.int _,H,I.kept (LSm.kept_iter hk),⟨_,rfl⟩,q⟩
end
end L2
namespace Mt53
open PySem L2 Ld Mt02 Mt04
def aKP:Dv → Int
 | .tup [_,_,_,_,.int r,_]=>r
 | _=>0
def vC (ds:List Dv) (z:Str):Int:=(ds.find? fun d=>decide (aO d = z)).elim 0 aKP
theorem aGO {ds:List Dv} (nd:(ds.map aO).Nodup) {d:Dv} (m:d ∈ ds):vC ds (aO d) = aKP d:=by
 have:(ds.find? fun e=>decide (aO e = aO d)) = some d:=by
  induction ds with
  | nil=>cases m
  | cons e ds ih =>
   rw [Ac,Aq] at nd
   rw [Bw]
   rcases Af.mp m with rfl | m
   ·rw [decide_eq_true rfl]
   ·have hne:aO e ≠ aO d:=fun c=>nd.1 (c ▸ AT.mpr ⟨d,m,rfl⟩)
    rw [decide_eq_false hne]
    exact ih nd.2 m
 show (ds.find? fun e=>decide (aO e = aO d)).elim 0 aKP = _
 rw [this]
 rfl
def aDP (ds:List Dv) (w:Dv):Int:=vC ds (aO w) * (hOf w - hE ds (aO w))
def aBG (ds ws:List Dv):Int:=(ws.map (aDP ds)).sum
end Mt53
namespace L2
open PySem PySem.Spec PyProof.Rows
section
variable {X:Cx}
end
end L2
namespace L2
open PySem PySem.Spec PyProof.Rows
theorem aLU {prog:Program} {w:World} {A:Around} {E:Value → Shared → Prop} {s:Shared} {r:Addr} {Q:Bool → Shared → Prop} (hT:s.TypeIs (.ref r) "list_reverseiterator") (h:Q false s) :
  wpAny (model prog w) A (Cs (.ref r)) Q E s:=by
 unfold Cs
 refine AB (FA hT (r:=none) (by rfl) ?_)
 dsimp only
 rw [if_neg (by decide),if_neg (by decide)]
 refine AB (FA hT (r:=some (.builtin "list_reverseiterator.__length_hint__")) (by rfl) ?_)
 dsimp only
 rw [show splitId "list_reverseiterator.__length_hint__" = some ("list_reverseiterator","__length_hint__") from by decide +kernel]
 dsimp only
 refine AB (Dm hT (b:=true) (by rfl) ?_)
 rw [if_neg (by decide),if_pos (by decide +kernel),if_neg (by decide +kernel)]
 exact AF h
theorem aFL {prog:Program} {w:World} {A:Around} {s:Shared} {R:Result → Shared → Prop} {I l:Addr} {items:Array Value} (hh:A.handled = none) (hI:s.heap.IsRevIter I l ((items.size:Int) - 1)) (hl:s.heap.IsList l items) (hne:l ≠ I) (hn:items.size ≤ An)
  (S:Addr) (hSI:S ≠ I) (hSl:S ≠ l) (res:Value) (c₀:Nat) (hS:s.heap.get? S = some { cls:=.type "list",data:=.seq #[] c₀ })
  (hR:∀ (h':Heap) (tk:Nat) (acc':Array Value) (c':Nat),(∀ (b:Addr) (o:Obj),b ≠ S → b ≠ I → s.heap.get? b = some o → h'.get? b = some o) → h'.get? S = some { cls:=.type "list",data:=.seq acc' c' } → ItemsOf (fun i v=>items[items.size - 1 - i]? = some v) acc' items.size → R (.ok (.ret res)) { s with heap:=h',toks:=tk }) :
  wpAny (model prog w) A.in1 (CP (.ref S) (.ref I) res) (fun fin s'=>match fin with | .done f=>R (.ok f) s' | .again c'=>c'.quiet = true ∧ codeAny (model prog w) A c' R s') (fun e s'=>R (.error e) s') s:=by
 have hT:s.TypeIs (.ref I) "list_reverseiterator":=hI.typeIs
 have hSf:¬ S ∈ [I,l]:=by simp [hSI,hSl]
 have W:=Walks.listRev (prog:=prog) (w:=w) (A:=A.in1) hh I l hne items
 have key:∀ (h:Heap) (c₁:Nat) (tk:Nat),(∀ (b:Addr) (o:Obj),b ≠ S → s.heap.get? b = some o → h.get? b = some o) → h.get? S = some { cls:=.type "list",data:=.seq #[] c₁ } →
   codeAny (model prog w) A (.builtin "list.extend.loop" { pos:=[.ref S,.ref I,res] }) R { s with heap:=h,toks:=tk }:=fun h c₁ tk hk hS₁=>by
  refine codeAny_extend_loopS W.toS hn S hSf res items.size 0 { s with heap:=h,toks:=tk } #[] c₁ rfl (BG _) ?_ hS₁ (ItemsOf.nil _) fun s' acc' c' hm hS' hacc=>?_
  ·refine ⟨BG _,?_,?_⟩
   ·have:((items.size:Int) - 1 - ((0:Nat):Int)) = (items.size:Int) - 1:=by omega
    rw [this]
    obtain ⟨o,ho,r⟩:=hI
    exact ⟨o,hk _ _ (Ne.symm hSI) ho,r⟩
   ·obtain ⟨o,ho,r⟩:=hl
    exact ⟨o,hk _ _ (Ne.symm hSl) ho,r⟩
  ·rw [Moved.eq_with hm]
   refine hR s'.heap s'.toks acc' c' (fun b o h1 h2 e=>hm.heap b o (fun hmem=>?_) (hk b o h1 e)) hS' hacc
   rcases Af.mp hmem with e' | hmem
   ·exact h1 e'
   ·exact h2 (AU.mp hmem)
 unfold CP
 refine AB (Ew hT ?_)
 have e0:Dk (.ref S) (.ref I) = false:=by
  show (S == I) = false
  exact beq_eq_false_iff_ne.mpr hSI
 rw [e0,if_neg (by decide +kernel)]
 refine AB (wpAny_pyIter_revIter hI ?_)
 refine AB (By (aLU hT ?_))
 have e0:s = { s with heap:=s.heap,toks:=s.toks }:=rfl
 refine FB (fun _=>?_) (fun _=>?_)
 ·refine AB (Dl (AB ?_))
  unfold Builtin.List.listTouch
  refine AB (EB hS rfl ?_)
  have hS₂:=BO (BK fun x=>x.push BW) hS rfl
  refine EB hS₂ rfl ?_
  have hS₃:=BO (BK fun x=>x.pop) hS₂ rfl
  refine AF ⟨CJ F.plain_extend_loop _,key _ _ _ (fun b o hb e=>?_) hS₃⟩
  rw [Av _ _ (Ne.symm hb),Av _ _ (Ne.symm hb)]
  exact e
 ·exact AF ⟨CJ F.plain_extend_loop _,key s.heap c₀ s.toks (fun b o _ e=>e) hS⟩
theorem aLT {prog:Program} {w:World} {A:Around} {s:Shared} {R:Result → Shared → Prop} {I l:Addr} {items:Array Value} (hh:A.handled = none) (hI:s.heap.IsRevIter I l ((items.size:Int) - 1)) (hl:s.heap.IsList l items) (hne:l ≠ I) (hn:items.size ≤ An)
  (S:Addr) (hSI:S ≠ I) (hSl:S ≠ l) (hS:s.heap.get? S = some { cls:=.type "list",data:=.seq #[] })
  (hR:∀ (h':Heap) (tk:Nat) (acc':Array Value) (c':Nat),(∀ (b:Addr) (o:Obj),b ≠ S → b ≠ I → s.heap.get? b = some o → h'.get? b = some o) → h'.get? S = some { cls:=.type "list",data:=.seq acc' c' } → ItemsOf (fun i v=>items[items.size - 1 - i]? = some v) acc' items.size → R (.ok (.ret .none)) { s with heap:=h',toks:=tk }) :
  wpAny (model prog w) A.in1 (Builtin.«list.__init__» { pos:=[.ref S,.ref I] }) (fun fin s'=>match fin with | .done f=>R (.ok f) s' | .again c'=>c'.quiet = true ∧ codeAny (model prog w) A c' R s') (fun e s'=>R (.error e) s') s:=by
 refine AB (AB (FN hS rfl (AF ?_)))
 refine AB (EB hS rfl ?_)
 have hS₂:=BO (BK fun x=>#[]) hS rfl
 have oth:∀ (b:Addr) (o:Obj),b ≠ S → s.heap.get? b = some o → (s.heap.update S (BK fun x=>#[])).get? b = some o:=fun b o hb e=>(Av s.heap (BK fun x=>#[]) (Ne.symm hb)).trans e
 refine AB (wpAny_letGo ?_)
 refine aFL hh ?_ ?_ hne hn S hSI hSl .none _ hS₂ fun h' tk acc' c' hk hS' hacc=>hR h' tk acc' c' (fun b o h1 h2 e=>hk b o h1 h2 (oth b o h1 e)) hS' hacc
 ·obtain ⟨o,ho,r⟩:=hI
  exact ⟨o,oth _ _ (Ne.symm hSI) ho,r⟩
 ·obtain ⟨o,ho,r⟩:=hl
  exact ⟨o,oth _ _ (Ne.symm hSl) ho,r⟩
theorem aCY {prog:Program} {w:World} {A:Around} {E:Value → Shared → Prop} {s:Shared} {Q:Value → Shared → Prop} {I l:Addr} {items:Array Value} (hh:A.handled = none) (hI:s.heap.IsRevIter I l ((items.size:Int) - 1)) (hl:s.heap.IsList l items) (hne:l ≠ I) (hn:items.size ≤ An)
  (hQ:∀ (h':Heap) (tk:Nat) (acc':Array Value) (c':Nat),(∀ (b:Addr) (o:Obj),b ≠ I → s.heap.get? b = some o → h'.get? b = some o) → h'.get? s.heap.objs.size = some { cls:=.type "list",data:=.seq acc' c' } → ItemsOf (fun i v=>items[items.size - 1 - i]? = some v) acc' items.size → Q (.ref s.heap.objs.size) { s with heap:=h',toks:=tk }) :
  wpAny (model prog w) A (call (.type "list") [.ref I]) Q E s:=by
 have lI:I < s.heap.objs.size:=by obtain ⟨_,e,_⟩:=hI;exact AX e
 have ll:l < s.heap.objs.size:=by obtain ⟨_,e,_⟩:=hl;exact AX e
 refine callType_codes F.called_list (F.typeCall_list_1 (.ref I)) F.entry_list_init (code_list_new (.ref I) (Q₁:=fun o s₁=>o = .ref s.heap.objs.size ∧ s₁ = { s with heap:=s.heap.push { cls:=.type "list",data:=.seq #[] } }) ⟨rfl,rfl⟩) fun obj s₁ h₁=>?_
 obtain ⟨rfl,rfl⟩:=h₁
 have hS:=AN (o:={ cls:=Bx "list",data:=Data.seq #[] }) s.heap rfl
 refine ⟨⟨_,hS,rfl⟩,F.args_list_init_2 _ _,?_⟩
 refine aLT (A:=A.in1) hh ?_ ?_ hne hn s.heap.objs.size (Ne.symm (Ad lI)) (Ne.symm (Ad ll)) hS fun h' tk acc' c' hk hS' hacc=>⟨rfl,?_⟩
 ·obtain ⟨o,ho,r⟩:=hI
  exact ⟨o,AC _ ho,r⟩
 ·obtain ⟨o,ho,r⟩:=hl
  exact ⟨o,AC _ ho,r⟩
 ·exact hQ h' tk acc' c' (fun b o h1 e=>hk b o (Ad (AX e)) h1 (AC _ e)) hS' hacc
theorem wV:BN "reversed" = some (.type "reversed"):=by decide +kernel
section
variable {X:Cx} {e:Expr} {t:TA} {p1 p2:Pos} {pos1 pos2:Pos}
def aRW (K:AG):List V → Hp → VK → Prop:=fun xs H Q=>∃ p ys,xs = [.ref p] ∧ SqL K H p ys ∧ ∀ l,H l = none → Q (.ref l) (upd H l (.lst ys.reverse))
theorem aES (hc:X.calm = true) (hg1:Gl X "list") (hm1:X.mg "list" = none) (hg2:Gl X "reversed") (hm2:X.mg "reversed" = none) (ha:PA X [e] t)
  (he1:As [e] X.env = (false,eval e X.env) :: As [] X.env:=by rfl)
  (he2:As [.Call (.Name "reversed" p2) [e] [] pos2] X.env = (false,eval (.Call (.Name "reversed" p2) [e] [] pos2) X.env) :: As [] X.env:=by rfl) :
  PE X (.Call (.Name "list" p1) [.Call (.Name "reversed" p2) [e] [] pos2] [] pos1) (tCB (aRW X.K) t):=by
 intro pins s σ H Q I h
 refine Cg (pR I hg1 hm1 cM ?_ (by decide) (by decide))
 refine Cq ?_ he2 rfl
 rw [he2]
 show wpAny _ _ (spliced ((false,eval _ X.env) :: backTo pos1 (As [] X.env))) _ _ s
 refine Calls.spliced_cons ?_
 refine Cg (pR I hg2 hm2 wV ?_ (by decide) (by decide))
 refine Cq (thn (ha pos2 pins s σ H _ I h) fun us s1 ⟨vs,H1,I1,r1,q1⟩=>?_) he1 rfl
 obtain ⟨p,ys,rfl,hq,q⟩:=q1
 obtain ⟨u,rfl,ru⟩:=bC.one r1
 cases ru
 obtain ⟨its,rv,pl,hz⟩:=I1.list hq
 have hl:=pl.isList
 have hlt:p < s1.heap.objs.size:=by obtain ⟨_,e,_⟩:=hl;exact AX e
 refine call_reversed_list hl ?_
 refine Calls.spliced_nil ?_
 refine aCY (l:=p) (items:=its.toArray) (I.ok.hd hc) ⟨_,AN _ rfl,rfl,rfl⟩ ?_ (Ad hlt) (by rw [AQ,← rv.length];exact hz) fun h' tk acc c hk hg hi=>?_
 ·obtain ⟨o,ho,r⟩:=hl
  exact ⟨o,AC _ ho,r⟩
 have hk':∀ (b:Addr) (o:Obj),s1.heap.get? b = some o → h'.get? b = some o:=fun b o e=>hk b o (Ad (AX e)) (AC _ e)
 have hge:s1.heap.objs.size ≤ (s1.heap.push (revObj p ((its.toArray.size:Int) - 1))).objs.size:=by
  rw [show (s1.heap.push (revObj p ((its.toArray.size:Int) - 1))).objs.size = s1.heap.objs.size + 1 from Fd ..]
  exact CS _
 refine ⟨.ref _,_,I1.laid (t':=tk) hk' hge (show bL X.prog X.w _ h' _ (.lst ys.reverse) from ⟨by rw [Dn];exact hz,acc.toList,c,?_,by simpa using hg⟩),rfl,q _ (I1.hok.fresh hge)⟩
 have hlen:=rv.length
 have e0:acc.size = its.length:=by rw [hi.1,AQ]
 refine tW (by rw [Dn,BA,e0,hlen]) fun j u x e1 e2=>?_
 have e3:=hi.2 j u (by rw [← Cd];exact e1)
 have hj:j < ys.length:=by
  have:=(AE.mp e2).1
  rw [Dn] at this
  exact this
 rw [List.getElem?_reverse hj] at e2
 have e4:its[ys.length - 1 - j]? = some u:=by
  have:its.toArray[its.toArray.size - 1 - j]? = some u:=e3
  rw [AQ] at this
  rw [hlen]
  simpa using this
 obtain ⟨u',e5,r5⟩:=rv.get e2
 rw [e4] at e5
 cases e5
 exact r5
end
end L2
namespace L2
open PySem PySem.Spec PyProof.Rows
theorem uJ:∀ {ys:List Str} {us:List Value},bC (ys.map V.str) us → StrsAre us ys
 | [],us,r=>by
  rw [Ci] at r
  cases r
  exact .nil
 | b :: bs,us,r=>by
  rw [Ac] at r
  cases r with
  | cons r1 r2 =>
   obtain ⟨t,rfl⟩:=r1
   exact .cons b t (uJ r2)
section
variable {X:Cx}
theorem aOI:MtR X "str.join" (fun x vs H Q=>∃ z p ys,x = .str z ∧ vs = [.ref p] ∧ SqL X.K H p (ys.map V.str) ∧ (ys.map fun y=>y.length).sum + ys.length * z.length ≤ 16777216 ∧ Q (.str (Txt.join z ys)) H):=by
 intro pins s σ H x xs v us Q I rx r h
 obtain ⟨z,p,ys,rfl,rfl,hq,hz,q⟩:=h
 obtain ⟨t,rfl⟩:=rx
 obtain ⟨u,rfl,ru⟩:=bC.one r
 cases ru
 obtain ⟨its,rv,pl,hl⟩:=I.list hq
 exact join_list pl.isList (uJ rv) hz fun t' k=>⟨.str _,H,I.tok k,⟨_,rfl⟩,q⟩
end
end L2
namespace L2
open PySem PySem.Spec PyProof.Rows
section
variable {X:Cx}
def tL (K:AG) (t:TE):TT:=fun σ H Q=>t σ H fun x H1=>∃ p xs,x = .ref p ∧ SqL K H1 p xs ∧ Q (!xs.isEmpty) H1
theorem aEP {e:Expr} {t:TE} (h:PE X e t) (he:∀ whole,isTrue e X.env whole = (do let v ← whole;standAt e.pos;holding [v] (truthy v)):=by intro _;rfl):PT X e (tL X.K t):=by
 intro pins s σ H Q I hw
 refine isTrue_plain (thn (h pins s σ H _ I hw) fun v s1 ⟨x,H1,I1,r1,q1⟩=>?_) (he _)
 obtain ⟨p,xs,rfl,hq,q⟩:=q1
 cases r1
 obtain ⟨its,rv,pl,hz⟩:=I1.list hq
 have hlen:=rv.length
 refine wpAny_truthy_list pl.isList ?_ ?_
 ·have:(An:Nat) < 2 ^ 63:=by decide
  rw [AQ]
  omega
 ·have e:its.toArray.isEmpty = xs.isEmpty:=by
   cases xs with
   | nil=>cases rv;rfl
   | cons x r=>cases rv;rfl
  rw [e]
  exact ⟨H1,I1.tok _,q⟩
end
end L2
namespace L2
open PySem PySem.Spec PyProof.Rows
section
variable {prog:Program} {w:World} {A:Around} {R:Result → Shared → Prop} {I S:Addr} {fp wr:List Addr} {n:Nat} {P:Nat → Value → Prop} {St:Nat → Heap → Prop}
end
section
variable {prog:Program} {w:World} {A:Around} {E:Value → Shared → Prop} {s:Shared}
end
section
variable {X:Cx}
theorem aCZ (f:Nat → Int):∀ k,argBest (fun i j=>decide (f i < f j)) k ≤ k ∧ ∀ j ≤ k,f (argBest (fun i j=>decide (f i < f j)) k) ≤ f j
 | 0=>⟨AL _,fun j h=>by rw [Nat.le_zero.mp h];exact EI _⟩
 | k + 1=>by
  obtain ⟨a1,a2⟩:=aCZ f k
  unfold argBest
  by_cases q:f (k + 1) < f (argBest (fun i j=>decide (f i < f j)) k)
  ·rw [if_pos (decide_eq_true q)]
   exact ⟨AL _,fun j m=>by
    by_cases e:j = k + 1
    ·rw [e];exact EI _
    ·have:=a2 j (by omega)
     omega⟩
  ·rw [if_neg (by rw [decide_eq_true_eq];exact q)]
   exact ⟨by omega,fun j m=>by
    by_cases e:j = k + 1
    ·rw [e];omega
    ·exact a2 j (by omega)⟩
end
end L2
namespace L2
open PySem PySem.Spec PyProof.Rows
def Itd (d:Addr) (o:Obj) (kvs:List (Key × V)):It :=
 ⟨fun i H=>H d = some (.frz o (.dK kvs)) ∧ i < kvs.length,fun i H x H'=>H' = H ∧ ∃ kv,kvs[i]? = some kv ∧ x = kV kv.1,fun i H=>H d = some (.frz o (.dK kvs)) ∧ kvs.length ≤ i⟩
theorem xU {P:Program} {w:World} {K:AG} {tg:Expr} {d it:Addr} {o:Obj} {kvs:List (Key × V)} {vs:List (Key × Value)} {ep:Nat} {h0:Heap} (kv:KV kvs vs) (hd0:h0.get? d = some o) (hat:h0.DictAt (aN P w) d vs ep) :
  Turn P w K tg (Itd d o kvs) [it] it (fun i h=>h.IsKeyIter it d i vs.length ep) where
 mem:=by simp
 obj:=fun i h st b hb=>by
  have e:b = it:=by simpa using hb
  subst e
  obtain ⟨ob,e,c,dd⟩:=st
  exact ⟨ob,e,fun v z=>by rw [dd] at z;cases z⟩
 keep:=fun i h h' st k=>st.at fun ob e=>k it (by simp) ob e
 item:=by
  intro X hP hw hK hc i pins s σ H E I hf st hg
  subst hP hw hK
  obtain ⟨hH,hi⟩:=hg
  obtain ⟨f0,f1,f2,f3,f4,f5⟩:=hf it (by simp)
  have hget:s.heap.get? d = some o:=(show bL X.prog X.w H s.heap d (.frz o (.dK kvs)) from I.hok d _ hH).1
  have hat':=hat.at' (h':=s.heap) fun ob e=>by rw [hd0] at e;cases e;exact hget
  have hl:=KV.length kv
  obtain ⟨⟨k,v⟩,hx⟩:∃ p,vs[i]? = some p:=⟨_,AD (by omega)⟩
  obtain ⟨q,eq,e1,e2⟩:=KV.get kv hx
  refine wpAny_pyNext_dict_item st hat' hx fun key h' hkey st' sb=>?_
  have I1:Inv X pins σ H { s with heap:=h' }:=I.turned (t':=s.toks) (fun b ob hb e=>(sb.2 b hb).trans e) f0 f1 f3 f4 f5
  obtain ⟨ob,e,c,dd⟩:=id st'
  refine ⟨key,rfl,yX (s:={ s with heap:=h' }) e c dd (by decide) ⟨kV q.1,H,I1,?_,⟨rfl,q,eq,rfl⟩,st',fun b hb=>(hf b hb).1⟩⟩
  rw [show q.1 = k from e1]
  exact yT hkey
 done:=by
  intro X hP hw hK hc i pins s σ H E I hf st hg
  subst hP hw hK
  obtain ⟨hH,hi⟩:=hg
  obtain ⟨f0,f1,f2,f3,f4,f5⟩:=hf it (by simp)
  have hget:s.heap.get? d = some o:=(show bL X.prog X.w H s.heap d (.frz o (.dK kvs)) from I.hok d _ hH).1
  have hat':=hat.at' (h':=s.heap) fun ob e=>by rw [hd0] at e;cases e;exact hget
  have hl:=KV.length kv
  exact wpAny_pyNext_dict_end (I.ok.hd hc) st hat' (En (by omega)) fun h' eb=>⟨rfl,I.turned (t':=s.toks) (fun b ob hb e=>eb b ob hb e) f0 f1 f3 f4 f5⟩
 self:=fun _ _ _ _ _ st h=>wpAny_pyIter_keyiter st h
section
variable {X:Cx} {tg:Expr}
def aSM (td:TE):TI:=fun σ H R=>td σ H fun x H1=>∃ d kvs,x = .ref d ∧ H1 d = some (.dK kvs) ∧ ∀ o,R (Itd d o kvs) (upd H1 d (.frz o (.dK kvs)))
theorem aAL {l:Expr} {tl:TE} (hl:PE X l tl):PI X tg l (aSM tl):=by
 intro pins s σ H R I h
 refine thn (hl pins s σ H _ I h) fun v s1 ⟨x,H1,I1,r1,q1⟩=>?_
 obtain ⟨d,kvs,e,hH,q⟩:=q1
 subst e
 cases r1
 have hok:=I1.hok d _ hH
 obtain ⟨hz,lo,vs,kv,hD⟩:=id hok
 obtain ⟨ep,hat⟩:=hD.dictAt
 obtain ⟨o,es,ho,_⟩:=id hat
 refine wpAny_pyIter_dict lo hat ?_
 have I2:Inv X pins σ (upd H1 d (.frz o (.dK kvs))) s1:=I1.write (x:=d) (e:=d) (o:=.frz o (.dK kvs)) (h':=s1.heap) (t':=s1.toks) (by rw [hH];exact trivial) (.inl rfl) (fun _ _ _ q=>q) ⟨o,ho⟩ ⟨ho,hz,lo,vs,kv,hD⟩
 refine ⟨s1.heap.objs.size,[s1.heap.objs.size],_,_,upd H1 d (.frz o (.dK kvs)),rfl,I2.kept (t':=s1.toks) fun b ob e=>AC _ e,xU kv ho hat,⟨_,AN _ rfl,rfl,rfl⟩,fun b hb=>?_,q o⟩
 have e:b = s1.heap.objs.size:=by simpa using hb
 subst e
 exact I2.fpOk (AL _) (I2.hok.fresh (AL _))
theorem sF {d:Addr} {o:Obj} {kvs:List (Key × V)} {σb:St} {g:TG} {tt:TT} {te:TE} {fin:List V → Hp → Prop} {H:Hp} (hz:kvs.length ≤ An) (Pv:Nat → List V → Hp → Prop) (h0:Pv 0 [] H)
  (hl:∀ i ys H,i ≤ kvs.length → Pv i ys H → H d = some (.frz o (.dK kvs)) ∧ ys.length ≤ i)
  (hs:∀ i kv ys H (K:VK) (K':Hp → Prop),kvs[i]? = some kv → Pv i ys H → (∀ y H4,Pv (i + 1) (ys ++ [y]) H4 → K y H4) → (∀ H3,Pv (i + 1) ys H3 → K' H3) →
   g (kV kv.1) σb H fun σ2 H2=>tt σ2 H2 fun b H3=>if b = true then te σ2 H3 K else K' H3)
  (hd:∀ ys H,Pv kvs.length ys H → fin ys H):∃ W:CW,(∃ m,W 0 m [] H) ∧ ∀ i m ys H,W i m ys H → uH σb (Itd d o kvs) g tt te W fin i m ys H:=by
 refine ⟨fun i m ys H=>m = kvs.length - i ∧ i ≤ kvs.length ∧ Pv i ys H,⟨kvs.length,by simp,BG _,h0⟩,?_⟩
 rintro i m ys H ⟨rfl,hi,p⟩
 obtain ⟨q,ql⟩:=hl i ys H hi p
 by_cases hlt:i < kvs.length
 ·refine .inr ⟨⟨q,hlt⟩,by omega,fun x H' y=>?_⟩
  obtain ⟨e,kv,ek,ex⟩:=y
  subst e ex
  exact hs i kv ys _ _ _ ek p (fun y H4 q=>⟨kvs.length - (i + 1),by omega,rfl,hlt,q⟩) fun H3 q=>⟨kvs.length - (i + 1),by omega,rfl,hlt,q⟩
 ·have e:i = kvs.length:=by omega
  subst e
  exact .inl ⟨⟨q,AL _⟩,hd ys H p⟩
end
end L2
namespace L2
open PySem PySem.Spec PyProof.Rows
section
variable {X:Cx} {tg:Expr}
def aQY (td:TE):TI:=fun σ H R=>td σ H fun x H1=>∃ d o kvs,x = .ref d ∧ H1 d = some (.frz o (.dK kvs)) ∧ R (Itd d o kvs) H1
theorem aKW {l:Expr} {tl:TE} (hl:PE X l tl):PI X tg l (aQY tl):=by
 intro pins s σ H R I h
 refine thn (hl pins s σ H _ I h) fun v s1 ⟨x,H1,I1,r1,q1⟩=>?_
 obtain ⟨d,o,kvs,e,hH,q⟩:=q1
 subst e
 cases r1
 have hok:=I1.hok d _ hH
 obtain ⟨ho,hz,lo,vs,kv,hD⟩:=(show bL X.prog X.w H1 s1.heap d (.frz o (.dK kvs)) from hok)
 obtain ⟨ep,hat⟩:=hD.dictAt
 refine wpAny_pyIter_dict lo hat ?_
 refine ⟨s1.heap.objs.size,[s1.heap.objs.size],_,_,H1,rfl,I1.kept (t':=s1.toks) fun b ob e=>AC _ e,xU kv ho hat,⟨_,AN _ rfl,rfl,rfl⟩,fun b hb=>?_,q⟩
 have e:b = s1.heap.objs.size:=by simpa using hb
 subst e
 exact I1.fpOk (AL _) (I1.hok.fresh (AL _))
theorem aIU (hc:X.calm = true):fG X (.builtin "min") (fun xs H Q=>∃ (p:Addr) (ns:List Int),xs = [.ref p] ∧ SqL X.K H p (ns.map V.int) ∧ 0 < ns.length ∧ ∀ M,M ∈ ns → (∀ a ∈ ns,M ≤ a) → Q (.int M) H):=by
 intro pins s σ H xs us Q I r h
 obtain ⟨p,ns,rfl,hq,h0,q⟩:=h
 obtain ⟨u,rfl,ru⟩:=bC.one r
 cases ru
 obtain ⟨its,rv,pl,hz⟩:=I.list hq
 have hi:=wE rv
 obtain ⟨ys,ey⟩:=hi.allInts.items
 have en:ns = ys.toList.map fun x=>x.1:=by
  have h1:=nums_intItems ys
  rw [← ey] at h1
  rw [← h1]
  exact hi.numsOf.symm
 have hl:s.heap.IsList p (intItems ys):=by rw [← ey];exact pl.isList
 have hlen:ns.length = ys.size:=by rw [en,AA,BA]
 refine min_intList (I.ok.hd hc) hl (by omega) fun v h' tk hv hk=>?_
 obtain ⟨tv,rfl⟩:=intItems_at hv
 obtain ⟨g1,g2⟩:=aCZ (numAt ys) (ys.size - 1)
 refine ⟨.int _,H,I.kept (t':=tk) hk,⟨_,rfl⟩,q _ ?_ fun a ma=>?_⟩
 ·rw [numAt_eq,← en,Aa,AD (show argBest (fun i j=>decide (numAt ys i < numAt ys j)) (ys.size - 1) < ns.length by omega)]
  exact Cp _
 ·obtain ⟨j,hj⟩:=BI.mp ma
  have hjl:=(AE.mp hj).1
  have:=g2 j (by omega)
  rw [numAt_eq ys j,← en,Aa,hj] at this
  exact this
end
end L2
namespace L2
open PySem PySem.Spec PyProof.Rows
section
variable {X:Cx}
theorem aLZ {d:Addr} {o:Obj} {kvs:List (Key × V)} {g:TG} {tb:TS} {D:Ends} {σ:St} {H:Hp} (Pv:Nat → St → Hp → Prop) (h0:Pv 0 σ H) (hl:∀ i σ H,i ≤ kvs.length → Pv i σ H → H d = some (.frz o (.dK kvs)))
  (hs:∀ i kv σ H,kvs[i]? = some kv → Pv i σ H → g (kV kv.1) σ H fun σ2 H2=>tb { D with nx:=Pv (i + 1),ct:=Pv (i + 1),bk:=D.nx } σ2 H2) (hd:∀ σ H,Pv kvs.length σ H → D.nx σ H) :
  ∃ W:Nat → Nat → St → Hp → Prop,(∃ m,W 0 m σ H) ∧ ∀ i m σ H,W i m σ H →
   ((Itd d o kvs).stop i H ∧ D.nx σ H) ∨ ((Itd d o kvs).go i H ∧ ∃ N:St → Hp → Prop,(∀ σ' H',N σ' H' → ∃ m',m' < m ∧ W (i + 1) m' σ' H') ∧ ∀ x H',(Itd d o kvs).yld i H x H' → g x σ H' fun σ2 H2=>tb { D with nx:=N,ct:=N,bk:=D.nx } σ2 H2):=by
 refine ⟨fun i m σ H=>m + i = kvs.length ∧ Pv i σ H,⟨kvs.length,rfl,h0⟩,?_⟩
 intro i m σ H hw
 obtain ⟨hm,pv⟩:=hw
 have at_:=hl i σ H (by omega) pv
 rcases Eg i kvs.length with lt | ge
 ·refine .inr ⟨⟨at_,lt⟩,Pv (i + 1),(fun σ' H' p'=>⟨kvs.length - (i + 1),by omega,by omega,p'⟩),fun x H' y=>?_⟩
  obtain ⟨eH,kv,ek,ex⟩:=y
  subst eH ex
  exact hs i kv σ _ ek pv
 ·have ei:i = kvs.length:=by omega
  subst ei
  exact .inl ⟨⟨at_,AL _⟩,hd σ H pv⟩
end
end L2
namespace L2
open PySem PySem.Spec PyProof.Rows
def tT (l:List Nat):Prop:=∀ i k,i < k → k < l.length → l.getD i 0 < l.getD k 0
theorem tT.pw {l:List Nat}:tT l ↔ l.Pairwise (· < ·):=by
 unfold tT
 rw [List.pairwise_iff_getElem]
 constructor
 ·intro h i j hi hj hij
  have:=h i j hij hj
  simpa [Aa,hi,hj] using this
 ·intro h i j hij hj
  have hi:i < l.length:=by omega
  have:=h i j hi hj hij
  simpa [Aa,hi,hj] using this
theorem aMU (xs:Array Nat) (j:Nat) (hp:tT xs.toList):∀ (fuel lo hi:Nat),hi - lo ≤ fuel → hi ≤ xs.size → lo ≤ hi → (∀ i,i < lo → xs.toList.getD i 0 < j) → (∀ i,hi ≤ i → i < xs.size → j ≤ xs.toList.getD i 0) →
  Dg xs j fuel lo hi ≤ xs.size ∧ (∀ i,i < Dg xs j fuel lo hi → xs.toList.getD i 0 < j) ∧ (∀ i,Dg xs j fuel lo hi ≤ i → i < xs.size → j ≤ xs.toList.getD i 0):=by
 intro fuel
 induction fuel with
 | zero =>
  intro lo hi h1 h2 h3 h4 h5
  obtain rfl:lo = hi:=by omega
  exact ⟨h2,h4,h5⟩
 | succ fuel ih =>
  intro lo hi h1 h2 h3 h4 h5
  unfold Dg
  split
  ·rename_i hlt
   dsimp only
   have hm:(lo + hi) / 2 < xs.size:=by omega
   have eq:xs.getD ((lo + hi) / 2) j = xs.toList.getD ((lo + hi) / 2) 0:=by
    simp [Array.getD,hm,Aa]
   rw [eq]
   split
   ·rename_i hlt2
    refine ih _ _ (by omega) h2 (by omega) (fun i hi2=>?_) h5
    rcases Eg i ((lo + hi) / 2) with q | q
    ·exact DJ (hp i _ q (by simpa using hm)) hlt2
    ·obtain rfl:i = (lo + hi) / 2:=by omega
     exact hlt2
   ·rename_i hge
    refine ih _ _ (by omega) (by omega) (by omega) h4 (fun i hi1 hi2=>?_)
    rcases Eg ((lo + hi) / 2) i with q | q
    ·have:=hp _ i q (by simpa using hi2);omega
    ·obtain rfl:i = (lo + hi) / 2:=by omega
     omega
  ·obtain rfl:lo = hi:=by omega
   exact ⟨h2,h4,h5⟩
theorem aDT {xs:Array Nat} (hp:tT xs.toList) (j:Nat) :
  BY xs j ≤ xs.size ∧ (∀ i,i < BY xs j → xs.toList.getD i 0 < j) ∧ (∀ i,BY xs j ≤ i → i < xs.size → j ≤ xs.toList.getD i 0) :=
 aMU xs j hp xs.size 0 xs.size (by omega) (AL _) (BG _) (fun i h=>by omega) (fun i h1 h2=>by omega)
theorem aFR {xs:Array Nat} (hp:tT xs.toList) {i:Nat} (hi:i ≤ xs.size) {sl:Nat} (hs:∀ k,k < i → xs.toList.getD k 0 < sl) (hs2:∀ k,i ≤ k → k < xs.size → sl ≤ xs.toList.getD k 0):BY xs sl = i:=by
 obtain ⟨a,b,c⟩:=aDT hp sl
 rcases Nat.lt_trichotomy (BY xs sl) i with q | q | q
 ·have:=c _ (AL _) (by omega);have:=hs _ q;omega
 ·exact q
 ·have:=b i q;have:=hs2 i (AL _) (by omega);omega
structure Ris (t:Al):Prop where
 no:t.dummies = #[]
 up:tT t.place.toList
theorem Ris.slot {t:Al} (r:Ris t) {j:Nat}:t.slot j ≠ .dummy:=by
 unfold Al.slot Al.has
 rw [r.no]
 dsimp only
 split
 ·intro h;cases h
 ·simp
theorem Ris.probe {t:Al} (r:Ris t) (f:Nat → Int) (h:Int):∀ (fuel:Nat) (p:Al.Probe),p.dummy = none → ∀ j d,Df t f h fuel p = some (.empty j d) → t.slot j = .empty ∧ d = none:=by
 intro fuel
 induction fuel with
 | zero=>intro p _ j d e;simp [Df] at e
 | succ n ih =>
  intro p hp j d e
  unfold Df at e
  have adv:(t.advance p).dummy = none:=by
   unfold Al.advance
   split
   ·exact hp
   ·exact hp
  cases hs:t.slot p.j with
  | empty =>
   rw [hs] at e
   cases e
   exact ⟨hs,hp⟩
  | dummy=>exact absurd hs r.slot
  | live i =>
   rw [hs] at e
   dsimp only at e
   split at e
   ·cases e
   ·exact ih _ adv j d e
theorem Ris.put {t:Al} (r:Ris t) {j:Nat} (e:t.slot j = .empty):Ris (t.put j).1:=by
 obtain ⟨a,b,c⟩:=aDT r.up j
 have hne:t.place[BY t.place j]? ≠ some j:=by
  intro h
  unfold Al.slot at e
  dsimp only at e
  rw [h] at e
  simp at e
 refine ⟨?_,?_⟩
 ·show (if Al.has t.dummies j then _ else t.dummies) = #[]
  rw [r.no]
  simp [Al.has]
 ·show tT (Al.insertAt t.place (BY t.place j) j).toList
  rw [Al.toList_insertAt,tT.pw]
  have pw:=tT.pw.mp r.up
  generalize hp:BY t.place j = p at *
  have lt:∀ x ∈ t.place.toList.take p,x < j:=by
   intro x hx
   obtain ⟨i,hi,rfl⟩:=DL hx
   have hi':i < p ∧ i < t.place.toList.length:=by rw [AZ] at hi;omega
   have:=b i hi'.1
   rw [List.getElem_take]
   rw [Aa,AD hi'.2] at this
   exact this
  have gt:∀ x ∈ t.place.toList.drop p,j < x:=by
   intro x hx
   obtain ⟨i,hi,rfl⟩:=DL hx
   rw [CB] at hi
   have hl:p + i < t.place.toList.length:=by omega
   rw [List.getElem_drop]
   have ge:j ≤ t.place.toList[p + i]:=by
    have:=c (p + i) (by omega) (by simpa using hl)
    have e2:t.place.toList.getD (p + i) 0 = t.place.toList[p + i]:=by rw [Aa,AD hl];rfl
    omega
   rcases Nat.eq_zero_or_pos i with q | q
   ·subst q
    have ne:t.place.toList[p + 0] ≠ j:=by
     intro h
     apply hne
     have hp2:p < t.place.size:=by simpa using hl
     rw [Bq hp2]
     simpa using h
    omega
   ·have:=r.up p (p + i) (by omega) hl
    have hsz:t.place.toList.length = t.place.size:=by simp
    have h0:=c p (AL _) (by omega)
    have e2:t.place.toList.getD (p + i) 0 = t.place.toList[p + i]:=by rw [Aa,AD hl];rfl
    omega
  rw [List.pairwise_append]
  simp only [Cb]
  refine ⟨pw.sublist (ED _ _),⟨gt,pw.sublist (List.drop_sublist _ _)⟩,fun x hx y hy=>?_⟩
  rcases Af.mp hy with rfl | hy
  ·exact lt x hx
  ·exact DJ (lt x hx) (gt y hy)
theorem Ris.standIn (t:Al) (n:Nat):Ris (t.standIn n) :=
 ⟨rfl,tT.pw.mpr (by show (Array.range n).toList.Pairwise (· < ·);rw [Array.toList_range];exact Ea)⟩
theorem Ris.orStandIn {t:Al} (r:Ris t) (n:Nat):Ris (t.orStandIn n):=by
 unfold Al.orStandIn
 split
 ·exact r
 ·exact Ris.standIn t n
theorem xM (t:Al) (n:Nat):(t.orStandIn n).led = t.led:=by
 unfold Al.orStandIn
 split <;> rfl
theorem Ris.layNew {t:Al} (r:Ris t) (es:Array (Int × Value)) (h:Int) (x:Value):Ris (layNew t es h x).2.1 ∧ (layNew t es h x).2.1.led = t.led:=by
 unfold PySem.layNew
 cases e:t.freeSlot h with
 | none=>exact ⟨Ris.standIn _ _,rfl⟩
 | some p =>
  obtain ⟨sl,wd⟩:=p
  have e2:t.slot sl = .empty:=by
   unfold Al.freeSlot Di at e
   cases q:Df t (fun _=>h + 1) h (10 * Al.turns t.mask) (t.probeStart h) with
   | none=>rw [q] at e;cases e
   | some m =>
    rw [q] at e
    cases m with
    | empty j d =>
     obtain ⟨s1,rfl⟩:=r.probe _ _ _ _ rfl j d q
     simp at e
     obtain ⟨rfl,_⟩:=e
     exact s1
    | candidate _ _ _=>cases e
  dsimp only
  refine ⟨(r.put e2).orStandIn _,?_⟩
  rw [xM]
  rfl
theorem Ris.relayAll {t:Al} (es:Array (Int × Value)) (k:Nat):Ris (relayAll t es k).2.1 ∧ (relayAll t es k).2.1.led = t.led:=by
 unfold PySem.relayAll
 cases e:t.relaid (es.map (·.1)) k with
 | none=>exact ⟨Ris.standIn _ _,rfl⟩
 | some p =>
  obtain ⟨t',order⟩:=p
  dsimp only
  split
  ·unfold Al.relaid Al.laid at e
   cases q:Al.layClean (Er k - 1) (es.map (·.1)) with
   | none=>rw [q] at e;cases e
   | some owner =>
    rw [q] at e
    simp only [Option.bind_eq_bind,Option.bind_some,Option.pure_def,Bd.injEq,Prod.mk.injEq] at e
    obtain ⟨rfl,_⟩:=e
    refine ⟨⟨rfl,tT.pw.mpr ?_⟩,rfl⟩
    show DO (· < ·) (DH _).toList
    rw [List.toList_toArray,List.map_filterMap]
    refine DO.sublist (?_:Ec _ (Az (Er k - 1 + 1))) Ea
    generalize Az (Er k - 1 + 1) = rg
    induction rg with
    | nil=>exact Ec.refl _
    | cons a r ih =>
     rw [Do]
     cases (owner.getD a none) with
     | none=>exact ih.trans (List.sublist_cons_self _ _)
     | some b=>exact Ec.cons₂ _ ih
  ·exact ⟨Ris.standIn _ _,rfl⟩
theorem Ris.plain {t:Al} (r:Ris t):Ris { t with plain:=false }:=⟨r.no,r.up⟩
end L2
namespace L2
open PySem PySem.Spec PyProof.Rows
def gE:Value → Key
 | .int z _=>.inl z
 | .str x _=>.inr x
 | _=>.inl 0
theorem oP {P:Program} {w:World} {k:Key} {v:Value} (h:(aN P w).is k v = true):gE v = k:=by
 rcases bZ h with ⟨i,t,rfl,rfl⟩ | ⟨x,t,rfl,rfl⟩ <;> rfl
def dO (w:World):Bool:=w.params.followText "set-order"
def hU (P:Program) (w:World) (h:Heap) (a:Addr) (ks:List Key):Prop :=
 ∃ o es ep t,h.get? a = some o ∧ o.ExactSet ∧ o.data = .set es ep t ∧ ElemsOf (aN P w) es.toList ∧ (es.toList.map fun e=>gE e.2).Perm ks ∧ es.size < CK ∧ t.fits es.size = true ∧ Ris t ∧ (dO w = true ∨ t.led = true)
theorem hU.len {P:Program} {w:World} {h:Heap} {a:Addr} {ks:List Key} {es:Array (Int × Value)} (hp:(es.toList.map fun e=>gE e.2).Perm ks):es.size = ks.length:=by
 have:=hp.length_eq
 rw [AA,BA] at this
 exact this
section
variable {P:Program} {w:World} {A:Around} {E:Value → Shared → Prop} {s:Shared}
theorem wW {h:Heap} {a:Addr} {o:Obj} {es:Array (Int × Value)} {ep:Nat} {t:Al} (ho:h.get? a = some o) (hex:o.ExactSet) (hd:o.data = .set es ep t)
  {es':Array (Int × Value)} {t':Al} {ks:List Key} (hel:ElemsOf (aN P w) es'.toList) (hp:(es'.toList.map fun e=>gE e.2).Perm ks) (hb:es'.size < CK) (hf:t'.fits es'.size = true) (hr:Ris t') (hl:dO w = true ∨ t'.led = true) :
  (h.update a (FQ es' t')).get? a = some { o with data:=.set es' (ep + 1) t' } ∧ hU P w (h.update a (FQ es' t')) a ks:=by
 have hg:(h.update a (FQ es' t')).get? a = some { o with data:=.set es' (ep + 1) t' }:=by
  have:=BO (FQ es' t') ho (by rw [putSet_of es' t' hd];rfl)
  rw [putSet_of es' t' hd] at this;exact this
 exact ⟨hg,_,es',ep + 1,t',hg,hex,rfl,hel,hp,hb,hf,hr,hl⟩
theorem aDV {g:Bool → Sem Unit} (hg:∀ (b:Bool) (s₁:Shared) (Q':Unit → Shared → Prop),Q' () s₁ → wpAny (model P w) A (g b) Q' E s₁)
  {a:Addr} {o:Obj} {es:Array (Int × Value)} {ep:Nat} {t:Al} (ho:s.heap.get? a = some o) (hex:o.ExactSet) (hd:o.data = .set es ep t)
  {es1:Array (Int × Value)} {t2:Al} {ks:List Key} (hel1:ElemsOf (aN P w) es1.toList) (hp1:(es1.toList.map fun e=>gE e.2).Perm ks)
  (hb1:es1.size < CK) (hf2:t2.fits es1.size = true) (hr2:Ris t2) (hl2:dO w = true ∨ t2.led = true) {wasDummy:Bool} {R:Option Bool → Shared → Prop}
  (h:∀ h',BP a s.heap h' → hU P w h' a ks → R (some true) { s with heap:=h' }) :
  wpAny (model P w) A (do
    storeSet a es1 t2
    if (!wasDummy && t2.tooFull) = true then do
      g (relayAll t2 es1 (DA es1.size)).2.2
      storeSet a (relayAll t2 es1 (DA es1.size)).1 (relayAll t2 es1 (DA es1.size)).2.1
      pure (some true)
     else pure (some true)) R E s:=by
 refine AB (wpAny_storeSet_of ho hd ?_ (fits_of_scanBound hb1))
 obtain ⟨ho1,hS1⟩:=wW (P:=P) (w:=w) ho hex hd hel1 hp1 hb1 hf2 hr2 hl2
 have hsb1:=Bg s.heap a (FQ es1 t2)
 split
 ·have hp:=relayAll_perm t2 es1 (DA es1.size)
  have hfr:=relayAll_fits t2 es1 (DA es1.size)
  have hrr:=Ris.relayAll (t:=t2) es1 (DA es1.size)
  generalize hRl:relayAll t2 es1 (DA es1.size) = Rl at hp hfr hrr ⊢
  obtain ⟨es2,t3,gave2⟩:=Rl
  dsimp only at hp hfr hrr ⊢
  have hel2:ElemsOf (aN P w) es2.toList:=hel1.perm hp
  have hsz:es2.size = es1.size:=by rw [← BA,hp.length_eq,BA]
  have hb2:es2.size < CK:=by rw [hsz];exact hb1
  refine AB (hg _ _ _ ?_)
  refine AB (wpAny_storeSet_of ho1 rfl ?_ (fits_of_scanBound hb2))
  obtain ⟨_,hS2⟩:=wW (P:=P) (w:=w) ho1 hex rfl hel2 ((hp.map _).trans hp1) hb2 hfr hrr.1 (by rw [hrr.2];exact hl2)
  exact AF (h _ (hsb1.trans (Bg _ a _)) hS2)
 ·exact AF (h _ hsb1 hS1)
theorem aKF {a:Addr} {ks:List Key} {k:Key} {x:Value} {Q:Bool → Shared → Prop} (hkey:(aN P w).is k x = true) (hS:hU P w s.heap a ks) (hroom:ks.length + 1 < CK)
  (h:∀ (b:Bool) h',BP a s.heap h' → hU P w h' a (if k ∈ ks then ks else ks ++ [k]) → Q b { s with heap:=h' }) :
  wpAny (model P w) A (setAddHashed a x ((aN P w).hash k)) Q E s:=by
 obtain ⟨o,es,ep,t,ho,hex,hd,hel,hp,hb,hf,hr,hl⟩:=hS
 have hsc:=aDA hkey
 have hn:es.size = ks.length:=hU.len (P:=P) (w:=w) (h:=s.heap) (a:=a) hp
 have hb1:es.size + 1 < CK:=by rw [hn];exact hroom
 unfold setAddHashed setAddHashedIn
 refine By (AB (Cl ho hd hf ?_))
 dsimp only
 rw [byScan_of hsc hb hel]
 simp only [↓reduceIte]
 unfold setAddByScan
 refine AB ?_
 refine AB (Dl ?_)
 refine AB (wpAny_setScan_of hkey ho hd hf hel ?_)
 cases hfi:List.findIdx? (fun e=>(aN P w).is k e.2) es.toList with
 | some j =>
  dsimp only
  obtain ⟨hj,hpj,_⟩:=List.findIdx?_eq_some_iff_getElem.mp hfi
  have hSk:k ∈ ks:=by
   refine hp.mem_iff.mp (AT.mpr ⟨es.toList[j],Cp hj,oP hpj⟩)
  refine AF (AF ?_)
  have e:s = { s with heap:=s.heap }:=by cases s;rfl
  have:=h false s.heap (BP.refl a s.heap) ⟨o,es,ep,t,ho,hex,hd,hel,by rw [if_pos hSk];exact hp,hb,hf,hr,hl⟩
  rw [e];exact this
 | none =>
  dsimp only
  have hSk:k ∉ ks:=by
   intro hk
   obtain ⟨e,he,hq⟩:=AT.mp (hp.mem_iff.mpr hk)
   obtain ⟨⟨k',hk',_⟩,_⟩:=hel e he
   have:=oP hk'
   rw [hq] at this
   subst this
   have:=List.findIdx?_eq_none_iff.mp hfi e he
   rw [hk'] at this
   exact Bool.noConfusion this
  rw [if_neg hSk] at h
  have hgw:∀ (b:Bool) {s₁:Shared} {Q':Unit → Shared → Prop},Q' () s₁ → wpAny (model P w) A (match b with | true=>rule "set.scan.the-table-gave-way" | false=>pure ()) Q' E s₁ :=
   fun b s₁ Q' hq=>by cases b <;> first | exact AF hq | exact Dl hq
  have hperm:=layNew_perm t es ((aN P w).hash k) x
  have hfits:=layNew_fits t es ((aN P w).hash k) x
  have hris:=hr.layNew es ((aN P w).hash k) x
  generalize hL:layNew t es ((aN P w).hash k) x = L at hperm hfits hris ⊢
  obtain ⟨es1,t1,wasDummy,gave⟩:=L
  dsimp only at hperm hfits hris ⊢
  rw [Array.toList_push] at hperm
  have hel1:ElemsOf (aN P w) es1.toList:=(hel.push hkey hsc).perm hperm
  have hp1:(es1.toList.map fun e=>gE e.2).Perm (ks ++ [k]):=by
   refine (hperm.map _).trans ?_
   rw [AW]
   refine DU.append hp ?_
   rw [Ac,Ci,oP hkey]
  have hb1':es1.size < CK:=by rw [← BA,hperm.length_eq,Ag,BA];simpa using hb1
  refine AB (hgw _ ?_)
  have hl1:dO w = true ∨ t1.led = true:=by rw [hris.2];exact hl
  split
  ·refine AB ?_
   rw [hashByValue_scannable 8 hsc]
   refine AF ?_
   refine aDV ?_ ho hex hd hel1 hp1 hb1' ?_ ?_ ?_ ?_
   ·intro b s₁ Q' hq;cases b <;> first | exact AF hq | exact Dl hq
   ·split
    ·exact hfits
    ·exact Al.fits_plain_off hfits
   ·split
    ·exact hris.1
    ·exact hris.1.plain
   ·split
    ·exact hl1
    ·exact hl1
   ·intro h' hsb hS';dsimp only;exact AF (h _ h' hsb hS')
  ·refine AB (AF ?_)
   simp only [↓reduceIte]
   refine aDV ?_ ho hex hd hel1 hp1 hb1' hfits hris.1 hl1 ?_
   ·intro b s₁ Q' hq;cases b <;> first | exact AF hq | exact Dl hq
   ·intro h' hsb hS';dsimp only;exact AF (h _ h' hsb hS')
end
end L2
namespace L2
open PySem PySem.Spec PyProof.Rows
section
variable {P:Program} {w:World} {A:Around} {E:Value → Shared → Prop} {s:Shared}
theorem xQ (a:Value) {Q₁:Value → Shared → Prop}
  (h:∀ led:Bool,(dO w = true ∨ led = true) → Q₁ (.ref s.heap.objs.size) { s with heap:=s.heap.push (jX led) }) :
  codeAny (model P w) A (.call (.builtin "set.__new__") ⟨[.type "set",a],[]⟩) (wants Q₁ E) s:=by
 refine Fp ?_
 show wpAny _ A.in1 (do checkBuiltinCall "set.__new__" ⟨[.type "set",a],[]⟩;again (.builtin "set.__new__" ⟨[.type "set",a],[]⟩)) _ _ s
 refine AB (Fk (PySem.F.newCall_set_1 a) (AF ⟨CJ PySem.F.plain_set_new _,Bk PySem.F.entry_set_new ?_⟩))
 rw [BT PySem.F.plain_set_new _]
 unfold Builtin.«set.__new__» Builtin.Frozenset.newClass
 have hsub:=sub_set_self
 obtain ⟨hp,g,d,tk,os⟩:=s
 dsimp only
 wp_walk
 refine DP (AF ?_)
 dsimp only
 simp only [newObj]
 refine AB (wpAny_alloc (AF ?_))
 exact AF (h _ (by
  show dO w = true ∨ (!(dO w)) = true
  cases dO w
  ·exact .inr rfl
  ·exact .inl rfl))
end
section
variable {P:Program} {w:World} {A:Around} {R:Result → Shared → Prop} {I:Addr} {fp wr:List Addr} {G:Array Ep → Array Ep → Prop} {n:Nat} {Pv:Nat → Value → Prop} {Stt:Nat → Shared → Prop}
theorem aHP (W:WalksS P w A.in1 I fp wr G n Pv Stt) (D:Addr) (hD:D ∉ fp) (key:Nat → Key) (hv:∀ i v,Pv i v → (aN P w).is (key i) v = true) (hb:n + 1 < CK) (fin:∀ s s',Moved (D :: wr) G s s' → hU P w s'.heap D (dA key n) → True) :
  ∀ (m i:Nat) (s:Shared),n - i = m → i ≤ n → Stt i s → hU P w s.heap D (dA key i) →
   (∀ s',Moved (D :: wr) G s s' → hU P w s'.heap D (dA key n) → R (.ok (.ret .none)) s') →
   codeAny (model P w) A (.builtin "set.update.loop" ⟨[.ref D,.ref I],[]⟩) R s:=by
 have hDw:D ∉ wr:=fun z=>hD (W.sub _ z)
 have sub:∀ b ∈ wr,b ∈ D :: wr:=fun b z=>AV _ z
 have moved:∀ {s s':Shared} {c:List Key},Moved wr G s s' → hU P w s.heap D c → hU P w s'.heap D c:=fun mv ⟨o,es,ep,t,ho,r⟩=>⟨o,es,ep,t,mv.heap D _ hDw ho,r⟩
 intro m
 induction m with
 | zero =>
  intro i s e1 e2 st hS hR
  obtain rfl:i = n:=by omega
  refine Bk CM ?_
  rw [BT BV _]
  show wpAny _ A.in1 (pyNext (.ref I) >>= _) _ _ s
  refine AB (W.done s _ _ st fun s' mv=>?_)
  exact AF (hR s' (mv.mono sub) (moved mv hS))
 | succ m ih =>
  intro i s e1 e2 st hS hR
  have lt:i < n:=by omega
  refine Bk CM ?_
  rw [BT BV _]
  show wpAny _ A.in1 (pyNext (.ref I) >>= _) _ _ s
  refine AB (W.item i s _ _ lt st fun v s' pv st' mv=>?_)
  have hk:=hv i v pv
  have hS1:=moved mv hS
  show wpAny _ A.in1 (holding [v] (setAdd D v) >>= _) _ _ s'
  refine AB (By ?_)
  unfold setAdd
  refine By (AB ((aN P w).pyHash (k:=key i) hk ?_))
  have room:(dA key i).length + 1 < CK:=by have:=qN key i;omega
  refine aKF (s:={ s' with toks:=s'.toks + 1 }) hk hS1 room fun bb h' sb hS3=>?_
  refine AF ⟨CJ BV _,ih (i + 1) _ (by omega) lt (W.frame _ s' _ _ st' (CS _) fun b hb o e=>?_) hS3 fun s2 mv2 hS4=>?_⟩
  ·rw [sb.2 b (fun z:b = D=>hD (by rw [← z];exact hb))]
   exact e
  ·refine hR s2 (Moved.trans W.gtrans ((mv.mono sub).then_heap (CS _) fun b o hb e=>?_) mv2) hS4
   rw [sb.2 b (fun z:b = D=>hb (by rw [z];exact AY))]
   exact e
end
section
variable {P:Program} {w:World} {A:Around} {E:Value → Shared → Prop} {s:Shared}
set_option maxHeartbeats 8000000 in
theorem aAB {l:Addr} {its:List Value} {ks:List Key} {Q:Value → Shared → Prop} (hh:A.handled = none) (hl:s.heap.IsList l its.toArray) (hk:∀ i v,its[i]? = some v → (aN P w).is (ks.getD i (.inl 0)) v = true) (hn:its.length = ks.length) (hb:its.length + 1 < CK)
  (h:∀ (h':Heap) (tk:Nat),hU P w h' s.heap.objs.size (lL ks) → (∀ b o,s.heap.get? b = some o → h'.get? b = some o) → Q (.ref s.heap.objs.size) { s with heap:=h',toks:=tk }) :
  wpAny (model P w) A (call (.type "set") [.ref l]) Q E s:=by
 obtain ⟨c,tl,hmro⟩:=BE.mro
 have m1:=BE.made
 have m2:=BE.sub
 refine Fa (Fp ?_)
 show wpAny _ _ (callAny (.type "set") _) _ _ _
 refine AF ⟨Code.quiet_builtin _ (by decide +kernel),Bk PySem.F.entry_type_call ?_⟩
 rw [Around.under_plain (weight_type_call_type "set" [.ref l] []) rfl]
 have m3:=BE.notType
 have m4:=BE.canCreate
 have m5:=PySem.F.typeCall_set_1 (.ref l)
 repeat (any_goals (first | assumption | wp_step))
 refine Ce (xQ (.ref l) (E:=E) (Q₁:=fun ob s1=>∃ led:Bool,(dO w = true ∨ led = true) ∧ ob = .ref s.heap.objs.size ∧ s1 = { s with heap:=s.heap.push (jX led) }) fun led hld=>⟨led,hld,rfl,rfl⟩) fun r s1 hr=>?_
 cases r with
 | error e=>exact hr
 | ok fl =>
  cases fl with
  | ret ob =>
   obtain ⟨led,hld,rfl,rfl⟩:=hr
   have hS:(s.heap.push (jX led)).get? s.heap.objs.size = some (jX led):=AN _ rfl
   have hT:Shared.TypeIs { s with heap:=s.heap.push (jX led) } (.ref s.heap.objs.size) "set":=⟨_,hS,rfl⟩
   have m6:=BE.init.lookup
   have m7:=BE.init.bind (.ref s.heap.objs.size)
   repeat (any_goals (first | assumption | wp_step))
   refine Ce (codeAny_call_builtin (R:=wants (fun r s2=>r = .none ∧ ∃ h' tk,s2 = { s with heap:=h',toks:=tk } ∧ hU P w h' s.heap.objs.size (lL ks) ∧ (∀ b o,s.heap.get? b = some o → h'.get? b = some o)) E)
    BE.init.plain PySem.F.entry_set_init (check_set_init_1 hT ?_)) fun r2 s2 hr2=>?_
   ·obtain ⟨⟨oc,od,oda,osl⟩,hol,hcl,nl,hdl⟩:=hl
    simp only at hcl hdl
    subst hcl hdl
    have hol1:(s.heap.push (jX led)).get? l = some { cls:=.type "list",dict:=od,data:=.seq its.toArray nl,slots:=osl }:=AC _ hol
    have m8:=PySem.F.sub_list_set
    have m9:=PySem.F.sub_list_frozenset
    have m10:(Bx "list" == Bx "dict") = false:=by decide
    have hl1:(s.heap.push (jX led)).IsList l its.toArray:=⟨_,hol1,rfl,nl,rfl⟩
    have lS:l < s.heap.objs.size:=AX hol
    unfold Builtin.«set.__init__» noKeywords Builtin.Frozenset.updateFrom
    generalize hPI:pyIter = PI
    wp_walk
    subst hPI
    refine DG hl1 (AB (Fq ?_))
    have hh3:A.in1.in1.in1.handled = none:=by simp [hh]
    have nI:l ≠ (s.heap.push (jX led)).objs.size:=by rw [CO];exact Ad (Ck lS)
    have nS:s.heap.objs.size ∉ [(s.heap.push (jX led)).objs.size,l]:=by
     rw [CO]
     simp only [Af,AU,Bc,or_false,not_or]
     exact ⟨Ad (Cr _),Du lS⟩
    have sz:its.toArray.size = ks.length:=by rw [AQ,hn]
    refine aHP ((FG hh3 _ l nI its.toArray).toS) s.heap.objs.size nS (fun i=>ks.getD i (.inl 0)) (fun i v pv=>hk i v (by simpa using pv)) (by rw [AQ];exact hb) (fun _ _ _ _=>trivial) (its.toArray.size - 0) 0 _ (by omega) (BG _)
     ⟨⟨_,AN _ rfl,rfl,rfl⟩,(hl1.push _)⟩ ?_ ?_
    ·have g:((s.heap.push (jX led)).push { cls:=.type "list_iterator",data:=.fields #[.ref l,.int 0 0] }).get? s.heap.objs.size = some (jX led):=AC _ hS
     exact ⟨_,#[],0,_,g,⟨rfl,rfl,rfl⟩,rfl,fun e he=>by simp at he,EX _,by decide,by rfl,⟨rfl,fun i k _ h=>by simp [Al.fresh] at h⟩,hld⟩
    ·intro s3 mv hS3
     obtain ⟨h3,g3,d3,t3,o3⟩:=s3
     have e1:g3 = s.gens:=mv.gens
     have e2:d3 = s.drawn:=mv.drawn
     have e3:o3 = s.os:=mv.os
     subst e1 e2 e3
     rw [sz] at hS3
     show wpAny _ _ _ _ _ _
     refine AF ?_
     show wpAny _ _ (ret BW) _ _ _
     refine AF ⟨rfl,h3,t3,rfl,hS3,fun b o e=>?_⟩
     have lb:=AX e
     have b1:b ≠ s.heap.objs.size:=Ad lb
     have b2:b ≠ (s.heap.push (jX led)).objs.size:=by rw [CO];exact Ad (Ck lb)
     exact mv.heap b o (by simp only [Af,AU,Bc,or_false,not_or];exact ⟨b1,b2⟩) (AC _ (AC _ e))
   ·cases r2 with
    | error e=>exact hr2
    | ok f2 =>
     cases f2 with
     | ret r =>
      obtain ⟨rfl,h',tk,rfl,hS2,hk2⟩:=hr2
      repeat (any_goals (first | assumption | wp_step))
      exact h _ _ hS2 hk2
     | _=>exact hr2.elim
  | _=>exact hr.elim
end
end L2
namespace L2
open PySem PySem.Spec PyProof.Rows
theorem cC:Slot "set_iterator" "__next__" "set_iterator.__next__" :=
 .of (owner:="set_iterator") (n:="__next__") (by rw [Fo,FF];kernel_rfl) (by decide +kernel) (by decide +kernel) (by decide +kernel)
  (by first | exact .inl (by decide +kernel) | exact .inr (by decide +kernel)) (by rw [Fs];kernel_rfl)
theorem qA:Slot "set_iterator" "__iter__" "set_iterator.__iter__" :=
 .of (owner:="set_iterator") (n:="__iter__") (by rw [Fo,FF];kernel_rfl) (by decide +kernel) (by decide +kernel) (by decide +kernel)
  (by first | exact .inl (by decide +kernel) | exact .inr (by decide +kernel)) (by rw [Fs];kernel_rfl)
theorem iI:entryFor table "set_iterator.__next__" = some Builtin.«set_iterator.__next__»:=entryFor_of_tree (by kernel_rfl)
theorem xB:entryFor table "set_iterator.__iter__" = some Builtin.«dict_keyiterator.__iter__» :=
 entryFor_alias (id':="dict_keyiterator.__iter__") (by kernel_rfl) rfl (by decide +kernel) (by kernel_rfl)
theorem zZ:entryFor table "set.__iter__" = some Builtin.«frozenset.__iter__» :=
 entryFor_alias (id':="frozenset.__iter__") (by kernel_rfl) rfl (by decide +kernel) (by kernel_rfl)
theorem aCH:Manifest.owners.lookup (String.ofList ['r','o','t','a','r','e','t','i','_','t','e','s'].reverse) = some Manifest.sig_set_iterator:=by kernel_rfl
theorem jC (a:Value):argsOk "set_iterator.__next__" ⟨[a],[]⟩:=by
 unfold argsOk;rw [signature?_of (id:="set_iterator.__next__") (n:=['_','_','t','x','e','n','_','_']) (o:=['r','o','t','a','r','e','t','i','_','t','e','s']) (by kernel_rfl) aCH];kernel_rfl
theorem aAA (a:Value):argsOk "set_iterator.__iter__" ⟨[a],[]⟩:=by
 unfold argsOk;rw [signature?_of (id:="set_iterator.__iter__") (n:=['_','_','r','e','t','i','_','_']) (o:=['r','o','t','a','r','e','t','i','_','t','e','s']) (by kernel_rfl) aCH];kernel_rfl
def gL (h:Heap) (it:Addr) (f:Value) (i:Nat) (a:Addr) (n ep:Nat):Prop:=∃ o,h.get? it = some o ∧ o.cls = .type "set_iterator" ∧ o.data = .fields #[f,.int i 0,.ref a,.int n 0,.int ep 0]
theorem gL.typeIs {s:Shared} {it:Addr} {f:Value} {i:Nat} {a:Addr} {n ep:Nat} (x:gL s.heap it f i a n ep):s.TypeIs (.ref it) "set_iterator":=let ⟨o,ho,hc,_⟩:=x;⟨o,ho,hc⟩
theorem gL.at {h h':Heap} {it:Addr} {f:Value} {i:Nat} {a:Addr} {n ep:Nat} (x:gL h it f i a n ep) (e:∀ o,h.get? it = some o → h'.get? it = some o):gL h' it f i a n ep:=let ⟨o,ho,r⟩:=x;⟨o,e _ ho,r⟩
section
variable {P:Program} {w:World} {A:Around} {E:Value → Shared → Prop} {s:Shared} {it a:Addr} {o:Obj} {es:Array (Int × Value)} {ep:Nat} {t:Al}
theorem yL {sl i:Nat} {Q:Option (Value × Nat) → Shared → Prop} (hb:dO w = true) (ho:s.heap.get? a = some o) (hd:o.data = .set es ep t) (hf:t.fits es.size = true)
  (h:Q (((DQ (w.params.setOrder a ep) es)[i]?).map fun e=>(e.2,sl)) s):wpAny (model P w) A (setNext a sl i ep) Q E s:=by
 unfold setNext setsByText
 refine AB (Cl ho hd hf ?_)
 refine AB (AB (DP (AF ?_)))
 show wpAny _ _ (if dO w = true then _ else _) _ _ s
 rw [if_pos hb]
 simp only [bne_self_eq_false,Bh,if_false]
 refine AB ?_
 unfold setWalk setsByText
 refine AB (Cl ho hd hf ?_)
 refine AB (AB (DP (AF ?_)))
 show wpAny _ _ (if dO w = true then _ else _) _ _ s
 rw [if_pos hb]
 refine AB (DP ?_)
 refine AF ?_
 exact AF h
theorem vS {sl i:Nat} {Q:Option (Value × Nat) → Shared → Prop} (hb:dO w = false) (ho:s.heap.get? a = some o) (hd:o.data = .set es ep t) (hf:t.fits es.size = true)
  (hp:(!t.plain && decide (es.size > 1)) = false) (hl:t.led = true)
  (h:Q (match es[BY t.place sl]?,t.place[BY t.place sl]? with | some (_,x),some j=>some (x,j + 1) | _,_=>none) s):wpAny (model P w) A (setNext a sl i ep) Q E s:=by
 unfold setNext setsByText
 refine AB (Cl ho hd hf ?_)
 refine AB (AB (DP (AF ?_)))
 show wpAny _ _ (if dO w = true then _ else _) _ _ s
 rw [if_neg (by rw [hb];exact Ab)]
 show wpAny _ _ (if (!t.plain && decide (es.size > 1)) = true then _ else _) _ _ s
 rw [if_neg (by rw [hp];exact Ab)]
 refine AB (m:=if (!t.led && !es.isEmpty) = true then unsupported "set:maker-not-led" else pure ()) ?_
 rw [if_neg (by rw [hl];exact Ab)]
 exact AF (AF h)
theorem aGL {sl nx i:Nat} {x:Value} {Q:Option Value → Shared → Prop} (hit:gL s.heap it (.int sl 0) i a es.size ep) (ho:s.heap.get? a = some o) (hd:o.data = .set es ep t) (hf:t.fits es.size = true)
  (hn:∀ (A:Around) (Q':Option (Value × Nat) → Shared → Prop) (E:Value → Shared → Prop),Q' (some (x,nx)) s → wpAny (model P w) A (setNext a sl i ep) Q' E s)
  (hQ:∀ h',gL h' it (.int nx 0) (i + 1) a es.size ep → BP it s.heap h' → Q (some x) { s with heap:=h' }) :
  wpAny (model P w) A (pyNext (.ref it)) Q E s:=by
 obtain ⟨oi,hoi,hci,hdi⟩:=id hit
 unfold pyNext
 refine AB (DW (CZ (name:=DY "__next__") hit.typeIs cC
  (CG cC hit.typeIs iI ?_ (jC _))))
 unfold Builtin.«set_iterator.__next__»
 refine AB (AF ?_)
 refine AB (Dd hoi hdi ?_)
 show wpAny _ _ (setEntries a >>= _) _ _ s
 refine AB (DS ho hd hf ?_)
 simp only [bne_self_eq_false,Bh,if_false]
 show wpAny _ _ (setNext a sl i ep >>= _) _ _ s
 refine AB (hn _ _ _ ?_)
 show wpAny _ _ (setField (.ref it) 0 (rawInt nx) >>= _) _ _ s
 refine AB (Cv hoi hdi (by simp) ?_)
 have h1:=BO (h:=s.heap) (Dh (·.setIfInBounds 0 (rawInt nx))) hoi (DC (Bo hdi _))
 have d1:=Bo hdi (·.setIfInBounds 0 (rawInt nx))
 refine AB (Cv (s:={ s with heap:=s.heap.update it (Dh (·.setIfInBounds 0 (rawInt nx))) }) h1 d1 (by simp) ?_)
 refine AF ⟨_,rfl,AF (hQ _ ⟨_,BO _ h1 (DC (Bo d1 _)),?_,?_⟩ ((Bg ..).trans (Bg ..)))⟩
 ·exact (EF ..).trans ((EF ..).trans hci)
 ·rw [Bo d1];simp [rawInt]
theorem aKB {sl i:Nat} {Q:Option Value → Shared → Prop} (hh:A.handled = none) (hit:gL s.heap it (.int sl 0) i a es.size ep) (ho:s.heap.get? a = some o) (hd:o.data = .set es ep t) (hf:t.fits es.size = true)
  (hn:∀ (A:Around) (Q':Option (Value × Nat) → Shared → Prop) (E:Value → Shared → Prop),Q' none s → wpAny (model P w) A (setNext a sl i ep) Q' E s)
  (hQ:∀ h',Heap.ExtBut it s.heap h' → Q none { s with heap:=h' }) :
  wpAny (model P w) A (pyNext (.ref it)) Q E s:=by
 obtain ⟨oi,hoi,hci,hdi⟩:=id hit
 unfold pyNext
 refine AB (DW (CZ (name:=DY "__next__") hit.typeIs cC
  (CG cC hit.typeIs iI ?_ (jC _))))
 unfold Builtin.«set_iterator.__next__»
 refine AB (AF ?_)
 refine AB (Dd hoi hdi ?_)
 show wpAny _ _ (setEntries a >>= _) _ _ s
 refine AB (DS ho hd hf ?_)
 simp only [bne_self_eq_false,Bh,if_false]
 show wpAny _ _ (setNext a sl i ep >>= _) _ _ s
 refine AB (hn _ _ _ ?_)
 show wpAny _ _ (setField (.ref it) 2 .none >>= _) _ _ s
 refine AB (Cv hoi hdi (by simp) ?_)
 refine AB ?_
 simp only [newExc,newTuple]
 refine AB (Bm ?_ (by size_fits))
 refine AB (m:=De _ _) (Fk (a:=BW) (by first | rfl | (simp only [De];rfl)) ?_)
 refine Bm ?_ (by size_fits)
 simp only [raiseNew]
 refine AB (wpAny_handled ?_)
 rw [show A.in1.handled = none from hh]
 refine AB (AF (wpAny_throw ?_))
 refine AB (Dm (T:="StopIteration") (b:=true) ⟨_,AN _ rfl,rfl⟩ Ft ?_)
 exact AF (hQ _ (((Bg ..).extBut.push _).push _))
end
end L2
namespace L2
open PySem PySem.Spec PyProof.Rows
theorem pL {α:Type}:∀ {l:List α} {i:Nat} (h:i < l.length),(l[i] :: l.eraseIdx i).Perm l
 | [],i,h=>absurd h (Nat.not_lt_zero _)
 | x :: l,0,h=>EX _
 | x :: l,i + 1,h=>by
  have h':i < l.length:=by simpa using h
  have ih:=pL (l:=l) (i:=i) h'
  show (l[i] :: x :: l.eraseIdx i).Perm (x :: l)
  exact (DU.swap _ _ _).trans (DU.cons _ ih)
theorem aNW {α:Type} (nx:Nat → Nat):∀ (fuel k:Nat) (left:List α) (out:Array α),left.length ≤ fuel → (DQ.go nx fuel k left out).toList.Perm (out.toList ++ left):=by
 intro fuel
 induction fuel with
 | zero =>
  intro k left out h
  obtain rfl:left = []:=by cases left <;> simp_all
  simp [DQ.go]
 | succ n ih =>
  intro k left out h
  unfold DQ.go
  cases e:left[nx k % left.length]? with
  | none =>
   have:left = []:=by
    cases left with
    | nil=>rfl
    | cons b r =>
     have:=List.getElem?_eq_none_iff.mp e
     have:=Nat.mod_lt (nx k) (show 0 < (b :: r).length by simp)
     omega
   subst this
   simp
  | some x =>
   dsimp only
   obtain ⟨hlt,rfl⟩:=AE.mp e
   refine (ih _ _ _ (by rw [List.length_eraseIdx];split <;> omega)).trans ?_
   rw [Array.toList_push,CH]
   refine DU.append_left _ ?_
   rw [List.singleton_append]
   exact pL hlt
theorem rL {α:Type} (nx:Nat → Nat) (xs:Array α):(DQ nx xs).toList.Perm xs.toList:=by
 have:=aNW nx xs.size 0 xs.toList #[] (by simp)
 simpa [DQ] using this
section
variable {P:Program} {w:World} {A:Around} {E:Value → Shared → Prop} {s:Shared} {it a:Addr} {o:Obj} {es:Array (Int × Value)} {ep:Nat} {t:Al}
theorem zO {M:Model} {src:Source} {n:Nat} {Q:Nat → Shared → Prop} (hn:n ≠ 0) (h:∀ i d,i < n → Q i { s with drawn:=d }):wpAny M A (choose src n) Q E s :=
 fun Γ p _=>⟨hn,h _ _ (Nat.mod_lt _ (Nat.pos_of_ne_zero hn))⟩
theorem yZ {M:Model} {α:Type}:∀ (n:Nat) (xs:List α) (s:Shared) {Q:List α → Shared → Prop},n = xs.length → (∀ ys d,ys.Perm xs → Q ys { s with drawn:=d }) → wpAny M A (drawOrder n xs) Q E s
 | 0,xs,s,Q,e,h=>by
  obtain rfl:xs = []:=by cases xs <;> simp_all
  exact AF (by have:=h [] s.drawn (EX _);cases s;exact this)
 | n + 1,[],s,Q,e,h=>by simp at e
 | n + 1,y :: ys,s,Q,e,h=>by
  unfold drawOrder
  refine AB (zO (by simp) fun i d hi=>?_)
  have ei:(y :: ys)[i]? = some (y :: ys)[i]:=AD hi
  rw [ei]
  dsimp only
  refine AB (yZ n ((y :: ys).eraseIdx i) _ (by rw [List.length_eraseIdx,if_pos hi];simp at e ⊢;omega) fun zs d2 hp=>?_)
  refine AF (h _ d2 ?_)
  exact (DU.cons _ hp).trans (pL hi)
theorem aKA {i pl:Nat} {tp:Addr} {ot:Obj} {ps:Array Value} {np:Nat} {x:Value} {hx:Int} {Q:Option Value → Shared → Prop} (hit:gL s.heap it (.ref tp) i a es.size ep) (ho:s.heap.get? a = some o) (hd:o.data = .set es ep t) (hf:t.fits es.size = true)
  (hot:s.heap.get? tp = some ot) (hdt:ot.data = .seq ps np) (hp:ps[i]? = some (.int pl 0)) (hx:es[pl]? = some (hx,x))
  (hQ:∀ h',gL h' it (.ref tp) (i + 1) a es.size ep → BP it s.heap h' → Q (some x) { s with heap:=h' }) :
  wpAny (model P w) A (pyNext (.ref it)) Q E s:=by
 obtain ⟨oi,hoi,hci,hdi⟩:=id hit
 unfold pyNext
 refine AB (DW (CZ (name:=DY "__next__") hit.typeIs cC
  (CG cC hit.typeIs iI ?_ (jC _))))
 unfold Builtin.«set_iterator.__next__»
 refine AB (AF ?_)
 refine AB (Dd hoi hdi ?_)
 show wpAny _ _ (setEntries a >>= _) _ _ s
 refine AB (DS ho hd hf ?_)
 simp only [bne_self_eq_false,Bh,if_false]
 show wpAny _ _ (seqItems? (.ref tp) >>= _) _ _ s
 refine AB (FN hot hdt ?_)
 dsimp only
 rw [show (DK (i:Int)) = i from Bl i,hp]
 show wpAny _ _ (setNextDrawn a pl ep >>= _) _ _ s
 refine AB ?_
 unfold setNextDrawn
 refine AB (Cl ho hd hf ?_)
 simp only [bne_self_eq_false,Bh,if_false]
 rw [hx]
 refine AF ?_
 refine AB (Cv hoi hdi (by simp) ?_)
 refine AF ⟨_,rfl,AF (hQ _ ⟨_,BO _ hoi (DC (Bo hdi _)),?_,?_⟩ (Bg ..))⟩
 ·exact (EF ..).trans hci
 ·rw [Bo hdi];simp [rawInt]
theorem aNQ {i:Nat} {tp:Addr} {ot:Obj} {ps:Array Value} {np:Nat} {Q:Option Value → Shared → Prop} (hh:A.handled = none) (hit:gL s.heap it (.ref tp) i a es.size ep) (ho:s.heap.get? a = some o) (hd:o.data = .set es ep t) (hf:t.fits es.size = true)
  (hot:s.heap.get? tp = some ot) (hdt:ot.data = .seq ps np) (hp:ps[i]? = none)
  (hQ:∀ h',Heap.ExtBut it s.heap h' → Q none { s with heap:=h' }) :
  wpAny (model P w) A (pyNext (.ref it)) Q E s:=by
 obtain ⟨oi,hoi,hci,hdi⟩:=id hit
 unfold pyNext
 refine AB (DW (CZ (name:=DY "__next__") hit.typeIs cC
  (CG cC hit.typeIs iI ?_ (jC _))))
 unfold Builtin.«set_iterator.__next__»
 refine AB (AF ?_)
 refine AB (Dd hoi hdi ?_)
 show wpAny _ _ (setEntries a >>= _) _ _ s
 refine AB (DS ho hd hf ?_)
 simp only [bne_self_eq_false,Bh,if_false]
 show wpAny _ _ (seqItems? (.ref tp) >>= _) _ _ s
 refine AB (FN hot hdt ?_)
 dsimp only
 rw [show (DK (i:Int)) = i from Bl i,hp]
 dsimp only
 refine AB (Cv hoi hdi (by simp) ?_)
 have h1:=BO (h:=s.heap) (Dh (·.setIfInBounds 0 (rawInt 0))) hoi (DC (Bo hdi _))
 have d1:=Bo hdi (·.setIfInBounds 0 (rawInt 0))
 refine AB (Cv (s:={ s with heap:=s.heap.update it (Dh (·.setIfInBounds 0 (rawInt 0))) }) h1 d1 (by simp) ?_)
 refine AB ?_
 simp only [newExc,newTuple]
 refine AB (Bm ?_ (by size_fits))
 refine AB (m:=De _ _) (Fk (a:=BW) (by first | rfl | (simp only [De];rfl)) ?_)
 refine Bm ?_ (by size_fits)
 simp only [raiseNew]
 refine AB (wpAny_handled ?_)
 rw [show A.in1.handled = none from hh]
 refine AB (AF (wpAny_throw ?_))
 refine AB (Dm (T:="StopIteration") (b:=true) ⟨_,AN _ rfl,rfl⟩ Ft ?_)
 exact AF (hQ _ ((((Bg ..).trans (Bg ..)).extBut.push _).push _))
theorem zY {f:Value} {i n:Nat} {Q:Value → Shared → Prop} (hit:gL s.heap it f i a n ep) (h:Q (.ref it) s):wpAny (model P w) A (pyIter (.ref it)) Q E s:=by
 refine Ff hit.typeIs qA (CG qA hit.typeIs xB ?_ (aAA _))
 show wpAny _ _ (ret (.ref it)) _ _ s
 exact AF ⟨_,rfl,"set_iterator",_,hit.typeIs,cC.lookup,h⟩
theorem aDZ (hb:dO w = true) (hh:A.handled = none) (hne:a ≠ it) (hd:o.data = .set es ep t) (hf:t.fits es.size = true) :
  Walks P w A it [it,a] [it] es.size (fun i v=>((DQ (w.params.setOrder a ep) es).toList.map (·.2))[i]? = some v) (fun i h=>gL h it (.int 0 0) i a es.size ep ∧ h.get? a = some o) where
 sub:=fun b hb=>by simp at hb;simp [hb]
 frame:=fun _ _ _ st hk=>⟨st.1.at fun o e=>hk it (by simp) o e,hk a (by simp) _ st.2⟩
 item:=fun i s Q E hi st hQ=>by
  have hsz:(DQ (w.params.setOrder a ep) es).size = es.size:=by
   have:=(rL (w.params.setOrder a ep) es).length_eq;simpa using this
  have hlt:i < (DQ (w.params.setOrder a ep) es).size:=by omega
  have st1:gL s.heap it (.int (0:Nat) 0) i a es.size ep:=st.1
  refine aGL (x:=(DQ (w.params.setOrder a ep) es)[i].2) (nx:=0) st1 st.2 hd hf (fun A' Q' E' h=>yL hb st.2 hd hf (by rw [Bq hlt];exact h)) fun h' hit' hs'=>?_
  exact hQ _ h' s.toks (by simp [hlt]) ⟨hit',hs'.extBut _ _ hne st.2⟩ fun b o hb e=>hs'.extBut b o (fun h=>hb (by simp [h])) e
 done:=fun s Q E st hQ=>by
  have hsz:(DQ (w.params.setOrder a ep) es).size = es.size:=by
   have:=(rL (w.params.setOrder a ep) es).length_eq;simpa using this
  have st1:gL s.heap it (.int (0:Nat) 0) es.size a es.size ep:=st.1
  refine aKB hh st1 st.2 hd hf (fun A' Q' E' h=>yL hb st.2 hd hf (by rw [EZ (by omega)];exact h)) fun h' he'=>?_
  exact hQ h' s.toks fun b o hb e=>he' b o (fun h=>hb (by simp [h])) e
 self:=fun _ _ _ _ st hQ=>zY st.1 hQ
def sP (t:Al) (i:Nat):Nat:=if i = 0 then 0 else t.place.toList.getD (i - 1) 0 + 1
theorem tH (r:Ris t) {i:Nat} (hi:i ≤ t.place.size):BY t.place (sP t i) = i:=by
 refine aFR r.up hi (fun k hk=>?_) (fun k h1 h2=>?_)
 ·unfold sP
  rw [if_neg (by omega)]
  rcases Eg k (i - 1) with q | q
  ·have:=r.up k (i - 1) q (by simp;omega);omega
  ·obtain rfl:k = i - 1:=by omega
   omega
 ·unfold sP
  split
  ·omega
  ·have:=r.up (i - 1) k (by omega) (by simpa using h2);omega
theorem yY (hf:t.fits es.size = true):t.place.size = es.size:=by
 unfold Al.fits at hf
 simp at hf
 exact hf.1
theorem aBP (hb:dO w = false) (hh:A.handled = none) (hne:a ≠ it) (hd:o.data = .set es ep t) (hf:t.fits es.size = true) (hp:(!t.plain && decide (es.size > 1)) = false) (hl:t.led = true) (r:Ris t) :
  Walks P w A it [it,a] [it] es.size (fun i v=>(es.toList.map (·.2))[i]? = some v) (fun i h=>gL h it (.int (sP t i) 0) i a es.size ep ∧ h.get? a = some o) where
 sub:=fun b hb=>by simp at hb;simp [hb]
 frame:=fun _ _ _ st hk=>⟨st.1.at fun o e=>hk it (by simp) o e,hk a (by simp) _ st.2⟩
 item:=fun i s Q E hi st hQ=>by
  have hsz:=yY hf
  have hlt:i < t.place.size:=by omega
  refine aGL (x:=es[i].2) (nx:=sP t (i + 1)) st.1 st.2 hd hf (fun A' Q' E' h=>vS hb st.2 hd hf hp hl (by
   rw [tH r (by omega),Bq hi,Bq hlt]
   have e:sP t (i + 1) = t.place[i] + 1:=by
    unfold sP
    rw [if_neg (by omega)]
    simp [Aa,hlt]
   rw [e] at h
   exact h)) fun h' hit' hs'=>?_
  exact hQ _ h' s.toks (by simp [hi]) ⟨hit',hs'.extBut _ _ hne st.2⟩ fun b o hb e=>hs'.extBut b o (fun h=>hb (by simp [h])) e
 done:=fun s Q E st hQ=>by
  have hsz:=yY hf
  refine aKB hh st.1 st.2 hd hf (fun A' Q' E' h=>vS hb st.2 hd hf hp hl (by
   rw [tH r (by omega),EZ (AL _)]
   exact h)) fun h' he'=>?_
  exact hQ h' s.toks fun b o hb e=>he' b o (fun h=>hb (by simp [h])) e
 self:=fun _ _ _ _ st hQ=>zY st.1 hQ
theorem aBQ {tp:Addr} {ot:Obj} {np:Nat} {ps:List Nat} (hh:A.handled = none) (hne:a ≠ it) (hnt:tp ≠ it) (hd:o.data = .set es ep t) (hf:t.fits es.size = true) (hdt:ot.data = .seq (ps.map fun (i:Nat)=>rawInt i).toArray np) (hps:ps.Perm (Az es.size)) :
  Walks P w A it [it,a,tp] [it] es.size (fun i v=>(ps.map fun i=>(es.getD i (0,.none)).2)[i]? = some v) (fun i h=>gL h it (.ref tp) i a es.size ep ∧ h.get? a = some o ∧ h.get? tp = some ot) where
 sub:=fun b hb=>by simp at hb;simp [hb]
 frame:=fun _ _ _ st hk=>⟨st.1.at fun o e=>hk it (by simp) o e,hk a (by simp) _ st.2.1,hk tp (by simp) _ st.2.2⟩
 item:=fun i s Q E hi st hQ=>by
  have hl:ps.length = es.size:=by have:=hps.length_eq;simpa using this
  have hi2:i < ps.length:=by omega
  have hm:ps[i] < es.size:=by have:=hps.mem_iff.mp (Cp hi2);simpa using this
  refine aKA (pl:=ps[i]) (x:=es[ps[i]].2) (hx:=es[ps[i]].1) st.1 st.2.1 hd hf st.2.2 hdt (by simp [hi2,rawInt]) (by rw [Bq hm]) fun h' hit' hs'=>?_
  exact hQ _ h' s.toks (by simp [hi2,hm]) ⟨hit',hs'.extBut _ _ hne st.2.1,hs'.extBut _ _ hnt st.2.2⟩ fun b o hb e=>hs'.extBut b o (fun h=>hb (by simp [h])) e
 done:=fun s Q E st hQ=>by
  have hl:ps.length = es.size:=by have:=hps.length_eq;simpa using this
  refine aNQ hh st.1 st.2.1 hd hf st.2.2 hdt (by simp [hl]) fun h' he'=>?_
  exact hQ h' s.toks fun b o hb e=>he' b o (fun h=>hb (by simp [h])) e
 self:=fun _ _ _ _ st hQ=>zY st.1 hQ
end
end L2
namespace L2
open PySem PySem.Spec PyProof.Rows
theorem vU {α β:Type} (xs:Array α) (d:α) (f:α → β):((Az xs.size).map fun i=>f (xs.getD i d)) = xs.toList.map f:=by
 apply List.ext_getElem
 ·simp
 ·intro i h1 h2
  have:i < xs.size:=by simpa using h1
  simp [this]
section
variable {P:Program} {w:World} {A:Around} {E:Value → Shared → Prop} {s:Shared} {a:Addr} {ks:List Key}
theorem aML {o:Obj} {es:Array (Int × Value)} {ep:Nat} {t:Al} {Q:Bool → Shared → Prop} (ho:s.heap.get? a = some o) (hd:o.data = .set es ep t) (hf:t.fits es.size = true)
  (h:Q (!(dO w) && (!t.plain && decide (es.size > 1))) s):wpAny (model P w) A (setDrawn a) Q E s:=by
 unfold setDrawn setsByText
 refine AB (Cl ho hd hf ?_)
 refine AB (AB (DP (AF ?_)))
 exact AF h
theorem aDG {o:Obj} {es:Array (Int × Value)} {ep:Nat} {t:Al} {Q:Nat → Shared → Prop} (ho:s.heap.get? a = some o) (hd:o.data = .set es ep t) (hf:t.fits es.size = true)
  (h:Q ep s):wpAny (model P w) A (setEpoch a) Q E s:=by
 unfold setEpoch
 exact AB (Cl ho hd hf (AF h))
theorem aKD {Q:Value → Shared → Prop} (hS:hU P w s.heap a ks)
  (hQ:∀ (h1:Heap) (d1:Drawn) (I:Addr) (fp:List Addr) (St:Nat → Heap → Prop) (ord:List Value),s.heap.objs.size ≤ I → (∀ b o,s.heap.get? b = some o → h1.get? b = some o) → (∀ b ∈ fp,b = a ∨ s.heap.objs.size ≤ b) →
   (∀ A:Around,A.handled = none → Walks P w A I fp [I] ks.length (fun i v=>ord[i]? = some v) St) → St 0 h1 → (ord.map gE).Perm ks → (∀ v ∈ ord,∃ k,(aN P w).is k v = true) → Q (.ref I) { s with heap:=h1,drawn:=d1 }) :
  wpAny (model P w) A (pyIter (.ref a)) Q E s:=by
 obtain ⟨o,es,ep,t,ho,hex,hd,hel,hp,hb,hf,hr,hl⟩:=hS
 have hT:s.TypeIs (.ref a) "set":=⟨o,ho,hex.1⟩
 have hlt:a < s.heap.objs.size:=AX ho
 have hn:es.size = ks.length:=hU.len (P:=P) (w:=w) (h:=s.heap) (a:=a) hp
 have keys:∀ (ord:List Value),ord.Perm (es.toList.map (·.2)) → (ord.map gE).Perm ks ∧ ∀ v ∈ ord,∃ k,(aN P w).is k v = true:=by
  intro ord ho
  refine ⟨(ho.map gE).trans (by rw [At];exact hp),fun v hv=>?_⟩
  obtain ⟨e,he,rfl⟩:=AT.mp (ho.mem_iff.mp hv)
  obtain ⟨⟨k,hk,_⟩,_⟩:=hel e he
  exact ⟨k,hk⟩
 refine Ff hT PySem.F.slot_set_iter (CG PySem.F.slot_set_iter hT zZ ?_ (PySem.F.args_set_iter_1 _))
 unfold Builtin.«frozenset.__iter__» Builtin.Frozenset.slot0 slotArgs
 simp only [List.isEmpty_nil,Bool.not_true,Bh,↓reduceIte,bind_assoc,Dj,bne_self_eq_false]
 unfold Builtin.Frozenset.addrOf Builtin.Frozenset.sizeOf
 refine AB (AF ?_)
 try dsimp only
 refine AB (AF ?_)
 refine AB (AB (DS ho hd hf (AF ?_)))
 refine AB (aML ho hd hf ?_)
 by_cases hdr:(!(dO w) && (!t.plain && decide (es.size > 1))) = true
 ·rw [if_pos hdr]
  refine AB (yZ es.size (Az es.size) s (by simp) fun ps d hps=>?_)
  refine AB (wpAny_newTuple ?_ (by rw [AA,hps.length_eq,EE];unfold CK at hb;rw [Bv];omega))
  have ho1:(s.heap.push (seqObj "tuple" (ps.map fun (i:Nat)=>rawInt i).toArray 0)).get? a = some o:=AC _ ho
  refine AB (aDG (s:={ s with drawn:=d,heap:=s.heap.push (seqObj "tuple" (ps.map fun (i:Nat)=>rawInt i).toArray 0) }) ho1 hd hf ?_)
  refine AB (Bm (AF ⟨_,rfl,"set_iterator",_,⟨_,AN _ rfl,rfl⟩,cC.lookup,?_⟩))
  have hord:(ps.map fun i=>(es.getD i (0,.none)).2).Perm (es.toList.map (·.2)):=by
   rw [← vU es (0,BW) (·.2)]
   exact hps.map _
  obtain ⟨q1,q2⟩:=keys _ hord
  have sz:(s.heap.push (seqObj "tuple" (ps.map fun (i:Nat)=>rawInt i).toArray 0)).objs.size = s.heap.objs.size + 1:=by rw [CO]
  refine hQ _ d (s.heap.push (seqObj "tuple" (ps.map fun (i:Nat)=>rawInt i).toArray 0)).objs.size [(s.heap.push (seqObj "tuple" (ps.map fun (i:Nat)=>rawInt i).toArray 0)).objs.size,a,s.heap.objs.size] (fun i h=>gL h (s.heap.push (seqObj "tuple" (ps.map fun (i:Nat)=>rawInt i).toArray 0)).objs.size (.ref s.heap.objs.size) i a es.size ep ∧ h.get? a = some o ∧ h.get? s.heap.objs.size = some (seqObj "tuple" (ps.map fun (i:Nat)=>rawInt i).toArray 0)) _ ?_ (fun b o e=>AC _ (AC _ e)) (fun b hb=>?_)
   (fun A' hA'=>by rw [← hn];exact aBQ hA' (Ad (by rw [sz];exact Ck hlt)) (Ad (by rw [sz];exact Cr _)) hd hf rfl hps) ⟨⟨_,AN _ rfl,rfl,rfl⟩,AC _ ho1,AC _ (AN _ rfl)⟩ q1 q2
  ·rw [sz];omega
  ·simp only [Af,Bc,or_false] at hb
   rcases hb with rfl | rfl | rfl
   ·right;rw [sz];omega
   ·exact .inl rfl
   ·right;omega
 ·rw [if_neg hdr]
  refine AB (AF ?_)
  refine AB (aDG ho hd hf ?_)
  refine AB (Bm (AF ⟨_,rfl,"set_iterator",_,⟨_,AN _ rfl,rfl⟩,cC.lookup,?_⟩))
  have es0:s = { s with drawn:=s.drawn }:=by cases s;rfl
  by_cases htx:dO w = true
  ·obtain ⟨q1,q2⟩:=keys _ ((rL (w.params.setOrder a ep) es).map (·.2))
   refine hQ _ s.drawn s.heap.objs.size [s.heap.objs.size,a] (fun i h=>gL h s.heap.objs.size (.int 0 0) i a es.size ep ∧ h.get? a = some o) _ (AL _) (fun b o e=>AC _ e) (fun b hb=>?_)
    (fun A' hA'=>by rw [← hn];exact aDZ htx hA' (Ad hlt) hd hf) ⟨⟨_,AN _ rfl,rfl,rfl⟩,AC _ ho⟩ q1 q2
   simp only [Af,Bc,or_false] at hb
   rcases hb with rfl | rfl
   ·right;omega
   ·exact .inl rfl
  ·have htx':dO w = false:=by simpa using htx
   obtain ⟨q1,q2⟩:=keys _ (EX _)
   refine hQ _ s.drawn s.heap.objs.size [s.heap.objs.size,a] (fun i h=>gL h s.heap.objs.size (.int (sP t i) 0) i a es.size ep ∧ h.get? a = some o) _ (AL _) (fun b o e=>AC _ e) (fun b hb=>?_)
    (fun A' hA'=>by rw [← hn];exact aBP htx' hA' (Ad hlt) hd hf (by rw [htx'] at hdr;simpa using hdr) (hl.resolve_left htx) hr) ⟨⟨_,AN _ rfl,rfl,rfl⟩,AC _ ho⟩ q1 q2
   simp only [Af,Bc,or_false] at hb
   rcases hb with rfl | rfl
   ·right;omega
   ·exact .inl rfl
theorem aKE {Q:Bool → Shared → Prop} (hT:s.TypeIs (.ref a) "set") (h:Q false s):wpAny (model P w) A (Cs (.ref a)) Q E s:=by
 unfold Cs
 refine AB (FA hT PySem.F.slot_set_len.lookup ?_)
 generalize hid:("set.__len__":String) = id0
 wp_delta
 rw [show splitId id0 = some ("set","__len__") from by subst hid;decide +kernel]
 subst hid
 refine AB (Dm (T:="set") (b:=true) hT (by rw [Fs];kernel_rfl) ?_)
 refine FB (fun hab=>absurd hab (by decide)) (fun _=>?_)
 refine FB (fun _=>?_) (fun hab=>absurd (by decide +kernel) hab)
 refine AB (Ew hT ?_)
 exact AF h
theorem hU.at {h h':Heap} (x:hU P w h a ks) (e:∀ o,h.get? a = some o → h'.get? a = some o):hU P w h' a ks:=let ⟨o,es,ep,t,ho,r⟩:=x;⟨o,es,ep,t,e _ ho,r⟩
theorem hU.typeIs (x:hU P w s.heap a ks):s.TypeIs (.ref a) "set":=let ⟨o,es,ep,t,ho,hex,r⟩:=x;⟨o,ho,hex.1⟩
theorem hU.small (x:hU P w s.heap a ks):ks.length < CK:=let ⟨o,es,ep,t,ho,hex,hd,hel,hp,hb,r⟩:=x;by rw [← hU.len (P:=P) (w:=w) (h:=s.heap) (a:=a) hp];exact hb
theorem aFE {ord:List Value} {acc:Array Value} {n:Nat} (hn:ord.length = n) (x:ItemsOf (fun i v=>ord[i]? = some v) acc n):acc.toList = ord:=by
 apply List.ext_getElem
 ·rw [BA,x.1,hn]
 ·intro i h1 h2
  have h3:i < acc.size:=by simpa using h1
  have:=x.2 i acc[i] (by simp [h3])
  dsimp only at this
  rw [AD h2] at this
  simpa using (BH this).symm
theorem aEL {R:Result → Shared → Prop} (hh:A.handled = none) (hS:hU P w s.heap a ks) (S:Addr) (hSa:S ≠ a) (res:Value) (c₀:Nat) (hL:s.heap.get? S = some { cls:=.type "list",data:=.seq #[] c₀ })
  (hR:∀ h' tk d acc' c',(∀ b o,b ≠ S → s.heap.get? b = some o → h'.get? b = some o) → h'.get? S = some { cls:=.type "list",dict:=none,data:=.seq acc' c',slots:=#[] } → (acc'.toList.map gE).Perm ks → (∀ v ∈ acc'.toList,∃ k,(aN P w).is k v = true) → R (.ok (.ret res)) { s with heap:=h',toks:=tk,drawn:=d }) :
  wpAny (model P w) A.in1 (CP (.ref S) (.ref a) res)
   (fun fin s'=>match fin with | .done f=>R (.ok f) s' | .again c'=>c'.quiet = true ∧ codeAny (model P w) A c' R s') (fun e s'=>R (.error e) s') s:=by
 have hlt:S < s.heap.objs.size:=AX hL
 have hn:ks.length ≤ An:=by have:=hS.small;unfold CK at this;rw [Bv];omega
 unfold CP
 refine AB (Ew (T:="set") hS.typeIs ?_)
 have h1:Dk (.ref S) (.ref a) = false:=by simp [Dk,hSa]
 have h2:(Bx "set" == Bx "list") = false:=by decide
 have h3:(Bx "set" == Bx "tuple") = false:=by decide
 simp only [h1,h2,h3,Bool.or_false,Bh,if_false]
 refine AB (aKD hS fun h1 d1 I fp St ord hI hk hfp W st q1 q2=>?_)
 have hSf:S ∉ fp:=fun h=>by
  rcases hfp _ h with e | e
  ·exact hSa e
  ·exact absurd hlt (Ef.mpr e)
 have hord:ord.length = ks.length:=by have:=q1.length_eq;rwa [AA] at this
 have key:∀ (h:Heap) (c₁ tk:Nat),St 0 h → (∀ b o,b ≠ S → s.heap.get? b = some o → h.get? b = some o) →
   h.get? S = some { cls:=.type "list",data:=.seq #[] c₁ } → codeAny (model P w) A (.builtin "list.extend.loop" ⟨[.ref S,.ref I,res],[]⟩) R { s with heap:=h,toks:=tk,drawn:=d1 }:=by
  intro h c₁ tk hst hk hS₁
  refine codeAny_extend_loopS (W A.in1 hh).toS hn S hSf res ks.length 0 _ #[] c₁ rfl (BG _) hst hS₁ (ItemsOf.nil _) fun s' acc' c' hm hS' hacc=>?_
  rw [Moved.eq_with hm]
  have e:=aFE hord hacc
  refine hR s'.heap s'.toks d1 acc' c' (fun b o hb e=>hm.heap b o (fun hmem=>?_) (hk b o hb e)) hS' (by rw [e];exact q1) (by rw [e];exact q2)
  rcases Af.mp hmem with e' | hmem
  ·exact hb e'
  ·have:=AX e
   rw [AU.mp hmem] at this
   exact absurd this (Ef.mpr hI)
 have hS₁:=hk _ _ hL
 refine AB (By (aKE (s:={ s with heap:=h1,drawn:=d1 }) (hU.typeIs (s:={ s with heap:=h1,drawn:=d1 }) (hS.at fun o e=>hk _ _ e)) ?_))
 refine FB (fun _=>?_) (fun _=>AF ⟨CJ PySem.F.plain_extend_loop _,key _ c₀ _ st (fun b o _ e=>hk b o e) hS₁⟩)
 refine AB (Dl ?_)
 refine AB ?_
 show wpAny _ _ (updateSeq S (·.push .none) >>= fun _=>updateSeq S (·.pop)) _ _ _
 refine AB (EB hS₁ rfl ?_)
 have hS₂:=BO (BK (·.push BW)) hS₁ rfl
 refine EB (hz:=by seq_fits) hS₂ rfl ?_
 have hS₃:=BO (BK (·.pop)) hS₂ rfl
 refine AF ⟨CJ PySem.F.plain_extend_loop _,key _ _ _ ?_ (fun b o hb e=>?_) hS₃⟩
 ·refine (W A.in1 hh).frame 0 _ _ st fun b hb o e=>?_
  have hbS:b ≠ S:=fun h=>hSf (h ▸ hb)
  exact (Av _ _ (Ne.symm hbS)).trans ((Av _ _ (Ne.symm hbS)).trans e)
 ·exact (Av _ _ (Ne.symm hb)).trans ((Av _ _ (Ne.symm hb)).trans (hk _ _ e))
theorem aCJ {R:List Value → Shared → Prop} (hh:A.handled = none) (hS:hU P w s.heap a ks)
  (h:∀ (h':Heap) (tk:Nat) (d:Drawn) (acc:List Value),s.heap.objs.size ≤ h'.objs.size → (∀ b o,s.heap.get? b = some o → h'.get? b = some o) → (acc.map gE).Perm ks → (∀ v ∈ acc,∃ k,(aN P w).is k v = true) → R acc { s with heap:=h',toks:=tk,drawn:=d }) :
  wpAny (model P w) A (collect (.ref a)) R E s:=by
 have hlt:a < s.heap.objs.size:=let ⟨o,_,_,_,ho,_⟩:=hS;AX ho
 unfold collect
 refine AB (Fq (Bk entry_proto_collect' ?_))
 rw [BT PySem.F.plain_proto_collect _]
 show wpAny _ A.in1 (newList [] >>= fun l=>again (.builtin "list.__iadd__" ⟨[l,.ref a],[]⟩)) _ _ s
 refine AB (Bm ?_)
 refine AF ⟨CJ PySem.F.plain_list_iadd _,Bk entry_list_iadd' ?_⟩
 rw [BT PySem.F.plain_list_iadd _]
 have hS₁:(s.heap.push { cls:=.type "list",data:=.seq ([]:List Value).toArray }).get? s.heap.objs.size = some { cls:=.type "list",data:=.seq #[] }:=AN _ rfl
 show wpAny _ A.in1 (CP (.ref s.heap.objs.size) (.ref a) (.ref s.heap.objs.size)) _ _ _
 have key:=aEL (A:=A) (s:={ s with heap:=s.heap.push { cls:=.type "list",data:=.seq ([]:List Value).toArray } })
  (R:=fun (q:Result) (s':Shared)=>∃ (h':Heap) (tk:Nat) (d:Drawn) (acc':Array Value) (c':Nat),q = .ok (.ret (.ref s.heap.objs.size)) ∧ s' = { s with heap:=h',toks:=tk,drawn:=d } ∧
   (∀ b o,s.heap.get? b = some o → h'.get? b = some o) ∧ h'.get? s.heap.objs.size = some { cls:=.type "list",dict:=none,data:=.seq acc' c',slots:=#[] } ∧ (acc'.toList.map gE).Perm ks ∧ (∀ v ∈ acc'.toList,∃ k,(aN P w).is k v = true))
  hh (hS.at fun o e=>AC _ e) s.heap.objs.size (Du hlt) (.ref s.heap.objs.size) 0 hS₁
  (fun h' tk d acc' c' hk hS' q1 q2=>⟨h',tk,d,acc',c',rfl,rfl,fun b o e=>hk b o (Ad (AX e)) (AC _ e),hS',q1,q2⟩)
 refine BJ key (fun fin s' x=>?_) fun e s' x=>?_
 ·cases fin with
  | done f =>
   obtain ⟨h',tk,d,acc',c',e,rfl,hk,hS',q1,q2⟩:=x
   cases e
   show wpAny _ A (load s.heap.objs.size >>= _) _ _ _
   refine AB (wpAny_load hS' ?_)
   exact AF (h h' tk d acc'.toList (Dw (AX hS')) hk q1 q2)
  | again c₁ =>
   refine ⟨x.1,Ce x.2 fun q s₂ y=>?_⟩
   obtain ⟨h',tk,d,acc',c',rfl,rfl,hk,hS',q1,q2⟩:=y
   show wpAny _ A (load s.heap.objs.size >>= _) _ _ _
   refine AB (wpAny_load hS' ?_)
   exact AF (h h' tk d acc'.toList (Dw (AX hS')) hk q1 q2)
 ·obtain ⟨_,_,_,_,_,e',_⟩:=x
  cases e'
end
end L2
namespace L2
open PySem PySem.Spec PyProof.Rows
def aMX (P:Program) (w:World) (a:Addr) (ks:List Key):HO:=.ext fun h=>hU P w h a ks
theorem aMX.ok {P:Program} {w:World} {H:Hp} {h:Heap} {a:Addr} {ks:List Key} (x:hU P w h a ks):bL P w H h a (aMX P w a ks) :=
 ⟨x,let ⟨o,_,_,_,ho,_⟩:=x;⟨o,ho⟩,fun _ _ ⟨o,es,ep,t,ho,r⟩ k=>⟨o,es,ep,t,k o ho,r⟩⟩
theorem fJ:BN "sorted" = some (.builtin "sorted"):=by decide +kernel
section
variable {X:Cx} {pins:List (Addr × Obj)} {σ:List (Option V)} {H:Hp} {s:Shared}
theorem Inv.drawn (I:Inv X pins σ H s) (d:Drawn):Inv X pins σ H { s with drawn:=d }:=⟨I.ok,I.os,I.bare,I.base,I.loc,I.cell,I.free,I.freeC,I.pin,I.hok,I.len⟩
theorem wU (hc:X.calm = true):fG X (.type "set") (fun xs H Q=>∃ (p:Addr) (ks:List Key),xs = [.ref p] ∧ SqL X.K H p (ks.map kV) ∧ ks.length ≤ 1000 ∧
  ∀ l,H l = none → Q (.ref l) (upd H l (aMX X.prog X.w l (lL ks)))):=by
 intro pins s σ H xs us Q I r h
 obtain ⟨p,ks,rfl,hq,hn,q⟩:=h
 obtain ⟨u,rfl,ru⟩:=bC.one r
 cases ru
 obtain ⟨its,rv,pl,hz⟩:=I.list hq
 have hlen:=rv.length
 rw [AA] at hlen
 refine aAB (ks:=ks) (I.ok.hd hc) pl.isList (aAY rv) hlen.symm (by unfold CK;omega) fun h' tk hS hk=>?_
 exact ⟨.ref s.heap.objs.size,_,I.laid (t':=tk) hk (AL _) (aMX.ok hS),rfl,q _ (I.hok.fresh (AL _))⟩
end
end L2
namespace L2
open PySem PySem.Spec PyProof.Rows PySem.W
section
variable {P:Program} {w:World} {K:AG} {mg:Str → Option Value} {base:Heap}
theorem aLM {k:Nat} {f:Addr} {name qual:Str} {params:EJ} {body:Expr} {scope:Scope} {pm cdv ct:Value} {o:Obj} {N ps:List Str}
  {A:Around} {outer:List Env} {s:Shared} {H:Hp} {args:Args} {us:List Value} {vs:List V} {Q:VK}
  (hr:Room (k + 1) A) (e0:Env0 P w K mg base A outer s H) (ho:s.heap.get? f = some o) (hd:o.data = .func (kla_fn name qual params body scope [] pm cdv ct)) (hcd:s.heap.CodeRec cdv qual) (S:FnScope N ps scope)
  (hb:BindsTo s (kla_fn name qual params body scope [] pm cdv ct) args (ps.zip us)) (r:bC vs us) (hl:vs.length = ps.length)
  (hbody:Room k (A.deeper (envOfC qual scope s.heap.objs.size f cdv)) → ∃ t:TE,PE (mJ CX0 P w K mg base N qual scope f cdv A outer s H E0).nox body t ∧ t (start N vs) H Q) :
  codeAny (model P w) A (.call (.ref f) args) (CR CX0 outer P w H s Q E0) s:=by
 have lim:s.heap.NoLimit:=e0.mod.nolimit.keeps fun b o e=>(e0.bs b o e).1
 have hkind:∀ y ∈ ps.zip us,scope.names.lookup y.1 = some .local ∨ (scope.names.lookup y.1 = some .cell ∧ ((cellsFrom (s.heap.objs.size + 1) scope.names []).lookup y.1).isSome = true):=fun ⟨n,v⟩ hy=>by
  rcases S.par n (Ej hy).1 with q | q
  ·exact .inl q
  ·exact .inr ⟨q,EN _ _ _ (.inl q)⟩
 refine kla_callFunE hr.depth ho hd S.co S.gen rfl hcd (hb _ _ _ _ ?_)
 refine wpAny_newFunctionEnv_cells S.kind hkind fun env he s1 x=>?_
 subst he
 refine ⟨lim.keeps x.toInCall.keep,kla_codeExpr ?_⟩
 obtain ⟨t,ht,hq⟩:=hbody (hr.deeper _)
 have I:Inv (mJ CX0 P w K mg base N qual scope f cdv A outer s H E0) [] (start N vs) H s1:=yV S hr.hd e0 hl r x
 have I':Inv (mJ CX0 P w K mg base N qual scope f cdv A outer s H E0).nox [] (start N vs) H s1:=⟨⟨I.ok.mod,I.ok.kind,I.ok.glob,I.ok.blt,I.ok.above,I.ok.inj,I.ok.has,I.ok.cab,I.ok.hd,I.ok.frames,I.ok.stk,I.ok.exf,I.ok.bs,I.ok.bsz,I.ok.noex,I.ok.exfs,I.ok.funs,I.ok.frf⟩,I.os,I.bare,I.base,I.loc,I.cell,I.free,I.freeC,I.pin,I.hok,I.len⟩
 refine BJ (ht [] s1 (start N vs) H _ I' hq) (fun u s' hs=>?_) fun e s' hs=>Bb hs
 obtain ⟨v,H',J,rv,q⟩:=hs
 exact ⟨v,H',J.os,J.bare,J.base,J.hok,rv,q⟩
end
end L2
namespace L2
open PySem PySem.Spec PyProof.Rows PySem.W
def eP (T:Addr) (H H':Hp):Prop:=∀ b o,b ≠ T → H b = some o → H' b = some o
theorem eP.trans {T:Addr} {H H1 H2:Hp} (a:eP T H H1) (b:eP T H1 H2):eP T H H2:=fun x o n e=>b x o n (a x o n e)
def pG (qual:Str) (c:Addr):HO:=.ext fun h=>h.CodeRec (.ref c) qual
def tV (name qual:Str) (params:EJ) (body:Expr) (scope:Scope) (c f:Addr):HO:=.ext fun h=>∃ pm ctv,h.get? f = some (kla_obj name qual params body scope [] pm c ctv)
theorem pG.ok {P:Program} {w:World} {H:Hp} {h:Heap} {q:Str} {c:Addr} (x:h.CodeRec (.ref c) q):bL P w H h c (pG q c):=by
 refine ⟨x,?_,fun h1 h2 y k=>?_⟩
 ·obtain ⟨c',oc,vs,t,e,ho,_⟩:=x
  cases e
  exact ⟨oc,ho⟩
 ·obtain ⟨c',oc,vs,t,e,ho,r⟩:=y
  cases e
  exact ⟨_,oc,vs,t,rfl,k _ ho,r⟩
theorem tV.ok {P:Program} {w:World} {H:Hp} {h:Heap} {n q:Str} {ps:EJ} {b:Expr} {sc:Scope} {c f:Addr} {pm ctv:Value} (x:h.get? f = some (kla_obj n q ps b sc [] pm c ctv)):bL P w H h f (tV n q ps b sc c f) :=
 ⟨⟨pm,ctv,x⟩,⟨_,x⟩,fun h1 h2 ⟨p,v,y⟩ k=>⟨p,v,k _ y⟩⟩
def lO (T:Addr) (pos:Pos) (qual:Str) (H:Hp):Prop :=
 ∃ ps,H T = some (.tbl ps) ∧ TriplesOk ps.toList ∧ (codeAmong pos ps.toList = none ∨ ∃ c',codeAmong pos ps.toList = some (.ref c') ∧ H c' = some (pG qual c'))
theorem lO.keep {T:Addr} {pos:Pos} {qual:Str} {H H':Hp} (x:lO T pos qual H) (k:∀ b o,H b = some o → H' b = some o):lO T pos qual H':=by
 obtain ⟨ps,e,t,r⟩:=x
 refine ⟨ps,k _ _ e,t,r.imp id fun ⟨c,e1,e2⟩=>⟨c,e1,k _ _ e2⟩⟩
theorem sM:∀ (l:List Value) {m:List Value},TriplesOk m → TriplesOk l → TriplesOk (l ++ m)
 | [],_,h,_=>h
 | [a],_,_,h=>by cases a <;> exact Bb h
 | [a,b],_,_,h=>by cases a <;> cases b <;> exact Bb h
 | a :: b :: c :: r,m,h1,h2=>by
  cases a <;> first | exact Bb h2 | (cases b <;> first | exact Bb h2 | exact sM r h1 h2)
structure TabB (K:AG) (mg:Str → Option Value) (base:Heap) (x:Str) (c T:Addr):Prop where
 bm:∃ bm ob,mg "__builtins__" = some (.ref bm) ∧ bm ≠ builtinsNs ∧ base.get? bm = some ob ∧ ob.cls = .type "module" ∧ ob.dict = some builtinsNs ∧ ob.data = .plain
 hd:CodeHd base c T
 cd:∀ (fa:Addr) (o:Obj) (fd:Bz),mg x = some (.ref fa) → K.lookup fa = some o → o.data = .func fd → fd.code = .ref c
section
variable {X:Cx} {T c:Addr} {qual:Str} {params:EJ} {body:Expr} {scope:Scope} {pos:Pos}
def aRM (T:Addr) (pos:Pos) (qual:Str) (params:EJ) (body:Expr) (scope:Scope):TE:=fun σ H Q=>lO T pos qual H ∧
 ∀ (f c':Addr) (H':Hp),eP T H H' → lO T pos qual H' → H' c' = some (pG qual c') → H' f = some (tV "<lambda>" qual params body scope c' f) → Q (.ref f) H'
theorem aQI {x:Str} (B:TabB X.K X.mg X.base x c T) (hc:X.env.code = .ref c) (hq:X.env.qual ++ "<lambda>" = qual) (hcl:Fb scope X.env = pure []) (hdef:defaultsOf params X.env = ([],[])) :
  PE X (.Lambda params body scope pos) (aRM T pos qual params body scope):=by
 intro pins s σ H Q I h
 obtain ⟨⟨ps,eT,tr,hit⟩,q⟩:=h
 subst hq
 have gP:s.heap.get? T = some (tabObj ps):=I.hok T _ eT
 have hgs:=I.mod.glob.keeps I.bk
 obtain ⟨bm,ob,b1,b2,b3,b4,b5,b6⟩:=B.bm
 have hgP:AJ ≠ T:=fun z=>by
  obtain ⟨o,es,ep,e,hd,_⟩:=hgs
  rw [z,gP] at e;cases e;cases hd
 have hbP:bm ≠ T:=fun z=>by
  have e:=I.bk _ _ b3
  rw [z,gP] at e;cases e;cases b4
 have hbG:bm ≠ AJ:=fun z=>by
  obtain ⟨o,es,ep,e,hd,_⟩:=I.mod.glob
  rw [z,e] at b3;cases b3;rw [hd] at b6;cases b6
 have bl:s.heap.BuiltinsAt X.mg T:=⟨bm,ob,b1,b2,hbG,hbP,I.bk _ _ b3,b4,b5,b6⟩
 have nT:∀ b,H b = none → b ≠ T:=fun b n z=>by rw [z,eT] at n;cases n
 refine kla_eval hdef ?_
 rcases hit with hn | ⟨c',hf,ec⟩
 ·refine kla_makeFunction (mg:=X.mg) hcl I.ok.glob hgs hc (B.hd.keeps I.bk) gP tr hn hgP bl fun c' ctv h' tk hx hge hlt hrec htb=>?_
  have gf:(h'.push (kla_obj "<lambda>" (X.env.qual ++ "<lambda>") params body scope [] ((X.mg "__name__").getD .none) c' ctv)).get? h'.objs.size = some (kla_obj "<lambda>" (X.env.qual ++ "<lambda>") params body scope [] ((X.mg "__name__").getD .none) c' ctv):=AN _ rfl
  generalize hob:kla_obj "<lambda>" (X.env.qual ++ "<lambda>") params body scope [] ((X.mg "__name__").getD .none) c' ctv = obF at gf
  have keep:∀ b o,b ≠ T → s.heap.get? b = some o → (h'.push obF).get? b = some o:=fun b o n e=>AC _ (hx b o n e)
  have lt:∀ b o,s.heap.get? b = some o → b ≠ c' ∧ b ≠ h'.objs.size:=fun b o e=>⟨Ad (Ah (AX e) hge),Ad (DJ (Ah (AX e) hge) hlt)⟩
  have fresh:∀ b o,H b = some o → b ≠ c' ∧ b ≠ h'.objs.size:=fun b o e=>by
   have:=I.hok.lt e
   exact ⟨Ad (Ah this hge),Ad (DJ (Ah this hge) hlt)⟩
  have cT:c' ≠ T:=Ne.symm (fresh T _ eT).1
  have fT:h'.objs.size ≠ T:=Ne.symm (fresh T _ eT).2
  have cf:c' ≠ h'.objs.size:=Ad hlt
  let ps':=ps ++ #[rawInt pos.line,rawInt pos.col,.ref c']
  let H1:=upd (upd (upd H T (.tbl ps')) c' (pG (X.env.qual ++ "<lambda>") c')) h'.objs.size (tV "<lambda>" (X.env.qual ++ "<lambda>") params body scope c' h'.objs.size)
  have up:∀ b,b ≠ T → b ≠ c' → b ≠ h'.objs.size → H1 b = H b:=fun b n1 n2 n3=>by
   show upd _ _ _ b = _
   rw [aK n3,aK n2,aK n1]
  have eT1:H1 T = some (.tbl ps'):=by
   show upd _ _ _ T = _
   rw [aK (Ne.symm fT),aK (Ne.symm cT),aD]
  have ec1:H1 c' = some (pG (X.env.qual ++ "<lambda>") c'):=by
   show upd _ _ _ c' = _
   rw [aK cf,aD]
  have ef1:H1 h'.objs.size = some (tV "<lambda>" (X.env.qual ++ "<lambda>") params body scope c' h'.objs.size):=aD
  have KB:eP T H H1:=fun b o n e=>by rw [up b n (fresh b o e).1 (fresh b o e).2];exact e
  have hok:HOk X.prog X.w H1 (h'.push obF):=fun b u e=>by
   by_cases z1:b = h'.objs.size
   ·subst z1
    rw [ef1] at e
    cases e
    exact tV.ok (pm:=(X.mg "__name__").getD .none) (ctv:=ctv) (by rw [gf,hob])
   ·by_cases z2:b = c'
    ·subst z2
     rw [ec1] at e
     cases e
     obtain ⟨_,oc,vs,t,e1,ho,r⟩:=hrec
     cases e1
     exact pG.ok ⟨_,oc,vs,t,rfl,AC _ ho,r⟩
    ·by_cases z3:b = T
     ·subst z3
      rw [eT1] at e
      cases e
      show (h'.push obF).get? b = some _
      exact AC _ htb
     ·rw [up b z3 z2 z1] at e
      refine (I.hok b u e).stay (fun d v hd g=>keep d v (fun z=>?_) g) (fun d z=>KB d _ (fun zz=>by rw [zz,eT] at z;cases z) z) fun d xs z=>KB d _ (fun zz=>by rw [zz,eT] at z;cases z) z
      rcases hd with hd | hd
      ·exact z3 (hd ▸ z)
      ·rw [z,eT] at hd;cases hd
  have I1:Inv X pins σ H1 { s with heap:=h'.push obF,toks:=tk }:=by
   refine I.step (g':=s.gens) (d':=s.drawn) (ch:=[]) (fun _ z=>nomatch z) (fun b o _ _ _ e n=>keep b o (nT b n) e) (fun b o _ _ _ e n=>⟨o.slots,keep b o (nT b n) e⟩)
    (fun b o _ e n=>by rw [up b (nT b n) (lt b o e).1 (lt b o e).2];exact n) (fun b o _ e=>?_) (fun b xs e=>KB b _ (fun z=>by rw [z,eT] at e;cases e) e) (fun b o u e=>KB b _ (fun z=>by rw [z,eT] at e;cases e) e)
    (fun b qs e=>?_) (fun m hm=>?_) hok I.bare
   ·by_cases z:b = T
    ·subst z
     exact ⟨_,AC _ htb⟩
    ·exact ⟨o,keep b o z e⟩
   ·by_cases z:b = T
    ·subst z
     rw [eT] at e
     cases e
     exact ⟨_,eT1⟩
    ·exact ⟨#[],by rw [KB b _ z e];simp⟩
   ·exact (hm.extBut hx (nT _ I.free)).push _
  refine ⟨.ref h'.objs.size,H1,?_,rfl,q _ c' H1 KB ⟨ps',eT1,?_,.inr ⟨c',?_,ec1⟩⟩ ec1 ef1⟩
  ·exact I1
  ·show TriplesOk (ps ++ #[rawInt pos.line,rawInt pos.col,.ref c']).toList
   rw [Array.toList_append]
   generalize ps.toList = l at tr
   clear up eT1 hok KB I1 fresh lt keep q gP hn hlt hge cf fT cT ec1 ef1 hx hrec htb gf hob bl eT
   revert tr
   refine sM l ?_
   exact trivial
  ·show codeAmong pos (ps ++ #[rawInt pos.line,rawInt pos.col,.ref c']).toList = _
   rw [Array.toList_append]
   exact codeAmong_snoc _ tr hn
 ·refine kla_makeFunctionHit (mg:=X.mg) hcl I.ok.glob hgs hc (B.hd.keeps I.bk) gP tr hf bl fun ctv h' tk hk hsz=>?_
  have gf:(h'.push (kla_obj "<lambda>" (X.env.qual ++ "<lambda>") params body scope [] ((X.mg "__name__").getD .none) c' ctv)).get? h'.objs.size = some (kla_obj "<lambda>" (X.env.qual ++ "<lambda>") params body scope [] ((X.mg "__name__").getD .none) c' ctv):=AN _ rfl
  refine ⟨.ref h'.objs.size,_,I.laid (a:=h'.objs.size) (o:=tV "<lambda>" (X.env.qual ++ "<lambda>") params body scope c' h'.objs.size) (t':=tk) (fun b o e=>AC _ (hk b o e)) hsz (tV.ok gf),rfl,?_⟩
  have fr:=I.hok.fresh hsz
  have KS:∀ b o,H b = some o → upd H h'.objs.size (tV "<lambda>" (X.env.qual ++ "<lambda>") params body scope c' h'.objs.size) b = some o:=fun b o e=>by rw [aK (aT e fr)];exact e
  exact q _ c' _ (fun b o _ e=>KS b o e) (lO.keep ⟨ps,eT,tr,.inr ⟨c',hf,ec⟩⟩ KS) (KS _ _ ec) aD
end
end L2
namespace HT
open PySem PyProof.Rows
section
open PySem.SeqAt
open PySem.AutoSeq1 (wpAny_loadPart')
open PySem.MeetsSeq PySem.MeetsSeq2 PySem.MeetsSeq3
theorem nQ:∀ {vs:List Value} {ns:List Int} (i:Nat),IntsAre vs ns → i < vs.length → ∃ a t,vs[i]? = some (.int a t) ∧ ns[i]? = some a
 | _,_,_,.nil,h=>by simp at h
 | _,_,0,.cons a t r,_=>⟨a,t,rfl,rfl⟩
 | _,_,i + 1,.cons a t r,h=>nQ i r (by simpa using h)
theorem aAT (l b:Addr) (items items2:Array Value) (n n2:Nat) (dd dd2:Option Addr) (sl sl2:Array (Option Value)) (ns ms:List Int) (hi:IntsAre items.toList ns) (hj:IntsAre items2.toList ms) (k:Nat) :
  ∀ i:Nat,items.size - i = k → Meets (Builtin.«list.__eq__.loop» ⟨[.ref l,.ref b,rawInt i,rawInt 0],[]⟩)
   (fun A R s=>s.heap.get? l = some { cls:=.type "list",dict:=dd,data:=.seq items n,slots:=sl } ∧ s.heap.get? b = some { cls:=.type "list",dict:=dd2,data:=.seq items2 n2,slots:=sl2 } ∧
    i ≤ items.size ∧ i ≤ items2.size ∧ R (.ok (.ret (.bool (lexLt (ns.drop i) (ms.drop i))))) s):=by
 have z1:items.size = ns.length:=by rw [← hi.length];simp
 have z2:items2.size = ms.length:=by rw [← hj.length];simp
 induction k with
 | zero =>
  intro i hk prog w A R s h
  obtain ⟨hp,g,d,tk,os⟩:=s;obtain ⟨hl,hb,hi1,hi2,h⟩:=h
  wp_walk using Br hl,Br hb
  have hi1:items[((i:Nat):Int).toNat]? = none:=by simp;omega
  rw [hi1]
  wp_walk using Br hl,Br hb
  show R (.ok (.ret (.bool (decide (items.size < items2.size))))) _
  rw [Cu (as:=ns) (by omega)] at h
  have e:lexLt [] (ms.drop i) = decide (items.size < items2.size):=by
   by_cases q:i < ms.length
   ·rw [EC q,vX]
    exact (decide_eq_true (by omega)).symm
   ·rw [Cu (by omega),xL]
    exact (decide_eq_false (by omega)).symm
  rw [e] at h
  exact h
 | succ k ih =>
  intro i hk prog w A R s h
  obtain ⟨hp,g,d,tk,os⟩:=s;obtain ⟨hl,hb,l1,l2,h⟩:=h
  have hlt:i < items.size:=by omega
  obtain ⟨a,t,e1,f1⟩:=nQ i hi (by rw [BA];exact hlt)
  have hn:i < ns.length:=by omega
  have hi1:items[((i:Nat):Int).toNat]? = some (.int a t):=by
   rw [show ((i:Nat):Int).toNat = i by simp,← Cd];exact e1
  have dn:ns.drop i = a :: ns.drop (i + 1):=by
   rw [EC hn]
   rw [AD hn] at f1
   rw [BH f1]
  rw [dn] at h
  wp_walk using Br hl,Br hb
  rw [hi1]
  by_cases q:i < items2.size
  ·obtain ⟨c,u,e2,f2⟩:=nQ i hj (by rw [BA];exact q)
   have hm:i < ms.length:=by omega
   have hi2:items2[((i:Nat):Int).toNat]? = some (.int c u):=by
    rw [show ((i:Nat):Int).toNat = i by simp,← Cd];exact e2
   have dm:ms.drop i = c :: ms.drop (i + 1):=by
    rw [EC hm]
    rw [AD hm] at f2
    rw [BH f2]
   rw [dm,lexLt_cons] at h
   rw [hi2]
   obtain ⟨e,he,hiff⟩:=aMI A.in1 ⟨hp,g,d,tk,os⟩ a t c u
   have hc:((i:Int) + 1) = ((i + 1:Nat):Int):=by push_cast;rfl
   refine AB (he prog w _ _ ?_)
   cases e with
   | true =>
    rw [if_pos (hiff.mp rfl)] at h
    wp_walk
    rw [hc]
    exact ⟨CJ plain_eq_loop _,Bk entry_eq_loop (by
     rw [BT plain_eq_loop _]
     exact ih (i + 1) (by omega) prog w A R _ ⟨hl,hb,by omega,by omega,h⟩)⟩
   | false =>
    rw [if_neg (fun z=>absurd (hiff.mpr z) Ab)] at h
    have hri:=aKO A.in1 ⟨hp,g,d,tk,os⟩ a t c u prog w
    wp_walk using Br hl,Br hb
    rw [hi1,hi2]
    wp_walk using hri
    exact h
  ·have hi2:items2[((i:Nat):Int).toNat]? = none:=by simp;omega
   rw [hi2]
   wp_walk using Br hl,Br hb
   show R (.ok (.ret (.bool (decide (items.size < items2.size))))) _
   rw [Cu (as:=ms) (by omega),vY] at h
   rw [decide_eq_false (by omega)]
   exact h
theorem aAU (l b:Addr) (items items2:Array Value) (n n2:Nat) (dd dd2:Option Addr) (sl sl2:Array (Option Value)) (ns ms:List Int) (hi:IntsAre items.toList ns) (hj:IntsAre items2.toList ms) :
  Meets (Builtin.«list.__lt__» ⟨[.ref l,.ref b],[]⟩)
   (fun A R s=>s.heap.get? l = some { cls:=.type "list",dict:=dd,data:=.seq items n,slots:=sl } ∧ s.heap.get? b = some { cls:=.type "list",dict:=dd2,data:=.seq items2 n2,slots:=sl2 } ∧
    R (.ok (.ret (.bool (lexLt ns ms)))) s):=by
 intro prog w A R s h
 obtain ⟨hp,g,d,tk,os⟩:=s;obtain ⟨hl,hb,h⟩:=h
 have f3:=AutoSeq1.sub_list_list
 wp_walk using Br hl,Br hb
 exact ⟨CJ plain_eq_loop _,Bk entry_eq_loop (by
  rw [BT plain_eq_loop _]
  exact aAT l b items items2 n n2 dd dd2 sl sl2 ns ms hi hj _ 0 rfl prog w A R _ ⟨hl,hb,BG _,BG _,by simpa using h⟩)⟩
end
section
variable {prog:Program} {w:World} {A:Around} {E:Value → Shared → Prop} {s:Shared}
theorem lt_listInts {l b:Addr} {items items2:Array Value} {ns ms:List Int} {Q:Value → Shared → Prop} (hl:s.heap.IsList l items) (hb:s.heap.IsList b items2) (hi:IntsAre items.toList ns) (hj:IntsAre items2.toList ms)
  (hu:A.units < cLine) (h:Q (.bool (lexLt ns ms)) s):wpAny (model prog w) A (Be .Lt (.ref l) (.ref b)) Q E s:=by
 obtain ⟨⟨cls,dd,data,sl⟩,ho,hc,n,hd⟩:=id hl
 obtain ⟨⟨cls2,dd2,data2,sl2⟩,ho2,hc2,n2,hd2⟩:=id hb
 simp only at hc hd hc2 hd2
 subst hc hd hc2 hd2
 exact richCompare_meets_room (op:=.Lt) ⟨_,ho,rfl⟩ ⟨_,ho2,rfl⟩ PySem.F.slot_list_lt PySem.F.entry_list_lt (PySem.F.args_list_lt_2 _ _) (aAU l b items items2 n n2 dd dd2 sl sl2 ns ms hi hj)
  ⟨ho,ho2,show FH (lexLt ns ms) ≠ Value.notImplemented ∧ Q (.bool (lexLt ns ms)) s from ⟨(fun x=>nomatch x),h⟩⟩ hu
end
end HT
namespace L2
open PySem PySem.Spec PyProof.Rows PySem.W
def aDF (n:Nat) (lt:Nat → Nat → Bool) {α:Type}:KasT α → Option α
 | .ret a=>some a
 | .ask i j k=>if i < n ∧ j < n then aDF n lt (k (lt i j)) else none
theorem aBN {α:Type} {n:Nat} {lt:Nat → Nat → Bool} {cmp:Nat → Nat → (Bool → Shared → Prop) → Shared → Prop} {s:Shared} (hc:∀ (i j:Nat) (C:Bool → Shared → Prop),i < n → j < n → C (lt i j) s → cmp i j C s) :
  ∀ (t:KasT α) (a:α) (G:α → Shared → Prop),aDF n lt t = some a → G a s → t.kasWp cmp G s
 | .ret b,a,G,e,g=>by
  have e:b = a:=BH e
  subst e
  exact g
 | .ask i j k,a,G,e,g=>by
  unfold aDF at e
  split at e
  ·rename_i h
   exact hc i j _ h.1 h.2 (aBN hc (k (lt i j)) a G e g)
  ·cases e
def kN (ns ms:List Int):Bool:=if ns.length = ms.length then HT.lexLt ns ms else decide (ns.length < ms.length)
def kQ (nss:List (List Int)):Option (Array Nat):=aDF nss.length (fun i j=>kN (nss.getD i []) (nss.getD j [])) (kas_sort nss.length)
def gN:Nat → List (List Int)
 | 0=>[[]]
 | k + 1=>gN k ++ (gN k).map (· ++ [(k:Int)])
def mK:Nat → List Nat
 | 1=>[0,1]
 | 2=>[0,1,2,3]
 | 3=>[0,1,2,4,3,5,6,7]
 | _=>[0,1,2,4,8,3,5,9,6,10,12,7,11,13,14,15]
theorem aNO:kQ (gN 1) = some (mK 1).toArray:=by decide +kernel
theorem aNN:kQ (gN 2) = some (mK 2).toArray:=by decide +kernel
theorem aNM:kQ (gN 3) = some (mK 3).toArray:=by decide +kernel
theorem aNL:kQ (gN 4) = some (mK 4).toArray:=by decide +kernel
end L2
namespace L2
open PySem PySem.Spec PyProof.Rows PySem.W
section
variable {X:Cx} {pins:List (Addr × Obj)} {σ:List (Option V)} {H:Hp} {s:Shared}
structure Ours (X:Cx) (H:Hp) (b:Addr):Prop where
 nt:H b = none
 loc:b ≠ X.env.locals
 nfs:b ∉ X.fs
 ab:X.s₀.heap.objs.size ≤ b
 ncl:∀ x c,X.env.cells.lookup x = some c → c ≠ b
 npn:∀ p ∈ X.pn,p.1 ≠ b
theorem Ours.new (I:Inv X pins σ H s) {b:Addr} (h:s.heap.objs.size ≤ b):Ours X H b:=by
 refine ⟨I.hok.fresh h,Ne.symm (Ad (Ah I.lt h)),I.nofs h,BB I.sz h,fun x c e z=>?_,fun p hp z=>?_⟩
 ·obtain ⟨v,o,ho,_⟩:=I.cell x c e
  exact absurd (AX ho) (by rw [z];exact Ef.mpr h)
 ·have ho:=(I.pin p (CA _ hp)).1
  exact absurd (AX ho) (by rw [z];exact Ef.mpr h)
theorem Inv.pinAdd {b:Addr} {o:Obj} (I:Inv X pins σ H s) (e:s.heap.get? b = some o) (O:Ours X H b) (nc:∀ v,o.data ≠ .cell v):Inv X ((b,o) :: pins) σ H s :=
 I.pins_of fun p hp=>by
  rcases Af.mp hp with rfl | hp
  ·exact ⟨e,O.nt,O.loc,O.nfs,nc⟩
  ·exact I.pin p (Aj _ hp)
theorem Inv.pinDrop {q:Addr × Obj} (I:Inv X (q :: pins) σ H s):Inv X pins σ H s:=I.pins_of fun p hp=>I.pin p (Aj _ (AV _ hp))
theorem Inv.pinAt {b:Addr} {o:Obj} (I:Inv X ((b,o) :: pins) σ H s):s.heap.get? b = some o ∧ H b = none:=let x:=I.pin (b,o) (Aj _ AY);⟨x.1,x.2.1⟩
theorem Inv.turn {t':Nat} {h':Heap} {b:Addr} {o o':Obj} (I:Inv X ((b,o) :: pins) σ H s) (O:Ours X H b) (hp:∀ p ∈ pins,p.1 ≠ b) (k:∀ d u,d ≠ b → s.heap.get? d = some u → h'.get? d = some u) (e:h'.get? b = some o') (nc:∀ v,o'.data ≠ .cell v) :
  Inv X ((b,o') :: pins) σ H { s with heap:=h',toks:=t' } :=
 Inv.pinAdd (I.pinDrop.turned (h':=h') (t':=t') k O.nt O.loc (.inr O.ab) O.ncl fun p z=>by
  rcases Ak.mp z with z | z
  ·exact O.npn p z
  ·exact hp p z) e O nc
theorem Inv.track {b:Addr} {o:Obj} {u:HO} (I:Inv X ((b,o) :: pins) σ H s) (O:Ours X H b) (hp:∀ p ∈ pins,p.1 ≠ b) (new:bL X.prog X.w (upd H b u) s.heap b u):Inv X pins σ (upd H b u) s:=by
 have I0:=I.pinDrop
 have nb:∀ c v,H c = some v → c ≠ b:=fun c v e=>aT e O.nt
 have hch:∀ c ∈ [b],(c ∈ X.ex ∨ X.s₀.heap.objs.size ≤ c) ∧ c ≠ X.env.locals ∧ (∀ x d,X.env.cells.lookup x = some d → d ≠ c) ∧ ∀ p ∈ X.pn ++ pins,p.1 ≠ c:=fun c hc=>by
  have e:c = b:=by simpa using hc
  subst e
  exact ⟨.inr O.ab,O.loc,O.ncl,fun p z=>(Ak.mp z).elim (O.npn p) (hp p)⟩
 have:=I0.step (h':=s.heap) (H':=upd H b u) (g':=s.gens) (t':=s.toks) (d':=s.drawn) (ch:=[b]) hch (fun c o _ _ _ e _=>e) (fun c o _ _ _ e _=>⟨o.slots,e⟩) (fun c o hc e n=>by rw [aK (by simpa using hc)];exact n)
  (fun c o _ e=>⟨o,e⟩) (fun c xs e=>by rw [aK (nb c _ e)];exact e) (fun c o v e=>by rw [aK (nb c _ e)];exact e) (fun c ps e=>⟨#[],by rw [aK (nb c _ e),e];simp⟩) (fun m hm=>hm) (fun c v e=>?_) I.bare
 ·exact this
 ·by_cases hc:c = b
  ·subst hc;rw [aD] at e;cases e;exact new
  ·rw [aK hc] at e
   exact (I.hok c v e).stay (fun d w _ q=>q) (fun d q=>by rw [aK (nb d _ q)];exact q) fun d xs q=>by rw [aK (nb d _ q)];exact q
end
end L2
namespace L2
open PySem PySem.Spec PyProof.Rows PySem.W
theorem qO:∀ ns:List Int,HT.lexLt ns ns = false
 | []=>rfl
 | n :: ns=>by rw [HT.lexLt_cons,if_pos rfl];exact qO ns
theorem zA:∀ ns ms:List Int,qV (ns.map Dv.int) (ms.map Dv.int) = decide (ns = ms)
 | [],[]=>rfl
 | [],_ :: _=>rfl
 | _ :: _,[]=>rfl
 | n :: ns,m :: ms=>by
  show (deq (.int n) (.int m) && qV (ns.map Dv.int) (ms.map Dv.int)) = _
  rw [zA ns ms]
  show (decide (n = m) && decide (ns = ms)) = _
  by_cases h1:n = m <;> by_cases h2:ns = ms <;> simp [h1,h2]
theorem qQ {H:Hp}:∀ ns:List Int,IsL H (ns.map Dv.int) (ns.map V.int)
 | []=>rfl
 | n :: ns=>⟨.int n,_,rfl,rfl,qQ ns⟩
theorem sA:∀ ns:List Int,cK 1 (ns.map Dv.int) = true
 | []=>rfl
 | n :: ns=>by
  show (bA 1 (.int n) && cK 1 (ns.map Dv.int)) = true
  rw [sA ns]
  rfl
theorem rW:∀ {ns:List Int} {vs:List Value},bC (ns.map V.int) vs → IntsAre vs.toArray.toList ns
 | [],_,.nil=>.nil
 | n :: ns,_,.cons ⟨t,rfl⟩ r=>.cons n t (rW r)
section
variable {X:Cx} {pins:List (Addr × Obj)} {σ:List (Option V)} {H:Hp} {s:Shared}
theorem aQR (I:Inv X pins σ H s) {A:Around} (hu:A.units + 8 < cLine) {t u a b:Addr} {ns ms:List Int} (et:H t = some (.tup [.int ns.length,.ref a])) (eu:H u = some (.tup [.int ms.length,.ref b]))
  (ea:H a = some (.lst (ns.map V.int))) (eb:H b = some (.lst (ms.map V.int))) {Q:Bool → Shared → Prop} {E:Value → Shared → Prop} (q:Q (kN ns ms) s) :
  wpAny (model X.prog X.w) A (keyLt' (tuples' true) (.ref t) (.ref u)) Q E s:=by
 obtain ⟨i1,r1,⟨o1,g1,c1,n1,d1⟩,_⟩:=I.tuple (SqT.of et)
 obtain ⟨i2,r2,⟨o2,g2,c2,n2,d2⟩,_⟩:=I.tuple (SqT.of eu)
 cases r1 with
 | cons x1 y1 =>
 cases y1 with
 | cons x1' y1 =>
 cases y1
 cases r2 with
 | cons x2 y2 =>
 cases y2 with
 | cons x2' y2 =>
 cases y2
 obtain ⟨t1,rfl⟩:=x1
 obtain ⟨t2,rfl⟩:=x2
 cases x1'
 cases x2'
 refine kat_lt g1 d1 g2 d2 ?_
 refine kat_cons (wpAny_eqBool_int ?_)
 by_cases hl:ns.length = ms.length
 ·have e1:((ns.length:Int) == (ms.length:Int)) = true:=by simp [hl]
  rw [e1]
  refine kat_yes (kat_cons ?_)
  refine Is.eqAt I 2 (.lst (ns.map Dv.int)) (.lst (ms.map Dv.int)) (.ref a) (.ref b) (.ref a) (.ref b) A (by omega) (sA ns) (sA ms) ⟨a,_,rfl,ea,qQ ns⟩ ⟨b,_,rfl,eb,qQ ms⟩ rfl rfl X.prog X.w _ _ ?_
  have e2:deq (.lst (ns.map Dv.int)) (.lst (ms.map Dv.int)) = decide (ns = ms):=zA ns ms
  rw [e2]
  by_cases hm:ns = ms
  ·rw [decide_eq_true hm]
   refine kat_yes (kat_nil ?_)
   subst hm
   have e3:kN ns ns = false:=by unfold kN;rw [if_pos rfl,qO]
   rw [e3] at q
   exact q
  ·rw [decide_eq_false hm]
   refine kat_no ?_
   show wpAny _ _ (oneLt' false (.ref a) (.ref b)) _ _ _
   obtain ⟨j1,v1,p1,_⟩:=I.list (SqL.of ea)
   obtain ⟨j2,v2,p2,_⟩:=I.list (SqL.of eb)
   refine kat_one _ _ (HT.lt_listInts p1.isList p2.isList (rW v1) (rW v2) (by omega) ?_)
   have e3:kN ns ms = HT.lexLt ns ms:=by unfold kN;rw [if_pos hl]
   rw [e3] at q
   exact q
 ·have e1:((ns.length:Int) == (ms.length:Int)) = false:=by simp;omega
  rw [e1]
  refine kat_no ?_
  show wpAny _ _ (oneLt' true (.int ns.length t1) (.int ms.length t2)) _ _ _
  refine oneLt_int ?_
  have e3:kN ns ms = decide ((ns.length:Int) < (ms.length:Int)):=by
   unfold kN
   rw [if_neg hl]
   by_cases h:ns.length < ms.length
   ·rw [decide_eq_true h,decide_eq_true (by omega)]
   ·rw [decide_eq_false h,decide_eq_false (by omega)]
  rw [e3] at q
  exact q
end
end L2
namespace L2
open PySem PySem.Spec PyProof.Rows PySem.W
def aPC (X:Cx) (σ:List (Option V)) (A:Around) (f:Addr) (P0:Hp → Prop):Prop:=∀ (pins:List (Addr × Obj)) (s:Shared) (H:Hp) (a:Addr) (ns:List Int),Inv X pins σ H s → P0 H → H a = some (.lst (ns.map V.int)) →
 wpAny (model X.prog X.w) A (call (.ref f) [.ref a]) (fun u s'=>∃ t H',Inv X pins σ H' s' ∧ u = .ref t ∧ aI H H' ∧ H' t = some (.tup [.int ns.length,.ref a])) (fun _ _=>False) s
abbrev kB (H:Hp) (ps:List (Addr × List Int)):Prop:=∀ p ∈ ps,H p.1 = some (.lst (p.2.map V.int))
theorem kB.same {H H':Hp} {ps:List (Addr × List Int)} (S:aI H H') (h:kB H ps):kB H' ps:=fun p m=>S _ _ (h p m)
def dY (H:Hp):List Value → List (Addr × List Int) → Prop
 | [],[]=>True
 | k :: ks,p :: ps=>(∃ t,k = .ref t ∧ H t = some (.tup [.int p.2.length,.ref p.1])) ∧ dY H ks ps
 | _,_=>False
theorem dY.same {H H':Hp} (S:aI H H'):∀ {ks:List Value} {ps:List (Addr × List Int)},dY H ks ps → dY H' ks ps
 | [],[],_=>trivial
 | [],_ :: _,h=>h
 | _ :: _,[],h=>h
 | _ :: _,_ :: _,⟨⟨t,e,g⟩,r⟩=>⟨⟨t,e,S _ _ g⟩,dY.same S r⟩
theorem dY.snoc {H:Hp} {p:Addr × List Int} {t:Addr} (g:H t = some (.tup [.int p.2.length,.ref p.1])):∀ {ks:List Value} {ps:List (Addr × List Int)},dY H ks ps → dY H (ks ++ [.ref t]) (ps ++ [p])
 | [],[],_=>⟨⟨t,rfl,g⟩,trivial⟩
 | [],_ :: _,h=>h.elim
 | _ :: _,[],h=>h.elim
 | _ :: _,_ :: _,⟨x,r⟩=>⟨x,dY.snoc g r⟩
theorem dY.length {H:Hp}:∀ {ks:List Value} {ps:List (Addr × List Int)},dY H ks ps → ks.length = ps.length
 | [],[],_=>rfl
 | [],_ :: _,h=>h.elim
 | _ :: _,[],h=>h.elim
 | _ :: _,_ :: _,⟨_,r⟩=>by rw [Am,Am,dY.length r]
theorem dY.get {H:Hp}:∀ {ks:List Value} {ps:List (Addr × List Int)} (i:Nat),dY H ks ps → i < ps.length → ∃ t p,ks.getD i BW = .ref t ∧ ps[i]? = some p ∧ H t = some (.tup [.int p.2.length,.ref p.1])
 | [],[],_,_,h=>by simp at h
 | [],_ :: _,_,h,_=>h.elim
 | _ :: _,[],_,h,_=>h.elim
 | _ :: _,p :: _,0,⟨⟨t,e,g⟩,_⟩,_=>⟨t,p,by simpa using e,rfl,g⟩
 | _ :: ks,_ :: ps,i + 1,⟨_,r⟩,h=>by
  obtain ⟨t,p,e1,e2,e3⟩:=dY.get (ks:=ks) (ps:=ps) i r (by simpa using h)
  exact ⟨t,p,by simpa using e1,by simpa using e2,e3⟩
section
variable {X:Cx} {pins:List (Addr × Obj)} {σ:List (Option V)} {A:Around} {f kS:Addr} {P0:Hp → Prop}
theorem oN {cl:Value} {xs:Array Value} {n:Nat}:∀ v,({ cls:=cl,data:=.seq xs n }:Obj).data ≠ .cell v:=fun v h=>by cases h
theorem yQ {H:Hp} {s:Shared} (I:Inv X pins σ H s):∀ {ks:List Value} {ps:List (Addr × List Int)},dY H ks ps → ∃ fs:List Value,KatTups s.heap ks fs ∧ fs.length = ps.length ∧ ∀ v ∈ fs,∃ i t,v = .int i t
 | [],[],_=>⟨[],.nil,rfl,fun _ m=>nomatch m⟩
 | [],_ :: _,h=>h.elim
 | _ :: _,[],h=>h.elim
 | _ :: ks,p :: ps,⟨⟨t,e,g⟩,r⟩=>by
  subst e
  obtain ⟨fs,a,b,c⟩:=yQ I r
  obtain ⟨i1,r1,⟨o1,g1,c1,n1,d1⟩,_⟩:=I.tuple (SqT.of g)
  cases r1 with
  | cons x1 y1 =>
  obtain ⟨t1,rfl⟩:=x1
  refine ⟨_ :: fs,.cons g1 c1 d1 rfl a,by rw [Am,Am,b],fun v m=>?_⟩
  rcases Af.mp m with rfl | m
  ·exact ⟨_,_,rfl⟩
  ·exact c v m
theorem yR (st0:∀ H H',aI H H' → P0 H → P0 H') (hk:aPC X σ A f P0) {n:Nat} (hn:n < 64) {body:Value → PUnit → Sem (ForInStep PUnit)} {E:Value → Shared → Prop}
  (hb:∀ (x:Value) (ks:List Value) (s:Shared) (C:Value → Shared → Prop),wpAny (model X.prog X.w) A (call (.ref f) [x]) (fun k s'=>wpAny (model X.prog X.w) A (Builtin.List.listUpdate (.ref kS) (·.push k)) (fun _ s''=>C k s'') (fun _ _=>False) s') (fun _ _=>False) s →
   wpAny (model X.prog X.w) A (body x ⟨⟩) (fun r s'=>r = .yield ⟨⟩ ∧ ∃ k,C k s') E s) :
  ∀ (r done:List (Addr × List Int)) (ks:List Value) (e:Nat) (H:Hp) (s:Shared),Inv X ((kS,seqObj "list" ks.toArray e) :: pins) σ H s → Ours X H kS → (∀ p ∈ pins,p.1 ≠ kS) → P0 H → kB H r → dY H ks done → done.length + r.length = n →
   wpAny (model X.prog X.w) A (forIn (r.map fun p=>Ao p.1) PUnit.unit body) (fun _ s'=>∃ (ks':List Value) (e':Nat) (H':Hp),Inv X ((kS,seqObj "list" ks'.toArray e') :: pins) σ H' s' ∧ aI H H' ∧ dY H' ks' (done ++ r)) E s
 | [],done,ks,e,H,s,I,O,hp,p0,it,kt,hl=>by
  rw [Ci,List.forIn_nil]
  exact AF ⟨ks,e,H,I,aI.refl _,by rw [Ch];exact kt⟩
 | p :: r,done,ks,e,H,s,I,O,hp,p0,it,kt,hl=>by
  rw [Ac,Fe]
  have hl':=kt.length
  rw [Am] at hl
  refine AB (BJ (hb (.ref p.1) ks s (fun k s'=>∃ (t:Addr) (e':Nat) (H':Hp),k = .ref t ∧ Inv X ((kS,seqObj "list" (ks ++ [k]).toArray e') :: pins) σ H' s' ∧ aI H H' ∧ H' t = some (.tup [.int p.2.length,.ref p.1])) ?_) (fun q s' hq=>?_) fun _ _ x=>x)
  ·refine BJ (hk _ s H p.1 p.2 I p0 (it p AY)) (fun u s' hu=>?_) fun _ _ x=>x
   obtain ⟨t,H',I',rfl,S,g⟩:=hu
   have pa:=I'.pinAt
   refine FY pa.1 rfl ?_ (by rw [AQ,Bv];omega) (BB (Eh (Fd ..)) (by rw [AQ,Bv];omega))
   have ea:(DH ks).push (.ref t) = DH (ks ++ [.ref t]):=by simp
   obtain ⟨c2,hc2⟩:∃ c2,(s'.heap.update kS (BK (·.push (.ref t)))).get? kS = some (seqObj "list" (DH (ks ++ [.ref t])) c2):=⟨_,by rw [← ea];exact DX pa.1 (·.push (.ref t))⟩
   refine ⟨t,c2,H',rfl,?_,S,g⟩
   exact Inv.turn (t':=s'.toks) I' ⟨pa.2,O.loc,O.nfs,O.ab,O.ncl,O.npn⟩ hp (fun d u nd q=>by rw [Av _ _ (Ne.symm nd)];exact q) hc2 oN
  ·obtain ⟨rfl,k,t,e',H',rfl,I',S,g⟩:=hq
   show wpAny (model X.prog X.w) A (forIn (r.map fun p=>Ao p.1) PUnit.unit body) _ E s'
   refine BJ (yR st0 hk hn hb r (done ++ [p]) (ks ++ [.ref t]) e' H' s' I' ⟨I'.pinAt.2,O.loc,O.nfs,O.ab,O.ncl,O.npn⟩ hp (st0 _ _ S p0) (kB.same S fun q m=>it q (AV _ m)) ((kt.same S).snoc g) (by rw [Ag,CL];omega)) (fun _ s2 hz=>?_) fun _ _ x=>x
   obtain ⟨ks2,e2,H2,I2,S2,kt2⟩:=hz
   refine ⟨ks2,e2,H2,I2,S.trans S2,?_⟩
   rw [CH] at kt2
   exact kt2
end
end L2
namespace L2
open PySem PySem.Spec PyProof.Rows PySem.W
theorem jZ {α β:Type} (f:α → β) (d:β):∀ (l:List α) (i:Nat),(l.map f).getD i d = match l[i]? with | some a=>f a | none=>d
 | [],i=>by simp
 | a :: l,0=>rfl
 | a :: l,i + 1=>by simpa using jZ f d l i
section
variable {X:Cx} {pins:List (Addr × Obj)} {σ:List (Option V)} {A:Around} {f:Addr} {P0:Hp → Prop}
theorem aLR {M:Model} {h:Heap} {i:Int} {t:Tok}:Looks M h (typeOf (.int i t)) (.type "int"):=Looks.of_pure rfl
theorem aHG {π:List Nat} {ps:List (Addr × List Int)} (h:∀ i ∈ π,i < ps.length):bC (π.map fun i=>(ps.map fun p=>V.ref p.1).getD i .non) (π.map fun i=>(ps.map fun p=>Ao p.1).getD i BW):=by
 induction π with
 | nil=>exact .nil
 | cons i π ih =>
  refine .cons ?_ (ih fun j m=>h j (AV _ m))
  have hi:=h i AY
  show bG ((ps.map fun p=>V.ref p.1).getD i .non) ((ps.map fun p=>Ao p.1).getD i BW)
  rw [jZ,jZ,AD hi]
  rfl
theorem aHM {D kS:Addr} {e e1:Nat} {ps:List (Addr × List Int)} {ks:List Value} {H:Hp} {s:Shared} {π:Array Nat} {Q:VK} {E:Value → Shared → Prop} (hu:A.units + 8 < cLine)
  (I:Inv X ((kS,seqObj "list" ks.toArray e) :: (D,seqObj "list" #[] e1) :: pins) σ H s) (OD:Ours X H D) (OS:Ours X H kS) (nDS:D ≠ kS) (hpD:∀ p ∈ pins,p.1 ≠ D) (hpS:∀ p ∈ pins,p.1 ≠ kS)
  (it:kB H ps) (kt:dY H ks ps) (h2:2 ≤ ps.length) (h64:ps.length < 64) (hπ:kQ (ps.map (·.2)) = some π) (hb:∀ i ∈ π.toList,i < ps.length) (hs:π.size = ps.length)
  (q:∀ H',aI H H' → H D = none → H' D = some (.lst (π.toList.map fun i=>(ps.map fun p=>V.ref p.1).getD i .non)) → Q (.ref D) H') :
  wpAny (model X.prog X.w) A (ksk_end D false (ps.map fun p=>Ao p.1).toArray e1 (.ref kS) ks.toArray) (fun fin s'=>fin = .done (.ret .none) ∧ EP X pins σ Q (.ref D) s') E s:=by
 have hl:=kt.length
 have hn2:¬ (ps.map fun p=>Ao p.1).toArray.size < 2:=by rw [AQ,AA];omega
 unfold ksk_end
 dsimp only
 rw [if_neg Ab,if_neg Ab,if_neg hn2,if_neg hn2]
 obtain ⟨fs,kf,lf,inf⟩:=yQ I kt
 refine AB (kat_kind (T:=.type "int") kf (by omega) (fun v m=>by obtain ⟨i,t,rfl⟩:=inf v m;exact aLR) (by decide) ?_)
 have hT:(Bx "int" != Bx "tuple") = true:=by decide
 rw [hT]
 refine AB (BJ (kat_run (Q:=fun st' s'=>s' = s ∧ ∃ p:Array Nat,p = π ∧ arrOf st' = p.map (kas_item (ks.toArray.zip (ps.map fun p=>Ao p.1).toArray)) ∧ failedOf st' = none) (G:=fun p s'=>p = π ∧ s' = s) (by rw [AA];exact hl) (by rw [AA];exact h2) (by rw [AA];exact h64)
  (fun p st' s' a1 a2 a3 a4=>⟨a4.2,p,a4.1,a2,a3⟩) ?_) (fun r s' hr=>?_) fun _ _ x=>x)
 ·rw [AA]
  have hπ':aDF ps.length (fun i j=>kN ((ps.map (·.2)).getD i []) ((ps.map (·.2)).getD j [])) (kas_sort ps.length) = some π:=by
   unfold kQ at hπ
   rw [AA] at hπ
   exact hπ
  refine aBN (n:=ps.length) (lt:=fun i j=>kN ((ps.map (·.2)).getD i []) ((ps.map (·.2)).getD j [])) (fun i j C hi hj c=>?_) _ π _ hπ' ⟨rfl,rfl⟩
  obtain ⟨t,p,k1,g1,e1'⟩:=kt.get i hi
  obtain ⟨u,p',k2,g2,e2'⟩:=kt.get j hj
  unfold kas_ask
  rw [k1,k2]
  refine aQR I hu e1' e2' (it p (AS g1)) (it p' (AS g2)) ?_
  rw [jZ,jZ,g1,g2] at c
  exact c
 ·obtain ⟨⟨⟩,st⟩:=r
  obtain ⟨hs1,p,hp1,har,hf⟩:=hr
  rw [hs1]
  rw [hp1] at har
  dsimp only
  have hout:=kat_snds (ks:=ks) (vs:=ps.map fun p=>Ao p.1) (by rw [AA];exact hl) har
  unfold ksk_tail
  dsimp only
  rw [hout]
  have pS:=I.pinAt
  have pD:=I.pinDrop.pinAt
  refine AB (FY pS.1 rfl ?_ (by rw [AQ,Bv];omega) (BG _))
  refine AB (wpAny_letGo ?_)
  have gD:(s.heap.update kS (BK fun _=>(#[]:Array Value))).get? D = some (seqObj "list" #[] e1):=by rw [Av _ _ (Ne.symm nDS)];exact pD.1
  refine AB (seqEpoch_at gD rfl ?_)
  have hz:(DH (π.toList.map fun i=>(ps.map fun p=>Ao p.1).getD i BW)).size = ps.length:=by rw [AQ,AA,BA,hs]
  refine AB (FY gD rfl ?_ (BG _) (by rw [if_neg Ab,hz,Bv];omega))
  rw [hf]
  simp only [bne_self_eq_false,Bh,if_false]
  refine AF ⟨rfl,?_⟩
  have I1:=I.pinDrop.pinDrop
  have I2:=Inv.pins_of (pins':=(D,seqObj "list" #[] e1) :: pins) I fun p hp=>I.pin p (Aj _ (AV _ hp))
  have I3:Inv X ((D,seqObj "list" #[] e1) :: pins) σ H { s with heap:=s.heap.update kS (BK fun _=>(#[]:Array Value)),toks:=s.toks }:=by
   obtain ⟨cS,hcS⟩:∃ c2,(s.heap.update kS (BK fun _=>(#[]:Array Value))).get? kS = some (seqObj "list" #[] c2):=⟨_,DX pS.1 fun _=>#[]⟩
   refine (Inv.turn (t':=s.toks) (o':=seqObj "list" #[] cS) I OS (fun p hp=>?_) (fun d u nd g=>by rw [Av _ _ (Ne.symm nd)];exact g) hcS oN).pinDrop
   rcases Af.mp hp with rfl | hp
   ·exact nDS
   ·exact hpS p hp
  obtain ⟨c2,hc2⟩:∃ c2,((s.heap.update kS (BK fun _=>(#[]:Array Value))).update D (BK fun _=>DH (π.toList.map fun i=>(ps.map fun p=>Ao p.1).getD i BW))).get? D = some (seqObj "list" (DH (π.toList.map fun i=>(ps.map fun p=>Ao p.1).getD i BW)) c2):=⟨_,DX gD fun _=>_⟩
  have I4:=Inv.turn (t':=s.toks) (o':=seqObj "list" (DH (π.toList.map fun i=>(ps.map fun p=>Ao p.1).getD i BW)) c2) I3 OD hpD (fun d u nd g=>by rw [Av _ _ (Ne.symm nd)];exact g) hc2 oN
  have I5:=Inv.track (u:=.lst (π.toList.map fun i=>(ps.map fun p=>V.ref p.1).getD i .non)) I4 OD hpD ⟨by rw [AA,BA,hs,Bv];omega,_,c2,aHG hb,hc2⟩
  exact ⟨.ref D,_,I5,rfl,q _ (fun b o e=>by rw [aK (aT e OD.nt)];exact e) OD.nt aD⟩
end
end L2
namespace L2
open PySem PySem.Spec PyProof.Rows PySem.W
section
variable {X:Cx} {pins:List (Addr × Obj)} {σ:List (Option V)} {A:Around} {f:Addr} {P0:Hp → Prop}
theorem aHN {D kS:Addr} {e1:Nat} {ps:List (Addr × List Int)} {H:Hp} {s:Shared} {π:Array Nat} {Q:VK} {E:Value → Shared → Prop} (hu:A.units + 8 < cLine) (st0:∀ H H',aI H H' → P0 H → P0 H') (hk:aPC X σ A f P0)
  (I:Inv X ((kS,seqObj "list" #[] 0) :: (D,seqObj "list" #[] e1) :: pins) σ H s) (OD:Ours X H D) (OS:Ours X H kS) (nDS:D ≠ kS) (hpD:∀ p ∈ pins,p.1 ≠ D) (hpS:∀ p ∈ pins,p.1 ≠ kS)
  (p0:P0 H) (it:kB H ps) (h2:2 ≤ ps.length) (h64:ps.length < 64) (hπ:kQ (ps.map (·.2)) = some π) (hb:∀ i ∈ π.toList,i < ps.length) (hs:π.size = ps.length)
  (q:∀ H',aI H H' → H D = none → H' D = some (.lst (π.toList.map fun i=>(ps.map fun p=>V.ref p.1).getD i .non)) → Q (.ref D) H') :
  wpAny (model X.prog X.w) A (ksk_rest D (.ref f) false (ps.map fun p=>Ao p.1).toArray e1 (.ref kS)) (fun fin s'=>fin = .done (.ret .none) ∧ EP X pins σ Q (.ref D) s') E s:=by
 unfold ksk_rest
 refine AB (Dl ?_)
 first
  | rw [List.forIn_toArray]
  | (rw [← Array.forIn_toList];simp only [List.toList_toArray])
  | rw [← Array.forIn_toList]
 refine AB (BJ (yR (kS:=kS) (pins:=(D,seqObj "list" #[] e1) :: pins) st0 hk h64 (fun x ks s' C hx=>?_) ps [] [] 0 H s I OS (fun p hp=>?_) p0 it trivial (by simp)) (fun _ s' hd=>?_) fun _ _ x=>x)
 ·refine AB (DW (BJ hx (fun k s'' hk=>?_) fun _ _ hF=>hF.elim))
  try dsimp only
  exact AB (BJ hk (fun _ s3 h3=>AF ⟨rfl,k,h3⟩) fun _ _ z=>z.elim)
 ·rcases Af.mp hp with rfl | hp
  ·exact nDS
  ·exact hpS p hp
 ·obtain ⟨ks,e,H',I',S,kt⟩:=hd
  rw [Ek] at kt
  try dsimp only
  refine AB (listItems_at I'.pinAt.1 rfl ?_)
  have pD:=I'.pinDrop.pinAt
  exact aHM hu I' ⟨pD.2,OD.loc,OD.nfs,OD.ab,OD.ncl,OD.npn⟩ ⟨I'.pinAt.2,OS.loc,OS.nfs,OS.ab,OS.ncl,OS.npn⟩ nDS hpD hpS (it.same S) kt h2 h64 hπ hb hs fun H2 S2 n2 e2=>q H2 (S.trans S2) OD.nt e2
theorem aCN {H:Hp} {s:Shared} (I:Inv X pins σ H s) {b:Addr} (h:s.heap.objs.size ≤ b):∀ p ∈ pins,p.1 ≠ b:=fun p hp z=>by
 have ho:=(I.pin p (Aj _ hp)).1
 exact absurd (AX ho) (by rw [z];exact Ef.mpr h)
theorem aCC {l:Addr} {ps:List (Addr × List Int)} {H:Hp} {s:Shared} {π:Array Nat} {Q:VK} {E:Value → Shared → Prop} (hu:A.units + 16 < cLine) (st0:∀ H H',aI H H' → P0 H → P0 H') (hk:aPC X σ A.in1.in1 f P0)
  (I:Inv X pins σ H s) (sq:SqL X.K H l (ps.map fun p=>V.ref p.1)) (p0:P0 H) (it:kB H ps) (h2:2 ≤ ps.length) (h64:ps.length < 64) (hπ:kQ (ps.map (·.2)) = some π) (hb:∀ i ∈ π.toList,i < ps.length) (hs:π.size = ps.length)
  (q:∀ (D:Addr) (H':Hp),aI H H' → H D = none → H' D = some (.lst (π.toList.map fun i=>(ps.map fun p=>V.ref p.1).getD i .non)) → Q (.ref D) H') :
  wpAny (model X.prog X.w) A (call (.builtin "sorted") [.ref l] [("key",.ref f)]) (EP X pins σ Q) E s:=by
 obtain ⟨its,rv,pl,hz⟩:=I.list sq
 have ei:its = ps.map fun p=>Ao p.1:=by
  clear sq hz pl hπ hb hs it p0 q h2 h64
  induction ps generalizing its with
  | nil=>cases rv;rfl
  | cons p ps ih =>
   cases rv with
   | cons a b =>
    cases a
    rw [Ac,← ih _ b]
 subst ei
 have hlen:(ps.map fun p=>Ao p.1).length = ps.length:=AA ..
 refine call_function_entry_kw kind_sorted plain_sorted entry_sorted (ksk_s1 _ _) ?_
 unfold Builtin.«sorted»
 refine AB (m:=checkCount "sorted" 1 1 _) (AF ?_)
 refine AB (collect_list pl.isList ?_ (by rw [hlen,Bv];omega))
 refine AB (wpAny_newList ?_ (by rw [hlen,Bv];omega))
 generalize hvs:(ps.map fun p=>Ao p.1) = vs at *
 have hsz:((s.heap.push (seqObj "list" #[] 0)).update s.heap.objs.size (BK (· ++ vs.toArray))).objs.size = s.heap.objs.size + 1:=by
  rw [FZ,size_push']
 have hoL:(((s.heap.push (seqObj "list" #[] 0)).update s.heap.objs.size (BK (· ++ vs.toArray))).push (seqObj "list" vs.toArray 0)).get? (s.heap.objs.size + 1) = some (seqObj "list" vs.toArray 0):=by
  rw [← hsz];exact AN _ rfl
 have keep:∀ b o,s.heap.get? b = some o → (((s.heap.push (seqObj "list" #[] 0)).update s.heap.objs.size (BK (· ++ vs.toArray))).push (seqObj "list" vs.toArray 0)).get? b = some o:=fun b o q=>by
  have hlt:b < s.heap.objs.size:=AX q
  rw [Heap.get?_push_ne _ _ _ (by rw [hsz];exact Ad (Ck hlt)),Heap.get?_update_ne _ _ _ _ (Ad hlt),Heap.get?_push_ne _ _ _ (Ad hlt)]
  exact q
 show wpAny _ _ _ _ _ { s with heap:=((s.heap.push (seqObj "list" #[] 0)).update s.heap.objs.size (BK (· ++ vs.toArray))).push (seqObj "list" vs.toArray 0) }
 rw [hsz]
 have OD:Ours X H (s.heap.objs.size + 1):=Ours.new I (CS _)
 have hpD:=aCN I (CS s.heap.objs.size)
 have I1:Inv X pins σ H { s with heap:=((s.heap.push (seqObj "list" #[] 0)).update s.heap.objs.size (BK (· ++ vs.toArray))).push (seqObj "list" vs.toArray 0),toks:=s.toks }:=I.kept keep
 have hs2:(((s.heap.push (seqObj "list" #[] 0)).update s.heap.objs.size (BK (· ++ vs.toArray))).push (seqObj "list" vs.toArray 0)).objs.size = s.heap.objs.size + 2:=by rw [size_push',hsz]
 generalize hh:((s.heap.push (seqObj "list" #[] 0)).update s.heap.objs.size (BK (· ++ vs.toArray))).push (seqObj "list" vs.toArray 0) = h1 at *
 refine AB (By (wpAny_call_entry_kw slot_list_sort ⟨_,hoL,rfl⟩ entry_list_sort ?_ (ksk_l1 _ _)))
 show wpAny (model X.prog X.w) A.in1.in1 (Builtin.«list.sort» ⟨[.ref (s.heap.objs.size + 1)],[(DY "key",.ref f)]⟩) _ _ _
 rw [ksk_t1]
 unfold ksk_tree
 have I2:=Inv.pinAdd I1 hoL OD oN
 refine AB (listItems_at hoL rfl ?_)
 refine AB (FY hoL rfl ?_ (by rw [AQ,hlen,Bv];omega) (BG _))
 obtain ⟨e1,ho1⟩:∃ e1,(h1.update (s.heap.objs.size + 1) (BK fun _=>(#[]:Array Value))).get? (s.heap.objs.size + 1) = some (seqObj "list" #[] e1):=⟨_,DX hoL fun _=>#[]⟩
 have I3:=Inv.turn (t':=s.toks) I2 OD hpD (fun d u nd q=>by rw [Av _ _ (Ne.symm nd)];exact q) ho1 oN
 refine AB (seqEpoch_at ho1 rfl ?_)
 refine AB (wpAny_newTuple ?_ (by show vs.length ≤ _;rw [hlen,Bv];omega))
 refine AB (wpAny_newList ?_ (BG _))
 refine By ?_
 have hs3:((h1.update (s.heap.objs.size + 1) (BK fun _=>(#[]:Array Value))).push (seqObj "tuple" vs.toArray 0)).objs.size = s.heap.objs.size + 3:=by rw [size_push',FZ,hs2]
 have k4:∀ b o,(h1.update (s.heap.objs.size + 1) (BK fun _=>(#[]:Array Value))).get? b = some o → (((h1.update (s.heap.objs.size + 1) (BK fun _=>(#[]:Array Value))).push (seqObj "tuple" vs.toArray 0)).push (seqObj "list" #[] 0)).get? b = some o:=fun b o e=>AC _ (AC _ e)
 have I4:Inv X ((s.heap.objs.size + 1,seqObj "list" #[] e1) :: pins) σ H { s with heap:=((h1.update (s.heap.objs.size + 1) (BK fun _=>(#[]:Array Value))).push (seqObj "tuple" vs.toArray 0)).push (seqObj "list" #[] 0),toks:=s.toks }:=I3.kept k4
 have gS:(((h1.update (s.heap.objs.size + 1) (BK fun _=>(#[]:Array Value))).push (seqObj "tuple" vs.toArray 0)).push (seqObj "list" #[] 0)).get? (s.heap.objs.size + 3) = some (seqObj "list" #[] 0):=by
  rw [← hs3];exact AN _ rfl
 have OS:Ours X H (s.heap.objs.size + 3):=Ours.new I (by omega)
 have I5:=Inv.pinAdd I4 gS OS oN
 rw [show ((h1.update (s.heap.objs.size + 1) (BK fun _=>(#[]:Array Value))).push { cls:=.type "tuple",data:=.seq vs.toArray.toList.toArray }).objs.size = s.heap.objs.size + 3 from by rw [size_push',FZ,hs2]]
 rw [← hvs] at I5 ⊢
 refine BJ (aHN (D:=s.heap.objs.size + 1) (kS:=s.heap.objs.size + 3) (by show A.units + 1 + 1 + 8 < cLine;omega) st0 hk I5 OD OS (Ad (Nat.add_lt_add_left (by decide) _)) hpD (aCN I (Nat.le_add_right _ 3)) p0 it h2 h64 hπ hb hs (q _)) (fun fin s' hf=>?_) fun _ _ x=>x
 obtain ⟨rfl,ep⟩:=hf
 exact ⟨_,rfl,AF ⟨_,rfl,ep⟩⟩
end
end L2
namespace L2
open PySem PySem.Spec PyProof.Rows PySem.W
section
variable {P:Program} {w:World} {K:AG} {mg:Str → Option Value} {base:Heap}
theorem Fun.okC {x qual:Str} {st:Stmt} {f:Addr} {fd:Bz} {N ps:List Str} {k:Nat} {sp:Sp} {c:Addr} (F:Fun K x qual st f fd) (hc:fd.code = .ref c) (S:FnScope N ps (aB st)) (len:∀ vs H Q E,sp vs H Q E → vs.length = ps.length)
  (hbody:∀ (A:Around) (outer:List Env) (s:Shared) (H:Hp) (vs:List V) (Q:VK) (E:XK),Room k (A.deeper (envOfC qual (aB st) s.heap.objs.size f (.ref c))) → sp vs H Q E →
   ∃ t,PSs (mJ CX0 P w K mg base N qual (aB st) f (.ref c) A outer s H E).nox (aJ st) t ∧ t { nx:=fun _ H'=>Q .non H',rt:=Q } (start N vs) H):FnOk P w K mg base CX0 (k + 1) f fd ps sp:=by
 obtain ⟨oc,od,kV,doc,pm,an,cdv,ct,osl,rfl,lk,hcd⟩:=F.ex
 obtain rfl:cdv = .ref c:=hc
 refine aPO lk hcd S len fun A outer s H vs Q E hr hsp=>?_
 obtain ⟨t,h,q⟩:=hbody A outer s H vs Q E hr hsp
 exact ⟨t,h.nox,q⟩
end
section
variable {X:Cx} {T:Addr} {qual:Str} {params:EJ} {body e:Expr} {scope:Scope} {p pos lp kp:Pos} {te tb:TE}
def aPV (T:Addr) (lp:Pos) (qual:Str) (te:TE):TE:=fun σ H Q=>te σ H fun x H1=>∃ (l:Addr) (ps:List (Addr × List Int)) (π:Array Nat),x = .ref l ∧ H1 l = some (.lst (ps.map fun p=>V.ref p.1)) ∧ kB H1 ps ∧ 2 ≤ ps.length ∧ ps.length < 64 ∧
 kQ (ps.map (·.2)) = some π ∧ (∀ i ∈ π.toList,i < ps.length) ∧ π.size = ps.length ∧ lO T lp qual H1 ∧
 ∀ (D:Addr) (H2:Hp),eP T H1 H2 → lO T lp qual H2 → H2 D = some (.lst (π.toList.map fun i=>(ps.map fun p=>V.ref p.1).getD i .non)) → Q (.ref D) H2
def aRF (tb:TE):Prop:=∀ (a:Addr) (ns:List Int) (H:Hp) (Q:VK),H a = some (.lst (ns.map V.int)) → (∀ (t:Addr) (H':Hp),aI H H' → H' t = some (.tup [.int ns.length,.ref a]) → Q (.ref t) H') → tb [some (.ref a)] H Q
theorem aOL {k:Nat} {σ:List (Option V)} {f c':Addr} {y:Str} (hr:Room (k + 3) X.A) (S:FnScope [y] [y] scope) (hbind:∀ (pm cdv ct u:Value),FO (kla_fn "<lambda>" qual params body scope [] pm cdv ct) ⟨[u],[]⟩ = pure [(y,u)])
  (hbody:∀ (f:Addr) (cdv:Value) (A:Around) (outer:List Env) (s:Shared) (H:Hp),PE (mJ CX0 X.prog X.w X.K X.mg X.base [y] qual scope f cdv A outer s H E0).nox body tb) (kb:aRF tb) :
  aPC X σ X.A.in1.in1 f (fun H=>H f = some (tV "<lambda>" qual params body scope c' f) ∧ H c' = some (pG qual c')):=by
 intro pins s H a ns I ⟨ef,ec⟩ ea
 obtain ⟨⟨pm,ctv,gf⟩,_⟩:=I.hok f _ ef
 obtain ⟨rc,_⟩:=I.hok c' _ ec
 refine Fa (Ce (aLM (k:=k) (N:=[y]) (ps:=[y]) (us:=[.ref a]) (vs:=[.ref a]) (Q:=fun v H'=>∃ t,v = .ref t ∧ aI H H' ∧ H' t = some (.tup [.int ns.length,.ref a])) hr.in1.in1 I.env0.in1.in1 gf rfl rc S (.of_eq (hbind _ _ _ _)) (.cons rfl .nil) rfl
  fun _=>⟨tb,hbody _ _ _ _ _ _,kb a ns H _ ea fun t H' S' e'=>⟨t,rfl,S',e'⟩⟩) fun r s' hq=>?_)
 cases r with
 | error e=>exact hq.elim
 | ok fl =>
  cases fl with
  | ret u =>
   obtain ⟨v,H',I',rv,t,rfl,S',e'⟩:=I.after hq
   cases rv
   exact ⟨t,H',I',rfl,S',e'⟩
  | next=>exact Bb hq
  | brk=>exact Bb hq
  | cont=>exact Bb hq
theorem aKX {k:Nat} {y:Str} (hr:Room (k + 3) X.A) (hg:Gl X "sorted") (hm:X.mg "sorted" = none) (he:PE X e te) (hlam:PE X (.Lambda params body scope lp) (aRM T lp qual params body scope)) (S:FnScope [y] [y] scope)
  (hbind:∀ (pm cdv ct u:Value),FO (kla_fn "<lambda>" qual params body scope [] pm cdv ct) ⟨[u],[]⟩ = pure [(y,u)])
  (hbody:∀ (f:Addr) (cdv:Value) (A:Around) (outer:List Env) (s:Shared) (H:Hp),PE (mJ CX0 X.prog X.w X.K X.mg X.base [y] qual scope f cdv A outer s H E0).nox body tb) (kb:aRF tb)
  (hs:As [e] X.env = (false,eval e X.env) :: As [] X.env:=by rfl) (hpl:(backTo pos (As [e] X.env)).any (·.1) = false:=by rfl) :
  PE X (.Call (.Name "sorted" p) [e] [⟨some "key",.Lambda params body scope lp,kp⟩] pos) (aPV T lp qual te):=by
 intro pins s σ H Q I h
 refine Cg (pR I hg hm fJ ?_ (by decide) (by decide))
 have hp2:((backTo pos (As [e] X.env)).any (·.1) || (Dt pos (Cy [⟨some "key",.Lambda params body scope lp,kp⟩] X.env)).any (·.1.isNone)) = false:=by rw [hpl];rfl
 refine PySem.W.callWith_of (P:=fun _=>True) hp2 (fun h _=>⟨.machine,.inr (.inl rfl),PySem.W.Looks.of_pure rfl⟩) (evalArgs_kw2 rfl ?_ hs)
 refine thn (show wpAny _ _ _ _ _ s from BJ (aA he aE hs pos pins s σ H (fun vs H1=>∃ x,vs = [x] ∧ ∃ (l:Addr) (ps:List (Addr × List Int)) (π:Array Nat),x = .ref l ∧ H1 l = some (.lst (ps.map fun p=>V.ref p.1)) ∧ kB H1 ps ∧ 2 ≤ ps.length ∧ ps.length < 64 ∧
  kQ (ps.map (·.2)) = some π ∧ (∀ i ∈ π.toList,i < ps.length) ∧ π.size = ps.length ∧ lO T lp qual H1 ∧
  ∀ (D:Addr) (H2:Hp),eP T H1 H2 → lO T lp qual H2 → H2 D = some (.lst (π.toList.map fun i=>(ps.map fun p=>V.ref p.1).getD i .non)) → Q (.ref D) H2) I ?_) (fun _ _ z=>z) fun _ _ z=>z) fun us s1 ⟨vs,H1,I1,r,x,e1,l,ps,π,e2,hl,it,h2,h64,hπ,hb,hz,tb0,q⟩=>?_
 ·show te σ H fun x H1=>∃ x',[x] = [x'] ∧ _
  have hmono:∀ (R1 R2:VK),(∀ x H1,R1 x H1 → R2 x H1) → R1 = R1 → True:=fun _ _ _ _=>trivial
  have ee:(fun (x:V) (H1:Hp)=>∃ x',[x] = [x'] ∧ ∃ (l:Addr) (ps:List (Addr × List Int)) (π:Array Nat),x' = .ref l ∧ H1 l = some (.lst (ps.map fun p=>V.ref p.1)) ∧ kB H1 ps ∧ 2 ≤ ps.length ∧ ps.length < 64 ∧
   kQ (ps.map (·.2)) = some π ∧ (∀ i ∈ π.toList,i < ps.length) ∧ π.size = ps.length ∧ lO T lp qual H1 ∧
   ∀ (D:Addr) (H2:Hp),eP T H1 H2 → lO T lp qual H2 → H2 D = some (.lst (π.toList.map fun i=>(ps.map fun p=>V.ref p.1).getD i .non)) → Q (.ref D) H2) =
   (fun (x:V) (H1:Hp)=>∃ (l:Addr) (ps:List (Addr × List Int)) (π:Array Nat),x = .ref l ∧ H1 l = some (.lst (ps.map fun p=>V.ref p.1)) ∧ kB H1 ps ∧ 2 ≤ ps.length ∧ ps.length < 64 ∧
   kQ (ps.map (·.2)) = some π ∧ (∀ i ∈ π.toList,i < ps.length) ∧ π.size = ps.length ∧ lO T lp qual H1 ∧
   ∀ (D:Addr) (H2:Hp),eP T H1 H2 → lO T lp qual H2 → H2 D = some (.lst (π.toList.map fun i=>(ps.map fun p=>V.ref p.1).getD i .non)) → Q (.ref D) H2):=by
   funext x H1
   refine propext ⟨fun ⟨x',a,b⟩=>?_,fun b=>⟨x,rfl,b⟩⟩
   cases a
   exact b
  rw [ee]
  exact h
 subst e1 e2
 obtain ⟨u,rfl,ru⟩:=bC.one r
 cases ru
 have eT:l ≠ T:=fun z=>by
  obtain ⟨qs,g,_⟩:=tb0
  rw [z,g] at hl
  cases hl
 have nT:∀ p ∈ ps,p.1 ≠ T:=fun p m z=>by
  obtain ⟨qs,g,_⟩:=tb0
  have:=it p m
  rw [z,g] at this
  cases this
 refine thn (aNV (nm:=some "key") (kpos:=kp) hlam aQE pos pins s1 σ H1 (fun vs H2=>∃ f c',vs = [.ref f] ∧ eP T H1 H2 ∧ lO T lp qual H2 ∧ H2 c' = some (pG qual c') ∧ H2 f = some (tV "<lambda>" qual params body scope c' f)) I1 ⟨tb0,fun f c' H' a b c d=>⟨f,c',rfl,a,b,c,d⟩⟩) fun ws s2 ⟨vs,H2,I2,r2,f,c',e1,K2,T2,ec,ef⟩=>⟨trivial,?_⟩
 subst e1
 obtain ⟨ud,rfl,rd⟩:=bC.one r2
 cases rd
 show wpAny _ _ (call (.builtin "sorted") [.ref l] [("key",.ref f)]) _ _ s2
 refine aCC (P0:=fun H=>H f = some (tV "<lambda>" qual params body scope c' f) ∧ H c' = some (pG qual c')) (by have:=hr.un;omega) (fun _ _ Sm a=>⟨Sm _ _ a.1,Sm _ _ a.2⟩) (aOL hr S hbind hbody kb) I2 (SqL.of (K2 _ _ eT hl)) ⟨ef,ec⟩ (fun p m=>K2 _ _ (nT p m) (it p m)) h2 h64 hπ hb hz fun D H3 S3 _ eD=>?_
 exact q D H3 (K2.trans fun b o _ e=>S3 b o e) (T2.keep S3) eD
end
end L2
namespace L2
open PySem PySem.Spec PyProof.Rows PySem.W
def zT (K:AG) (T:Addr):Sp:=fun vs H Q _=>∃ x,vs = [x] ∧ ∃ (a:Addr) (ns:List Int),x = .ref a ∧ SqL K H a (ns.map V.int) ∧ ns.length ≤ 63 ∧ H T = some (.tbl #[]) ∧ ∀ H',Q (.bl true) H'
theorem aIE {P:Program} {w:World} {K:AG} {mg mb:Str → Option Value} {k:Nat} {fa a c T:Addr} {fd:Bz} {x y:Str} {s₁:Shared} {vs:List Value} {ns:List Int} {p:Program} {loose:List Str} {mean:ExcName → Option Value}
  (KX:K.In s₁.heap) (G:Top p loose mean mg mb s₁.heap) (hg:s₁.gens = #[])
  (ha:s₁.heap.get? a = some { cls:=.type "list",data:=.seq vs.toArray }) (hi:IntsAre vs ns) (hl:ns.length ≤ 63) (hr:Room k callerA)
  (hT:s₁.heap.get? T = some (tabObj #[])) (hC:CodeHd s₁.heap c T) (hKT:K.lookup T = none) (ht:tabIn K y = some (c,T))
  (F:∀ base:Heap,K.In base → base.Ns AJ mg → TabB K mg base y c T → FnOk P w K mg base CX0 k fa fd [x] (zT K T)) (hbind:∀ (s:Shared) (u:Value),BindsTo s fd ⟨[u],[]⟩ [(x,u)]) :
  codeAny (model P w) callerA (.call (.ref fa) ⟨[.ref a],[]⟩) (fun r s'=>r = .ok (.ret (.bool true)) ∧ OldK s₁.heap s'.heap ∧ s'.os = s₁.os ∧ AllBare s'.gens) s₁:=by
 have rv:=xR hi
 have lenV:=hi.length
 have naT:a ≠ T:=fun z=>by rw [z,hT] at ha;cases ha
 have core:∀ H:Hp,(∀ b,b ≠ T → H b = none ∨ ∃ o xs,H b = some (.frz o (.lst xs))) → H T = some (.tbl #[]) → SqL K H a (ns.map V.int) → HOk P w H s₁.heap → (∀ b,b ≠ T → H b ≠ none → b = a) → (H a ≠ none → K.lookup a = none) →
   codeAny (model P w) callerA (.call (.ref fa) ⟨[.ref a],[]⟩) (fun r s'=>r = .ok (.ret (.bool true)) ∧ OldK s₁.heap s'.heap ∧ s'.os = s₁.os ∧ AllBare s'.gens) s₁:=by
  intro H hO eT hS hok hA hK
  have base_of:∀ {b:Addr} {o:Obj},s₁.heap.get? b = some o → H b = none → (xO s₁.heap H).get? b = some o:=fun e n=>aLV e n
  have none_of:∀ {b:Addr} {o:Obj},s₁.heap.get? b = some o → o ≠ tabObj #[] → o ≠ { cls:=.type "list",data:=.seq vs.toArray } → H b = none:=fun {b o} e n1 n2=>by
   cases q:H b with
   | none=>rfl
   | some u =>
    by_cases z:b = T
    ·rw [z,hT] at e
     exact absurd (BH e).symm n1
    ·have e':b = a:=hA b z (by rw [q];simp)
     rw [e',ha] at e
     exact absurd (BH e).symm n2
  have noA:∀ {b:Addr} {o:Obj} {es:Array FT} {ep:Nat},s₁.heap.get? b = some o → o.data = .dict es ep → H b = none:=fun {b o es ep} e d =>
   none_of e (fun z=>by rw [z] at d;cases d) (fun z=>by rw [z] at d;cases d)
  have nsK:∀ {b:Addr} {m:Str → Option Value},s₁.heap.Ns b m → (xO s₁.heap H).Ns b m:=fun {b m} ⟨o,es,ep,e,d,r⟩=>⟨o,es,ep,base_of e (noA e d),d,r⟩
  have hKb:K.In (xO s₁.heap H):=fun b o e=>base_of (KX b o e) (by
   cases q:H b with
   | none=>rfl
   | some u =>
    by_cases z:b = T
    ·rw [z,hKT] at e;cases e
    ·have e':b = a:=hA b z (by rw [q];simp)
     subst e'
     rw [hK (by rw [q];simp)] at e;cases e)
  have hM:Mod K mg (xO s₁.heap H):=⟨hKb,nsK G.g,⟨mb,nsK G.b,G.builtins⟩,let ⟨mc,h1,h2⟩:=G.nolimit;⟨mc,nsK h1,h2⟩⟩
  have e0:Env0 P w K mg (xO s₁.heap H) callerA [] s₁ H:=⟨rfl,hM,fun b o e=>aOF e,Eh (aIH _ _),trivial,fun b hb=>absurd (show b ∈ ([]:List Addr) from hb) (by simp),hok,.of_eq hg⟩
  have TB:TabB K mg (xO s₁.heap H) y c T:=by
   refine ⟨?_,?_,fun f o fd' h1 h2 h3=>law_code KX G.g ht h1 (KX _ _ h2) h3⟩
   ·obtain ⟨bm,ob,b1,b2,b3,b4,b5,b6⟩:=G.bmain
    exact ⟨bm,ob,b1,b2,base_of b3 (none_of b3 (fun z=>by rw [z] at b4;cases b4) (fun z=>by rw [z] at b4;have b4:Bx "list" = Bx "module":=b4;injection b4 with b4;exact absurd b4 (by decide))),b4,b5,b6⟩
   ·obtain ⟨o,vs',file,tf,flags,tg,inF,text,tt,e1,r1,r⟩:=hC
    exact ⟨o,vs',file,tf,flags,tg,inF,text,tt,base_of e1 (none_of e1 (fun z=>by rw [z] at r1;cases r1) (fun z=>by rw [z] at r1;have r1:Bx "list" = Bx "code":=r1;injection r1 with r1;exact absurd r1 (by decide))),r1,r⟩
  refine Ce ((F _ hKb (nsK G.g) TB).run callerA [] s₁ H ⟨[.ref a],[]⟩ [.ref a] [.ref a] (fun v _=>v = .bl true) (fun _ _ _=>False) hr e0 (hbind s₁ (.ref a)) (.cons rfl .nil) ⟨_,rfl,a,ns,rfl,hS,hl,eT,fun _=>rfl⟩) fun r s' h=>?_
  cases r with
  | error e=>exact Bb h
  | ok fl =>
   cases fl with
   | next=>exact Bb h
   | brk=>exact Bb h
   | cont=>exact Bb h
   | ret u =>
    obtain ⟨v,H',os,bare,un,hok',r',q⟩:=h
    have q':v = .bl true:=q
    subst q'
    obtain rfl:u = FH true:=r'
    have kp:∀ b o,b ≠ T → s₁.heap.get? b = some o → s'.heap.get? b = some o:=fun b o nb e=>by
     cases q:H b with
     | none=>exact un.keep b o e q (by intro z;exact absurd (show b ∈ ([]:List Addr) from z) (by simp)) (by simp)
     | some u =>
      rcases hO b nb with z | ⟨ob,xs,z⟩
      ·rw [q] at z;cases z
      ·have z2:=un.frzs b ob _ z
       obtain ⟨e1,_⟩:=hok b _ z
       obtain ⟨e2,_⟩:=hok' b _ z2
       rw [e] at e1;cases e1
       exact e2
    obtain ⟨more,eT'⟩:=un.tbls T _ eT
    have gT':s'.heap.get? T = some (tabObj (#[] ++ more)):=hok' T _ eT'
    refine ⟨rfl,⟨fun b o e=>?_,fun b o e=>?_⟩,os,bare⟩
    ·by_cases z:b = T
     ·subst z
      rw [hT] at e
      cases e
      exact .inr (.inl ⟨(hC.tab hT).isCodeTable,rfl,#[],more,rfl,gT'⟩)
     ·exact .inl (kp b o z e)
    ·by_cases z:b = T
     ·exact ⟨_,z ▸ gT'⟩
     ·exact ⟨o,kp b o z e⟩
 cases hk:K.lookup a with
 | some o =>
  have e:=KX a o hk
  rw [ha] at e
  cases e
  refine core (fun b=>if b = T then some (.tbl #[]) else none) (fun b nb=>.inl (if_neg nb)) (if_pos rfl) (.inr ⟨_,vs.toArray,_,hk,rfl,rfl,rfl,by rw [AQ,lenV];exact BB hl (by decide),by simpa using rv⟩) (fun b u z=>?_) (fun b nb z=>absurd (if_neg nb) z) fun z=>absurd (if_neg naT) z
  by_cases hb:b = T
  ·have z':=(if_pos hb).symm.trans z
   cases z'
   subst hb
   exact hT
  ·have z':=(if_neg hb).symm.trans z
   cases z'
 | none =>
  refine core (fun b=>if b = T then some (.tbl #[]) else if b = a then some (.frz { cls:=.type "list",data:=.seq vs.toArray } (.lst (ns.map V.int))) else none) (fun b nb=>?_) (if_pos rfl) (.inl (.inr ⟨{ cls:=.type "list",data:=.seq vs.toArray },by show (if a = T then _ else _) = _;rw [if_neg naT,if_pos rfl]⟩)) (fun b u z=>?_) (fun b nb z=>?_) fun _=>hk
  ·by_cases hb:b = a
   ·exact .inr ⟨_,_,by show (if b = T then _ else _) = _;rw [if_neg nb,if_pos hb]⟩
   ·exact .inl (by show (if b = T then _ else _) = _;rw [if_neg nb,if_neg hb])
  ·by_cases hT':b = T
   ·have z':=(if_pos hT').symm.trans z
    cases z'
    subst hT'
    exact hT
   ·have z0:=(if_neg hT').symm.trans z
    by_cases hb:b = a
    ·have z':=(if_pos hb).symm.trans z0
     cases z'
     subst hb
     exact ⟨ha,by rw [AA];exact BB hl (by decide),vs,_,rv,ha⟩
    ·have z':=(if_neg hb).symm.trans z0
     cases z'
  ·by_cases hb:b = a
   ·exact hb
   ·exact absurd (by show (if b = T then _ else _) = _;rw [if_neg nb,if_neg hb]) z
theorem walk_lawT {l:PySem.W.OpenLaw} {q:Program} {loose:List Str} {XP:(Str → Option Value) → Heap → Prop} {YP:World → Heap → Prop} {d:DefRec} {K:Params → AG} (k:Nat) (y:Str) (c T:Addr) (hr:Room k callerA) (hn:l.most = some 63) (hdf:d.params.defaults = [])
  (hY:∀ (w:World) (h:Heap),YP w h → (K w.params).In h) (hT:∀ (w:World) (h:Heap),YP w h → h.get? T = some (tabObj #[])) (hC:∀ (w:World),codeHdIn (K w.params) c T = true) (hK:∀ w:World,(K w.params).lookup T = none) (ht:∀ w:World,tabIn (K w.params) y = some (c,T))
  (F:∀ (w:World) (mg:Str → Option Value) (fa:Addr) (h:Heap),(K w.params).In h → h.Ns AJ mg → mg d.name = some (.ref fa) →
   ∃ fd:Bz,(∀ (s:Shared) (u:Value),BindsTo s fd ⟨[u],[]⟩ [("_law_script",u)]) ∧ ∀ base:Heap,(K w.params).In base → base.Ns AJ mg → TabB (K w.params) mg base y c T → FnOk l.prog w (K w.params) mg base CX0 k fa fd ["_law_script"] (zT (K w.params) T)) :
  PySem.W.WalkO q loose XP YP l.row.toRowW d [] (fun f vs=>PySem.call f vs):=by
 refine Att.attach_call hn hdf fun w s₀ s₁ mg mb fa o pm cd doc a vs ns G Y ho hd hcd hmg hobj hints hlen hg=>?_
 have KX:=hY w _ Y
 obtain ⟨fd,hb,hF⟩:=F w mg fa _ KX G.T.g hmg
 exact aIE KX G.T hg hobj hints hlen hr (hT w _ Y) (codeHd_of_K KX (hC w)) (hK w) (ht w) hF hb
end L2
namespace L2
open PySem PySem.Spec PyProof.Rows PySem.W
theorem DefAt.fcC {P:Program} {w:World} {K:AG} {mg:Str → Option Value} {base:Heap} {x:Str} {st:Stmt} {N ps:List Str} {k:Nat} {sp:Sp} {c T:Addr} (D:DefAt K mg x st ps) (B:TabB K mg base x c T) (S:FnScope N ps (aB st)) (len:∀ vs H Q E,sp vs H Q E → vs.length = ps.length)
  (hbody:∀ (f:Addr) (A:Around) (outer:List Env) (s:Shared) (H:Hp) (vs:List V) (Q:VK) (E:XK),Room k (A.deeper (envOfC x (aB st) s.heap.objs.size f (.ref c))) → sp vs H Q E →
   ∃ t,PSs (mJ CX0 P w K mg base N x (aB st) f (.ref c) A outer s H E).nox (aJ st) t ∧ t { nx:=fun _ H'=>Q .non H',rt:=Q } (start N vs) H):Fc P w K mg base (k + 1) x ps sp:=by
 obtain ⟨f,fd,F,b,m⟩:=D.ex
 have hc:fd.code = .ref c:=by
  obtain ⟨oc,od,kV,doc,pm,an,cdv,ct,osl,rfl,lk,hcd⟩:=F.ex
  exact B.cd f _ _ m lk rfl
 exact ⟨f,fd,F.okC hc S len fun A outer s H vs Q E hr h=>hbody f A outer s H vs Q E hr h,b,m,F.kp⟩
theorem aDC {H:Hp}:∀ {nss:List (List Int)} {us:List V},IsL H (nss.map fun ns=>Dv.lst (ns.map Dv.int)) us → ∃ ps:List (Addr × List Int),us = ps.map (fun p=>V.ref p.1) ∧ kB H ps ∧ ps.map (·.2) = nss
 | [],us,h=>⟨[],h,(fun p (m:p ∈ ([]:List (Addr × List Int)))=>absurd m Bc),rfl⟩
 | ns :: nss,us,h=>by
  obtain ⟨v,vs,rfl,⟨a,xs,rfl,ha,hx⟩,r⟩:=h
  obtain ⟨ps,rfl,it,e⟩:=aDC r
  have ex:xs = ns.map V.int:=by
   clear ha e it r
   induction ns generalizing xs with
   | nil=>exact hx
   | cons n ns ih =>
    obtain ⟨v,vs,rfl,e,r⟩:=hx
    cases (show v = .int n from e)
    rw [ih vs r]
    rfl
  subst ex
  refine ⟨(a,ns) :: ps,rfl,fun p m=>?_,by rw [Ac,e]⟩
  rcases Af.mp m with rfl | m
  ·exact ha
  ·exact it p m
theorem mR:∀ k,(gN k).length = 2 ^ k
 | 0=>rfl
 | k + 1=>by unfold gN;rw [Ag,AA,mR k];omega
theorem lP:∀ k,∀ ns ∈ gN k,ns.length ≤ k
 | 0,ns,m=>by rw [AU.mp m];exact AL _
 | k + 1,ns,m=>by
  unfold gN at m
  rcases Ak.mp m with m | m
  ·exact Nat.le_succ_of_le (lP k ns m)
  ·obtain ⟨ms,mm,rfl⟩:=AT.mp m
   rw [Ag,CL]
   exact Nat.succ_le_succ (lP k ms mm)
theorem uD:∀ n,1 ≤ n → n ≤ 4 → kQ (gN n) = some (mK n).toArray ∧ (∀ i ∈ mK n,i < (gN n).length) ∧ (mK n).length = (gN n).length ∧ ∀ i < (gN n).length,i ∈ mK n
 | 0,h,_=>by omega
 | 1,_,_=>⟨aNO,by decide,rfl,by decide⟩
 | 2,_,_=>⟨aNN,by decide,rfl,by decide⟩
 | 3,_,_=>⟨aNM,by decide,rfl,by decide⟩
 | 4,_,_=>⟨aNL,by decide,rfl,by decide⟩
 | n + 5,_,h=>by omega
def vF (n:Nat):List (List Int):=(mK n).map fun i=>(gN n).getD i []
theorem qE {n:Nat} (h1:1 ≤ n) (h4:n ≤ 4) {ns:List Int}:ns ∈ vF n ↔ ns ∈ gN n:=by
 obtain ⟨_,a,b,c⟩:=uD n h1 h4
 unfold vF
 rw [AT]
 constructor
 ·rintro ⟨i,m,rfl⟩
  have hi:=a i m
  rw [Aa,AD hi]
  exact Cp hi
 ·intro m
  obtain ⟨i,hi,e⟩:=DL m
  exact ⟨i,c i hi,by rw [Aa,AD hi];exact e⟩
end L2
namespace L2
open PySem PySem.Spec PyProof.Rows
section
variable {prog:Program} {w:World} {A:Around} {E:Value → Shared → Prop} {s:Shared}
theorem aNC {d:Addr} {o:Obj} {es:Array FT} {ep:Nat} {Q:Value → Shared → Prop} (hd:(d == DM) = false) (ho:s.heap.get? d = some o) (hc:o.ExactDict) (hdat:o.data = .dict es ep)
  (hQ:Q (.ref s.heap.objs.size) { s with heap:=s.heap.push { cls:=.type "dict_keyiterator",data:=.fields #[.ref d,.int 0 0,.int es.size 0,.int ep 0] } }):wpAny (model prog w) A (pyIter (.ref d)) Q E s:=by
 have hT:s.TypeIs (.ref d) "dict":=⟨o,ho,hc.1⟩
 refine Ff hT F.slot_dict_iter (CG F.slot_dict_iter hT F.entry_dict_iter ?_ (F.args_dict_iter_1 _))
 unfold Builtin.«dict.__iter__»
 refine AB ?_
 unfold Builtin.Dict.dictSlotNone
 refine AB (wpAny_notOrdered_dict hT (AF ?_))
 show wpAny _ _ (Builtin.Dict.showsAll d >>= _) _ _ s
 unfold Builtin.Dict.showsAll
 rw [if_neg (by rw [hd];exact Ab)]
 refine AB (AF (AB (Fg ho hdat (AB (Fn ho hdat ?_)))))
 refine AB (Bm (AF ⟨_,rfl,"dict_keyiterator",_,⟨_,AN _ rfl,rfl⟩,CY.lookup,?_⟩))
 simpa [rawInt] using hQ
theorem aND {it d:Addr} {i ep:Nat} {od:Obj} {es:Array FT} {Q:Option Value → Shared → Prop} (hit:s.heap.IsKeyIter it d i es.size ep) (hod:s.heap.get? d = some od) (hdd:od.data = .dict es ep) (hlt:i < es.size)
  (hQ:∀ h',h'.IsKeyIter it d (i + 1) es.size ep → BP it s.heap h' → Q (some es[i].key) { s with heap:=h' }):wpAny (model prog w) A (pyNext (.ref it)) Q E s:=by
 obtain ⟨o,ho,hc,hd⟩:=id hit
 unfold pyNext
 refine AB (DW (CZ (name:=DY "__next__") hit.typeIs CY
  (CG CY hit.typeIs F.entry_dict_keyiterator_next ?_ (F.args_dict_keyiterator_next_1 _))))
 refine AB (AF (AB (AB ?_)))
 first | refine AB (Cw hit.typeIs (AF ?_)) | refine AB (DV hit.typeIs (AF ?_))
 refine AB (Dd ho hd ?_)
 simp only [show Builtin.Dict_items.ownsTuple "dict_keyiterator" = false from by decide,Bh,if_false]
 show wpAny _ _ (if (Ao d == BW) = true then _ else _) _ _ s
 rw [if_neg (show ¬ ((Ao d == BW) = true) from Ab)]
 refine AB (AF (AB (Fg hod hdd ?_)))
 rw [if_neg (by simp)]
 refine AB (AF (AB (Fn hod hdd ?_)))
 rw [if_neg (by simp)]
 refine AF ?_
 simp only [show ¬ ((i:Int) < 0) from by omega,if_false,Bl,Bq hlt]
 refine AB ?_
 first | refine AB (Cw hit.typeIs (AF ?_)) | refine AB (DV hit.typeIs (AF ?_))
 refine AB (wpAny_isOneOf_keyiter hit.typeIs ?_)
 show wpAny _ _ (setField (.ref it) 1 (rawInt ((i:Int) + 1)) >>= _) _ _ s
 refine AB (Cv ho hd (by simp) ?_)
 have hit':(s.heap.update it (Dh (·.setIfInBounds 1 (rawInt ((i:Int) + 1))))).IsKeyIter it d (i + 1) es.size ep :=
  ⟨_,BO _ ho (DC (Bo hd _)),(EF ..).trans hc,by rw [Bo hd];simp [rawInt]⟩
 refine AB (By (AB (wpAny_isOneOf_keyiter (s:={ s with heap:=s.heap.update it (Dh (·.setIfInBounds 1 (rawInt ((i:Int) + 1)))) }) hit'.typeIs ?_)))
 show wpAny _ _ (pure es[i].key) _ _ _
 exact AF (AF ⟨_,rfl,AF (hQ _ hit' (Bg ..))⟩)
theorem aPU {it d:Addr} {i ep:Nat} {od:Obj} {es:Array FT} {Q:Option Value → Shared → Prop} (hh:A.handled = none) (hit:s.heap.IsKeyIter it d i es.size ep) (hod:s.heap.get? d = some od) (hdd:od.data = .dict es ep) (hge:es.size ≤ i)
  (hQ:∀ h',Heap.ExtBut it s.heap h' → Q none { s with heap:=h' }):wpAny (model prog w) A (pyNext (.ref it)) Q E s:=by
 obtain ⟨o,ho,hc,hd⟩:=id hit
 unfold pyNext
 refine AB (DW (CZ (name:=DY "__next__") hit.typeIs CY
  (CG CY hit.typeIs F.entry_dict_keyiterator_next ?_ (F.args_dict_keyiterator_next_1 _))))
 refine AB (AF (AB (AB ?_)))
 first | refine AB (Cw hit.typeIs (AF ?_)) | refine AB (DV hit.typeIs (AF ?_))
 refine AB (Dd ho hd ?_)
 simp only [show Builtin.Dict_items.ownsTuple "dict_keyiterator" = false from by decide,Bh,if_false]
 show wpAny _ _ (if (Ao d == BW) = true then _ else _) _ _ s
 rw [if_neg (show ¬ ((Ao d == BW) = true) from Ab)]
 refine AB (AF (AB (Fg hod hdd ?_)))
 rw [if_neg (by simp)]
 refine AB (AF (AB (Fn hod hdd ?_)))
 rw [if_neg (by simp)]
 refine AF ?_
 simp only [show ¬ ((i:Int) < 0) from by omega,if_false,Bl,EZ hge]
 refine AB ?_
 first | refine AB (Cw hit.typeIs (AF ?_)) | refine AB (DV hit.typeIs (AF ?_))
 show wpAny _ _ (setField (.ref it) 0 .none >>= _) _ _ s
 refine AB (Cv ho hd (by simp) ?_)
 show wpAny _ _ (newExc (.type "StopIteration") [] >>= _) _ _ _
 refine AB ?_
 simp only [newExc,newTuple]
 refine AB (Bm ?_ (by size_fits))
 refine AB (m:=De _ _) (Fk (a:=BW) (by first | rfl | (simp only [De];rfl)) ?_)
 refine Bm ?_ (by size_fits)
 simp only [raiseNew]
 refine AB (wpAny_handled ?_)
 rw [show A.in1.handled = none from hh]
 refine AB (AF (wpAny_throw ?_))
 refine AB (Dm (T:="StopIteration") (b:=true) ⟨_,AN _ rfl,rfl⟩ Ft ?_)
 exact AF (hQ _ (((Bg ..).extBut.push _).push _))
end
def ItT (d:Addr) (o:Obj) (kvs:List (List Key × V)):It :=
 ⟨fun i H=>H d = some (.frz o (.dT kvs)) ∧ i < kvs.length,fun i H x H'=>H' = H ∧ ∃ kv b,kvs[i]? = some kv ∧ x = .ref b ∧ H b = some (.tup (kv.1.map kV)),fun i H=>H d = some (.frz o (.dT kvs)) ∧ kvs.length ≤ i⟩
theorem KT.get {H:Hp} {P:Program} {w:World}:∀ {kvs:List (List Key × V)} {xs:List (List Key × Addr × Value)} {i:Nat},KT H kvs xs → i < kvs.length → ∃ kv x,kvs[i]? = some kv ∧ xs[i]? = some x ∧ H x.2.1 = some (.tup (kv.1.map kV))
 | _,_,_,.nil,h=>by simp at h
 | _,_,0,.cons a r,_=>⟨_,_,rfl,rfl,a.2.1⟩
 | _,_,i + 1,.cons a r,h=>by
  obtain ⟨kv,x,e1,e2,e3⟩:=KT.get (P:=P) (w:=w) (i:=i) r (by simpa using h)
  exact ⟨kv,x,by simpa using e1,by simpa using e2,e3⟩
theorem KT.len {H:Hp}:∀ {kvs:List (List Key × V)} {xs:List (List Key × Addr × Value)},KT H kvs xs → kvs.length = xs.length
 | _,_,.nil=>rfl
 | _,_,.cons _ r=>by rw [Am,Am,KT.len r]
theorem aNB {P:Program} {w:World} {K:AG} {tg:Expr} {d it:Addr} {o:Obj} {kvs:List (List Key × V)} {es:Array FT} {ep:Nat} (hdat:o.data = .dict es ep) (hz:es.size = kvs.length) :
  Turn P w K tg (ItT d o kvs) [it] it (fun i h=>h.IsKeyIter it d i es.size ep) where
 mem:=by simp
 obj:=fun i h st b hb=>by
  have e:b = it:=by simpa using hb
  subst e
  obtain ⟨ob,e,c,dd⟩:=st
  exact ⟨ob,e,fun v z=>by rw [dd] at z;cases z⟩
 keep:=fun i h h' st k=>st.at fun ob e=>k it (by simp) ob e
 item:=by
  intro X hP hw hK hc i pins s σ H E I hf st hg
  subst hP hw hK
  obtain ⟨hH,hi⟩:=hg
  obtain ⟨f0,f1,f2,f3,f4,f5⟩:=hf it (by simp)
  have hok:=(show bL X.prog X.w H s.heap d (.frz o (.dT kvs)) from I.hok d _ hH)
  have hget:s.heap.get? d = some o:=hok.1
  obtain ⟨z,y,xs,r,o',es',ep',h1,h2,h3,h4,h5⟩:=(show bL X.prog X.w H s.heap d (.dT kvs) from hok.2)
  rw [hget] at h1
  cases h1
  rw [hdat] at h3
  cases h3
  obtain ⟨kv,x,e1,e2,e3⟩:=KT.get (P:=X.prog) (w:=X.w) r hi
  have hlt:i < es.size:=by omega
  refine aND st hget hdat hlt fun h' st' sb=>?_
  have ek:es[i].key = .ref x.2.1:=by
   have q:=entry_at h4 i
   rw [Bq hlt,e2] at q
   have q':=BH q
   rw [q']
   rfl
  have I1:Inv X pins σ H { s with heap:=h' }:=I.turned (t':=s.toks) (fun b ob hb e=>(sb.2 b hb).trans e) f0 f1 f3 f4 f5
  obtain ⟨ob,e,c,dd⟩:=id st'
  refine ⟨es[i].key,rfl,yX (s:={ s with heap:=h' }) e c dd (by decide) ⟨.ref x.2.1,H,I1,?_,⟨rfl,kv,x.2.1,e1,rfl,e3⟩,st',fun b hb=>(hf b hb).1⟩⟩
  rw [ek]
  rfl
 done:=by
  intro X hP hw hK hc i pins s σ H E I hf st hg
  subst hP hw hK
  obtain ⟨hH,hi⟩:=hg
  obtain ⟨f0,f1,f2,f3,f4,f5⟩:=hf it (by simp)
  have hget:s.heap.get? d = some o:=(show bL X.prog X.w H s.heap d (.frz o (.dT kvs)) from I.hok d _ hH).1
  exact aPU (I.ok.hd hc) st hget hdat (by omega) fun h' eb=>⟨rfl,I.turned (t':=s.toks) (fun b ob hb e=>eb b ob hb e) f0 f1 f3 f4 f5⟩
 self:=fun _ _ _ _ _ st h=>wpAny_pyIter_keyiter st h
section
variable {X:Cx} {tg:Expr}
def aQX (td:TE):TI:=fun σ H R=>td σ H fun x H1=>∃ d kvs,x = .ref d ∧ ((H1 d = some (.dT kvs) ∧ ∀ o,R (ItT d o kvs) (upd H1 d (.frz o (.dT kvs)))) ∨ ∃ o,H1 d = some (.frz o (.dT kvs)) ∧ R (ItT d o kvs) H1)
theorem aCO {l:Expr} {tl:TE} (hl:PE X l tl):PI X tg l (aQX tl):=by
 intro pins s σ H R I h
 refine thn (hl pins s σ H _ I h) fun v s1 ⟨x,H1,I1,r1,q1⟩=>?_
 obtain ⟨d,kvs,e,q⟩:=q1
 subst e
 cases r1
 have go:∀ (o:Obj) (H2:Hp),Inv X pins σ H2 s1 → H2 d = some (.frz o (.dT kvs)) → R (ItT d o kvs) H2 → wpAny (model X.prog X.w) X.A (pyIter (.ref d)) (PIE X pins σ tg R) X.xe s1:=fun o H2 I2 hH q=>by
  have hok:=(show bL X.prog X.w H2 s1.heap d (.frz o (.dT kvs)) from I2.hok d _ hH)
  obtain ⟨z,y,xs,r,o',es,ep,h1,h2,h3,h4,h5⟩:=(show bL X.prog X.w H2 s1.heap d (.dT kvs) from hok.2)
  have h0:=hok.1
  rw [h0] at h1
  cases h1
  have hz:es.size = kvs.length:=by rw [size_of_entries h4,KT.len r]
  refine aNC y h0 h2 h3 ?_
  refine ⟨s1.heap.objs.size,[s1.heap.objs.size],_,_,H2,rfl,I2.kept (t':=s1.toks) fun b ob e=>AC _ e,aNB h3 hz,⟨_,AN _ rfl,rfl,rfl⟩,fun b hb=>?_,q⟩
  have e:b = s1.heap.objs.size:=by simpa using hb
  subst e
  exact I2.fpOk (AL _) (I2.hok.fresh (AL _))
 rcases q with ⟨hH,q⟩ | ⟨o,hH,q⟩
 ·obtain ⟨z,y,xs,r,o,es,ep,h1,h2,h3,h4,h5⟩:=(show bL X.prog X.w H1 s1.heap d (.dT kvs) from I1.hok d _ hH)
  refine go o _ (I1.write (x:=d) (e:=d) (o:=.frz o (.dT kvs)) (h':=s1.heap) (t':=s1.toks) (by rw [hH];exact trivial) (.inl rfl) (fun _ _ _ q=>q) ⟨o,h1⟩ ⟨h1,z,y,xs,?_,o,es,ep,h1,h2,h3,h4,h5⟩) aD (q o)
  exact Paired.mapP r fun p q t=>⟨t.1,by rw [aK (fun e=>by rw [e,hH] at t;cases t.2.1)];exact t.2.1,t.2.2⟩
 ·exact go o H1 I1 hH q
theorem aMA {d:Addr} {o:Obj} {kvs:List (List Key × V)} {g:TG} {tb:TS} {D:Ends} {σ:St} {H:Hp} (Pv:Nat → St → Hp → Prop) (h0:Pv 0 σ H) (hl:∀ i σ H,i ≤ kvs.length → Pv i σ H → H d = some (.frz o (.dT kvs)))
  (hs:∀ i kv b σ H,kvs[i]? = some kv → H b = some (.tup (kv.1.map kV)) → Pv i σ H → g (.ref b) σ H fun σ2 H2=>tb { D with nx:=Pv (i + 1),ct:=Pv (i + 1),bk:=D.nx } σ2 H2) (hd:∀ σ H,Pv kvs.length σ H → D.nx σ H) :
  ∃ W:Nat → Nat → St → Hp → Prop,(∃ m,W 0 m σ H) ∧ ∀ i m σ H,W i m σ H →
   ((ItT d o kvs).stop i H ∧ D.nx σ H) ∨ ((ItT d o kvs).go i H ∧ ∃ N:St → Hp → Prop,(∀ σ' H',N σ' H' → ∃ m',m' < m ∧ W (i + 1) m' σ' H') ∧ ∀ x H',(ItT d o kvs).yld i H x H' → g x σ H' fun σ2 H2=>tb { D with nx:=N,ct:=N,bk:=D.nx } σ2 H2):=by
 refine ⟨fun i m σ H=>m + i = kvs.length ∧ Pv i σ H,⟨kvs.length,rfl,h0⟩,?_⟩
 intro i m σ H hw
 obtain ⟨hm,pv⟩:=hw
 have at_:=hl i σ H (by omega) pv
 rcases Eg i kvs.length with lt | ge
 ·refine .inr ⟨⟨at_,lt⟩,Pv (i + 1),(fun σ' H' p'=>⟨kvs.length - (i + 1),by omega,by omega,p'⟩),fun x H' y=>?_⟩
  obtain ⟨eH,kv,b,ek,ex,eb⟩:=y
  subst eH ex
  exact hs i kv b σ _ ek eb pv
 ·have ei:i = kvs.length:=by omega
  subst ei
  exact .inl ⟨⟨at_,AL _⟩,hd σ H pv⟩
end
end L2
namespace L2
open PySem PySem.Spec PyProof.Rows
def gF (zs ss:List Str):Prop:=ss.Perm zs ∧ sortedS ss = true
theorem aHC:∀ a b:List Nat,¬ a < b → ¬ b < a → a = b
 | [],[],_,_=>rfl
 | [],_ :: _,h,_=>absurd (ER ..) h
 | _ :: _,[],_,h=>absurd (ER ..) h
 | x :: a,y :: b,h1,h2=>by
  rw [List.cons_lt_cons_iff] at h1 h2
  have e:x = y:=by omega
  subst e
  rw [aHC a b (fun h=>h1 (.inr ⟨rfl,h⟩)) fun h=>h2 (.inr ⟨rfl,h⟩)]
theorem zE:∀ a b c:List Nat,¬ b < a → ¬ c < b → ¬ c < a
 | [],b,c,h1,h2=>by
  cases c with
  | nil=>exact List.not_lt_nil []
  | cons z c=>exact List.not_lt_nil _
 | x :: a,[],c,h1,h2=>absurd (ER ..) h1
 | x :: a,y :: b,[],h1,h2=>absurd (ER ..) h2
 | x :: a,y :: b,z :: c,h1,h2=>by
  rw [List.cons_lt_cons_iff] at h1 h2 ⊢
  intro h
  rcases h with h | ⟨rfl,h⟩
  ·have:y < x ∨ z < y:=by omega
   rcases this with q | q
   ·exact h1 (.inl q)
   ·exact h2 (.inl q)
  ·have e:y = z:=by
    have:¬ y < z:=fun q=>h1 (.inl q)
    have:¬ z < y:=fun q=>h2 (.inl q)
    omega
   subst e
   exact zE a b c (fun q=>h1 (.inr ⟨rfl,q⟩)) (fun q=>h2 (.inr ⟨rfl,q⟩)) h
theorem vB:∀ {l:List Str} {p:Str},risingS p l = true → (p :: l).Pairwise fun a b=>¬ b.cps.toList < a.cps.toList
 | [],p,_=>DT _ _
 | x :: r,p,h=>by
  unfold risingS at h
  rw [Ae] at h
  have h1:¬ x.cps.toList < p.cps.toList:=by
   have:=h.1
   rw [ltCps_eq] at this
   simpa using this
  have ih:=vB h.2
  refine Cb.mpr ⟨fun y m=>?_,ih⟩
  rcases Af.mp m with rfl | m
  ·exact h1
  ·exact zE _ _ _ h1 ((Cb.mp ih).1 y m)
theorem mT {l:List Str} (h:sortedS l = true):l.Pairwise fun a b=>¬ b.cps.toList < a.cps.toList:=by
 cases l with
 | nil=>exact .nil
 | cons x r=>exact vB h
theorem aNJ {a b:Str} (h:a.cps.toList = b.cps.toList):a = b:=by
 cases a with
 | mk a =>
  cases b with
  | mk b =>
   congr
   exact Array.toList_inj.mp h
theorem yF:∀ {a b:List Str},a.Perm b → (a.Pairwise fun x y=>¬ y.cps.toList < x.cps.toList) → (b.Pairwise fun x y=>¬ y.cps.toList < x.cps.toList) → a = b
 | [],_,p,_,_=>p.nil_eq
 | x :: r,b,p,ha,hb=>by
  cases b with
  | nil=>exact absurd p.length_eq (by simp)
  | cons y t =>
   have hx:x ∈ y :: t:=p.mem_iff.mp (.head _)
   have hy:y ∈ x :: r:=p.mem_iff.mpr (.head _)
   have e:x = y:=by
    rcases Af.mp hx with h | h
    ·exact h
    ·rcases Af.mp hy with h' | h'
     ·exact h'.symm
     ·exact aNJ (aHC _ _ ((Cb.mp hb).1 x h) ((Cb.mp ha).1 y h'))
   subst e
   rw [yF (DU.cons_inv p) (Cb.mp ha).2 (Cb.mp hb).2]
theorem gF.uniq {zs zs' ss ss':List Str} (a:gF zs ss) (b:gF zs' ss') (p:zs.Perm zs'):ss = ss' :=
 yF (a.1.trans (p.trans b.1.symm)) (mT a.2) (mT b.2)
theorem gF.self {zs ss:List Str} (a:gF zs ss):gF ss ss:=⟨.refl _,a.2⟩
theorem aFV {us:List Value} {ss:List Str} (h:StrsAre us ss):bC (ss.map V.str) us:=by
 induction h with
 | nil=>exact .nil
 | cons n t _ ih=>exact .cons ⟨t,rfl⟩ ih
theorem xV:∀ {ss:List Str} {vs:List Value},bC (ss.map V.str) vs → StrsAre vs ss
 | [],_,.nil=>.nil
 | n :: ns,_,.cons ⟨t,rfl⟩ r=>.cons n t (xV r)
section
variable {X:Cx}
theorem fI:fG X (.builtin "sorted") (fun xs H Q=>∃ (l:Addr) (zs:List Str),xs = [.ref l] ∧ SqL X.K H l (zs.map V.str) ∧ zs.length < 64 ∧
  ∀ (r:Addr) (ss:List Str),gF zs ss → H r = none → Q (.ref r) (upd H r (.lst (ss.map V.str)))):=by
 intro pins s σ H xs us Q I r h
 obtain ⟨l,zs,rfl,hq,hn,q⟩:=h
 obtain ⟨u,rfl,ru⟩:=bC.one r
 cases ru
 obtain ⟨its,rv,pl,hz⟩:=I.list hq
 have sa:=xV rv
 have hlen:=rv.length
 rw [AA] at hlen
 refine sorted_strs pl.isList sa (by omega) fun out ss' a1 a2 a3=>?_
 obtain ⟨e,he⟩:=sortedAll_at s.heap its out
 refine ⟨.ref (s.heap.objs.size + 1),_,I.laid (t':=s.toks) (h':=sortedAll s.heap its out) (fun b o e=>sortedAll_old e) (CS _) (show bL X.prog X.w _ _ _ (.lst (ss'.map V.str)) from ⟨?_,out.toList,e,aFV a1,?_⟩),rfl,q _ ss' ⟨a2,a3⟩ (I.hok.fresh (CS _))⟩
 ·rw [AA,a2.length_eq,Bv];omega
 ·rw [Array.toArray_toList];exact he
theorem pW {P:Program} {w:World}:∀ (acc:List Value),(∀ v ∈ acc,∃ k,(aN P w).is k v = true) → (∀ k ∈ acc.map gE,∃ n,k = Sum.inr n) → ∃ ns:List Str,StrsAre acc ns ∧ acc.map gE = ns.map Sum.inr
 | [],_,_=>⟨[],.nil,rfl⟩
 | v :: acc,h1,h2=>by
  obtain ⟨ns,a,b⟩:=pW acc (fun v hv=>h1 v (AV _ hv)) (fun k hk=>h2 k (by rw [Ac];exact AV _ hk))
  obtain ⟨k,hk⟩:=h1 v AY
  obtain ⟨n,hn⟩:=h2 (gE v) (by rw [Ac];exact AY)
  have e:=oP hk
  rw [hn] at e
  subst e
  have hk':tD (.inr n) v = true:=hk
  rcases bZ hk' with ⟨i,t,e1,rfl⟩ | ⟨x,t,e1,rfl⟩
  ·cases e1
  ·cases e1
   exact ⟨n :: ns,StrsAre.cons _ t a,by rw [Ac,Ac,b];rfl⟩
theorem aLS {a b:List Str} (h:(a.map (Sum.inr:Str → Key)).Perm (b.map Sum.inr)):a.Perm b:=by
 have:=h.map (fun k:Key=>match k with | .inr n=>n | .inl _=>"")
 simpa [At,Function.comp_def] using this
theorem sG (hc:X.calm = true):fG X (.builtin "sorted") (fun xs H Q=>∃ (l:Addr) (ns:List Str),xs = [.ref l] ∧ H l = some (aMX X.prog X.w l (ns.map Sum.inr)) ∧ ns.length < 64 ∧
  ∀ (r:Addr) (ss:List Str),gF ns ss → H r = none → Q (.ref r) (upd H r (.lst (ss.map V.str)))):=by
 intro pins s σ H xs us Q I r h
 obtain ⟨l,ns,rfl,hq,hn,q⟩:=h
 obtain ⟨u,rfl,ru⟩:=bC.one r
 cases ru
 obtain ⟨hS,_⟩:=I.hok l _ hq
 refine Calls.call_function_entry kind_sorted plain_sorted entry_sorted (args_sorted1 _) ?_
 unfold Builtin.«sorted»
 refine AB (m:=checkCount "sorted" 1 1 _) (AF ?_)
 refine AB (aCJ (by simp [I.ok.hd hc]) hS fun h' tk d acc hge hk q1 q2=>?_)
 obtain ⟨ms,im,em⟩:=pW acc q2 (fun k hk=>by
  obtain ⟨n,_,rfl⟩:=AT.mp (q1.mem_iff.mp hk)
  exact ⟨n,rfl⟩)
 rw [em] at q1
 have pm:=aLS q1
 have hlen:acc.length = ns.length:=by
  have:=congrArg CI em
  rw [AA,AA] at this
  rw [this,pm.length_eq]
 refine AB (wpAny_newList ?_ (by rw [hlen,Bv];omega))
 have hoL:(h'.push (seqObj "list" acc.toArray 0)).get? h'.objs.size = some (seqObj "list" acc.toArray 0):=AN _ rfl
 refine AB (By (CG slot_list_sort ⟨_,hoL,rfl⟩ entry_list_sort (list_sort_treeK strKind_oneLt hoL im.keysOf (fun v₁ v₂ rJ e=>keyKind_strs (by rw [← e];exact im)) (by omega) fun st' hp hs=>⟨_,rfl,?_⟩) (args_list_sort _)))
 obtain ⟨ss',a1,a2,a3⟩:=sorted_out_str im hp hs
 generalize (arrOf st').map (·.2) = out at a1
 refine AF ⟨_,rfl,?_⟩
 have g1:=DX hoL (fun _=>#[])
 have g2:=DX (AC (seqObj "list" #[] 0) (AC (seqObj "tuple" acc.toArray 0) g1)) (fun _=>out)
 refine ⟨.ref h'.objs.size,_,(I.drawn d).laid (t':=tk) (h':=sortedHeap (h'.push (seqObj "list" acc.toArray 0)) h'.objs.size acc out) (fun b o e=>?_) hge (show bL X.prog X.w _ _ _ (.lst (ss'.map V.str)) from ⟨?_,out.toList,_,aFV a1,g2⟩),rfl,q _ ss' ⟨a2.trans pm,a3⟩ (I.hok.fresh hge)⟩
 ·have lt:=AX e
  have n1:b ≠ h'.objs.size:=Ad (Ah lt hge)
  unfold sortedHeap
  rw [Av _ _ (Ne.symm n1)]
  refine AC _ (AC _ ?_)
  rw [Av _ _ (Ne.symm n1)]
  exact AC _ (hk _ _ e)
 ·rw [AA,a2.length_eq,pm.length_eq,Bv];omega
end
end L2
namespace L2
open PySem PySem.Spec PyProof.Rows PySem.Builtin.Str
section
variable {X:Cx}
end
end L2
namespace L2
open PySem PySem.Spec PyProof.Rows
theorem aDN {F:AG} {a:Addr} {xs:List V} {σb:St} {g:TG} {tt:TT} {te:TE} {fin:List V → Hp → Prop} {H:Hp} (hz:xs.length ≤ An) (Pv:Nat → List V → Hp → Prop) (h0:Pv 0 [] H)
  (hl:∀ i ys H,i ≤ xs.length → Pv i ys H → SqT F H a xs ∧ ys.length ≤ i)
  (hs:∀ i x ys H (K:VK) (K':Hp → Prop),xs[i]? = some x → Pv i ys H → (∀ y H4,Pv (i + 1) (ys ++ [y]) H4 → K y H4) → (∀ H3,Pv (i + 1) ys H3 → K' H3) →
   g x σb H fun σ2 H2=>tt σ2 H2 fun b H3=>if b = true then te σ2 H3 K else K' H3)
  (hd:∀ ys H,Pv xs.length ys H → fin ys H):∃ W:CW,(∃ m,W 0 m [] H) ∧ ∀ i m ys H,W i m ys H → uH σb (Itt F a) g tt te W fin i m ys H:=by
 refine ⟨fun i m ys H=>m = xs.length - i ∧ i ≤ xs.length ∧ Pv i ys H,⟨xs.length,by simp,BG _,h0⟩,?_⟩
 rintro i m ys H ⟨rfl,hi,p⟩
 obtain ⟨q,ql⟩:=hl i ys H hi p
 by_cases hlt:i < xs.length
 ·refine .inr ⟨⟨xs,xs[i],q,by simp [hlt]⟩,by omega,fun x H' y=>?_⟩
  obtain ⟨e,y⟩:=y
  subst e
  exact hs i x ys _ _ _ (y xs q) p (fun y H4 q=>⟨xs.length - (i + 1),by omega,rfl,hlt,q⟩) fun H3 q=>⟨xs.length - (i + 1),by omega,rfl,hlt,q⟩
 ·have e:i = xs.length:=by omega
  subst e
  exact .inl ⟨⟨xs,q,AL _⟩,hd ys H p⟩
end L2
namespace L2
open PySem PySem.Spec PyProof.Rows
section
variable {X:Cx} {K:AG}
theorem aGZ {tb:TS} {D:Ends} {σ:St} {H:Hp} (h:∀ D':Ends,(∀ σ' H',D.nx σ' H' → D'.nx σ' H') → tb D' σ H):tb D σ H:=h D fun _ _ x=>x
theorem aKI {a b:TS} {D:Ends} {σ:St} {H:Hp} (h:∀ u:TS,(∀ D' σ' H',b D' σ' H' → u D' σ' H') → kK a u D σ H):kK a b D σ H:=h b fun _ _ _ x=>x
theorem aKH {a1 a2 a3 b:TS} {D:Ends} {σ:St} {H:Hp} (h:∀ u:TS,(∀ D' σ' H',b D' σ' H' → u D' σ' H') → kK a1 (kK a2 (kK a3 u)) D σ H):kK a1 (kK a2 (kK a3 b)) D σ H:=h b fun _ _ _ x=>x
end
end L2
namespace K64
open PySem L2
local macro_rules | `(tactic| trivial)=>`(tactic| first | exact .inl rfl | exact .inr rfl | assumption)
def top (i:Nat):Stmt:=PySem.Challenge.pw_dykemoot_k64_whole_together_never_more.main.body.getD i (.Pass ⟨0,0,0,0⟩)
abbrev qC:Stmt:=top 0
abbrev gR:Stmt:=top 15
theorem xC:FnScope ["thing"] ["thing"] (aB gR):=⟨rfl,rfl,rfl,by decide +kernel,rfl,by decide +kernel,by decide +kernel⟩
abbrev iT:Stmt:=top 16
theorem aAG:FnScope ["thing"] ["thing"] (aB iT):=⟨rfl,rfl,rfl,by decide +kernel,rfl,by decide +kernel,by decide +kernel⟩
abbrev fN:Stmt:=top 17
theorem uT:FnScope ["thing"] ["thing"] (aB fN):=⟨rfl,rfl,rfl,by decide +kernel,rfl,by decide +kernel,by decide +kernel⟩
abbrev fO:Stmt:=top 18
theorem uU:FnScope ["thing"] ["thing"] (aB fO):=⟨rfl,rfl,rfl,by decide +kernel,rfl,by decide +kernel,by decide +kernel⟩
abbrev fM:Stmt:=top 19
theorem uS:FnScope ["thing","names"] ["thing","names"] (aB fM):=⟨rfl,rfl,rfl,by decide +kernel,rfl,by decide +kernel,by decide +kernel⟩
abbrev eV:Stmt:=top 20
theorem tJ:FnScope ["thing","most"] ["thing","most"] (aB eV):=⟨rfl,rfl,rfl,by decide +kernel,rfl,by decide +kernel,by decide +kernel⟩
abbrev eE:Stmt:=top 21
theorem rE:FnScope ["thing","length"] ["thing","length"] (aB eE):=⟨rfl,rfl,rfl,by decide +kernel,rfl,by decide +kernel,by decide +kernel⟩
abbrev eU:Stmt:=top 22
theorem tI:FnScope ["rows"] ["rows"] (aB eU):=⟨rfl,rfl,rfl,by decide +kernel,rfl,by decide +kernel,by decide +kernel⟩
abbrev gT:Stmt:=top 23
theorem xD:FnScope ["thing"] ["thing"] (aB gT):=⟨rfl,rfl,rfl,by decide +kernel,rfl,by decide +kernel,by decide +kernel⟩
abbrev eZ:Stmt:=top 24
theorem tM:FnScope ["thing"] ["thing"] (aB eZ):=⟨rfl,rfl,rfl,by decide +kernel,rfl,by decide +kernel,by decide +kernel⟩
abbrev fS:Stmt:=top 25
theorem uX:FnScope ["one","other","sides"] ["one","other","sides"] (aB fS):=⟨rfl,rfl,rfl,by decide +kernel,rfl,by decide +kernel,by decide +kernel⟩
abbrev iS:Stmt:=top 26
theorem aAF:FnScope ["thing","crown"] ["thing","crown"] (aB iS):=⟨rfl,rfl,rfl,by decide +kernel,rfl,by decide +kernel,by decide +kernel⟩
abbrev iU:Stmt:=top 27
theorem aAH:FnScope ["thing","sides"] ["thing","sides"] (aB iU):=⟨rfl,rfl,rfl,by decide +kernel,rfl,by decide +kernel,by decide +kernel⟩
abbrev fU:Stmt:=top 28
theorem uY:FnScope ["thing","sides"] ["thing","sides"] (aB fU):=⟨rfl,rfl,rfl,by decide +kernel,rfl,by decide +kernel,by decide +kernel⟩
abbrev iR:Stmt:=top 29
theorem aAE:FnScope ["land","thing"] ["land","thing"] (aB iR):=⟨rfl,rfl,rfl,by decide +kernel,rfl,by decide +kernel,by decide +kernel⟩
abbrev fR:Stmt:=top 30
theorem uW:FnScope ["land","thing"] ["land","thing"] (aB fR):=⟨rfl,rfl,rfl,by decide +kernel,rfl,by decide +kernel,by decide +kernel⟩
abbrev cU:Stmt:=top 31
theorem iO:FnScope ["land","thing","names"] ["land","thing"] (aB cU):=⟨rfl,rfl,rfl,by decide +kernel,rfl,by decide +kernel,by decide +kernel⟩
abbrev gX:Stmt:=iM (top 32) 0
theorem xG:FnScope ["self","fields","dykes"] ["self","fields","dykes"] (aB gX):=⟨rfl,rfl,rfl,by decide +kernel,rfl,by decide +kernel,by decide +kernel⟩
abbrev gC:Stmt:=iM (top 32) 1
abbrev fA:Stmt:=iM (top 32) 2
theorem tN:FnScope ["self"] ["self"] (aB fA):=⟨rfl,rfl,rfl,by decide +kernel,rfl,by decide +kernel,by decide +kernel⟩
abbrev cN:Stmt:=iM (top 32) 3
theorem mN:FnScope ["self"] ["self"] (aB cN):=⟨rfl,rfl,rfl,by decide +kernel,rfl,by decide +kernel,by decide +kernel⟩
abbrev cV:Stmt:=iM (top 32) 4
theorem mW:FnScope ["self"] ["self"] (aB cV):=⟨rfl,rfl,rfl,by decide +kernel,rfl,by decide +kernel,by decide +kernel⟩
abbrev fH:Stmt:=iM (top 32) 5
abbrev eI:Stmt:=iM (top 32) 6
theorem rH:FnScope ["self","field"] ["self","field"] (aB eI):=⟨rfl,rfl,rfl,by decide +kernel,rfl,by decide +kernel,by decide +kernel⟩
abbrev iK:Stmt:=iM (top 32) 7
abbrev fV:Stmt:=iM (top 32) 8
theorem uZ:FnScope ["self","name"] ["self","name"] (aB fV):=⟨rfl,rfl,rfl,by decide +kernel,rfl,by decide +kernel,by decide +kernel⟩
abbrev gB:Stmt:=iM (top 32) 9
abbrev jM:Stmt:=top 34
theorem iN:FnScope ["starts","steps","came","waiting","near","step"] ["starts","steps"] (aB jM):=⟨rfl,rfl,rfl,by decide +kernel,rfl,by decide +kernel,by decide +kernel⟩
abbrev iQ:Stmt:=top 35
theorem jD:FnScope ["came","side","path","step"] ["came","side"] (aB iQ):=⟨rfl,rfl,rfl,by decide +kernel,rfl,by decide +kernel,by decide +kernel⟩
abbrev eW:Stmt:=top 37
theorem tK:FnScope ["land","fields","height"] ["land","fields","height"] (aB eW):=⟨rfl,rfl,rfl,by decide +kernel,rfl,by decide +kernel,by decide +kernel⟩
abbrev gU:Stmt:=top 38
theorem xE:FnScope ["dyke","height"] ["dyke","height"] (aB gU):=⟨rfl,rfl,rfl,by decide +kernel,rfl,by decide +kernel,by decide +kernel⟩
abbrev gW:Stmt:=top 39
theorem xF:FnScope ["land","works"] ["land","works"] (aB gW):=⟨rfl,rfl,rfl,by decide +kernel,rfl,by decide +kernel,by decide +kernel⟩
abbrev jN:Stmt:=top 40
theorem aCK:FnScope ["land","side","height"] ["land","side","height"] (aB jN):=⟨rfl,rfl,rfl,by decide +kernel,rfl,by decide +kernel,by decide +kernel⟩
abbrev jO:Stmt:=top 41
theorem aCL:FnScope ["land","dyke","height"] ["land","dyke","height"] (aB jO):=⟨rfl,rfl,rfl,by decide +kernel,rfl,by decide +kernel,by decide +kernel⟩
abbrev fP:Stmt:=top 42
theorem uV:FnScope ["land","height"] ["land","height"] (aB fP):=⟨rfl,rfl,rfl,by decide +kernel,rfl,by decide +kernel,by decide +kernel⟩
abbrev eS:Stmt:=top 43
theorem gA:FnScope ["land","names","steps","name","dyke"] ["land","names"] (aB eS):=⟨rfl,rfl,rfl,by decide +kernel,rfl,by decide +kernel,by decide +kernel⟩
abbrev mX:Stmt:=top 44
theorem aHS:FnScope ["step","most","stream"] ["step","most","stream"] (aB mX):=⟨rfl,rfl,rfl,by decide +kernel,rfl,by decide +kernel,by decide +kernel⟩
abbrev iP:Stmt:=top 45
theorem aAD:FnScope ["steps","most","stream"] ["steps","most","stream"] (aB iP):=⟨rfl,rfl,rfl,by decide +kernel,rfl,by decide +kernel,by decide +kernel⟩
abbrev cX:Stmt:=top 46
theorem fK:FnScope ["steps","most","stream","fields","came","ends"] ["steps","most","stream","fields"] (aB cX):=⟨rfl,rfl,rfl,by decide +kernel,rfl,by decide +kernel,by decide +kernel⟩
abbrev cY:Stmt:=top 47
theorem cG:FnScope ["steps","most","fields","stream","path","amount","step"] ["steps","most","fields"] (aB cY):=⟨rfl,rfl,rfl,by decide +kernel,rfl,by decide +kernel,by decide +kernel⟩
abbrev dZ:Stmt:=top 48
theorem kR:FnScope ["steps","flowed","fields","height","behind"] ["steps","flowed","fields","height"] (aB dZ):=⟨rfl,rfl,rfl,by decide +kernel,rfl,by decide +kernel,by decide +kernel⟩
abbrev jP:Stmt:=top 49
theorem gI:FnScope ["land","fields","height","most","steps","stream","works","amounts"] ["land","fields","height"] (aB jP):=⟨rfl,rfl,rfl,by decide +kernel,rfl,by decide +kernel,by decide +kernel⟩
abbrev dP:Stmt:=top 52
theorem qB:FnScope ["height"] ["height"] (aB dP):=⟨rfl,rfl,rfl,by decide +kernel,rfl,by decide +kernel,by decide +kernel⟩
abbrev mY:Stmt:=top 53
theorem aHT:FnScope ["land","fields","height"] ["land","fields","height"] (aB mY):=⟨rfl,rfl,rfl,by decide +kernel,rfl,by decide +kernel,by decide +kernel⟩
abbrev kT:Stmt:=top 54
theorem lQ:FnScope ["land","one","other","height","apart","either","both"] ["land","one","other","height"] (aB kT):=⟨rfl,rfl,rfl,by decide +kernel,rfl,by decide +kernel,by decide +kernel⟩
abbrev cR:Stmt:=top 55
theorem dD:FnScope ["count","lists","place"] ["count"] (aB cR):=⟨rfl,rfl,rfl,by decide +kernel,rfl,by decide +kernel,by decide +kernel⟩
abbrev fQ:Stmt:=top 56
theorem gQ:FnScope ["land","fields","height","told","places","company"] ["land","fields","height"] (aB fQ):=⟨rfl,rfl,rfl,by decide +kernel,rfl,by decide +kernel,by decide +kernel⟩
abbrev iV:Stmt:=top 58
theorem aAI:FnScope ["_law_script","_law_k"] ["_law_script","_law_k"] (aB iV):=⟨rfl,rfl,rfl,by decide +kernel,rfl,by decide +kernel,by decide +kernel⟩
abbrev kW:Stmt:=top 59
theorem vA:FnScope ["_law_cell","_law_k","_law_number"] ["_law_cell","_law_k"] (aB kW):=⟨rfl,rfl,rfl,by decide +kernel,rfl,by decide +kernel,by decide +kernel⟩
abbrev hW:Stmt:=top 60
theorem eR:FnScope ["_law_cell","_law_many","_law_letters","_law_size","_law_base","_law_at","_law_words_here","_law_k","_law_inner"] ["_law_cell","_law_many"] (aB hW):=⟨rfl,rfl,rfl,by decide +kernel,rfl,by decide +kernel,by decide +kernel⟩
abbrev nC:Stmt:=top 61
theorem aHU:FnScope ["_law_number"] ["_law_number"] (aB nC):=⟨rfl,rfl,rfl,by decide +kernel,rfl,by decide +kernel,by decide +kernel⟩
abbrev mZ:Stmt:=top 62
theorem yB:FnScope ["_law_number","_law_most_here"] ["_law_number"] (aB mZ):=⟨rfl,rfl,rfl,by decide +kernel,rfl,by decide +kernel,by decide +kernel⟩
abbrev jQ:Stmt:=top 63
theorem gJ:FnScope ["_law_script","_law_many","_law_names","_law_found","_law_k","_law_number","_law_ground"] ["_law_script","_law_many"] (aB jQ):=⟨rfl,rfl,rfl,by decide +kernel,rfl,by decide +kernel,by decide +kernel⟩
abbrev kX:Stmt:=top 64
theorem cD:FnScope ["_law_script","_law_fields_here","_law_many","_law_names","_law_sides","_law_found","_law_k","_law_number","_law_one","_law_other","_law_crown","_law_rate","_law_sill"] ["_law_script","_law_fields_here","_law_many"] (aB kX):=⟨rfl,rfl,rfl,by decide +kernel,rfl,by decide +kernel,by decide +kernel⟩
abbrev kU:Stmt:=top 65
theorem pJ:FnScope ["_law_script","_law_cell","_law_fields_here"] ["_law_script"] (aB kU):=⟨rfl,rfl,rfl,by decide +kernel,rfl,by decide +kernel,by decide +kernel⟩
abbrev kY:Stmt:=top 66
theorem lR:FnScope ["_law_land","_law_wish","_law_height","_law_costs_here","_law_company","_law_coins"] ["_law_land","_law_wish","_law_height"] (aB kY):=⟨rfl,rfl,rfl,by decide +kernel,rfl,by decide +kernel,by decide +kernel⟩
abbrev gY:Stmt:=top 67
theorem iJ:FnScope ["_law_costs_here","_law_one","_law_other","_law_either","_law_both","_law_apart"] ["_law_costs_here","_law_one","_law_other"] (aB gY):=⟨rfl,rfl,rfl,by decide +kernel,rfl,by decide +kernel,by decide +kernel⟩
abbrev nE:Stmt:=top 68
theorem yC:FnScope ["_law_costs_here","_law_one","_law_other","_law_name","_law_more"] ["_law_costs_here","_law_one","_law_other","_law_name"] (aB nE):=⟨rfl,rfl,rfl,by decide +kernel,rfl,by decide +kernel,by decide +kernel⟩
abbrev oK:Stmt:=top 69
theorem dE:FnScope ["_law_script","_law_fields_here","_law_dykes_here","_law_land","_law_names","_law_first","_law_wish","_law_height","_law_costs_here","_law_higher","_law_one","_law_other","_law_inner","_law_name"] ["_law_script"] (aB oK):=⟨rfl,rfl,rfl,by decide +kernel,rfl,by decide +kernel,by decide +kernel⟩
structure Txt (K:AG) (mg:Str → Option Value) (C:Addr):Prop where
 cl_Land:Cls K C
 mg_Land:mg "Land" = some (.ref C)
 a_field_rows:oH K C "field_rows"
 a_dyke_rows:oH K C "dyke_rows"
 ci_Land:InstC K C
 i_Land:InitAt K C "Land.__init__" gX ["self","fields","dykes"]
 m_land_p_fields:MethAt K C "fields" "Land.fields" gC ["self"]
 m_land_p_dykes:MethAt K C "dykes" "Land.dykes" fA ["self"]
 m_land_p_field_names:MethAt K C "field_names" "Land.field_names" cN ["self"]
 m_land_p_dyke_names:MethAt K C "dyke_names" "Land.dyke_names" cV ["self"]
 m_land_p_sluices:MethAt K C "sluices" "Land.sluices" fH ["self"]
 m_land_p_ground:MethAt K C "ground" "Land.ground" eI ["self","field"]
 m_land_p_dues:MethAt K C "dues" "Land.dues" iK ["self","field"]
 m_land_p_dyke:MethAt K C "dyke" "Land.dyke" fV ["self","name"]
 m_land_p_raised:MethAt K C "raised" "Land.raised" gB ["self","works"]
 d_p_wall:DefAt K mg "_wall" qC ["k"]
 d_p_is_whole:DefAt K mg "is_whole" gR ["thing"]
 d_p_is_name:DefAt K mg "is_name" iT ["thing"]
 d_p_is_height:DefAt K mg "is_height" fN ["thing"]
 d_p_is_amount:DefAt K mg "is_amount" fO ["thing"]
 d_p_is_one_of:DefAt K mg "is_one_of" fM ["thing","names"]
 d_p_is_list_of:DefAt K mg "is_list_of" eV ["thing","most"]
 d_p_is_tuple_of:DefAt K mg "is_tuple_of" eE ["thing","length"]
 d_p_none_twice:DefAt K mg "none_twice" eU ["rows"]
 d_p_is_field:DefAt K mg "is_field" gT ["thing"]
 d_p_are_fields:DefAt K mg "are_fields" eZ ["thing"]
 d_p_are_sides:DefAt K mg "are_sides" fS ["one","other","sides"]
 d_p_is_sill:DefAt K mg "is_sill" iS ["thing","crown"]
 d_p_is_dyke:DefAt K mg "is_dyke" iU ["thing","sides"]
 d_p_are_dykes:DefAt K mg "are_dykes" fU ["thing","sides"]
 d_p_is_work:DefAt K mg "is_work" iR ["land","thing"]
 d_p_are_works:DefAt K mg "are_works" fR ["land","thing"]
 d_p_are_some_fields:DefAt K mg "are_some_fields" cU ["land","thing"]
 d_p_spread:DefAt K mg "spread" jM ["starts","steps"]
 d_p_path_to:DefAt K mg "path_to" iQ ["came","side"]
 d_p_check_wish:DefAt K mg "check_wish" eW ["land","fields","height"]
 d_p_coins_to:DefAt K mg "coins_to" gU ["dyke","height"]
 d_p_coins_of:DefAt K mg "coins_of" gW ["land","works"]
 d_p_is_low:DefAt K mg "is_low" jN ["land","side","height"]
 d_p_is_gap:DefAt K mg "is_gap" jO ["land","dyke","height"]
 d_p_gap_coins:DefAt K mg "gap_coins" fP ["land","height"]
 d_p_steps_over:DefAt K mg "steps_over" eS ["land","names"]
 d_p_room:DefAt K mg "room" mX ["step","most","stream"]
 d_p_reached:DefAt K mg "reached" iP ["steps","most","stream"]
 d_p_path_with_room:DefAt K mg "path_with_room" cX ["steps","most","stream","fields"]
 d_p_fullest_stream:DefAt K mg "fullest_stream" cY ["steps","most","fields"]
 d_p_works_round:DefAt K mg "works_round" dZ ["steps","flowed","fields","height"]
 d_p_fewest:DefAt K mg "fewest" jP ["land","fields","height"]
 d_p_cost_of_none:DefAt K mg "cost_of_none" dP ["height"]
 d_p_cost:DefAt K mg "cost" mY ["land","fields","height"]
 d_p_saved:DefAt K mg "saved" kT ["land","one","other","height"]
 d_p_lists_of_places:DefAt K mg "lists_of_places" cR ["count"]
 d_p_companies:DefAt K mg "companies" fQ ["land","fields","height"]
 d_l_cell_at:DefAt K mg "_law_cell_at" iV ["_law_script","_law_k"]
 d_l_mixed:DefAt K mg "_law_mixed" kW ["_law_cell","_law_k"]
 d_l_words:DefAt K mg "_law_words" hW ["_law_cell","_law_many"]
 d_l_high:DefAt K mg "_law_high" nC ["_law_number"]
 d_l_most:DefAt K mg "_law_most" mZ ["_law_number"]
 d_l_fields:DefAt K mg "_law_fields" jQ ["_law_script","_law_many"]
 d_l_dykes:DefAt K mg "_law_dykes" kX ["_law_script","_law_fields_here","_law_many"]
 d_l_small:DefAt K mg "_law_small" kU ["_law_script"]
 d_l_costs:DefAt K mg "_law_costs" kY ["_law_land","_law_wish","_law_height"]
 d_l_together:DefAt K mg "_law_together" gY ["_law_costs_here","_law_one","_law_other"]
 d_l_adds:DefAt K mg "_law_adds" nE ["_law_costs_here","_law_one","_law_other","_law_name"]
 d_p_law:DefAt K mg "law" oK ["_law_script"]
 g_SEA:kO mg "SEA" (.str "sea")
 g_LETTERS:kO mg "LETTERS" (.str "abcdefghijklmnopqrstuvwxyz")
 g_MOST_LETTERS:kO mg "MOST_LETTERS" (.int 8)
 g_MOST_HEIGHT:kO mg "MOST_HEIGHT" (.int 1000000)
 g_MOST_AMOUNT:kO mg "MOST_AMOUNT" (.int 1000000)
 g_MOST_FIELDS:kO mg "MOST_FIELDS" (.int 12)
 g_MOST_DYKES:kO mg "MOST_DYKES" (.int 40)
 g_MOST_IN_A_WISH:kO mg "MOST_IN_A_WISH" (.int 8)
 n_all:mg "all" = none
 n_bool:mg "bool" = none
 n_dict:mg "dict" = none
 n_int:mg "int" = none
 n_isinstance:mg "isinstance" = none
 n_len:mg "len" = none
 n_list:mg "list" = none
 n_max:mg "max" = none
 n_min:mg "min" = none
 n_range:mg "range" = none
 n_reversed:mg "reversed" = none
 n_set:mg "set" = none
 n_sorted:mg "sorted" = none
 n_str:mg "str" = none
 n_sum:mg "sum" = none
 n_tuple:mg "tuple" = none
section
variable {P:Program} {w:World} {K:AG} {mg:Str → Option Value} {base:Heap} {C:Addr}
open Ld
theorem bP:(1000:Nat) ≤ An:=by decide
def zQ:Sp:=sp1 fun x H Q=>∃ d,Is H d x ∧ Q (.bl (isInt d)) H
theorem pB (T:Txt K mg C):Fc P w K mg base 1 "is_whole" ["thing"] zQ:=by
 refine T.d_p_is_whole.fc xC oV (fun f cdv A outer s H vs Q E hr h=>?_)
 obtain ⟨x,rfl,d,hd,q⟩:=h
 obtain ⟨t,ty,e1,e2,_⟩:=sJ K hd
 refine ⟨_,(@aH _ _ _ (@aQ _ _ _ _ (@cZ _ _ _ _ _ _ _ (@aV _ _ _ _ _ _ _ _ _ (@dI _ (K) rfl) rfl T.n_isinstance cH (@aA _ _ _ _ _ (pv 0) (@aA _ _ _ _ _ (@sS _ _ _ _ T.n_int aIZ (by rfl) (by decide) (by decide)) aE (by rfl)) (by rfl)) (by decide) (by decide) (by rfl) (by rfl)) (@eO _ _ _ _ _ (@aQH _ _ _ _ (@aV _ _ _ _ _ _ _ _ _ (@dI _ (K) rfl) rfl T.n_isinstance cH (@aA _ _ _ _ _ (pv 0) (@aA _ _ _ _ _ (@sS _ _ _ _ T.n_bool aFQ (by rfl) (by decide) (by decide)) aE (by rfl)) (by rfl)) (by decide) (by decide) (by rfl) (by rfl))))))),?_⟩
 refine ⟨_,rfl,_,_,_,t,_,rfl,rfl,ty,e1,_,rfl,?_⟩
 refine jY (fun h=>?_) (fun h=>?_)
 ·refine ⟨_,rfl,_,_,_,t,_,rfl,rfl,ty,e2,_,rfl,?_⟩
  have e:(!aLQ d) = isInt d:=by cases d <;> simp_all [isInt,aLQ]
  rw [e]
  exact q
 ·have e:isInt d = false:=by cases d <;> simp_all [isInt,aLQ]
  rw [e] at q
  exact q
def aEF:Sp:=sp1 fun x H Q=>∃ d,Is H d x ∧ small d = true ∧ Q (.bl (pT d)) H
theorem qL (T:Txt K mg C):Fc P w K mg base 1 "is_name" ["thing"] aEF:=by
 refine T.d_p_is_name.fcD aAG oV (fun f cdv A outer s H vs Q E hr h=>?_)
 obtain ⟨x,rfl,d,hd,hz,q⟩:=h
 obtain ⟨t,ty,e1,e2,e3,_⟩:=sJ K hd
 have big:=bP
 refine ⟨_,(@aG _ _ _ _ _ (@fB _ _ _ _ _ _ _ _ (@PW.pt _ _ _ (@vD _ _ _ _ _ _ _ (@eN _ _ _ _ (@dQ _ _ _ (@aV _ _ _ _ _ _ _ _ _ (@dI _ (K) rfl) rfl T.n_isinstance cH (@aA _ _ _ _ _ (pv 0) (@aA _ _ _ _ _ (@sS _ _ _ _ T.n_str zH (by rfl) (by decide) (by decide)) aE (by rfl)) (by rfl)) (by decide) (by decide) (by rfl) (by rfl)) (by intro _;rfl))) (@rK _ _ _ _ (@eN _ _ _ _ (@aKT _ _ _ _ _ _ _ _ _ _ _ _ qH qH aF (@aV _ _ _ _ _ _ _ _ _ aBI rfl T.n_len bN (@aA _ _ _ _ _ (pv 0) aE (by rfl)) (by decide) (by decide) (by rfl) (by rfl)) (@tO _ _ _ _ T.g_MOST_LETTERS (by rfl) (by decide)) (by with_unfolding_all rfl)))))) (@aH _ _ _ (@aQ _ _ _ _ oZ)) cE) (@aH _ _ _ (@aQ _ _ _ _ (@cZ _ _ _ _ _ _ _ (@dG _ _ _ _ _ _ _ _ aCQ (pv 0) (@tO _ _ _ _ T.g_SEA (by rfl) (by decide)) (@bQ _ _ (by decide) (by decide))) (@eO _ _ _ _ _ (@aV _ _ _ _ _ _ _ _ _ (@oA _ rfl) rfl T.n_all lM (@aA _ _ _ _ _ (@cB _ _ _ _ _ _ _ _ _ _ _ ["sign"] 1 [] rfl (@aQF _ _ _ _ (pv 0)) (fun R=>@aU _ _ (0) _ (show Au (["sign"]:List Str) by decide +kernel) rfl (Or.inl rfl) (by trivial)) (@aX _ _ (by decide)) (fun R=>cF) (fun R=>(@dG _ _ _ _ _ _ _ _ aHZ (pv 0) (@tO _ _ _ _ T.g_LETTERS (by rfl) (by decide)) (by with_unfolding_all rfl))) (by rfl) (by rfl) (by rfl) (by rfl) (by rfl) (by rfl) (by rfl) (by intro _;rfl)) aE (by rfl)) (by decide) (by decide) (by rfl) (by rfl))))))),?_⟩
 refine ⟨_,rfl,_,_,_,t,_,rfl,rfl,ty,e3,_,rfl,?_⟩
 cases d with
 | str z =>
  cases (show x = .str z from hd)
  have hz:z.length ≤ 1000:=of_decide_eq_true hz
  have q:Q (.bl (fD z)) H:=q
  have hzs:z.length ≤ An:=by omega
  refine bO ?_
  refine ⟨_,rfl,z,rfl,hzs,_,_,rfl,rfl,_,rfl,?_⟩
  refine jY (fun h1=>?_) (fun h1=>?_)
  ·refine ⟨_,_,rfl,rfl,_,rfl,?_⟩
   have h1':1 ≤ z.length:=by
    have:=of_decide_eq_true h1
    omega
   refine jY (fun h2=>?_) (fun h2=>?_)
   ·have e:fD z = false:=by
     have h2':¬ z.length ≤ 8:=by
      intro h3
      have:((z.length:Nat):Int) ≤ 8:=by omega
      simp [this] at h2
     simp [fD,h2']
    rw [e] at q
    exact cP.of (.refl _) q
   ·have h2':z.length ≤ 8:=by
     have h3:decide (((z.length:Nat):Int) ≤ 8) = true:=by
      cases h4:decide (((z.length:Nat):Int) ≤ 8) with
      | true=>rfl
      | false=>exact absurd (by rw [h4];rfl) h2
     have:=of_decide_eq_true h3
     omega
    refine ⟨_,rfl,rfl,_,rfl,?_⟩
    refine jY (fun h3=>?_) (fun h3=>?_)
    ·have h3':¬ z = "sea":=by
      intro h4
      subst h4
      simp at h3
     refine ⟨_,rfl,z,rfl,?_⟩
     refine aMQ (BB hz (by decide)) (fun i ys H'=>H' = H ∧ ys = (z.cps.toList.take i).map fun c=>V.bl (fL c)) ⟨rfl,rfl⟩ ?_ ?_ ?_
     ·rintro i ys H' ⟨_,rfl⟩
      rw [AA,AZ]
      omega
     ·rintro i c ys H' K1 K2 hc ⟨rfl,rfl⟩ k1 k2
      refine ⟨_,rfl,_,_,rfl,rfl,k1 _ _ ⟨rfl,?_⟩⟩
      have hc':z.cps.toList[i]? = some c:=by simpa using hc
      rw [Ai,hc',aFG]
      simp
     ·rintro ys H' ⟨rfl,rfl⟩
      intro p hp'
      refine ⟨p,z.cps.toList.map fL,rfl,SqL.of ?_,?_⟩
      ·rw [aD,AI (by simp),At]
       rfl
      ·refine ⟨H',hJ.lst hp',?_⟩
       have e:fD z = (z.cps.toList.map fL).all id:=by
        rw [Eb]
        simp [fD,h1',h2',h3']
       rw [← e]
       exact q
    ·have e:fD z = false:=by
      have h4:z = "sea":=by
       apply Dp
       intro h5
       exact h3 (by simp [h5])
      subst h4
      simp [fD]
     rw [e] at q
     exact cP.of (.refl _) q
  ·have e:fD z = false:=by
    have h1':¬ 1 ≤ z.length:=by
     intro h3
     exact h1 (decide_eq_true (by omega))
    simp [fD,h1']
   rw [e] at q
   exact ⟨_,rfl,cP.of (.refl _) q⟩
 | non=>exact cP.of (.refl _) q
 | bl b=>exact cP.of (.refl _) q
 | int i=>exact cP.of (.refl _) q
 | lst a=>exact cP.of (.refl _) q
 | tup a=>exact cP.of (.refl _) q
 | dct a b=>exact cP.of (.refl _) q
def jK:Sp:=sp1 fun x H Q=>∃ d,Is H d x ∧ Q (.bl (fY d)) H
theorem dR (T:Txt K mg C):Fc P w K mg base 2 "is_height" ["thing"] jK:=by
 have G_p_is_whole:Fc P w K mg base 1 "is_whole" ["thing"] zQ:=pB T
 refine T.d_p_is_height.fc uT oV (fun f cdv A outer s H vs Q E hr h=>?_)
 obtain ⟨x,rfl,d,hd,q⟩:=h
 refine ⟨_,(@aH _ _ _ (@aQ _ _ _ _ (@cZ _ _ _ _ _ _ _ (@bF _ _ _ _ _ _ _ _ _ _ G_p_is_whole (hr.mono (by decide)) (@aA _ _ _ _ _ (pv 0) aE (by rfl)) (by rfl) (by decide) (by rfl) (by rfl)) (@eO _ _ _ _ _ (@vI _ _ _ _ _ _ _ _ _ _ _ _ qH qH (@aPM _ _ _ _ _ _ aJG (@tO _ _ _ _ T.g_MOST_HEIGHT (by rfl) (by decide))) (pv 0) (@tO _ _ _ _ T.g_MOST_HEIGHT (by rfl) (by decide)) (by with_unfolding_all rfl)))))),?_⟩
 refine ⟨_,rfl,_,rfl,d,hd,_,rfl,?_⟩
 cases d with
 | int i =>
  cases (show x = .int i from hd)
  refine dL ?_
  have q:Q (.bl (decide (-1000000 ≤ i) && decide (i ≤ 1000000))) H:=q
  refine ⟨_,rfl,_,rfl,_,_,rfl,rfl,_,rfl,?_⟩
  refine jY (fun h1=>?_) (fun h1=>?_)
  ·refine ⟨_,_,rfl,rfl,?_⟩
   rw [decide_eq_true (show -1000000 ≤ i from of_decide_eq_true h1),BX] at q
   exact q
  ·rw [show decide (-1000000 ≤ i) = false from by simpa using h1,Ev] at q
   exact q
 | _=>exact bO q
def uP:Sp:=sp1 fun x H Q=>∃ d,Is H d x ∧ Q (.bl (lF d)) H
theorem nJ (T:Txt K mg C):Fc P w K mg base 2 "is_amount" ["thing"] uP:=by
 have G_p_is_whole:Fc P w K mg base 1 "is_whole" ["thing"] zQ:=pB T
 refine T.d_p_is_amount.fc uU oV (fun f cdv A outer s H vs Q E hr h=>?_)
 obtain ⟨x,rfl,d,hd,q⟩:=h
 refine ⟨_,(@aH _ _ _ (@aQ _ _ _ _ (@cZ _ _ _ _ _ _ _ (@bF _ _ _ _ _ _ _ _ _ _ G_p_is_whole (hr.mono (by decide)) (@aA _ _ _ _ _ (pv 0) aE (by rfl)) (by rfl) (by decide) (by rfl) (by rfl)) (@eO _ _ _ _ _ (@vI _ _ _ _ _ _ _ _ _ _ _ _ qH qH aF (pv 0) (@tO _ _ _ _ T.g_MOST_AMOUNT (by rfl) (by decide)) (by with_unfolding_all rfl)))))),?_⟩
 refine ⟨_,rfl,_,rfl,d,hd,_,rfl,?_⟩
 cases d with
 | int i =>
  cases (show x = .int i from hd)
  refine dL ?_
  have q:Q (.bl (decide (0 ≤ i) && decide (i ≤ 1000000))) H:=q
  refine ⟨_,rfl,_,_,rfl,rfl,_,rfl,?_⟩
  refine jY (fun h1=>?_) (fun h1=>?_)
  ·refine ⟨_,_,rfl,rfl,?_⟩
   rw [decide_eq_true (show 0 ≤ i from of_decide_eq_true h1),BX] at q
   exact q
  ·rw [show decide (0 ≤ i) = false from by simpa using h1,Ev] at q
   exact q
 | _=>exact bO q
def uB (K:AG):Sp:=sp2 fun x y H Q=>∃ (d:Dv) (p:Addr) (zs:List Str),Is H d x ∧ y = .ref p ∧ SqL K H p (zs.map V.str) ∧ Q (.bl (qJ zs d)) H
theorem mG (z:Str) (zs:List Str):inV (.str z) (zs.map V.str) = decide (z ∈ zs):=by
 unfold inV
 rw [Bp,EW,decide_eq_true_iff]
 constructor
 ·rintro ⟨y,hy,e⟩
  obtain ⟨u,hu,rfl⟩:=AT.mp hy
  have e':(u == z) = true:=e
  rw [← beq_iff_eq.mp e']
  exact hu
 ·intro h
  exact ⟨_,AT.mpr ⟨z,h,rfl⟩,beq_self_eq_true z⟩
theorem iF (zs:List Str):(zs.map V.str).all qU = true:=by
 rw [BS]
 intro y hy
 obtain ⟨u,_,rfl⟩:=AT.mp hy
 rfl
theorem jV (T:Txt K mg C):Fc P w K mg base 1 "is_one_of" ["thing","names"] (uB K):=by
 refine T.d_p_is_one_of.fc uS kM (fun f cdv A outer s H vs Q E hr h=>?_)
 obtain ⟨x,y,rfl,d,p,zs,hd,rfl,hp,q⟩:=h
 obtain ⟨t,ty,e1,e2,e3,_⟩:=sJ K hd
 refine ⟨_,(@aH _ _ _ (@aQ _ _ _ _ (@cZ _ _ _ _ _ _ _ (@aV _ _ _ _ _ _ _ _ _ (@dI _ (K) rfl) rfl T.n_isinstance cH (@aA _ _ _ _ _ (pv 0) (@aA _ _ _ _ _ (@sS _ _ _ _ T.n_str zH (by rfl) (by decide) (by decide)) aE (by rfl)) (by rfl)) (by decide) (by decide) (by rfl) (by rfl)) (@eO _ _ _ _ _ (@dG _ _ _ _ _ _ _ _ (@jU _ (K) rfl) (pv 0) (pv 1) (by with_unfolding_all rfl)))))),?_⟩
 refine ⟨_,rfl,_,_,_,t,_,rfl,rfl,ty,e3,_,rfl,?_⟩
 cases d with
 | str z =>
  cases (show x = .str z from hd)
  refine dL ⟨_,rfl,_,rfl,p,_,rfl,.inl hp,rfl,iF zs,?_⟩
  show Q (.bl (inV (.str z) (zs.map V.str))) H
  rw [mG]
  exact q
 | _=>exact bO q
def pZ:Sp:=sp2 fun x y H Q=>∃ (d:Dv) (n:Int),Is H d x ∧ y = .int n ∧ Q (.bl (aLI n d)) H
theorem jA (T:Txt K mg C):Fc P w K mg base 1 "is_list_of" ["thing","most"] pZ:=by
 refine T.d_p_is_list_of.fc tJ kM (fun f cdv A outer s H vs Q E hr h=>?_)
 obtain ⟨x,y,rfl,d,n,hd,rfl,q⟩:=h
 obtain ⟨t,ty,e1,e2,e3,e4,_⟩:=sJ K hd
 refine ⟨_,(@aH _ _ _ (@aQ _ _ _ _ (@cZ _ _ _ _ _ _ _ (@aV _ _ _ _ _ _ _ _ _ (@dI _ (K) rfl) rfl T.n_isinstance cH (@aA _ _ _ _ _ (pv 0) (@aA _ _ _ _ _ (@sS _ _ _ _ T.n_list cM (by rfl) (by decide) (by decide)) aE (by rfl)) (by rfl)) (by decide) (by decide) (by rfl) (by rfl)) (@eO _ _ _ _ _ (@vI _ _ _ _ _ _ _ _ _ _ _ _ qH qH aF (@aV _ _ _ _ _ _ _ _ _ (@bE _ (K) rfl) rfl T.n_len bN (@aA _ _ _ _ _ (pv 0) aE (by rfl)) (by decide) (by decide) (by rfl) (by rfl)) (pv 1) (by with_unfolding_all rfl)))))),?_⟩
 refine ⟨_,rfl,_,_,_,t,_,rfl,rfl,ty,e4,_,rfl,?_⟩
 cases d with
 | lst ds =>
  obtain ⟨a,vs,rfl,o,hl⟩:=hd
  have hlen:=hl.length
  have q:Q (.bl (decide (1 ≤ ds.length) && decide ((ds.length:Int) ≤ n))) H:=q
  refine dL ⟨_,rfl,a,vs,rfl,.inl (SqL.of o),_,_,rfl,rfl,_,rfl,?_⟩
  rw [hlen]
  refine jY (fun h1=>?_) (fun h1=>?_)
  ·refine ⟨_,rfl,_,_,rfl,rfl,?_⟩
   have h1':1 ≤ ds.length:=by have:=of_decide_eq_true h1;omega
   rw [decide_eq_true h1',BX] at q
   exact q
  ·have h1':¬ 1 ≤ ds.length:=fun c=>h1 (decide_eq_true (by omega))
   rw [decide_eq_false h1',Ev] at q
   exact q
 | _=>exact bO q
def tZ:Sp:=sp2 fun x y H Q=>∃ (d:Dv) (n:Int),Is H d x ∧ y = .int n ∧ Q (.bl (aFX n d)) H
theorem iC (T:Txt K mg C):Fc P w K mg base 1 "is_tuple_of" ["thing","length"] tZ:=by
 refine T.d_p_is_tuple_of.fc rE kM (fun f cdv A outer s H vs Q E hr h=>?_)
 obtain ⟨x,y,rfl,d,n,hd,rfl,q⟩:=h
 obtain ⟨t,ty,e1,e2,e3,e4,e5⟩:=sJ K hd
 refine ⟨_,(@aH _ _ _ (@aQ _ _ _ _ (@cZ _ _ _ _ _ _ _ (@aV _ _ _ _ _ _ _ _ _ (@dI _ (K) rfl) rfl T.n_isinstance cH (@aA _ _ _ _ _ (pv 0) (@aA _ _ _ _ _ (@sS _ _ _ _ T.n_tuple fF (by rfl) (by decide) (by decide)) aE (by rfl)) (by rfl)) (by decide) (by decide) (by rfl) (by rfl)) (@eO _ _ _ _ _ (@dG _ _ _ _ _ _ _ _ qI (@aV _ _ _ _ _ _ _ _ _ (@bE _ (K) rfl) rfl T.n_len bN (@aA _ _ _ _ _ (pv 0) aE (by rfl)) (by decide) (by decide) (by rfl) (by rfl)) (pv 1) (@bQ _ _ (by decide) (by decide))))))),?_⟩
 refine ⟨_,rfl,_,_,_,t,_,rfl,rfl,ty,e5,_,rfl,?_⟩
 cases d with
 | tup ds =>
  obtain ⟨a,vs,rfl,o,hl⟩:=hd
  have hlen:=hl.length
  have q:Q (.bl (decide ((ds.length:Int) = n))) H:=q
  refine dL ⟨_,rfl,a,vs,rfl,.inr (SqT.of o),_,rfl,rfl,?_⟩
  rw [hlen]
  have e:decide (V.int (ds.length:Int) = V.int n) = decide ((ds.length:Int) = n):=by rw [mI,Bp];simp
  rw [e]
  exact q
 | _=>exact bO q
def tY:Sp:=sp1 fun x H Q=>∃ (p:Addr) (vs:List V) (ds:List Dv) (zs:List Str),x = .ref p ∧ H p = some (.lst vs) ∧ IsL H ds vs ∧ ds.map cI = zs.map some ∧ zs.length ≤ 1000 ∧ Q (.bl (decide zs.Nodup)) H
theorem aIM {H:Hp} {d:Dv} {v:V} {z:Str} (h:Is H d v) (e:cI d = some z):∃ a r,v = .ref a ∧ H a = some (.tup (.str z :: r)):=by
 cases d with
 | tup ds =>
  cases ds with
  | nil=>cases e
  | cons d0 ds =>
   cases d0 with
   | str y =>
    cases e
    obtain ⟨a,vs,rfl,o,v0,r,rfl,h0,_⟩:=h
    cases (show v0 = .str z from h0)
    exact ⟨a,r,rfl,o⟩
   | _=>cases e
 | _=>cases e
theorem iD (zs:List Str):(zs.map (Sum.inr:Str → Key)).Nodup ↔ zs.Nodup:=by
 induction zs with
 | nil=>simp
 | cons z zs ih =>
  rw [Ac,Aq,Aq,ih]
  simp
theorem aGT (zs:List Str):(zs.map (Sum.inr:Str → Key)).map kV = zs.map V.str:=by
 rw [At];rfl
theorem iZ (T:Txt K mg C):Fc P w K mg base 1 "none_twice" ["rows"] tY:=by
 refine T.d_p_none_twice.fcD tI oV (fun f cdv A outer s H vs Q E hr h=>?_)
 obtain ⟨x,rfl,p,us,ds,zs,rfl,hp,hi,hz,hn,q⟩:=h
 have big:=bP
 have l1:=hi.length
 have l2:ds.length = zs.length:=by have:=congrArg CI hz;simpa using this
 refine ⟨_,(@aH _ _ _ (@aQ _ _ _ _ (@dG _ _ _ _ _ _ _ _ qI (@aV _ _ _ _ _ _ _ _ _ call_len_set rfl T.n_len bN (@aA _ _ _ _ _ (@bH _ _ _ _ _ _ _ _ _ (@pF _ rfl) rfl T.n_set sI (@aA _ _ _ _ _ (@cB _ _ _ _ _ _ _ _ _ _ _ ["row"] 1 [] rfl (@bT _ _ _ _ (pv 0)) (fun R=>@aU _ _ (0) _ (show Au (["row"]:List Str) by decide +kernel) rfl (Or.inl rfl) (by trivial)) (@aX _ _ (by decide)) (fun R=>cF) (fun R=>(@bD _ _ _ _ _ _ _ (@aS _ (K) rfl) (pv 0) aF (fun _ _=>rfl))) (by rfl) (by rfl) (by rfl) (by rfl) (by rfl) (by rfl) (by rfl) (by intro _;rfl)) aE (by rfl)) (by decide) (by decide) (by rfl) (by rfl)) aE (by rfl)) (by decide) (by decide) (by rfl) (by rfl)) (@aV _ _ _ _ _ _ _ _ _ (@bE _ (K) rfl) rfl T.n_len bN (@aA _ _ _ _ _ (pv 0) aE (by rfl)) (by decide) (by decide) (by rfl) (by rfl)) (@bQ _ _ (by decide) (by decide))))),?_⟩
 refine ⟨_,rfl,p,rfl,⟨_,SqL.of hp⟩,?_⟩
 refine bI (F:=K) (xs:=us) (by omega) (fun i ys H'=>H' = H ∧ ys = (zs.take i).map V.str) ⟨rfl,rfl⟩ ?_ ?_ ?_
 ·rintro i ys H' hi' ⟨rfl,rfl⟩
  exact ⟨SqL.of hp,by rw [AA,AZ];omega⟩
 ·rintro i x ys H' K1 K2 hx ⟨rfl,rfl⟩ k1 k2
  have hil:i < us.length:=(AE.mp hx).1
  obtain ⟨d,ed⟩:∃ d,ds[i]? = some d:=⟨_,AD (by omega)⟩
  obtain ⟨z,ez⟩:∃ z,zs[i]? = some z:=⟨_,AD (by omega)⟩
  obtain ⟨v,ev,iv⟩:=hi.get ed
  rw [hx] at ev
  cases ev
  have ef:cI d = some z:=by
   have:=congrArg (fun l=>l[i]?) hz
   simpa [ed,ez] using this
  obtain ⟨a,r,rfl,o⟩:=aIM iv ef
  refine ⟨_,rfl,a,_,0,.str z,rfl,rfl,SqT.of o,aP (j:=0) rfl,k1 _ _ ⟨rfl,?_⟩⟩
  rw [Ai,ez]
  simp
 ·rintro ys H' ⟨rfl,rfl⟩
  intro p1 hp1
  have hys:(zs.take us.length).map V.str = (zs.map (Sum.inr:Str → Key)).map kV:=by
   rw [AI (by omega),aGT]
  refine ⟨p1,zs.map Sum.inr,rfl,SqL.of (by rw [aD,hys]),by rw [AA];exact hn,fun p2 hp2=>?_⟩
  have hle:=aBF (zs.map (Sum.inr:Str → Key))
  rw [AA] at hle
  have np:p ≠ p1:=aT hp hp1
  have np2:p ≠ p2:=aT (show upd H' p1 _ p = _ from (aK np).trans hp) hp2
  refine ⟨p2,_,_,rfl,aD,by omega,_,rfl,p,us,rfl,.inl (SqL.of (by rw [aK np2,aK np];exact hp)),rfl,?_⟩
  have e:decide (V.int ((lL (zs.map (Sum.inr:Str → Key))).length:Int) = V.int (us.length:Int)) = decide zs.Nodup:=by
   rw [mI,Bp,decide_eq_true_iff,← iD,← zB,AA,beq_iff_eq]
   omega
  rw [e]
  exact cP.of ((hJ.new hp2 rfl).trans (hJ.lst hp1)) q
def aGF:Sp:=sp1 fun x H Q=>∃ d,Is H d x ∧ small d = true ∧ Q (.bl (bY d)) H
theorem xH (T:Txt K mg C):Fc P w K mg base 3 "is_field" ["thing"] aGF:=by
 have G_p_is_tuple_of:Fc P w K mg base 1 "is_tuple_of" ["thing","length"] tZ:=iC T
 have G_p_is_name:Fc P w K mg base 1 "is_name" ["thing"] aEF:=qL T
 have G_p_is_height:Fc P w K mg base 2 "is_height" ["thing"] jK:=dR T
 have G_p_is_amount:Fc P w K mg base 2 "is_amount" ["thing"] uP:=nJ T
 refine T.d_p_is_field.fc xD oV (fun f cdv A outer s H vs Q E hr h=>?_)
 obtain ⟨x,rfl,d,hd,hs,q⟩:=h
 refine ⟨_,(@aG _ _ _ _ _ (@fB _ _ _ _ _ _ _ _ (@eN _ _ _ _ (@dQ _ _ _ (@bF _ _ _ _ _ _ _ _ _ _ G_p_is_tuple_of (hr.mono (by decide)) (@aA _ _ _ _ _ (pv 0) (@aA _ _ _ _ _ aF aE (by rfl)) (by rfl)) (by rfl) (by decide) (by rfl) (by rfl)) (by intro _;rfl))) (@aH _ _ _ (@aQ _ _ _ _ oZ)) cE) (@aH _ _ _ (@aQ _ _ _ _ (@cZ _ _ _ _ _ _ _ (@bF _ _ _ _ _ _ _ _ _ _ G_p_is_name (hr.mono (by decide)) (@aA _ _ _ _ _ (@bD _ _ _ _ _ _ _ (@aS _ (K) rfl) (pv 0) aF (fun _ _=>rfl)) aE (by rfl)) (by rfl) (by decide) (by rfl) (by rfl)) (@cZ _ _ _ _ _ _ _ (@bF _ _ _ _ _ _ _ _ _ _ G_p_is_height (hr.mono (by decide)) (@aA _ _ _ _ _ (@bD _ _ _ _ _ _ _ (@aS _ (K) rfl) (pv 0) aF (fun _ _=>rfl)) aE (by rfl)) (by rfl) (by decide) (by rfl) (by rfl)) (@eO _ _ _ _ _ (@bF _ _ _ _ _ _ _ _ _ _ G_p_is_amount (hr.mono (by decide)) (@aA _ _ _ _ _ (@bD _ _ _ _ _ _ _ (@aS _ (K) rfl) (pv 0) aF (fun _ _=>rfl)) aE (by rfl)) (by rfl) (by decide) (by rfl) (by rfl)))))))),?_⟩
 refine ⟨_,rfl,_,_,rfl,d,3,hd,rfl,_,rfl,?_⟩
 by_cases h3:∃ a b c,d = .tup [a,b,c]
 ·obtain ⟨a,b,c,rfl⟩:=h3
  obtain ⟨t,us,rfl,o,va,r1,rfl,ha,vb,r2,rfl,hb,vc,r3,rfl,hc,h0⟩:=hd
  cases (show r3 = [] from h0)
  have sa:small a = true:=by
   exact jL (xZ hs) AY
  have q:Q (.bl (pT a && (fY b && lF c))) H:=q
  refine bO ⟨_,rfl,t,_,0,va,rfl,rfl,SqT.of o,aP (j:=0) rfl,_,rfl,a,ha,sa,_,rfl,?_⟩
  cases ea:pT a with
  | false=>rw [ea] at q;exact bO q
  | true =>
   rw [ea,BX] at q
   refine dL ⟨_,rfl,t,_,1,vb,rfl,rfl,SqT.of o,aP (j:=1) rfl,_,rfl,b,hb,_,rfl,?_⟩
   cases eb:fY b with
   | false=>rw [eb] at q;exact bO q
   | true =>
    rw [eb,BX] at q
    exact dL ⟨_,rfl,t,_,2,vc,rfl,rfl,SqT.of o,aP (j:=2) rfl,_,rfl,c,hc,q⟩
 ·have e1:bY d = false:=by
   unfold bY
   split
   ·rename_i a b c
    exact absurd ⟨a,b,c,rfl⟩ h3
   ·rfl
  have e2:aFX 3 d = false:=by
   cases d with
   | tup ds =>
    refine decide_eq_false (fun e=>?_)
    have e':ds.length = 3:=by omega
    match ds,e',h3 with
    | [a,b,c],_,h3=>exact h3 ⟨a,b,c,rfl⟩
   | _=>rfl
  dsimp only
  rw [e2]
  rw [e1] at q
  exact dL q
theorem oR {p:Dv → Bool} (hp:∀ d,p d = true → ∃ z,cI d = some z):∀ {ds:List Dv},ds.all p = true → ∃ zs:List Str,ds.map cI = zs.map some
 | [],_=>⟨[],rfl⟩
 | d :: ds,h=>by
  rw [EH,Ae] at h
  obtain ⟨z,e⟩:=hp d h.1
  obtain ⟨zs,e2⟩:=oR hp h.2
  exact ⟨z :: zs,by rw [Ac,Ac,e,e2]⟩
theorem xN (d:Dv) (h:bY d = true):∃ z,cI d = some z:=by
 unfold bY at h
 split at h
 ·rename_i a b c
  rw [Ae] at h
  cases a with
  | str z=>exact ⟨z,rfl⟩
  | _=>cases h.1
 ·cases h
def aCA:Sp:=sp1 fun x H Q=>∃ d,Is H d x ∧ small d = true ∧ Q (.bl (lN d)) H
theorem tQ (T:Txt K mg C):Fc P w K mg base 4 "are_fields" ["thing"] aCA:=by
 have G_p_is_list_of:Fc P w K mg base 1 "is_list_of" ["thing","most"] pZ:=jA T
 have G_p_is_field:Fc P w K mg base 3 "is_field" ["thing"] aGF:=xH T
 have G_p_none_twice:Fc P w K mg base 1 "none_twice" ["rows"] tY:=iZ T
 refine T.d_p_are_fields.fcD tM oV (fun f cdv A outer s H vs Q E hr h=>?_)
 obtain ⟨x,rfl,d,hd,hs,q⟩:=h
 have big:=bP
 refine ⟨_,(@aH _ _ _ (@aQ _ _ _ _ (@cZ _ _ _ _ _ _ _ (@bF _ _ _ _ _ _ _ _ _ _ G_p_is_list_of (hr.mono (by decide)) (@aA _ _ _ _ _ (pv 0) (@aA _ _ _ _ _ (@tO _ _ _ _ T.g_MOST_FIELDS (by rfl) (by decide)) aE (by rfl)) (by rfl)) (by rfl) (by decide) (by rfl) (by rfl)) (@cZ _ _ _ _ _ _ _ (@aV _ _ _ _ _ _ _ _ _ (@oA _ rfl) rfl T.n_all lM (@aA _ _ _ _ _ (@cB _ _ _ _ _ _ _ _ _ _ _ ["row"] 1 [] rfl (@bT _ _ _ _ (pv 0)) (fun R=>@aU _ _ (0) _ (show Au (["row"]:List Str) by decide +kernel) rfl (Or.inl rfl) (by trivial)) (@aX _ _ (by decide)) (fun R=>cF) (fun R=>(@bF _ _ _ _ _ _ _ _ _ _ G_p_is_field (hr.mono (by decide)) (@aA _ _ _ _ _ (pv 0) aE (by rfl)) (by rfl) (by decide) (by rfl) (by rfl))) (by rfl) (by rfl) (by rfl) (by rfl) (by rfl) (by rfl) (by rfl) (by intro _;rfl)) aE (by rfl)) (by decide) (by decide) (by rfl) (by rfl)) (@eO _ _ _ _ _ (@bF _ _ _ _ _ _ _ _ _ _ G_p_none_twice (hr.mono (by decide)) (@aA _ _ _ _ _ (pv 0) aE (by rfl)) (by rfl) (by decide) (by rfl) (by rfl))))))),?_⟩
 refine ⟨_,rfl,_,_,rfl,d,12,hd,rfl,_,rfl,?_⟩
 cases d with
 | lst ds =>
  obtain ⟨p,us,rfl,o,hi⟩:=hd
  have l1:=hi.length
  have hs':=BF.mp (show (decide (ds.length ≤ 1000) && hV ds) = true from hs)
  have l2:ds.length ≤ 1000:=of_decide_eq_true hs'.1
  have q:Q (.bl ((decide (1 ≤ ds.length) && decide (ds.length ≤ 12)) && (ds.all bY && decide ((ds.map cI).Nodup)))) H:=q
  have e0:(decide (1 ≤ ds.length) && decide ((ds.length:Int) ≤ 12)) = (decide (1 ≤ ds.length) && decide (ds.length ≤ 12)):=by
   congr 1
   rw [Bp,decide_eq_true_iff,decide_eq_true_iff]
   omega
  show if (decide (1 ≤ ds.length) && decide ((ds.length:Int) ≤ 12)) = true then _ else _
  rw [e0]
  refine jY (fun h1=>?_) (fun h1=>?_)
  ·rw [h1,BX] at q
   refine ⟨_,rfl,p,rfl,⟨_,SqL.of o⟩,?_⟩
   refine bI (F:=K) (xs:=us) (by omega) (fun i ys H'=>H' = H ∧ ys = (ds.take i).map fun d=>V.bl (bY d)) ⟨rfl,rfl⟩ ?_ ?_ ?_
   ·rintro i ys H' hi' ⟨rfl,rfl⟩
    exact ⟨SqL.of o,by rw [AA,AZ];omega⟩
   ·rintro i x ys H' K1 K2 hx ⟨rfl,rfl⟩ k1 k2
    have hil:i < us.length:=(AE.mp hx).1
    obtain ⟨d,ed⟩:∃ d,ds[i]? = some d:=⟨_,AD (by omega)⟩
    obtain ⟨v,ev,iv⟩:=hi.get ed
    rw [hx] at ev
    cases ev
    refine ⟨_,rfl,_,rfl,d,iv,jL hs'.2 (AS ed),k1 _ _ ⟨rfl,?_⟩⟩
    rw [Ai,ed]
    simp
   ·rintro ys H' ⟨rfl,rfl⟩
    intro p1 hp1
    have np:p ≠ p1:=aT o hp1
    refine ⟨p1,ds.map bY,rfl,SqL.of ?_,_,rfl,?_⟩
    ·rw [aD,AI (by omega),At]
     rfl
    have e1:(ds.map bY).all id = ds.all bY:=by rw [Eb];rfl
    rw [e1]
    refine jY (fun h2=>?_) (fun h2=>?_)
    ·rw [h2,BX] at q
     obtain ⟨zs,ez⟩:=oR xN h2
     have l3:zs.length = ds.length:=by have:=congrArg CI ez;simpa using this.symm
     refine ⟨_,rfl,_,rfl,p,us,ds,zs,rfl,by rw [aK np];exact o,IsL.same (aI.upd hp1) _ _ hi,ez,by omega,?_⟩
     have e2:decide zs.Nodup = decide (ds.map cI).Nodup:=by rw [ez,Bp,decide_eq_true_iff,decide_eq_true_iff,dX]
     rw [e2]
     exact cP.of (hJ.lst hp1) q
    ·have h2':ds.all bY = false:=by simpa using h2
     rw [h2'] at q
     exact cP.of (hJ.lst hp1) q
  ·have h1':(decide (1 ≤ ds.length) && decide (ds.length ≤ 12)) = false:=by simpa using h1
   rw [h1'] at q
   exact cP.of (.refl _) q
 | _=>exact bO (cP.of (.refl _) q)
def aGC (K:AG):Sp:=sp3 fun x y u H Q=>∃ (a b:Dv) (p:Addr) (zs:List Str),Is H a x ∧ Is H b y ∧ u = .ref p ∧ SqL K H p (zs.map V.str) ∧ Q (.bl (oE zs a b)) H
theorem vO (T:Txt K mg C):Fc P w K mg base 2 "are_sides" ["one","other","sides"] (aGC K):=by
 have G_p_is_one_of:Fc P w K mg base 1 "is_one_of" ["thing","names"] (uB K):=jV T
 refine T.d_p_are_sides.fc uX qP (fun f cdv A outer s H vs Q E hr h=>?_)
 obtain ⟨x,y,u,rfl,a,b,p,zs,ha,hb,rfl,hp,q⟩:=h
 refine ⟨_,(@aH _ _ _ (@aQ _ _ _ _ (@cZ _ _ _ _ _ _ _ (@bF _ _ _ _ _ _ _ _ _ _ G_p_is_one_of (hr.mono (by decide)) (@aA _ _ _ _ _ (pv 0) (@aA _ _ _ _ _ (pv 2) aE (by rfl)) (by rfl)) (by rfl) (by decide) (by rfl) (by rfl)) (@cZ _ _ _ _ _ _ _ (@bF _ _ _ _ _ _ _ _ _ _ G_p_is_one_of (hr.mono (by decide)) (@aA _ _ _ _ _ (pv 1) (@aA _ _ _ _ _ (pv 2) aE (by rfl)) (by rfl)) (by rfl) (by decide) (by rfl) (by rfl)) (@eO _ _ _ _ _ (@dG _ _ _ _ _ _ _ _ aCQ (pv 0) (pv 1) (@bQ _ _ (by decide) (by decide)))))))),?_⟩
 have q:Q (.bl (qJ zs a && (qJ zs b && !deq a b))) H:=q
 refine ⟨_,rfl,_,rfl,_,_,rfl,a,p,zs,ha,rfl,hp,_,rfl,?_⟩
 cases ea:qJ zs a with
 | false=>rw [ea] at q;exact bO q
 | true =>
  rw [ea,BX] at q
  refine dL ⟨_,rfl,_,rfl,_,_,rfl,b,p,zs,hb,rfl,hp,_,rfl,?_⟩
  cases eb:qJ zs b with
  | false=>rw [eb] at q;exact bO q
  | true =>
   rw [eb,BX] at q
   cases a with
   | str z =>
    cases b with
    | str z' =>
     cases (show x = .str z from ha)
     cases (show y = .str z' from hb)
     refine dL ⟨_,rfl,_,rfl,rfl,?_⟩
     have e:(!decide (V.str z = V.str z')) = !deq (.str z) (.str z'):=by rw [qW];rfl
     rw [e]
     exact q
    | _=>cases eb
   | _=>cases ea
def aJQ:Sp:=sp2 fun x y H Q=>∃ (d:Dv) (j:Int),Is H d x ∧ y = .int j ∧ Q (.bl (mF (.int j) d)) H
theorem aAQ (T:Txt K mg C):Fc P w K mg base 3 "is_sill" ["thing","crown"] aJQ:=by
 have G_p_is_height:Fc P w K mg base 2 "is_height" ["thing"] jK:=dR T
 refine T.d_p_is_sill.fc aAF kM (fun f cdv A outer s H vs Q E hr h=>?_)
 obtain ⟨x,y,rfl,d,j,hd,rfl,q⟩:=h
 refine ⟨_,(@aH _ _ _ (@aQ _ _ _ _ (@aPN _ _ _ _ _ _ _ (@dG _ _ _ _ _ _ _ _ aQK (pv 0) aAM (@bQ _ _ (by decide) (by decide))) (@eO _ _ _ _ _ (@cZ _ _ _ _ _ _ _ (@bF _ _ _ _ _ _ _ _ _ _ G_p_is_height (hr.mono (by decide)) (@aA _ _ _ _ _ (pv 0) aE (by rfl)) (by rfl) (by decide) (by rfl) (by rfl)) (@eO _ _ _ _ _ (@dG _ _ _ _ _ _ _ _ vK (pv 0) (pv 1) (@bQ _ _ (by decide) (by decide))))))))),?_⟩
 refine ⟨_,rfl,rfl,_,rfl,?_⟩
 cases d with
 | non =>
  cases (show x = .non from hd)
  rw [decide_eq_true rfl]
  exact dL q
 | int i =>
  cases (show x = .int i from hd)
  rw [decide_eq_false (show ¬ V.int i = V.non by intro z;cases z)]
  refine bO ⟨_,rfl,_,rfl,.int i,rfl,_,rfl,?_⟩
  have q:Q (.bl (hgt i && decide (i < j))) H:=q
  show if hgt i = true then _ else _
  cases e:hgt i with
  | false=>rw [e] at q;exact bO q
  | true=>rw [e,BX] at q;exact dL ⟨_,rfl,_,rfl,_,_,rfl,rfl,q⟩
 | bl b =>
  cases (show x = .bl b from hd)
  rw [decide_eq_false (show ¬ V.bl b = V.non by intro z;cases z)]
  exact bO ⟨_,rfl,_,rfl,.bl b,rfl,_,rfl,bO q⟩
 | str b =>
  cases (show x = .str b from hd)
  rw [decide_eq_false (show ¬ V.str b = V.non by intro z;cases z)]
  exact bO ⟨_,rfl,_,rfl,.str b,rfl,_,rfl,bO q⟩
 | lst b =>
  obtain ⟨a,us,rfl,o⟩:=id hd
  rw [decide_eq_false (show ¬ V.ref a = V.non by intro z;cases z)]
  exact bO ⟨_,rfl,_,rfl,.lst b,hd,_,rfl,bO q⟩
 | tup b =>
  obtain ⟨a,us,rfl,o⟩:=id hd
  rw [decide_eq_false (show ¬ V.ref a = V.non by intro z;cases z)]
  exact bO ⟨_,rfl,_,rfl,.tup b,hd,_,rfl,bO q⟩
 | dct b c =>
  obtain ⟨a,us,rfl,o⟩:=id hd
  rw [decide_eq_false (show ¬ V.ref a = V.non by intro z;cases z)]
  exact bO ⟨_,rfl,_,rfl,.dct b c,hd,_,rfl,bO q⟩
def aJW (K:AG):Sp:=sp2 fun x y H Q=>∃ (d:Dv) (p:Addr) (zs:List Str),Is H d x ∧ small d = true ∧ y = .ref p ∧ SqL K H p (zs.map V.str) ∧ Q (.bl (cL zs d)) H
theorem aAR (T:Txt K mg C):Fc P w K mg base 4 "is_dyke" ["thing","sides"] (aJW K):=by
 have G_p_is_tuple_of:Fc P w K mg base 1 "is_tuple_of" ["thing","length"] tZ:=iC T
 have G_p_is_name:Fc P w K mg base 1 "is_name" ["thing"] aEF:=qL T
 have G_p_are_sides:Fc P w K mg base 2 "are_sides" ["one","other","sides"] (aGC K):=vO T
 have G_p_is_height:Fc P w K mg base 2 "is_height" ["thing"] jK:=dR T
 have G_p_is_amount:Fc P w K mg base 2 "is_amount" ["thing"] uP:=nJ T
 have G_p_is_sill:Fc P w K mg base 3 "is_sill" ["thing","crown"] aJQ:=aAQ T
 refine T.d_p_is_dyke.fc aAH kM (fun f cdv A outer s H vs Q E hr h=>?_)
 obtain ⟨x,y,rfl,d,p,zs,hd,hs,rfl,hp,q⟩:=h
 refine ⟨_,(@aG _ _ _ _ _ (@fB _ _ _ _ _ _ _ _ (@PW.pt _ _ _ (@vD _ _ _ _ _ _ _ (@eN _ _ _ _ (@dQ _ _ _ (@bF _ _ _ _ _ _ _ _ _ _ G_p_is_tuple_of (hr.mono (by decide)) (@aA _ _ _ _ _ (pv 0) (@aA _ _ _ _ _ aF aE (by rfl)) (by rfl)) (by rfl) (by decide) (by rfl) (by rfl)) (by intro _;rfl))) (@vD _ _ _ _ _ _ _ (@eN _ _ _ _ (@dQ _ _ _ (@bF _ _ _ _ _ _ _ _ _ _ G_p_is_name (hr.mono (by decide)) (@aA _ _ _ _ _ (@bD _ _ _ _ _ _ _ (@aS _ (K) rfl) (pv 0) aF (fun _ _=>rfl)) aE (by rfl)) (by rfl) (by decide) (by rfl) (by rfl)) (by intro _;rfl))) (@rK _ _ _ _ (@eN _ _ _ _ (@dQ _ _ _ (@bF _ _ _ _ _ _ _ _ _ _ G_p_are_sides (hr.mono (by decide)) (@aA _ _ _ _ _ (@bD _ _ _ _ _ _ _ (@aS _ (K) rfl) (pv 0) aF (fun _ _=>rfl)) (@aA _ _ _ _ _ (@bD _ _ _ _ _ _ _ (@aS _ (K) rfl) (pv 0) aF (fun _ _=>rfl)) (@aA _ _ _ _ _ (pv 1) aE (by rfl)) (by rfl)) (by rfl)) (by rfl) (by decide) (by rfl) (by rfl)) (by intro _;rfl))))))) (@aH _ _ _ (@aQ _ _ _ _ oZ)) cE) (@aH _ _ _ (@aQ _ _ _ _ (@cZ _ _ _ _ _ _ _ (@bF _ _ _ _ _ _ _ _ _ _ G_p_is_height (hr.mono (by decide)) (@aA _ _ _ _ _ (@bD _ _ _ _ _ _ _ (@aS _ (K) rfl) (pv 0) aF (fun _ _=>rfl)) aE (by rfl)) (by rfl) (by decide) (by rfl) (by rfl)) (@cZ _ _ _ _ _ _ _ (@bF _ _ _ _ _ _ _ _ _ _ G_p_is_amount (hr.mono (by decide)) (@aA _ _ _ _ _ (@bD _ _ _ _ _ _ _ (@aS _ (K) rfl) (pv 0) aF (fun _ _=>rfl)) aE (by rfl)) (by rfl) (by decide) (by rfl) (by rfl)) (@eO _ _ _ _ _ (@bF _ _ _ _ _ _ _ _ _ _ G_p_is_sill (hr.mono (by decide)) (@aA _ _ _ _ _ (@bD _ _ _ _ _ _ _ (@aS _ (K) rfl) (pv 0) aF (fun _ _=>rfl)) (@aA _ _ _ _ _ (@bD _ _ _ _ _ _ _ (@aS _ (K) rfl) (pv 0) aF (fun _ _=>rfl)) aE (by rfl)) (by rfl)) (by rfl) (by decide) (by rfl) (by rfl)))))))),?_⟩
 refine ⟨_,rfl,_,_,rfl,d,6,hd,rfl,_,rfl,?_⟩
 by_cases h6:∃ n a b c r l,d = .tup [n,a,b,c,r,l]
 ·obtain ⟨n,a,b,c,r,l,rfl⟩:=h6
  obtain ⟨t,us,rfl,o,v0,r0,rfl,i0,v1,r1,rfl,i1,v2,r2,rfl,i2,v3,r3,rfl,i3,v4,r4,rfl,i4,v5,r5,rfl,i5,h0⟩:=hd
  cases (show r5 = [] from h0)
  have sn:small n = true:=by
   exact jL (xZ hs) AY
  have q:Q (.bl (pT n && oE zs a b && (fY c && (lF r && mF c l)))) H:=q
  have at_:∀ (j:Nat) (v:V),([v0,v1,v2,v3,v4,v5]:List V)[j]? = some v → atI [v0,v1,v2,v3,v4,v5] (j:Int) = some v:=fun j v e=>aP e
  refine bO ⟨_,rfl,t,_,0,v0,rfl,rfl,SqT.of o,at_ 0 _ rfl,_,rfl,n,i0,sn,_,rfl,?_⟩
  cases en:pT n with
  | false=>rw [en] at q;exact dL q
  | true =>
   rw [en,BX] at q
   refine bO ⟨_,rfl,t,_,1,v1,rfl,rfl,SqT.of o,at_ 1 _ rfl,_,rfl,t,_,2,v2,rfl,rfl,SqT.of o,at_ 2 _ rfl,_,rfl,_,_,_,rfl,a,b,p,zs,i1,i2,rfl,hp,_,rfl,?_⟩
   cases es:oE zs a b with
   | false=>rw [es] at q;exact dL q
   | true =>
    rw [es,BX] at q
    refine bO ⟨_,rfl,t,_,3,v3,rfl,rfl,SqT.of o,at_ 3 _ rfl,_,rfl,c,i3,_,rfl,?_⟩
    cases ec:fY c with
    | false=>rw [ec] at q;exact bO q
    | true =>
     rw [ec,BX] at q
     refine dL ⟨_,rfl,t,_,4,v4,rfl,rfl,SqT.of o,at_ 4 _ rfl,_,rfl,r,i4,_,rfl,?_⟩
     cases er:lF r with
     | false=>rw [er] at q;exact bO q
     | true =>
      rw [er,BX] at q
      cases c with
      | int j =>
       cases (show v3 = .int j from i3)
       exact dL ⟨_,rfl,t,_,5,v5,rfl,rfl,SqT.of o,at_ 5 _ rfl,_,rfl,t,_,3,_,rfl,rfl,SqT.of o,at_ 3 _ rfl,_,_,rfl,l,j,i5,rfl,q⟩
      | _=>cases ec
 ·have e1:cL zs d = false:=by
   unfold cL
   split
   ·rename_i n a b c r l
    exact absurd ⟨n,a,b,c,r,l,rfl⟩ h6
   ·rfl
  have e2:aFX 6 d = false:=by
   cases d with
   | tup ds =>
    refine decide_eq_false (fun e=>?_)
    have e':ds.length = 6:=by omega
    match ds,e',h6 with
    | [n,a,b,c,r,l],_,h6=>exact h6 ⟨n,a,b,c,r,l,rfl⟩
   | _=>rfl
  dsimp only
  rw [e2]
  rw [e1] at q
  exact dL q
theorem aBB {zs:List Str} (d:Dv) (h:cL zs d = true):∃ z,cI d = some z:=by
 unfold cL at h
 split at h
 ·rename_i n a b c r l
  rw [Ae,Ae] at h
  cases n with
  | str z=>exact ⟨z,rfl⟩
  | _=>cases h.1.1
 ·cases h
def aGG (K:AG):Sp:=sp2 fun x y H Q=>∃ (d:Dv) (p:Addr) (zs:List Str),Is H d x ∧ small d = true ∧ y = .ref p ∧ H p = some (.lst (zs.map V.str)) ∧ Q (.bl (oF zs d)) H
theorem vP (T:Txt K mg C):Fc P w K mg base 5 "are_dykes" ["thing","sides"] (aGG K):=by
 have G_p_is_list_of:Fc P w K mg base 1 "is_list_of" ["thing","most"] pZ:=jA T
 have G_p_is_dyke:Fc P w K mg base 4 "is_dyke" ["thing","sides"] (aJW K):=aAR T
 have G_p_none_twice:Fc P w K mg base 1 "none_twice" ["rows"] tY:=iZ T
 refine T.d_p_are_dykes.fcD uY kM (fun f cdv A outer s H vs Q E hr h=>?_)
 obtain ⟨x,y,rfl,d,p0,zs0,hd,hs,rfl,hp0,q⟩:=h
 have big:=bP
 refine ⟨_,(@aH _ _ _ (@aQ _ _ _ _ (@cZ _ _ _ _ _ _ _ (@bF _ _ _ _ _ _ _ _ _ _ G_p_is_list_of (hr.mono (by decide)) (@aA _ _ _ _ _ (pv 0) (@aA _ _ _ _ _ (@tO _ _ _ _ T.g_MOST_DYKES (by rfl) (by decide)) aE (by rfl)) (by rfl)) (by rfl) (by decide) (by rfl) (by rfl)) (@cZ _ _ _ _ _ _ _ (@aV _ _ _ _ _ _ _ _ _ (@oA _ rfl) rfl T.n_all lM (@aA _ _ _ _ _ (@cB _ _ _ _ _ _ _ _ _ _ _ ["row","sides"] 1 [1] rfl (@bT _ _ _ _ (pv 0)) (fun R=>@aU _ _ (0) _ (show Au (["row","sides"]:List Str) by decide +kernel) rfl (Or.inl rfl) (by trivial)) (@aX _ _ (by decide)) (fun R=>cF) (fun R=>(@bF _ _ _ _ _ _ _ _ _ _ G_p_is_dyke (hr.mono (by decide)) (@aA _ _ _ _ _ (pv 0) (@aA _ _ _ _ _ (pv 1) aE (by rfl)) (by rfl)) (by rfl) (by decide) (by rfl) (by rfl))) (by rfl) (by rfl) (by rfl) (by rfl) (by rfl) (by rfl) (by rfl) (by intro _;rfl)) aE (by rfl)) (by decide) (by decide) (by rfl) (by rfl)) (@eO _ _ _ _ _ (@bF _ _ _ _ _ _ _ _ _ _ G_p_none_twice (hr.mono (by decide)) (@aA _ _ _ _ _ (pv 0) aE (by rfl)) (by rfl) (by decide) (by rfl) (by rfl))))))),?_⟩
 refine ⟨_,rfl,_,_,rfl,d,40,hd,rfl,_,rfl,?_⟩
 cases d with
 | lst ds =>
  obtain ⟨p,us,rfl,o,hi⟩:=hd
  have l1:=hi.length
  have hs':=BF.mp (show (decide (ds.length ≤ 1000) && hV ds) = true from hs)
  have l2:ds.length ≤ 1000:=of_decide_eq_true hs'.1
  have q:Q (.bl ((decide (1 ≤ ds.length) && decide (ds.length ≤ 40)) && (ds.all (cL zs0) && decide ((ds.map cI).Nodup)))) H:=q
  have e0:(decide (1 ≤ ds.length) && decide ((ds.length:Int) ≤ 40)) = (decide (1 ≤ ds.length) && decide (ds.length ≤ 40)):=by
   congr 1
   rw [Bp,decide_eq_true_iff,decide_eq_true_iff]
   omega
  show if (decide (1 ≤ ds.length) && decide ((ds.length:Int) ≤ 40)) = true then _ else _
  rw [e0]
  refine jY (fun h1=>?_) (fun h1=>?_)
  ·rw [h1,BX] at q
   refine ⟨_,rfl,p,rfl,⟨_,SqL.of o⟩,?_⟩
   refine bI (F:=K) (xs:=us) (by omega) (fun i ys H'=>H' = H ∧ ys = (ds.take i).map fun d=>V.bl (cL zs0 d)) ⟨rfl,rfl⟩ ?_ ?_ ?_
   ·rintro i ys H' hi' ⟨rfl,rfl⟩
    exact ⟨SqL.of o,by rw [AA,AZ];omega⟩
   ·rintro i x ys H' K1 K2 hx ⟨rfl,rfl⟩ k1 k2
    have hil:i < us.length:=(AE.mp hx).1
    obtain ⟨d,ed⟩:∃ d,ds[i]? = some d:=⟨_,AD (by omega)⟩
    obtain ⟨v,ev,iv⟩:=hi.get ed
    rw [hx] at ev
    cases ev
    refine ⟨_,rfl,_,rfl,_,_,rfl,d,p0,zs0,iv,jL hs'.2 (AS ed),rfl,SqL.of hp0,k1 _ _ ⟨rfl,?_⟩⟩
    rw [Ai,ed]
    simp
   ·rintro ys H' ⟨rfl,rfl⟩
    intro p1 hp1
    have np:p ≠ p1:=aT o hp1
    refine ⟨p1,ds.map (cL zs0),rfl,SqL.of ?_,_,rfl,?_⟩
    ·rw [aD,AI (by omega),At]
     rfl
    have e1:(ds.map (cL zs0)).all id = ds.all (cL zs0):=by rw [Eb];rfl
    rw [e1]
    refine jY (fun h2=>?_) (fun h2=>?_)
    ·rw [h2,BX] at q
     obtain ⟨zs,ez⟩:=oR aBB h2
     have l3:zs.length = ds.length:=by have:=congrArg CI ez;simpa using this.symm
     refine ⟨_,rfl,_,rfl,p,us,ds,zs,rfl,by rw [aK np];exact o,IsL.same (aI.upd hp1) _ _ hi,ez,by omega,?_⟩
     have e2:decide zs.Nodup = decide (ds.map cI).Nodup:=by rw [ez,Bp,decide_eq_true_iff,decide_eq_true_iff,dX]
     rw [e2]
     exact cP.of (hJ.lst hp1) q
    ·have h2':ds.all (cL zs0) = false:=by simpa using h2
     rw [h2'] at q
     exact cP.of (hJ.lst hp1) q
  ·have h1':(decide (1 ≤ ds.length) && decide (ds.length ≤ 40)) = false:=by simpa using h1
   rw [h1'] at q
   exact cP.of (.refl _) q
 | _=>exact bO (cP.of (.refl _) q)
def aJT (C:Addr):Sp:=sp3 fun x v1 v2 H Q=>∃ (p dx:Addr) (fs ds:List Dv),x = .ref p ∧ H p = some (.ins C dx []) ∧ Is H (.lst fs) v1 ∧ Is H (.lst ds) v2 ∧ small (.lst fs) = true ∧ small (.lst ds) = true ∧
 lN (.lst fs) = true ∧ oF ("sea" :: fs.map aO) (.lst ds) = true ∧ ∀ H',LandAt C H' p fs ds → (∀ b o,H b = some o → b ≠ p → H' b = some o) → Q .non H'
def aED (C:Addr) (sel:List Dv → List Dv → List Dv):Sp:=sp1 fun x H Q=>∃ (p:Addr) (fs ds:List Dv),x = .ref p ∧ LandAt C H p fs ds ∧ ∀ (l:Addr) (vs:List V) (H':Hp),aI H H' → H l = none → H' l = some (.lst vs) → IsL H' (sel fs ds) vs → Q (.ref l) H'
def aEC (C:Addr) (sel:List Dv → List Dv → List Str):Sp:=sp1 fun x H Q=>∃ (p:Addr) (fs ds:List Dv),x = .ref p ∧ LandAt C H p fs ds ∧ ∀ (l:Addr) (H':Hp),aI H H' → H l = none → H' l = some (.lst ((sel fs ds).map V.str)) → Q (.ref l) H'
def aGD (C:Addr) (sel:List Dv → List Dv → List Dv):Sp:=sp1 fun x H Q=>∃ (p:Addr) (fs ds:List Dv),x = .ref p ∧ LandAt C H p fs ds ∧ ∀ (l:Addr) (vs:List V),H l = none → IsL H (sel fs ds) vs → Q (.ref l) (upd H l (.lst vs))
def uA (C:Addr) (sel:List Dv → List Dv → List Str):Sp:=sp1 fun x H Q=>∃ (p:Addr) (fs ds:List Dv),x = .ref p ∧ LandAt C H p fs ds ∧ ∀ (l:Addr),H l = none → Q (.ref l) (upd H l (.lst ((sel fs ds).map V.str)))
theorem aKK {C:Addr} {sel:List Dv → List Dv → List Dv}:∀ vs H Q E,aED C sel vs H Q E → aGD C sel vs H Q E:=by
 rintro vs H Q E ⟨x,rfl,p,fs,ds,rfl,L,q⟩
 exact ⟨_,rfl,p,fs,ds,rfl,L,fun l us hl hi=>q l us _ (aI.upd hl) hl aD (IsL.same (aI.upd hl) _ _ hi)⟩
theorem aJM {C:Addr} {sel:List Dv → List Dv → List Str}:∀ vs H Q E,aEC C sel vs H Q E → uA C sel vs H Q E:=by
 rintro vs H Q E ⟨x,rfl,p,fs,ds,rfl,L,q⟩
 exact ⟨_,rfl,p,fs,ds,rfl,L,fun l hl=>q l _ (aI.upd hl) hl aD⟩
theorem rO (T:Txt K mg C):Mc P w K mg base 1 C "dykes" ["self"] (aGD C fun _ ds=>ds):=by
 refine T.m_land_p_dykes.mcD tN oV (fun f cdv A outer s H vs Q E hr h=>?_)
 obtain ⟨x,rfl,p,fs,ds,rfl,L,q⟩:=h
 obtain ⟨dx,d1,d2,hx,t1,⟨k1,h1,e1,i1⟩⟩:=L.ex
 refine ⟨_,(@aH _ _ _ (@aQ _ _ _ _ (@bH _ _ _ _ _ _ _ _ _ (@sH _ rfl) rfl T.n_list cM (@aA _ _ _ _ _ (@aQJ _ _ _ _ _ _ _ _ _ PySem.F.plainAttrs_dict PySem.F.slot_dict_values PySem.F.type_dict_values aIC (@vH _ _ _ _ _ (pv 0) rfl) (by rfl) (by rfl)) aE (by rfl)) (by decide) (by decide) (by rfl) (by rfl)))),?_⟩
 refine ⟨_,rfl,p,C,dx,_,_,rfl,hx,T.cl_Land,T.a_dyke_rows,aAX _ _,.inr (.inr (.inl ⟨rfl,.inl ⟨_,h1⟩⟩)),d2,k1,rfl,rfl,.inl h1,fun v hv=>?_⟩
 have nv:d2 ≠ v:=aT h1 hv
 refine ⟨v,d2,k1,rfl,aD,.inl (by rw [aK nv];exact h1),fun l hl=>?_⟩
 exact cP.of (hJ.under hv rfl hl) (q l _ ((aI.upd hv).free hl) i1)
theorem tR (T:Txt K mg C):Mc P w K mg base 1 C "dykes" ["self"] (aED C fun _ ds=>ds):=(rO T).imp aKK
theorem wA {kvs:List (Key × V)} {ds:List Dv} (e:kvs.map (·.1) = ds.map nP):(kvs.map fun kv=>kV kv.1) = (ds.map aO).map V.str:=by
 have h:(kvs.map fun kv=>kV kv.1) = (kvs.map (·.1)).map kV:=by rw [At];rfl
 rw [h,e,At,At]
 rfl
theorem mB (T:Txt K mg C):Mc P w K mg base 1 C "field_names" ["self"] (uA C fun fs _=>fs.map aO):=by
 refine T.m_land_p_field_names.mc mN oV (fun f cdv A outer s H vs Q E hr h=>?_)
 obtain ⟨x,rfl,p,fs,ds,rfl,L,q⟩:=h
 obtain ⟨dx,d1,d2,hx,⟨k1,h1,e1,i1⟩,t2⟩:=L.ex
 refine ⟨_,(@aH _ _ _ (@aQ _ _ _ _ (@bH _ _ _ _ _ _ _ _ _ (@nZ _ rfl) rfl T.n_list cM (@aA _ _ _ _ _ (@vH _ _ _ _ _ (pv 0) rfl) aE (by rfl)) (by decide) (by decide) (by rfl) (by rfl)))),?_⟩
 refine ⟨_,rfl,p,C,dx,_,_,rfl,hx,T.cl_Land,T.a_field_rows,aGU _ _,d1,k1,rfl,.inl h1,fun l hl=>?_⟩
 have:=q l hl
 rw [wA e1]
 exact this
theorem mP (T:Txt K mg C):Mc P w K mg base 1 C "dyke_names" ["self"] (uA C fun _ ds=>ds.map aO):=by
 refine T.m_land_p_dyke_names.mc mW oV (fun f cdv A outer s H vs Q E hr h=>?_)
 obtain ⟨x,rfl,p,fs,ds,rfl,L,q⟩:=h
 obtain ⟨dx,d1,d2,hx,t1,⟨k1,h1,e1,i1⟩⟩:=L.ex
 refine ⟨_,(@aH _ _ _ (@aQ _ _ _ _ (@bH _ _ _ _ _ _ _ _ _ (@nZ _ rfl) rfl T.n_list cM (@aA _ _ _ _ _ (@vH _ _ _ _ _ (pv 0) rfl) aE (by rfl)) (by decide) (by decide) (by rfl) (by rfl)))),?_⟩
 refine ⟨_,rfl,p,C,dx,_,_,rfl,hx,T.cl_Land,T.a_dyke_rows,aAX _ _,d2,k1,rfl,.inl h1,fun l hl=>?_⟩
 have:=q l hl
 rw [wA e1]
 exact this
theorem mO (T:Txt K mg C):Mc P w K mg base 1 C "field_names" ["self"] (aEC C fun fs _=>fs.map aO):=(mB T).imp aJM
theorem lK {H:Hp} {n a b:Str} {c r:Int} {s:Dv} {v:V} (h:Is H (.tup [.str n,.str a,.str b,.int c,.int r,s]) v):∃ t vs,v = .ref t ∧ H t = some (.tup [.str n,.str a,.str b,.int c,.int r,vs]) ∧ Is H s vs:=by
 obtain ⟨t,us,rfl,o,v0,r0,rfl,i0,v1,r1,rfl,i1,v2,r2,rfl,i2,v3,r3,rfl,i3,v4,r4,rfl,i4,v5,r5,rfl,i5,h0⟩:=h
 cases (show r5 = [] from h0)
 cases (show v0 = _ from i0)
 cases (show v1 = _ from i1)
 cases (show v2 = _ from i2)
 cases (show v3 = _ from i3)
 cases (show v4 = _ from i4)
 exact ⟨t,v5,rfl,o,i5⟩
theorem lJ {H:Hp} {n:Str} {g e:Int} {v:V} (h:Is H (.tup [.str n,.int g,.int e]) v):∃ t,v = .ref t ∧ H t = some (.tup [.str n,.int g,.int e]):=by
 obtain ⟨t,us,rfl,o,v0,r0,rfl,i0,v1,r1,rfl,i1,v2,r2,rfl,i2,h0⟩:=h
 cases (show r2 = [] from h0)
 cases (show v0 = _ from i0)
 cases (show v1 = _ from i1)
 cases (show v2 = _ from i2)
 exact ⟨t,rfl,o⟩
theorem bX {C:Addr} {H:Hp} {p:Addr} {fs ds:List Dv} (L:LandAt C H p fs ds):GoodF fs ∧ GoodD ("sea" :: fs.map aO) ds:=⟨(rX _).mp L.okf,(rY _ _).mp L.okd⟩
def aBZ (C:Addr):Sp:=sp2 fun x y H Q=>∃ (p:Addr) (fs ds:List Dv) (z:Str) (g e:Int),x = .ref p ∧ y = .str z ∧ LandAt C H p fs ds ∧ Dv.tup [.str z,.int g,.int e] ∈ fs ∧ Q (.int g) H
theorem rN (T:Txt K mg C):Mc P w K mg base 1 C "ground" ["self","field"] (aBZ C):=by
 refine T.m_land_p_ground.mc rH kM (fun f cdv A outer s H vs Q E hr h=>?_)
 obtain ⟨x,y,rfl,p,fs,ds,z,g,e,rfl,rfl,L,m,q⟩:=h
 have hu:=lG hr
 obtain ⟨dx,d1,d2,hx,⟨k1,h1,e1,i1⟩,t2⟩:=L.ex
 obtain ⟨v,ev,iv⟩:=zP e1 i1 (bX L).1.nd m
 obtain ⟨t,rfl,o⟩:=lJ iv
 refine ⟨_,(@aH _ _ _ (@aQ _ _ _ _ (@bD _ _ _ _ _ _ _ (@aS _ (K) rfl) (@cJ _ _ _ _ _ _ hu (@vH _ _ _ _ _ (pv 0) rfl) (pv 1) (fun _ _=>rfl)) aF (fun _ _=>rfl)))),?_⟩
 refine ⟨_,rfl,p,C,dx,_,_,rfl,hx,T.cl_Land,T.a_field_rows,aGU _ _,_,rfl,d1,.ref t,rfl,?_,t,_,1,.int g,rfl,rfl,SqT.of o,aP (j:=1) rfl,q⟩
 rw [← ev]
 exact sL.k (k:=Sum.inr z) h1
def uC (C:Addr):Sp:=sp2 fun x y H Q=>∃ (p:Addr) (fs ds:List Dv) (d:Dv),x = .ref p ∧ y = .str (aO d) ∧ LandAt C H p fs ds ∧ d ∈ ds ∧ ∀ v,Is H d v → Q v H
theorem jW (T:Txt K mg C):Mc P w K mg base 1 C "dyke" ["self","name"] (uC C):=by
 refine T.m_land_p_dyke.mc uZ kM (fun f cdv A outer s H vs Q E hr h=>?_)
 obtain ⟨x,y,rfl,p,fs,ds,d,rfl,rfl,L,m,q⟩:=h
 have hu:=lG hr
 obtain ⟨dx,d1,d2,hx,t1,⟨k1,h1,e1,i1⟩⟩:=L.ex
 obtain ⟨v,ev,iv⟩:=zP e1 i1 (bX L).2.nd m
 refine ⟨_,(@aH _ _ _ (@aQ _ _ _ _ (@cJ _ _ _ _ _ _ hu (@vH _ _ _ _ _ (pv 0) rfl) (pv 1) (fun _ _=>rfl)))),?_⟩
 refine ⟨_,rfl,p,C,dx,_,_,rfl,hx,T.cl_Land,T.a_dyke_rows,aAX _ _,_,rfl,d2,v,rfl,?_,q v iv⟩
 rw [← ev]
 exact sL.k (k:=Sum.inr (aO d)) h1
theorem aFU {α β:Type}:∀ {xs:List α} {ys:List β},xs.length = ys.length → (xs.zip ys).map (·.1) = xs
 | [],[],_=>rfl
 | x :: xs,y :: ys,h=>by rw [List.zip_cons_cons,Ac,aFU (by simpa using h)]
 | [],_ :: _,h=>by simp at h
 | _ :: _,[],h=>by simp at h
theorem aFT {α β:Type}:∀ {xs:List α} {ys:List β},xs.length = ys.length → (xs.zip ys).map (·.2) = ys
 | [],[],_=>rfl
 | x :: xs,y :: ys,h=>by rw [List.zip_cons_cons,Ac,aFT (by simpa using h)]
 | [],_ :: _,h=>by simp at h
 | _ :: _,[],h=>by simp at h
def cW (ds:List Dv) (us:List V):List (Key × V):=(ds.map nP).zip us
theorem lX {ds:List Dv} {us:List V} (h:us.length = ds.length):(cW ds us).map (·.1) = ds.map nP:=aFU (by rw [AA];exact h.symm)
theorem vJ {ds:List Dv} {us:List V} (h:us.length = ds.length):(cW ds us).map (·.2) = us:=aFT (by rw [AA];exact h.symm)
theorem oM {ds:List Dv} {us:List V} (h:us.length = ds.length):(cW ds us).length = us.length:=by
 unfold cW
 rw [List.length_zip,AA]
 omega
theorem aCP {ds:List Dv} {us:List V} {i:Nat} {d:Dv} {v:V} (e1:ds[i]? = some d) (e2:us[i]? = some v):(cW ds us)[i]? = some (nP d,v):=by
 unfold cW
 rw [List.getElem?_zip_eq_some]
 exact ⟨by rw [AR,e1];rfl,e2⟩
theorem yS {ds:List Dv} (h:(ds.map aO).Nodup):(ds.map nP).Nodup:=by
 have e:ds.map nP = (ds.map aO).map Sum.inr:=by rw [At];rfl
 rw [e,iD]
 exact h
theorem xJ (T:Txt K mg C):Ic P w K mg base 6 C ["self","fields","dykes"] (aJT C):=by
 have G_p_are_fields:Fc P w K mg base 4 "are_fields" ["thing"] aCA:=tQ T
 have G_p_are_dykes:Fc P w K mg base 5 "are_dykes" ["thing","sides"] (aGG K):=vP T
 refine T.i_Land.ic xG qP (fun f cdv A outer s H vs Q E hr h=>?_)
 obtain ⟨x,v1,v2,rfl,p,dx,fs,ds,rfl,hx,hf,hd,sf,sd,okf,okd,q⟩:=h
 have big:=bP
 have gf:=(rX _).mp okf
 have gd:=(rY _ _).mp okd
 have lf:=gf.l2
 have ld:=gd.l2
 obtain ⟨a1,us,rfl,o1,i1⟩:=id hf
 obtain ⟨a2,ws,rfl,o2,i2⟩:=id hd
 have l1:=i1.length
 have l2:=i2.length
 refine ⟨_,(@aG _ _ _ _ _ (@fB _ _ _ _ _ _ _ _ (@eN _ _ _ _ (@dQ _ _ _ (@bF _ _ _ _ _ _ _ _ _ _ G_p_are_fields (hr.mono (by decide)) (@aA _ _ _ _ _ (pv 1) aE (by rfl)) (by rfl) (by decide) (by rfl) (by rfl)) (by intro _;rfl))) (@aH _ _ _ lA) cE) (@aG _ _ _ _ _ (@fB _ _ _ _ _ _ _ _ (@eN _ _ _ _ (@dQ _ _ _ (@bF _ _ _ _ _ _ _ _ _ _ G_p_are_dykes (hr.mono (by decide)) (@aA _ _ _ _ _ (pv 2) (@aA _ _ _ _ _ (@aL _ _ _ _ _ _ _ _ lZ (@fC _ _ _ _ (@aA _ _ _ _ _ (@tO _ _ _ _ T.g_SEA (by rfl) (by decide)) aE (by rfl))) (@cB _ _ _ _ _ _ _ _ _ _ _ ["field"] 1 [] rfl (@bT _ _ _ _ (pv 1)) (fun R=>@aU _ _ (0) _ (show Au (["field"]:List Str) by decide +kernel) rfl (Or.inl rfl) (by trivial)) (@aX _ _ (by decide)) (fun R=>cF) (fun R=>(@bD _ _ _ _ _ _ _ (@aS _ (K) rfl) (pv 0) aF (fun _ _=>rfl))) (by rfl) (by rfl) (by rfl) (by rfl) (by rfl) (by rfl) (by rfl) (by intro _;rfl))) aE (by rfl)) (by rfl)) (by rfl) (by decide) (by rfl) (by rfl)) (by intro _;rfl))) (@aH _ _ _ lA) cE) (@aG _ _ _ _ _ (@aKU _ _ _ _ _ _ _ _ (pv 0) (@bH _ _ _ _ _ _ _ _ _ (@eJ _ rfl) rfl T.n_dict kA (@aA _ _ _ _ _ (@cB _ _ _ _ _ _ _ _ _ _ _ ["field"] 1 [] rfl (@bT _ _ _ _ (pv 1)) (fun R=>@aU _ _ (0) _ (show Au (["field"]:List Str) by decide +kernel) rfl (Or.inl rfl) (by trivial)) (@aX _ _ (by decide)) (fun R=>cF) (fun R=>(@dW _ _ _ _ _ (@aA _ _ _ _ _ (@bD _ _ _ _ _ _ _ (@aS _ (K) rfl) (pv 0) aF (fun _ _=>rfl)) (@aA _ _ _ _ _ (pv 0) aE (by rfl)) (by rfl)))) (by rfl) (by rfl) (by rfl) (by rfl) (by rfl) (by rfl) (by rfl) (by intro _;rfl)) aE (by rfl)) (by decide) (by decide) (by rfl) (by rfl)) rfl) (@aH _ _ _ (@aKU _ _ _ _ _ _ _ _ (pv 0) (@bH _ _ _ _ _ _ _ _ _ (@eJ _ rfl) rfl T.n_dict kA (@aA _ _ _ _ _ (@cB _ _ _ _ _ _ _ _ _ _ _ ["dyke"] 1 [] rfl (@bT _ _ _ _ (pv 2)) (fun R=>@aU _ _ (0) _ (show Au (["dyke"]:List Str) by decide +kernel) rfl (Or.inl rfl) (by trivial)) (@aX _ _ (by decide)) (fun R=>cF) (fun R=>(@dW _ _ _ _ _ (@aA _ _ _ _ _ (@bD _ _ _ _ _ _ _ (@aS _ (K) rfl) (pv 0) aF (fun _ _=>rfl)) (@aA _ _ _ _ _ (pv 0) aE (by rfl)) (by rfl)))) (by rfl) (by rfl) (by rfl) (by rfl) (by rfl) (by rfl) (by rfl) (by intro _;rfl)) aE (by rfl)) (by decide) (by decide) (by rfl) (by rfl)) rfl))))),?_⟩
 refine ⟨_,rfl,_,rfl,.lst fs,hf,sf,_,rfl,?_⟩
 rw [okf]
 refine bO ?_
 refine ⟨_,rfl,aY rfl,fun p1 hp1=>?_⟩
 have S1:=aI.upd (o:=.lst [.str "sea"]) hp1
 refine ⟨_,rfl,a1,rfl,⟨_,SqL.of (S1 _ _ o1)⟩,?_⟩
 refine bI (F:=K) (xs:=us) (by omega) (fun i ys H'=>H' = upd H p1 (.lst [.str "sea"]) ∧ ys = ((fs.take i).map aO).map V.str) ⟨rfl,rfl⟩ ?_ ?_ ?_
 ·rintro i ys H' hi' ⟨rfl,rfl⟩
  exact ⟨SqL.of (S1 _ _ o1),by rw [AA,AA,AZ];omega⟩
 ·rintro i x ys H' K1 K2 hx' ⟨rfl,rfl⟩ k1 k2
  have hil:i < us.length:=(AE.mp hx').1
  obtain ⟨d,ed⟩:∃ d,fs[i]? = some d:=⟨_,AD (by omega)⟩
  obtain ⟨v,ev,iv⟩:=i1.get ed
  rw [hx'] at ev
  cases ev
  obtain ⟨z,g,e,rfl,_⟩:=bU (gf.all d (AS ed))
  obtain ⟨t,rfl,o⟩:=lJ iv
  refine ⟨_,rfl,t,_,0,.str z,rfl,rfl,SqT.of (S1 _ _ o),aP (j:=0) rfl,k1 _ _ ⟨rfl,?_⟩⟩
  rw [Ai,ed]
  simp [aO,cI]
 ·rintro ys H' ⟨rfl,rfl⟩
  intro p2 hp2
  rw [AI (by omega)]
  have S2:=aI.upd (o:=.lst ((fs.map aO).map V.str)) hp2
  refine ⟨p1,p2,_,_,rfl,rfl,S2 _ _ aD,aD,by simp only [AA,Am,Dj];omega,fun p3 hp3=>?_⟩
  have S3:=aI.upd (o:=.lst ([.str "sea"] ++ (fs.map aO).map V.str)) hp3
  have S:=S1.trans (S2.trans S3)
  generalize hH3:upd (upd (upd H p1 (.lst [.str "sea"])) p2 (.lst ((fs.map aO).map V.str))) p3 (.lst ([.str "sea"] ++ (fs.map aO).map V.str)) = H3 at S
  have hp3':H3 p3 = some (.lst ((("sea":Str) :: fs.map aO).map V.str)):=by rw [← hH3,aD];rfl
  refine ⟨_,_,rfl,.lst ds,p3,_,Is.same S _ _ hd,sd,rfl,hp3',_,rfl,?_⟩
  rw [okd]
  refine bO ?_
  refine ⟨_,rfl,a1,rfl,⟨_,SqL.of (S _ _ o1)⟩,?_⟩
  refine bI (F:=K) (xs:=us) (by omega) (fun i ys H'=>aI H3 H' ∧ bV H' ys ((cW fs us).take i)) ⟨aI.refl _,bV.nil _⟩ ?_ ?_ ?_
  ·rintro i ys H' hi' ⟨S4,pr⟩
   exact ⟨SqL.of (S4 _ _ (S _ _ o1)),by have:=pr.len;rw [AZ] at this;omega⟩
  ·rintro i x ys H' K1 K2 hx' ⟨S4,pr⟩ k1 k2
   have hil:i < us.length:=(AE.mp hx').1
   obtain ⟨d,ed⟩:∃ d,fs[i]? = some d:=⟨_,AD (by omega)⟩
   obtain ⟨v,ev,iv⟩:=i1.get ed
   rw [hx'] at ev
   cases ev
   obtain ⟨z,g,e,rfl,_⟩:=bU (gf.all d (AS ed))
   obtain ⟨t,rfl,o⟩:=lJ iv
   have ot:=S4 _ _ (S _ _ o)
   refine ⟨_,rfl,t,_,0,.str z,rfl,rfl,SqT.of ot,aP (j:=0) rfl,_,rfl,aY rfl,fun pt hpt=>k1 _ _ ⟨S4.trans (aI.upd hpt),?_⟩⟩
   rw [Ai,aCP ed hx']
   exact pr.snoc (k:=Sum.inr z) hpt
  ·rintro ys H4 ⟨S4,pr⟩
   rw [AI (by rw [oM l1];omega)] at pr
   intro p4 hp4
   have S5:=aI.upd (o:=.lst ys) hp4
   refine ⟨p4,ys,cW fs us,rfl,SqL.of aD,pr.same S5,by rw [oM l1];omega,by rw [lX l1];exact yS gf.nd,fun d1 hd1=>?_⟩
   have S6:=aI.upd (o:=.dK (cW fs us)) hd1
   have SA:=S.trans (S4.trans (S5.trans S6))
   have hd1':upd (upd H4 p4 (.lst ys)) d1 (.dK (cW fs us)) d1 = some (.dK (cW fs us)):=aD
   generalize upd (upd H4 p4 (.lst ys)) d1 (.dK (cW fs us)) = H6 at SA hd1'
   refine ⟨_,rfl,p,C,dx,[],rfl,SA _ _ hx,T.cl_Land,T.a_field_rows,(by show 0 < 1000;decide),?_⟩
   have SB:∀ b o,H b = some o → b ≠ p → upd H6 p (.ins C dx (jE "field_rows" (.ref d1) [])) b = some o:=fun b o e hb=>by rw [aK hb];exact SA _ _ e
   have nd1:d1 ≠ p:=yM hd1' (SA _ _ hx) (by intro z;cases z)
   have SD:wZ H (upd H6 p (.ins C dx (jE "field_rows" (.ref d1) []))):=fun b o e dt=>SB b o e (fun z=>by subst z;rw [hx] at e;cases e;cases dt)
   have hp7:upd H6 p (.ins C dx (jE "field_rows" (.ref d1) [])) p = some (.ins C dx (jE "field_rows" (.ref d1) [])):=aD
   have hd7:upd H6 p (.ins C dx (jE "field_rows" (.ref d1) [])) d1 = some (.dK (cW fs us)):=by rw [aK nd1];exact hd1'
   generalize upd H6 p (.ins C dx (jE "field_rows" (.ref d1) [])) = H7 at SB SD hp7 hd7
   refine ⟨_,rfl,a2,rfl,⟨_,SqL.of (SD _ _ o2 rfl)⟩,?_⟩
   refine bI (F:=K) (xs:=ws) (by omega) (fun i ys H'=>aI H7 H' ∧ bV H' ys ((cW ds ws).take i)) ⟨aI.refl _,bV.nil _⟩ ?_ ?_ ?_
   ·rintro i ys H' hi' ⟨S8,pr⟩
    exact ⟨SqL.of (S8 _ _ (SD _ _ o2 rfl)),by have:=pr.len;rw [AZ] at this;omega⟩
   ·rintro i x ys H' K1 K2 hx' ⟨S8,pr⟩ k1 k2
    have hil:i < ws.length:=(AE.mp hx').1
    obtain ⟨d,ed⟩:∃ d,ds[i]? = some d:=⟨_,AD (by omega)⟩
    obtain ⟨v,ev,iv⟩:=i2.get ed
    rw [hx'] at ev
    cases ev
    obtain ⟨n,a,b,c,r,sl,rfl,_⟩:=bJ (gd.all d (AS ed))
    obtain ⟨t,vs,rfl,o,_⟩:=lK iv
    have ot:=S8 _ _ (SD _ _ o rfl)
    refine ⟨_,rfl,t,_,0,.str n,rfl,rfl,SqT.of ot,aP (j:=0) rfl,_,rfl,aY rfl,fun pt hpt=>k1 _ _ ⟨S8.trans (aI.upd hpt),?_⟩⟩
    rw [Ai,aCP ed hx']
    exact pr.snoc (k:=Sum.inr n) hpt
   ·rintro ys H8 ⟨S8,pr⟩
    rw [AI (by rw [oM l2];omega)] at pr
    intro p9 hp9
    have S9:=aI.upd (o:=.lst ys) hp9
    refine ⟨p9,ys,cW ds ws,rfl,SqL.of aD,pr.same S9,by rw [oM l2];omega,by rw [lX l2];exact yS gd.nd,fun d2 hd2=>?_⟩
    have S10:=aI.upd (o:=.dK (cW ds ws)) hd2
    have SC:=S8.trans (S9.trans S10)
    have hd2':upd (upd H8 p9 (.lst ys)) d2 (.dK (cW ds ws)) d2 = some (.dK (cW ds ws)):=aD
    generalize upd (upd H8 p9 (.lst ys)) d2 (.dK (cW ds ws)) = H10 at SC hd2'
    refine ⟨_,rfl,p,C,dx,_,rfl,SC _ _ hp7,T.cl_Land,T.a_dyke_rows,(by show 1 < 1000;decide),?_⟩
    have nd2:d2 ≠ p:=yM hd2' (SC _ _ hp7) (by intro z;cases z)
    have SE:wZ H (upd H10 p (.ins C dx (nO d1 d2))):=fun b o e dt=>by
     have hb:b ≠ p:=fun z=>by subst z;rw [hx] at e;cases e;cases dt
     rw [aK hb]
     exact SC _ _ (SB _ _ e hb)
    refine q _ ⟨⟨dx,d1,d2,aD,⟨_,(aK nd1).trans (SC _ _ hd7),lX l1,?_⟩,⟨_,(aK nd2).trans hd2',lX l2,?_⟩⟩,okf,okd⟩ fun b o e hb=>?_
    ·rw [vJ l1]
     exact IsL.sameD SE _ _ i1
    ·rw [vJ l2]
     exact IsL.sameD SE _ _ i2
    ·show upd H10 p (.ins C dx (nO d1 d2)) b = some o
     rw [aK hb]
     exact SC _ _ (SB _ _ e hb)
open Mt02
def uO (K:AG):Sp:=sp2 fun x y H Q=>∃ (a:Addr) (ns:List Int) (k:Int),x = .ref a ∧ y = .int k ∧ SqL K H a (ns.map V.int) ∧ ns.length ≤ 63 ∧ 0 ≤ k ∧ Q (.int (ns.getD k.toNat 0)) H
theorem jF (T:Txt K mg C):Fc P w K mg base 1 "_law_cell_at" ["_law_script","_law_k"] (uO K):=by
 refine T.d_l_cell_at.fc aAI kM (fun f cdv A outer s H vs Q E hr h=>?_)
 obtain ⟨x,y,rfl,a,ns,k,rfl,rfl,hS,hl,hk,q⟩:=h
 refine ⟨_,(@aG _ _ _ _ _ (@fB _ _ _ _ _ _ _ _ (@cA _ _ _ _ _ _ _ _ vK (pv 1) (@aV _ _ _ _ _ _ _ _ _ (@bE _ (K) rfl) rfl T.n_len bN (@aA _ _ _ _ _ (pv 0) aE (by rfl)) (by decide) (by decide) (by rfl) (by rfl)) (@bQ _ _ (by decide) (by decide))) (@aH _ _ _ (@aQ _ _ _ _ (@bD _ _ _ _ _ _ _ (@gZ _ (K) rfl) (pv 0) (pv 1) (fun _ _=>rfl)))) cE) (@aH _ _ _ (@aQ _ _ _ _ aF))),?_⟩
 refine ⟨_,rfl,_,rfl,a,_,rfl,.inl hS,_,_,rfl,rfl,_,rfl,?_⟩
 obtain ⟨j,rfl⟩:=BQ hk
 rw [AA]
 refine jY (fun h1=>?_) (fun h1=>?_)
 ·have h1':j < ns.length:=by
   have:=of_decide_eq_true h1
   omega
  refine ⟨_,rfl,_,rfl,a,_,_,.int (ns.getD j 0),rfl,rfl,hS,aP ?_,?_⟩
  ·rw [AR,AD h1',Aa,AD h1']
   rfl
  ·simpa using q
 ·have h1':¬ j < ns.length:=by
   intro h2
   exact h1 (decide_eq_true (by omega))
  have e:ns.getD j 0 = 0:=by
   rw [Aa,En (by omega)]
   rfl
  have q':Q (.int (ns.getD j 0)) H:=by simpa using q
  rw [e] at q'
  exact q'
def Scr (K:AG) (H:Hp) (x:V):Prop:=∃ (a:Addr) (ns:List Int),x = .ref a ∧ SqL K H a (ns.map V.int) ∧ ns.length ≤ 63
theorem Scr.same {K:AG} {H H':Hp} {x:V} (S:aI H H') (h:Scr K H x):Scr K H' x:=by
 obtain ⟨a,ns,e,q,l⟩:=h
 exact ⟨a,ns,e,S.seq q,l⟩
theorem p6:(10:Int) ^ (6:Int).toNat = 1000000:=by decide
structure Fds (fs:List Dv) (n:Nat):Prop where
 l1:1 ≤ fs.length
 l2:fs.length ≤ n
 all:∀ d ∈ fs,bY d = true
 nd:(fs.map aO).Nodup
theorem aFK {d:Dv} (h:bY d = true):aBD d = true:=by
 obtain ⟨z,g,e,rfl,_⟩:=bU h
 rfl
theorem aMG {z:Str} {g e:Int} (hz:fD z = true) (g0:-1000000 ≤ g) (g1:g ≤ 1000000) (e0:0 ≤ e) (e1:e ≤ 1000000):bY (.tup [.str z,.int g,.int e]) = true:=by
 show (fD z && (hgt g && amt e)) = true
 unfold hgt amt
 rw [hz,decide_eq_true g0,decide_eq_true g1,decide_eq_true e0,decide_eq_true e1]
 rfl
structure Dks (zs:List Str) (ds:List Dv) (n:Nat):Prop where
 l1:1 ≤ ds.length
 l2:ds.length ≤ n
 all:∀ d ∈ ds,cL zs d = true
 nd:(ds.map aO).Nodup
theorem aHO {c s:Dv} (h:mF c s = true):aBD s = true:=by
 cases s with
 | non=>rfl
 | int i=>rfl
 | _=>cases h
theorem aIP {zs:List Str} {d:Dv} (h:cL zs d = true):aBD d = true:=by
 obtain ⟨n,a,b,c,r,s,rfl,_,_,_,_,_,_,hs⟩:=bJ h
 have:=aHO hs
 show (true && (true && (true && (true && (true && (aBD s && true)))))) = true
 rw [this]
 rfl
theorem aOU {zs:List Str} {n a b:Str} {c r:Int} {s:Dv} (hn:fD n = true) (ha:a ∈ zs) (hb:b ∈ zs) (hab:a ≠ b) (hc:hgt c = true) (hr:amt r = true) (hs:mF (.int c) s = true):cL zs (.tup [.str n,.str a,.str b,.int c,.int r,s]) = true:=by
 show (fD n && (decide (a ∈ zs) && (decide (b ∈ zs) && !(a == b))) && (hgt c && (amt r && mF (.int c) s))) = true
 rw [hn,decide_eq_true ha,decide_eq_true hb,hc,hr,hs,beq_eq_false_iff_ne.mpr hab]
 rfl
theorem aBC {i:Int} (h0:-1000000 ≤ i) (h1:i ≤ 1000000):hgt i = true:=by
 unfold hgt
 rw [decide_eq_true h0,decide_eq_true h1]
 rfl
theorem aRD {i:Int} (h0:0 ≤ i) (h1:i ≤ 1000000):amt i = true:=by
 unfold amt
 rw [decide_eq_true h0,decide_eq_true h1]
 rfl
theorem aAC {z:Str} (h:fD z = true):z ≠ "sea":=by
 intro e
 subst e
 simp [fD] at h
theorem aJZ {fs:List Dv} {n:Nat} (h:Fds fs n):("sea" :: fs.map aO:List Str).Nodup:=by
 rw [Aq]
 refine ⟨fun m=>?_,h.nd⟩
 obtain ⟨d,md,e⟩:=AT.mp m
 obtain ⟨z,g,e',rfl,hz,_⟩:=bU (h.all d md)
 exact aAC hz e
theorem aSC {zs:List Str} (h:zs.Nodup) {i j:Nat} {a b:Str} (ha:zs[i]? = some a) (hb:zs[j]? = some b) (hij:i ≠ j):a ≠ b:=by
 intro e
 subst e
 obtain ⟨h1,e1⟩:=AE.mp ha
 obtain ⟨h2,e2⟩:=AE.mp hb
 exact hij ((Dc h).mp (e1.trans e2.symm))
theorem aHQ {c f L s r:Int} (hL:2 ≤ L) (hf0:0 ≤ f) (hf1:f < L) (hr:r = c % (L - 1)) (hs:s = (f + 1 + r) % L):0 ≤ s ∧ s < L ∧ f ≠ s:=by
 have r0:0 ≤ r:=by rw [hr];exact BU _ (by omega)
 have r1:r < L - 1:=by rw [hr];exact BM _ (by omega)
 have s0:0 ≤ s:=by rw [hs];exact BU _ (by omega)
 have s1:s < L:=by rw [hs];exact BM _ (by omega)
 refine ⟨s0,s1,?_⟩
 intro e
 by_cases hlt:f + 1 + r < L
 ·rw [Int.emod_eq_of_lt (by omega) hlt] at hs
  omega
 ·have e2:(f + 1 + r) % L = f + 1 + r - L:=by
   rw [← Int.sub_emod_right,Int.emod_eq_of_lt (by omega) (by omega)]
  omega
theorem at2 {a b i:Int} (h0:0 ≤ i) (h1:i < 2):∃ m:Int,atI ([.int a,.int b]:List V) i = some (.int m) ∧ (m = a ∨ m = b):=by
 obtain ⟨k,rfl⟩:=BQ h0
 have hk:k < 2:=by omega
 match k,hk with
 | 0,_=>exact ⟨a,aP rfl,.inl rfl⟩
 | 1,_=>exact ⟨b,aP rfl,.inr rfl⟩
theorem aIN {fs:List Dv} {n:Nat} (h:Fds fs n) (hn:n ≤ 12):lN (.lst fs) = true:=(rX fs).mpr ⟨h.l1,BB h.l2 hn,h.all,h.nd⟩
theorem aMJ {zs:List Str} {ds:List Dv} {n:Nat} (h:Dks zs ds n) (hn:n ≤ 40):oF zs (.lst ds) = true:=(rY zs ds).mpr ⟨h.l1,BB h.l2 hn,h.all,h.nd⟩
theorem mC {z:Str} (h:fD z = true):z.length ≤ 1000:=by
 unfold fD at h
 rw [Ae,Ae,Ae] at h
 have:=of_decide_eq_true h.1.1.2
 omega
theorem aDE {d:Dv} (h:bY d = true):small d = true:=by
 obtain ⟨z,g,e,rfl,hz,_⟩:=bU h
 show (decide (3 ≤ 1000) && (decide (z.length ≤ 1000) && (true && (true && true)))) = true
 rw [decide_eq_true (mC hz)]
 rfl
theorem uR {fs:List Dv} (hf:∀ d ∈ fs,bY d = true) {a:Str} (h:a ∈ ("sea" :: fs.map aO:List Str)):a.length ≤ 1000:=by
 rcases Af.mp h with rfl | h
 ·decide +kernel
 ·obtain ⟨d,m,rfl⟩:=AT.mp h
  obtain ⟨z,g,e,rfl,hz,_⟩:=bU (hf d m)
  exact mC hz
theorem aFM {fs:List Dv} (hf:∀ d ∈ fs,bY d = true) {d:Dv} (h:cL ("sea" :: fs.map aO) d = true):small d = true:=by
 obtain ⟨n,a,b,c,r,s,rfl,hn,ha,hb,_,_,_,hs⟩:=bJ h
 have e:small s = true:=by
  cases s with
  | non=>rfl
  | int i=>rfl
  | _=>cases hs
 show (decide (6 ≤ 1000) && (decide (n.length ≤ 1000) && (decide (a.length ≤ 1000) && (decide (b.length ≤ 1000) && (true && (true && (small s && true))))))) = true
 rw [decide_eq_true (mC hn),decide_eq_true (uR hf ha),decide_eq_true (uR hf hb),e]
 rfl
theorem rR {ds:List Dv} (h:∀ d ∈ ds,small d = true) (hl:ds.length ≤ 1000):small (.lst ds) = true:=by
 show (decide (ds.length ≤ 1000) && hV ds) = true
 rw [decide_eq_true hl,yA h]
 rfl
theorem aDL (xs:List V) (k:Nat):wO xs (some (k:Int)) none = xs.drop k:=by
 unfold wO
 rw [HT.sIx_nat,HT.sIx_none]
 by_cases h:k ≤ xs.length
 ·rw [Em h,AI (by rw [CB];exact AL _)]
 ·rw [Nat.min_eq_right (by omega),FX,List.take_zero,Cu (by omega)]
theorem aNI {H:Hp} {l:Addr} {zs:List Str} (h:H l = some (.lst (zs.map V.str))):Is H (.lst (zs.map Dv.str)) (.ref l):=⟨l,_,rfl,h,IsL.strs H zs⟩
open Mt04
def aJO (C:Addr):Sp:=sp2 fun x y H Q=>∃ (p:Addr) (fs ds:List Dv) (d:Dv),x = .ref p ∧ LandAt C H p fs ds ∧ Is H d y ∧ Q (.bl (dS ds d)) H
theorem aAP (T:Txt K mg C):Fc P w K mg base 3 "is_work" ["land","thing"] (aJO C):=by
 have G_p_is_tuple_of:Fc P w K mg base 1 "is_tuple_of" ["thing","length"] tZ:=iC T
 have G_p_is_one_of:Fc P w K mg base 1 "is_one_of" ["thing","names"] (uB K):=jV T
 have G_p_is_height:Fc P w K mg base 2 "is_height" ["thing"] jK:=dR T
 have G_land_p_dyke_names:Mc P w K mg base 1 C "dyke_names" ["self"] (uA C fun _ ds=>ds.map aO):=mP T
 have G_land_p_dyke:Mc P w K mg base 1 C "dyke" ["self","name"] (uC C):=jW T
 refine T.d_p_is_work.fcD aAE kM (fun f cdv A outer s H vs Q E hr h=>?_)
 obtain ⟨x,y,rfl,p,fs,ds,d,rfl,L,hd,q⟩:=h
 obtain ⟨dx,e1,e2,hx,_⟩:=L.ex
 have no:∀ m:Str,¬ m = "dyke_rows" → ¬ m = "field_rows" → (nO e1 e2).lookup m = none:=fun m h1 h2=>lB _ _ h1 h2
 refine ⟨_,(@aG _ _ _ _ _ (@fB _ _ _ _ _ _ _ _ (@PW.pt _ _ _ (@vD _ _ _ _ _ _ _ (@eN _ _ _ _ (@dQ _ _ _ (@bF _ _ _ _ _ _ _ _ _ _ G_p_is_tuple_of (hr.mono (by decide)) (@aA _ _ _ _ _ (pv 1) (@aA _ _ _ _ _ aF aE (by rfl)) (by rfl)) (by rfl) (by decide) (by rfl) (by rfl)) (by intro _;rfl))) (@rK _ _ _ _ (@eN _ _ _ _ (@dQ _ _ _ (@bF _ _ _ _ _ _ _ _ _ _ G_p_is_one_of (hr.mono (by decide)) (@aA _ _ _ _ _ (@bD _ _ _ _ _ _ _ (@aS _ (K) rfl) (pv 1) aF (fun _ _=>rfl)) (@aA _ _ _ _ _ (@aKZ _ _ _ _ _ _ _ _ _ _ _ T.cl_Land G_land_p_dyke_names (hr.mono (by decide)) (pv 0) (by rfl)) aE (by rfl)) (by rfl)) (by rfl) (by decide) (by rfl) (by rfl)) (by intro _;rfl)))))) (@aH _ _ _ (@aQ _ _ _ _ oZ)) cE) (@aH _ _ _ (@aQ _ _ _ _ (@cZ _ _ _ _ _ _ _ (@bF _ _ _ _ _ _ _ _ _ _ G_p_is_height (hr.mono (by decide)) (@aA _ _ _ _ _ (@bD _ _ _ _ _ _ _ (@aS _ (K) rfl) (pv 1) aF (fun _ _=>rfl)) aE (by rfl)) (by rfl) (by decide) (by rfl) (by rfl)) (@eO _ _ _ _ _ (@dG _ _ _ _ _ _ _ _ aLE (@bD _ _ _ _ _ _ _ (@aS _ (K) rfl) (pv 1) aF (fun _ _=>rfl)) (@bD _ _ _ _ _ _ _ (@aS _ (K) rfl) (@aNZ _ _ _ _ _ _ _ _ _ _ _ _ _ _ T.cl_Land G_land_p_dyke (hr.mono (by decide)) (pv 0) (@aA _ _ _ _ _ (@bD _ _ _ _ _ _ _ (@aS _ (K) rfl) (pv 1) aF (fun _ _=>rfl)) aE (by rfl)) (by rfl) (by rfl) (by rfl)) aF (fun _ _=>rfl)) (@bQ _ _ (by decide) (by decide)))))))),?_⟩
 refine ⟨_,rfl,_,_,rfl,d,2,hd,rfl,_,rfl,?_⟩
 by_cases h2:∃ a b,d = .tup [a,b]
 ·obtain ⟨a,b,rfl⟩:=h2
  obtain ⟨t,us,rfl,o,va,r1,rfl,ha,vb,r2,rfl,hb,h0⟩:=hd
  cases (show r2 = [] from h0)
  refine bO ⟨_,rfl,t,_,0,va,rfl,rfl,SqT.of o,aP (j:=0) rfl,_,rfl,p,dx,_,rfl,hx,no _ (by decide +kernel) (by decide +kernel),_,rfl,p,fs,ds,rfl,L,fun l hl=>?_⟩
  have S:=aI.upd (o:=.lst ((ds.map aO).map V.str)) hl
  refine ⟨_,_,rfl,a,l,ds.map aO,Is.same S _ _ ha,rfl,SqL.of aD,_,rfl,?_⟩
  have dr:=hJ.lst (xs:=(ds.map aO).map V.str) hl
  cases ea:qJ (ds.map aO) a with
  | false =>
   have e:dS ds (.tup [a,b]) = false:=by
    unfold dS
    split
    ·rename_i z v hq
     cases hq
     have:decide (z ∈ ds.map aO) = false:=ea
     rw [this]
     rfl
    ·rfl
   rw [e] at q
   exact dL (cP.of dr q)
  | true =>
   refine bO ⟨_,rfl,t,_,1,vb,rfl,rfl,SqT.of (S _ _ o),aP (j:=1) rfl,_,rfl,b,Is.same S _ _ hb,_,rfl,?_⟩
   cases eb:fY b with
   | false =>
    have e:dS ds (.tup [a,b]) = false:=by
     unfold dS
     split
     ·rename_i z v hq
      cases hq
      have:hgt v = false:=eb
      rw [this]
      simp
     ·rfl
    rw [e] at q
    exact bO (cP.of dr q)
   | true =>
    cases a with
    | str z =>
     cases b with
     | int v =>
      have mz:z ∈ ds.map aO:=of_decide_eq_true ea
      obtain ⟨d',md,rfl⟩:=AT.mp mz
      cases (show va = .str (aO d') from ha)
      cases (show vb = .int v from hb)
      have gd:=(bX L).2
      refine dL ⟨_,rfl,t,_,1,_,rfl,rfl,SqT.of (S _ _ o),aP (j:=1) rfl,_,rfl,p,dx,_,rfl,S _ _ hx,no _ (by decide +kernel) (by decide +kernel),_,rfl,t,_,0,_,rfl,rfl,SqT.of (S _ _ o),aP (j:=0) rfl,_,_,rfl,p,fs,ds,d',rfl,rfl,L.same S,md,fun v1 iv1=>?_⟩
      have ec:=wP gd.nd md
      obtain ⟨n,a',b',c,r,sl,rfl,_⟩:=bJ (gd.all d' md)
      obtain ⟨t',sv,rfl,o',_⟩:=lK iv1
      refine ⟨t',_,3,.int c,rfl,rfl,SqT.of o',aP (j:=3) rfl,_,_,rfl,rfl,cP.of dr ?_⟩
      have e:dS ds (.tup [.str (aO (.tup [.str n,.str a',.str b',.int c,.int r,sl])),.int v]) = decide (c ≤ v):=by
       show (decide (_ ∈ ds.map aO) && (hgt v && decide (hE ds _ ≤ v))) = _
       rw [decide_eq_true mz,show hgt v = true from eb,ec]
       rfl
      rw [e] at q
      exact q
     | _=>cases eb
    | _=>cases ea
 ·have e1':dS ds d = false:=by
   unfold dS
   split
   ·rename_i z v
    exact absurd ⟨_,_,rfl⟩ h2
   ·rfl
  have e2':aFX 2 d = false:=by
   cases d with
   | tup ds' =>
    refine decide_eq_false (fun e=>?_)
    have e':ds'.length = 2:=by omega
    match ds',e',h2 with
    | [a,b],_,h2=>exact h2 ⟨a,b,rfl⟩
   | _=>rfl
  dsimp only
  rw [e2']
  rw [e1'] at q
  exact dL (cP.of (.refl _) q)
def aGA (C:Addr):Sp:=sp2 fun x y H Q=>∃ (p:Addr) (fs ds:List Dv) (d:Dv),x = .ref p ∧ LandAt C H p fs ds ∧ Is H d y ∧ small d = true ∧ Q (.bl (aDU ds d)) H
theorem vN (T:Txt K mg C):Fc P w K mg base 4 "are_works" ["land","thing"] (aGA C):=by
 have G_p_is_work:Fc P w K mg base 3 "is_work" ["land","thing"] (aJO C):=aAP T
 have G_p_none_twice:Fc P w K mg base 1 "none_twice" ["rows"] tY:=iZ T
 refine T.d_p_are_works.fcD uW kM (fun f cdv A outer s H vs Q E hr h=>?_)
 obtain ⟨x,y,rfl,p0,fs,ds0,d,rfl,L,hd,hs,q⟩:=h
 have big:=bP
 obtain ⟨t,ty,e1,e2,e3,e4,_⟩:=sJ K hd
 refine ⟨_,(@aH _ _ _ (@aQ _ _ _ _ (@cZ _ _ _ _ _ _ _ (@aV _ _ _ _ _ _ _ _ _ (@dI _ (K) rfl) rfl T.n_isinstance cH (@aA _ _ _ _ _ (pv 1) (@aA _ _ _ _ _ (@sS _ _ _ _ T.n_list cM (by rfl) (by decide) (by decide)) aE (by rfl)) (by rfl)) (by decide) (by decide) (by rfl) (by rfl)) (@cZ _ _ _ _ _ _ _ (@aV _ _ _ _ _ _ _ _ _ (@oA _ rfl) rfl T.n_all lM (@aA _ _ _ _ _ (@cB _ _ _ _ _ _ _ _ _ _ _ ["row","land"] 1 [0] rfl (@bT _ _ _ _ (pv 1)) (fun R=>@aU _ _ (0) _ (show Au (["row","land"]:List Str) by decide +kernel) rfl (Or.inl rfl) (by trivial)) (@aX _ _ (by decide)) (fun R=>cF) (fun R=>(@bF _ _ _ _ _ _ _ _ _ _ G_p_is_work (hr.mono (by decide)) (@aA _ _ _ _ _ (pv 1) (@aA _ _ _ _ _ (pv 0) aE (by rfl)) (by rfl)) (by rfl) (by decide) (by rfl) (by rfl))) (by rfl) (by rfl) (by rfl) (by rfl) (by rfl) (by rfl) (by rfl) (by intro _;rfl)) aE (by rfl)) (by decide) (by decide) (by rfl) (by rfl)) (@eO _ _ _ _ _ (@bF _ _ _ _ _ _ _ _ _ _ G_p_none_twice (hr.mono (by decide)) (@aA _ _ _ _ _ (pv 1) aE (by rfl)) (by rfl) (by decide) (by rfl) (by rfl))))))),?_⟩
 refine ⟨_,rfl,_,_,_,t,_,rfl,rfl,ty,e4,_,rfl,?_⟩
 cases d with
 | lst ds =>
  obtain ⟨p,us,rfl,o,hi⟩:=hd
  have l1:=hi.length
  have hs':=BF.mp (show (decide (ds.length ≤ 1000) && hV ds) = true from hs)
  have l2:ds.length ≤ 1000:=of_decide_eq_true hs'.1
  have q:Q (.bl (ds.all (dS ds0) && decide ((ds.map cI).Nodup))) H:=q
  refine dL ⟨_,rfl,p,rfl,⟨_,SqL.of o⟩,?_⟩
  refine bI (F:=K) (xs:=us) (by omega) (fun i ys H'=>H' = H ∧ ys = (ds.take i).map fun d=>V.bl (dS ds0 d)) ⟨rfl,rfl⟩ ?_ ?_ ?_
  ·rintro i ys H' hi' ⟨rfl,rfl⟩
   exact ⟨SqL.of o,by rw [AA,AZ];omega⟩
  ·rintro i x ys H' K1 K2 hx ⟨rfl,rfl⟩ k1 k2
   have hil:i < us.length:=(AE.mp hx).1
   obtain ⟨d,ed⟩:∃ d,ds[i]? = some d:=⟨_,AD (by omega)⟩
   obtain ⟨v,ev,iv⟩:=hi.get ed
   rw [hx] at ev
   cases ev
   refine ⟨_,rfl,_,rfl,_,_,rfl,p0,fs,ds0,d,rfl,L,iv,k1 _ _ ⟨rfl,?_⟩⟩
   rw [Ai,ed]
   simp
  ·rintro ys H' ⟨rfl,rfl⟩
   intro p1 hp1
   have np:p ≠ p1:=aT o hp1
   refine ⟨p1,ds.map (dS ds0),rfl,SqL.of ?_,_,rfl,?_⟩
   ·rw [aD,AI (by omega),At]
    rfl
   have e1:(ds.map (dS ds0)).all id = ds.all (dS ds0):=by rw [Eb];rfl
   rw [e1]
   refine jY (fun h2=>?_) (fun h2=>?_)
   ·rw [h2,BX] at q
    obtain ⟨zs,ez⟩:=oR pI h2
    have l3:zs.length = ds.length:=by have:=congrArg CI ez;simpa using this.symm
    refine ⟨_,rfl,_,rfl,p,us,ds,zs,rfl,by rw [aK np];exact o,IsL.same (aI.upd hp1) _ _ hi,ez,by omega,?_⟩
    have e2:decide zs.Nodup = decide (ds.map cI).Nodup:=by rw [ez,Bp,decide_eq_true_iff,decide_eq_true_iff,dX]
    rw [e2]
    exact cP.of (hJ.lst hp1) q
   ·have h2':ds.all (dS ds0) = false:=by simpa using h2
    rw [h2'] at q
    exact cP.of (hJ.lst hp1) q
 | _=>exact bO (cP.of (.refl _) q)
theorem aJD {H:Hp} {z:Str} {v:Int} {x:V} (h:Is H (.tup [.str z,.int v]) x):∃ t,x = .ref t ∧ H t = some (.tup [.str z,.int v]):=by
 obtain ⟨t,us,rfl,o,v0,r0,rfl,i0,v1,r1,rfl,i1,h0⟩:=h
 cases (show r1 = [] from h0)
 cases (show v0 = _ from i0)
 cases (show v1 = _ from i1)
 exact ⟨t,rfl,o⟩
open Mt21
def pY:Sp:=sp2 fun x y H Q=>∃ c k:Int,x = .int c ∧ y = .int k ∧ 0 ≤ k ∧ k ≤ 1000 ∧ ∀ m:Int,Q (.int m) H
theorem pN (T:Txt K mg C):Fc P w K mg base 1 "_law_mixed" ["_law_cell","_law_k"] pY:=by
 refine T.d_l_mixed.fc vA kM (fun f cdv A outer s H vs Q E hr h=>?_)
 obtain ⟨x,y,rfl,c,k,rfl,rfl,k0,k1,q⟩:=h
 refine ⟨_,(@aG _ _ _ _ _ (@fB _ _ _ _ _ _ _ _ (@cA _ _ _ _ _ _ _ _ qI (@aL _ _ _ _ _ _ _ _ cO (pv 0) aF) aF (@bQ _ _ (by decide) (by decide))) (@aH _ _ _ (@aQ _ _ _ _ (@aL _ _ _ _ _ _ _ _ bW (pv 0) aF))) cE) (@aG _ _ _ _ _ (@aZ _ _ (2) _ _ _ _ vA.nd rfl (Or.inl rfl) (@aL _ _ _ _ _ _ _ _ cO (@aL _ _ _ _ _ _ _ _ hZ (@aL _ _ _ _ _ _ _ _ cQ (@aL _ _ _ _ _ _ _ _ cO (@aL _ _ _ _ _ _ _ _ bW (pv 0) aF) (@aL _ _ _ _ _ _ _ _ lY aF aF)) aF) (@aL _ _ _ _ _ _ _ _ cQ aF (@aL _ _ _ _ _ _ _ _ hZ (@aL _ _ _ _ _ _ _ _ hZ aF (pv 1)) (pv 1)))) aF) (by rfl) (by trivial)) (@aH _ _ _ (@aQ _ _ _ _ (@aL _ _ _ _ _ _ _ _ cQ (@aL _ _ _ _ _ _ _ _ hZ (@aL _ _ _ _ _ _ _ _ cO (@aL _ _ _ _ _ _ _ _ hZ (pv 2) (pv 2)) aF) aF) (pv 2)))))),?_⟩
 refine ⟨_,rfl,_,_,rfl,rfl,(kD rfl),rfl,_,rfl,?_⟩
 refine jY (fun _=>?_) (fun _=>?_)
 ·exact ⟨_,rfl,_,_,rfl,rfl,⟨by decide,by decide⟩,q _⟩
 ·have kk:0 ≤ 7919 * k * k ∧ 7919 * k * k ≤ 7919000000:=by
   have h1:0 ≤ k * k:=Fj k0 k0
   have h2:k * k ≤ 1000 * 1000:=Int.mul_le_mul k1 k1 k0 (by decide)
   rw [Int.mul_assoc]
   omega
  have m0:∀ a:Int,0 ≤ a % 2147483629 ∧ a % 2147483629 < 2147483629:=fun a=>⟨BU _ (by decide),BM _ (by decide)⟩
  refine ⟨_,rfl,_,_,rfl,rfl,⟨by decide,by decide⟩,_,_,rfl,rfl,⟨by decide,by decide,by decide⟩,_,_,rfl,rfl,(kD rfl),_,_,rfl,rfl,_,rfl,_,_,rfl,rfl,.inl ⟨by decide,by decide⟩,_,rfl,_,_,rfl,rfl,.inr ⟨by omega,by omega⟩,_,_,rfl,rfl,_,_,rfl,rfl,.inr ⟨by omega,by omega⟩,_,_,rfl,rfl,(kD rfl),?_⟩
  generalize hm:(c / 2 % 10 ^ (30:Int).toNat + 1) * (48271 + 7919 * k * k) % 2147483629 = m
  have hm0:=m0 ((c / 2 % 10 ^ (30:Int).toNat + 1) * (48271 + 7919 * k * k))
  rw [hm] at hm0
  exact ⟨_,rfl,_,rfl,_,_,rfl,rfl,.inl ⟨by omega,by omega⟩,_,_,rfl,rfl,(kD rfl),_,_,rfl,rfl,.inr ⟨by decide,by decide⟩,_,rfl,_,_,rfl,rfl,q _⟩
def uK:Sp:=sp2 fun x y H Q=>∃ (c:Int) (n:Nat),x = .int c ∧ y = .int n ∧ n ≤ 40 ∧ ∀ (zs:List Str) (l:Addr) (H':Hp),Mt02.Names zs n → aI H H' → H l = none → H' l = some (.lst (zs.map V.str)) → Q (.ref l) H'
theorem aSE:("abcdefghijklmnopqrstuvwxyz":Str).length = 26:=by decide +kernel
theorem vQ (T:Txt K mg C):Fc P w K mg base 1 "_law_words" ["_law_cell","_law_many"] uK:=by
 refine T.d_l_words.fc eR kM (fun f cdv A outer s H vs Q E hr h=>?_)
 obtain ⟨x,y,rfl,c,n,rfl,rfl,hn,q⟩:=h
 have big:=bP
 have l26:=aSE
 have hss:("abcdefghijklmnopqrstuvwxyz":Str).length ≤ An:=by rw [l26];omega
 obtain ⟨u2,pu2,hu2⟩:∃ u,PSs (mJ CX0 P w K mg base ["_law_cell","_law_many","_law_letters","_law_size","_law_base","_law_at","_law_words_here","_law_k","_law_inner"] "_law_words" (aB hW) f cdv A outer s H E).nox ((aJ hW).drop 2) u ∧
   u { nx:=fun _ H'=>Q .non H',rt:=Q } [some (.int c),some (.int n),some (.str "abcdefghijklmnopqrstuvwxyz"),none,none,none,none,none,none] H:=by
  refine ⟨_,(@aG _ _ _ _ _ (@aZ _ _ (3) _ _ _ _ eR.nd rfl (Or.inl rfl) (@aL _ _ _ _ _ _ _ _ cQ aF (@aL _ _ _ _ _ _ _ _ cO (@aL _ _ _ _ _ _ _ _ bW (pv 0) aF) aF)) (by rfl) (by trivial)) (@aG _ _ _ _ _ (@aZ _ _ (4) _ _ _ _ eR.nd rfl (Or.inl rfl) (@oY _ _ _ _ _ _ _ _ _ _ _ _ PySem.F.plainAttrs_str PySem.F.slot_str_join PySem.F.type_str_join aOI aER (@aA _ _ _ _ _ (@cB _ _ _ _ _ _ _ _ _ _ _ ["_law_j","_law_cell","_law_letters"] 1 [0,2] rfl (@jH _ _ _ _ _ _ rfl T.n_range (@aA _ _ _ _ _ (pv 3) aE (by rfl)) (by rfl)) (fun R=>@aU _ _ (0) _ (show Au (["_law_j","_law_cell","_law_letters"]:List Str) by decide +kernel) rfl (Or.inl rfl) (by trivial)) (@aX _ _ (by decide)) (fun R=>cF) (fun R=>(@bD _ _ _ _ _ _ _ aAZ (pv 2) (@aL _ _ _ _ _ _ _ _ cO (@aL _ _ _ _ _ _ _ _ cQ (@aL _ _ _ _ _ _ _ _ bW (pv 1) aF) (@aL _ _ _ _ _ _ _ _ hZ (pv 0) (pv 0))) aF) (fun _ _=>rfl))) (by rfl) (by rfl) (by rfl) (by rfl) (by rfl) (by rfl) (by rfl) (by intro _;rfl)) aE (by rfl)) (by rfl) (by rfl) (by rfl) (by rfl) (by rfl)) (by rfl) (by trivial)) (@aG _ _ _ _ _ (@aZ _ _ (5) _ _ _ _ eR.nd rfl (Or.inl rfl) (@aL _ _ _ _ _ _ _ _ cO (@aL _ _ _ _ _ _ _ _ bW (pv 0) aF) (@aL _ _ _ _ _ _ _ _ cQ (pv 3) aF)) (by rfl) (by trivial)) (@aG _ _ _ _ _ (@aZ _ _ (6) _ _ _ _ eR.nd rfl (Or.inl rfl) (@fC _ _ _ _ aE) (by rfl) (by trivial)) (@aG _ _ _ _ _ (@iX _ _ _ _ _ _ _ _ BR rfl (@jH _ _ _ _ _ _ rfl T.n_range (@aA _ _ _ _ _ (pv 1) aE (by rfl)) (by rfl)) (@aU _ _ (7) _ eR.nd rfl (Or.inl rfl) (by trivial)) (@aG _ _ _ _ _ (@aZ _ _ (8) _ _ _ _ eR.nd rfl (Or.inl rfl) (@aL _ _ _ _ _ _ _ _ pM (@bD _ _ _ _ _ _ _ aAZ (pv 2) (@aL _ _ _ _ _ _ _ _ cO (@aL _ _ _ _ _ _ _ _ cQ (pv 7) (@aL _ _ _ _ _ _ _ _ bW (pv 0) aF)) aF) (fun _ _=>rfl)) (@bD _ _ _ _ _ _ _ aAZ (pv 2) (@aL _ _ _ _ _ _ _ _ cO (@aL _ _ _ _ _ _ _ _ cQ (@aL _ _ _ _ _ _ _ _ bW (pv 7) aF) (@aL _ _ _ _ _ _ _ _ bW (pv 0) aF)) aF) (fun _ _=>rfl))) (by rfl) (by trivial)) (@aH _ _ _ (@iL _ _ _ _ (@oY _ _ _ _ _ _ _ _ _ _ _ _ BZ Bj Bi gK (pv 6) (@aA _ _ _ _ _ (@aL _ _ _ _ _ _ _ _ pM (@aL _ _ _ _ _ _ _ _ pM (@jT _ _ _ _ _ _ _ _ _ _ aJY (pv 4) lW (@lU _ _ _ (pv 5))) (pv 8)) (@jT _ _ _ _ _ _ _ _ _ _ aJY (pv 4) (@lU _ _ _ (pv 5)) lW)) aE (by rfl)) (by rfl) (by rfl) (by rfl) (by rfl) (by rfl)) (by rfl)))) (by intro _;rfl)) (@aH _ _ _ (@aQ _ _ _ _ (pv 6)))))))),?_⟩
  have z0:0 ≤ c / 4 % 5:=BU _ (by decide)
  have z1:c / 4 % 5 < 5:=BM _ (by decide)
  obtain ⟨sz,hsz⟩:=BQ (show 0 ≤ 2 + c / 4 % 5 by omega)
  refine ⟨_,rfl,_,_,rfl,rfl,⟨by decide,by decide⟩,_,_,rfl,rfl,(kD rfl),_,_,rfl,rfl,?_⟩
  dsimp only
  rw [hsz]
  obtain ⟨H0,hH0⟩:∃ H0,H0 = H:=⟨H,rfl⟩
  have ixs:∀ (x:Int),∃ v,(V.str (kL x)) = v:=fun x=>⟨_,rfl⟩
  refine ⟨rfl,_,rfl,_,rfl,by omega,by omega,?_⟩
  refine wQ (lo:=0) (n:=sz) (by omega) (fun i ys H'=>H' = H ∧ ys = ((Az i).map fun (j:Nat)=>kL (c / 20 + (j:Int) * (j:Int))).map V.str) ⟨rfl,rfl⟩ ?_ ?_ ?_
  ·rintro i ys H' ⟨rfl,rfl⟩
   simp
  ·rintro i ys H' K1 K2 hi ⟨rfl,rfl⟩ k1 k2
   refine ⟨_,rfl,_,rfl,_,_,rfl,rfl,⟨by decide,by decide⟩,_,rfl,_,rfl,_,_,rfl,rfl,.inl ⟨by omega,by omega⟩,_,_,rfl,rfl,_,_,rfl,rfl,(kD rfl),_,_,ab (c / 20 + (0 + (i:Int)) * (0 + (i:Int))),rfl,rfl,hss,aHE _,k1 _ _ ⟨rfl,?_⟩⟩
   rw [Ei,AW,AW]
   show _ ++ [V.str (kL _)] = _ ++ [V.str (kL _)]
   rw [Da]
  rintro ys H' ⟨e0,rfl⟩
  subst e0
  intro p1 hp1
  have S1:=aI.upd (o:=.lst (((Az sz).map fun (j:Nat)=>kL (c / 20 + (j:Int) * (j:Int))).map V.str)) hp1
  have lsum:((((Az sz).map fun (j:Nat)=>kL (c / 20 + (j:Int) * (j:Int)))).map fun y=>y.length).sum = sz:=by
   rw [At]
   show ((Az sz).map fun _=>1).sum = sz
   have e:∀ m:Nat,((Az m).map fun _=>1).sum = m:=fun m=>by
    induction m with
    | zero=>rfl
    | succ m ih=>rw [Ei,AW,List.sum_append,ih];rfl
   exact e sz
  refine ⟨"",p1,(Az sz).map fun (j:Nat)=>kL (c / 20 + (j:Int) * (j:Int)),rfl,rfl,SqL.of aD,by rw [lsum,AA,EE,show ("":Str).length = 0 by decide +kernel];omega,?_⟩
  generalize hb:Txt.join "" ((Az sz).map fun (j:Nat)=>kL (c / 20 + (j:Int) * (j:Int))) = b
  have bc:b.cps.toList = (Az sz).map fun (j:Nat)=>ab (c / 20 + (j:Int) * (j:Int)):=by
   rw [← hb,aFD,At]
   show (((Az sz).map fun j=>[ab _]).flatten) = _
   induction (Az sz) with
   | nil=>rfl
   | cons x r ih=>rw [Ac,List.flatten_cons,ih,Ac];rfl
  have bl:b.length = sz:=by rw [iE,bc,AA,EE]
  have ball:b.cps.toList.all fL = true:=by
   rw [bc,BS]
   intro x hx
   obtain ⟨j,_,rfl⟩:=AT.mp hx
   exact oS _
  have bs:b.length ≤ An:=by omega
  have a0:0 ≤ c / 520 % ((sz:Int) + 1):=BU _ (by omega)
  have a1:c / 520 % ((sz:Int) + 1) < (sz:Int) + 1:=BM _ (by omega)
  obtain ⟨at',hat⟩:=BQ a0
  refine ⟨_,rfl,_,_,rfl,rfl,⟨by decide,by decide⟩,_,rfl,_,_,rfl,rfl,_,_,rfl,rfl,(by show (0:Int) < (sz:Int) + 1;omega),?_⟩
  dsimp only
  rw [hat]
  refine ⟨aY rfl,fun l hl=>?_⟩
  have S2:=aI.upd (o:=.lst []) hl
  have hl0:=S1.free hl
  subst hH0
  refine ⟨_,rfl,_,rfl,by omega,by omega,?_⟩
  refine oQ (lo:=0) (n:=n) (fun i σ H'=>∃ (v7 v8:Option V) (g:Nat → Str),σ = [some (.int c),some (.int n),some (.str "abcdefghijklmnopqrstuvwxyz"),some (.int sz),some (.str b),some (.int at'),some (.ref l),v7,v8] ∧ aI H0 H' ∧ H' l = some (.lst (((Az i).map g).map V.str)) ∧ ∀ k,k < i → Put (g k) b at' ((k:Int) + c / 7) ((k:Int) / 26 + c / 11))
   ⟨_,_,fun _=>"",rfl,S1.trans S2,aD,(fun k hk=>absurd hk (by omega))⟩ ?_ ?_
  ·rintro i σ H3 hi ⟨v7,v8,g,rfl,S3,hl3,pu⟩
   have sh1:∀ x y:Int,(kL x ++ kL y).cps.toList = [ab x,ab y]:=fun x y=>by rw [Tx.app_codes];rfl
   have sl1:∀ x:Int,(kL x).length = 1:=fun _=>rfl
   refine ⟨_,rfl,_,rfl,_,rfl,_,_,rfl,rfl,⟨by decide,by decide⟩,_,_,rfl,rfl,_,_,rfl,rfl,(kD rfl),_,_,ab (0 + (i:Int) + c / 7),rfl,rfl,hss,aHE _,?_⟩
   refine ⟨_,rfl,_,rfl,_,_,rfl,rfl,⟨by decide,by decide⟩,_,rfl,_,_,rfl,rfl,⟨by decide,by decide⟩,_,_,rfl,rfl,_,_,rfl,rfl,(kD rfl),_,_,ab ((0 + (i:Int)) / 26 + c / 11),rfl,rfl,hss,aHE _,_,_,rfl,rfl,(by show 1 + 1 ≤ An;omega),?_⟩
   have ia:(kL (0 + (i:Int) + c / 7) ++ kL ((0 + (i:Int)) / 26 + c / 11)).length = 2:=by rw [Tx.app_len];rfl
   have tl:(Cz b none (some (at':Int))).length ≤ 8:=by
    rw [iE,uG b at' (by omega),AZ]
    omega
   have dl:(Cz b (some (at':Int)) none).length ≤ 8:=by
    rw [iE,wM b at' (by omega),CB,← iE]
    omega
   refine ⟨_,rfl,.inl ⟨rfl,_,SqL.of hl3⟩,_,rfl,_,rfl,_,rfl,b,rfl,bs,_,rfl,_,_,rfl,rfl,?_,_,rfl,_,rfl,_,rfl,b,rfl,bs,_,_,rfl,rfl,?_,l,_,_,rfl,rfl,hl3,by rw [AA,AA,EE];omega,?_⟩
   ·refine BB (Fi tl (Eh ia)) (by omega)
   ·rw [Tx.app_len]
    refine BB (Fi (Fi tl (Eh ia)) dl) (by omega)
   ·refine ⟨_,_,fun k=>if k = i then Cz b none (some (at':Int)) ++ (kL (0 + (i:Int) + c / 7) ++ kL ((0 + (i:Int)) / 26 + c / 11)) ++ Cz b (some (at':Int)) none else g k,rfl,S3.over hl0,?_,fun k hk=>?_⟩
    ·rw [aD,Ei,AW,AW]
     have e1:(Az i).map (fun k=>if k = i then Cz b none (some (at':Int)) ++ (kL (0 + (i:Int) + c / 7) ++ kL ((0 + (i:Int)) / 26 + c / 11)) ++ Cz b (some (at':Int)) none else g k) = (Az i).map g:=Cn fun k m=>by
      rw [if_neg (by have:=EA.mp m;omega)]
     rw [e1]
     show _ = some (HO.lst (_ ++ [V.str (if i = i then _ else _)]))
     rw [if_pos rfl]
     rfl
    ·by_cases hki:k = i
     ·subst hki
      dsimp only
      rw [if_pos rfl]
      refine ⟨?_⟩
      rw [Tx.app_codes,Tx.app_codes,uG b at' (by omega),wM b at' (by omega),sh1,Da]
     ·dsimp only
      rw [if_neg hki]
      exact pu k (by omega)
  ·rintro σ H3 ⟨v7,v8,g,rfl,S3,hl3,pu⟩
   exact ⟨_,rfl,q _ l H3 (aHW ball bl (by omega) (by omega) (by omega) (by omega) pu) S3 (S1.free hl) hl3⟩
 refine ⟨_,(@aG _ _ _ _ _ (@aZ _ _ (2) _ _ _ _ eR.nd rfl (Or.inr rfl) aER (by rfl) (by trivial)) (@aG _ _ _ _ _ (@fB _ _ _ _ _ _ _ _ (@PW.pt _ _ _ (@nF _ _ _ _ _ _ _ (@cA _ _ _ _ _ _ _ _ qI (@aL _ _ _ _ _ _ _ _ cO (pv 0) aF) aF (@bQ _ _ (by decide) (by decide))) (@lT _ _ _ _ (@cA _ _ _ _ _ _ _ _ vK (pv 1) aF (@bQ _ _ (by decide) (by decide)))))) (@aH _ _ _ (@aQ _ _ _ _ (@cB _ _ _ _ _ _ _ _ _ _ _ ["_law_k","_law_cell","_law_letters"] 1 [0,2] rfl (@jH _ _ _ _ _ _ rfl T.n_range (@aA _ _ _ _ _ (pv 1) aE (by rfl)) (by rfl)) (fun R=>@aU _ _ (0) _ (show Au (["_law_k","_law_cell","_law_letters"]:List Str) by decide +kernel) rfl (Or.inl rfl) (by trivial)) (@aX _ _ (by decide)) (fun R=>cF) (fun R=>(@bD _ _ _ _ _ _ _ aAZ (pv 2) (@aL _ _ _ _ _ _ _ _ cO (@aL _ _ _ _ _ _ _ _ cQ (@aL _ _ _ _ _ _ _ _ bW (pv 1) aF) (@aL _ _ _ _ _ _ _ _ hZ aF (pv 0))) aF) (fun _ _=>rfl))) (by rfl) (by rfl) (by rfl) (by rfl) (by rfl) (by rfl) (by rfl) (by intro _;rfl)))) cE) pu2)),?_⟩
 refine ⟨_,rfl,_,_,rfl,rfl,(kD rfl),rfl,_,rfl,?_⟩
 refine jY (fun c1=>?_) (fun c1=>hu2)
 refine ⟨_,rfl,_,_,rfl,rfl,_,rfl,?_⟩
 refine jY (fun c2=>?_) (fun c2=>hu2)
 have hn26:n ≤ 26:=by
  have:=of_decide_eq_true c2
  omega
 refine ⟨_,rfl,_,rfl,by omega,by omega,?_⟩
 refine wQ (lo:=0) (n:=n) (by omega) (fun i ys H'=>H' = H ∧ ys = ((Az i).map fun (j:Nat)=>kL (c / 4 + 5 * (j:Int))).map V.str) ⟨rfl,rfl⟩ ?_ ?_ ?_
 ·rintro i ys H' ⟨rfl,rfl⟩
  simp
 ·rintro i ys H' K1 K2 hi ⟨rfl,rfl⟩ k1 k2
  refine ⟨_,rfl,_,rfl,_,_,rfl,rfl,⟨by decide,by decide⟩,_,rfl,_,_,rfl,rfl,.inl ⟨by decide,by decide⟩,_,_,rfl,rfl,_,_,rfl,rfl,(kD rfl),_,_,ab (c / 4 + 5 * (0 + (i:Int))),rfl,rfl,hss,aHE _,k1 _ _ ⟨rfl,?_⟩⟩
  rw [Ei,AW,AW]
  show _ ++ [V.str (kL _)] = _ ++ [V.str (kL _)]
  rw [Da]
 rintro ys H' ⟨rfl,rfl⟩
 intro p1 hp1
 exact q _ p1 _ (aET hn26) (aI.upd hp1) hp1 aD
open Mt21
def Tw (H:Hp) (v:V) (a b:Int):Prop:=∃ t,v = .ref t ∧ H t = some (.tup [.int a,.int b])
def zU:Sp:=sp1 fun x H Q=>∃ n:Int,x = .int n ∧ ∀ (a b:Int) (v:V) (H':Hp),aI H H' → Tw H' v a b → -1000000 ≤ b → b ≤ 1000000 → Q v H'
theorem rP (T:Txt K mg C):Fc P w K mg base 1 "_law_high" ["_law_number"] zU:=by
 refine T.d_l_high.fc aHU oV (fun f cdv A outer s H vs Q E hr h=>?_)
 obtain ⟨x,rfl,n,rfl,q⟩:=h
 refine ⟨_,(@aG _ _ _ _ _ (@fB _ _ _ _ _ _ _ _ (@cA _ _ _ _ _ _ _ _ vK (@aL _ _ _ _ _ _ _ _ cO (pv 0) aF) aF (@bQ _ _ (by decide) (by decide))) (@aH _ _ _ (@aQ _ _ _ _ (@dW _ _ _ _ _ (@aA _ _ _ _ _ (@aL _ _ _ _ _ _ _ _ bW (pv 0) aF) (@aA _ _ _ _ _ (@aL _ _ _ _ _ _ _ _ iY (@aL _ _ _ _ _ _ _ _ cO (@aL _ _ _ _ _ _ _ _ bW (pv 0) aF) aF) aF) aE (by rfl)) (by rfl))))) cE) (@aH _ _ _ (@aQ _ _ _ _ (@dW _ _ _ _ _ (@aA _ _ _ _ _ (@aL _ _ _ _ _ _ _ _ bW (@aL _ _ _ _ _ _ _ _ bW (pv 0) aF) (@aL _ _ _ _ _ _ _ _ cQ (@aL _ _ _ _ _ _ _ _ hZ aF (@aL _ _ _ _ _ _ _ _ lY aF aF)) aF)) (@aA _ _ _ _ _ (@aL _ _ _ _ _ _ _ _ iY (@aL _ _ _ _ _ _ _ _ cO (@aL _ _ _ _ _ _ _ _ bW (pv 0) aF) (@aL _ _ _ _ _ _ _ _ cQ (@aL _ _ _ _ _ _ _ _ hZ aF (@aL _ _ _ _ _ _ _ _ lY aF aF)) aF)) (@aL _ _ _ _ _ _ _ _ lY aF aF)) aE (by rfl)) (by rfl)))))),?_⟩
 refine ⟨_,rfl,_,_,rfl,rfl,(kD rfl),_,_,rfl,rfl,_,rfl,?_⟩
 refine jY (fun _=>?_) (fun _=>?_)
 ·refine ⟨_,rfl,_,_,rfl,rfl,⟨by decide,by decide⟩,_,rfl,_,_,rfl,rfl,⟨by decide,by decide⟩,_,_,rfl,rfl,(kD rfl),_,_,rfl,rfl,aY rfl,fun p hp=>q _ _ _ _ (aI.upd hp) ⟨p,rfl,aD⟩ ?_ ?_⟩
  ·show -1000000 ≤ n / 3 % 16 - 3
   omega
  ·show n / 3 % 16 - 3 ≤ 1000000
   omega
 ·have e6:=p6
  refine ⟨_,rfl,_,_,rfl,rfl,⟨by decide,by decide⟩,_,_,rfl,rfl,⟨by decide,by decide,by decide⟩,_,_,rfl,rfl,.inl ⟨by decide,by decide⟩,_,_,rfl,rfl,_,_,rfl,rfl,⟨kD rfl,by decide +kernel⟩,_,rfl,_,_,rfl,rfl,⟨by decide,by decide⟩,_,_,rfl,rfl,⟨by decide,by decide,by decide⟩,_,_,rfl,rfl,.inl ⟨by decide,by decide⟩,_,_,rfl,rfl,_,_,rfl,rfl,(kD rfl),_,_,rfl,rfl,⟨by decide,by decide,by decide⟩,_,_,rfl,rfl,aY rfl,fun p hp=>q _ _ _ _ (aI.upd hp) ⟨p,rfl,aD⟩ ?_ ?_⟩
  ·show -1000000 ≤ n / 3 % (2 * 10 ^ (6:Int).toNat + 1) - 10 ^ (6:Int).toNat
   rw [e6];omega
  ·show n / 3 % (2 * 10 ^ (6:Int).toNat + 1) - 10 ^ (6:Int).toNat ≤ 1000000
   rw [e6];omega
def aEG:Sp:=sp1 fun x H Q=>∃ n:Int,x = .int n ∧ ∀ (a b:Int) (v:V) (H':Hp),aI H H' → Tw H' v a b → 0 ≤ b → b ≤ 1000000 → Q v H'
theorem yJ (T:Txt K mg C):Fc P w K mg base 1 "_law_most" ["_law_number"] aEG:=by
 refine T.d_l_most.fc yB oV (fun f cdv A outer s H vs Q E hr h=>?_)
 obtain ⟨x,rfl,n,rfl,q⟩:=h
 have e6:=p6
 refine ⟨_,(@aG _ _ _ _ _ (@aZ _ _ (1) _ _ _ _ yB.nd rfl (Or.inl rfl) (@bD _ _ _ _ _ _ _ (@gZ _ (K) rfl) (@fC _ _ _ _ (@aA _ _ _ _ _ aF (@aA _ _ _ _ _ (@aL _ _ _ _ _ _ _ _ cQ (@aL _ _ _ _ _ _ _ _ lY aF aF) aF) aE (by rfl)) (by rfl))) (@aL _ _ _ _ _ _ _ _ cO (pv 0) aF) (fun _ _=>rfl)) (by rfl) (by trivial)) (@aH _ _ _ (@aQ _ _ _ _ (@dW _ _ _ _ _ (@aA _ _ _ _ _ (@aL _ _ _ _ _ _ _ _ bW (@aL _ _ _ _ _ _ _ _ bW (pv 0) aF) (pv 1)) (@aA _ _ _ _ _ (@aL _ _ _ _ _ _ _ _ cO (@aL _ _ _ _ _ _ _ _ bW (pv 0) aF) (pv 1)) aE (by rfl)) (by rfl)))))),?_⟩
 obtain ⟨m,em,hm⟩:=at2 (a:=8) (b:=10 ^ (6:Int).toNat + 1) (i:=n % 2) (BU _ (by decide)) (BM _ (kD rfl))
 rw [e6] at hm
 have m0:0 < m ∧ m ≤ 1000001:=by omega
 have ml:m.natAbs.log2 < 9000:=by
  have hb:m.natAbs < 2 ^ 60:=by omega
  exact DJ ((Nat.log2_lt (by omega)).mpr hb) (by decide)
 have r0:0 ≤ n / 2 % m:=BU _ (by omega)
 have r1:n / 2 % m < m:=BM _ m0.1
 refine ⟨_,_,rfl,rfl,⟨by decide,by decide,by decide⟩,_,_,rfl,rfl,aY rfl,fun p hp=>?_⟩
 refine ⟨_,rfl,_,_,rfl,rfl,(kD rfl),p,_,_,.int m,rfl,rfl,SqL.of aD,em,?_⟩
 refine ⟨_,rfl,_,_,rfl,rfl,⟨by decide,by decide⟩,_,rfl,_,_,rfl,rfl,⟨m0.1,ml⟩,_,rfl,_,_,rfl,rfl,⟨by decide,by decide⟩,_,rfl,_,_,rfl,rfl,m0.1,aY rfl,fun p2 hp2=>?_⟩
 exact q _ _ _ _ ((aI.upd hp).trans (aI.upd hp2)) ⟨p2,rfl,aD⟩ r0 (by omega)
def xX (K:AG):Sp:=sp2 fun x y H Q=>∃ n:Nat,Scr K H x ∧ y = .int n ∧ 1 ≤ n ∧ n ≤ 12 ∧ ∀ (l:Addr) (vs:List V) (fs:List Dv) (H':Hp),aI H H' → H l = none → H' l = some (.lst vs) → IsL H' fs vs → Fds fs n → Q (.ref l) H'
theorem aCU (T:Txt K mg C):Fc P w K mg base 2 "_law_fields" ["_law_script","_law_many"] (xX K):=by
 have G_l_cell_at:Fc P w K mg base 1 "_law_cell_at" ["_law_script","_law_k"] (uO K):=jF T
 have G_l_words:Fc P w K mg base 1 "_law_words" ["_law_cell","_law_many"] uK:=vQ T
 have G_l_mixed:Fc P w K mg base 1 "_law_mixed" ["_law_cell","_law_k"] pY:=pN T
 have G_l_high:Fc P w K mg base 1 "_law_high" ["_law_number"] zU:=rP T
 have G_l_most:Fc P w K mg base 1 "_law_most" ["_law_number"] aEG:=yJ T
 refine T.d_l_fields.fc gJ kM (fun f cdv A outer s H vs Q E hr h=>?_)
 obtain ⟨x,y,rfl,n,⟨a,ns,rfl,hS,hsl⟩,rfl,n1,n12,q⟩:=h
 have big:=bP
 refine ⟨_,(@aG _ _ _ _ _ (@aZ _ _ (2) _ _ _ _ gJ.nd rfl (Or.inl rfl) (@bF _ _ _ _ _ _ _ _ _ _ G_l_words (hr.mono (by decide)) (@aA _ _ _ _ _ (@bF _ _ _ _ _ _ _ _ _ _ G_l_cell_at (hr.mono (by decide)) (@aA _ _ _ _ _ (pv 0) (@aA _ _ _ _ _ aF aE (by rfl)) (by rfl)) (by rfl) (by decide) (by rfl) (by rfl)) (@aA _ _ _ _ _ (pv 1) aE (by rfl)) (by rfl)) (by rfl) (by decide) (by rfl) (by rfl)) (by rfl) (by trivial)) (@aG _ _ _ _ _ (@aZ _ _ (3) _ _ _ _ gJ.nd rfl (Or.inl rfl) (@fC _ _ _ _ aE) (by rfl) (by trivial)) (@aG _ _ _ _ _ (@iX _ _ _ _ _ _ _ _ BR rfl (@jH _ _ _ _ _ _ rfl T.n_range (@aA _ _ _ _ _ (pv 1) aE (by rfl)) (by rfl)) (@aU _ _ (4) _ gJ.nd rfl (Or.inl rfl) (by trivial)) (@aG _ _ _ _ _ (@aAK _ _ _ _ _ _ (@bF _ _ _ _ _ _ _ _ _ _ G_l_high (hr.mono (by decide)) (@aA _ _ _ _ _ (@bF _ _ _ _ _ _ _ _ _ _ G_l_mixed (hr.mono (by decide)) (@aA _ _ _ _ _ (@bF _ _ _ _ _ _ _ _ _ _ G_l_cell_at (hr.mono (by decide)) (@aA _ _ _ _ _ (pv 0) (@aA _ _ _ _ _ (@aL _ _ _ _ _ _ _ _ cQ aF (pv 4)) aE (by rfl)) (by rfl)) (by rfl) (by decide) (by rfl) (by rfl)) (@aA _ _ _ _ _ (@aL _ _ _ _ _ _ _ _ cQ (pv 4) aF) aE (by rfl)) (by rfl)) (by rfl) (by decide) (by rfl) (by rfl)) aE (by rfl)) (by rfl) (by decide) (by rfl) (by rfl)) (@vG _ _ _ _ _ _ rfl (@fX _ _ _ _ _ (@aU _ _ (5) _ gJ.nd rfl (Or.inl rfl) (by trivial)) (@fX _ _ _ _ _ (@aU _ _ (6) _ gJ.nd rfl (Or.inl rfl) (by trivial)) qF (by rfl)) (by rfl)) (by rfl) (by rfl)) (by rfl) (by rfl) (by rfl)) (@aH _ _ _ (@iL _ _ _ _ (@oY _ _ _ _ _ _ _ _ _ _ _ _ BZ Bj Bi gK (pv 3) (@aA _ _ _ _ _ (@dW _ _ _ _ _ (@aA _ _ _ _ _ (@bD _ _ _ _ _ _ _ (@gZ _ (K) rfl) (pv 2) (pv 4) (fun _ _=>rfl)) (@aA _ _ _ _ _ (pv 6) (@aA _ _ _ _ _ (@bD _ _ _ _ _ _ _ (@aS _ (K) rfl) (@bF _ _ _ _ _ _ _ _ _ _ G_l_most (hr.mono (by decide)) (@aA _ _ _ _ _ (pv 5) aE (by rfl)) (by rfl) (by decide) (by rfl) (by rfl)) aF (fun _ _=>rfl)) aE (by rfl)) (by rfl)) (by rfl))) aE (by rfl)) (by rfl) (by rfl) (by rfl) (by rfl) (by rfl)) (by rfl)))) (by intro _;rfl)) (@aH _ _ _ (@aQ _ _ _ _ (pv 3)))))),?_⟩
 refine ⟨_,rfl,_,_,rfl,a,ns,1,rfl,rfl,hS,hsl,by decide,_,rfl,_,_,rfl,_,n,rfl,rfl,by omega,fun zs ln H1 nm S1 fln hln=>?_⟩
 have zl:=nm.len
 refine ⟨aY rfl,fun l hl=>?_⟩
 have S2:=aI.upd (o:=.lst []) hl
 have T2:=S1.trans S2
 have hl0:=S1.free hl
 have hln2:=S2 _ _ hln
 refine ⟨_,rfl,_,rfl,by omega,by omega,?_⟩
 refine oQ (lo:=0) (n:=n) (fun i σ H'=>∃ (v4 v5 v6:Option V) (us:List V) (fs:List Dv),σ = [some (.ref a),some (.int n),some (.ref ln),some (.ref l),v4,v5,v6] ∧ aI H H' ∧ H' ln = some (.lst (zs.map V.str)) ∧ H' l = some (.lst us) ∧ IsL H' fs us ∧ fs.map aO = zs.take i ∧ ∀ d ∈ fs,bY d = true)
  ⟨_,_,_,[],[],rfl,T2,hln2,aD,rfl,rfl,(fun d m=>by cases m)⟩ ?_ ?_
 ·rintro i σ H3 hi ⟨v4,v5,v6,us,fs,rfl,S3,hln3,hl3,ius,enm,all⟩
  obtain ⟨z,ez⟩:∃ z,zs[i]? = some z:=⟨_,AD (by omega)⟩
  have ezv:(zs.map V.str)[i]? = some (V.str z):=by rw [AR,ez];rfl
  have gz:=nm.good z (AS ez)
  have lus:=ius.length
  have lfs:fs.length ≤ i:=by
   have:=congrArg CI enm
   rw [AA,AZ] at this
   omega
  refine ⟨_,rfl,_,rfl,_,_,rfl,rfl,_,_,rfl,a,ns,_,rfl,rfl,S3.seq hS,hsl,(by omega),_,rfl,_,_,rfl,rfl,_,_,rfl,_,_,rfl,rfl,by omega,by omega,fun m=>?_⟩
  refine ⟨_,rfl,m,rfl,fun a1 b1 v H4 S4 tw g0 g1=>?_⟩
  obtain ⟨t,rfl,et⟩:=tw
  refine ⟨t,_,rfl,SqT.of et,rfl,_,_,rfl,_,_,rfl,rfl,?_⟩
  have hl4:=S4 _ _ hl3
  have hln4:=S4 _ _ hln3
  refine ⟨_,rfl,.inl ⟨rfl,_,SqL.of hl4⟩,_,rfl,_,rfl,ln,_,_,.str z,rfl,rfl,SqL.of hln4,(by rw [Da];exact aP ezv),_,rfl,_,rfl,_,rfl,a1,rfl,fun a2 b2 v2 H5 S5 tw2 e0 e1=>?_⟩
  obtain ⟨t2,rfl,et2⟩:=tw2
  refine ⟨t2,_,1,.int b2,rfl,rfl,SqT.of et2,aP (j:=1) rfl,aY rfl,fun pt hpt=>?_⟩
  have S6:=aI.upd (o:=.tup [.str z,.int b1,.int b2]) hpt
  have T6:=S4.trans (S5.trans S6)
  have hl6:=T6 _ _ hl3
  have KT:=iW.lst (o:=.lst (us ++ [.ref pt])) hl6
  refine ⟨l,us,.ref pt,rfl,rfl,hl6,by omega,?_⟩
  have nll:l ≠ ln:=fun e=>by rw [e,hln] at hl;cases hl
  have all':∀ d ∈ fs ++ [Dv.tup [.str z,.int b1,.int b2]],bY d = true:=fun d m=>by
   rcases Ak.mp m with m | m
   ·exact all d m
   ·rw [AU.mp m];exact aMG gz g0 g1 e0 e1
  refine ⟨_,_,_,us ++ [.ref pt],fs ++ [.tup [.str z,.int b1,.int b2]],rfl,(S3.trans T6).over hl0,?_,aD,IsL.keep KT _ _ (fZ fun d m=>aFK (all' d m)) ?_,?_,all'⟩
  ·rw [aK (Ne.symm nll)];exact T6 _ _ hln3
  ·exact IsL.snoc (d:=.tup [.str z,.int b1,.int b2]) (v:=.ref pt) ⟨pt,_,rfl,aD,_,_,rfl,rfl,_,_,rfl,rfl,_,_,rfl,rfl,rfl⟩ (IsL.same T6 _ _ ius)
  ·rw [AW,enm,Ai,ez];rfl
 ·rintro σ H3 ⟨v4,v5,v6,us,fs,rfl,S3,hln3,hl3,ius,enm,all⟩
  rw [AI (by omega)] at enm
  have lfs:fs.length = n:=by
   have:=congrArg CI enm
   rw [AA] at this
   omega
  exact ⟨_,rfl,q l us fs H3 S3 hl0 hl3 ius ⟨by omega,by omega,all,by rw [enm];exact nm.nd⟩⟩
open Mt21
def aCB (K:AG):Sp:=sp3 fun x y u H Q=>∃ (n:Nat) (a:Addr) (vs:List V) (fs:List Dv) (k:Nat),Scr K H x ∧ y = .ref a ∧ H a = some (.lst vs) ∧ IsL H fs vs ∧ Fds fs k ∧ k ≤ 12 ∧ u = .int n ∧ 1 ≤ n ∧ n ≤ 40 ∧
 ∀ (l:Addr) (us:List V) (ds:List Dv) (H':Hp),aI H H' → H l = none → H' l = some (.lst us) → IsL H' ds us → Dks ("sea" :: fs.map aO) ds n → Q (.ref l) H'
theorem aEX (T:Txt K mg C):Fc P w K mg base 2 "_law_dykes" ["_law_script","_law_fields_here","_law_many"] (aCB K):=by
 have G_l_cell_at:Fc P w K mg base 1 "_law_cell_at" ["_law_script","_law_k"] (uO K):=jF T
 have G_l_words:Fc P w K mg base 1 "_law_words" ["_law_cell","_law_many"] uK:=vQ T
 have G_l_mixed:Fc P w K mg base 1 "_law_mixed" ["_law_cell","_law_k"] pY:=pN T
 have G_l_high:Fc P w K mg base 1 "_law_high" ["_law_number"] zU:=rP T
 have G_l_most:Fc P w K mg base 1 "_law_most" ["_law_number"] aEG:=yJ T
 refine T.d_l_dykes.fc cD qP (fun f cdv A outer s H vs Q E hr h=>?_)
 obtain ⟨x,y,u,rfl,n,a,ws,fs,kf,⟨sa,ns,rfl,hS,hsl⟩,rfl,ha,hi,gf,hkf,rfl,n0,n1,q⟩:=h
 have big:=bP
 have lw:=hi.length
 have f1:=gf.l1
 have f2:=gf.l2
 refine ⟨_,(@aG _ _ _ _ _ (@aZ _ _ (3) _ _ _ _ cD.nd rfl (Or.inl rfl) (@bF _ _ _ _ _ _ _ _ _ _ G_l_words (hr.mono (by decide)) (@aA _ _ _ _ _ (@bF _ _ _ _ _ _ _ _ _ _ G_l_cell_at (hr.mono (by decide)) (@aA _ _ _ _ _ (pv 0) (@aA _ _ _ _ _ aF aE (by rfl)) (by rfl)) (by rfl) (by decide) (by rfl) (by rfl)) (@aA _ _ _ _ _ (pv 2) aE (by rfl)) (by rfl)) (by rfl) (by decide) (by rfl) (by rfl)) (by rfl) (by trivial)) (@aG _ _ _ _ _ (@aZ _ _ (4) _ _ _ _ cD.nd rfl (Or.inl rfl) (@aL _ _ _ _ _ _ _ _ lZ (@fC _ _ _ _ (@aA _ _ _ _ _ aER aE (by rfl))) (@cB _ _ _ _ _ _ _ _ _ _ _ ["_law_field"] 1 [] rfl (@bT _ _ _ _ (pv 1)) (fun R=>@aU _ _ (0) _ (show Au (["_law_field"]:List Str) by decide +kernel) rfl (Or.inl rfl) (by trivial)) (@aX _ _ (by decide)) (fun R=>cF) (fun R=>(@bD _ _ _ _ _ _ _ (@aS _ (K) rfl) (pv 0) aF (fun _ _=>rfl))) (by rfl) (by rfl) (by rfl) (by rfl) (by rfl) (by rfl) (by rfl) (by intro _;rfl))) (by rfl) (by trivial)) (@aG _ _ _ _ _ (@aZ _ _ (5) _ _ _ _ cD.nd rfl (Or.inl rfl) (@fC _ _ _ _ aE) (by rfl) (by trivial)) (@aG _ _ _ _ _ (@iX _ _ _ _ _ _ _ _ BR rfl (@jH _ _ _ _ _ _ rfl T.n_range (@aA _ _ _ _ _ (pv 2) aE (by rfl)) (by rfl)) (@aU _ _ (6) _ cD.nd rfl (Or.inl rfl) (by trivial)) (@aG _ _ _ _ _ (@aZ _ _ (7) _ _ _ _ cD.nd rfl (Or.inl rfl) (@bF _ _ _ _ _ _ _ _ _ _ G_l_mixed (hr.mono (by decide)) (@aA _ _ _ _ _ (@bF _ _ _ _ _ _ _ _ _ _ G_l_cell_at (hr.mono (by decide)) (@aA _ _ _ _ _ (pv 0) (@aA _ _ _ _ _ (@aL _ _ _ _ _ _ _ _ cQ (@aL _ _ _ _ _ _ _ _ cQ aF (@aV _ _ _ _ _ _ _ _ _ (@bE _ (K) rfl) rfl T.n_len bN (@aA _ _ _ _ _ (pv 1) aE (by rfl)) (by decide) (by decide) (by rfl) (by rfl))) (pv 6)) aE (by rfl)) (by rfl)) (by rfl) (by decide) (by rfl) (by rfl)) (@aA _ _ _ _ _ (@aL _ _ _ _ _ _ _ _ cQ (pv 6) aF) aE (by rfl)) (by rfl)) (by rfl) (by decide) (by rfl) (by rfl)) (by rfl) (by trivial)) (@aG _ _ _ _ _ (@aZ _ _ (8) _ _ _ _ cD.nd rfl (Or.inl rfl) (@aL _ _ _ _ _ _ _ _ cO (pv 7) (@aV _ _ _ _ _ _ _ _ _ (@bE _ (K) rfl) rfl T.n_len bN (@aA _ _ _ _ _ (pv 4) aE (by rfl)) (by decide) (by decide) (by rfl) (by rfl))) (by rfl) (by trivial)) (@aG _ _ _ _ _ (@aZ _ _ (9) _ _ _ _ cD.nd rfl (Or.inl rfl) (@aL _ _ _ _ _ _ _ _ cO (@aL _ _ _ _ _ _ _ _ cQ (@aL _ _ _ _ _ _ _ _ cQ (pv 8) aF) (@aL _ _ _ _ _ _ _ _ cO (@aL _ _ _ _ _ _ _ _ bW (pv 7) aF) (@aV _ _ _ _ _ _ _ _ _ (@bE _ (K) rfl) rfl T.n_len bN (@aA _ _ _ _ _ (pv 1) aE (by rfl)) (by decide) (by decide) (by rfl) (by rfl)))) (@aV _ _ _ _ _ _ _ _ _ (@bE _ (K) rfl) rfl T.n_len bN (@aA _ _ _ _ _ (pv 4) aE (by rfl)) (by decide) (by decide) (by rfl) (by rfl))) (by rfl) (by trivial)) (@aG _ _ _ _ _ (@aAK _ _ _ _ _ _ (@bF _ _ _ _ _ _ _ _ _ _ G_l_high (hr.mono (by decide)) (@aA _ _ _ _ _ (@aL _ _ _ _ _ _ _ _ bW (pv 7) aF) aE (by rfl)) (by rfl) (by decide) (by rfl) (by rfl)) (@vG _ _ _ _ _ _ rfl (@fX _ _ _ _ _ (@aU _ _ (7) _ cD.nd rfl (Or.inl rfl) (by trivial)) (@fX _ _ _ _ _ (@aU _ _ (10) _ cD.nd rfl (Or.inl rfl) (by trivial)) qF (by rfl)) (by rfl)) (by rfl) (by rfl)) (by rfl) (by rfl) (by rfl)) (@aG _ _ _ _ _ (@aAK _ _ _ _ _ _ (@bF _ _ _ _ _ _ _ _ _ _ G_l_most (hr.mono (by decide)) (@aA _ _ _ _ _ (pv 7) aE (by rfl)) (by rfl) (by decide) (by rfl) (by rfl)) (@vG _ _ _ _ _ _ rfl (@fX _ _ _ _ _ (@aU _ _ (7) _ cD.nd rfl (Or.inl rfl) (by trivial)) (@fX _ _ _ _ _ (@aU _ _ (11) _ cD.nd rfl (Or.inl rfl) (by trivial)) qF (by rfl)) (by rfl)) (by rfl) (by rfl)) (by rfl) (by rfl) (by rfl)) (@aG _ _ _ _ _ (@aZ _ _ (12) _ _ _ _ cD.nd rfl (Or.inl rfl) aAM (by rfl) (by trivial)) (@aG _ _ _ _ _ (@fB _ _ _ _ _ _ _ _ (@PW.pt _ _ _ (@nF _ _ _ _ _ _ _ (@cA _ _ _ _ _ _ _ _ aCR (@aL _ _ _ _ _ _ _ _ cO (pv 7) aF) aF (@bQ _ _ (by decide) (by decide))) (@lT _ _ _ _ (@cA _ _ _ _ _ _ _ _ aCR (pv 10) (@aL _ _ _ _ _ _ _ _ iY aF (@aL _ _ _ _ _ _ _ _ lY aF aF)) (@bQ _ _ (by decide) (by decide)))))) (@aH _ _ _ (@aZ _ _ (12) _ _ _ _ cD.nd rfl (Or.inl rfl) (@aV _ _ _ _ _ _ _ _ _ (@aIW _ rfl) rfl T.n_max aIY (@aA _ _ _ _ _ (@aL _ _ _ _ _ _ _ _ iY aF (@aL _ _ _ _ _ _ _ _ lY aF aF)) (@aA _ _ _ _ _ (@aL _ _ _ _ _ _ _ _ iY (@aL _ _ _ _ _ _ _ _ iY (pv 10) aF) (@aL _ _ _ _ _ _ _ _ cO (@aL _ _ _ _ _ _ _ _ bW (pv 7) aF) (@bD _ _ _ _ _ _ _ (@gZ _ (K) rfl) (@fC _ _ _ _ (@aA _ _ _ _ _ aF (@aA _ _ _ _ _ (@aL _ _ _ _ _ _ _ _ hZ aF (@aL _ _ _ _ _ _ _ _ lY aF aF)) aE (by rfl)) (by rfl))) (@aL _ _ _ _ _ _ _ _ cO (pv 7) aF) (fun _ _=>rfl)))) aE (by rfl)) (by rfl)) (by decide) (by decide) (by rfl) (by rfl)) (by rfl) (by trivial))) cE) (@aH _ _ _ (@iL _ _ _ _ (@oY _ _ _ _ _ _ _ _ _ _ _ _ BZ Bj Bi gK (pv 5) (@aA _ _ _ _ _ (@dW _ _ _ _ _ (@aA _ _ _ _ _ (@bD _ _ _ _ _ _ _ (@gZ _ (K) rfl) (pv 3) (pv 6) (fun _ _=>rfl)) (@aA _ _ _ _ _ (@bD _ _ _ _ _ _ _ (@gZ _ (K) rfl) (pv 4) (pv 8) (fun _ _=>rfl)) (@aA _ _ _ _ _ (@bD _ _ _ _ _ _ _ (@gZ _ (K) rfl) (pv 4) (pv 9) (fun _ _=>rfl)) (@aA _ _ _ _ _ (pv 10) (@aA _ _ _ _ _ (pv 11) (@aA _ _ _ _ _ (pv 12) aE (by rfl)) (by rfl)) (by rfl)) (by rfl)) (by rfl)) (by rfl))) aE (by rfl)) (by rfl) (by rfl) (by rfl) (by rfl) (by rfl)) (by rfl)))))))))) (by intro _;rfl)) (@aH _ _ _ (@aQ _ _ _ _ (pv 5))))))),?_⟩
 refine ⟨_,rfl,_,_,rfl,sa,ns,2,rfl,rfl,hS,hsl,by decide,_,rfl,_,_,rfl,_,n,rfl,rfl,by omega,fun zs pz H0 hz S1 fpz hpz=>?_⟩
 have lz:=hz.len
 refine ⟨aY rfl,fun p1 hp1=>?_⟩
 have S2:=aI.upd (o:=.lst [.str "sea"]) hp1
 have S12:=S1.trans S2
 refine ⟨_,rfl,a,rfl,⟨_,SqL.of (S12 _ _ ha)⟩,?_⟩
 refine bI (F:=K) (xs:=ws) (by omega) (fun i ys H'=>H' = upd H0 p1 (.lst [.str "sea"]) ∧ ys = ((fs.take i).map aO).map V.str) ⟨rfl,rfl⟩ ?_ ?_ ?_
 ·rintro i ys H' hi' ⟨rfl,rfl⟩
  exact ⟨SqL.of (S12 _ _ ha),by rw [AA,AA,AZ];omega⟩
 ·rintro i x ys H' K1 K2 hx' ⟨rfl,rfl⟩ k1 k2
  have hil:i < ws.length:=(AE.mp hx').1
  obtain ⟨d,ed⟩:∃ d,fs[i]? = some d:=⟨_,AD (by omega)⟩
  obtain ⟨v,ev,iv⟩:=hi.get ed
  rw [hx'] at ev
  cases ev
  obtain ⟨z,g,e,rfl,_⟩:=bU (gf.all d (AS ed))
  obtain ⟨t,rfl,o⟩:=lJ iv
  refine ⟨_,rfl,t,_,0,.str z,rfl,rfl,SqT.of (S12 _ _ o),aP (j:=0) rfl,k1 _ _ ⟨rfl,?_⟩⟩
  rw [Ai,ed]
  simp [aO,cI]
 ·rintro ys H' ⟨rfl,rfl⟩
  intro p2 hp2
  rw [AI (by omega)]
  have S3:=aI.upd (o:=.lst ((fs.map aO).map V.str)) hp2
  refine ⟨p1,p2,_,_,rfl,rfl,S3 _ _ aD,aD,by simp only [AA,Am,Dj];omega,fun p3 hp3=>?_⟩
  have S4:=aI.upd (o:=.lst ([.str "sea"] ++ (fs.map aO).map V.str)) hp3
  have S14:=S12.trans (S3.trans S4)
  have hpz4:=(S2.trans (S3.trans S4)) pz _ hpz
  have hp34:upd (upd (upd H0 p1 (.lst [.str "sea"])) p2 (.lst ((fs.map aO).map V.str))) p3 (.lst ([.str "sea"] ++ (fs.map aO).map V.str)) p3 = some (.lst ((("sea":Str) :: fs.map aO).map V.str)):=aD
  generalize upd (upd (upd H0 p1 (.lst [.str "sea"])) p2 (.lst ((fs.map aO).map V.str))) p3 (.lst ([.str "sea"] ++ (fs.map aO).map V.str)) = H4 at S14 hpz4 hp34
  refine ⟨aY rfl,fun l hl=>?_⟩
  have S5:=aI.upd (o:=.lst []) hl
  have fl:H l = none:=S14.free hl
  have npz:pz ≠ l:=aT hpz4 hl
  have np3:p3 ≠ l:=aT hp34 hl
  have sl:((("sea":Str) :: fs.map aO).length) = fs.length + 1:=by simp
  have snd:=aJZ gf
  generalize hsd:("sea" :: fs.map aO:List Str) = sd at *
  have sl2:(sd.map V.str).length = fs.length + 1:=by rw [AA,sl]
  refine ⟨_,rfl,_,rfl,by omega,by omega,?_⟩
  refine oQ (lo:=0) (n:=n) (fun i σ H'=>∃ (v6 v7 v8 v9 v10 v11 v12:Option V) (us:List V) (ds:List Dv),σ = [some (.ref sa),some (.ref a),some (.int n),some (.ref pz),some (.ref p3),some (.ref l),v6,v7,v8,v9,v10,v11,v12] ∧ aI H H' ∧ H' pz = some (.lst (zs.map V.str)) ∧ H' p3 = some (.lst (sd.map V.str)) ∧ H' l = some (.lst us) ∧ IsL H' ds us ∧ ds.map aO = zs.take i ∧ (∀ d ∈ ds,cL sd d = true))
   ⟨_,_,_,_,_,_,_,[],[],rfl,S14.trans S5,S5 _ _ hpz4,S5 _ _ hp34,aD,rfl,rfl,fun d m=>by cases m⟩ ?_ ?_
  ·rintro i σ H' hi2 ⟨v6,v7,v8,v9,v10,v11,v12,us,ds,rfl,S,hz',hsd',hl',hi',en,af⟩
   have lf:ds.length = i:=by
    have:=congrArg CI en
    rw [AA,AZ] at this
    omega
   have lu:=hi'.length
   obtain ⟨z,ez⟩:∃ z,zs[i]? = some z:=⟨_,AD (by omega)⟩
   have gz:=hz.good z (AS ez)
   refine ⟨_,rfl,_,rfl,a,ws,rfl,.inl (SqL.of (S _ _ ha)),_,_,rfl,rfl,_,rfl,_,_,rfl,rfl,_,_,rfl,sa,ns,_,rfl,rfl,S.seq hS,hsl,(by omega),_,rfl,_,_,rfl,rfl,_,_,rfl,_,_,rfl,rfl,by omega,by omega,fun c2=>?_⟩
   have L0:(0:Int) < ((sd.map V.str).length:Int):=by omega
   refine ⟨_,rfl,_,rfl,p3,_,rfl,.inl (SqL.of hsd'),_,_,rfl,rfl,L0,?_⟩
   have f0:0 ≤ c2 % ((sd.map V.str).length:Int):=BU _ (by omega)
   have f1':c2 % ((sd.map V.str).length:Int) < ((sd.map V.str).length:Int):=BM _ L0
   have ews:(ws.length:Int) = ((sd.map V.str).length:Int) - 1:=by omega
   refine ⟨_,rfl,_,_,rfl,rfl,_,rfl,_,_,rfl,rfl,⟨by decide,by decide⟩,_,rfl,a,ws,rfl,.inl (SqL.of (S _ _ ha)),_,_,rfl,rfl,(by omega),_,_,rfl,rfl,_,rfl,p3,_,rfl,.inl (SqL.of hsd'),_,_,rfl,rfl,L0,?_⟩
   dsimp only
   rw [ews]
   obtain ⟨se0,se1,fne⟩:=aHQ (c:=c2 / 13) (f:=c2 % ((sd.map V.str).length:Int)) (L:=((sd.map V.str).length:Int)) (by omega) f0 f1' rfl rfl
   obtain ⟨fj,hfj⟩:=BQ f0
   obtain ⟨sj,hsj⟩:=BQ se0
   rw [hfj] at f1'
   rw [hsj] at se1
   rw [hfj,← hfj,hsj] at fne
   obtain ⟨za,eza⟩:∃ z,sd[fj]? = some z:=⟨_,AD (by omega)⟩
   obtain ⟨zb,ezb⟩:∃ z,sd[sj]? = some z:=⟨_,AD (by omega)⟩
   have atA:(sd.map V.str)[fj]? = some (V.str za):=by rw [AR,eza];rfl
   have atB:(sd.map V.str)[sj]? = some (V.str zb):=by rw [AR,ezb];rfl
   have iA:atI (sd.map V.str) (c2 % ((sd.map V.str).length:Int)) = some (V.str za):=by rw [hfj];exact aP atA
   have iB:atI (sd.map V.str) ((c2 % ((sd.map V.str).length:Int) + 1 + c2 / 13 % (((sd.map V.str).length:Int) - 1)) % ((sd.map V.str).length:Int)) = some (V.str zb):=by rw [hsj];exact aP atB
   have zab:za ≠ zb:=aSC snd eza ezb (by omega)
   refine ⟨_,rfl,_,_,rfl,rfl,⟨by decide,by decide⟩,_,rfl,_,rfl,fun n3 cr tv H5 S5' tw cr0 cr1=>?_⟩
   obtain ⟨t5,rfl,et5⟩:=tw
   refine ⟨t5,_,rfl,SqT.of et5,rfl,_,_,rfl,_,_,rfl,rfl,?_⟩
   refine ⟨_,rfl,_,rfl,n3,rfl,fun n4 rt tv6 H6 S6 tw6 rt0 rt1=>?_⟩
   obtain ⟨t6,rfl,et6⟩:=tw6
   refine ⟨t6,_,rfl,SqT.of et6,rfl,_,_,rfl,_,_,rfl,rfl,?_⟩
   have U6:=S5'.trans S6
   have S7:=S.trans U6
   have hz7:=U6 _ _ hz'
   have hsd7:=U6 _ _ hsd'
   have hl7:=U6 _ _ hl'
   have hi7:=IsL.same U6 _ _ hi'
   have fin:∀ (sv:V) (sdv:Dv) (H2:Hp),aI H H2 → H2 pz = some (.lst (zs.map V.str)) → H2 p3 = some (.lst (sd.map V.str)) → H2 l = some (.lst us) → IsL H2 ds us → (∀ H3,Is H3 sdv sv) → mF (.int cr) sdv = true →
     ∀ t,H2 t = none → ∃ us' ds',aI H (upd (upd H2 t (.tup [.str z,.str za,.str zb,.int cr,.int rt,sv])) l (.lst us')) ∧ us' = us ++ [.ref t] ∧ upd (upd H2 t (.tup [.str z,.str za,.str zb,.int cr,.int rt,sv])) l (.lst us') pz = some (.lst (zs.map V.str)) ∧
      upd (upd H2 t (.tup [.str z,.str za,.str zb,.int cr,.int rt,sv])) l (.lst us') p3 = some (.lst (sd.map V.str)) ∧ IsL (upd (upd H2 t (.tup [.str z,.str za,.str zb,.int cr,.int rt,sv])) l (.lst us')) ds' us' ∧ ds'.map aO = zs.take (i + 1) ∧ (∀ d ∈ ds',cL sd d = true):=by
    intro sv sdv H2 S' hz2 hs2 hl2 hi2' his hsl t ht
    have S3':=aI.upd (o:=.tup [.str z,.str za,.str zb,.int cr,.int rt,sv]) ht
    have hl3:=S3' _ _ hl2
    have ok:cL sd (.tup [.str z,.str za,.str zb,.int cr,.int rt,sdv]) = true:=aOU gz (AS eza) (AS ezb) zab (aBC cr0 cr1) (aRD rt0 rt1) hsl
    refine ⟨us ++ [.ref t],ds ++ [.tup [.str z,.str za,.str zb,.int cr,.int rt,sdv]],(S'.trans S3').over fl,rfl,?_,?_,?_,?_,?_⟩
    ·rw [aK npz]
     exact S3' _ _ hz2
    ·rw [aK np3]
     exact S3' _ _ hs2
    ·refine IsL.keep (iW.lst hl3) _ _ (fZ fun d m=>aIP (zs:=sd) ?_) (IsL.snoc ?_ (IsL.same S3' _ _ hi2'))
     ·rcases Ak.mp m with m | m
      ·exact af d m
      ·rw [AU.mp m]
       exact ok
     ·exact ⟨t,_,rfl,aD,.str z,_,rfl,rfl,.str za,_,rfl,rfl,.str zb,_,rfl,rfl,.int cr,_,rfl,rfl,.int rt,_,rfl,rfl,sv,_,rfl,his _,rfl⟩
    ·rw [AW,en,Ai,ez]
     rfl
    ·intro d m
     rcases Ak.mp m with m | m
     ·exact af d m
     ·rw [AU.mp m]
      exact ok
   refine ⟨_,rfl,_,_,rfl,rfl,(kD rfl),_,_,rfl,rfl,_,rfl,?_⟩
   have iz:atI (zs.map V.str) (0 + (i:Int)) = some (V.str z):=by rw [Da];exact aP (by rw [AR,ez];rfl)
   refine jY (fun t1=>?_) (fun t1=>?_)
   ·refine ⟨_,rfl,_,_,rfl,rfl,⟨by decide,by decide,by decide⟩,_,_,rfl,rfl,_,_,rfl,rfl,_,rfl,?_⟩
    refine jY (fun t2=>?_) (fun t2=>?_)
    ·have t2':0 - (10:Int) ^ (6:Int).toNat < cr:=of_decide_eq_true t2
     rw [p6] at t2'
     refine ⟨_,_,rfl,rfl,⟨by decide,by decide,by decide⟩,_,_,rfl,rfl,?_⟩
     refine ⟨_,rfl,_,_,rfl,rfl,_,rfl,_,_,rfl,rfl,⟨by decide,by decide⟩,_,_,rfl,rfl,⟨by decide,by decide,by decide⟩,_,_,rfl,rfl,.inl ⟨by decide,by decide⟩,aY rfl,fun pl hpl=>?_⟩
     obtain ⟨md,emd,hmd⟩:=at2 (a:=9) (b:=2 * 10 ^ (6:Int).toNat) (i:=n4 % 2) (BU _ (by decide)) (BM _ (kD rfl))
     rw [p6] at hmd
     refine ⟨_,rfl,_,_,rfl,rfl,(kD rfl),pl,_,_,.int md,rfl,rfl,SqL.of aD,emd,_,_,rfl,rfl,(by show 0 < md;omega),_,_,rfl,rfl,_,_,rfl,?_⟩
     have q0:0 ≤ n4 / 4 % md:=BU _ (by omega)
     generalize n4 / 4 % md = qq at *
     generalize hsi:(if cr - 1 - qq > 0 - (10:Int) ^ (6:Int).toNat then cr - 1 - qq else 0 - (10:Int) ^ (6:Int).toNat) = si
     rw [p6] at hsi
     have s2:-1000000 ≤ si ∧ si < cr:=by
      rw [← hsi]
      split <;> omega
     have hss:mF (.int cr) (.int si) = true:=by
      show (hgt si && decide (si < cr)) = true
      rw [aBC s2.1 (by omega),decide_eq_true s2.2]
      rfl
     have R:=aI.upd (o:=.lst [.int 9,.int (2 * 10 ^ (6:Int).toNat)]) hpl
     refine ⟨_,rfl,.inl ⟨rfl,_,SqL.of (R _ _ hl7)⟩,_,rfl,_,rfl,pz,_,0 + (i:Int),.str z,rfl,rfl,SqL.of (R _ _ hz7),iz,?_⟩
     refine ⟨_,rfl,_,rfl,p3,_,_,.str za,rfl,rfl,SqL.of (R _ _ hsd7),iA,_,rfl,_,rfl,p3,_,_,.str zb,rfl,rfl,SqL.of (R _ _ hsd7),iB,_,rfl,_,rfl,?_⟩
     refine ⟨_,rfl,aY rfl,fun t ht=>?_⟩
     obtain ⟨us',ds',g1,rfl,g2,g3,g4,g5,g6⟩:=fin (.int si) (.int si) _ (S7.trans R) (R _ _ hz7) (R _ _ hsd7) (R _ _ hl7) (IsL.same R _ _ hi7) (fun _=>rfl) hss t ht
     exact ⟨l,us,.ref t,rfl,rfl,(aI.upd ht) _ _ (R _ _ hl7),by omega,_,_,_,_,_,_,_,_,ds',rfl,g1,g2,g3,aD,g4,g5,g6⟩
    ·refine ⟨_,rfl,.inl ⟨rfl,_,SqL.of hl7⟩,_,rfl,_,rfl,pz,_,0 + (i:Int),.str z,rfl,rfl,SqL.of hz7,iz,?_⟩
     refine ⟨_,rfl,_,rfl,p3,_,_,.str za,rfl,rfl,SqL.of hsd7,iA,_,rfl,_,rfl,p3,_,_,.str zb,rfl,rfl,SqL.of hsd7,iB,_,rfl,_,rfl,?_⟩
     refine ⟨_,rfl,aY rfl,fun t ht=>?_⟩
     obtain ⟨us',ds',g1,rfl,g2,g3,g4,g5,g6⟩:=fin .non .non _ S7 hz7 hsd7 hl7 hi7 (fun _=>rfl) rfl t ht
     exact ⟨l,us,.ref t,rfl,rfl,(aI.upd ht) _ _ hl7,by omega,_,_,_,_,_,_,_,_,ds',rfl,g1,g2,g3,aD,g4,g5,g6⟩
   ·refine ⟨_,rfl,.inl ⟨rfl,_,SqL.of hl7⟩,_,rfl,_,rfl,pz,_,0 + (i:Int),.str z,rfl,rfl,SqL.of hz7,iz,?_⟩
    refine ⟨_,rfl,_,rfl,p3,_,_,.str za,rfl,rfl,SqL.of hsd7,iA,_,rfl,_,rfl,p3,_,_,.str zb,rfl,rfl,SqL.of hsd7,iB,_,rfl,_,rfl,?_⟩
    refine ⟨_,rfl,aY rfl,fun t ht=>?_⟩
    obtain ⟨us',ds',g1,rfl,g2,g3,g4,g5,g6⟩:=fin .non .non _ S7 hz7 hsd7 hl7 hi7 (fun _=>rfl) rfl t ht
    exact ⟨l,us,.ref t,rfl,rfl,(aI.upd ht) _ _ hl7,by omega,_,_,_,_,_,_,_,_,ds',rfl,g1,g2,g3,aD,g4,g5,g6⟩
  ·rintro σ H' ⟨v6,v7,v8,v9,v10,v11,v12,us,ds,rfl,S,hz',hsd',hl',hi',en,af⟩
   rw [AI (by omega)] at en
   have lf:ds.length = zs.length:=by
    have:=congrArg CI en
    rwa [AA] at this
   refine ⟨_,rfl,q l us ds H' S fl hl' hi' ⟨by omega,by omega,af,by rw [en];exact hz.nd⟩⟩
open Mt53
theorem mI (a b:Int):decide (V.int a = V.int b) = decide (a = b):=by
 by_cases h:a = b
 ·subst h;simp
 ·rw [decide_eq_false h,decide_eq_false (fun c=>h (by cases c;rfl))]
def rD:Sp:=sp2 fun x y H Q=>∃ (t:Addr) (n a b:Str) (c r h:Int) (sv:V),x = .ref t ∧ y = .int h ∧ H t = some (.tup [.str n,.str a,.str b,.int c,.int r,sv]) ∧ 0 ≤ r ∧ r ≤ 1000000 ∧ Q (.int (r * (h - c))) H
theorem pE (T:Txt K mg C):Fc P w K mg base 1 "coins_to" ["dyke","height"] rD:=by
 refine T.d_p_coins_to.fc xE kM (fun f cdv A outer s H vs Q E hr h=>?_)
 obtain ⟨x,y,rfl,t,n,a,b,c,r,h,sv,rfl,rfl,o,r0,r1,q⟩:=h
 refine ⟨_,(@aH _ _ _ (@aQ _ _ _ _ (@aL _ _ _ _ _ _ _ _ hZ (@bD _ _ _ _ _ _ _ (@aS _ (K) rfl) (pv 0) aF (fun _ _=>rfl)) (@aL _ _ _ _ _ _ _ _ iY (pv 1) (@bD _ _ _ _ _ _ _ (@aS _ (K) rfl) (pv 0) aF (fun _ _=>rfl)))))),?_⟩
 exact ⟨_,rfl,t,_,4,.int r,rfl,rfl,SqT.of o,aP (j:=4) rfl,_,rfl,_,rfl,t,_,3,.int c,rfl,rfl,SqT.of o,aP (j:=3) rfl,_,_,rfl,rfl,_,_,rfl,rfl,.inl ⟨by omega,by omega⟩,q⟩
theorem aMW {r:Int} (h:amt r = true):0 ≤ r ∧ r ≤ 1000000:=by
 have:=BF.mp h
 exact ⟨of_decide_eq_true this.1,of_decide_eq_true this.2⟩
theorem aBO {zs:List Str} {ds ws:List Dv} (gd:GoodD zs ds) (gw:GoodW ds ws) (lw:ws.length ≤ 1000):small (.lst ws) = true:=rR (fun d m=>by
  obtain ⟨z,v,rfl,hz,_⟩:=pH (gw.all d m)
  obtain ⟨d',md,rfl⟩:=AT.mp hz
  obtain ⟨n,a,b,c,r,sl,rfl,hn,_⟩:=bJ (gd.all d' md)
  have e:=mC hn
  show (decide (2 ≤ 1000) && (decide (n.length ≤ 1000) && (true && true))) = true
  rw [decide_eq_true e]
  rfl) lw
def xY (C:Addr):Sp:=sp2 fun x y H Q=>∃ (p:Addr) (fs ds ws:List Dv),x = .ref p ∧ LandAt C H p fs ds ∧ Is H (.lst ws) y ∧ ws.length ≤ 1000 ∧ GoodW ds ws ∧ Q (.int (aBG ds ws)) H
theorem xI (T:Txt K mg C):Fc P w K mg base 5 "coins_of" ["land","works"] (xY C):=by
 have G_p_are_works:Fc P w K mg base 4 "are_works" ["land","thing"] (aGA C):=vN T
 have G_p_coins_to:Fc P w K mg base 1 "coins_to" ["dyke","height"] rD:=pE T
 have G_land_p_dyke:Mc P w K mg base 1 C "dyke" ["self","name"] (uC C):=jW T
 refine T.d_p_coins_of.fcD xF kM (fun f cdv A outer s H vs Q E hr h=>?_)
 obtain ⟨x,y,rfl,p,fs,ds,ws,rfl,L,hw,lw,gw,q⟩:=h
 have big:=bP
 obtain ⟨dx,e1,e2,hx,_⟩:=L.ex
 have no:∀ m:Str,¬ m = "dyke_rows" → ¬ m = "field_rows" → (nO e1 e2).lookup m = none:=fun m h1 h2=>lB _ _ h1 h2
 have gd:=(bX L).2
 refine ⟨_,(@aG _ _ _ _ _ (@fB _ _ _ _ _ _ _ _ (@eN _ _ _ _ (@dQ _ _ _ (@bF _ _ _ _ _ _ _ _ _ _ G_p_are_works (hr.mono (by decide)) (@aA _ _ _ _ _ (pv 0) (@aA _ _ _ _ _ (pv 1) aE (by rfl)) (by rfl)) (by rfl) (by decide) (by rfl) (by rfl)) (by intro _;rfl))) (@aH _ _ _ lA) cE) (@aH _ _ _ (@aQ _ _ _ _ (@aV _ _ _ _ _ _ _ _ _ (@aMT _ rfl) rfl T.n_sum aIX (@aA _ _ _ _ _ (@cB _ _ _ _ _ _ _ _ _ _ _ ["work","land"] 1 [0] rfl (@bT _ _ _ _ (pv 1)) (fun R=>@aU _ _ (0) _ (show Au (["work","land"]:List Str) by decide +kernel) rfl (Or.inl rfl) (by trivial)) (@aX _ _ (by decide)) (fun R=>cF) (fun R=>(@bF _ _ _ _ _ _ _ _ _ _ G_p_coins_to (hr.mono (by decide)) (@aA _ _ _ _ _ (@aNZ _ _ _ _ _ _ _ _ _ _ _ _ _ _ T.cl_Land G_land_p_dyke (hr.mono (by decide)) (pv 1) (@aA _ _ _ _ _ (@bD _ _ _ _ _ _ _ (@aS _ (K) rfl) (pv 0) aF (fun _ _=>rfl)) aE (by rfl)) (by rfl) (by rfl) (by rfl)) (@aA _ _ _ _ _ (@bD _ _ _ _ _ _ _ (@aS _ (K) rfl) (pv 0) aF (fun _ _=>rfl)) aE (by rfl)) (by rfl)) (by rfl) (by decide) (by rfl) (by rfl))) (by rfl) (by rfl) (by rfl) (by rfl) (by rfl) (by rfl) (by rfl) (by intro _;rfl)) aE (by rfl)) (by decide) (by decide) (by rfl) (by rfl))))),?_⟩
 refine ⟨_,rfl,_,rfl,_,_,rfl,p,fs,ds,.lst ws,rfl,L,hw,aBO gd gw lw,_,rfl,?_⟩
 rw [(aIK ds ws).mpr gw]
 refine bO ?_
 obtain ⟨a,us,rfl,ho,hi⟩:=hw
 have lu:=hi.length
 refine ⟨_,rfl,a,rfl,⟨_,SqL.of ho⟩,?_⟩
 refine bI (F:=K) (xs:=us) (by omega) (fun i ys H'=>H' = H ∧ ys = ((ws.take i).map (aDP ds)).map V.int) ⟨rfl,rfl⟩ ?_ ?_ ?_
 ·rintro i ys H' hi' ⟨rfl,rfl⟩
  exact ⟨SqL.of ho,by rw [AA,AA,AZ];omega⟩
 ·rintro i x ys H' K1 K2 hx' ⟨rfl,rfl⟩ k1 k2
  have hil:i < us.length:=(AE.mp hx').1
  obtain ⟨d,ed⟩:∃ d,ws[i]? = some d:=⟨_,AD (by omega)⟩
  obtain ⟨v,ev,iv⟩:=hi.get ed
  rw [hx'] at ev
  cases ev
  obtain ⟨z,h,rfl,mz,_⟩:=pH (gw.all d (AS ed))
  obtain ⟨d',md,rfl⟩:=AT.mp mz
  obtain ⟨t,rfl,o⟩:=aJD iv
  have ec:=wP gd.nd md
  have er:=aGO gd.nd md
  refine ⟨_,rfl,p,dx,_,rfl,hx,no _ (by decide +kernel) (by decide +kernel),_,rfl,t,_,0,_,rfl,rfl,SqT.of o,aP (j:=0) rfl,_,_,rfl,p,fs,ds,d',rfl,rfl,L,md,fun v1 iv1=>?_⟩
  obtain ⟨n,a',b',c,r,sl,rfl,_,_,_,_,_,hr',_⟩:=bJ (gd.all d' md)
  obtain ⟨t',sv,rfl,o',_⟩:=lK iv1
  obtain ⟨r0,r1⟩:=aMW hr'
  refine ⟨_,rfl,t,_,1,.int h,rfl,rfl,SqT.of o,aP (j:=1) rfl,_,_,rfl,t',n,a',b',c,r,h,sv,rfl,rfl,o',r0,r1,k1 _ _ ⟨rfl,?_⟩⟩
  rw [Ai,ed,AW,AW]
  have e:aDP ds (.tup [.str n,.int h]) = r * (h - c):=by
   show vC ds n * (h - hE ds n) = _
   rw [show hE ds n = c from ec,show vC ds n = r from er]
  show _ ++ [V.int _] = _ ++ [V.int (aDP ds (.tup [.str n,.int h]))]
  rw [e]
 ·rintro ys H' ⟨rfl,rfl⟩
  intro p1 hp1
  rw [AI (by omega)] at *
  exact ⟨p1,_,rfl,SqL.of aD,cP.of (hJ.lst hp1) q⟩
open Mt22 MtF
theorem aQN {zs:List Str} {n:Int} (h1:1 ≤ zs.length) (h2:(zs.length:Int) ≤ n):aLI n (.lst (zs.map Dv.str)) = true:=by
 unfold aLI
 simp only [AA]
 rw [decide_eq_true (by omega),decide_eq_true (by omega)]
 rfl
def aJP (C:Addr):Sp:=sp2 fun x y H Q=>∃ (p l:Addr) (fs ds:List Dv) (zs:List Str),x = .ref p ∧ LandAt C H p fs ds ∧ y = .ref l ∧ H l = some (.lst (zs.map V.str)) ∧ 1 ≤ zs.length ∧ zs.Nodup ∧ (∀ z ∈ zs,z ∈ fs.map aO) ∧ ∀ H',aI H H' → Q (.bl true) H'
theorem nK (T:Txt K mg C):Fc P w K mg base 2 "are_some_fields" ["land","thing"] (aJP C):=by
 have G_land_p_field_names:Mc P w K mg base 1 C "field_names" ["self"] (aEC C fun fs _=>fs.map aO):=mO T
 have G_p_is_list_of:Fc P w K mg base 1 "is_list_of" ["thing","most"] pZ:=jA T
 have G_p_is_one_of:Fc P w K mg base 1 "is_one_of" ["thing","names"] (uB K):=jV T
 refine T.d_p_are_some_fields.fc iO kM (fun f cdv A outer s H vs Q E hr h=>?_)
 obtain ⟨x,y,rfl,p,l,fs,ds,zs,rfl,L,rfl,hl,l1,nd,sub,q⟩:=h
 have big:=bP
 have gf:=(bX L).1
 have f2:=gf.l2
 have lz:zs.length ≤ fs.length:=by
  have:=pP nd sub
  rw [AA] at this
  exact this
 obtain ⟨dx,d1,d2,hx,_⟩:=L.ex
 refine ⟨_,(@aG _ _ _ _ _ (@aZ _ _ (2) _ _ _ _ iO.nd rfl (Or.inr rfl) (@aKZ _ _ _ _ _ _ _ _ _ _ _ T.cl_Land G_land_p_field_names (hr.mono (by decide)) (pv 0) (by rfl)) (by rfl) (by trivial)) (@aG _ _ _ _ _ (@fB _ _ _ _ _ _ _ _ (@PW.pt _ _ _ (@vD _ _ _ _ _ _ _ (@eN _ _ _ _ (@dQ _ _ _ (@bF _ _ _ _ _ _ _ _ _ _ G_p_is_list_of (hr.mono (by decide)) (@aA _ _ _ _ _ (pv 1) (@aA _ _ _ _ _ (@aV _ _ _ _ _ _ _ _ _ (@bE _ (K) rfl) rfl T.n_len bN (@aA _ _ _ _ _ (pv 2) aE (by rfl)) (by decide) (by decide) (by rfl) (by rfl)) aE (by rfl)) (by rfl)) (by rfl) (by decide) (by rfl) (by rfl)) (by intro _;rfl))) (@rK _ _ _ _ (@eN _ _ _ _ (@dQ _ _ _ (@aV _ _ _ _ _ _ _ _ _ (@oA _ rfl) rfl T.n_all lM (@aA _ _ _ _ _ (@cB _ _ _ _ _ _ _ _ _ _ _ ["name","names"] 1 [2] rfl (@bT _ _ _ _ (pv 1)) (fun R=>@aU _ _ (0) _ (show Au (["name","names"]:List Str) by decide +kernel) rfl (Or.inl rfl) (by trivial)) (@aX _ _ (by decide)) (fun R=>cF) (fun R=>(@bF _ _ _ _ _ _ _ _ _ _ G_p_is_one_of (hr.mono (by decide)) (@aA _ _ _ _ _ (pv 0) (@aA _ _ _ _ _ (pv 1) aE (by rfl)) (by rfl)) (by rfl) (by decide) (by rfl) (by rfl))) (by rfl) (by rfl) (by rfl) (by rfl) (by rfl) (by rfl) (by rfl) (by intro _;rfl)) aE (by rfl)) (by decide) (by decide) (by rfl) (by rfl)) (by intro _;rfl)))))) (@aH _ _ _ (@aQ _ _ _ _ oZ)) cE) (@aH _ _ _ (@aQ _ _ _ _ (@dG _ _ _ _ _ _ _ _ qI (@aV _ _ _ _ _ _ _ _ _ call_len_set rfl T.n_len bN (@aA _ _ _ _ _ (@bH _ _ _ _ _ _ _ _ _ (@pF _ rfl) rfl T.n_set sI (@aA _ _ _ _ _ (pv 1) aE (by rfl)) (by decide) (by decide) (by rfl) (by rfl)) aE (by rfl)) (by decide) (by decide) (by rfl) (by rfl)) (@aV _ _ _ _ _ _ _ _ _ (@bE _ (K) rfl) rfl T.n_len bN (@aA _ _ _ _ _ (pv 1) aE (by rfl)) (by decide) (by decide) (by rfl) (by rfl)) (@bQ _ _ (by decide) (by decide))))))),?_⟩
 refine ⟨_,rfl,p,dx,_,rfl,hx,lB _ _ (by decide +kernel) (by decide +kernel),_,rfl,p,fs,ds,rfl,L,fun ln H1 S1 fln hln=>?_⟩
 have hl1:=S1 _ _ hl
 refine ⟨_,rfl,_,rfl,ln,_,rfl,.inl (SqL.of hln),_,_,rfl,.lst (zs.map Dv.str),_,aNI hl1,rfl,_,rfl,?_⟩
 rw [aQN l1 (by rw [AA,AA];omega)]
 refine bO ?_
 refine ⟨_,rfl,l,rfl,⟨_,SqL.of hl1⟩,?_⟩
 refine bI (F:=K) (xs:=zs.map V.str) (by rw [AA];omega) (fun i ys H'=>H1 = H' ∧ ys = (zs.take i).map fun z=>V.bl true) ⟨rfl,rfl⟩ ?_ ?_ ?_
 ·rintro i ys H' hi' ⟨rfl,rfl⟩
  exact ⟨SqL.of hl1,by rw [AA,AZ];omega⟩
 ·rintro i xv ys H' K1 K2 hx ⟨rfl,rfl⟩ k1 k2
  obtain ⟨z,ez⟩:∃ z,zs[i]? = some z:=by
   have:=(AE.mp hx).1
   rw [AA] at this
   exact ⟨_,AD this⟩
  rw [AR,ez] at hx
  cases hx
  refine ⟨_,rfl,_,rfl,_,_,rfl,.str z,ln,_,rfl,rfl,SqL.of hln,?_⟩
  rw [show qJ (fs.map aO) (.str z) = true from decide_eq_true (sub z (AS ez))]
  refine k1 _ _ ⟨rfl,?_⟩
  rw [Ai,ez,AW]
  rfl
 rintro ys H' ⟨rfl,rfl⟩
 rw [AA,AI (AL _)]
 intro p4 hp4
 have S4:=aI.upd (o:=.lst (zs.map fun z=>V.bl true)) hp4
 refine ⟨p4,zs.map fun _=>true,rfl,SqL.of ?_,_,rfl,?_⟩
 ·rw [aD,At]
  rfl
 rw [show (zs.map fun _=>true).all id = true from BS.mpr fun b m=>by obtain ⟨z,_,rfl⟩:=AT.mp m;rfl]
 refine bO ?_
 have hl4:=S4 _ _ hl1
 refine ⟨_,rfl,l,zs.map Sum.inr,rfl,SqL.of (by rw [hl4,aGT]),by rw [AA];omega,fun p5 hp5=>?_⟩
 have hle:=aBF (zs.map (Sum.inr:Str → Key))
 rw [AA] at hle
 refine ⟨p5,_,_,rfl,aD,by omega,_,rfl,l,zs.map V.str,rfl,.inl (SqL.of (by rw [aK (aT hl4 hp5)];exact hl4)),rfl,?_⟩
 have e:decide (V.int ((lL (zs.map (Sum.inr:Str → Key))).length:Int) = V.int ((zs.map V.str).length:Int)) = true:=by
  rw [mI,AA,(zB _).mpr ((iD zs).mpr nd),AA]
  first | exact decide_eq_true rfl | exact beq_self_eq_true _
 rw [e]
 exact q _ (S1.trans (S4.trans (aI.upd hp5)))
def uL (C:Addr):Sp:=sp3 fun x y u H Q=>∃ (p l:Addr) (fs ds:List Dv) (zs:List Str) (L:Int),x = .ref p ∧ LandAt C H p fs ds ∧ y = .ref l ∧ H l = some (.lst (zs.map V.str)) ∧ 1 ≤ zs.length ∧ zs.Nodup ∧ (∀ z ∈ zs,z ∈ fs.map aO) ∧ u = .int L ∧ hgt L = true ∧ ∀ H',aI H H' → Q .non H'
theorem mL (T:Txt K mg C):Fc P w K mg base 3 "check_wish" ["land","fields","height"] (uL C):=by
 have G_p_are_some_fields:Fc P w K mg base 2 "are_some_fields" ["land","thing"] (aJP C):=nK T
 have G_p_is_height:Fc P w K mg base 2 "is_height" ["thing"] jK:=dR T
 refine T.d_p_check_wish.fc tK qP (fun f cdv A outer s H vs Q E hr h=>?_)
 obtain ⟨x,y,u,rfl,p,l,fs,ds,zs,lv,rfl,L,rfl,hl,l1,nd,sub,rfl,hL,q⟩:=h
 refine ⟨_,(@aH _ _ _ (@fB _ _ _ _ _ _ _ _ (@PW.pt _ _ _ (@vD _ _ _ _ _ _ _ (@eN _ _ _ _ (@dQ _ _ _ (@bF _ _ _ _ _ _ _ _ _ _ G_p_are_some_fields (hr.mono (by decide)) (@aA _ _ _ _ _ (pv 0) (@aA _ _ _ _ _ (pv 1) aE (by rfl)) (by rfl)) (by rfl) (by decide) (by rfl) (by rfl)) (by intro _;rfl))) (@rK _ _ _ _ (@eN _ _ _ _ (@dQ _ _ _ (@bF _ _ _ _ _ _ _ _ _ _ G_p_is_height (hr.mono (by decide)) (@aA _ _ _ _ _ (pv 2) aE (by rfl)) (by rfl) (by decide) (by rfl) (by rfl)) (by intro _;rfl)))))) (@aH _ _ _ lA) cE)),?_⟩
 refine ⟨_,rfl,_,rfl,_,_,rfl,p,l,fs,ds,zs,rfl,L,rfl,hl,l1,nd,sub,fun H1 S1=>⟨_,rfl,bO ?_⟩⟩
 refine ⟨_,rfl,_,rfl,.int lv,rfl,_,rfl,?_⟩
 rw [show fY (.int lv) = true from hL]
 exact bO (q H1 S1)
open Mt53 Mt22 MtF Mt31 Mt61
def nM (fs:List Dv) (L:Int) (z:Str):Bool:=decide (z = "sea") || decide (qR fs z < L)
def gOf (L:Int):Dv → Gap
 | .tup [.str n,.str a,.str b,.int c,.int r,_]=>⟨n,a,b,r * (L - c)⟩
 | _=>⟨"","","",0⟩
def isG (fs:List Dv) (L:Int):Dv → Bool
 | .tup [.str _,.str a,.str b,.int c,.int _,_]=>decide (c < L) && (nM fs L a && nM fs L b)
 | _=>false
def aW (fs ds:List Dv) (L:Int):List Gap:=(ds.filter (isG fs L)).map (gOf L)
def dH (G:List Gap):List (Key × V):=G.map fun g=>(Sum.inr g.nm,V.int g.cap)
theorem aLY {zs:List Str} {d:Dv} (h:cL zs d = true) (L:Int):(gOf L d).nm = aO d:=by
 obtain ⟨n,a,b,c,r,s,rfl,_⟩:=bJ h
 rfl
theorem qS {fs ds:List Dv} (gf:GoodF fs) (gd:GoodD ("sea" :: fs.map aO) ds) (L:Int):Gaps ("sea" :: fs.map aO) (aW fs ds L):=by
 have mem:∀ g ∈ aW fs ds L,∃ d ∈ ds,isG fs L d = true ∧ g = gOf L d:=fun g m=>by
  obtain ⟨d,md,rfl⟩:=AT.mp m
  rw [Ar] at md
  exact ⟨d,md.1,md.2,rfl⟩
 refine ⟨?_,fun g m=>?_,fun g m=>?_,?_,AY⟩
 ·have e:(aW fs ds L).map (·.nm) = (ds.filter (isG fs L)).map aO:=by
   unfold aW
   rw [At]
   refine Cn fun d md=>?_
   exact aLY (gd.all d (Ar.mp md).1) L
  rw [e]
  exact CU (Ec.map _ Co) gd.nd
 ·obtain ⟨d,md,_,rfl⟩:=mem g m
  obtain ⟨n,a,b,c,r,s,rfl,_,ha,hb,hab,_⟩:=bJ (gd.all d md)
  exact ⟨ha,hb,hab⟩
 ·obtain ⟨d,md,hg,rfl⟩:=mem g m
  obtain ⟨n,a,b,c,r,s,rfl,_,ha,hb,hab,hc,hr,_⟩:=bJ (gd.all d md)
  have h1:c < L:=of_decide_eq_true (BF.mp (show (decide (c < L) && (nM fs L a && nM fs L b)) = true from hg)).1
  have h2:0 ≤ r:=by
   have:=BF.mp (show (decide (0 ≤ r) && decide (r ≤ 1000000)) = true from hr)
   exact of_decide_eq_true this.1
  show 0 ≤ r * (L - c)
  exact Fj h2 (by omega)
 ·rw [Aq]
  refine ⟨fun m=>?_,gf.nd⟩
  obtain ⟨d,md,e⟩:=AT.mp m
  obtain ⟨z,g,u,rfl,hz,_⟩:=bU (gf.all d md)
  exact aAC hz e
def aPI (C:Addr):Sp:=sp3 fun x y u H Q=>∃ (p:Addr) (fs ds:List Dv) (z:Str) (L:Int),x = .ref p ∧ LandAt C H p fs ds ∧ y = .str z ∧ z ∈ (("sea":Str) :: fs.map aO) ∧ u = .int L ∧ Q (.bl (nM fs L z)) H
theorem aCS (T:Txt K mg C):Fc P w K mg base 2 "is_low" ["land","side","height"] (aPI C):=by
 have G_land_p_ground:Mc P w K mg base 1 C "ground" ["self","field"] (aBZ C):=rN T
 refine T.d_p_is_low.fc aCK qP (fun f cdv A outer s H vs Q E hr h=>?_)
 obtain ⟨x,y,u,rfl,p,fs,ds,z,lv,rfl,L,rfl,mz,rfl,q⟩:=h
 obtain ⟨dx,d1,d2,hx,_⟩:=L.ex
 have gf:=(bX L).1
 refine ⟨_,(@aH _ _ _ (@aQ _ _ _ _ (@aPN _ _ _ _ _ _ _ (@dG _ _ _ _ _ _ _ _ qI (pv 1) (@tO _ _ _ _ T.g_SEA (by rfl) (by decide)) (@bQ _ _ (by decide) (by decide))) (@eO _ _ _ _ _ (@dG _ _ _ _ _ _ _ _ vK (@aNZ _ _ _ _ _ _ _ _ _ _ _ _ _ _ T.cl_Land G_land_p_ground (hr.mono (by decide)) (pv 0) (@aA _ _ _ _ _ (pv 1) aE (by rfl)) (by rfl) (by rfl) (by rfl)) (pv 2) (@bQ _ _ (by decide) (by decide))))))),?_⟩
 refine ⟨_,rfl,rfl,?_⟩
 by_cases hz:z = "sea"
 ·subst hz
  rw [decide_eq_true rfl]
  exact ⟨_,rfl,dL q⟩
 ·rw [decide_eq_false (fun c=>hz (V.str.inj c))]
  have mf:z ∈ fs.map aO:=by
   rcases Af.mp mz with h | h
   ·exact absurd h hz
   ·exact h
  obtain ⟨d,md,e⟩:=AT.mp mf
  obtain ⟨z',g,u,rfl,hz',_⟩:=bU (gf.all d md)
  have e':z' = z:=e
  subst e'
  have eg:qR fs z' = g:=aIJ gf.nd md
  refine ⟨_,rfl,bO ?_⟩
  refine ⟨_,rfl,p,dx,_,rfl,hx,lB _ _ (by decide +kernel) (by decide +kernel),_,rfl,_,_,rfl,p,fs,ds,z',g,u,rfl,rfl,L,md,_,rfl,_,_,rfl,rfl,?_⟩
  have:nM fs lv z' = decide (g < lv):=by
   unfold nM
   rw [decide_eq_false hz,eg]
   rfl
  show Q (V.bl (decide (g < lv))) H
  rw [← this]
  exact q
def aPJ (C:Addr):Sp:=sp3 fun x y u H Q=>∃ (p:Addr) (fs ds:List Dv) (d:Dv) (L:Int),x = .ref p ∧ LandAt C H p fs ds ∧ Is H d y ∧ d ∈ ds ∧ u = .int L ∧ Q (.bl (isG fs L d)) H
theorem aCT (T:Txt K mg C):Fc P w K mg base 3 "is_gap" ["land","dyke","height"] (aPJ C):=by
 have G_p_is_low:Fc P w K mg base 2 "is_low" ["land","side","height"] (aPI C):=aCS T
 refine T.d_p_is_gap.fc aCL qP (fun f cdv A outer s H vs Q E hr h=>?_)
 obtain ⟨x,y,u,rfl,p,fs,ds,d,lv,rfl,L,hd,md,rfl,q⟩:=h
 have gd:=(bX L).2
 obtain ⟨n,a,b,c,r,sl,rfl,_,ha,hb,hab,hc,hr',_⟩:=bJ (gd.all d md)
 obtain ⟨t,sv,rfl,o,isv⟩:=lK hd
 refine ⟨_,(@aH _ _ _ (@aQ _ _ _ _ (@cZ _ _ _ _ _ _ _ (@dG _ _ _ _ _ _ _ _ vK (@bD _ _ _ _ _ _ _ (@aS _ (K) rfl) (pv 1) aF (fun _ _=>rfl)) (pv 2) (@bQ _ _ (by decide) (by decide))) (@cZ _ _ _ _ _ _ _ (@bF _ _ _ _ _ _ _ _ _ _ G_p_is_low (hr.mono (by decide)) (@aA _ _ _ _ _ (pv 0) (@aA _ _ _ _ _ (@bD _ _ _ _ _ _ _ (@aS _ (K) rfl) (pv 1) aF (fun _ _=>rfl)) (@aA _ _ _ _ _ (pv 2) aE (by rfl)) (by rfl)) (by rfl)) (by rfl) (by decide) (by rfl) (by rfl)) (@eO _ _ _ _ _ (@bF _ _ _ _ _ _ _ _ _ _ G_p_is_low (hr.mono (by decide)) (@aA _ _ _ _ _ (pv 0) (@aA _ _ _ _ _ (@bD _ _ _ _ _ _ _ (@aS _ (K) rfl) (pv 1) aF (fun _ _=>rfl)) (@aA _ _ _ _ _ (pv 2) aE (by rfl)) (by rfl)) (by rfl)) (by rfl) (by decide) (by rfl) (by rfl))))))),?_⟩
 refine ⟨_,rfl,t,_,3,.int c,rfl,rfl,SqT.of o,aP (j:=3) rfl,_,rfl,_,_,rfl,rfl,?_⟩
 have q:Q (.bl (decide (c < lv) && (nM fs lv a && nM fs lv b))) H:=q
 refine ⟨_,rfl,?_⟩
 cases h1:decide (c < lv) with
 | false =>
  rw [h1] at q
  exact bO q
 | true =>
  rw [h1] at q
  refine dL ?_
  refine ⟨_,rfl,_,rfl,t,_,1,.str a,rfl,rfl,SqT.of o,aP (j:=1) rfl,_,rfl,_,_,_,rfl,p,fs,ds,a,lv,rfl,L,rfl,ha,rfl,?_⟩
  refine ⟨_,rfl,?_⟩
  cases h2:nM fs lv a with
  | false =>
   rw [h2] at q
   exact bO q
  | true =>
   rw [h2] at q
   refine dL ?_
   exact ⟨_,rfl,_,rfl,t,_,2,.str b,rfl,rfl,SqT.of o,aP (j:=2) rfl,_,rfl,_,_,_,rfl,p,fs,ds,b,lv,rfl,L,rfl,hb,rfl,q⟩
theorem lH (G:List Gap):(dH G).length = G.length:=AA _
theorem aFI (G:List Gap):(dH G).map (·.1) = (G.map (·.nm)).map Sum.inr:=by
 unfold dH
 rw [At,At]
 rfl
theorem qT (fs ds:List Dv) (L:Int):(aW fs ds L).length ≤ ds.length:=by
 unfold aW
 rw [AA]
 exact BC _ _
def aJU (C:Addr):Sp:=sp2 fun x y H Q=>∃ (p:Addr) (fs ds:List Dv) (L:Int),x = .ref p ∧ LandAt C H p fs ds ∧ y = .int L ∧ ∀ (cd:Addr) (H':Hp),aI H H' → H cd = none → H' cd = some (.dK (dH (aW fs ds L))) → Q (.ref cd) H'
theorem vL (T:Txt K mg C):Fc P w K mg base 4 "gap_coins" ["land","height"] (aJU C):=by
 have G_p_is_gap:Fc P w K mg base 3 "is_gap" ["land","dyke","height"] (aPJ C):=aCT T
 have G_p_coins_to:Fc P w K mg base 1 "coins_to" ["dyke","height"] rD:=pE T
 have G_land_p_dykes:Mc P w K mg base 1 C "dykes" ["self"] (aED C fun _ ds=>ds):=tR T
 refine T.d_p_gap_coins.fc uV kM (fun f cdv A outer s H vs Q E hr h=>?_)
 obtain ⟨x,y,rfl,p,fs,ds,lv,rfl,L,rfl,q⟩:=h
 have big:=bP
 have gf:=(bX L).1
 have gd:=(bX L).2
 have d2:=gd.l2
 have GG:=qS gf gd lv
 have gl:=qT fs ds lv
 obtain ⟨dx,d1,d2',hx,_⟩:=L.ex
 refine ⟨_,(@aH _ _ _ (@aQ _ _ _ _ (@bH _ _ _ _ _ _ _ _ _ (@eJ _ rfl) rfl T.n_dict kA (@aA _ _ _ _ _ (@cB _ _ _ _ _ _ _ _ _ _ _ ["dyke","land","height"] 1 [0,1] rfl (@bT _ _ _ _ (@aKZ _ _ _ _ _ _ _ _ _ _ _ T.cl_Land G_land_p_dykes (hr.mono (by decide)) (pv 0) (by rfl))) (fun R=>@aU _ _ (0) _ (show Au (["dyke","land","height"]:List Str) by decide +kernel) rfl (Or.inl rfl) (by trivial)) (@aX _ _ (by decide)) (fun R=>@fW _ _ _ (@dQ _ _ _ (@bF _ _ _ _ _ _ _ _ _ _ G_p_is_gap (hr.mono (by decide)) (@aA _ _ _ _ _ (pv 1) (@aA _ _ _ _ _ (pv 0) (@aA _ _ _ _ _ (pv 2) aE (by rfl)) (by rfl)) (by rfl)) (by rfl) (by decide) (by rfl) (by rfl)) (by intro _;rfl))) (fun R=>(@dW _ _ _ _ _ (@aA _ _ _ _ _ (@bD _ _ _ _ _ _ _ (@aS _ (K) rfl) (pv 0) aF (fun _ _=>rfl)) (@aA _ _ _ _ _ (@bF _ _ _ _ _ _ _ _ _ _ G_p_coins_to (hr.mono (by decide)) (@aA _ _ _ _ _ (pv 0) (@aA _ _ _ _ _ (pv 2) aE (by rfl)) (by rfl)) (by rfl) (by decide) (by rfl) (by rfl)) aE (by rfl)) (by rfl)))) (by rfl) (by rfl) (by rfl) (by rfl) (by rfl) (by rfl) (by rfl) (by intro _;rfl)) aE (by rfl)) (by decide) (by decide) (by rfl) (by rfl)))),?_⟩
 refine ⟨_,rfl,p,dx,_,rfl,hx,lB _ _ (by decide +kernel) (by decide +kernel),_,rfl,p,fs,ds,rfl,L,fun lb vb H2 S2 flb hlb hib=>?_⟩
 have lvb:vb.length = ds.length:=hib.length
 refine ⟨lb,rfl,⟨_,SqL.of hlb⟩,?_⟩
 refine bI (F:=K) (xs:=vb) (by omega) (fun i ys H'=>aI H2 H' ∧ bV H' ys (dH (aW fs (ds.take i) lv))) ⟨aI.refl _,bV.nil _⟩ ?_ ?_ ?_
 ·rintro i ys H' hi' ⟨S',pa⟩
  have:=pa.len
  have:=qT fs (ds.take i) lv
  rw [lH] at *
  rw [AZ] at this
  exact ⟨SqL.of (S' _ _ hlb),by omega⟩
 ·rintro i xv ys H' K1 K2 hx' ⟨S',pa⟩ k1 k2
  have hil:i < vb.length:=(AE.mp hx').1
  obtain ⟨d,ed⟩:∃ d,ds[i]? = some d:=⟨_,AD (by omega)⟩
  obtain ⟨v,ev,iv⟩:=hib.get ed
  rw [hx'] at ev
  cases ev
  have md:=AS ed
  have iv':=Is.same S' _ _ iv
  refine ⟨_,rfl,_,rfl,_,rfl,_,_,_,rfl,p,fs,ds,d,lv,rfl,L.same (S2.trans S'),iv',md,rfl,_,rfl,?_⟩
  have et:aW fs (ds.take (i + 1)) lv = aW fs (ds.take i) lv ++ (if isG fs lv d = true then [gOf lv d] else []):=by
   unfold aW
   rw [Ai,ed,DR,AW]
   cases h:isG fs lv d <;> simp [h]
  cases hg:isG fs lv d with
  | false =>
   rw [hg] at et
   refine bO (k2 _ ⟨S',?_⟩)
   rw [et]
   simpa using pa
  | true =>
   rw [hg] at et
   refine dL ?_
   obtain ⟨n,a,b,c,r,sl,rfl,_,ha,hb,hab,hc,hr',_⟩:=bJ (gd.all d md)
   obtain ⟨t,sv,rfl,o,isv⟩:=lK iv'
   have h2:=BF.mp (show (decide (0 ≤ r) && decide (r ≤ 1000000)) = true from hr')
   refine ⟨_,rfl,t,_,0,.str n,rfl,rfl,SqT.of o,aP (j:=0) rfl,_,rfl,_,rfl,_,_,rfl,t,n,a,b,c,r,lv,sv,rfl,rfl,o,of_decide_eq_true h2.1,of_decide_eq_true h2.2,aY rfl,fun p3 hp3=>k1 _ _ ⟨S'.trans (aI.upd hp3),?_⟩⟩
   rw [et]
   have e2:dH (aW fs (ds.take i) lv ++ [gOf lv (.tup [.str n,.str a,.str b,.int c,.int r,sl])]) = dH (aW fs (ds.take i) lv) ++ [(Sum.inr n,V.int (r * (lv - c)))]:=by
    unfold dH
    rw [AW]
    rfl
   rw [if_pos rfl,e2]
   exact bV.snoc (k:=Sum.inr n) pa hp3
 rintro ys H3 ⟨S3,pa⟩
 rw [AI (by omega)] at pa
 intro p4 hp4
 have S4:=aI.upd (o:=.lst ys) hp4
 refine ⟨p4,ys,dH (aW fs ds lv),rfl,SqL.of aD,pa.same S4,by rw [lH];omega,by rw [aFI];exact (iD _).mpr GG.nd,fun cd hcd=>?_⟩
 have T4:=S2.trans (S3.trans S4)
 exact q cd _ (T4.trans (aI.upd hcd)) (T4.free hcd) aD
open Mt22 MtF
theorem aFN {zs:List Str} {d:Dv} (h:cL zs d = true):aBD d = true:=by
 obtain ⟨n,a,b,c,r,s,rfl,_,_,_,_,_,_,hs⟩:=bJ h
 cases s with
 | non=>rfl
 | int i=>rfl
 | _=>cases hs
theorem gH (s:Mt22.St):aBD (bM s) = true:=rfl
open Mt22 MtF
theorem aFY {H:Hp} {d d1:Addr} {fs:List Dv} {kvs:List (Key × V)} {o:Obj} (h:oG H d1 fs) (hd:H d = some (.dK kvs)) (nr:∀ v ∈ kvs.map (·.2),∀ a,v ≠ .ref a) (l1:1 ≤ fs.length) (ht:∀ f ∈ fs,∃ us,f = .tup us) (hh:yW fs = true):oG (upd H d (.frz o (.dK kvs))) d1 fs:=by
 obtain ⟨kv1,e,k,i⟩:=h
 have nd:d1 ≠ d:=fun c=>by
  rw [c,hd] at e
  cases e
  cases fs with
  | nil=>exact absurd l1 (by decide)
  | cons f fs =>
   obtain ⟨us,rfl⟩:=ht f AY
   obtain ⟨v,r,ev,⟨a,w,ea,_⟩,_⟩:=i
   exact nr v (by rw [ev];exact AY) a ea
 refine ⟨kv1,by rw [aK nd];exact e,k,IsL.keep (fun b xs hb=>?_) fs _ hh i⟩
 rw [aK (fun c=>by rw [c,hd] at hb;cases hb)]
 exact hb
theorem aLL {H:Hp} {x d:Addr} {fs ds:List Dv} {kvs:List (Key × V)} {o:Obj} (L:LandAt C H x fs ds) (hd:H d = some (.dK kvs)) (nr:∀ v ∈ kvs.map (·.2),∀ a,v ≠ .ref a):LandAt C (upd H d (.frz o (.dK kvs))) x fs ds:=by
 obtain ⟨gf,gd⟩:=bX L
 obtain ⟨⟨dx,d1,d2,e,t1,t2⟩,a,b⟩:=L
 refine ⟨⟨dx,d1,d2,by rw [aK (fun c=>by rw [c,hd] at e;cases e)];exact e,aFY t1 hd nr gf.l1 (fun f m=>?_) (fZ fun f m=>?_),aFY t2 hd nr gd.l1 (fun f m=>?_) (fZ fun d m=>aFN (gd.all d m))⟩,a,b⟩
 ·obtain ⟨z,g,e,rfl,_⟩:=bU (gf.all f m)
  exact ⟨_,rfl⟩
 ·obtain ⟨z,g,e,rfl,_⟩:=bU (gf.all f m)
  rfl
 ·obtain ⟨n,a,b,c,r,s,rfl,_⟩:=bJ (gd.all f m)
  exact ⟨_,rfl⟩
open Mt53 Mt22 MtF Mt31 Mt61
theorem aDD {fs ds:List Dv} {L:Int} {zs:List Str} (gd:GoodD zs ds) {g:Gap} (m:g ∈ aW fs ds L):∃ d ∈ ds,isG fs L d = true ∧ g = gOf L d ∧ aO d = g.nm:=by
 obtain ⟨d,md,rfl⟩:=AT.mp m
 rw [Ar] at md
 exact ⟨d,md.1,md.2,rfl,(aLY (gd.all d md.1) L).symm⟩
theorem oI (G:List Gap):(Mt61.stepsOf G).length = 2 * G.length:=by
 unfold Mt61.stepsOf
 induction G with
 | nil=>rfl
 | cons g G ih =>
  rw [FS,Ag,ih]
  show 2 + 2 * G.length = 2 * (G.length + 1)
  omega
theorem xW {H:Hp} {t:Addr} {s:Mt22.St} (h:H t = some (.tup [.str s.nm,.str s.near,.str s.far,.int s.h])):Is H (bM s) (.ref t):=⟨t,_,rfl,h,_,_,rfl,rfl,_,_,rfl,rfl,_,_,rfl,rfl,_,_,rfl,rfl,rfl⟩
def aBY (C:Addr):Sp:=sp2 fun x y H Q=>∃ (p d:Addr) (fs ds:List Dv) (L:Int),x = .ref p ∧ LandAt C H p fs ds ∧ y = .ref d ∧ H d = some (.dK (dH (aW fs ds L))) ∧ ∀ (o:Obj) (l:Addr) (us:List V) (H':Hp),aI (upd H d (.frz o (.dK (dH (aW fs ds L))))) H' → H l = none → H' l = some (.lst us) → IsL H' ((Mt61.stepsOf (aW fs ds L)).map bM) us → Q (.ref l) H'
theorem tP (T:Txt K mg C):Fc P w K mg base 2 "steps_over" ["land","names"] (aBY C):=by
 have G_land_p_dyke:Mc P w K mg base 1 C "dyke" ["self","name"] (uC C):=jW T
 refine T.d_p_steps_over.fc gA kM (fun f cdv A outer s H vs Q E hr h=>?_)
 obtain ⟨x,y,rfl,p,d,fs,ds,lv,rfl,L,rfl,hd,q⟩:=h
 have big:=bP
 have gf:=(bX L).1
 have gd:=(bX L).2
 have d2:=gd.l2
 have GG:=qS gf gd lv
 have gl:=qT fs ds lv
 refine ⟨_,(@aG _ _ _ _ _ (@aZ _ _ (2) _ _ _ _ gA.nd rfl (Or.inl rfl) (@fC _ _ _ _ aE) (by rfl) (by trivial)) (@aG _ _ _ _ _ (@iX _ _ _ _ _ _ _ _ BR rfl (@aAL _ _ _ _ (pv 1)) (@aU _ _ (3) _ gA.nd rfl (Or.inl rfl) (by trivial)) (@aG _ _ _ _ _ (@aZ _ _ (4) _ _ _ _ gA.nd rfl (Or.inl rfl) (@aNZ _ _ _ _ _ _ _ _ _ _ _ _ _ _ T.cl_Land G_land_p_dyke (hr.mono (by decide)) (pv 0) (@aA _ _ _ _ _ (pv 3) aE (by rfl)) (by rfl) (by rfl) (by rfl)) (by rfl) (by trivial)) (@aG _ _ _ _ _ (@iL _ _ _ _ (@oY _ _ _ _ _ _ _ _ _ _ _ _ BZ Bj Bi gK (pv 2) (@aA _ _ _ _ _ (@dW _ _ _ _ _ (@aA _ _ _ _ _ (pv 3) (@aA _ _ _ _ _ (@bD _ _ _ _ _ _ _ (@aS _ (K) rfl) (pv 4) aF (fun _ _=>rfl)) (@aA _ _ _ _ _ (@bD _ _ _ _ _ _ _ (@aS _ (K) rfl) (pv 4) aF (fun _ _=>rfl)) (@aA _ _ _ _ _ aF aE (by rfl)) (by rfl)) (by rfl)) (by rfl))) aE (by rfl)) (by rfl) (by rfl) (by rfl) (by rfl) (by rfl)) (by rfl)) (@aH _ _ _ (@iL _ _ _ _ (@oY _ _ _ _ _ _ _ _ _ _ _ _ BZ Bj Bi gK (pv 2) (@aA _ _ _ _ _ (@dW _ _ _ _ _ (@aA _ _ _ _ _ (pv 3) (@aA _ _ _ _ _ (@bD _ _ _ _ _ _ _ (@aS _ (K) rfl) (pv 4) aF (fun _ _=>rfl)) (@aA _ _ _ _ _ (@bD _ _ _ _ _ _ _ (@aS _ (K) rfl) (pv 4) aF (fun _ _=>rfl)) (@aA _ _ _ _ _ (@aPM _ _ _ _ _ _ aJG aF) aE (by rfl)) (by rfl)) (by rfl)) (by rfl))) aE (by rfl)) (by rfl) (by rfl) (by rfl) (by rfl) (by rfl)) (by rfl))))) (by intro _;rfl)) (@aH _ _ _ (@aQ _ _ _ _ (pv 2))))),?_⟩
 refine ⟨aY rfl,fun l hl=>?_⟩
 have S1:=aI.upd (o:=.lst []) hl
 have nld:d ≠ l:=aT hd hl
 refine ⟨_,rfl,d,_,rfl,by rw [aK nld];exact hd,fun o=>?_⟩
 have nr:∀ v ∈ (dH (aW fs ds lv)).map (·.2),∀ a,v ≠ .ref a:=fun v m a e=>by
  obtain ⟨kv,mk,rfl⟩:=AT.mp m
  obtain ⟨g,_,rfl⟩:=AT.mp mk
  cases e
 have L0:LandAt C (upd H d (.frz o (.dK (dH (aW fs ds lv))))) p fs ds:=aLL L hd nr
 have hl0:upd H d (.frz o (.dK (dH (aW fs ds lv)))) l = none:=by rw [aK (Ne.symm nld)];exact hl
 have SS:aI (upd H d (.frz o (.dK (dH (aW fs ds lv))))) (upd (upd H l (.lst [])) d (.frz o (.dK (dH (aW fs ds lv))))):=fun b u e=>by
  by_cases hb:b = d
  ·subst hb
   rw [aD] at e ⊢
   exact e
  ·rw [aK hb] at e ⊢
   exact S1 _ _ e
 have r1:upd (upd H l (.lst [])) d (.frz o (.dK (dH (aW fs ds lv)))) l = some (.lst []):=by rw [aK (Ne.symm nld),aD]
 have qq:=fun us H'=>q o l us H'
 have dF:upd H d (.frz o (.dK (dH (aW fs ds lv)))) d = some (.frz o (.dK (dH (aW fs ds lv)))):=aD
 generalize upd (upd H l (.lst [])) d (.frz o (.dK (dH (aW fs ds lv)))) = H2 at SS r1
 generalize upd H d (.frz o (.dK (dH (aW fs ds lv)))) = H0 at L0 hl0 SS qq dF
 refine aLZ (fun i σ H'=>∃ (v3 v4:Option V) (us:List V),σ = [some (.ref p),some (.ref d),some (.ref l),v3,v4] ∧ aI H0 H' ∧ H' l = some (.lst us) ∧ IsL H' ((Mt61.stepsOf ((aW fs ds lv).take i)).map bM) us) ⟨_,_,[],rfl,SS,r1,rfl⟩ (fun i σ H' _ ⟨_,_,_,_,S',_⟩=>S' _ _ dF) ?_ ?_
 ·rintro i kv σ H' hk ⟨v3,v4,us,rfl,S',hl',ius⟩
  unfold dH at hk
  rw [AR] at hk
  obtain ⟨g,eg,ekv⟩:=Ay.mp hk
  have hil:=(AE.mp eg).1
  have mg':=AS eg
  obtain ⟨dk,mdk,hg,rfl,en⟩:=aDD gd mg'
  have L':=L0.same S'
  obtain ⟨dx,d1,d2',hx,_⟩:=L'.ex
  have lus:=ius.length
  rw [AA,oI,AZ] at lus
  have et:Mt61.stepsOf ((aW fs ds lv).take (i + 1)) = Mt61.stepsOf ((aW fs ds lv).take i) ++ [up (gOf lv dk),dn (gOf lv dk)]:=by
   unfold Mt61.stepsOf
   rw [Ai,eg,List.flatMap_append]
   rfl
  obtain ⟨n,a,b,c,r,sl,rfl,_⟩:=bJ (gd.all dk mdk)
  have ek:kV kv.1 = V.str n:=by rw [← ekv];rfl
  rw [ek]
  refine ⟨_,rfl,p,dx,_,rfl,hx,lB _ _ (by decide +kernel) (by decide +kernel),_,rfl,_,_,rfl,p,fs,ds,_,rfl,rfl,L',mdk,fun v iv=>?_⟩
  obtain ⟨t,sv,rfl,ot,isv⟩:=lK iv
  refine ⟨_,rfl,.inl ⟨rfl,_,SqL.of hl'⟩,_,rfl,_,rfl,t,_,1,.str a,rfl,rfl,SqT.of ot,aP (j:=1) rfl,_,rfl,t,_,2,.str b,rfl,rfl,SqT.of ot,aP (j:=2) rfl,aY rfl,fun ta hta=>?_⟩
  have Sa:=aI.upd (o:=.tup [.str n,.str a,.str b,.int 1]) hta
  have ra:upd H' ta (.tup [.str n,.str a,.str b,.int 1]) ta = _:=aD
  generalize upd H' ta (.tup [.str n,.str a,.str b,.int 1]) = Ha at Sa ra
  have hla:=Sa _ _ hl'
  refine ⟨l,us,.ref ta,rfl,rfl,hla,by omega,?_⟩
  have KT:=iW.lst (o:=.lst (us ++ [.ref ta])) hla
  have Sb:aI H0 (upd Ha l (.lst (us ++ [.ref ta]))):=(S'.trans Sa).over hl0
  have rb:upd Ha l (.lst (us ++ [.ref ta])) l = some (.lst (us ++ [.ref ta])):=aD
  have ib:IsL (upd Ha l (.lst (us ++ [.ref ta]))) ((Mt61.stepsOf ((aW fs ds lv).take i)).map bM ++ [bM (up ⟨n,a,b,r * (lv - c)⟩)]) (us ++ [.ref ta]):=by
   refine IsL.keep KT _ _ (fZ fun d m=>?_) (IsL.snoc (xW ra) (IsL.same Sa _ _ ius))
   rcases Ak.mp m with m | m
   ·obtain ⟨s,_,rfl⟩:=AT.mp m
    exact gH s
   ·rw [AU.mp m]
    exact gH _
  have ob:=KT _ _ (Sa _ _ ot)
  generalize upd Ha l (.lst (us ++ [.ref ta])) = Hb at Sb rb ib ob
  refine ⟨_,rfl,.inl ⟨rfl,_,SqL.of rb⟩,_,rfl,_,rfl,t,_,2,.str b,rfl,rfl,SqT.of ob,aP (j:=2) rfl,_,rfl,t,_,1,.str a,rfl,rfl,SqT.of ob,aP (j:=1) rfl,_,rfl,aY rfl,fun tb htb=>?_⟩
  have Sc:=aI.upd (o:=.tup [.str n,.str b,.str a,.int (-1)]) htb
  have rc:upd Hb tb (.tup [.str n,.str b,.str a,.int (-1)]) tb = _:=aD
  generalize upd Hb tb (.tup [.str n,.str b,.str a,.int (-1)]) = Hc at Sc rc
  have hlc:=Sc _ _ rb
  refine ⟨l,us ++ [.ref ta],.ref tb,rfl,rfl,hlc,by rw [Ag];show _ + 1 < _;omega,?_⟩
  have KT2:=iW.lst (o:=.lst (us ++ [.ref ta] ++ [.ref tb])) hlc
  refine ⟨_,_,us ++ [.ref ta] ++ [.ref tb],rfl,(Sb.trans Sc).over hl0,aD,?_⟩
  rw [et,AW]
  show IsL _ (_ ++ [bM (up ⟨n,a,b,r * (lv - c)⟩),bM (dn ⟨n,a,b,r * (lv - c)⟩)]) _
  rw [show ∀ (xs:List Dv) (p q:Dv),xs ++ [p,q] = xs ++ [p] ++ [q] from fun xs p q=>by simp]
  refine IsL.keep KT2 _ _ (fZ fun d m=>?_) (IsL.snoc (xW (s:=dn ⟨n,a,b,r * (lv - c)⟩) rc) (IsL.same Sc _ _ ib))
  rcases Ak.mp m with m | m
  ·rcases Ak.mp m with m | m
   ·obtain ⟨s,_,rfl⟩:=AT.mp m
    exact gH s
   ·rw [AU.mp m]
    exact gH _
  ·rw [AU.mp m]
   exact gH _
 ·rintro σ H' ⟨v3,v4,us,rfl,S',hl',ius⟩
  rw [lH,AI (AL _)] at ius
  exact ⟨_,rfl,qq us H' S' hl hl' ius⟩
open Mt22 MtF Mt31 Mt61
def CV (H:Hp) (o:Option Mt22.St) (v:V):Prop:=match o with
 | none=>v = .non
 | some s=>Is H (bM s) v
theorem CV.same {H H':Hp} (S:aI H H') {o:Option Mt22.St} {v:V} (h:CV H o v):CV H' o v:=by
 cases o with
 | none=>exact h
 | some s=>exact Is.same S _ _ h
theorem CV.keep {H H':Hp} (S:iW H H') {o:Option Mt22.St} {v:V} (h:CV H o v):CV H' o v:=by
 cases o with
 | none=>exact h
 | some s=>exact Is.keep S _ _ (gH s) h
structure CamKV (H:Hp) (kvs:List (Key × V)) (cm:Cm):Prop where
 len:kvs.length = cm.length
 at':∀ (i:Nat) (z:Str) (o:Option Mt22.St),cm[i]? = some (z,o) → ∃ v,kvs[i]? = some (Sum.inr z,v) ∧ CV H o v
theorem CamKV.keys {H:Hp} {kvs:List (Key × V)} {cm:Cm} (h:CamKV H kvs cm):kvs.map (·.1) = (Mt31.keys cm).map Sum.inr:=by
 apply List.ext_getElem?
 intro i
 unfold Mt31.keys
 rw [AR,AR,AR]
 cases e:cm[i]? with
 | none =>
  rw [List.getElem?_eq_none_iff] at e
  rw [En (by rw [h.len];exact e)]
  rfl
 | some x =>
  obtain ⟨z,o⟩:=x
  obtain ⟨v,ev,_⟩:=h.at' i z o e
  rw [ev]
  rfl
theorem CamKV.same {H H':Hp} (S:aI H H') {kvs:List (Key × V)} {cm:Cm} (h:CamKV H kvs cm):CamKV H' kvs cm :=
 ⟨h.len,fun i z o e=>by obtain ⟨v,e1,c⟩:=h.at' i z o e;exact ⟨v,e1,c.same S⟩⟩
theorem CamKV.keep {H H':Hp} (S:iW H H') {kvs:List (Key × V)} {cm:Cm} (h:CamKV H kvs cm):CamKV H' kvs cm :=
 ⟨h.len,fun i z o e=>by obtain ⟨v,e1,c⟩:=h.at' i z o e;exact ⟨v,e1,c.keep S⟩⟩
theorem aBT {κ:Type} [DecidableEq κ]:∀ {kvs:List (κ × V)} {i:Nat} {k:κ} {v:V},(kvs.map (·.1)).Nodup → kvs[i]? = some (k,v) → dJ kvs k = some v
 | p :: r,0,k,v,nd,e=>by cases e;exact dM rfl
 | p :: r,i + 1,k,v,nd,e=>by
  rw [Ac,Aq] at nd
  have e':r[i]? = some (k,v):=e
  rw [dN (fun c=>nd.1 (by rw [c];exact AT.mpr ⟨_,AS e',rfl⟩))]
  exact aBT nd.2 e'
theorem aEZ {zs:List Str} (h:zs.Nodup):(zs.map (Sum.inr:Str → Key)).Nodup:=(iD zs).mpr h
theorem CamKV.val {H:Hp} {S:List Mt22.St} {kvs:List (Key × V)} {cm:Cm} (h:CamKV H kvs cm) (c:Came S cm) {i:Nat} {z:Str} {o:Option Mt22.St} (e:cm[i]? = some (z,o)):∃ v,dJ kvs (Sum.inr z) = some v ∧ CV H o v:=by
 obtain ⟨v,ev,cv⟩:=h.at' i z o e
 exact ⟨v,aBT (by rw [h.keys];exact aEZ c.nd) ev,cv⟩
theorem CamKV.none {H:Hp} {kvs:List (Key × V)} {cm:Cm} (h:CamKV H kvs cm) {z:Str} (n:¬ z ∈ Mt31.keys cm):dJ kvs (Sum.inr z) = none:=by
 cases e:dJ kvs (Sum.inr z) with
 | none=>rfl
 | some v =>
  have:=aNA e
  rw [h.keys] at this
  obtain ⟨y,my,ey⟩:=AT.mp this
  cases ey
  exact absurd my n
theorem CamKV.some {H:Hp} {kvs:List (Key × V)} {cm:Cm} (h:CamKV H kvs cm) {z:Str} (n:z ∈ Mt31.keys cm):(dJ kvs (Sum.inr z)).isSome = true:=by
 cases e:dJ kvs (Sum.inr z) with
 | some v=>rfl
 | none =>
  have:=aJF e
  rw [h.keys] at this
  exact absurd (AT.mpr ⟨z,n,rfl⟩) this
theorem aTN (x:V) (r:List V):seqIndex? 0 (x :: r).length = some 0:=by
 rw [Am]
 unfold seqIndex?
 simp
 try omega
theorem kP {H:Hp} {s:Mt22.St} {v:V} (h:Is H (bM s) v):∃ t,v = .ref t ∧ H t = some (.tup [.str s.nm,.str s.near,.str s.far,.int s.h]):=by
 obtain ⟨t,us,rfl,o,v0,r0,rfl,i0,v1,r1,rfl,i1,v2,r2,rfl,i2,v3,r3,rfl,i3,h0⟩:=h
 cases (show r3 = [] from h0)
 cases (show v0 = _ from i0)
 cases (show v1 = _ from i1)
 cases (show v2 = _ from i2)
 cases (show v3 = _ from i3)
 exact ⟨t,rfl,o⟩
theorem qW (a b:Str):decide (V.str a = V.str b) = decide (a = b):=by
 by_cases h:a = b
 ·subst h;simp
 ·rw [decide_eq_false h,decide_eq_false (fun c=>h (by cases c;rfl))]
def qZ:Sp:=sp2 fun x y H Q=>∃ (ls lt:Addr) (us:List V) (S:List Mt22.St) (zs V0:List Str),x = .ref ls ∧ y = .ref lt ∧ zs.Nodup ∧ (∀ z ∈ zs,z ∈ V0) ∧ H ls = some (.lst (zs.map V.str)) ∧ H lt = some (.lst us) ∧ IsL H (S.map bM) us ∧ S.length ≤ 80 ∧ V0.length ≤ 13 ∧ (∀ s ∈ S,s.far ∈ V0) ∧
 ∀ (d:Addr) (cm:Cm) (kvs:List (Key × V)) (H':Hp),aI H H' → H d = none → H' d = some (.dK kvs) → CamKV H' kvs cm → CameG zs S cm → tU S cm cm.length → cm.length ≤ 13 → Q (.ref d) H'
theorem sT (T:Txt K mg C):Fc P w K mg base 1 "spread" ["starts","steps"] qZ:=by
 refine T.d_p_spread.fc iN kM (fun f cdv A outer s H vs Q E hr h=>?_)
 obtain ⟨x,y,rfl,ls,lt,us,S,zs,V0,rfl,rfl,ndz,sV,hls,hlt,ius,lS,lV,farV,q⟩:=h
 have lz:zs.length ≤ 13:=by have:=pP ndz sV;omega
 have big:=bP
 have hu:=lG hr
 have lus:=ius.length
 rw [AA] at lus
 have lcm:∀ cm:Cm,CameG zs S cm → (∀ z ∈ keys cm,z ∈ V0) → cm.length ≤ 13:=fun cm c sub=>by
  have:=pP c.nd sub
  unfold keys at this
  rw [AA] at this
  omega
 refine ⟨_,(@aG _ _ _ _ _ (@aZ _ _ (2) _ _ _ _ iN.nd rfl (Or.inl rfl) (@bH _ _ _ _ _ _ _ _ _ (@eJ _ rfl) rfl T.n_dict kA (@aA _ _ _ _ _ (@cB _ _ _ _ _ _ _ _ _ _ _ ["side"] 1 [] rfl (@bT _ _ _ _ (pv 0)) (fun R=>@aU _ _ (0) _ (show Au (["side"]:List Str) by decide +kernel) rfl (Or.inl rfl) (by trivial)) (@aX _ _ (by decide)) (fun R=>cF) (fun R=>(@dW _ _ _ _ _ (@aA _ _ _ _ _ (pv 0) (@aA _ _ _ _ _ aAM aE (by rfl)) (by rfl)))) (by rfl) (by rfl) (by rfl) (by rfl) (by rfl) (by rfl) (by rfl) (by intro _;rfl)) aE (by rfl)) (by decide) (by decide) (by rfl) (by rfl)) (by rfl) (by trivial)) (@aG _ _ _ _ _ (@aZ _ _ (3) _ _ _ _ iN.nd rfl (Or.inl rfl) (@bH _ _ _ _ _ _ _ _ _ (@eL _ (K) rfl) rfl T.n_list cM (@aA _ _ _ _ _ (pv 0) aE (by rfl)) (by decide) (by decide) (by rfl) (by rfl)) (by rfl) (by trivial)) (@aG _ _ _ _ _ (@vE _ _ _ _ _ _ BR (@aEP _ _ _ (pv 3) (by intro _;rfl)) (@aG _ _ _ _ _ (@aZ _ _ (4) _ _ _ _ iN.nd rfl (Or.inl rfl) (@oY _ _ _ _ _ _ _ _ _ _ _ _ BZ PySem.F.slot_list_pop PySem.F.type_list_pop aLG (pv 3) (@aA _ _ _ _ _ aF aE (by rfl)) (by rfl) (by rfl) (by rfl) (by rfl) (by rfl)) (by rfl) (by trivial)) (@aH _ _ _ (@iX _ _ _ _ _ _ _ _ BR rfl (@bT _ _ _ _ (pv 1)) (@aU _ _ (5) _ iN.nd rfl (Or.inl rfl) (by trivial)) (@aH _ _ _ (@fB _ _ _ _ _ _ _ _ (@PW.pt _ _ _ (@nF _ _ _ _ _ _ _ (@cA _ _ _ _ _ _ _ _ qI (@bD _ _ _ _ _ _ _ (@aS _ (K) rfl) (pv 5) aF (fun _ _=>rfl)) (pv 4) (@bQ _ _ (by decide) (by decide))) (@lT _ _ _ _ (@aAJ _ _ _ _ _ _ (@yG _ _ _ _ _ hu (@bD _ _ _ _ _ _ _ (@aS _ (K) rfl) (pv 5) aF (fun _ _=>rfl)) (pv 2)) (by first | exact nobehind _ (by decide) (by decide) | rfl))))) (@aG _ _ _ _ _ (@aGP _ _ _ _ _ _ _ _ _ hu (pv 2) (@bD _ _ _ _ _ _ _ (@aS _ (K) rfl) (pv 5) aF (fun _ _=>rfl)) (pv 5) rfl) (@aH _ _ _ (@iL _ _ _ _ (@oY _ _ _ _ _ _ _ _ _ _ _ _ BZ Bj Bi gK (pv 3) (@aA _ _ _ _ _ (@bD _ _ _ _ _ _ _ (@aS _ (K) rfl) (pv 5) aF (fun _ _=>rfl)) aE (by rfl)) (by rfl) (by rfl) (by rfl) (by rfl) (by rfl)) (by rfl)))) cE)) (by intro _;rfl))))) (@aH _ _ _ (@aQ _ _ _ _ (pv 2)))))),?_⟩
 refine ⟨_,rfl,ls,rfl,⟨_,SqL.of hls⟩,?_⟩
 refine bI (F:=K) (xs:=zs.map V.str) (by rw [AA];omega) (fun i ys H'=>aI H H' ∧ bV H' ys ((zs.take i).map fun z=>((Sum.inr z,.non):Key × V))) ⟨aI.refl _,bV.nil _⟩ ?_ ?_ ?_
 ·rintro i ys H' hi' ⟨S',pa⟩
  have:=pa.len
  rw [AA,AZ] at this
  exact ⟨SqL.of (S' _ _ hls),by omega⟩
 ·rintro i xv ys H' K1 K2 hx' ⟨S',pa⟩ k1 k2
  rw [AR] at hx'
  obtain ⟨z,ez,rfl⟩:=Ay.mp hx'
  refine ⟨_,rfl,aY rfl,fun p3 hp3=>k1 _ _ ⟨S'.trans (aI.upd hp3),?_⟩⟩
  rw [Ai,ez,AW]
  exact bV.snoc (k:=Sum.inr z) pa hp3
 rintro ys H1 ⟨S1,pa⟩
 rw [AA,AI (AL _)] at pa
 intro p4 hp4
 have S2:=aI.upd (o:=.lst ys) hp4
 have kz:(zs.map fun z=>((Sum.inr z,.non):Key × V)).map (·.1) = zs.map Sum.inr:=by rw [At];rfl
 refine ⟨p4,ys,zs.map fun z=>((Sum.inr z,.non):Key × V),rfl,SqL.of aD,pa.same S2,by rw [AA];omega,by rw [kz];exact (iD zs).mpr ndz,fun d hd=>?_⟩
 have S3:=aI.upd (o:=.dK (zs.map fun z=>((Sum.inr z,.non):Key × V))) hd
 have T3:=S1.trans (S2.trans S3)
 have hd0:=(S1.trans S2).free hd
 refine ⟨_,rfl,ls,_,rfl,.inl (SqL.of (T3 _ _ hls)),fun lw hlw=>?_⟩
 have S4:=aI.upd (o:=.lst (zs.map V.str)) hlw
 have T4:=T3.trans S4
 have hd4:upd (upd (upd H1 p4 (.lst ys)) d (.dK (zs.map fun z=>((Sum.inr z,.non):Key × V)))) lw (.lst (zs.map V.str)) d = some (.dK (zs.map fun z=>((Sum.inr z,.non):Key × V))):=S4 _ _ aD
 have hw4:upd (upd (upd H1 p4 (.lst ys)) d (.dK (zs.map fun z=>((Sum.inr z,.non):Key × V)))) lw (.lst (zs.map V.str)) lw = some (.lst (zs.map V.str)):=aD
 have hlw0:=T3.free hlw
 have ndw:d ≠ lw:=aT (show upd (upd H1 p4 (.lst ys)) d (.dK (zs.map fun z=>((Sum.inr z,.non):Key × V))) d = some _ from aD) hlw
 generalize upd (upd (upd H1 p4 (.lst ys)) d (.dK (zs.map fun z=>((Sum.inr z,.non):Key × V)))) lw (.lst (zs.map V.str)) = H4 at T4 hd4 hw4
 have c0:CameG zs S (zs.map fun z=>(z,none)):=CameG.init S ndz
 have k00:keys (zs.map fun z=>((z,none):Str × Option Mt22.St)) = zs:=by unfold keys;rw [At];exact List.map_id _
 have k0:CamKV H4 (zs.map fun z=>((Sum.inr z,.non):Key × V)) (zs.map fun z=>(z,none)):=⟨by rw [AA,AA],fun i z o e=>by
  rw [AR] at e
  obtain ⟨z',ez,e'⟩:=Ay.mp e
  cases e'
  exact ⟨.non,by rw [AR,ez];rfl,rfl⟩⟩
 refine uF (fun σ H'=>∃ (v4 v5:Option V) (p:Nat) (cm:Cm) (kvs:List (Key × V)),σ = [some (.ref ls),some (.ref lt),some (.ref d),some (.ref lw),v4,v5] ∧ aI H H' ∧ H' d = some (.dK kvs) ∧ CamKV H' kvs cm ∧ CameG zs S cm ∧ (∀ z ∈ keys cm,z ∈ V0) ∧ p ≤ cm.length ∧ H' lw = some (.lst (((keys cm).drop p).map V.str)) ∧ tU S cm p)
  (fun _ H'=>match H' d,H' lw with | some (.dK kvs),some (.lst ws)=>14 - (kvs.length - ws.length) | _,_=>0) ⟨_,_,0,zs.map fun z=>(z,none),_,rfl,T4,hd4,k0,c0,(fun z m=>by rw [k00] at m;exact sV z m),BG _,by rw [k00,Eu];exact hw4,(fun i u hi=>absurd hi (by omega))⟩ ?_ ?_
 ·rintro σ H5 ⟨v4,v5,p,cm,kvs,rfl,S5,hd5,ck,c,sub,hp,hw5,op⟩
  have l13:=lcm cm c sub
  refine ⟨_,rfl,lw,_,rfl,SqL.of hw5,?_⟩
  have kl:(keys cm).length = cm.length:=by unfold keys;rw [AA]
  by_cases hpl:p < cm.length
  ·obtain ⟨u,eu⟩:∃ u,(keys cm)[p]? = some u:=⟨_,AD (by omega)⟩
   have ed:(keys cm).drop p = u :: (keys cm).drop (p + 1):=by
    obtain ⟨h1,h2⟩:=AE.mp eu
    rw [← h2]
    exact (List.getElem_cons_drop h1).symm
   rw [ed] at hw5 ⊢
   refine dL ?_
   refine ⟨_,rfl,.inl ⟨rfl,_,SqL.of hw5⟩,lw,_,0,0,.str u,rfl,rfl,hw5,by decide,by decide,aTN _ _,rfl,?_⟩
   have hw6:upd H5 lw (.lst (((u :: (keys cm).drop (p + 1)).map V.str).eraseIdx 0)) lw = some (.lst (((keys cm).drop (p + 1)).map V.str)):=aD
   have hd6:upd H5 lw (.lst (((u :: (keys cm).drop (p + 1)).map V.str).eraseIdx 0)) d = some (.dK kvs):=by rw [aK ndw];exact hd5
   have ck6:=ck.keep (iW.lst (o:=.lst (((u :: (keys cm).drop (p + 1)).map V.str).eraseIdx 0)) hw5)
   have S6:aI H (upd H5 lw (.lst (((u :: (keys cm).drop (p + 1)).map V.str).eraseIdx 0))):=S5.over hlw0
   generalize upd H5 lw (.lst (((u :: (keys cm).drop (p + 1)).map V.str).eraseIdx 0)) = H6 at hw6 hd6 ck6 S6
   refine ⟨_,rfl,lt,rfl,⟨_,SqL.of (S6 _ _ hlt)⟩,nR (K:=K) (a:=lt) (xs:=us)
    (fun j σ H'=>∃ (v5:Option V) (more:Cm) (kvs:List (Key × V)),σ = [some (.ref ls),some (.ref lt),some (.ref d),some (.ref lw),some (.str u),v5] ∧ aI H H' ∧ H' d = some (.dK kvs) ∧ CamKV H' kvs (cm ++ more) ∧ CameG zs S (cm ++ more) ∧ (∀ z ∈ keys (cm ++ more),z ∈ V0) ∧ H' lw = some (.lst (((keys (cm ++ more)).drop (p + 1)).map V.str)) ∧ tU S (cm ++ more) p ∧ ∀ s ∈ S.take j,s.near = u → s.far ∈ keys (cm ++ more))
    ⟨_,[],kvs,rfl,S6,hd6,by rw [Ch];exact ck6,by rw [Ch];exact c,by rw [Ch];exact sub,by rw [Ch];exact hw6,by rw [Ch];exact op,(fun s m=>by cases m)⟩ (fun j σ H' _ ⟨_,_,_,_,S',_⟩=>SqL.of (S' _ _ hlt)) ?_ ?_⟩
   ·rintro j xv σ H7 hj ⟨w5,more,kvs7,rfl,S7,hd7,ck7,c7,sub7,hw7,op7,cl7⟩
    have hjl:j < us.length:=(AE.mp hj).1
    obtain ⟨st,es⟩:∃ st,S[j]? = some st:=⟨_,AD (by omega)⟩
    obtain ⟨v,ev,iv⟩:=ius.get (show (S.map bM)[j]? = some (bM st) by rw [AR,es];rfl)
    rw [hj] at ev
    cases ev
    have ms:=AS es
    obtain ⟨t,rfl,o⟩:=kP iv
    have o7:=S7 _ _ o
    have et:S.take (j + 1) = S.take j ++ [st]:=by rw [Ai,es];rfl
    have l7:=lcm _ c7 sub7
    have kl7:(keys (cm ++ more)).length = (cm ++ more).length:=by unfold keys;rw [AA]
    have lw7:(((keys (cm ++ more)).drop (p + 1)).map V.str).length ≤ 13:=by rw [AA,CB];omega
    have uk:u ∈ keys (cm ++ more):=by rw [lD];exact CA _ (AS eu)
    refine ⟨_,rfl,t,_,1,.str st.near,rfl,rfl,SqT.of o7,aP (j:=1) rfl,_,rfl,rfl,_,rfl,?_⟩
    rw [qW]
    refine jY (fun c1=>?_) (fun c1=>?_)
    ·have e1:st.near = u:=of_decide_eq_true c1
     refine ⟨_,rfl,t,_,2,.str st.far,rfl,rfl,SqT.of o7,aP (j:=2) rfl,_,rfl,d,_,rfl,.inl ⟨kvs7,Sum.inr st.far,.inl hd7,rfl,rfl⟩,_,rfl,?_⟩
     by_cases hk:st.far ∈ keys (cm ++ more)
     ·rw [ck7.some hk]
      refine bO ⟨_,more,kvs7,rfl,S7,hd7,ck7,c7,sub7,hw7,op7,fun s m en=>?_⟩
      rw [et] at m
      rcases Ak.mp m with m | m
      ·exact cl7 s m en
      ·rw [AU.mp m];exact hk
     ·have hno:=ck7.none hk
      rw [hno]
      refine dL ?_
      have lkv:kvs7.length < An:=by rw [ck7.len];omega
      refine ⟨_,rfl,_,rfl,_,rfl,t,_,2,.str st.far,rfl,rfl,SqT.of o7,aP (j:=2) rfl,d,_,rfl,.inl ⟨kvs7,Sum.inr st.far,hd7,rfl,lkv,rfl⟩,?_⟩
      rw [aKR _ hno]
      have KT1:iW H7 (upd H7 d (.dK (kvs7 ++ [(Sum.inr st.far,.ref t)]))):=fun b ys e=>by
       rw [aK (fun eb=>by rw [eb,hd7] at e;cases e)]
       exact e
      have hw8:upd H7 d (.dK (kvs7 ++ [(Sum.inr st.far,.ref t)])) lw = some (.lst (((keys (cm ++ more)).drop (p + 1)).map V.str)):=by rw [aK (Ne.symm ndw)];exact hw7
      have o8:upd H7 d (.dK (kvs7 ++ [(Sum.inr st.far,.ref t)])) t = some (.tup [.str st.nm,.str st.near,.str st.far,.int st.h]):=KT1 _ _ o7
      have hd8:upd H7 d (.dK (kvs7 ++ [(Sum.inr st.far,.ref t)])) d = some (.dK (kvs7 ++ [(Sum.inr st.far,.ref t)])):=aD
      have S8:aI H (upd H7 d (.dK (kvs7 ++ [(Sum.inr st.far,.ref t)]))):=S7.over hd0
      have ck8:=ck7.keep KT1
      generalize upd H7 d (.dK (kvs7 ++ [(Sum.inr st.far,.ref t)])) = H8 at hw8 o8 hd8 S8 ck8
      refine ⟨_,rfl,.inl ⟨rfl,_,SqL.of hw8⟩,_,rfl,t,_,2,.str st.far,rfl,rfl,SqT.of o8,aP (j:=2) rfl,lw,_,.str st.far,rfl,rfl,hw8,by omega,?_⟩
      have KT2:=iW.lst (o:=.lst (((keys (cm ++ more)).drop (p + 1)).map V.str ++ [.str st.far])) hw8
      have c9:=c7.snoc ms (by rw [e1];exact uk) hk
      rw [CH] at c9
      have kk:keys (cm ++ (more ++ [(st.far,some st)])) = keys (cm ++ more) ++ [st.far]:=by rw [← CH,lD];rfl
      refine ⟨_,more ++ [(st.far,some st)],kvs7 ++ [(Sum.inr st.far,.ref t)],rfl,S8.over hlw0,by rw [aK ndw];exact hd8,?_,c9,?_,?_,?_,?_⟩
      ·rw [← CH]
       have ck9:=ck8.keep KT2
       refine ⟨by rw [Ag,Ag,ck9.len];rfl,fun i z o' e=>?_⟩
       by_cases hi:i < (cm ++ more).length
       ·rw [Bf hi] at e
        obtain ⟨v,ev,cv⟩:=ck9.at' i z o' e
        exact ⟨v,by rw [Bf (by rw [ck9.len];exact hi)];exact ev,cv⟩
       ·have hle:=(AE.mp e).1
        rw [Ag] at hle
        have h1':([(st.far,some st)]:Cm).length = 1:=rfl
        have hie:i = (cm ++ more).length:=by omega
        subst hie
        rw [Cc (AL _),FX] at e
        cases e
        refine ⟨.ref t,by rw [Cc (by rw [ck9.len];exact AL _),ck9.len,FX];rfl,?_⟩
        exact ⟨t,_,rfl,KT2 _ _ o8,_,_,rfl,rfl,_,_,rfl,rfl,_,_,rfl,rfl,_,_,rfl,rfl,rfl⟩
      ·intro z m
       rw [kk] at m
       rcases Ak.mp m with m | m
       ·exact sub7 z m
       ·rw [AU.mp m];exact farV st ms
      ·rw [aD,kk,List.drop_append_of_le_length (by rw [kl7,Ag];omega),AW]
       rfl
      ·rw [← CH]
       exact op7.snoc (by rw [Ag];omega) _
      ·intro s m en
       rw [kk]
       rw [et] at m
       rcases Ak.mp m with m | m
       ·exact CA _ (cl7 s m en)
       ·rw [AU.mp m];exact Aj _ (AU.mpr rfl)
    ·refine ⟨_,more,kvs7,rfl,S7,hd7,ck7,c7,sub7,hw7,op7,fun s m en=>?_⟩
     rw [et] at m
     rcases Ak.mp m with m | m
     ·exact cl7 s m en
     ·rw [AU.mp m] at en
      exact absurd (decide_eq_true en) c1
   ·rintro σ H7 ⟨w5,more,kvs7,rfl,S7,hd7,ck7,c7,sub7,hw7,op7,cl7⟩
    rw [AI (by omega)] at cl7
    have l7:=lcm _ c7 sub7
    have kl7:(keys (cm ++ more)).length = (cm ++ more).length:=by unfold keys;rw [AA]
    have ca:(cm ++ more).length = cm.length + more.length:=Ag
    refine ⟨⟨_,_,p + 1,cm ++ more,kvs7,rfl,S7,hd7,ck7,c7,sub7,by omega,hw7,fun i u' hi e s ms en=>?_⟩,?_⟩
    ·by_cases hip:i < p
     ·exact op7 i u' hip e s ms en
     ·have hie:i = p:=by omega
      subst hie
      rw [lD,Bf (by omega),eu] at e
      cases e
      exact cl7 s ms en
    ·rw [hd7,hw7,hd5,hw5]
     dsimp only
     rw [ck7.len,ck.len,AA,AA,CB,Am,CB]
     omega
  ·have hpe:p = cm.length:=by omega
   subst hpe
   rw [show (keys cm).drop cm.length = [] from Cu (by omega)]
   refine bO ⟨_,rfl,q d cm kvs H5 S5 hd0 hd5 ck c op l13⟩
 ·intro σ H Q Q' h hc
  obtain ⟨v,e,p,xs,e2,hq,q⟩:=hc
  exact ⟨v,e,p,xs,e2,hq,h _ _ q⟩
open Mt53 Mt22 MtF Mt31 Mt61
theorem yP {f:Gap → V}:∀ {G:List Gap} {g:Gap},(G.map (·.nm)).Nodup → g ∈ G → dJ (G.map fun g=>((Sum.inr g.nm:Key),f g)) (Sum.inr g.nm) = some (f g)
 | e :: G,g,nd,m=>by
  rw [Ac] at nd ⊢
  rw [Aq] at nd
  rcases Af.mp m with rfl | m
  ·exact dM rfl
  ·rw [dN (fun c=>nd.1 (by rw [Dx c];exact AT.mpr ⟨g,m,rfl⟩))]
   exact yP nd.2 m
def dU (G:List Gap) (f:Fl):List (Key × V):=G.map fun g=>(Sum.inr g.nm,V.int (f g.nm))
theorem qD {H H':Hp} {a:Addr} {u:HO} (r:Rd H a u) (S:aI H H'):Rd H' a u:=by
 rcases r with h | ⟨o,h⟩
 ·exact .inl (S _ _ h)
 ·exact .inr ⟨o,S _ _ h⟩
theorem pX {G:List Gap} {s:Mt22.St} (m:s ∈ Mt61.stepsOf G):∃ g ∈ G,g.nm = s.nm ∧ (s.h = 1 ∨ s.h = -1):=by
 obtain ⟨g,mg,e⟩:=jI.mp m
 rcases e with rfl | rfl
 ·exact ⟨g,mg,rfl,.inl rfl⟩
 ·exact ⟨g,mg,rfl,.inr rfl⟩
def aEE:Sp:=sp3 fun x y u H Q=>∃ (dm de:Addr) (V0:List Str) (G:List Gap) (f:Fl) (s:Mt22.St),Is H (bM s) x ∧ s ∈ Mt61.stepsOf G ∧ Gaps V0 G ∧ y = .ref dm ∧ Rd H dm (.dK (dH G)) ∧ u = .ref de ∧ Rd H de (.dK (dU G f)) ∧ Q (.int (Mt61.room G f s)) H
theorem yH (T:Txt K mg C):Fc P w K mg base 1 "room" ["step","most","stream"] aEE:=by
 refine T.d_p_room.fc aHS qP (fun f cdv A outer s H vs Q E hr h=>?_)
 obtain ⟨x,y,u,rfl,dm,de,V0,G,fl,st,hx,ms,GG,rfl,hm,rfl,he,q⟩:=h
 have hu:=lG hr
 obtain ⟨t,rfl,o⟩:=kP hx
 obtain ⟨g,mg',en,hh⟩:=pX ms
 have v1:dJ (dH G) (Sum.inr st.nm) = some (.int g.cap):=by rw [← en];exact yP (f:=fun g=>V.int g.cap) GG.nd mg'
 have v2:dJ (dU G fl) (Sum.inr st.nm) = some (.int (fl st.nm)):=by rw [← en];exact yP (f:=fun g=>V.int (fl g.nm)) GG.nd mg'
 refine ⟨_,(@aH _ _ _ (@aQ _ _ _ _ (@aL _ _ _ _ _ _ _ _ iY (@cJ _ _ _ _ _ _ hu (pv 1) (@bD _ _ _ _ _ _ _ (@aS _ (K) rfl) (pv 0) aF (fun _ _=>rfl)) (fun _ _=>rfl)) (@aL _ _ _ _ _ _ _ _ hZ (@bD _ _ _ _ _ _ _ (@aS _ (K) rfl) (pv 0) aF (fun _ _=>rfl)) (@cJ _ _ _ _ _ _ hu (pv 2) (@bD _ _ _ _ _ _ _ (@aS _ (K) rfl) (pv 0) aF (fun _ _=>rfl)) (fun _ _=>rfl)))))),?_⟩
 refine ⟨_,rfl,_,rfl,t,_,0,.str st.nm,rfl,rfl,SqT.of o,aP (j:=0) rfl,dm,_,rfl,.inl ⟨_,Sum.inr st.nm,hm,rfl,v1.symm⟩,?_⟩
 refine ⟨_,rfl,t,_,3,.int st.h,rfl,rfl,SqT.of o,aP (j:=3) rfl,_,rfl,_,rfl,t,_,0,.str st.nm,rfl,rfl,SqT.of o,aP (j:=0) rfl,de,_,rfl,.inl ⟨_,Sum.inr st.nm,he,rfl,v2.symm⟩,?_⟩
 refine ⟨_,_,rfl,rfl,.inl (by rcases hh with h | h <;> rw [h] <;> exact ⟨by decide,by decide⟩),_,_,rfl,rfl,?_⟩
 have e:Mt61.room G fl st = g.cap - st.h * fl st.nm:=by
  unfold Mt61.room
  rw [← en,nY GG mg']
 rw [e] at q
 exact q
def wI (G:List Gap) (f:Fl):List Mt22.St:=(Mt61.stepsOf G).filter fun s=>decide (0 < Mt61.room G f s)
theorem aGY {V0:List Str} {G:List Gap} (GG:Gaps V0 G) {s:Mt22.St} (m:s ∈ Mt61.stepsOf G):s.near ∈ V0 ∧ s.far ∈ V0:=by
 obtain ⟨g,mg,e⟩:=jI.mp m
 obtain ⟨ha,hb,_⟩:=GG.ends g mg
 rcases e with rfl | rfl
 ·exact ⟨ha,hb⟩
 ·exact ⟨hb,ha⟩
def rC:Sp:=sp3 fun x y u H Q=>∃ (l dm de:Addr) (us:List V) (V0:List Str) (G:List Gap) (f:Fl),x = .ref l ∧ H l = some (.lst us) ∧ IsL H ((Mt61.stepsOf G).map bM) us ∧ G.length ≤ 40 ∧ V0.length ≤ 13 ∧ Gaps V0 G ∧ y = .ref dm ∧ Rd H dm (.dK (dH G)) ∧ u = .ref de ∧ Rd H de (.dK (dU G f)) ∧
 ∀ (d:Addr) (cm:Cm) (kvs:List (Key × V)) (H':Hp),aI H H' → H d = none → H' d = some (.dK kvs) → CamKV H' kvs cm → CameG [Mt22.sea] (wI G f) cm → tU (wI G f) cm cm.length → cm.length ≤ 13 → Q (.ref d) H'
theorem qK (T:Txt K mg C):Fc P w K mg base 2 "reached" ["steps","most","stream"] rC:=by
 have G_p_room:Fc P w K mg base 1 "room" ["step","most","stream"] aEE:=yH T
 have G_p_spread:Fc P w K mg base 1 "spread" ["starts","steps"] qZ:=sT T
 refine T.d_p_reached.fc aAD qP (fun f cdv A outer s H vs Q E hr h=>?_)
 obtain ⟨x,y,u,rfl,l,dm,de,us,V0,G,fl,rfl,hl,ius,g40,v13,GG,rfl,hm,rfl,he,q⟩:=h
 have big:=bP
 have lus:=ius.length
 have sl:=oI G
 rw [AA,sl] at lus
 refine ⟨_,(@aH _ _ _ (@aQ _ _ _ _ (@bF _ _ _ _ _ _ _ _ _ _ G_p_spread (hr.mono (by decide)) (@aA _ _ _ _ _ (@fC _ _ _ _ (@aA _ _ _ _ _ (@tO _ _ _ _ T.g_SEA (by rfl) (by decide)) aE (by rfl))) (@aA _ _ _ _ _ (@cB _ _ _ _ _ _ _ _ _ _ _ ["step","most","stream"] 1 [1,2] rfl (@bT _ _ _ _ (pv 0)) (fun R=>@aU _ _ (0) _ (show Au (["step","most","stream"]:List Str) by decide +kernel) rfl (Or.inl rfl) (by trivial)) (@aX _ _ (by decide)) (fun R=>@fW _ _ _ (@cA _ _ _ _ _ _ _ _ aCR (@bF _ _ _ _ _ _ _ _ _ _ G_p_room (hr.mono (by decide)) (@aA _ _ _ _ _ (pv 0) (@aA _ _ _ _ _ (pv 1) (@aA _ _ _ _ _ (pv 2) aE (by rfl)) (by rfl)) (by rfl)) (by rfl) (by decide) (by rfl) (by rfl)) aF (@bQ _ _ (by decide) (by decide)))) (fun R=>(pv 0)) (by rfl) (by rfl) (by rfl) (by rfl) (by rfl) (by rfl) (by rfl) (by intro _;rfl)) aE (by rfl)) (by rfl)) (by rfl) (by decide) (by rfl) (by rfl)))),?_⟩
 refine ⟨aY rfl,fun l1 h1=>?_⟩
 have S1:=aI.upd (o:=.lst [.str "sea"]) h1
 have r1:upd H l1 (.lst [.str "sea"]) l1 = some (.lst (([Mt22.sea]:List Str).map V.str)):=aD
 generalize upd H l1 (.lst [.str "sea"]) = H1 at S1 r1
 refine ⟨_,rfl,l,rfl,⟨_,SqL.of (S1 _ _ hl)⟩,?_⟩
 refine bI (F:=K) (xs:=us) (by omega) (fun i ys H'=>H1 = H' ∧ IsL H' ((((Mt61.stepsOf G).take i).filter fun s=>decide (0 < Mt61.room G fl s)).map bM) ys) ⟨rfl,rfl⟩ ?_ ?_ ?_
 ·rintro i ys H' hi ⟨rfl,iy⟩
  refine ⟨SqL.of (S1 _ _ hl),?_⟩
  have:=iy.length
  have:=BC (fun s=>decide (0 < Mt61.room G fl s)) ((Mt61.stepsOf G).take i)
  rw [AZ] at this
  rw [AA] at *
  omega
 ·rintro i xv ys H' K1 K2 hx' ⟨rfl,iy⟩ k1 k2
  have hil:i < us.length:=(AE.mp hx').1
  obtain ⟨st,es⟩:∃ st,(Mt61.stepsOf G)[i]? = some st:=⟨_,AD (by omega)⟩
  obtain ⟨v,ev,iv⟩:=(IsL.same S1 _ _ ius).get (show ((Mt61.stepsOf G).map bM)[i]? = some (bM st) by rw [AR,es];rfl)
  rw [hx'] at ev
  cases ev
  refine ⟨_,rfl,_,rfl,_,rfl,_,_,_,rfl,dm,de,V0,G,fl,st,iv,AS es,GG,rfl,qD hm S1,rfl,qD he S1,_,_,rfl,rfl,_,rfl,?_⟩
  have et:((Mt61.stepsOf G).take (i + 1)).filter (fun s=>decide (0 < Mt61.room G fl s)) = ((Mt61.stepsOf G).take i).filter (fun s=>decide (0 < Mt61.room G fl s)) ++ (if decide (0 < Mt61.room G fl st) = true then [st] else []):=by
   rw [Ai,es,DR]
   cases h:decide (0 < Mt61.room G fl st) <;> simp [h]
   all_goals simpa using h
  cases hg:decide (0 < Mt61.room G fl st) with
  | false =>
   rw [hg] at et
   refine bO (k2 _ ⟨rfl,?_⟩)
   rw [et]
   simpa using iy
  | true =>
   rw [hg] at et
   refine dL ⟨_,rfl,k1 _ _ ⟨rfl,?_⟩⟩
   rw [et,if_pos rfl,AW]
   exact IsL.snoc iv iy
 rintro ys H2 ⟨rfl,iy⟩
 rw [AI (by omega)] at iy
 intro l2 h2
 have S2:=aI.upd (o:=.lst ys) h2
 refine ⟨_,_,rfl,l1,l2,ys,wI G fl,[Mt22.sea],V0,rfl,rfl,by simp,(fun z m=>by rw [AU.mp m];exact GG.sea),S2 _ _ r1,aD,IsL.same S2 _ _ iy,?_,v13,fun s m=>(aGY GG (Ar.mp m).1).2,fun d cm kvs H' S3 nd hd ck cg op l13=>?_⟩
 ·have:=BC (fun s=>decide (0 < Mt61.room G fl s)) (Mt61.stepsOf G)
  unfold wI
  omega
 ·exact q d cm kvs H' (S1.trans (S2.trans S3)) ((S1.trans S2).free nd) hd ck cg op l13
open Mt53 Mt22 MtF Mt31 Mt61
def aJS:Sp:=sp2 fun x y H Q=>∃ (d:Addr) (kvs:List (Key × V)) (cm:Cm) (S:List Mt22.St) (side:Str),x = .ref d ∧ y = .str side ∧ Rd H d (.dK kvs) ∧ CamKV H kvs cm ∧ Came S cm ∧ cm.length ≤ 13 ∧ side ∈ keys cm ∧
 ∀ (l:Addr) (us:List V) (ss:List Mt22.St) (H':Hp),aI H H' → H l = none → H' l = some (.lst us) → IsL H' (ss.map bM) us → Chain S ss side → ss.length ≤ 13 → Q (.ref l) H'
theorem aLN {cm:Cm} {z:Str} (m:z ∈ keys cm):∃ (i:Nat) (o:Option Mt22.St),cm[i]? = some (z,o):=by
 obtain ⟨i,hi⟩:=BI.mp m
 unfold keys at hi
 rw [AR] at hi
 cases e:cm[i]? with
 | none=>rw [e] at hi;cases hi
 | some x =>
  rw [e] at hi
  obtain ⟨a,o⟩:=x
  cases hi
  exact ⟨i,o,e⟩
theorem aAO (T:Txt K mg C):Fc P w K mg base 1 "path_to" ["came","side"] aJS:=by
 refine T.d_p_path_to.fc jD kM (fun f cdv A outer s H vs Q E hr h=>?_)
 obtain ⟨x,y,rfl,d,kvs,cm,S,side,rfl,rfl,hd,ck,c,l13,ms,q⟩:=h
 have big:=bP
 have hu:=lG hr
 obtain ⟨j0,o0,e0⟩:=aLN ms
 obtain ⟨v0,ev0,cv0⟩:=ck.val c e0
 have hj0:=(AE.mp e0).1
 refine ⟨_,(@aG _ _ _ _ _ (@aZ _ _ (2) _ _ _ _ jD.nd rfl (Or.inl rfl) (@fC _ _ _ _ aE) (by rfl) (by trivial)) (@aG _ _ _ _ _ (@aZ _ _ (3) _ _ _ _ jD.nd rfl (Or.inl rfl) (@cJ _ _ _ _ _ _ hu (pv 0) (pv 1) (fun _ _=>rfl)) (by rfl) (by trivial)) (@aG _ _ _ _ _ (@vE _ _ _ _ _ _ BR (@cA _ _ _ _ _ _ _ _ aOD (pv 3) aAM (@bQ _ _ (by decide) (by decide))) (@aG _ _ _ _ _ (@iL _ _ _ _ (@oY _ _ _ _ _ _ _ _ _ _ _ _ BZ Bj Bi gK (pv 2) (@aA _ _ _ _ _ (pv 3) aE (by rfl)) (by rfl) (by rfl) (by rfl) (by rfl) (by rfl)) (by rfl)) (@aH _ _ _ (@aZ _ _ (3) _ _ _ _ jD.nd rfl (Or.inl rfl) (@cJ _ _ _ _ _ _ hu (pv 0) (@bD _ _ _ _ _ _ _ (@aS _ (K) rfl) (pv 3) aF (fun _ _=>rfl)) (fun _ _=>rfl)) (by rfl) (by trivial))))) (@aH _ _ _ (@aQ _ _ _ _ (@aES _ _ _ _ _ _ _ rfl rfl T.n_list rfl T.n_reversed (@aA _ _ _ _ _ (pv 2) aE (by rfl)) (by rfl) (by rfl))))))),?_⟩
 refine ⟨aY rfl,fun lp hlp=>?_⟩
 have S1:=aI.upd (o:=.lst []) hlp
 have h1:upd H lp (.lst []) lp = some (.lst []):=aD
 generalize upd H lp (.lst []) = H1 at S1 h1
 refine ⟨_,rfl,_,rfl,d,v0,rfl,.inl ⟨kvs,Sum.inr side,qD hd S1,rfl,ev0.symm⟩,?_⟩
 refine uF (fun σ H'=>∃ (j:Nat) (z:Str) (o:Option Mt22.St) (v:V) (ps:List Mt22.St) (us:List V),σ = [some (.ref d),some (.str side),some (.ref lp),some v] ∧ aI H H' ∧ H' lp = some (.lst us) ∧ IsL H' (ps.map bM) us ∧ cm[j]? = some (z,o) ∧ CV H' o v ∧ aRE S cm j z ps.reverse side ∧ ps.length + j < cm.length)
  (fun _ H'=>match H' lp with | some (.lst us)=>14 - us.length | _=>0) ⟨j0,side,o0,v0,[],[],rfl,S1,h1,rfl,e0,cv0.same S1,(fun ss ch _=>by rw [List.reverse_nil,Ch];exact ch),by show 0 + j0 < _;omega⟩ ?_ ?_
 ·rintro σ H2 ⟨j,z,o,v,ps,us,rfl,S2,h2,ius,ej,cv,tl,lj⟩
  have lus:=ius.length
  rw [AA] at lus
  refine ⟨_,rfl,rfl,_,rfl,?_⟩
  cases o with
  | none =>
   have hv:v = .non:=cv
   subst hv
   have hj:j = 0:=by
    cases j with
    | zero=>rfl
    | succ j =>
     obtain ⟨s',h',_⟩:=c.prev (j + 1) z none (by omega) ej
     cases h'
   subst hj
   have hz:z = Mt22.sea:=by
    have:=c.first
    rw [ej] at this
    cases this
    rfl
   subst hz
   have ch:=tl [] .nil (fun y m=>by cases m)
   rw [Ek] at ch
   rw [decide_eq_true rfl]
   refine bO ⟨_,rfl,lp,us,rfl,SqL.of h2,fun l hl=>?_⟩
   refine q l us.reverse ps.reverse _ (S2.trans (aI.upd hl)) (S2.free hl) aD ?_ ch (by rw [Dn];omega)
   rw [List.map_reverse]
   exact IsL.rev (IsL.same (aI.upd hl) _ _ ius)
  | some s =>
   obtain ⟨t,rfl,ot⟩:=kP cv
   have hj:0 < j:=by
    cases j with
    | zero =>
     have:=c.first
     rw [ej] at this
     cases this
    | succ j=>omega
   obtain ⟨s',es',mS,hf,hn⟩:=c.prev j z (some s) hj ej
   cases es'
   obtain ⟨i,oi,ei⟩:=aLN hn
   have hil:=(AE.mp ei).1
   rw [AZ] at hil
   have hij:i < j:=by omega
   rw [Bt hij] at ei
   obtain ⟨v',ev',cv'⟩:=ck.val c ei
   have ki:(keys cm)[i]? = some s.near:=by unfold keys;rw [AR,ei];rfl
   have hne:(!decide (V.ref t = V.non)) = true:=by rw [decide_eq_false (by intro c;cases c)];rfl
   rw [hne]
   refine dL ?_
   refine ⟨_,rfl,.inl ⟨rfl,_,SqL.of h2⟩,_,rfl,lp,us,.ref t,rfl,rfl,h2,by omega,?_⟩
   have KT:=iW.lst (o:=.lst (us ++ [.ref t])) h2
   have S3:aI H (upd H2 lp (.lst (us ++ [.ref t]))):=S2.over hlp
   refine ⟨_,rfl,_,rfl,t,_,1,.str s.near,rfl,rfl,SqT.of (KT _ _ ot),aP (j:=1) rfl,d,v',rfl,.inl ⟨kvs,Sum.inr s.near,qD hd S3,rfl,ev'.symm⟩,?_⟩
   refine ⟨⟨i,s.near,oi,v',ps ++ [s],us ++ [.ref t],rfl,S3,aD,?_,ei,cv'.same S3,?_,by rw [Ag];show _ + 1 + _ < _;omega⟩,?_⟩
   ·refine IsL.keep KT _ _ (fZ fun d m=>?_) ?_
    ·obtain ⟨s,_,rfl⟩:=AT.mp m
     exact gH s
    ·rw [AW]
     exact IsL.snoc (d:=bM s) (v:=.ref t) cv ius
   ·rw [List.reverse_append]
    exact aHJ c ej mS hf hij ki tl
   ·rw [h2,aD]
    dsimp only
    rw [Ag]
    show 14 - (us.length + 1) < 14 - us.length
    omega
 ·intro σ H Q Q' h hc
  obtain ⟨v,e,hq,k,e2,q⟩:=hc
  exact ⟨v,e,hq,k,e2,h _ _ q⟩
theorem aIT {S ss:List Mt22.St} {z:Str} (c:Chain S ss z):ss = [] → z = Mt22.sea:=by
 induction c with
 | nil=>intro _;rfl
 | snoc c m n ih=>intro e;simp at e
def aMZ (G:List Gap) (f:Fl) (ws:List Str):Prop:=∃ cm:Cm,CameG [Mt22.sea] (wI G f) cm ∧ tU (wI G f) cm cm.length ∧ ∀ z ∈ ws,z ∉ keys cm
def aSU (G:List Gap) (f:Fl) (ws:List Str) (ss:List Mt22.St):Prop:=(ss = [] ∧ aMZ G f ws) ∨ ∃ z,Chain (wI G f) ss z ∧ z ∈ ws ∧ ss ≠ [] ∧ ss.length ≤ 13
def zS:Sp:=fun vs H Q _=>∃ (x y u v:V) (l dm de lw:Addr) (us:List V) (V0:List Str) (G:List Gap) (f:Fl) (ws:List Str),vs = [x,y,u,v] ∧ x = .ref l ∧ H l = some (.lst us) ∧ IsL H ((Mt61.stepsOf G).map bM) us ∧ G.length ≤ 40 ∧ V0.length ≤ 13 ∧ Gaps V0 G ∧ y = .ref dm ∧ Rd H dm (.dK (dH G)) ∧ u = .ref de ∧ Rd H de (.dK (dU G f)) ∧ v = .ref lw ∧ H lw = some (.lst (ws.map V.str)) ∧ Mt22.sea ∉ ws ∧
 ∀ (lp:Addr) (us:List V) (ss:List Mt22.St) (H':Hp),aI H H' → H lp = none → H' lp = some (.lst us) → IsL H' (ss.map bM) us → aSU G f ws ss → Q (.ref lp) H'
theorem aSD:∀ vs H Q E,zS vs H Q E → vs.length = 4:=fun vs H Q E ⟨x,y,u,v,l,dm,de,lw,us,V0,G,f,ws,e,_⟩=>by rw [e];rfl
theorem oT (T:Txt K mg C):Fc P w K mg base 3 "path_with_room" ["steps","most","stream","fields"] zS:=by
 have G_p_reached:Fc P w K mg base 2 "reached" ["steps","most","stream"] rC:=qK T
 have G_p_path_to:Fc P w K mg base 1 "path_to" ["came","side"] aJS:=aAO T
 refine T.d_p_path_with_room.fc fK aSD (fun f cdv A outer s H vs Q E hr h=>?_)
 obtain ⟨x,y,u,v,l,dm,de,lw,us,V0,G,fl,ws,rfl,rfl,hl,ius,g40,v13,GG,rfl,hm,rfl,he,rfl,hlw,ns,q⟩:=h
 have big:=bP
 have hu:=lG hr
 refine ⟨_,(@aG _ _ _ _ _ (@aZ _ _ (4) _ _ _ _ fK.nd rfl (Or.inl rfl) (@bF _ _ _ _ _ _ _ _ _ _ G_p_reached (hr.mono (by decide)) (@aA _ _ _ _ _ (pv 0) (@aA _ _ _ _ _ (pv 1) (@aA _ _ _ _ _ (pv 2) aE (by rfl)) (by rfl)) (by rfl)) (by rfl) (by decide) (by rfl) (by rfl)) (by rfl) (by trivial)) (@aG _ _ _ _ _ (@jS _ (5) _ _ _ _ _ _ _ _ _ _ _ _ _ fK.nd rfl ["side","fields"] 1 [3] rfl (@aAL _ _ _ _ (pv 4)) (fun R=>@aU _ _ (0) _ (show Au (["side","fields"]:List Str) by decide +kernel) rfl (Or.inl rfl) (by trivial)) (@aX _ _ (by decide)) (fun R=>@fW _ _ _ (@cA _ _ _ _ _ _ _ _ (@jU _ (K) rfl) (pv 0) (pv 1) (by with_unfolding_all rfl))) (fun R=>(pv 0)) (by exact Or.inl rfl) (by trivial) (by rfl) (by rfl) (by rfl) (by rfl) (by rfl) (by rfl) (by rfl) (by rfl) (by intro _;rfl)) (@aH _ _ _ (@aQ _ _ _ _ (@aLA _ _ _ _ _ _ _ _ (@aEP _ _ _ (pv 5) (by intro _;rfl)) (@bF _ _ _ _ _ _ _ _ _ _ G_p_path_to (hr.mono (by decide)) (@aA _ _ _ _ _ (pv 4) (@aA _ _ _ _ _ (@bD _ _ _ _ _ _ _ (@gZ _ (K) rfl) (pv 5) aF (fun _ _=>rfl)) aE (by rfl)) (by rfl)) (by rfl) (by decide) (by rfl) (by rfl)) (@fC _ _ _ _ aE)))))),?_⟩
 refine ⟨_,rfl,_,rfl,_,rfl,_,_,_,rfl,l,dm,de,us,V0,G,fl,rfl,hl,ius,g40,v13,GG,rfl,hm,rfl,he,fun d cm kvs H1 S1 nd hd ck cg op l13=>?_⟩
 refine ⟨_,rfl,d,kvs,rfl,hd,fun o=>?_⟩
 have SF:aI H (upd H1 d (.frz o (.dK kvs))):=S1.over nd
 have KF:iW H1 (upd H1 d (.frz o (.dK kvs))):=fun b ys e=>by
  rw [aK (fun c=>by rw [c,hd] at e;cases e)]
  exact e
 have ckF:=ck.keep KF
 have dF:upd H1 d (.frz o (.dK kvs)) d = some (.frz o (.dK kvs)):=aD
 generalize upd H1 d (.frz o (.dK kvs)) = H2 at SF ckF dF
 have lk:kvs.length = cm.length:=ck.len
 have hlw2:=SF _ _ hlw
 refine sF (by omega) (fun i ys H'=>H2 = H' ∧ ys = (((keys cm).take i).filter fun z=>decide (z ∈ ws)).map V.str) ⟨rfl,rfl⟩ ?_ ?_ ?_
 ·rintro i ys H' hi ⟨rfl,rfl⟩
  refine ⟨dF,?_⟩
  have:=BC (fun z=>decide (z ∈ ws)) ((keys cm).take i)
  rw [AZ] at this
  rw [AA]
  omega
 ·rintro i kv ys H' K1 K2 hk ⟨rfl,rfl⟩ k1 k2
  have hil:=(AE.mp hk).1
  obtain ⟨⟨z,oo⟩,ez⟩:∃ x,cm[i]? = some x:=⟨_,AD (by omega)⟩
  obtain ⟨vv,ev,_⟩:=ckF.at' i z oo ez
  rw [hk] at ev
  cases ev
  have kz:(keys cm)[i]? = some z:=by unfold keys;rw [AR,ez];rfl
  refine ⟨_,rfl,_,rfl,lw,_,rfl,.inl (SqL.of hlw2),rfl,iF ws,_,rfl,?_⟩
  show (if inV (V.str z) (ws.map V.str) = true then _ else _)
  rw [mG]
  have et:((keys cm).take (i + 1)).filter (fun z=>decide (z ∈ ws)) = ((keys cm).take i).filter (fun z=>decide (z ∈ ws)) ++ (if decide (z ∈ ws) = true then [z] else []):=by
   rw [Ai,kz,DR]
   cases h:decide (z ∈ ws) <;> simp [h]
   all_goals simpa using h
  cases hg:decide (z ∈ ws) with
  | false =>
   rw [hg] at et
   refine bO (k2 _ ⟨rfl,?_⟩)
   rw [et]
   simp
  | true =>
   rw [hg] at et
   refine dL ⟨_,rfl,k1 _ _ ⟨rfl,?_⟩⟩
   rw [et,if_pos rfl,AW]
   rfl
 rintro ys H3 ⟨rfl,rfl⟩
 rw [AI (by unfold keys;rw [AA];omega)]
 intro le hle
 have S3:=aI.upd (o:=.lst (((keys cm).filter fun z=>decide (z ∈ ws)).map V.str)) hle
 have r3:upd H2 le (.lst (((keys cm).filter fun z=>decide (z ∈ ws)).map V.str)) le = some (.lst (((keys cm).filter fun z=>decide (z ∈ ws)).map V.str)):=aD
 have T3:=SF.trans S3
 have ck3:=ckF.same S3
 have d3:=S3 _ _ dF
 generalize upd H2 le (.lst (((keys cm).filter fun z=>decide (z ∈ ws)).map V.str)) = H3 at S3 r3 T3 ck3 d3
 refine ⟨_,rfl,le,_,rfl,SqL.of r3,?_⟩
 cases ef:(keys cm).filter fun z=>decide (z ∈ ws) with
 | nil =>
  refine bO ⟨aY rfl,fun lp hlp=>?_⟩
  refine q lp [] [] _ (T3.trans (aI.upd hlp)) (T3.free hlp) aD rfl (.inl ⟨rfl,cm,cg,op,fun z mz mk=>?_⟩)
  have:z ∈ (keys cm).filter fun z=>decide (z ∈ ws):=Ar.mpr ⟨mk,decide_eq_true mz⟩
  rw [ef] at this
  cases this
 | cons z zr =>
  have mz:z ∈ (keys cm).filter fun z=>decide (z ∈ ws):=by rw [ef];exact AY
  rw [Ar] at mz
  have zw:z ∈ ws:=of_decide_eq_true mz.2
  rw [ef] at r3
  refine dL ?_
  refine ⟨_,rfl,_,rfl,le,_,0,.str z,rfl,rfl,SqL.of r3,aP (j:=0) rfl,_,_,rfl,d,kvs,cm,wI G fl,z,rfl,rfl,.inr ⟨o,d3⟩,ck3,cg.came,l13,mz.1,fun lp us' ss H4 S4 nlp hlp iss ch s13=>?_⟩
  refine q lp us' ss H4 (T3.trans S4) (T3.free nlp) hlp iss (.inr ⟨z,ch,zw,fun e=>?_,s13⟩)
  have:=aIT ch e
  rw [this] at zw
  exact ns zw
open Mt53 Mt22 MtF Mt31 Mt61
def aME (kvs:List (Key × V)):Fl:=fun n=>match dJ kvs (Sum.inr n) with
 | some (.int i)=>i
 | _=>0
theorem aBA {H:Hp} {ds:List Dv} {us:List V} (h:IsL H ds us):ds.length = us.length:=by have:=h.length;omega
theorem aGX {G:List Gap} (nd:(G.map (·.nm)).Nodup) (f:Fl) {g:Gap} (m:g ∈ G):aME (dU G f) g.nm = f g.nm:=by
 unfold aME
 rw [show dJ (dU G f) (Sum.inr g.nm) = some (.int (f g.nm)) from yP (f:=fun g=>V.int (f g.nm)) nd m]
theorem xS {G:List Gap} {f f':Fl} (h:∀ g ∈ G,f g.nm = f' g.nm):val G f = val G f':=by
 unfold val net
 rw [gO fun g m=>show aCV f Mt22.sea g = aCV f' Mt22.sea g by unfold aCV;rw [h g m]]
theorem aMC {G:List Gap} {f:Fl} {n:Str} {x:Int} (m:n ∈ G.map (·.nm)):jR (dU G f) (Sum.inr n) (.int x) = dU G (fun k=>if k = n then x else f k):=by
 unfold jR
 have ha:((dU G f).any fun kv=>decide (kv.1 = (Sum.inr n:Key))) = true:=by
  obtain ⟨g,mg,e⟩:=AT.mp m
  refine EW.mpr ⟨_,AT.mpr ⟨g,mg,rfl⟩,?_⟩
  rw [← e]
  exact decide_eq_true rfl
 rw [if_pos ha]
 unfold dU
 rw [At]
 refine Cn fun g _=>?_
 show (if (Sum.inr g.nm:Key) = Sum.inr n then ((Sum.inr g.nm:Key),V.int x) else (Sum.inr g.nm,V.int (f g.nm))) = (Sum.inr g.nm,V.int (if g.nm = n then x else f g.nm))
 by_cases e:g.nm = n
 ·rw [if_pos (by rw [e]),if_pos e]
 ·rw [if_neg (fun c=>e (Dx c)),if_neg e]
theorem aMD {G:List Gap} {f:Fl} {s:Mt22.St} {m:Int} (ms:s ∈ Mt61.stepsOf G):jR (dU G f) (Sum.inr s.nm) (.int (f s.nm + s.h * m)) = dU G (kE m f s):=by
 obtain ⟨g,mg,en,_⟩:=pX ms
 rw [aMC (by rw [← en];exact AT.mpr ⟨g,mg,rfl⟩)]
 unfold dU
 refine Cn fun g _=>?_
 show (Sum.inr g.nm,V.int (if g.nm = s.nm then f s.nm + s.h * m else f g.nm)) = (Sum.inr g.nm,V.int (if g.nm = s.nm then f g.nm + s.h * m else f g.nm))
 by_cases e:g.nm = s.nm
 ·rw [if_pos e,if_pos e,e]
 ·rw [if_neg e,if_neg e]
theorem nW (G:List Gap) (f:Fl):(dU G f).length = G.length:=AA _
theorem aIL (G:List Gap) (f:Fl):(dU G f).map (·.1) = (G.map (·.nm)).map Sum.inr:=by
 unfold dU
 rw [At,At]
 rfl
theorem wH {G:List Gap} {f:Fl}:∀ s ∈ wI G f,s ∈ Mt61.stepsOf G:=fun s m=>(Ar.mp m).1
def aJV:Sp:=sp3 fun x y u H Q=>∃ (l dm lw:Addr) (o:Obj) (us:List V) (V0:List Str) (G:List Gap) (ws:List Str),x = .ref l ∧ H l = some (.lst us) ∧ IsL H ((Mt61.stepsOf G).map bM) us ∧ G.length ≤ 40 ∧ V0.length ≤ 13 ∧ Gaps V0 G ∧ y = .ref dm ∧ H dm = some (.frz o (.dK (dH G))) ∧ u = .ref lw ∧ H lw = some (.lst (ws.map V.str)) ∧ Mt22.sea ∉ ws ∧
 ∀ (de:Addr) (f:Fl) (H':Hp),aI H H' → H de = none → H' de = some (.dK (dU G f)) → Stream V0 G ws f → aMZ G f ws → Q (.ref de) H'
theorem oU (T:Txt K mg C):Fc P w K mg base 4 "fullest_stream" ["steps","most","fields"] aJV:=by
 have G_p_path_with_room:Fc P w K mg base 3 "path_with_room" ["steps","most","stream","fields"] zS:=oT T
 have G_p_room:Fc P w K mg base 1 "room" ["step","most","stream"] aEE:=yH T
 refine T.d_p_fullest_stream.fc cG qP (fun f cdv A outer s H vs Q E hr h=>?_)
 obtain ⟨x,y,u,rfl,l,dm,lw,o,us,V0,G,ws,rfl,hl,ius,g40,v13,GG,rfl,hm,rfl,hlw,ns,q⟩:=h
 have big:=bP
 have hu:=lG hr
 refine ⟨_,(@aG _ _ _ _ _ (@aZ _ _ (3) _ _ _ _ cG.nd rfl (Or.inr rfl) (@bH _ _ _ _ _ _ _ _ _ (@eJ _ rfl) rfl T.n_dict kA (@aA _ _ _ _ _ (@cB _ _ _ _ _ _ _ _ _ _ _ ["name"] 1 [] rfl (@aKW _ _ _ _ (pv 1)) (fun R=>@aU _ _ (0) _ (show Au (["name"]:List Str) by decide +kernel) rfl (Or.inl rfl) (by trivial)) (@aX _ _ (by decide)) (fun R=>cF) (fun R=>(@dW _ _ _ _ _ (@aA _ _ _ _ _ (pv 0) (@aA _ _ _ _ _ aF aE (by rfl)) (by rfl)))) (by rfl) (by rfl) (by rfl) (by rfl) (by rfl) (by rfl) (by rfl) (by intro _;rfl)) aE (by rfl)) (by decide) (by decide) (by rfl) (by rfl)) (by rfl) (by trivial)) (@aG _ _ _ _ _ (@aZ _ _ (4) _ _ _ _ cG.nd rfl (Or.inl rfl) (@bF _ _ _ _ _ _ _ _ _ _ G_p_path_with_room (hr.mono (by decide)) (@aA _ _ _ _ _ (pv 0) (@aA _ _ _ _ _ (pv 1) (@aA _ _ _ _ _ (pv 3) (@aA _ _ _ _ _ (pv 2) aE (by rfl)) (by rfl)) (by rfl)) (by rfl)) (by rfl) (by decide) (by rfl) (by rfl)) (by rfl) (by trivial)) (@aG _ _ _ _ _ (@vE _ _ _ _ _ _ BR (@aEP _ _ _ (pv 4) (by intro _;rfl)) (@aG _ _ _ _ _ (@aZ _ _ (5) _ _ _ _ cG.nd rfl (Or.inl rfl) (@aV _ _ _ _ _ _ _ _ _ (@aIU _ rfl) rfl T.n_min zI (@aA _ _ _ _ _ (@cB _ _ _ _ _ _ _ _ _ _ _ ["step","most","stream"] 1 [1,3] rfl (@bT _ _ _ _ (pv 4)) (fun R=>@aU _ _ (0) _ (show Au (["step","most","stream"]:List Str) by decide +kernel) rfl (Or.inl rfl) (by trivial)) (@aX _ _ (by decide)) (fun R=>cF) (fun R=>(@bF _ _ _ _ _ _ _ _ _ _ G_p_room (hr.mono (by decide)) (@aA _ _ _ _ _ (pv 0) (@aA _ _ _ _ _ (pv 1) (@aA _ _ _ _ _ (pv 2) aE (by rfl)) (by rfl)) (by rfl)) (by rfl) (by decide) (by rfl) (by rfl))) (by rfl) (by rfl) (by rfl) (by rfl) (by rfl) (by rfl) (by rfl) (by intro _;rfl)) aE (by rfl)) (by decide) (by decide) (by rfl) (by rfl)) (by rfl) (by trivial)) (@aG _ _ _ _ _ (@iX _ _ _ _ _ _ _ _ BR rfl (@bT _ _ _ _ (pv 4)) (@aU _ _ (6) _ cG.nd rfl (Or.inl rfl) (by trivial)) (@aH _ _ _ (@aNU _ _ _ _ _ _ _ _ _ _ _ hu (pv 3) (@bD _ _ _ _ _ _ _ (@aS _ (K) rfl) (pv 6) aF (fun _ _=>rfl)) (@aL _ _ _ _ _ _ _ _ hZ (@bD _ _ _ _ _ _ _ (@aS _ (K) rfl) (pv 6) aF (fun _ _=>rfl)) (pv 5)) aQW (fun _ _ _=>rfl))) (by intro _;rfl)) (@aH _ _ _ (@aZ _ _ (4) _ _ _ _ cG.nd rfl (Or.inl rfl) (@bF _ _ _ _ _ _ _ _ _ _ G_p_path_with_room (hr.mono (by decide)) (@aA _ _ _ _ _ (pv 0) (@aA _ _ _ _ _ (pv 1) (@aA _ _ _ _ _ (pv 3) (@aA _ _ _ _ _ (pv 2) aE (by rfl)) (by rfl)) (by rfl)) (by rfl)) (by rfl) (by decide) (by rfl) (by rfl)) (by rfl) (by trivial)))))) (@aH _ _ _ (@aQ _ _ _ _ (pv 3)))))),?_⟩
 refine ⟨_,rfl,dm,o,_,rfl,hm,?_⟩
 refine sF (by rw [lH];omega) (fun i ys H'=>aI H H' ∧ bV H' ys (dU (G.take i) fun _=>0)) ⟨aI.refl _,bV.nil _⟩ ?_ ?_ ?_
 ·rintro i ys H' hi ⟨S',pa⟩
  have:=pa.len
  rw [nW,AZ] at this
  exact ⟨S' _ _ hm,by omega⟩
 ·rintro i kv ys H' K1 K2 hk ⟨S',pa⟩ k1 k2
  unfold dH at hk
  rw [AR] at hk
  obtain ⟨g,eg,ekv⟩:=Ay.mp hk
  have ek:kV kv.1 = V.str g.nm:=by rw [← ekv];rfl
  rw [ek]
  refine ⟨_,rfl,aY rfl,fun p3 hp3=>k1 _ _ ⟨S'.trans (aI.upd hp3),?_⟩⟩
  have e2:dU (G.take (i + 1)) (fun _=>0) = dU (G.take i) (fun _=>0) ++ [(Sum.inr g.nm,V.int 0)]:=by
   unfold dU
   rw [Ai,eg,AW]
   rfl
  rw [e2]
  exact bV.snoc (k:=Sum.inr g.nm) pa hp3
 rintro ys H1 ⟨S1,pa⟩
 rw [lH,AI (AL _)] at pa
 intro p4 hp4
 have S2:=aI.upd (o:=.lst ys) hp4
 refine ⟨p4,ys,dU G fun _=>0,rfl,SqL.of aD,pa.same S2,by rw [nW];omega,by rw [aIL];exact (iD _).mpr GG.nd,fun de hde=>?_⟩
 have S3:=aI.upd (o:=.dK (dU G fun _=>0)) hde
 have T3:=S1.trans (S2.trans S3)
 have nde:=(S1.trans S2).free hde
 have he3:upd (upd H1 p4 (.lst ys)) de (.dK (dU G fun _=>0)) de = some (.dK (dU G fun _=>0)):=aD
 generalize upd (upd H1 p4 (.lst ys)) de (.dK (dU G fun _=>0)) = H3 at S3 T3 he3
 have st0:Stream V0 G ws (fun _=>0):=Stream.none GG ws fun _ _=>rfl
 refine ⟨_,rfl,_,rfl,_,rfl,_,rfl,_,_,_,_,l,dm,de,lw,us,V0,G,fun _=>0,ws,rfl,rfl,T3 _ _ hl,IsL.same T3 _ _ ius,g40,v13,GG,rfl,.inr ⟨o,T3 _ _ hm⟩,rfl,.inl he3,rfl,T3 _ _ hlw,ns,fun lp us4 ss H4 S4 nlp hlp iss go=>?_⟩
 refine uF (fun σ H'=>∃ (f5:Fl) (lp:Addr) (us5:List V) (ss:List Mt22.St) (v5 v6:Option V),σ = [some (.ref l),some (.ref dm),some (.ref lw),some (.ref de),some (.ref lp),v5,v6] ∧ aI H H' ∧ H' de = some (.dK (dU G f5)) ∧ Stream V0 G ws f5 ∧ H' lp = some (.lst us5) ∧ IsL H' (ss.map bM) us5 ∧ aSU G f5 ws ss)
  (fun _ H'=>match H' de with | some (.dK kvs)=>(aBV G - val G (aME kvs)).toNat | _=>0) ⟨fun _=>0,lp,us4,ss,_,_,rfl,T3.trans S4,S4 _ _ he3,st0,hlp,iss,go⟩ ?_ ?_
 ·rintro σ H5 ⟨f5,lp,us5,ss,v5,v6,rfl,S5,he5,st5,hlp5,iss5,go5⟩
  have lss:=aBA iss5
  rw [AA] at lss
  refine ⟨_,rfl,lp,us5,rfl,SqL.of hlp5,?_⟩
  rcases go5 with ⟨rfl,en⟩ | ⟨z,ch,mz,ne,s13⟩
  ·have:us5 = []:=List.eq_nil_of_length_eq_zero lss.symm
   subst this
   exact bO ⟨_,rfl,q de f5 H5 S5 nde he5 st5 en⟩
  have une:us5.isEmpty = false:=by
   cases us5 with
   | nil=>exact absurd (List.eq_nil_of_length_eq_zero lss) ne
   | cons a b=>rfl
  rw [une]
  refine dL ?_
  obtain ⟨csub,cnd⟩:=zF ch
  have rpos:∀ s ∈ ss,0 < Mt61.room G f5 s:=fun s m=>of_decide_eq_true (Ar.mp (csub s m)).2
  have hm5:=S5 _ _ hm
  refine ⟨_,rfl,lp,rfl,⟨_,SqL.of hlp5⟩,?_⟩
  refine bI (F:=K) (xs:=us5) (by omega) (fun i ys H'=>H5 = H' ∧ ys = ((ss.take i).map (Mt61.room G f5)).map V.int) ⟨rfl,rfl⟩ ?_ ?_ ?_
  ·rintro i ys H' hi ⟨rfl,rfl⟩
   exact ⟨SqL.of hlp5,by rw [AA,AA,AZ];omega⟩
  ·rintro i xv ys H' K1 K2 hx' ⟨rfl,rfl⟩ k1 k2
   have hil:i < us5.length:=(AE.mp hx').1
   obtain ⟨st,es⟩:∃ st,ss[i]? = some st:=⟨_,AD (by omega)⟩
   obtain ⟨v,ev,iv⟩:=iss5.get (show (ss.map bM)[i]? = some (bM st) by rw [AR,es];rfl)
   rw [hx'] at ev
   cases ev
   have ms:=AS es
   refine ⟨_,rfl,_,rfl,_,rfl,_,_,_,rfl,dm,de,V0,G,f5,st,iv,wH _ (csub st ms),GG,rfl,.inr ⟨o,hm5⟩,rfl,.inl he5,k1 _ _ ⟨rfl,?_⟩⟩
   rw [Ai,es,AW,AW]
   rfl
  rintro ys H6 ⟨rfl,rfl⟩
  rw [AI (by omega)]
  intro la hla
  have S6:=aI.upd (o:=.lst ((ss.map (Mt61.room G f5)).map V.int)) hla
  have r6:upd H5 la (.lst ((ss.map (Mt61.room G f5)).map V.int)) la = some (.lst ((ss.map (Mt61.room G f5)).map V.int)):=aD
  generalize upd H5 la (.lst ((ss.map (Mt61.room G f5)).map V.int)) = H6 at S6 r6
  have T6:=S5.trans S6
  refine ⟨la,ss.map (Mt61.room G f5),rfl,SqL.of r6,by rw [AA];exact List.length_pos_iff.mpr ne,fun M mM least=>?_⟩
  have M0:0 < M:=by
   obtain ⟨s,ms,rfl⟩:=AT.mp mM
   exact rpos s ms
  have hM:∀ s ∈ ss,M ≤ Mt61.room G f5 s:=fun s m=>least _ (AT.mpr ⟨s,m,rfl⟩)
  have he6:=S6 _ _ he5
  have hlp6:=S6 _ _ hlp5
  have iss6:=IsL.same S6 _ _ iss5
  refine ⟨_,rfl,lp,rfl,⟨_,SqL.of hlp6⟩,nR (K:=K) (a:=lp) (xs:=us5) (fun i σ H'=>∃ v6,σ = [some (.ref l),some (.ref dm),some (.ref lw),some (.ref de),some (.ref lp),some (.int M),v6] ∧ aI H H' ∧ H' de = some (.dK (dU G ((ss.take i).foldl (kE M) f5))) ∧ H' lp = some (.lst us5) ∧ IsL H' (ss.map bM) us5) ⟨_,rfl,T6,he6,hlp6,iss6⟩ ?_ ?_ ?_⟩
  ·rintro i σ H' hi ⟨v6,rfl,S',he',hl',is'⟩
   exact SqL.of hl'
  ·rintro i xv σ H' hx ⟨v6,rfl,S',he',hl',is'⟩
   have hil:i < us5.length:=(AE.mp hx).1
   obtain ⟨st,es⟩:∃ st,ss[i]? = some st:=⟨_,AD (by omega)⟩
   obtain ⟨v,ev,iv⟩:=is'.get (show (ss.map bM)[i]? = some (bM st) by rw [AR,es];rfl)
   rw [hx] at ev
   cases ev
   have ms:=wH _ (csub st (AS es))
   obtain ⟨t,rfl,ot⟩:=kP iv
   obtain ⟨g,mg',en,hh⟩:=pX ms
   have v2:dJ (dU G ((ss.take i).foldl (kE M) f5)) (Sum.inr st.nm) = some (.int (((ss.take i).foldl (kE M) f5) st.nm)):=by rw [← en];exact yP (f:=fun g=>V.int (((ss.take i).foldl (kE M) f5) g.nm)) GG.nd mg'
   refine ⟨_,rfl,_,rfl,t,_,0,.str st.nm,rfl,rfl,SqT.of ot,aP (j:=0) rfl,de,_,rfl,.inl ⟨_,Sum.inr st.nm,.inl he',rfl,v2.symm⟩,?_⟩
   refine ⟨_,rfl,t,_,3,.int st.h,rfl,rfl,SqT.of ot,aP (j:=3) rfl,_,rfl,_,_,rfl,rfl,.inl (by rcases hh with h | h <;> rw [h] <;> exact ⟨by decide,by decide⟩),_,_,rfl,rfl,_,.inl ⟨_,Sum.inr st.nm,he',rfl,by rw [nW];omega,rfl⟩,?_⟩
   rw [aMD ms]
   have nlp':lp ≠ de:=yM hl' he' (by intro c;cases c)
   have KT:iW H' (upd H' de (.dK (dU G (kE M ((ss.take i).foldl (kE M) f5) st)))):=fun b ys e=>by
    rw [aK (fun c=>by rw [c,he'] at e;cases e)]
    exact e
   refine ⟨_,rfl,S'.over nde,?_,by rw [aK nlp'];exact hl',IsL.keep KT _ _ (fZ fun d m=>?_) is'⟩
   ·rw [aD,Ai,es,List.foldl_append]
    rfl
   ·obtain ⟨s,_,rfl⟩:=AT.mp m
    exact gH s
  ·rintro σ H7 ⟨v6,rfl,S7,he7,hl7,is7⟩
   rw [← lss,AI (AL _)] at he7
   obtain ⟨st7,va7⟩:=st5.more GG ch wH (Int.le_of_lt M0) hM mz ns
   refine ⟨_,rfl,_,rfl,_,rfl,_,rfl,_,_,_,_,l,dm,de,lw,us,V0,G,ss.foldl (kE M) f5,ws,rfl,rfl,S7 _ _ hl,IsL.same S7 _ _ ius,g40,v13,GG,rfl,.inr ⟨o,S7 _ _ hm⟩,rfl,.inl he7,rfl,S7 _ _ hlw,ns,fun lp8 us8 ss8 H8 S8 nlp8 hlp8 iss8 go8=>?_⟩
   refine ⟨⟨_,lp8,us8,ss8,_,_,rfl,S7.trans S8,S8 _ _ he7,st7,hlp8,iss8,go8⟩,?_⟩
   rw [he5,S8 _ _ he7]
   show (aBV G - val G (aME (dU G (ss.foldl (kE M) f5)))).toNat < (aBV G - val G (aME (dU G f5))).toNat
   rw [xS fun g m=>aGX GG.nd _ m,xS fun g m=>aGX GG.nd f5 m,va7]
   have:=aHH GG st7.fits
   omega
 ·intro σ H Q Q' h hc
  obtain ⟨v,e,p,xs,e2,hq,q⟩:=hc
  exact ⟨v,e,p,xs,e2,hq,h _ _ q⟩
open Mt53 Mt22 MtF Mt31 Mt61
theorem aFP {H:Hp} {kvs:List (Key × V)} {cm:Cm} (h:CamKV H kvs cm) (z:Str):(dJ kvs (Sum.inr z)).isSome = decide (z ∈ keys cm):=by
 by_cases m:z ∈ keys cm
 ·rw [h.some m,decide_eq_true m]
 ·rw [h.none m,decide_eq_false m]
  rfl
def aHY (G:List Gap) (R:List Str):List Mt22.St:=(Mt61.stepsOf G).filter fun s=>!decide (s.far ∈ R)
def kJ (L:Int) (s:Mt22.St):Dv:=.tup [.str s.nm,.int L]
theorem iH {α:Type} {P:α → Bool} {xs:List α} {i:Nat} {x:α} (e:xs[i]? = some x):(xs.take (i + 1)).filter P = (xs.take i).filter P ++ (if P x = true then [x] else []):=by
 rw [Ai,e,DR]
 cases h:P x <;> simp [h]
def aJR:Sp:=fun vs H Q _=>∃ (x y u v:V) (l df lw:Addr) (us:List V) (V0:List Str) (G:List Gap) (kvs:List (Key × V)) (cm:Cm) (ws:List Str) (L:Int),vs = [x,y,u,v] ∧ x = .ref l ∧ H l = some (.lst us) ∧ IsL H ((Mt61.stepsOf G).map bM) us ∧ G.length ≤ 40 ∧ V0.length ≤ 13 ∧ Gaps V0 G ∧ y = .ref df ∧ Rd H df (.dK kvs) ∧ CamKV H kvs cm ∧ u = .ref lw ∧ H lw = some (.lst (ws.map V.str)) ∧ ws.Nodup ∧ (∀ z ∈ ws,z ∈ V0) ∧ v = .int L ∧
 ∀ (cmB:Cm) (lr:Addr) (us':List V) (H':Hp),aI H H' → H lr = none → H' lr = some (.lst us') → IsL H' ((eM G (keys cm) (keys cmB)).map (kJ L)) us' → CameG ws (aHY G (keys cm)) cmB → tU (aHY G (keys cm)) cmB cmB.length → Q (.ref lr) H'
theorem aQO:∀ vs H Q E,aJR vs H Q E → vs.length = 4:=fun vs H Q E ⟨x,y,u,v,l,df,lw,us,V0,G,kvs,cm,ws,L,e,_⟩=>by rw [e];rfl
theorem rM (T:Txt K mg C):Fc P w K mg base 2 "works_round" ["steps","flowed","fields","height"] aJR:=by
 have G_p_spread:Fc P w K mg base 1 "spread" ["starts","steps"] qZ:=sT T
 refine T.d_p_works_round.fc kR aQO (fun f cdv A outer s H vs Q E hr h=>?_)
 obtain ⟨x,y,u,v,l,df,lw,us,V0,G,kvs,cm,ws,lv,rfl,rfl,hl,ius,g40,v13,GG,rfl,hf,ck,rfl,hlw,ndw,subw,rfl,q⟩:=h
 have big:=bP
 have hu:=lG hr
 have lus:=aBA ius
 have sl:=oI G
 rw [AA,sl] at lus
 refine ⟨_,(@aG _ _ _ _ _ (@aZ _ _ (4) _ _ _ _ kR.nd rfl (Or.inr rfl) (@bF _ _ _ _ _ _ _ _ _ _ G_p_spread (hr.mono (by decide)) (@aA _ _ _ _ _ (pv 2) (@aA _ _ _ _ _ (@cB _ _ _ _ _ _ _ _ _ _ _ ["step","flowed"] 1 [1] rfl (@bT _ _ _ _ (pv 0)) (fun R=>@aU _ _ (0) _ (show Au (["step","flowed"]:List Str) by decide +kernel) rfl (Or.inl rfl) (by trivial)) (@aX _ _ (by decide)) (fun R=>@fW _ _ _ (@aAJ _ _ _ _ _ _ (@yG _ _ _ _ _ hu (@bD _ _ _ _ _ _ _ (@aS _ (K) rfl) (pv 0) aF (fun _ _=>rfl)) (pv 1)) (by first | exact nobehind _ (by decide) (by decide) | rfl))) (fun R=>(pv 0)) (by rfl) (by rfl) (by rfl) (by rfl) (by rfl) (by rfl) (by rfl) (by intro _;rfl)) aE (by rfl)) (by rfl)) (by rfl) (by decide) (by rfl) (by rfl)) (by rfl) (by trivial)) (@aH _ _ _ (@aQ _ _ _ _ (@cB _ _ _ _ _ _ _ _ _ _ _ ["step","flowed","height","behind"] 1 [1,3,4] rfl (@bT _ _ _ _ (pv 0)) (fun R=>@aU _ _ (0) _ (show Au (["step","flowed","height","behind"]:List Str) by decide +kernel) rfl (Or.inl rfl) (by trivial)) (@aX _ _ (by decide)) (fun R=>@fW _ _ _ (@PW.pt _ _ _ (@nF _ _ _ _ _ _ _ (@aAJ _ _ _ _ _ _ (@aLC _ _ _ _ _ hu (@bD _ _ _ _ _ _ _ (@aS _ (K) rfl) (pv 0) aF (fun _ _=>rfl)) (pv 1)) (by first | exact nobehind _ (by decide) (by decide) | rfl)) (@lT _ _ _ _ (@aAJ _ _ _ _ _ _ (@aLC _ _ _ _ _ hu (@bD _ _ _ _ _ _ _ (@aS _ (K) rfl) (pv 0) aF (fun _ _=>rfl)) (pv 3)) (by first | exact nobehind _ (by decide) (by decide) | rfl)))))) (fun R=>(@dW _ _ _ _ _ (@aA _ _ _ _ _ (@bD _ _ _ _ _ _ _ (@aS _ (K) rfl) (pv 0) aF (fun _ _=>rfl)) (@aA _ _ _ _ _ (pv 2) aE (by rfl)) (by rfl)))) (by rfl) (by rfl) (by rfl) (by rfl) (by rfl) (by rfl) (by rfl) (by intro _;rfl))))),?_⟩
 refine ⟨_,rfl,_,rfl,l,rfl,⟨_,SqL.of hl⟩,?_⟩
 refine bI (F:=K) (xs:=us) (by omega) (fun i ys H'=>H = H' ∧ IsL H' ((((Mt61.stepsOf G).take i).filter fun s=>!decide (s.far ∈ keys cm)).map bM) ys) ⟨rfl,rfl⟩ ?_ ?_ ?_
 ·rintro i ys H' hi ⟨rfl,iy⟩
  refine ⟨SqL.of hl,?_⟩
  have:=iy.length
  have:=BC (fun s:Mt22.St=>!decide (s.far ∈ keys cm)) ((Mt61.stepsOf G).take i)
  rw [AZ] at this
  rw [AA] at *
  omega
 ·rintro i xv ys H' K1 K2 hx' ⟨rfl,iy⟩ k1 k2
  have hil:i < us.length:=(AE.mp hx').1
  obtain ⟨st,es⟩:∃ st,(Mt61.stepsOf G)[i]? = some st:=⟨_,AD (by omega)⟩
  obtain ⟨v,ev,iv⟩:=ius.get (show ((Mt61.stepsOf G).map bM)[i]? = some (bM st) by rw [AR,es];rfl)
  rw [hx'] at ev
  cases ev
  obtain ⟨t,rfl,o⟩:=kP iv
  have et:=iH (P:=fun s:Mt22.St=>!decide (s.far ∈ keys cm)) es
  refine ⟨_,rfl,t,_,2,.str st.far,rfl,rfl,SqT.of o,aP (j:=2) rfl,_,rfl,df,_,rfl,.inl ⟨kvs,Sum.inr st.far,hf,rfl,rfl⟩,_,rfl,?_⟩
  rw [aFP ck]
  cases hg:(!decide (st.far ∈ keys cm)) with
  | false =>
   rw [hg] at et
   refine bO (k2 _ ⟨rfl,?_⟩)
   rw [et]
   simpa using iy
  | true =>
   rw [hg] at et
   refine dL ⟨_,rfl,k1 _ _ ⟨rfl,?_⟩⟩
   rw [et,if_pos rfl,AW]
   exact IsL.snoc iv iy
 rintro ys H2 ⟨rfl,iy⟩
 rw [AI (by omega)] at iy
 intro l2 h2
 have S2:=aI.upd (o:=.lst ys) h2
 refine ⟨_,_,rfl,lw,l2,ys,aHY G (keys cm),ws,V0,rfl,rfl,ndw,subw,S2 _ _ hlw,aD,IsL.same S2 _ _ iy,?_,v13,fun s m=>(aGY GG (Ar.mp m).1).2,fun db cmB kvB H3 S3 ndb hdb ckB cgB opB l13=>?_⟩
 ·have:=BC (fun s:Mt22.St=>!decide (s.far ∈ keys cm)) (Mt61.stepsOf G)
  unfold aHY
  omega
 have T3:=S2.trans S3
 have ius3:=IsL.same T3 _ _ ius
 refine ⟨_,rfl,l,rfl,⟨_,SqL.of (T3 _ _ hl)⟩,?_⟩
 refine bI (F:=K) (xs:=us) (by omega) (fun i ys H'=>aI H3 H' ∧ IsL H' ((((Mt61.stepsOf G).take i).filter fun s=>decide (s.near ∈ keys cm) && decide (s.far ∈ keys cmB)).map (kJ lv)) ys) ⟨aI.refl _,rfl⟩ ?_ ?_ ?_
 ·rintro i ys H' hi ⟨S',iy⟩
  refine ⟨SqL.of (S' _ _ (T3 _ _ hl)),?_⟩
  have:=iy.length
  have:=BC (fun s:Mt22.St=>decide (s.near ∈ keys cm) && decide (s.far ∈ keys cmB)) ((Mt61.stepsOf G).take i)
  rw [AZ] at this
  rw [AA] at *
  omega
 ·rintro i xv ys H' K1 K2 hx' ⟨S',iy⟩ k1 k2
  have hil:i < us.length:=(AE.mp hx').1
  obtain ⟨st,es⟩:∃ st,(Mt61.stepsOf G)[i]? = some st:=⟨_,AD (by omega)⟩
  obtain ⟨v,ev,iv⟩:=(IsL.same S' _ _ ius3).get (show ((Mt61.stepsOf G).map bM)[i]? = some (bM st) by rw [AR,es];rfl)
  rw [hx'] at ev
  cases ev
  obtain ⟨t,rfl,o⟩:=kP iv
  have et:=iH (P:=fun s:Mt22.St=>decide (s.near ∈ keys cm) && decide (s.far ∈ keys cmB)) es
  have no:(decide (st.near ∈ keys cm) && decide (st.far ∈ keys cmB)) = false → K2 H':=fun hg=>by
   refine k2 _ ⟨S',?_⟩
   rw [et,hg]
   simpa using iy
  refine ⟨_,rfl,t,_,1,.str st.near,rfl,rfl,SqT.of o,aP (j:=1) rfl,_,rfl,df,_,rfl,.inl ⟨kvs,Sum.inr st.near,qD hf (T3.trans S'),rfl,rfl⟩,_,rfl,?_⟩
  rw [aFP ck]
  cases h1:decide (st.near ∈ keys cm) with
  | false=>exact bO (no (by rw [h1];rfl))
  | true =>
   refine dL ?_
   refine ⟨_,rfl,t,_,2,.str st.far,rfl,rfl,SqT.of o,aP (j:=2) rfl,_,rfl,db,_,rfl,.inl ⟨kvB,Sum.inr st.far,.inl (S' _ _ hdb),rfl,rfl⟩,_,rfl,?_⟩
   rw [aFP ckB]
   cases h2:decide (st.far ∈ keys cmB) with
   | false=>exact bO (no (by rw [h1,h2];rfl))
   | true =>
    refine dL ⟨_,rfl,t,_,0,.str st.nm,rfl,rfl,SqT.of o,aP (j:=0) rfl,_,rfl,aY rfl,fun ta hta=>k1 _ _ ⟨S'.trans (aI.upd hta),?_⟩⟩
    rw [h1,h2] at et
    rw [et,AW]
    exact IsL.snoc (show Is _ (kJ lv st) (.ref ta) from ⟨ta,_,rfl,aD,_,_,rfl,rfl,_,_,rfl,rfl,rfl⟩) (IsL.same (aI.upd hta) _ _ iy)
 rintro ys4 H4 ⟨S4,iy4⟩
 rw [AI (by omega)] at iy4
 intro lr hlr
 have S5:=aI.upd (o:=.lst ys4) hlr
 exact q cmB lr ys4 _ (T3.trans (S4.trans S5)) ((T3.trans S4).free hlr) aD (IsL.same S5 _ _ iy4) cgB opB
open Mt53 Mt22 MtF Mt31 Mt61
theorem aMS {zs:List Str} {S:List Mt22.St} {cm:Cm} (h:CameG zs S cm) {R:List Str} (hz:∀ z ∈ zs,z ∈ R) (cl:∀ s ∈ S,s.near ∈ R → s.far ∈ R):∀ z ∈ keys cm,z ∈ R:=by
 have:∀ (n i:Nat) (z:Str),i < n → (keys cm)[i]? = some z → z ∈ R:=by
  intro n
  induction n with
  | zero=>intro i z hi;omega
  | succ n ih =>
   intro i z hi e
   unfold keys at e
   rw [AR] at e
   obtain ⟨⟨z',o⟩,e',rfl⟩:=Ay.mp e
   by_cases hl:i < zs.length
   ·obtain ⟨y,ey⟩:∃ y,zs[i]? = some y:=⟨_,AD hl⟩
    have:=h.first i y ey
    rw [e'] at this
    cases this
    exact hz _ (AS ey)
   ·obtain ⟨s,_,ms,ef,hn⟩:=h.prev i z' o (by omega) e'
    obtain ⟨j,hj⟩:=BI.mp hn
    have hjl:=(AE.mp hj).1
    unfold keys at hjl
    rw [AA,AZ] at hjl
    have hj':(keys cm)[j]? = some s.near:=by
     unfold keys at hj ⊢
     rw [AR,Bt (by omega)] at hj
     rw [AR]
     exact hj
    show z' ∈ R
    rw [← ef]
    exact cl s ms (ih j _ (by omega) hj')
 intro z m
 obtain ⟨i,hi⟩:=BI.mp m
 exact this (i + 1) i z (by omega) hi
theorem aKM {V0:List Str} {G:List Gap} (GG:Gaps V0 G) {f:Fl} {ws:List Str} (en:aMZ G f ws) {cm cmB:Cm} (cg:CameG [Mt22.sea] (wI G f) cm) (op:tU (wI G f) cm cm.length) (cgB:CameG ws (aHY G (keys cm)) cmB) (opB:tU (aHY G (keys cm)) cmB cmB.length):Round G f ws (keys cm) (keys cmB):=by
 obtain ⟨cm1,cg1,op1,out⟩:=en
 have sub:=aMS cg (R:=keys cm1) (fun z m=>by rw [AU.mp m];exact cg1.start (AU.mpr rfl)) (nH op1)
 have wout:∀ z ∈ ws,z ∉ keys cm:=fun z m k=>out z m (sub z k)
 refine ⟨cg.start (AU.mpr rfl),fun s ms hr hn=>?_,wout,fun z m=>cgB.start m,fun z m=>?_,fun s ms hf hn=>?_⟩
 ·exact nH op s (Ar.mpr ⟨ms,decide_eq_true hr⟩) hn
 ·rcases cgB.mem m with m | ⟨s,ms,rfl⟩
  ·exact wout z m
  ·have:=(Ar.mp ms).2
   simpa using this
 ·exact nH opB s (Ar.mpr ⟨ms,by simpa using hf⟩) hn
theorem aCM {R B:List Str} (out:∀ z ∈ B,z ∉ R):∀ {G:List Gap},(G.map (·.nm)).Nodup → ((eM G R B).map (·.nm)).Nodup ∧ ∀ n ∈ (eM G R B).map (·.nm),n ∈ G.map (·.nm)
 | [],_=>⟨by simp [eM,Mt61.stepsOf],fun n m=>by simp [eM,Mt61.stepsOf] at m⟩
 | g :: G,nd=>by
  rw [Ac,Aq] at nd
  obtain ⟨h1,h2⟩:=aCM out nd.2
  have e:eM (g :: G) R B = ([up g,dn g].filter fun s=>decide (s.near ∈ R) && decide (s.far ∈ B)) ++ eM G R B:=by
   unfold eM Mt61.stepsOf
   rw [FS,DR]
  have hf:([up g,dn g].filter fun s=>decide (s.near ∈ R) && decide (s.far ∈ B)) = [] ∨ ∃ s,s.nm = g.nm ∧ ([up g,dn g].filter fun s=>decide (s.near ∈ R) && decide (s.far ∈ B)) = [s]:=by
   rw [EV]
   cases hu:(decide ((up g).near ∈ R) && decide ((up g).far ∈ B)) with
   | true =>
    rw [Ae] at hu
    have ub:g.b ∈ B:=of_decide_eq_true hu.2
    have:(decide ((dn g).near ∈ R) && decide ((dn g).far ∈ B)) = false:=by
     have:(dn g).near ∉ R:=out _ ub
     rw [decide_eq_false this]
     rfl
    rw [EV,this]
    exact .inr ⟨up g,rfl,rfl⟩
   | false =>
    rw [EV]
    cases hd:(decide ((dn g).near ∈ R) && decide ((dn g).far ∈ B)) with
    | true=>exact .inr ⟨dn g,rfl,rfl⟩
    | false=>exact .inl rfl
  rw [e]
  rcases hf with hf | ⟨s,en,hf⟩
  ·rw [hf,Ek]
   exact ⟨h1,fun n m=>AV _ (h2 n m)⟩
  ·rw [hf]
   refine ⟨?_,fun n m=>?_⟩
   ·rw [AW,Ac,Ci,List.singleton_append,Aq,en]
    exact ⟨fun m=>nd.1 (h2 _ m),h1⟩
   ·rw [AW] at m
    rcases Ak.mp m with m | m
    ·rw [Ac,Ci,AU,en] at m
     rw [m]
     exact AY
    ·exact AV _ (h2 n m)
theorem yE {G:List Gap} {R B:List Str}:∀ s ∈ eM G R B,s ∈ Mt61.stepsOf G:=fun s m=>(Ar.mp m).1
theorem aDO {fs ds:List Dv} {zs:List Str} (gd:GoodD zs ds) {L:Int} {V0:List Str} (GG:Gaps V0 (aW fs ds L)) {s:Mt22.St} (m:s ∈ Mt61.stepsOf (aW fs ds L)):aDP ds (kJ L s) = qX (aW fs ds L) s.nm ∧ s.nm ∈ ds.map aO ∧ hE ds s.nm ≤ L:=by
 obtain ⟨g,mg,en,_⟩:=pX m
 obtain ⟨d,md,hg,rfl,ed⟩:=aDD gd mg
 have ec:=wP gd.nd md
 have er:=aGO gd.nd md
 have cap:=nY GG mg
 rw [← en,← ed]
 rw [← ed] at cap
 refine ⟨?_,AT.mpr ⟨d,md,rfl⟩,?_⟩
 ·show vC ds s.nm * (L - hE ds s.nm) = _
  rw [← en,← ed,cap,ec,er]
  obtain ⟨n,a,b,c,r,sl,rfl,_⟩:=bJ (gd.all d md)
  rfl
 ·rw [ec]
  obtain ⟨n,a,b,c,r,sl,rfl,_⟩:=bJ (gd.all d md)
  have h1:c < L:=of_decide_eq_true (BF.mp (show (decide (c < L) && (nM fs L a && nM fs L b)) = true from hg)).1
  show c ≤ L
  omega
theorem aDX {fs ds:List Dv} {zs:List Str} (gd:GoodD zs ds) {L:Int} (hL:hgt L = true) {V0:List Str} (GG:Gaps V0 (aW fs ds L)) {R B:List Str} (out:∀ z ∈ B,z ∉ R):GoodW ds ((eM (aW fs ds L) R B).map (kJ L)):=by
 refine ⟨fun d m=>?_,?_⟩
 ·obtain ⟨s,ms,rfl⟩:=AT.mp m
  obtain ⟨_,h2,h3⟩:=aDO gd GG (yE s ms)
  show (decide (s.nm ∈ ds.map aO) && (hgt L && decide (hE ds s.nm ≤ L))) = true
  rw [decide_eq_true h2,hL,decide_eq_true h3]
  rfl
 ·rw [At]
  exact (aCM out GG.nd).1
theorem aDY {fs ds:List Dv} {zs:List Str} (gd:GoodD zs ds) {L:Int} {V0:List Str} (GG:Gaps V0 (aW fs ds L)) {f:Fl} {ws R B:List Str} (st:Stream V0 (aW fs ds L) ws f) (r:Round (aW fs ds L) f ws R B):aBG ds ((eM (aW fs ds L) R B).map (kJ L)) = val (aW fs ds L) f:=by
 rw [← aEO GG st r]
 unfold aBG
 rw [At]
 show sm _ _ = _
 exact gO fun s m=>(aDO gd GG (yE s m)).1
theorem aHV {G:List Gap} {R B:List Str}:(eM G R B).length ≤ 2 * G.length:=by
 rw [← oI]
 exact BC _ _
def aPR (f:Fl) (g:Gap):Dv:=.tup [.str g.nm,.int (f g.nm)]
def aMV (G:List Gap) (f:Fl):List Dv:=(G.filter fun g=>!decide (f g.nm = 0)).map (aPR f)
def uN (C:Addr):Sp:=sp3 fun x y u H Q=>∃ (p l:Addr) (fs ds:List Dv) (zs:List Str) (L:Int),x = .ref p ∧ LandAt C H p fs ds ∧ y = .ref l ∧ H l = some (.lst (zs.map V.str)) ∧ 1 ≤ zs.length ∧ zs.Nodup ∧ (∀ z ∈ zs,z ∈ fs.map aO) ∧ u = .int L ∧ hgt L = true ∧
 ∀ (t lk la:Addr) (uk ua:List V) (f:Fl) (R B:List Str) (H':Hp),aI H H' → H t = none → H lk = none → H la = none → lk ≠ la → H' t = some (.tup [.int (val (aW fs ds L) f),.ref lk,.ref la]) → H' lk = some (.lst uk) → IsL H' ((eM (aW fs ds L) R B).map (kJ L)) uk → H' la = some (.lst ua) → IsL H' (aMV (aW fs ds L) f) ua → Stream ("sea" :: fs.map aO) (aW fs ds L) zs f → Round (aW fs ds L) f zs R B → Q (.ref t) H'
theorem sU (T:Txt K mg C):Fc P w K mg base 6 "fewest" ["land","fields","height"] (uN C):=by
 have G_p_check_wish:Fc P w K mg base 3 "check_wish" ["land","fields","height"] (uL C):=mL T
 have G_p_gap_coins:Fc P w K mg base 4 "gap_coins" ["land","height"] (aJU C):=vL T
 have G_p_steps_over:Fc P w K mg base 2 "steps_over" ["land","names"] (aBY C):=tP T
 have G_p_fullest_stream:Fc P w K mg base 4 "fullest_stream" ["steps","most","fields"] aJV:=oU T
 have G_p_reached:Fc P w K mg base 2 "reached" ["steps","most","stream"] rC:=qK T
 have G_p_works_round:Fc P w K mg base 2 "works_round" ["steps","flowed","fields","height"] aJR:=rM T
 have G_p_coins_of:Fc P w K mg base 5 "coins_of" ["land","works"] (xY C):=xI T
 refine T.d_p_fewest.fc gI qP (fun f cdv A outer s H vs Q E hr h=>?_)
 obtain ⟨x,y,u,rfl,p,l,fs,ds,zs,lv,rfl,L,rfl,hl,l1,nd,sub,rfl,hL,q⟩:=h
 have big:=bP
 have hu:=lG hr
 have gf:=(bX L).1
 have gd:=(bX L).2
 have d2:=gd.l2
 have f2:=gf.l2
 have GG:=qS gf gd lv
 have gl:=qT fs ds lv
 have v13:(("sea":Str) :: fs.map aO).length ≤ 13:=by rw [Am,AA];omega
 have ns:Mt22.sea ∉ zs:=fun m=>by
  obtain ⟨d,md,e⟩:=AT.mp (sub _ m)
  obtain ⟨z,g,u,rfl,hz,_⟩:=bU (gf.all d md)
  exact aAC hz e
 refine ⟨_,(@aG _ _ _ _ _ (@iL _ _ _ _ (@bF _ _ _ _ _ _ _ _ _ _ G_p_check_wish (hr.mono (by decide)) (@aA _ _ _ _ _ (pv 0) (@aA _ _ _ _ _ (pv 1) (@aA _ _ _ _ _ (pv 2) aE (by rfl)) (by rfl)) (by rfl)) (by rfl) (by decide) (by rfl) (by rfl)) (by rfl)) (@aG _ _ _ _ _ (@aZ _ _ (3) _ _ _ _ gI.nd rfl (Or.inl rfl) (@bF _ _ _ _ _ _ _ _ _ _ G_p_gap_coins (hr.mono (by decide)) (@aA _ _ _ _ _ (pv 0) (@aA _ _ _ _ _ (pv 2) aE (by rfl)) (by rfl)) (by rfl) (by decide) (by rfl) (by rfl)) (by rfl) (by trivial)) (@aG _ _ _ _ _ (@aZ _ _ (4) _ _ _ _ gI.nd rfl (Or.inl rfl) (@bF _ _ _ _ _ _ _ _ _ _ G_p_steps_over (hr.mono (by decide)) (@aA _ _ _ _ _ (pv 0) (@aA _ _ _ _ _ (pv 3) aE (by rfl)) (by rfl)) (by rfl) (by decide) (by rfl) (by rfl)) (by rfl) (by trivial)) (@aG _ _ _ _ _ (@aZ _ _ (5) _ _ _ _ gI.nd rfl (Or.inr rfl) (@bF _ _ _ _ _ _ _ _ _ _ G_p_fullest_stream (hr.mono (by decide)) (@aA _ _ _ _ _ (pv 4) (@aA _ _ _ _ _ (pv 3) (@aA _ _ _ _ _ (pv 1) aE (by rfl)) (by rfl)) (by rfl)) (by rfl) (by decide) (by rfl) (by rfl)) (by rfl) (by trivial)) (@aG _ _ _ _ _ (@aZ _ _ (6) _ _ _ _ gI.nd rfl (Or.inl rfl) (@bF _ _ _ _ _ _ _ _ _ _ G_p_works_round (hr.mono (by decide)) (@aA _ _ _ _ _ (pv 4) (@aA _ _ _ _ _ (@bF _ _ _ _ _ _ _ _ _ _ G_p_reached (hr.mono (by decide)) (@aA _ _ _ _ _ (pv 4) (@aA _ _ _ _ _ (pv 3) (@aA _ _ _ _ _ (pv 5) aE (by rfl)) (by rfl)) (by rfl)) (by rfl) (by decide) (by rfl) (by rfl)) (@aA _ _ _ _ _ (pv 1) (@aA _ _ _ _ _ (pv 2) aE (by rfl)) (by rfl)) (by rfl)) (by rfl)) (by rfl) (by decide) (by rfl) (by rfl)) (by rfl) (by trivial)) (@aG _ _ _ _ _ (@jS _ (7) _ _ _ _ _ _ _ _ _ _ _ _ _ gI.nd rfl ["name","stream"] 1 [5] rfl (@aAL _ _ _ _ (pv 5)) (fun R=>@aU _ _ (0) _ (show Au (["name","stream"]:List Str) by decide +kernel) rfl (Or.inl rfl) (by trivial)) (@aX _ _ (by decide)) (fun R=>@fW _ _ _ (@cA _ _ _ _ _ _ _ _ aCQ (@cJ _ _ _ _ _ _ hu (pv 1) (pv 0) (fun _ _=>rfl)) aF (@bQ _ _ (by decide) (by decide)))) (fun R=>(@dW _ _ _ _ _ (@aA _ _ _ _ _ (pv 0) (@aA _ _ _ _ _ (@cJ _ _ _ _ _ _ hu (pv 1) (pv 0) (fun _ _=>rfl)) aE (by rfl)) (by rfl)))) (by exact Or.inl rfl) (by trivial) (by rfl) (by rfl) (by rfl) (by rfl) (by rfl) (by rfl) (by rfl) (by rfl) (by intro _;rfl)) (@aH _ _ _ (@aQ _ _ _ _ (@dW _ _ _ _ _ (@aA _ _ _ _ _ (@bF _ _ _ _ _ _ _ _ _ _ G_p_coins_of (hr.mono (by decide)) (@aA _ _ _ _ _ (pv 0) (@aA _ _ _ _ _ (pv 6) aE (by rfl)) (by rfl)) (by rfl) (by decide) (by rfl) (by rfl)) (@aA _ _ _ _ _ (pv 6) (@aA _ _ _ _ _ (pv 7) aE (by rfl)) (by rfl)) (by rfl))))))))))),?_⟩
 refine ⟨_,rfl,_,rfl,_,rfl,_,_,_,rfl,p,l,fs,ds,zs,lv,rfl,L,rfl,hl,l1,nd,sub,rfl,hL,fun H1 S1=>?_⟩
 refine ⟨_,rfl,_,rfl,_,_,rfl,p,fs,ds,lv,rfl,L.same S1,rfl,fun dm H2 S2 nm2 hm2=>?_⟩
 have T2:=S1.trans S2
 refine ⟨_,rfl,_,rfl,_,_,rfl,p,dm,fs,ds,lv,rfl,L.same T2,rfl,hm2,fun o ls us H3 S3 nls hls ius=>?_⟩
 have nmH:H dm = none:=S1.free nm2
 have T3:aI H H3:=fun b u e=>S3 _ _ (by rw [aK (fun c=>by rw [c,nmH] at e;cases e)];exact T2 _ _ e)
 have hm3:H3 dm = some (.frz o (.dK (dH (aW fs ds lv)))):=S3 _ _ aD
 refine ⟨_,rfl,_,rfl,_,rfl,_,_,_,rfl,ls,dm,l,o,us,"sea" :: fs.map aO,aW fs ds lv,zs,rfl,hls,ius,by omega,v13,GG,rfl,hm3,rfl,T3 _ _ hl,ns,fun de fl H4 S4 nde hde st en=>?_⟩
 have T4:=T3.trans S4
 have ius4:=IsL.same S4 _ _ ius
 refine ⟨_,rfl,_,rfl,_,rfl,_,rfl,_,_,_,rfl,ls,dm,de,us,"sea" :: fs.map aO,aW fs ds lv,fl,rfl,S4 _ _ hls,ius4,by omega,v13,GG,rfl,.inr ⟨o,S4 _ _ hm3⟩,rfl,.inl hde,fun df cm kvs H5 S5 ndf hdf ck cg op l13=>?_⟩
 have T5:=T4.trans S5
 refine ⟨_,rfl,_,rfl,_,_,_,_,ls,df,l,us,"sea" :: fs.map aO,aW fs ds lv,kvs,cm,zs,lv,rfl,rfl,(S4.trans S5) _ _ hls,IsL.same S5 _ _ ius4,by omega,v13,GG,rfl,.inl hdf,ck,rfl,T5 _ _ hl,nd,fun z m=>AV _ (sub z m),rfl,fun cmB lk uk H6 S6 nlk hlk iuk cgB opB=>?_⟩
 have rd:=aKM GG en cg op cgB opB
 have T6:=T5.trans S6
 have hde6:=(S5.trans S6) _ _ hde
 have ndeH:H de = none:=T3.free nde
 refine ⟨_,rfl,de,_,rfl,hde6,fun o2=>?_⟩
 have T7:aI H (upd H6 de (.frz o2 (.dK (dU (aW fs ds lv) fl)))):=T6.over ndeH
 have K7:iW H6 (upd H6 de (.frz o2 (.dK (dU (aW fs ds lv) fl)))):=fun b ys e=>by
  rw [aK (fun c=>by rw [c,hde6] at e;cases e)]
  exact e
 have iuk7:IsL (upd H6 de (.frz o2 (.dK (dU (aW fs ds lv) fl)))) ((eM (aW fs ds lv) (keys cm) (keys cmB)).map (kJ lv)) uk:=IsL.keep K7 _ _ (fZ fun d m=>by obtain ⟨s,_,rfl⟩:=AT.mp m;rfl) iuk
 have hlk7:upd H6 de (.frz o2 (.dK (dU (aW fs ds lv) fl))) lk = some (.lst uk):=by rw [aK (yM hlk hde6 (by intro c;cases c))];exact hlk
 have dF:upd H6 de (.frz o2 (.dK (dU (aW fs ds lv) fl))) de = some (.frz o2 (.dK (dU (aW fs ds lv) fl))):=aD
 generalize upd H6 de (.frz o2 (.dK (dU (aW fs ds lv) fl))) = H7 at T7 iuk7 hlk7 dF
 refine sF (by rw [nW];omega) (fun i ys H'=>aI H7 H' ∧ IsL H' (aMV ((aW fs ds lv).take i) fl) ys) ⟨aI.refl _,rfl⟩ ?_ ?_ ?_
 ·rintro i ys H' hi ⟨S',iy⟩
  refine ⟨S' _ _ dF,?_⟩
  have:=iy.length
  unfold aMV at this
  have:=BC (fun g:Gap=>!decide (fl g.nm = 0)) ((aW fs ds lv).take i)
  rw [AZ] at this
  rw [AA] at *
  omega
 ·rintro i kv ys H' K1 K2 hk ⟨S',iy⟩ k1 k2
  unfold dU at hk
  rw [AR] at hk
  obtain ⟨g,eg,ekv⟩:=Ay.mp hk
  have mg':=AS eg
  have ek:kV kv.1 = V.str g.nm:=by rw [← ekv];rfl
  rw [ek]
  have v2:dJ (dU (aW fs ds lv) fl) (Sum.inr g.nm) = some (.int (fl g.nm)):=yP (f:=fun g=>V.int (fl g.nm)) GG.nd mg'
  have et:=iH (P:=fun g:Gap=>!decide (fl g.nm = 0)) eg
  refine ⟨_,rfl,_,rfl,de,_,rfl,.inl ⟨_,Sum.inr g.nm,.inr ⟨o2,S' _ _ dF⟩,rfl,v2.symm⟩,rfl,_,rfl,?_⟩
  rw [mI]
  cases hg:(!decide (fl g.nm = 0)) with
  | false =>
   rw [hg] at et
   refine bO (k2 _ ⟨S',?_⟩)
   unfold aMV at iy ⊢
   rw [et]
   simpa using iy
  | true =>
   rw [hg] at et
   refine dL ⟨_,rfl,_,rfl,_,rfl,de,_,rfl,.inl ⟨_,Sum.inr g.nm,.inr ⟨o2,S' _ _ dF⟩,rfl,v2.symm⟩,aY rfl,fun ta hta=>k1 _ _ ⟨S'.trans (aI.upd hta),?_⟩⟩
   unfold aMV
   rw [et,if_pos rfl,AW]
   exact IsL.snoc (show Is _ (aPR fl g) (.ref ta) from ⟨ta,_,rfl,aD,_,_,rfl,rfl,_,_,rfl,rfl,rfl⟩) (IsL.same (aI.upd hta) _ _ iy)
 rintro ua H8 ⟨S8,iua⟩
 rw [nW,AI (AL _)] at iua
 intro la hla
 have S9:=aI.upd (o:=.lst ua) hla
 have r9:upd H8 la (.lst ua) la = some (.lst ua):=aD
 have T9:=T7.trans (S8.trans S9)
 have nla:=(T7.trans S8).free hla
 have U9:=S8.trans S9
 have iua9:=IsL.same S9 _ _ iua
 have nlka:lk ≠ la:=aT (S8 _ _ hlk7) hla
 generalize upd H8 la (.lst ua) = H9 at S9 r9 T9 U9 iua9
 have iuk9:=IsL.same U9 _ _ iuk7
 have hlk9:=U9 _ _ hlk7
 have rl:=aHV (G:=aW fs ds lv) (R:=keys cm) (B:=keys cmB)
 refine ⟨_,rfl,_,rfl,_,_,rfl,p,fs,ds,(eM (aW fs ds lv) (keys cm) (keys cmB)).map (kJ lv),rfl,L.same T9,⟨lk,uk,rfl,hlk9,iuk9⟩,by rw [AA];omega,aDX gd hL GG rd.bout,_,rfl,_,rfl,aY rfl,fun t ht=>?_⟩
 have S10:=aI.upd (o:=.tup [.int (aBG ds ((eM (aW fs ds lv) (keys cm) (keys cmB)).map (kJ lv))),.ref lk,.ref la]) ht
 refine q t lk la uk ua fl (keys cm) (keys cmB) _ (T9.trans S10) (T9.free ht) (T5.free nlk) nla nlka ?_ (S10 _ _ hlk9) (IsL.same S10 _ _ iuk9) (S10 _ _ r9) (IsL.same S10 _ _ iua9) st rd
 rw [aD,aDY gd GG st rd]
open Mt53 Mt22 MtF Mt31 Mt61
theorem vZ {V0:List Str} {G:List Gap} (GG:Gaps V0 G):dC G [] 0:=by
 refine ⟨⟨fun _=>false,rfl,fun z m=>(nomatch m),kF fun g _=>if_pos rfl⟩,fun X _ _=>?_⟩
 have:sm G (fun _=>(0:Int)) ≤ sm G (nX X):=aCF fun g m=>by
  have:=GG.cap g m
  unfold nX
  split <;> omega
 rw [kF fun _ _=>rfl] at this
 exact this
theorem dC.congr {G:List Gap} {ws ws':List Str} {c:Int} (h:dC G ws c) (e:∀ z,z ∈ ws ↔ z ∈ ws'):dC G ws' c:=by
 obtain ⟨⟨X,s,w,ec⟩,a⟩:=h
 exact ⟨⟨X,s,fun z m=>w z ((e z).mpr m),ec⟩,fun X' s' w'=>a X' s' fun z m=>w' z ((e z).mp m)⟩
def aGI:Sp:=sp1 fun x H Q=>∃ L:Int,x = .int L ∧ hgt L = true ∧ Q (.int 0) H
theorem qM (T:Txt K mg C):Fc P w K mg base 3 "cost_of_none" ["height"] aGI:=by
 have G_p_is_height:Fc P w K mg base 2 "is_height" ["thing"] jK:=dR T
 refine T.d_p_cost_of_none.fc qB oV (fun f cdv A outer s H vs Q E hr h=>?_)
 obtain ⟨x,rfl,lv,rfl,hL,q⟩:=h
 refine ⟨_,(@aG _ _ _ _ _ (@fB _ _ _ _ _ _ _ _ (@eN _ _ _ _ (@dQ _ _ _ (@bF _ _ _ _ _ _ _ _ _ _ G_p_is_height (hr.mono (by decide)) (@aA _ _ _ _ _ (pv 0) aE (by rfl)) (by rfl) (by decide) (by rfl) (by rfl)) (by intro _;rfl))) (@aH _ _ _ lA) cE) (@aH _ _ _ (@aQ _ _ _ _ aF))),?_⟩
 refine ⟨_,rfl,_,rfl,.int lv,rfl,_,rfl,?_⟩
 rw [show fY (.int lv) = true from hL]
 exact bO q
def aEH (C:Addr):Sp:=sp3 fun x y u H Q=>∃ (p l:Addr) (fs ds:List Dv) (zs:List Str) (L:Int),x = .ref p ∧ LandAt C H p fs ds ∧ y = .ref l ∧ H l = some (.lst (zs.map V.str)) ∧ zs.Nodup ∧ (∀ z ∈ zs,z ∈ fs.map aO) ∧ u = .int L ∧ hgt L = true ∧
 ∀ (c:Int) (H':Hp),aI H H' → dC (aW fs ds L) zs c → Q (.int c) H'
theorem yI (T:Txt K mg C):Fc P w K mg base 7 "cost" ["land","fields","height"] (aEH C):=by
 have G_p_cost_of_none:Fc P w K mg base 3 "cost_of_none" ["height"] aGI:=qM T
 have G_p_fewest:Fc P w K mg base 6 "fewest" ["land","fields","height"] (uN C):=sU T
 refine T.d_p_cost.fc aHT qP (fun f cdv A outer s H vs Q E hr h=>?_)
 obtain ⟨x,y,u,rfl,p,l,fs,ds,zs,lv,rfl,L,rfl,hl,nd,sub,rfl,hL,q⟩:=h
 have gf:=(bX L).1
 have gd:=(bX L).2
 have GG:=qS gf gd lv
 refine ⟨_,(@aG _ _ _ _ _ (@fB _ _ _ _ _ _ _ _ (@PW.pt _ _ _ (@nF _ _ _ _ _ _ _ (@dQ _ _ _ (@aV _ _ _ _ _ _ _ _ _ (@dI _ (K) rfl) rfl T.n_isinstance cH (@aA _ _ _ _ _ (pv 1) (@aA _ _ _ _ _ (@sS _ _ _ _ T.n_list cM (by rfl) (by decide) (by decide)) aE (by rfl)) (by rfl)) (by decide) (by decide) (by rfl) (by rfl)) (by intro _;rfl)) (@lT _ _ _ _ (@cA _ _ _ _ _ _ _ _ qI (@aV _ _ _ _ _ _ _ _ _ (@bE _ (K) rfl) rfl T.n_len bN (@aA _ _ _ _ _ (pv 1) aE (by rfl)) (by decide) (by decide) (by rfl) (by rfl)) aF (@bQ _ _ (by decide) (by decide)))))) (@aH _ _ _ (@aQ _ _ _ _ (@bF _ _ _ _ _ _ _ _ _ _ G_p_cost_of_none (hr.mono (by decide)) (@aA _ _ _ _ _ (pv 2) aE (by rfl)) (by rfl) (by decide) (by rfl) (by rfl)))) cE) (@aH _ _ _ (@aQ _ _ _ _ (@bD _ _ _ _ _ _ _ (@aS _ (K) rfl) (@bF _ _ _ _ _ _ _ _ _ _ G_p_fewest (hr.mono (by decide)) (@aA _ _ _ _ _ (pv 0) (@aA _ _ _ _ _ (pv 1) (@aA _ _ _ _ _ (pv 2) aE (by rfl)) (by rfl)) (by rfl)) (by rfl) (by decide) (by rfl) (by rfl)) aF (fun _ _=>rfl))))),?_⟩
 refine ⟨_,rfl,_,_,_,_,_,rfl,rfl,TyOf.lst hl,lC _ _,_,rfl,?_⟩
 refine dL ?_
 refine ⟨_,rfl,l,_,rfl,.inl (SqL.of hl),rfl,_,rfl,?_⟩
 cases zs with
 | nil =>
  show (if true = true then _ else _)
  exact dL ⟨_,rfl,_,rfl,lv,rfl,hL,q 0 H (aI.refl _) (vZ GG)⟩
 | cons z zr =>
  rw [decide_eq_false (fun e=>by have:=V.int.inj e;rw [AA,Am] at this;omega)]
  refine bO ?_
  refine ⟨_,rfl,_,rfl,_,rfl,_,_,_,rfl,p,l,fs,ds,z :: zr,lv,rfl,L,rfl,hl,by rw [Am];omega,nd,sub,rfl,hL,fun t lk la uk ua f' R B H' S' nt nlk nla nka ht hk ik ha ia st rd=>?_⟩
  exact ⟨t,_,0,_,rfl,rfl,SqT.of ht,aP (j:=0) rfl,q _ H' S' (sQ GG st rd)⟩
open Mt53 Mt22 MtF Mt31 Mt61
theorem aIR {X Y:Str → Bool} {g:Gap} (c0:0 ≤ g.cap):nX (fun z=>X z || Y z) g + nX (fun z=>X z && Y z) g ≤ nX X g + nX Y g:=by
 show (if (X g.a || Y g.a) = (X g.b || Y g.b) then 0 else g.cap) + (if (X g.a && Y g.a) = (X g.b && Y g.b) then 0 else g.cap) ≤ (if X g.a = X g.b then 0 else g.cap) + (if Y g.a = Y g.b then 0 else g.cap)
 generalize X g.a = a
 generalize X g.b = b
 generalize Y g.a = c
 generalize Y g.b = d
 cases a <;> cases b <;> cases c <;> cases d <;> simp <;> omega
theorem pQ {V0:List Str} {G:List Gap} (GG:Gaps V0 G) {one other either both:List Str} (he:∀ z ∈ either,z ∈ one ∨ z ∈ other) (hb:∀ z ∈ both,z ∈ one ∧ z ∈ other) {c1 c2 c3 c4:Int} (h1:dC G one c1) (h2:dC G other c2) (h3:dC G either c3) (h4:dC G both c4):c3 + c4 ≤ c1 + c2:=by
 obtain ⟨⟨X,sX,wX,eX⟩,_⟩:=h1
 obtain ⟨⟨Y,sY,wY,eY⟩,_⟩:=h2
 have q3:=h3.2 (fun z=>X z || Y z) (by show (X Mt22.sea || Y Mt22.sea) = false;rw [sX,sY];rfl) (fun z m=>by
  show (X z || Y z) = true
  rcases he z m with h | h
  ·rw [wX z h];rfl
  ·rw [wY z h,Bool.or_true])
 have q4:=h4.2 (fun z=>X z && Y z) (by show (X Mt22.sea && Y Mt22.sea) = false;rw [sX];rfl) (fun z m=>by
  show (X z && Y z) = true
  rw [wX z (hb z m).1,wY z (hb z m).2];rfl)
 have:cut G (fun z=>X z || Y z) + cut G (fun z=>X z && Y z) ≤ cut G X + cut G Y:=by
  unfold cut
  rw [← uQ,← uQ]
  exact aCF fun g m=>aIR (GG.cap g m)
 omega
def kH (one other:List Str):List Str:=one ++ other.filter fun z=>!decide (z ∈ one)
def zG (one other:List Str):List Str:=one.filter fun z=>decide (z ∈ other)
theorem wK {one other:List Str} {z:Str}:z ∈ kH one other ↔ z ∈ one ∨ z ∈ other:=by
 unfold kH
 rw [Ak,Ar]
 by_cases h:z ∈ one <;> simp [h]
theorem aDS {one other:List Str} {z:Str}:z ∈ zG one other ↔ z ∈ one ∧ z ∈ other:=by
 unfold zG
 rw [Ar,decide_eq_true_eq]
theorem aIO {one other:List Str} (h1:one.Nodup) (h2:other.Nodup):(kH one other).Nodup:=by
 unfold kH
 rw [DD]
 refine ⟨h1,CU Co h2,fun a ha b hb=>?_⟩
 rw [Ar] at hb
 have:=hb.2
 intro e
 rw [← e] at this
 simp [ha] at this
theorem aOX {one other:List Str} (h1:one.Nodup):(zG one other).Nodup:=CU Co h1
def zR (C:Addr):Sp:=fun vs H Q _=>∃ (x y z u:V) (p l1 l2:Addr) (fs ds:List Dv) (one other:List Str) (L:Int),vs = [x,y,z,u] ∧ x = .ref p ∧ LandAt C H p fs ds ∧ y = .ref l1 ∧ H l1 = some (.lst (one.map V.str)) ∧ one.Nodup ∧ (∀ z ∈ one,z ∈ fs.map aO) ∧ z = .ref l2 ∧ H l2 = some (.lst (other.map V.str)) ∧ other.Nodup ∧ (∀ z ∈ other,z ∈ fs.map aO) ∧ u = .int L ∧ hgt L = true ∧
 ∀ (c1 c2 c3 c4:Int) (H':Hp),aI H H' → dC (aW fs ds L) one c1 → dC (aW fs ds L) other c2 → dC (aW fs ds L) (kH one other) c3 → dC (aW fs ds L) (zG one other) c4 → Q (.int (c1 + c2 - c3 - c4)) H'
theorem aLJ:∀ vs H Q E,zR C vs H Q E → vs.length = 4:=fun vs H Q E ⟨x,y,z,u,p,l1,l2,fs,ds,one,other,L,e,_⟩=>by rw [e];rfl
theorem aLF {zs ns:List Str} (nd:zs.Nodup) (sub:∀ z ∈ zs,z ∈ ns):zs.length ≤ ns.length:=pP nd sub
theorem aEU (T:Txt K mg C):Fc P w K mg base 8 "saved" ["land","one","other","height"] (zR C):=by
 have G_p_cost:Fc P w K mg base 7 "cost" ["land","fields","height"] (aEH C):=yI T
 refine T.d_p_saved.fc lQ aLJ (fun f cdv A outer s H vs Q E hr h=>?_)
 obtain ⟨x,y,z,u,p,l1,l2,fs,ds,one,other,lv,rfl,rfl,L,rfl,h1,nd1,sub1,rfl,h2,nd2,sub2,rfl,hL,q⟩:=h
 have big:=bP
 have f2:=(bX L).1.l2
 have n1:=aLF nd1 sub1
 have n2:=aLF nd2 sub2
 rw [AA] at n1 n2
 refine ⟨_,(@aG _ _ _ _ _ (@aZ _ _ (4) _ _ _ _ lQ.nd rfl (Or.inl rfl) (@aL _ _ _ _ _ _ _ _ cQ (@bF _ _ _ _ _ _ _ _ _ _ G_p_cost (hr.mono (by decide)) (@aA _ _ _ _ _ (pv 0) (@aA _ _ _ _ _ (pv 1) (@aA _ _ _ _ _ (pv 3) aE (by rfl)) (by rfl)) (by rfl)) (by rfl) (by decide) (by rfl) (by rfl)) (@bF _ _ _ _ _ _ _ _ _ _ G_p_cost (hr.mono (by decide)) (@aA _ _ _ _ _ (pv 0) (@aA _ _ _ _ _ (pv 2) (@aA _ _ _ _ _ (pv 3) aE (by rfl)) (by rfl)) (by rfl)) (by rfl) (by decide) (by rfl) (by rfl))) (by rfl) (by trivial)) (@aG _ _ _ _ _ (@aZ _ _ (5) _ _ _ _ lQ.nd rfl (Or.inl rfl) (@aL _ _ _ _ _ _ _ _ lZ (pv 1) (@cB _ _ _ _ _ _ _ _ _ _ _ ["name","one"] 1 [1] rfl (@bT _ _ _ _ (pv 2)) (fun R=>@aU _ _ (0) _ (show Au (["name","one"]:List Str) by decide +kernel) rfl (Or.inl rfl) (by trivial)) (@aX _ _ (by decide)) (fun R=>@fW _ _ _ (@cA _ _ _ _ _ _ _ _ (@pA _ (K) rfl) (pv 0) (pv 1) (by with_unfolding_all rfl))) (fun R=>(pv 0)) (by rfl) (by rfl) (by rfl) (by rfl) (by rfl) (by rfl) (by rfl) (by intro _;rfl))) (by rfl) (by trivial)) (@aG _ _ _ _ _ (@jS _ (6) _ _ _ _ _ _ _ _ _ _ _ _ _ lQ.nd rfl ["name","other"] 1 [2] rfl (@bT _ _ _ _ (pv 1)) (fun R=>@aU _ _ (0) _ (show Au (["name","other"]:List Str) by decide +kernel) rfl (Or.inl rfl) (by trivial)) (@aX _ _ (by decide)) (fun R=>@fW _ _ _ (@cA _ _ _ _ _ _ _ _ (@jU _ (K) rfl) (pv 0) (pv 1) (by with_unfolding_all rfl))) (fun R=>(pv 0)) (by exact Or.inl rfl) (by trivial) (by rfl) (by rfl) (by rfl) (by rfl) (by rfl) (by rfl) (by rfl) (by rfl) (by intro _;rfl)) (@aH _ _ _ (@aQ _ _ _ _ (@aL _ _ _ _ _ _ _ _ iY (@aL _ _ _ _ _ _ _ _ iY (pv 4) (@bF _ _ _ _ _ _ _ _ _ _ G_p_cost (hr.mono (by decide)) (@aA _ _ _ _ _ (pv 0) (@aA _ _ _ _ _ (pv 5) (@aA _ _ _ _ _ (pv 3) aE (by rfl)) (by rfl)) (by rfl)) (by rfl) (by decide) (by rfl) (by rfl))) (@bF _ _ _ _ _ _ _ _ _ _ G_p_cost (hr.mono (by decide)) (@aA _ _ _ _ _ (pv 0) (@aA _ _ _ _ _ (pv 6) (@aA _ _ _ _ _ (pv 3) aE (by rfl)) (by rfl)) (by rfl)) (by rfl) (by decide) (by rfl) (by rfl)))))))),?_⟩
 refine ⟨_,rfl,_,rfl,_,rfl,_,_,_,rfl,p,l1,fs,ds,one,lv,rfl,L,rfl,h1,nd1,sub1,rfl,hL,fun c1 H1 S1 lst1=>?_⟩
 refine ⟨_,rfl,_,rfl,_,rfl,_,_,_,rfl,p,l2,fs,ds,other,lv,rfl,L.same S1,rfl,S1 _ _ h2,nd2,sub2,rfl,hL,fun c2 H2 S2 lst2=>?_⟩
 have T2:=S1.trans S2
 refine ⟨_,_,rfl,rfl,_,rfl,_,rfl,l2,rfl,⟨_,SqL.of (T2 _ _ h2)⟩,?_⟩
 have h12:=T2 _ _ h1
 refine bI (F:=K) (xs:=other.map V.str) (by rw [AA];omega) (fun i ys H'=>H2 = H' ∧ ys = ((other.take i).filter fun z=>!decide (z ∈ one)).map V.str) ⟨rfl,rfl⟩ ?_ ?_ ?_
 ·rintro i ys H' hi ⟨rfl,rfl⟩
  have:=BC (fun z:Str=>!decide (z ∈ one)) (other.take i)
  rw [AZ] at this
  exact ⟨SqL.of (T2 _ _ h2),by rw [AA];omega⟩
 ·rintro i xv ys H' K1 K2 hx' ⟨rfl,rfl⟩ k1 k2
  rw [AR] at hx'
  obtain ⟨z,ez,rfl⟩:=Ay.mp hx'
  have et:=iH (P:=fun z:Str=>!decide (z ∈ one)) ez
  refine ⟨_,rfl,_,rfl,l1,_,rfl,.inl (SqL.of h12),rfl,iF one,_,rfl,?_⟩
  rw [if_pos rfl,mG]
  cases hg:(!decide (z ∈ one)) with
  | false =>
   rw [hg] at et
   exact bO (k2 _ ⟨rfl,by rw [et];simp⟩)
  | true =>
   rw [hg] at et
   exact dL ⟨_,rfl,k1 _ _ ⟨rfl,by rw [et,if_pos rfl,AW];rfl⟩⟩
 rintro ys H3 ⟨rfl,rfl⟩
 rw [AA,AI (AL _)]
 intro l3 h3
 have S3:=aI.upd (o:=.lst ((other.filter fun z=>!decide (z ∈ one)).map V.str)) h3
 have r3:upd H2 l3 (.lst ((other.filter fun z=>!decide (z ∈ one)).map V.str)) l3 = some (.lst ((other.filter fun z=>!decide (z ∈ one)).map V.str)):=aD
 generalize upd H2 l3 (.lst ((other.filter fun z=>!decide (z ∈ one)).map V.str)) = H3 at S3 r3
 have fl:=BC (fun z:Str=>!decide (z ∈ one)) other
 refine ⟨l1,l3,_,_,rfl,rfl,S3 _ _ h12,r3,by rw [AA,AA];omega,fun l4 h4=>?_⟩
 have S4:=aI.upd (o:=.lst (one.map V.str ++ (other.filter fun z=>!decide (z ∈ one)).map V.str)) h4
 have r4:upd H3 l4 (.lst (one.map V.str ++ (other.filter fun z=>!decide (z ∈ one)).map V.str)) l4 = some (.lst ((kH one other).map V.str)):=by rw [aD];unfold kH;rw [AW]
 generalize upd H3 l4 (.lst (one.map V.str ++ (other.filter fun z=>!decide (z ∈ one)).map V.str)) = H4 at S4 r4
 have T4:=T2.trans (S3.trans S4)
 have h14:=T4 _ _ h1
 have h24:=T4 _ _ h2
 refine ⟨_,rfl,l1,rfl,⟨_,SqL.of h14⟩,?_⟩
 refine bI (F:=K) (xs:=one.map V.str) (by rw [AA];omega) (fun i ys H'=>H4 = H' ∧ ys = ((one.take i).filter fun z=>decide (z ∈ other)).map V.str) ⟨rfl,rfl⟩ ?_ ?_ ?_
 ·rintro i ys H' hi ⟨rfl,rfl⟩
  have:=BC (fun z:Str=>decide (z ∈ other)) (one.take i)
  rw [AZ] at this
  exact ⟨SqL.of h14,by rw [AA];omega⟩
 ·rintro i xv ys H' K1 K2 hx' ⟨rfl,rfl⟩ k1 k2
  rw [AR] at hx'
  obtain ⟨z,ez,rfl⟩:=Ay.mp hx'
  have et:=iH (P:=fun z:Str=>decide (z ∈ other)) ez
  refine ⟨_,rfl,_,rfl,l2,_,rfl,.inl (SqL.of h24),rfl,iF other,_,rfl,?_⟩
  rw [if_neg Ab,mG]
  cases hg:decide (z ∈ other) with
  | false =>
   rw [hg] at et
   exact bO (k2 _ ⟨rfl,by rw [et];simp⟩)
  | true =>
   rw [hg] at et
   exact dL ⟨_,rfl,k1 _ _ ⟨rfl,by rw [et,if_pos rfl,AW];rfl⟩⟩
 rintro ys H5 ⟨rfl,rfl⟩
 rw [AA,AI (AL _)]
 intro l5 h5
 have S5:=aI.upd (o:=.lst ((one.filter fun z=>decide (z ∈ other)).map V.str)) h5
 have r5:upd H4 l5 (.lst ((one.filter fun z=>decide (z ∈ other)).map V.str)) l5 = some (.lst ((zG one other).map V.str)):=aD
 generalize upd H4 l5 (.lst ((one.filter fun z=>decide (z ∈ other)).map V.str)) = H5 at S5 r5
 have T5:=T4.trans S5
 refine ⟨_,rfl,_,rfl,_,rfl,_,rfl,_,_,_,rfl,p,l4,fs,ds,kH one other,lv,rfl,L.same T5,rfl,S5 _ _ r4,aIO nd1 nd2,(fun z m=>by rcases wK.mp m with h | h;exact sub1 z h;exact sub2 z h),rfl,hL,fun c3 H6 S6 lst3=>?_⟩
 refine ⟨_,_,rfl,rfl,_,rfl,_,rfl,_,rfl,_,_,_,rfl,p,l5,fs,ds,zG one other,lv,rfl,L.same (T5.trans S6),rfl,S6 _ _ r5,aOX nd1,(fun z m=>sub1 z (aDS.mp m).1),rfl,hL,fun c4 H7 S7 lst4=>?_⟩
 exact ⟨_,_,rfl,rfl,q c1 c2 c3 c4 H7 (T5.trans (S6.trans S7)) lst1 lst2 lst3 lst4⟩
open Mt53 Mt22 MtF Mt31 Mt61
def aGB (K:AG):Sp:=sp1 fun x H Q=>Scr K H x ∧ ∀ (t lf ld:Addr) (vf vd:List V) (fs ds:List Dv) (H':Hp),aI H H' → H' t = some (.tup [.ref lf,.ref ld]) → H' lf = some (.lst vf) → IsL H' fs vf → H' ld = some (.lst vd) → IsL H' ds vd → Fds fs 5 → Dks ("sea" :: fs.map aO) ds 10 → Q (.ref t) H'
theorem aEW (T:Txt K mg C):Fc P w K mg base 3 "_law_small" ["_law_script"] (aGB K):=by
 have G_l_cell_at:Fc P w K mg base 1 "_law_cell_at" ["_law_script","_law_k"] (uO K):=jF T
 have G_l_fields:Fc P w K mg base 2 "_law_fields" ["_law_script","_law_many"] (xX K):=aCU T
 have G_l_dykes:Fc P w K mg base 2 "_law_dykes" ["_law_script","_law_fields_here","_law_many"] (aCB K):=aEX T
 refine T.d_l_small.fc pJ oV (fun f cdv A outer s H vs Q E hr h=>?_)
 obtain ⟨x,rfl,scr,q⟩:=h
 obtain ⟨a,ns,rfl,hS,hl⟩:=id scr
 refine ⟨_,(@aG _ _ _ _ _ (@aZ _ _ (1) _ _ _ _ pJ.nd rfl (Or.inl rfl) (@bF _ _ _ _ _ _ _ _ _ _ G_l_cell_at (hr.mono (by decide)) (@aA _ _ _ _ _ (pv 0) (@aA _ _ _ _ _ aF aE (by rfl)) (by rfl)) (by rfl) (by decide) (by rfl) (by rfl)) (by rfl) (by trivial)) (@aG _ _ _ _ _ (@aZ _ _ (2) _ _ _ _ pJ.nd rfl (Or.inl rfl) (@bF _ _ _ _ _ _ _ _ _ _ G_l_fields (hr.mono (by decide)) (@aA _ _ _ _ _ (pv 0) (@aA _ _ _ _ _ (@aL _ _ _ _ _ _ _ _ cQ aF (@aL _ _ _ _ _ _ _ _ cO (pv 1) aF)) aE (by rfl)) (by rfl)) (by rfl) (by decide) (by rfl) (by rfl)) (by rfl) (by trivial)) (@aH _ _ _ (@aQ _ _ _ _ (@dW _ _ _ _ _ (@aA _ _ _ _ _ (pv 2) (@aA _ _ _ _ _ (@bF _ _ _ _ _ _ _ _ _ _ G_l_dykes (hr.mono (by decide)) (@aA _ _ _ _ _ (pv 0) (@aA _ _ _ _ _ (pv 2) (@aA _ _ _ _ _ (@aL _ _ _ _ _ _ _ _ cQ aF (@aL _ _ _ _ _ _ _ _ cO (@aL _ _ _ _ _ _ _ _ bW (pv 1) aF) aF)) aE (by rfl)) (by rfl)) (by rfl)) (by rfl) (by decide) (by rfl) (by rfl)) aE (by rfl)) (by rfl))))))),?_⟩
 refine ⟨_,rfl,_,_,rfl,a,ns,0,rfl,rfl,hS,hl,EI _,?_⟩
 generalize ns.getD (0:Int).toNat 0 = c
 have m1:=BU c (show (5:Int) ≠ 0 by decide)
 have m2:=BM c (show (0:Int) < 5 by decide)
 have m3:=BU (c / 5) (show (10:Int) ≠ 0 by decide)
 have m4:=BM (c / 5) (show (0:Int) < 10 by decide)
 obtain ⟨k,hk⟩:=BQ (show 0 ≤ 1 + c % 5 by omega)
 obtain ⟨n,hn⟩:=BQ (show 0 ≤ 1 + c / 5 % 10 by omega)
 refine ⟨_,rfl,_,rfl,_,_,rfl,rfl,(kD rfl),_,_,rfl,rfl,?_⟩
 refine ⟨_,_,rfl,k,scr,by rw [← hk],by omega,by omega,fun lf vf fs H2 S2 flf hlf hif gf=>?_⟩
 refine ⟨_,rfl,_,rfl,_,rfl,_,rfl,_,_,rfl,rfl,⟨by decide,by decide⟩,_,_,rfl,rfl,(kD rfl),_,_,rfl,rfl,?_⟩
 refine ⟨_,_,_,rfl,n,lf,vf,fs,k,scr.same S2,rfl,hlf,hif,gf,by omega,by rw [← hn],by omega,by omega,fun ld vd ds H3 S3 fld hld hid gd=>?_⟩
 refine ⟨aY rfl,fun p hp=>?_⟩
 have S4:=aI.upd (o:=.tup [.ref lf,.ref ld]) hp
 have f2:=gf.l2
 have d2:=gd.l2
 exact q p lf ld vf vd fs ds _ (S2.trans (S3.trans S4)) aD ((S3.trans S4) _ _ hlf) (IsL.same (S3.trans S4) _ _ hif) (S4 _ _ hld) (IsL.same S4 _ _ hid) ⟨gf.l1,by omega,gf.all,gf.nd⟩ ⟨gd.l1,by omega,gd.all,gd.nd⟩
open Mt53 Mt22 MtF Mt31 Mt61
def aTL:Str:=("lists_of_places":Str) ++ ".<locals>." ++ "<lambda>"
abbrev oW (Tb:Addr) (H:Hp):Prop:=lO Tb ⟨192,29,192,59⟩ aTL H
def aGE (Tb:Addr):Sp:=sp1 fun x H Q=>∃ n:Nat,x = .int n ∧ 1 ≤ n ∧ n ≤ 4 ∧ oW Tb H ∧
 ∀ (D:Addr) (ps:List (Addr × List Int)) (H':Hp),eP Tb H H' → oW Tb H' → H' D = some (.lst (ps.map fun p=>V.ref p.1)) → kB H' ps → (∀ p ∈ ps,H p.1 = none) → ps.map (·.2) = vF n → Q (.ref D) H'
theorem gσ {i:Nat} {v:V} {σ σ':L2.St} {H:Hp} {Q:L2.St → Hp → Prop} (e:σ.set i (some v) = σ') (h:Q σ' H):wG i v σ H Q:=by
 unfold wG
 rw [e]
 exact h
theorem tE {H:Hp}:∀ {ns:List Int} {xs:List V},IsL H (ns.map Dv.int) xs → xs = ns.map V.int
 | [],xs,h=>h
 | n :: ns,xs,h=>by
  obtain ⟨v,vs,rfl,e,r⟩:=h
  cases (show v = .int n from e)
  rw [tE r]
  rfl
theorem aEV (T:Txt K mg C) {c Tb:Addr} (B:TabB K mg base "lists_of_places" c Tb):Fc P w K mg base 5 "lists_of_places" ["count"] (aGE Tb):=by
 refine T.d_p_lists_of_places.fcC B dD oV (fun f A outer s H vs Q E hr h=>?_)
 obtain ⟨x,rfl,n,rfl,n1,n4,tab,q⟩:=h
 have big:=bP
 have KB:aRF (aRH (aBW (tCB (fun xs H Q=>∃ a ys,xs = [.ref a] ∧ (SqL K H a ys ∨ SqT K H a ys) ∧ Q (.int ys.length) H) (aBW (aNE 0) aHK)) (aBW (aNE 0) aHK))):=fun a ns H Q ea q=>⟨_,rfl,a,_,rfl,.inl (SqL.of ea),_,rfl,aY rfl,fun t nt=>q t _ (aI.upd nt) (by rw [aD,AA])⟩
 refine ⟨_,(@aG _ _ _ _ _ (@aZ _ _ (1) _ _ _ _ dD.nd rfl (Or.inl rfl) (@fC _ _ _ _ (@aA _ _ _ _ _ (@fC _ _ _ _ aE) aE (by rfl))) (by rfl) (by trivial)) (@aG _ _ _ _ _ (@iX _ _ _ _ _ _ _ _ BR rfl (@jH _ _ _ _ _ _ rfl T.n_range (@aA _ _ _ _ _ (pv 0) aE (by rfl)) (by rfl)) (@aU _ _ (2) _ dD.nd rfl (Or.inr rfl) (by trivial)) (@aH _ _ _ (@aZ _ _ (1) _ _ _ _ dD.nd rfl (Or.inl rfl) (@aL _ _ _ _ _ _ _ _ lZ (pv 1) (@cB _ _ _ _ _ _ _ _ _ _ _ ["some","place"] 1 [2] rfl (@bT _ _ _ _ (pv 1)) (fun R=>@aU _ _ (0) _ (show Au (["some","place"]:List Str) by decide +kernel) rfl (Or.inl rfl) (by trivial)) (@aX _ _ (by decide)) (fun R=>cF) (fun R=>(@aL _ _ _ _ _ _ _ _ lZ (pv 0) (@fC _ _ _ _ (@aA _ _ _ _ _ (pv 1) aE (by rfl))))) (by rfl) (by rfl) (by rfl) (by rfl) (by rfl) (by rfl) (by rfl) (by intro _;rfl))) (by rfl) (by trivial))) (by intro _;rfl)) (@aH _ _ _ (@aQ _ _ _ _ (@aKX _ _ _ _ _ _ _ _ _ _ _ _ _ (0) _ (hr.mono (by decide)) rfl T.n_sorted (pv 1) (@aQI _ _ _ _ _ _ _ _ _ B rfl rfl rfl rfl) ⟨rfl,rfl,rfl,by decide +kernel,rfl,by decide +kernel,by decide +kernel⟩ (fun _ _ _ _=>rfl) (fun _ _ _ _ _ _=>(dW (aA (aV (bE (K:=K) rfl) rfl T.n_len bN (aA (pv 0) aE)) (aA (pv 0) aE)))) KB (by rfl) (by rfl)))))),?_⟩
 refine ⟨aY rfl,fun a0 m0=>?_⟩
 have S0:=aI.upd (o:=.lst []) m0
 have r0:upd H a0 (.lst []) a0 = some (.lst []):=aD
 generalize upd H a0 (.lst []) = H0 at S0 r0
 refine ⟨aY rfl,fun l0 m1=>?_⟩
 have S1:=aI.upd (o:=.lst [.ref a0]) m1
 have r1:upd H0 l0 (.lst [.ref a0]) l0 = some (.lst [.ref a0]):=aD
 have i1:IsL (upd H0 l0 (.lst [.ref a0])) ((gN 0).map fun ns=>Dv.lst (ns.map Dv.int)) [.ref a0]:=⟨_,_,rfl,⟨a0,_,rfl,S1 _ _ r0,rfl⟩,rfl⟩
 generalize upd H0 l0 (.lst [.ref a0]) = H1 at S1 r1 i1
 have T1:=S0.trans S1
 refine gσ (σ':=[some (.int n),some (.ref l0),none]) rfl ?_
 refine ⟨_,rfl,n,rfl,by omega,by omega,oQ (n:=n) (fun i σ H'=>∃ (l:Addr) (us:List V) (v2:Option V),σ = [some (.int n),some (.ref l),v2] ∧ aI H1 H' ∧ H' l = some (.lst us) ∧ IsL H' ((gN i).map fun ns=>Dv.lst (ns.map Dv.int)) us ∧ ∀ v ∈ us,∃ a,v = .ref a ∧ H a = none) ⟨l0,[.ref a0],_,rfl,aI.refl _,r1,i1,fun v m=>⟨a0,AU.mp m,m0⟩⟩ ?_ ?_⟩
 ·rintro i σ H' hi ⟨l,us,v2,rfl,S',hl,ic,fr⟩
  have cl:(gN i).length ≤ 16:=by
   rw [mR]
   have:2 ^ i ≤ 2 ^ 4:=Cj (by decide) (by omega)
   omega
  have il:∀ ns ∈ gN i,ns.length ≤ 4:=fun ns m=>by have:=lP i ns m;omega
  have es:gN (i + 1) = gN i ++ (gN i).map (· ++ [(i:Int)]):=rfl
  rw [es]
  generalize gN i = cs at ic cl il
  have luc:=ic.length
  rw [AA] at luc
  refine ⟨_,rfl,_,rfl,l,rfl,⟨_,SqL.of hl⟩,?_⟩
  refine bI (F:=K) (xs:=us) (by omega) (fun j ys H''=>aI H' H'' ∧ IsL H'' ((cs.take j).map fun ns=>Dv.lst ((ns ++ [(i:Int)]).map Dv.int)) ys ∧ ∀ v ∈ ys,∃ a,v = .ref a ∧ H a = none) ⟨aI.refl _,rfl,fun _ m=>nomatch m⟩ ?_ ?_ ?_
  ·rintro j ys H'' hj ⟨S2,iy,_⟩
   refine ⟨SqL.of (S2 _ _ hl),?_⟩
   have:=iy.length
   rw [AA,AZ] at this
   omega
  ·rintro j xv ys H'' K1 K2 hx2 ⟨S2,iy,fy⟩ k1 k2
   have hjl:j < us.length:=(AE.mp hx2).1
   obtain ⟨ns,ec⟩:∃ c,cs[j]? = some c:=⟨_,AD (by omega)⟩
   obtain ⟨v,ev,iv⟩:=(IsL.same S2 _ _ ic).get (show (cs.map fun ns=>Dv.lst (ns.map Dv.int))[j]? = some (Dv.lst (ns.map Dv.int)) by rw [AR,ec];rfl)
   rw [hx2] at ev
   cases ev
   obtain ⟨li,xs,rfl,oi,hx⟩:=iv
   have ex:xs = ns.map V.int:=tE hx
   subst ex
   have:=il ns (AS ec)
   refine ⟨_,rfl,_,rfl,aY rfl,fun l1 h1=>?_⟩
   have S3:=aI.upd (o:=.lst [.int (0 + (i:Int))]) h1
   refine ⟨li,l1,_,_,rfl,rfl,S3 _ _ oi,aD,by rw [AA];show _ + 1 ≤ _;omega,fun l2 h2=>k1 _ _ ⟨S2.trans (S3.trans (aI.upd h2)),?_,fun v m=>?_⟩⟩
   rotate_left
   ·rcases Ak.mp m with m | m
    ·exact fy v m
    ·exact ⟨l2,AU.mp m,(T1.trans (S'.trans (S2.trans S3))).free h2⟩
   rw [Ai,ec,AW]
   refine IsL.snoc (show Is _ (Dv.lst ((ns ++ [(i:Int)]).map Dv.int)) (.ref l2) from ⟨l2,_,rfl,aD,?_⟩) (IsL.same (S3.trans (aI.upd h2)) _ _ iy)
   rw [show ns.map V.int ++ [V.int (0 + (i:Int))] = (ns ++ [(i:Int)]).map V.int by rw [AW,Da];rfl]
   exact qQ _
  rintro ys H2' ⟨S2,iy,fy⟩
  rw [AI (by omega)] at iy
  intro l3 h3
  have S3:=aI.upd (o:=.lst ys) h3
  have ly:=iy.length
  rw [AA] at ly
  refine ⟨l,l3,_,_,rfl,rfl,(S2.trans S3) _ _ hl,aD,by omega,fun l4 h4=>?_⟩
  have S4':=aI.upd (o:=.lst (us ++ ys)) h4
  refine ⟨l4,us ++ ys,_,rfl,S'.trans (S2.trans (S3.trans S4')),aD,?_,fun v m=>(Ak.mp m).elim (fr v) (fy v)⟩
  rw [AW,At]
  exact IsL.app (IsL.same (S3.trans S4') _ _ iy) (IsL.same (S2.trans (S3.trans S4')) _ _ ic)
 ·rintro σ H2 ⟨l,us,v2,rfl,S2,hl,ic,fr⟩
  obtain ⟨ps,rfl,it,ep⟩:=aDC ic
  obtain ⟨o1,o2,o3,_⟩:=uD n n1 n4
  have lp:ps.length = (gN n).length:=by rw [← ep,AA]
  have l2:2 ≤ ps.length ∧ ps.length ≤ 16:=by
   rw [lp,mR]
   have:2 ^ 1 ≤ 2 ^ n:=Cj (by decide) n1
   have:2 ^ n ≤ 2 ^ 4:=Cj (by decide) n4
   omega
  have T2:=T1.trans S2
  refine ⟨_,rfl,l,ps,(mK n).toArray,rfl,hl,it,l2.1,by omega,by rw [ep];exact o1,fun i m=>by rw [lp];exact o2 i (by simpa using m),by rw [lp,AQ];exact o3,tab.keep T2,fun D H3 K3 t3 eD=>?_⟩
  have eps:(mK n).toArray.toList.map (fun i=>(ps.map fun p=>V.ref p.1).getD i .non) = ((mK n).map fun i=>ps.getD i (0,[])).map fun p=>V.ref p.1:=by
   rw [At]
   refine Cn fun i m=>?_
   have hi:=o2 i m
   rw [← lp] at hi
   show (ps.map fun p=>V.ref p.1).getD i .non = V.ref (ps.getD i (0,[])).1
   rw [jZ,Aa,AD hi]
   rfl
  rw [eps] at eD
  obtain ⟨qs,eT,_⟩:=tab.keep T2
  refine q D _ H3 (fun b o nb e=>K3 b o nb (T2 _ _ e)) t3 eD (fun p m=>?_) (fun p m=>?_) ?_
  ·obtain ⟨i,mi,rfl⟩:=AT.mp m
   have hi:=o2 i mi
   rw [← lp] at hi
   have mm:ps.getD i (0,[]) ∈ ps:=by
    rw [Aa,AD hi]
    exact Cp hi
   refine K3 _ _ (fun z=>?_) (it _ mm)
   have e2:=it _ mm
   rw [z,eT] at e2
   cases e2
  ·obtain ⟨i,mi,rfl⟩:=AT.mp m
   have hi:=o2 i mi
   rw [← lp] at hi
   have mm:ps.getD i (0,[]) ∈ ps:=by
    rw [Aa,AD hi]
    exact Cp hi
   obtain ⟨a,ea,na⟩:=fr _ (AT.mpr ⟨_,mm,rfl⟩)
   cases ea
   exact na
  ·unfold vF
   rw [At]
   refine Cn fun i m=>?_
   have hi:=o2 i m
   rw [← ep]
   rw [← lp] at hi
   show (ps.getD i (0,[])).2 = (ps.map (·.2)).getD i []
   rw [jZ,Aa,AD hi]
   rfl
open Mt53 Mt22 MtF Mt31 Mt61
theorem aLP {Tb:Addr} {H H':Hp} (k:eP Tb H H') (t:oW Tb H):wZ H H':=fun b o e d=>k b o (fun z=>by
 obtain ⟨ps,eT,_⟩:=t
 rw [z,eT] at e
 cases e
 cases d) e
theorem oO {Tb:Addr} {H H':Hp} (k:eP Tb H H') (t:oW Tb H) {x:Addr} {fs ds:List Dv} (h:LandAt C H x fs ds):LandAt C H' x fs ds:=by
 have D:=aLP k t
 have tb:∀ {a:Addr} {ds:List Dv},oG H a ds → oG H' a ds:=fun ⟨kvs,e,k1,i⟩=>⟨kvs,D _ _ e rfl,k1,IsL.sameD D _ _ i⟩
 obtain ⟨⟨dx,d1,d2,e,t1,t2⟩,a,b⟩:=h
 refine ⟨⟨dx,d1,d2,k _ _ (fun z=>?_) e,tb t1,tb t2⟩,a,b⟩
 obtain ⟨ps,eT,_⟩:=t
 rw [z,eT] at e
 cases e
theorem tX:∀ k,∀ ns ∈ gN k,ns.Nodup ∧ ∀ i ∈ ns,0 ≤ i ∧ i < (k:Int)
 | 0,ns,m=>by rw [AU.mp m];exact ⟨.nil,fun _ m=>nomatch m⟩
 | k + 1,ns,m=>by
  unfold gN at m
  rcases Ak.mp m with m | m
  ·obtain ⟨a,b⟩:=tX k ns m
   exact ⟨a,fun i mi=>by have:=b i mi;omega⟩
  ·obtain ⟨ms,mm,rfl⟩:=AT.mp m
   obtain ⟨a,b⟩:=tX k ms mm
   refine ⟨DD.mpr ⟨a,DT _ _,fun x hx y hy e=>?_⟩,fun i mi=>?_⟩
   ·have:=b x hx
    rw [e,AU.mp hy] at this
    omega
   ·rcases Ak.mp mi with mi | mi
    ·have:=b i mi
     omega
    ·rw [AU.mp mi]
     omega
def atZ (zs:List Str) (i:Int):Str:=zs.getD i.toNat ""
theorem aBK {zs:List Str} {i:Int} (h0:0 ≤ i) (h1:i < zs.length):atI (zs.map V.str) i = some (.str (atZ zs i)) ∧ zs[i.toNat]? = some (atZ zs i):=by
 obtain ⟨k,rfl⟩:=BQ h0
 have hk:k < zs.length:=by omega
 have e:zs[k]? = some (atZ zs (k:Int)):=by
  unfold atZ
  rw [Bl,Aa,AD hk]
  rfl
 exact ⟨aP (by rw [AR,e];rfl),by rw [Bl];exact e⟩
theorem aPP {zs:List Str} (nd:zs.Nodup):∀ {ns:List Int},ns.Nodup → (∀ i ∈ ns,0 ≤ i ∧ i < (zs.length:Int)) → (ns.map (atZ zs)).Nodup ∧ ∀ z ∈ ns.map (atZ zs),z ∈ zs:=fun {ns} h1 h2=>by
 refine ⟨?_,fun z m=>?_⟩
 ·induction ns with
  | nil=>exact .nil
  | cons i ns ih =>
   rw [Ac]
   refine Aq.mpr ⟨fun m=>?_,ih (Aq.mp h1).2 fun j mj=>h2 j (AV _ mj)⟩
   obtain ⟨j,mj,e⟩:=AT.mp m
   have a:=(aBK (h2 i AY).1 (h2 i AY).2).2
   have b:=(aBK (h2 j (AV _ mj)).1 (h2 j (AV _ mj)).2).2
   rw [e] at b
   have:=vR nd a b
   have:=h2 i AY
   have:=h2 j (AV _ mj)
   have ij:i = j:=by omega
   exact (Aq.mp h1).1 (ij ▸ mj)
 ·obtain ⟨i,mi,rfl⟩:=AT.mp m
  exact AS (aBK (h2 i mi).1 (h2 i mi).2).2
def del (X:Addr) (H:Hp):Hp:=fun b=>if b = X then none else H b
theorem aMM (X:Addr) (H:Hp):aI (del X H) H:=fun b o e=>by
 unfold del at e
 by_cases h:b = X
 ·rw [if_pos h] at e;cases e
 ·rw [if_neg h] at e;exact e
theorem aMN {X:Addr} {H:Hp} {b:Addr} {o:HO} (n:b ≠ X) (e:H b = some o):del X H b = some o:=by
 unfold del
 rw [if_neg n]
 exact e
theorem aSQ {X:Addr} {H H':Hp} (S:aI H H'):aI (del X H) (del X H'):=fun b o e=>by
 unfold del at e ⊢
 by_cases h:b = X
 ·rw [if_pos h] at e;cases e
 ·rw [if_neg h] at e ⊢;exact S _ _ e
theorem aTS {X:Addr} {H:Hp} {o:HO}:aI (del X H) (del X (upd H X o)):=fun b o' e=>by
 unfold del at e ⊢
 by_cases h:b = X
 ·rw [if_pos h] at e;cases e
 ·rw [if_neg h] at e ⊢;rw [aK h];exact e
theorem aJJ {T lt:Addr} {pos:Pos} {qual:Str} {H:Hp} {us vs:List V} (x:lO T pos qual H) (h:H lt = some (.lst us)):lO T pos qual (upd H lt (.lst vs)):=by
 obtain ⟨ps,e,t,r⟩:=x
 refine ⟨ps,by rw [aK (fun z=>by rw [z,h] at e;cases e)];exact e,t,r.imp id fun ⟨c,e1,e2⟩=>⟨c,e1,by rw [aK (fun z=>by rw [z,h] at e2;cases e2)];exact e2⟩⟩
def aIS (r:List Str × Int):Dv:=.tup [.lst (r.1.map Dv.str),.int r.2]
structure Told (G:List Gap) (zs:List Str) (rs:List (List Str × Int)):Prop where
 cos:rs.map (·.1) = (vF zs.length).map fun ns=>ns.map (atZ zs)
 lst:∀ r ∈ rs,dC G r.1 r.2
def sO (C Tb:Addr):Sp:=sp3 fun x y u H Q=>∃ (p l:Addr) (fs ds:List Dv) (zs:List Str) (L:Int),x = .ref p ∧ LandAt C H p fs ds ∧ y = .ref l ∧ H l = some (.lst (zs.map V.str)) ∧ 1 ≤ zs.length ∧ zs.length ≤ 4 ∧ zs.Nodup ∧ (∀ z ∈ zs,z ∈ fs.map aO) ∧ u = .int L ∧ hgt L = true ∧ oW Tb H ∧
 ∀ (D:Addr) (us:List V) (rs:List (List Str × Int)) (H':Hp),eP Tb H H' → oW Tb H' → H' D = some (.lst us) → IsL H' (rs.map aIS) us → Told (aW fs ds L) zs rs → Q (.ref D) H'
theorem vM (T:Txt K mg C) {c Tb:Addr} (B:TabB K mg base "lists_of_places" c Tb):Fc P w K mg base 8 "companies" ["land","fields","height"] (sO C Tb):=by
 have G_p_check_wish:Fc P w K mg base 3 "check_wish" ["land","fields","height"] (uL C):=mL T
 have G_p_lists_of_places:Fc P w K mg base 5 "lists_of_places" ["count"] (aGE Tb):=aEV T B
 have G_p_cost:Fc P w K mg base 7 "cost" ["land","fields","height"] (aEH C):=yI T
 refine T.d_p_companies.fc gQ qP (fun f cdv A outer s H vs Q E hr h=>?_)
 obtain ⟨x,y,u,rfl,p,l,fs,ds,zs,lv,rfl,L,rfl,hl,l1,l4,nd,sub,rfl,hL,tab,q⟩:=h
 have big:=bP
 refine ⟨_,(@aG _ _ _ _ _ (@iL _ _ _ _ (@bF _ _ _ _ _ _ _ _ _ _ G_p_check_wish (hr.mono (by decide)) (@aA _ _ _ _ _ (pv 0) (@aA _ _ _ _ _ (pv 1) (@aA _ _ _ _ _ (pv 2) aE (by rfl)) (by rfl)) (by rfl)) (by rfl) (by decide) (by rfl) (by rfl)) (by rfl)) (@aG _ _ _ _ _ (@fB _ _ _ _ _ _ _ _ (@cA _ _ _ _ _ _ _ _ aCR (@aV _ _ _ _ _ _ _ _ _ (@bE _ (K) rfl) rfl T.n_len bN (@aA _ _ _ _ _ (pv 1) aE (by rfl)) (by decide) (by decide) (by rfl) (by rfl)) (@tO _ _ _ _ T.g_MOST_IN_A_WISH (by rfl) (by decide)) (@bQ _ _ (by decide) (by decide))) (@aH _ _ _ lA) cE) (@aG _ _ _ _ _ (@aZ _ _ (3) _ _ _ _ gQ.nd rfl (Or.inl rfl) (@fC _ _ _ _ aE) (by rfl) (by trivial)) (@aG _ _ _ _ _ (@iX _ _ _ _ _ _ _ _ BR rfl (@bT _ _ _ _ (@bF _ _ _ _ _ _ _ _ _ _ G_p_lists_of_places (hr.mono (by decide)) (@aA _ _ _ _ _ (@aV _ _ _ _ _ _ _ _ _ (@bE _ (K) rfl) rfl T.n_len bN (@aA _ _ _ _ _ (pv 1) aE (by rfl)) (by decide) (by decide) (by rfl) (by rfl)) aE (by rfl)) (by rfl) (by decide) (by rfl) (by rfl))) (@aU _ _ (4) _ gQ.nd rfl (Or.inl rfl) (by trivial)) (@aG _ _ _ _ _ (@jS _ (5) _ _ _ _ _ _ _ _ _ _ _ _ _ gQ.nd rfl ["place","fields"] 1 [1] rfl (@bT _ _ _ _ (pv 4)) (fun R=>@aU _ _ (0) _ (show Au (["place","fields"]:List Str) by decide +kernel) rfl (Or.inl rfl) (by trivial)) (@aX _ _ (by decide)) (fun R=>cF) (fun R=>(@bD _ _ _ _ _ _ _ (@gZ _ (K) rfl) (pv 1) (pv 0) (fun _ _=>rfl))) (by exact Or.inl rfl) (by trivial) (by rfl) (by rfl) (by rfl) (by rfl) (by rfl) (by rfl) (by rfl) (by rfl) (by intro _;rfl)) (@aH _ _ _ (@iL _ _ _ _ (@oY _ _ _ _ _ _ _ _ _ _ _ _ BZ Bj Bi gK (pv 3) (@aA _ _ _ _ _ (@dW _ _ _ _ _ (@aA _ _ _ _ _ (pv 5) (@aA _ _ _ _ _ (@bF _ _ _ _ _ _ _ _ _ _ G_p_cost (hr.mono (by decide)) (@aA _ _ _ _ _ (pv 0) (@aA _ _ _ _ _ (pv 5) (@aA _ _ _ _ _ (pv 2) aE (by rfl)) (by rfl)) (by rfl)) (by rfl) (by decide) (by rfl) (by rfl)) aE (by rfl)) (by rfl))) aE (by rfl)) (by rfl) (by rfl) (by rfl) (by rfl) (by rfl)) (by rfl)))) (by intro _;rfl)) (@aH _ _ _ (@aQ _ _ _ _ (pv 3))))))),?_⟩
 refine ⟨_,rfl,_,rfl,_,rfl,_,_,_,rfl,p,l,fs,ds,zs,lv,rfl,L,rfl,hl,l1,nd,sub,rfl,hL,fun H1 S1=>?_⟩
 refine ⟨_,rfl,l,_,rfl,.inl (SqL.of (S1 _ _ hl)),_,_,rfl,rfl,_,rfl,?_⟩
 have e8:decide ((8:Int) < ((zs.map V.str).length:Int)) = false:=decide_eq_false (by rw [AA];omega)
 rw [e8]
 refine bO ?_
 refine ⟨aY rfl,fun lt m1=>?_⟩
 have S2:=aI.upd (o:=.lst []) m1
 have r2:upd H1 lt (.lst []) lt = some (.lst []):=aD
 have nlt:∀ b o,H1 b = some o → b ≠ lt:=fun b o e=>aT e m1
 generalize upd H1 lt (.lst []) = H2 at S2 r2
 refine gσ (σ':=[some (.ref p),some (.ref l),some (.int lv),some (.ref lt),none,none]) rfl ?_
 have T2:=S1.trans S2
 refine ⟨_,rfl,l,_,rfl,.inl (SqL.of (T2 _ _ hl)),_,rfl,zs.length,by rw [AA],l1,l4,tab.keep T2,fun D ps H3 K3 tab3 hD it fr ep=>?_⟩
 have tab2:oW Tb H2:=tab.keep T2
 have eTb:∀ b (ys:List V),H2 b = some (.lst ys) → b ≠ Tb:=fun b ys e z=>by
  obtain ⟨qs,eT,_⟩:=tab2
  rw [z,eT] at e
  cases e
 have hl3:=K3 _ _ (eTb _ _ (T2 _ _ hl)) (T2 _ _ hl)
 have ht3:=K3 _ _ (eTb _ _ r2) r2
 have L3:=oO K3 tab2 (L.same T2)
 have psz:ps.length ≤ 16 ∧ 1 ≤ ps.length:=by
  have:=congrArg CI ep
  rw [AA] at this
  unfold vF at this
  rw [AA] at this
  obtain ⟨_,_,o3,_⟩:=uD zs.length l1 l4
  rw [o3,mR] at this
  have:2 ^ 1 ≤ 2 ^ zs.length:=Cj (by decide) l1
  have:2 ^ zs.length ≤ 2 ^ 4:=Cj (by decide) l4
  omega
 have nDt:D ≠ lt:=fun z=>by
  rw [z,ht3] at hD
  have:=congrArg CI (HO.lst.inj (BH hD))
  rw [AA] at this
  simp at this
  omega
 have KH:∀ (H':Hp),eP Tb H2 H' → eP Tb H H':=fun H' k b o n e=>k b o n (T2 _ _ e)
 have K1:eP Tb H1 H3:=fun b o n e=>K3 b o n (S2 _ _ e)
 have tab1:oW Tb H1:=tab.keep S1
 have ipt:∀ q ∈ ps,q.1 ≠ lt:=fun q m z=>by
  have:=fr q m
  rw [z,r2] at this
  cases this
 have iok:∀ q ∈ ps,q.2.Nodup ∧ ∀ i ∈ q.2,0 ≤ i ∧ i < (zs.length:Int):=fun q m=>by
  have:q.2 ∈ vF zs.length:=by rw [← ep];exact AT.mpr ⟨q,m,rfl⟩
  exact tX _ _ ((qE l1 l4).mp this)
 refine ⟨D,rfl,⟨_,SqL.of hD⟩,nR (K:=K) (a:=D) (xs:=ps.map fun q=>V.ref q.1) (fun i σ H'=>∃ (v4 v5:Option V) (us:List V) (rs:List (List Str × Int)),σ = [some (.ref p),some (.ref l),some (.int lv),some (.ref lt),v4,v5] ∧ eP Tb H1 H' ∧ oW Tb H' ∧ H' D = some (.lst (ps.map fun q=>V.ref q.1)) ∧ kB H' ps ∧ H' lt = some (.lst us) ∧ IsL (del lt H') (rs.map aIS) us ∧ rs.map (·.1) = (ps.take i).map (fun q=>q.2.map (atZ zs)) ∧ ∀ r ∈ rs,dC (aW fs ds lv) r.1 r.2)
  ⟨_,_,[],[],rfl,K1,tab3,hD,it,ht3,rfl,rfl,fun _ m=>nomatch m⟩ ?_ ?_ ?_⟩
 ·rintro i σ H' hi ⟨v4,v5,us,rs,rfl,k',tb',d',it',t',ir,er,lr⟩
  exact SqL.of d'
 ·rintro i xv σ H' hx ⟨v4,v5,us,rs,rfl,k',tb',d',it',t',ir,er,lr⟩
  rw [AR] at hx
  obtain ⟨⟨pa,ns⟩,ez,rfl⟩:=Ay.mp hx
  have mp:(pa,ns) ∈ ps:=AS ez
  have hpa:H' pa = some (.lst (ns.map V.int)):=it' _ mp
  obtain ⟨nnd,nin⟩:=iok _ mp
  have hns:ns.length ≤ 4:=by
   have:ns ∈ vF zs.length:=by rw [← ep];exact AT.mpr ⟨_,mp,rfl⟩
   have:=lP _ _ ((qE l1 l4).mp this)
   omega
  have eTl:l ≠ Tb:=fun z=>by
   obtain ⟨qs,eT,_⟩:=tab1
   have:=S1 _ _ hl
   rw [z,eT] at this
   cases this
  have hl':H' l = some (.lst (zs.map V.str)):=k' _ _ eTl (S1 _ _ hl)
  refine gσ (σ':=[some (.ref p),some (.ref l),some (.int lv),some (.ref lt),some (.ref pa),v5]) rfl ?_
  refine ⟨_,rfl,pa,rfl,⟨_,SqL.of hpa⟩,?_⟩
  refine bI (F:=K) (xs:=ns.map V.int) (by rw [AA];omega) (fun j ys H''=>H' = H'' ∧ ys = ((ns.take j).map (atZ zs)).map V.str) ⟨rfl,rfl⟩ ?_ ?_ ?_
  ·rintro j ys H'' hj ⟨rfl,rfl⟩
   exact ⟨SqL.of hpa,by rw [AA,AA,AZ];omega⟩
  ·rintro j yv ys H'' K1' K2' hx2 ⟨rfl,rfl⟩ k1 k2
   rw [AR] at hx2
   obtain ⟨iz,ei,rfl⟩:=Ay.mp hx2
   have hz:=nin iz (AS ei)
   refine ⟨_,rfl,_,rfl,l,_,iz,_,rfl,rfl,SqL.of hl',(aBK hz.1 hz.2).1,k1 _ _ ⟨rfl,?_⟩⟩
   rw [Ai,ei,AW,AW]
   rfl
  rintro ys H'' ⟨rfl,rfl⟩
  rw [AA,AI (AL _)]
  intro lc mc
  obtain ⟨cnd,csub⟩:=aPP nd nnd nin
  have S4:=aI.upd (o:=.lst ((ns.map (atZ zs)).map V.str)) mc
  have r4:upd H' lc (.lst ((ns.map (atZ zs)).map V.str)) lc = some (.lst ((ns.map (atZ zs)).map V.str)):=aD
  have nlc:lc ≠ lt:=fun z=>by rw [z,t'] at mc;cases mc
  generalize upd H' lc (.lst ((ns.map (atZ zs)).map V.str)) = H4 at S4 r4
  refine gσ (σ':=[some (.ref p),some (.ref l),some (.int lv),some (.ref lt),some (.ref pa),some (.ref lc)]) rfl ?_
  have L4:LandAt C H4 p fs ds:=(oO k' tab1 (L.same S1)).same S4
  refine ⟨_,rfl,.inl ⟨rfl,_,SqL.of (S4 _ _ t')⟩,_,rfl,_,rfl,_,rfl,_,rfl,_,_,_,rfl,p,lc,fs,ds,_,lv,rfl,L4,rfl,r4,cnd,(fun z m=>sub z (csub z m)),rfl,hL,fun cst H5 S5 lst5=>?_⟩
  refine ⟨aY rfl,fun tt mt=>?_⟩
  have S6:=aI.upd (o:=.tup [.ref lc,.int cst]) mt
  have r6:upd H5 tt (.tup [.ref lc,.int cst]) tt = some (.tup [.ref lc,.int cst]):=aD
  have T5:=S4.trans S5
  have ntt:tt ≠ lt:=fun z=>by have:=T5 _ _ t';rw [z,this] at mt;cases mt
  generalize upd H5 tt (.tup [.ref lc,.int cst]) = H6 at S6 r6
  have T6:=T5.trans S6
  have lus:=ir.length
  rw [AA] at lus
  have lrs:=congrArg CI er
  rw [AA,AA,AZ] at lrs
  refine ⟨lt,us,.ref tt,rfl,rfl,T6 _ _ t',by omega,?_⟩
  refine ⟨_,_,us ++ [.ref tt],rs ++ [(ns.map (atZ zs),cst)],rfl,(fun b o n e=>by rw [aK (nlt b o e)];exact T6 _ _ (k' b o n e)),aJJ (tb'.keep T6) (T6 _ _ t'),by rw [aK nDt];exact T6 _ _ d',(fun r m=>by rw [aK (ipt r m)];exact T6 _ _ (it' r m)),aD,?_,?_,?_⟩
  ·rw [AW]
   refine IsL.same aTS _ _ (IsL.snoc (show Is _ (aIS (ns.map (atZ zs),cst)) (.ref tt) from ⟨tt,_,rfl,aMN ntt r6,_,_,rfl,⟨lc,_,rfl,aMN nlc ((S5.trans S6) _ _ r4),IsL.strs _ _⟩,_,_,rfl,rfl,rfl⟩) (IsL.same (aSQ T6) _ _ ir))
  ·rw [AW,er,Ai,ez,AW]
   rfl
  ·intro r m
   rcases Ak.mp m with m | m
   ·exact lr r m
   ·rw [AU.mp m]
    exact lst5
 ·rintro σ H' ⟨v4,v5,us,rs,rfl,k',tb',d',it',t',ir,er,lr⟩
  rw [AA,AI (AL _)] at er
  refine ⟨_,rfl,q lt us rs H' (fun b o n e=>k' b o n (S1 _ _ e)) tb' t' (IsL.same (aMM _ _) _ _ ir) ⟨?_,lr⟩⟩
  rw [er,← ep,At]
  rfl
open Mt53 Mt22 MtF Mt31 Mt61
theorem uI (p:Nat → Bool):∀ k,∃ ns ∈ gN k,∀ i:Int,i ∈ ns ↔ 0 ≤ i ∧ i < (k:Int) ∧ p i.toNat = true
 | 0=>⟨[],AU.mpr rfl,fun i=>⟨(fun m=>absurd m Bc),(fun h=>by omega)⟩⟩
 | k + 1=>by
  obtain ⟨ns,m,h⟩:=uI p k
  unfold gN
  cases q:p k with
  | false =>
   refine ⟨ns,CA _ m,fun i=>?_⟩
   rw [h i]
   refine ⟨fun ⟨a,b,c⟩=>⟨a,by omega,c⟩,fun ⟨a,b,c⟩=>⟨a,?_,c⟩⟩
   have:i ≠ (k:Int):=fun e=>by rw [e,Bl,q] at c;cases c
   omega
  | true =>
   refine ⟨ns ++ [(k:Int)],Aj _ (AT.mpr ⟨ns,m,rfl⟩),fun i=>?_⟩
   rw [Ak,h i,AU]
   constructor
   ·rintro (⟨a,b,c⟩ | rfl)
    ·exact ⟨a,by omega,c⟩
    ·exact ⟨by omega,by omega,by rw [Bl];exact q⟩
   ·rintro ⟨a,b,c⟩
    by_cases e:i = (k:Int)
    ·exact .inr e
    ·exact .inl ⟨a,by omega,c⟩
theorem aEQ {zs:List Str} (h1:1 ≤ zs.length) (h4:zs.length ≤ 4) {co:List Str} (sub:∀ z ∈ co,z ∈ zs):∃ ns ∈ vF zs.length,∀ z,z ∈ ns.map (atZ zs) ↔ z ∈ co:=by
 obtain ⟨ns,m,h⟩:=uI (fun i=>decide (zs.getD i "" ∈ co)) zs.length
 refine ⟨ns,(qE h1 h4).mpr m,fun z=>?_⟩
 rw [AT]
 constructor
 ·rintro ⟨i,mi,rfl⟩
  exact of_decide_eq_true ((h i).mp mi).2.2
 ·intro mz
  obtain ⟨k,hk,e⟩:=DL (sub z mz)
  have ek:zs.getD k "" = z:=by rw [Aa,AD hk];exact e
  refine ⟨(k:Int),(h k).mpr ⟨by omega,by omega,?_⟩,by unfold atZ;rw [Bl];exact ek⟩
  rw [Bl]
  show decide (zs.getD k "" ∈ co) = true
  rw [ek]
  exact decide_eq_true mz
theorem sN {H:Hp}:∀ {zs:List Str} {vs:List V},IsL H (zs.map Dv.str) vs → vs = zs.map V.str
 | [],_,h=>h
 | z :: zs,_,h=>by
  obtain ⟨v,r,rfl,e,t⟩:=h
  cases (show v = .str z from e)
  rw [sN t]
  rfl
def lE (ss:List Str):List Key:=ss.map Sum.inr
theorem wC (ss:List Str):(lE ss).map kV = ss.map V.str:=by
 unfold lE
 rw [At]
 rfl
theorem aLO {a b:List Str} (h:lE a = lE b):a = b:=by
 induction a generalizing b with
 | nil=>cases b with
  | nil=>rfl
  | cons y b=>cases h
 | cons x a ih=>cases b with
  | nil=>cases h
  | cons y b =>
   have:=List.cons.inj h
   rw [Dx this.1,ih this.2]
structure CostD (G:List Gap) (zs:List Str) (kvs:List (List Key × V)):Prop where
 all:∀ kv ∈ kvs,∃ (ss:List Str) (c:Int),ss.Nodup ∧ (∀ z ∈ ss,z ∈ zs) ∧ gF ss ss ∧ kv.1 = lE ss ∧ kv.2 = .int c ∧ dC G ss c
 get:∀ co ss:List Str,co.Nodup → (∀ z ∈ co,z ∈ zs) → gF co ss → ∃ c,dJ kvs (lE ss) = some (.int c) ∧ dC G co c
theorem aKS {kvs:List (List Key × V)} {k:List Key} {v:V} {kv:List Key × V} (m:kv ∈ jR kvs k v):kv ∈ kvs ∨ kv = (k,v):=by
 unfold jR at m
 split at m
 ·obtain ⟨kv0,m0,rfl⟩:=AT.mp m
  by_cases e:kv0.1 = k
  ·rw [if_pos e]
   exact .inr (by rw [e])
  ·rw [if_neg e]
   exact .inl m0
 ·rcases Ak.mp m with m | m
  ·exact .inl m
  ·exact .inr (AU.mp m)
def aGH (C Tb:Addr):Sp:=sp3 fun x y u H Q=>∃ (p l:Addr) (fs ds:List Dv) (zs:List Str) (L:Int),x = .ref p ∧ LandAt C H p fs ds ∧ y = .ref l ∧ H l = some (.lst (zs.map V.str)) ∧ 1 ≤ zs.length ∧ zs.length ≤ 4 ∧ zs.Nodup ∧ (∀ z ∈ zs,z ∈ fs.map aO) ∧ u = .int L ∧ hgt L = true ∧ oW Tb H ∧
 ∀ (d:Addr) (kvs:List (List Key × V)) (H':Hp),eP Tb H H' → oW Tb H' → H d = none → H' d = some (.dT kvs) → CostD (aW fs ds L) zs kvs → Q (.ref d) H'
theorem aJI {T d:Addr} {pos:Pos} {qual:Str} {H:Hp} {us vs:List (List Key × V)} (x:lO T pos qual H) (h:H d = some (.dT us)):lO T pos qual (upd H d (.dT vs)):=by
 obtain ⟨ps,e,t,r⟩:=x
 refine ⟨ps,by rw [aK (fun z=>by rw [z,h] at e;cases e)];exact e,t,r.imp id fun ⟨c,e1,e2⟩=>⟨c,e1,by rw [aK (fun z=>by rw [z,h] at e2;cases e2)];exact e2⟩⟩
theorem aEY (T:Txt K mg C) {c Tb:Addr} (B:TabB K mg base "lists_of_places" c Tb):Fc P w K mg base 9 "_law_costs" ["_law_land","_law_wish","_law_height"] (aGH C Tb):=by
 have G_p_companies:Fc P w K mg base 8 "companies" ["land","fields","height"] (sO C Tb):=vM T B
 refine T.d_l_costs.fc lR qP (fun f cdv A outer s H vs Q E hr h=>?_)
 obtain ⟨x,y,u,rfl,p,l,fs,ds,zs,lv,rfl,L,rfl,hl,l1,l4,nd,sub,rfl,hL,tab,q⟩:=h
 have big:=bP
 have hu:=lG hr
 refine ⟨_,(@aG _ _ _ _ _ (@aZ _ _ (3) _ _ _ _ lR.nd rfl (Or.inl rfl) aLB (by rfl) (by trivial)) (@aG _ _ _ _ _ (@iX _ _ _ _ _ _ _ _ BR rfl (@bT _ _ _ _ (@bF _ _ _ _ _ _ _ _ _ _ G_p_companies (hr.mono (by decide)) (@aA _ _ _ _ _ (pv 0) (@aA _ _ _ _ _ (pv 1) (@aA _ _ _ _ _ (pv 2) aE (by rfl)) (by rfl)) (by rfl)) (by rfl) (by decide) (by rfl) (by rfl))) (@vG _ _ _ _ _ _ rfl (@fX _ _ _ _ _ (@aU _ _ (4) _ lR.nd rfl (Or.inl rfl) (by trivial)) (@fX _ _ _ _ _ (@aU _ _ (5) _ lR.nd rfl (Or.inl rfl) (by trivial)) qF (by rfl)) (by rfl)) (by rfl) (by rfl)) (@aH _ _ _ (@aGP _ _ _ _ _ _ _ _ _ hu (pv 3) (@bH _ _ _ _ _ _ _ _ _ eK rfl T.n_tuple fF (@aA _ _ _ _ _ (@aV _ _ _ _ _ _ _ _ _ fI rfl T.n_sorted fJ (@aA _ _ _ _ _ (pv 4) aE (by rfl)) (by decide) (by decide) (by rfl) (by rfl)) aE (by rfl)) (by decide) (by decide) (by rfl) (by rfl)) (pv 5) rfl)) (by intro _;rfl)) (@aH _ _ _ (@aQ _ _ _ _ (pv 3))))),?_⟩
 refine fun d m1=>?_
 have S1:=aI.upd (o:=.dT []) m1
 have r1:upd H d (.dT []) d = some (.dT []):=aD
 generalize upd H d (.dT []) = H1 at S1 r1
 refine gσ (σ':=[some (.ref p),some (.ref l),some (.int lv),some (.ref d),none,none]) rfl ?_
 have tab1:oW Tb H1:=tab.keep S1
 have eTd:d ≠ Tb:=fun z=>by
  obtain ⟨qs,eT,_⟩:=tab1
  rw [z,eT] at r1
  cases r1
 refine ⟨_,rfl,_,rfl,_,rfl,_,_,_,rfl,p,l,fs,ds,zs,lv,rfl,L.same S1,rfl,S1 _ _ hl,l1,l4,nd,sub,rfl,hL,tab1,fun D us rs H2 K2 tab2 hD ir told=>?_⟩
 have r2:=K2 _ _ eTd r1
 have lrs:=congrArg CI told.cos
 have psz:rs.length ≤ 16:=by
  rw [AA,AA] at lrs
  unfold vF at lrs
  rw [AA] at lrs
  obtain ⟨_,_,o3,_⟩:=uD zs.length l1 l4
  rw [o3,mR] at lrs
  have:2 ^ zs.length ≤ 2 ^ 4:=Cj (by decide) l4
  omega
 have rok:∀ r ∈ rs,r.1.Nodup ∧ (∀ z ∈ r.1,z ∈ zs):=fun r m=>by
  have m1:r.1 ∈ (vF zs.length).map fun ns=>ns.map (atZ zs):=by rw [← told.cos];exact AT.mpr ⟨r,m,rfl⟩
  obtain ⟨ns,mn,e⟩:=AT.mp m1
  obtain ⟨a,b⟩:=tX _ _ ((qE l1 l4).mp mn)
  rw [← e]
  exact aPP nd a b
 have lus:=ir.length
 rw [AA] at lus
 refine ⟨D,rfl,⟨_,SqL.of hD⟩,nR (K:=K) (a:=D) (xs:=us) (fun i σ H'=>∃ (v4 v5:Option V) (kvs:List (List Key × V)),σ = [some (.ref p),some (.ref l),some (.int lv),some (.ref d),v4,v5] ∧ eP Tb H H' ∧ oW Tb H' ∧ H' D = some (.lst us) ∧ IsL H' (rs.map aIS) us ∧ H' d = some (.dT kvs) ∧ kvs.length ≤ i ∧
   (∀ kv ∈ kvs,∃ (ss:List Str) (c:Int),ss.Nodup ∧ (∀ z ∈ ss,z ∈ zs) ∧ gF ss ss ∧ kv.1 = lE ss ∧ kv.2 = .int c ∧ dC (aW fs ds lv) ss c) ∧ ∀ r ∈ rs.take i,∀ ss,gF r.1 ss → ∃ c,dJ kvs (lE ss) = some (.int c) ∧ dC (aW fs ds lv) r.1 c)
  ⟨_,_,[],rfl,(fun b o n e=>K2 b o n (S1 _ _ e)),tab2,hD,ir,r2,AL _,(fun _ m=>nomatch m),fun _ m=>nomatch m⟩ ?_ ?_ ?_⟩
 ·rintro i σ H' hi ⟨v4,v5,kvs,rfl,k',tb',d',i',e',le,al,gt⟩
  exact SqL.of d'
 ·rintro i xv σ H' hx ⟨v4,v5,kvs,rfl,k',tb',d',i',e',le,al,gt⟩
  have hil:=(AE.mp hx).1
  obtain ⟨r,er⟩:∃ r,rs[i]? = some r:=⟨_,AD (by omega)⟩
  obtain ⟨v,ev,iv⟩:=i'.get (show (rs.map aIS)[i]? = some (aIS r) by rw [AR,er];rfl)
  rw [hx] at ev
  cases ev
  obtain ⟨t,ts,rfl,ht,v1,r1',rfl,⟨lc,xs,rfl,hlc,hxs⟩,v2,r2',rfl,e2,e3⟩:=iv
  cases (show v2 = .int r.2 from e2)
  cases (show r2' = [] from e3)
  have exs:xs = r.1.map V.str:=sN hxs
  subst exs
  have mr:r ∈ rs:=AS er
  obtain ⟨rnd,rsub⟩:=rok r mr
  have r4:r.1.length ≤ 4:=by have:=pP rnd rsub;omega
  refine ⟨t,_,rfl,SqT.of ht,rfl,_,_,rfl,_,_,rfl,rfl,?_⟩
  refine ⟨_,rfl,_,rfl,_,rfl,lc,r.1,rfl,SqL.of hlc,by omega,fun rl ss so mrl=>?_⟩
  have S3:=aI.upd (o:=.lst (ss.map V.str)) mrl
  have q3:upd H' rl (.lst (ss.map V.str)) rl = some (.lst (ss.map V.str)):=aD
  generalize upd H' rl (.lst (ss.map V.str)) = H3 at S3 q3
  refine ⟨rl,_,rfl,.inl ⟨SqL.of q3,fun tt mt=>?_⟩⟩
  have S4:=aI.upd (o:=.tup (ss.map V.str)) mt
  have q4:upd H3 tt (.tup (ss.map V.str)) tt = some (.tup ((lE ss).map kV)):=by rw [aD,wC]
  generalize upd H3 tt (.tup (ss.map V.str)) = H4 at S4 q4
  have T4:=S3.trans S4
  have e4:=T4 _ _ e'
  refine ⟨d,_,rfl,aJC.t e4 q4 (by have h16:(16:Nat) < An:=(by decide);omega),?_⟩
  have nd':∀ b o,H b = some o → b ≠ d:=fun b o e=>aT e m1
  have SD:wZ H4 (upd H4 d (.dT (jR kvs (lE ss) (.int r.2)))):=fun b o e di=>by
   rw [aK (fun z=>by rw [z,e4] at e;cases e;cases di)]
   exact e
  have lst:=told.lst r mr
  have snd:ss.Nodup:=so.1.nodup_iff.mpr rnd
  refine ⟨_,_,jR kvs (lE ss) (.int r.2),rfl,(fun b o n e=>by rw [aK (nd' b o e)];exact T4 _ _ (k' b o n e)),aJI (tb'.keep T4) e4,SD _ _ (T4 _ _ d') rfl,IsL.sameD SD _ _ (IsL.same T4 _ _ i'),aD,by have:=nN kvs (lE ss) (.int r.2);omega,fun kv m=>?_,fun r' m' ss' so'=>?_⟩
  ·rcases aKS m with m | rfl
   ·exact al kv m
   ·exact ⟨ss,r.2,snd,fun z mz=>rsub z (so.1.mem_iff.mp mz),so.self,rfl,rfl,dC.congr lst fun z=>(so.1.mem_iff).symm⟩
  ·rw [aJE]
   by_cases ek:lE ss' = lE ss
   ·rw [if_pos ek]
    have es:=aLO ek
    have pm:r.1.Perm r'.1:=so.1.symm.trans (es ▸ so'.1)
    exact ⟨r.2,rfl,dC.congr lst fun z=>pm.mem_iff⟩
   ·rw [if_neg ek]
    rw [Ai,er] at m'
    rcases Ak.mp m' with m' | m'
    ·exact gt r' m' ss' so'
    ·have:r' = r:=AU.mp m'
     subst this
     exact absurd (by rw [so'.uniq so (.refl _)]) ek
 ·rintro σ H' ⟨v4,v5,kvs,rfl,k',tb',d',i',e',le,al,gt⟩
  rw [AI (by omega)] at gt
  refine ⟨_,rfl,q d kvs H' k' tb' m1 e' ⟨al,fun co ss cnd csub so=>?_⟩⟩
  obtain ⟨ns,mn,hm⟩:=aEQ l1 l4 csub
  have m2:ns.map (atZ zs) ∈ rs.map (·.1):=by rw [told.cos];exact AT.mpr ⟨ns,mn,rfl⟩
  obtain ⟨r,mr,er⟩:=AT.mp m2
  obtain ⟨rnd,rsub⟩:=rok r mr
  have hm':∀ z,z ∈ r.1 ↔ z ∈ co:=fun z=>by rw [er];exact hm z
  have pm:r.1.Perm co:=(List.perm_ext_iff_of_nodup rnd cnd).mpr hm'
  obtain ⟨c,e,l⟩:=gt r mr ss ⟨so.1.trans pm.symm,so.2⟩
  exact ⟨c,e,dC.congr l hm'⟩
open Mt53 Mt22 MtF Mt31 Mt61
theorem pO (key:Nat → Key):∀ i,(dA key i).Nodup
 | 0=>.nil
 | i + 1=>by
  show (if key i ∈ dA key i then dA key i else dA key i ++ [key i]).Nodup
  split
  ·exact pO key i
  ·rename_i h
   exact DD.mpr ⟨pO key i,DT _ _,fun a ha b hb e=>h (by rw [AU.mp hb] at e;exact e ▸ ha)⟩
theorem aHD:∀ l:List Key,(∀ k ∈ l,∃ n,k = Sum.inr n) → ∃ ms:List Str,l = ms.map Sum.inr
 | [],_=>⟨[],rfl⟩
 | k :: l,h=>by
  obtain ⟨n,rfl⟩:=h k AY
  obtain ⟨ms,rfl⟩:=aHD l fun k m=>h k (AV _ m)
  exact ⟨n :: ms,rfl⟩
theorem aGV {ms:List Str} {n:Str}:(Sum.inr n:Key) ∈ ms.map Sum.inr ↔ n ∈ ms:=by
 rw [AT]
 exact ⟨fun ⟨x,m,e⟩=>Dx e ▸ m,fun m=>⟨n,m,rfl⟩⟩
theorem aOV (ns:List Str):∃ ms:List Str,lL (ns.map Sum.inr) = ms.map Sum.inr ∧ ms.Nodup ∧ ms.length ≤ ns.length ∧ ∀ n,n ∈ ms ↔ n ∈ ns:=by
 have mem:∀ k,k ∈ lL (ns.map Sum.inr) ↔ k ∈ (ns.map (Sum.inr:Str → Key)):=fun k=>by
  unfold lL
  rw [vT]
  constructor
  ·rintro ⟨j,hj,rfl⟩
   rw [Aa,AD hj]
   exact Cp hj
  ·intro m
   obtain ⟨j,hj,rfl⟩:=DL m
   exact ⟨j,hj,by rw [Aa,AD hj];rfl⟩
 obtain ⟨ms,e⟩:=aHD (lL (ns.map Sum.inr)) fun k m=>by
  obtain ⟨n,_,rfl⟩:=AT.mp ((mem k).mp m)
  exact ⟨n,rfl⟩
 refine ⟨ms,e,?_,?_,fun n=>?_⟩
 ·have h:(lL (ns.map Sum.inr)).Nodup:=pO _ _
  rw [e] at h
  exact DO.of_map (Sum.inr:Str → Key) (fun a b hn e=>hn (e ▸ rfl)) h
 ·have:=aBF (ns.map (Sum.inr:Str → Key))
  rw [e,AA,AA] at this
  exact this
 ·have:=mem (Sum.inr n)
  rw [e,aGV,aGV] at this
  exact this
theorem aFC {G:List Gap} {a b:List Str} {c d:Int} (h:dC G a c) (h':dC G b d) (sub:∀ z ∈ a,z ∈ b):c ≤ d:=by
 obtain ⟨⟨X,s,w,e⟩,_⟩:=h'
 rw [← e]
 exact h.2 X s fun z m=>w z (sub z m)
theorem aCD {ss:List Str} (h:gF ss ss) (p:Str → Bool):gF (ss.filter p) (ss.filter p):=by
 refine ⟨.refl _,PyProof.Rows.sortedS_of_pairwise _ ?_⟩
 refine DO.imp (fun {a b} q=>?_) (DO.sublist Co (mT h.2))
 rw [PyProof.Rows.ltCps_eq]
 exact decide_eq_false q
structure Comp (zs ss:List Str):Prop where
 nd:ss.Nodup
 sub:∀ z ∈ ss,z ∈ zs
 so:gF ss ss
theorem Comp.len {zs ss:List Str} (h:Comp zs ss) (l4:zs.length ≤ 4):ss.length ≤ 4:=BB (pP h.nd h.sub) l4
theorem aLW {t:Hp → Prop} {H0:Hp} (A:Hp → Prop) (h0:A H0) (h:∀ H,A H → t H):t H0:=h H0 h0
def uM:Sp:=sp3 fun x y u H Q=>∃ (d a b:Addr) (kvs:List (List Key × V)) (V0:List Str) (G:List Gap) (zs s1 s2:List Str),x = .ref d ∧ Rd H d (.dT kvs) ∧ y = .ref a ∧ H a = some (.tup (s1.map V.str)) ∧ u = .ref b ∧ H b = some (.tup (s2.map V.str)) ∧ CostD G zs kvs ∧ Gaps V0 G ∧ zs.length ≤ 4 ∧ Comp zs s1 ∧ Comp zs s2 ∧
 ∀ H',aI H H' → Q (.bl true) H'
theorem aKN {H H':Hp} (S:aI H H') {d:Addr} {u:HO} (r:Rd H d u):Rd H' d u:=r.imp (S _ _) fun ⟨o,e⟩=>⟨o,S _ _ e⟩
theorem dB {H:Hp} {d b:Addr} {kvs:List (List Key × V)} {ss:List Str} {c:Int} (r:Rd H d (.dT kvs)) (hb:H b = some (.tup (ss.map V.str))) (e:dJ kvs (lE ss) = some (.int c)):sL H d (.ref b) (some (.int c)) :=
 .inr ⟨kvs,lE ss,b,r,rfl,by rw [hb,wC],e.symm⟩
theorem xK (T:Txt K mg C):Fc P w K mg base 2 "_law_together" ["_law_costs_here","_law_one","_law_other"] uM:=by
 refine T.d_l_together.fc iJ qP (fun f cdv A outer s H vs Q E hr h=>?_)
 obtain ⟨x,y,u,rfl,d,a,b,kvs,V0,G,zs,s1,s2,rfl,rd,rfl,ha,rfl,hb,CD,GG,l4,k1,k2,q⟩:=h
 have big:=bP
 have hu:=lG hr
 have n1:=k1.len l4
 have n2:=k2.len l4
 refine ⟨_,(@aG _ _ _ _ _ (@aZ _ _ (3) _ _ _ _ iJ.nd rfl (Or.inl rfl) (@bH _ _ _ _ _ _ _ _ _ eK rfl T.n_tuple fF (@aA _ _ _ _ _ (@aV _ _ _ _ _ _ _ _ _ (@sG _ rfl) rfl T.n_sorted fJ (@aA _ _ _ _ _ (@bH _ _ _ _ _ _ _ _ _ (@wU _ rfl) rfl T.n_set sI (@aA _ _ _ _ _ (@aL _ _ _ _ _ _ _ _ lZ (@bH _ _ _ _ _ _ _ _ _ (@eL _ (K) rfl) rfl T.n_list cM (@aA _ _ _ _ _ (pv 1) aE (by rfl)) (by decide) (by decide) (by rfl) (by rfl)) (@bH _ _ _ _ _ _ _ _ _ (@eL _ (K) rfl) rfl T.n_list cM (@aA _ _ _ _ _ (pv 2) aE (by rfl)) (by decide) (by decide) (by rfl) (by rfl))) aE (by rfl)) (by decide) (by decide) (by rfl) (by rfl)) aE (by rfl)) (by decide) (by decide) (by rfl) (by rfl)) aE (by rfl)) (by decide) (by decide) (by rfl) (by rfl)) (by rfl) (by trivial)) (@aG _ _ _ _ _ (@aZ _ _ (4) _ _ _ _ iJ.nd rfl (Or.inl rfl) (@bH _ _ _ _ _ _ _ _ _ eK rfl T.n_tuple fF (@aA _ _ _ _ _ (@cB _ _ _ _ _ _ _ _ _ _ _ ["_law_name","_law_other"] 1 [2] rfl (@aKV _ _ _ _ (pv 1)) (fun R=>@aU _ _ (0) _ (show Au (["_law_name","_law_other"]:List Str) by decide +kernel) rfl (Or.inl rfl) (by trivial)) (@aX _ _ (by decide)) (fun R=>@fW _ _ _ (@cA _ _ _ _ _ _ _ _ (@jU _ (K) rfl) (pv 0) (pv 1) (by with_unfolding_all rfl))) (fun R=>(pv 0)) (by rfl) (by rfl) (by rfl) (by rfl) (by rfl) (by rfl) (by rfl) (by intro _;rfl)) aE (by rfl)) (by decide) (by decide) (by rfl) (by rfl)) (by rfl) (by trivial)) (@aG _ _ _ _ _ (@fB _ _ _ _ _ _ _ _ (@PW.pt _ _ _ (@nF _ _ _ _ _ _ _ (@cA _ _ _ _ _ _ _ _ qI (@aV _ _ _ _ _ _ _ _ _ (@bE _ (K) rfl) rfl T.n_len bN (@aA _ _ _ _ _ (pv 4) aE (by rfl)) (by decide) (by decide) (by rfl) (by rfl)) (@aV _ _ _ _ _ _ _ _ _ (@bE _ (K) rfl) rfl T.n_len bN (@aA _ _ _ _ _ (pv 1) aE (by rfl)) (by decide) (by decide) (by rfl) (by rfl)) (@bQ _ _ (by decide) (by decide))) (@lT _ _ _ _ (@cA _ _ _ _ _ _ _ _ aCR (@cJ _ _ _ _ _ _ hu (pv 0) (pv 1) (fun _ _=>rfl)) (@cJ _ _ _ _ _ _ hu (pv 0) (pv 2) (fun _ _=>rfl)) (@bQ _ _ (by decide) (by decide)))))) (@aH _ _ _ (@aQ _ _ _ _ oZ)) cE) (@aG _ _ _ _ _ (@aZ _ _ (5) _ _ _ _ iJ.nd rfl (Or.inl rfl) (@aL _ _ _ _ _ _ _ _ cQ (@cJ _ _ _ _ _ _ hu (pv 0) (pv 1) (fun _ _=>rfl)) (@cJ _ _ _ _ _ _ hu (pv 0) (pv 2) (fun _ _=>rfl))) (by rfl) (by trivial)) (@aH _ _ _ (@aQ _ _ _ _ (@dG _ _ _ _ _ _ _ _ aLE (pv 5) (@aL _ _ _ _ _ _ _ _ cQ (@cJ _ _ _ _ _ _ hu (pv 0) (pv 3) (fun _ _=>rfl)) (@cJ _ _ _ _ _ _ hu (pv 0) (pv 4) (fun _ _=>rfl))) (@bQ _ _ (by decide) (by decide))))))))),?_⟩
 refine ⟨_,rfl,a,_,rfl,.inr (SqT.of ha),fun l1 m1=>?_⟩
 have S1:=aI.upd (o:=.lst (s1.map V.str)) m1
 have r1:upd H l1 (.lst (s1.map V.str)) l1 = some (.lst (s1.map V.str)):=aD
 generalize upd H l1 (.lst (s1.map V.str)) = H1 at S1 r1
 refine ⟨_,rfl,b,_,rfl,.inr (SqT.of (S1 _ _ hb)),fun l2 m2=>?_⟩
 have S2:=aI.upd (o:=.lst (s2.map V.str)) m2
 have r2:upd H1 l2 (.lst (s2.map V.str)) l2 = some (.lst (s2.map V.str)):=aD
 generalize upd H1 l2 (.lst (s2.map V.str)) = H2 at S2 r2
 refine ⟨l1,l2,_,_,rfl,rfl,S2 _ _ r1,r2,by rw [AA,AA];omega,fun l3 m3=>?_⟩
 have S3:=aI.upd (o:=.lst (s1.map V.str ++ s2.map V.str)) m3
 have r3:upd H2 l3 (.lst (s1.map V.str ++ s2.map V.str)) l3 = some (.lst ((lE (s1 ++ s2)).map kV)):=by rw [aD,wC,AW]
 generalize upd H2 l3 (.lst (s1.map V.str ++ s2.map V.str)) = H3 at S3 r3
 obtain ⟨ms,em,mnd,ml,mm⟩:=aOV (s1 ++ s2)
 rw [Ag] at ml
 refine ⟨l3,lE (s1 ++ s2),rfl,SqL.of r3,by unfold lE;rw [AA,Ag];omega,fun l5 m5=>?_⟩
 have ek:lL (lE (s1 ++ s2)) = ms.map Sum.inr:=em
 rw [ek]
 refine ⟨l5,ms,rfl,aD,by omega,fun l6 se so6 m6=>?_⟩
 refine aLW (fun H6=>aI H3 H6 ∧ H6 l6 = some (.lst (se.map V.str))) ⟨(aI.upd m5).trans (aI.upd m6),aD⟩ fun H6 ⟨S6,r6⟩=>?_
 refine ⟨l6,_,rfl,.inl ⟨SqL.of r6,fun t7 m7=>?_⟩⟩
 have S7:=aI.upd (o:=.tup (se.map V.str)) m7
 have r7:upd H6 t7 (.tup (se.map V.str)) t7 = some (.tup (se.map V.str)):=aD
 generalize upd H6 t7 (.tup (se.map V.str)) = H7 at S7 r7
 have T7:=S1.trans (S2.trans (S3.trans (S6.trans S7)))
 refine gσ (σ':=[some (.ref d),some (.ref a),some (.ref b),some (.ref t7),none,none]) rfl ?_
 have ha7:=T7 _ _ ha
 have hb7:=T7 _ _ hb
 refine ⟨_,rfl,a,rfl,⟨_,SqT.of ha7⟩,?_⟩
 refine aDN (F:=K) (xs:=s1.map V.str) (by rw [AA];omega) (fun i ys H'=>H7 = H' ∧ ys = ((s1.take i).filter fun z=>decide (z ∈ s2)).map V.str) ⟨rfl,rfl⟩ ?_ ?_ ?_
 ·rintro i ys H' hi ⟨rfl,rfl⟩
  have:=BC (fun z:Str=>decide (z ∈ s2)) (s1.take i)
  rw [AZ] at this
  exact ⟨SqT.of ha7,by rw [AA];omega⟩
 ·rintro i xv ys H' K1 K2 hx' ⟨rfl,rfl⟩ k1 k2
  rw [AR] at hx'
  obtain ⟨z,ez,rfl⟩:=Ay.mp hx'
  have et:=iH (P:=fun z:Str=>decide (z ∈ s2)) ez
  refine ⟨_,rfl,_,rfl,b,_,rfl,.inr (SqT.of hb7),rfl,iF s2,_,rfl,?_⟩
  rw [if_neg Ab,mG]
  cases hg:decide (z ∈ s2) with
  | false =>
   rw [hg] at et
   exact bO (k2 _ ⟨rfl,by rw [et];simp⟩)
  | true =>
   rw [hg] at et
   exact dL ⟨_,rfl,k1 _ _ ⟨rfl,by rw [et,if_pos rfl,AW];rfl⟩⟩
 rintro ys H' ⟨rfl,rfl⟩
 rw [AA,AI (AL _)]
 intro l8 m8
 have S8:=aI.upd (o:=.lst ((s1.filter fun z=>decide (z ∈ s2)).map V.str)) m8
 have r8:upd H7 l8 (.lst ((s1.filter fun z=>decide (z ∈ s2)).map V.str)) l8 = some (.lst ((s1.filter fun z=>decide (z ∈ s2)).map V.str)):=aD
 generalize upd H7 l8 (.lst ((s1.filter fun z=>decide (z ∈ s2)).map V.str)) = H8 at S8 r8
 refine ⟨l8,_,rfl,.inl ⟨SqL.of r8,fun t9 m9=>?_⟩⟩
 have S9:=aI.upd (o:=.tup ((s1.filter fun z=>decide (z ∈ s2)).map V.str)) m9
 have r9:upd H8 t9 (.tup ((s1.filter fun z=>decide (z ∈ s2)).map V.str)) t9 = some (.tup ((s1.filter fun z=>decide (z ∈ s2)).map V.str)):=aD
 generalize upd H8 t9 (.tup ((s1.filter fun z=>decide (z ∈ s2)).map V.str)) = H9 at S9 r9
 have T9:=T7.trans (S8.trans S9)
 refine gσ (σ':=[some (.ref d),some (.ref a),some (.ref b),some (.ref t7),some (.ref t9),none]) rfl ?_
 have rd9:=aKN T9 rd
 have ha9:=T9 _ _ ha
 have hb9:=T9 _ _ hb
 have re9:=(S8.trans S9) _ _ r7
 obtain ⟨c1,e1,p1⟩:=CD.get s1 s1 k1.nd k1.sub k1.so
 obtain ⟨c2,e2,p2⟩:=CD.get s2 s2 k2.nd k2.sub k2.so
 obtain ⟨c3,e3,p3⟩:=CD.get ms se mnd (fun z m=>by rcases Ak.mp ((mm z).mp m) with h | h;exact k1.sub z h;exact k2.sub z h) so6
 obtain ⟨c4,e4,p4⟩:=CD.get (s1.filter fun z=>decide (z ∈ s2)) _ (CU Co k1.nd) (fun z m=>k1.sub z (Ar.mp m).1) (aCD k1.so _)
 have fin:=pQ GG (fun z m=>Ak.mp ((mm z).mp m)) (fun z m=>⟨(Ar.mp m).1,of_decide_eq_true (Ar.mp m).2⟩) p1 p2 p3 p4
 refine ⟨_,rfl,t9,_,rfl,.inr (SqT.of r9),_,rfl,a,_,rfl,.inr (SqT.of ha9),rfl,_,rfl,?_⟩
 refine jY (fun hc=>?_) (fun _=>?_)
 ·have hlen:(s1.filter fun z=>decide (z ∈ s2)).length = s1.length:=by
   have:=V.int.inj (of_decide_eq_true hc)
   rw [AA,AA] at this
   omega
  have c12:c1 ≤ c2:=aFC p1 p2 fun z m=>by
   have e:=Ec.eq_of_length (Co (p:=fun z=>decide (z ∈ s2)) (l:=s1)) hlen
   rw [← e] at m
   exact of_decide_eq_true (Ar.mp m).2
  refine ⟨_,rfl,_,rfl,d,.int c1,rfl,dB rd9 ha9 e1,_,rfl,_,rfl,d,.int c2,rfl,dB rd9 hb9 e2,_,_,rfl,rfl,_,rfl,?_⟩
  rw [decide_eq_false (by omega)]
  refine bO ?_
  refine ⟨_,rfl,_,rfl,d,.int c1,rfl,dB rd9 ha9 e1,_,rfl,_,rfl,d,.int c2,rfl,dB rd9 hb9 e2,_,_,rfl,rfl,?_⟩
  refine gσ (σ':=[some (.ref d),some (.ref a),some (.ref b),some (.ref t7),some (.ref t9),some (.int (c1 + c2))]) rfl ?_
  refine ⟨_,rfl,_,rfl,_,rfl,d,.int c3,rfl,dB rd9 re9 e3,_,rfl,_,rfl,d,.int c4,rfl,dB rd9 r9 e4,_,_,rfl,rfl,_,_,rfl,rfl,?_⟩
  show Q (.bl (decide (c3 + c4 ≤ c1 + c2))) H9
  rw [decide_eq_true fin]
  exact q H9 T9
 ·refine bO ?_
  refine ⟨_,rfl,_,rfl,d,.int c1,rfl,dB rd9 ha9 e1,_,rfl,_,rfl,d,.int c2,rfl,dB rd9 hb9 e2,_,_,rfl,rfl,?_⟩
  refine gσ (σ':=[some (.ref d),some (.ref a),some (.ref b),some (.ref t7),some (.ref t9),some (.int (c1 + c2))]) rfl ?_
  refine ⟨_,rfl,_,rfl,_,rfl,d,.int c3,rfl,dB rd9 re9 e3,_,rfl,_,rfl,d,.int c4,rfl,dB rd9 r9 e4,_,_,rfl,rfl,_,_,rfl,rfl,?_⟩
  show Q (.bl (decide (c3 + c4 ≤ c1 + c2))) H9
  rw [decide_eq_true fin]
  exact q H9 T9
def aEI:Sp:=fun vs H Q _=>∃ (x y u v:V) (d a b:Addr) (kvs:List (List Key × V)) (V0:List Str) (G:List Gap) (zs s1 s2:List Str) (z:Str),vs = [x,y,u,v] ∧ x = .ref d ∧ Rd H d (.dT kvs) ∧ y = .ref a ∧ H a = some (.tup (s1.map V.str)) ∧ u = .ref b ∧ H b = some (.tup (s2.map V.str)) ∧ v = .str z ∧ CostD G zs kvs ∧ Gaps V0 G ∧ zs.length ≤ 4 ∧ Comp zs s1 ∧ Comp zs s2 ∧ (∀ z ∈ s1,z ∈ s2) ∧ z ∈ zs ∧ z ∉ s2 ∧
 ∀ H',aI H H' → Q (.bl true) H'
theorem aOJ:∀ vs H Q E,aEI vs H Q E → vs.length = 4:=fun vs H Q E ⟨x,y,u,v,d,a,b,kvs,V0,G,zs,s1,s2,z,e,_⟩=>by rw [e];rfl
theorem aIB (T:Txt K mg C):Fc P w K mg base 2 "_law_adds" ["_law_costs_here","_law_one","_law_other","_law_name"] aEI:=by
 refine T.d_l_adds.fc yC aOJ (fun f cdv A outer s H vs Q E hr h=>?_)
 obtain ⟨x,y,u,v,d,a,b,kvs,V0,G,zs,s1,s2,z,rfl,rfl,rd,rfl,ha,rfl,hb,rfl,CD,GG,l4,k1,k2,s12,mz,nz,q⟩:=h
 have big:=bP
 have hu:=lG hr
 have n1:=k1.len l4
 have n2:=k2.len l4
 refine ⟨_,(@aG _ _ _ _ _ (@aZ _ _ (4) _ _ _ _ yC.nd rfl (Or.inl rfl) (@aL _ _ _ _ _ _ _ _ iY (@cJ _ _ _ _ _ _ hu (pv 0) (@bH _ _ _ _ _ _ _ _ _ eK rfl T.n_tuple fF (@aA _ _ _ _ _ (@aV _ _ _ _ _ _ _ _ _ fI rfl T.n_sorted fJ (@aA _ _ _ _ _ (@aL _ _ _ _ _ _ _ _ lZ (@bH _ _ _ _ _ _ _ _ _ (@eL _ (K) rfl) rfl T.n_list cM (@aA _ _ _ _ _ (pv 1) aE (by rfl)) (by decide) (by decide) (by rfl) (by rfl)) (@fC _ _ _ _ (@aA _ _ _ _ _ (pv 3) aE (by rfl)))) aE (by rfl)) (by decide) (by decide) (by rfl) (by rfl)) aE (by rfl)) (by decide) (by decide) (by rfl) (by rfl)) (fun _ _=>rfl)) (@cJ _ _ _ _ _ _ hu (pv 0) (pv 1) (fun _ _=>rfl))) (by rfl) (by trivial)) (@aH _ _ _ (@aQ _ _ _ _ (@dG _ _ _ _ _ _ _ _ qH (@aL _ _ _ _ _ _ _ _ iY (@cJ _ _ _ _ _ _ hu (pv 0) (@bH _ _ _ _ _ _ _ _ _ eK rfl T.n_tuple fF (@aA _ _ _ _ _ (@aV _ _ _ _ _ _ _ _ _ fI rfl T.n_sorted fJ (@aA _ _ _ _ _ (@aL _ _ _ _ _ _ _ _ lZ (@bH _ _ _ _ _ _ _ _ _ (@eL _ (K) rfl) rfl T.n_list cM (@aA _ _ _ _ _ (pv 2) aE (by rfl)) (by decide) (by decide) (by rfl) (by rfl)) (@fC _ _ _ _ (@aA _ _ _ _ _ (pv 3) aE (by rfl)))) aE (by rfl)) (by decide) (by decide) (by rfl) (by rfl)) aE (by rfl)) (by decide) (by decide) (by rfl) (by rfl)) (fun _ _=>rfl)) (@cJ _ _ _ _ _ _ hu (pv 0) (pv 2) (fun _ _=>rfl))) (pv 4) (@bQ _ _ (by decide) (by decide)))))),?_⟩
 have join:∀ {ss:List Str},Comp zs ss → z ∉ ss → (ss ++ [z]).Nodup ∧ ∀ y ∈ ss ++ [z],y ∈ zs:=fun {ss} k n=>⟨DD.mpr ⟨k.nd,DT _ _,fun p hp r hr e=>n (by rw [AU.mp hr] at e;exact e ▸ hp)⟩,fun y m=>by
  rcases Ak.mp m with m | m
  ·exact k.sub y m
  ·rw [AU.mp m];exact mz⟩
 obtain ⟨j1,j1s⟩:=join k1 fun m=>nz (s12 z m)
 obtain ⟨j2,j2s⟩:=join k2 nz
 obtain ⟨c1,e1,p1⟩:=CD.get s1 s1 k1.nd k1.sub k1.so
 obtain ⟨c2,e2,p2⟩:=CD.get s2 s2 k2.nd k2.sub k2.so
 refine ⟨_,rfl,_,rfl,a,_,rfl,.inr (SqT.of ha),fun la ma=>?_⟩
 have S1:=aI.upd (o:=.lst (s1.map V.str)) ma
 have r1:upd H la (.lst (s1.map V.str)) la = some (.lst (s1.map V.str)):=aD
 generalize upd H la (.lst (s1.map V.str)) = H1 at S1 r1
 refine ⟨_,rfl,aY rfl,fun lb mb=>?_⟩
 have S2:=aI.upd (o:=.lst [.str z]) mb
 have r2:upd H1 lb (.lst [.str z]) lb = some (.lst [.str z]):=aD
 generalize upd H1 lb (.lst [.str z]) = H2 at S2 r2
 refine ⟨la,lb,_,_,rfl,rfl,S2 _ _ r1,r2,by rw [AA];show _ + 1 ≤ _;omega,fun lc mc=>?_⟩
 have S3:=aI.upd (o:=.lst (s1.map V.str ++ [.str z])) mc
 have r3:upd H2 lc (.lst (s1.map V.str ++ [.str z])) lc = some (.lst ((s1 ++ [z]).map V.str)):=by rw [aD,AW];rfl
 generalize upd H2 lc (.lst (s1.map V.str ++ [.str z])) = H3 at S3 r3
 refine ⟨lc,s1 ++ [z],rfl,SqL.of r3,by rw [Ag,CL];omega,fun ld se so md=>?_⟩
 have S4:=aI.upd (o:=.lst (se.map V.str)) md
 have r4:upd H3 ld (.lst (se.map V.str)) ld = some (.lst (se.map V.str)):=aD
 generalize upd H3 ld (.lst (se.map V.str)) = H4 at S4 r4
 refine ⟨ld,_,rfl,.inl ⟨SqL.of r4,fun t5 m5=>?_⟩⟩
 have S5:=aI.upd (o:=.tup (se.map V.str)) m5
 have r5:upd H4 t5 (.tup (se.map V.str)) t5 = some (.tup (se.map V.str)):=aD
 generalize upd H4 t5 (.tup (se.map V.str)) = H5 at S5 r5
 have T5:=S1.trans (S2.trans (S3.trans (S4.trans S5)))
 obtain ⟨c3,e3,p3⟩:=CD.get (s1 ++ [z]) se j1 j1s so
 have rd5:=aKN T5 rd
 refine ⟨d,.int c3,rfl,dB rd5 r5 e3,_,rfl,_,rfl,d,.int c1,rfl,dB rd5 (T5 _ _ ha) e1,_,_,rfl,rfl,?_⟩
 refine gσ (σ':=[some (.ref d),some (.ref a),some (.ref b),some (.str z),some (.int (c3 - c1))]) rfl ?_
 have hb5:=T5 _ _ hb
 refine ⟨_,rfl,_,rfl,b,_,rfl,.inr (SqT.of hb5),fun la ma=>?_⟩
 have S6:=aI.upd (o:=.lst (s2.map V.str)) ma
 have r6:upd H5 la (.lst (s2.map V.str)) la = some (.lst (s2.map V.str)):=aD
 generalize upd H5 la (.lst (s2.map V.str)) = H6 at S6 r6
 refine ⟨_,rfl,aY rfl,fun lb mb=>?_⟩
 have S7:=aI.upd (o:=.lst [.str z]) mb
 have r7:upd H6 lb (.lst [.str z]) lb = some (.lst [.str z]):=aD
 generalize upd H6 lb (.lst [.str z]) = H7 at S7 r7
 refine ⟨la,lb,_,_,rfl,rfl,S7 _ _ r6,r7,by rw [AA];show _ + 1 ≤ _;omega,fun lc mc=>?_⟩
 have S8:=aI.upd (o:=.lst (s2.map V.str ++ [.str z])) mc
 have r8:upd H7 lc (.lst (s2.map V.str ++ [.str z])) lc = some (.lst ((s2 ++ [z]).map V.str)):=by rw [aD,AW];rfl
 generalize upd H7 lc (.lst (s2.map V.str ++ [.str z])) = H8 at S8 r8
 refine ⟨lc,s2 ++ [z],rfl,SqL.of r8,by rw [Ag,CL];omega,fun ld sf so' md=>?_⟩
 have S9:=aI.upd (o:=.lst (sf.map V.str)) md
 have r9:upd H8 ld (.lst (sf.map V.str)) ld = some (.lst (sf.map V.str)):=aD
 generalize upd H8 ld (.lst (sf.map V.str)) = H9 at S9 r9
 refine ⟨ld,_,rfl,.inl ⟨SqL.of r9,fun t6 m6=>?_⟩⟩
 have SA:=aI.upd (o:=.tup (sf.map V.str)) m6
 have rA:upd H9 t6 (.tup (sf.map V.str)) t6 = some (.tup (sf.map V.str)):=aD
 generalize upd H9 t6 (.tup (sf.map V.str)) = HA at SA rA
 have TA:=S6.trans (S7.trans (S8.trans (S9.trans SA)))
 obtain ⟨c4,e4,p4⟩:=CD.get (s2 ++ [z]) sf j2 j2s so'
 have rdA:=aKN TA rd5
 have fin:=pQ GG (one:=s1 ++ [z]) (other:=s2) (either:=s2 ++ [z]) (both:=s1) (fun y m=>by
  rcases Ak.mp m with m | m
  ·exact .inr m
  ·exact .inl (Aj _ m)) (fun y m=>⟨CA _ m,s12 y m⟩) p3 p2 p4 p1
 refine ⟨d,.int c4,rfl,dB rdA rA e4,_,rfl,_,rfl,d,.int c2,rfl,dB rdA (TA _ _ hb5) e2,_,_,rfl,rfl,_,rfl,_,_,rfl,rfl,?_⟩
 show Q (.bl (decide (c4 - c2 ≤ c3 - c1))) HA
 rw [decide_eq_true (by omega)]
 exact q HA (T5.trans TA)
open Mt53 Mt22 MtF Mt31 Mt61
theorem sE (xs:List V) (k:Nat):wO xs none (some (k:Int)) = xs.take k:=by
 unfold wO
 rw [HT.sIx_nat,HT.sIx_none,Eu,Nat.sub_zero]
 by_cases h:k ≤ xs.length
 ·rw [Em h]
 ·rw [Nat.min_eq_right (by omega),AI (AL _),AI (by omega)]
theorem aMP {fs:List Dv} {L1 L2:Int} (hL:L1 ≤ L2) (X:Str → Bool) {zs:List Str}:∀ ds:List Dv,(∀ d ∈ ds,cL zs d = true) → cut (aW fs ds L1) X ≤ cut (aW fs ds L2) X
 | [],_=>EI _
 | d :: ds,h=>by
  have ih:=aMP (fs:=fs) hL X ds fun d m=>h d (AV _ m)
  obtain ⟨n,a,b,c,r,s,rfl,_,_,_,_,_,hr,_⟩:=bJ (h d AY)
  have r0:=(aMW hr).1
  have one:∀ L:Int,cut (aW fs (.tup [.str n,.str a,.str b,.int c,.int r,s] :: ds) L) X = (if isG fs L (.tup [.str n,.str a,.str b,.int c,.int r,s]) = true then (if X a = X b then 0 else r * (L - c)) else 0) + cut (aW fs ds L) X:=fun L=>by
   unfold aW cut
   rw [EV]
   split
   ·rw [Ac,bK]
    rfl
   ·rw [Da]
  rw [one L1,one L2]
  have low:∀ z,nM fs L1 z = true → nM fs L2 z = true:=fun z q=>by
   unfold nM at q ⊢
   rw [Bool.or_eq_true] at q ⊢
   rcases q with q | q
   ·exact .inl q
   ·exact .inr (decide_eq_true (by have:=of_decide_eq_true q;omega))
  have eG:∀ L,isG fs L (.tup [.str n,.str a,.str b,.int c,.int r,s]) = (decide (c < L) && (nM fs L a && nM fs L b)):=fun _=>rfl
  have up:isG fs L1 (.tup [.str n,.str a,.str b,.int c,.int r,s]) = true → isG fs L2 (.tup [.str n,.str a,.str b,.int c,.int r,s]) = true:=fun q=>by
   rw [eG,Ae,Ae] at q ⊢
   exact ⟨decide_eq_true (by have:=of_decide_eq_true q.1;omega),low a q.2.1,low b q.2.2⟩
  have m1:r * (L1 - c) ≤ r * (L2 - c):=Int.mul_le_mul_of_nonneg_left (by omega) r0
  by_cases g1:isG fs L1 (.tup [.str n,.str a,.str b,.int c,.int r,s]) = true
  ·rw [if_pos g1,if_pos (up g1)]
   split <;> omega
  ·rw [if_neg g1]
   by_cases g2:isG fs L2 (.tup [.str n,.str a,.str b,.int c,.int r,s]) = true
   ·rw [if_pos g2]
    rw [eG,Ae] at g2
    have c2:=of_decide_eq_true g2.1
    have m2:0 ≤ r * (L2 - c):=Fj r0 (by omega)
    split <;> omega
   ·rw [if_neg g2]
    omega
theorem aLK {fs ds:List Dv} {L1 L2:Int} (hL:L1 ≤ L2) {zs ss:List Str} (gd:GoodD zs ds) {c1 c2:Int} (h1:dC (aW fs ds L1) ss c1) (h2:dC (aW fs ds L2) ss c2):c1 ≤ c2:=by
 obtain ⟨⟨X,s,w,e⟩,_⟩:=h2
 have a:=h1.2 X s w
 have b:=aMP (fs:=fs) hL X ds gd.all
 omega
theorem aQZ (zs ys:List Str):deq (.lst (zs.map Dv.str)) (.lst (ys.map Dv.str)) = decide (zs = ys):=by
 show qV (zs.map Dv.str) (ys.map Dv.str) = _
 induction zs generalizing ys with
 | nil=>cases ys <;> rfl
 | cons z zs ih =>
  cases ys with
  | nil=>rfl
  | cons y ys =>
   show (decide (z = y) && qV (zs.map Dv.str) (ys.map Dv.str)) = _
   rw [ih ys]
   by_cases h1:z = y <;> by_cases h2:zs = ys <;> simp [h1,h2]
theorem aMB (zs:List Str):bA 30 (.lst (zs.map Dv.str)) = true:=by
 rw [bA]
 exact wJ fun d m=>by
  obtain ⟨z,_,rfl⟩:=AT.mp m
  rfl
theorem aOK {d:Addr} {H H':Hp} {kvs:List (List Key × V)} (k:eP d H H') (hd:H d = some (.dT kvs)) {x:Addr} {fs ds:List Dv} (h:LandAt C H x fs ds):LandAt C H' x fs ds:=by
 have D:wZ H H':=fun b o e di=>k b o (fun z=>by rw [z,hd] at e;cases e;cases di) e
 have tb:∀ {a:Addr} {ds:List Dv},oG H a ds → oG H' a ds:=fun ⟨kvs,e,k1,i⟩=>⟨kvs,D _ _ e rfl,k1,IsL.sameD D _ _ i⟩
 obtain ⟨⟨dx,d1,d2,e,t1,t2⟩,a,b⟩:=h
 exact ⟨⟨dx,d1,d2,k _ _ (fun z=>by rw [z,hd] at e;cases e) e,tb t1,tb t2⟩,a,b⟩
theorem aNK {Tb:Addr} {H H':Hp} (k:eP Tb H H') (t:oW Tb H) {a:Addr} {xs:List V} (h:SqL K H a xs):SqL K H' a xs:=by
 obtain ⟨ps,eT,_⟩:=t
 rcases h with h | h
 ·refine .inl (h.imp (fun e=>k _ _ (fun z=>?_) e) fun ⟨o,e⟩=>⟨o,k _ _ (fun z=>?_) e⟩)
  ·rw [z,eT] at e;cases e
  ·rw [z,eT] at e;cases e
 ·exact .inr h
theorem gσI {i:Nat} {a b:Int} {σ σ':L2.St} {H:Hp} {Q:L2.St → Hp → Prop} (e0:a = b) (e:σ.set i (some (.int b)) = σ') (h:Q σ' H):wG i (.int a) σ H Q:=by
 subst e0
 exact gσ e h
theorem aKG {a1 a2 a3 a4 a5 a6 b:TS} {D:Ends} {σ:L2.St} {H:Hp} (h:∀ u:TS,(∀ D' σ' H',b D' σ' H' → u D' σ' H') → kK a1 (kK a2 (kK a3 (kK a4 (kK a5 (kK a6 u))))) D σ H):kK a1 (kK a2 (kK a3 (kK a4 (kK a5 (kK a6 b))))) D σ H:=h b fun _ _ _ x=>x
theorem aQM {f:Addr} {fd:Bz} (T:Txt K mg C) {c Tb:Addr} (B:TabB K mg base "lists_of_places" c Tb) (F:Fun K "law" "law" oK f fd):FnOk P w K mg base CX0 12 f fd ["_law_script"] (zT K Tb):=by
 have G_l_small:Fc P w K mg base 3 "_law_small" ["_law_script"] (aGB K):=aEW T
 have G_l_cell_at:Fc P w K mg base 1 "_law_cell_at" ["_law_script","_law_k"] (uO K):=jF T
 have G_l_mixed:Fc P w K mg base 1 "_law_mixed" ["_law_cell","_law_k"] pY:=pN T
 have G_l_high:Fc P w K mg base 1 "_law_high" ["_law_number"] zU:=rP T
 have G_l_costs:Fc P w K mg base 9 "_law_costs" ["_law_land","_law_wish","_law_height"] (aGH C Tb):=aEY T B
 have G_p_fewest:Fc P w K mg base 6 "fewest" ["land","fields","height"] (uN C):=sU T
 have G_l_together:Fc P w K mg base 2 "_law_together" ["_law_costs_here","_law_one","_law_other"] uM:=xK T
 have G_l_adds:Fc P w K mg base 2 "_law_adds" ["_law_costs_here","_law_one","_law_other","_law_name"] aEI:=aIB T
 have G_p_saved:Fc P w K mg base 8 "saved" ["land","one","other","height"] (zR C):=aEU T
 have G_land_pinit:Ic P w K mg base 6 C ["self","fields","dykes"] (aJT C):=xJ T
 refine F.ok dE oV (fun cdv A outer s H vs Q E hr h=>?_)
 obtain ⟨x,rfl,a,ns,rfl,hS,hl,eT,q⟩:=h
 have big:=bP
 have hu:=lG hr
 have scr:Scr K H (.ref a):=⟨a,ns,rfl,hS,hl⟩
 refine ⟨_,(@aG _ _ _ _ _ (@aAK _ _ _ _ _ _ (@bF _ _ _ _ _ _ _ _ _ _ G_l_small (hr.mono (by decide)) (@aA _ _ _ _ _ (pv 0) aE (by rfl)) (by rfl) (by decide) (by rfl) (by rfl)) (@vG _ _ _ _ _ _ rfl (@fX _ _ _ _ _ (@aU _ _ (1) _ dE.nd rfl (Or.inl rfl) (by trivial)) (@fX _ _ _ _ _ (@aU _ _ (2) _ dE.nd rfl (Or.inl rfl) (by trivial)) qF (by rfl)) (by rfl)) (by rfl) (by rfl)) (by rfl) (by rfl) (by rfl)) (@aG _ _ _ _ _ (@aZ _ _ (3) _ _ _ _ dE.nd rfl (Or.inl rfl) (@aRZ _ _ _ _ _ _ _ _ _ _ _ T.mg_Land G_land_pinit (hr.mono (by decide)) (@aA _ _ _ _ _ (pv 1) (@aA _ _ _ _ _ (pv 2) aE (by rfl)) (by rfl)) (by rfl) (by decide) (by rfl) (by rfl)) (by rfl) (by trivial)) (@aG _ _ _ _ _ (@jS _ (4) _ _ _ _ _ _ _ _ _ _ _ _ _ dE.nd rfl ["_law_field"] 1 [] rfl (@bT _ _ _ _ (pv 1)) (fun R=>@aU _ _ (0) _ (show Au (["_law_field"]:List Str) by decide +kernel) rfl (Or.inl rfl) (by trivial)) (@aX _ _ (by decide)) (fun R=>cF) (fun R=>(@bD _ _ _ _ _ _ _ (@aS _ (K) rfl) (pv 0) aF (fun _ _=>rfl))) (by exact Or.inl rfl) (by trivial) (by rfl) (by rfl) (by rfl) (by rfl) (by rfl) (by rfl) (by rfl) (by rfl) (by intro _;rfl)) (@aG _ _ _ _ _ (@aZ _ _ (5) _ _ _ _ dE.nd rfl (Or.inl rfl) (@aL _ _ _ _ _ _ _ _ cO (@bF _ _ _ _ _ _ _ _ _ _ G_l_cell_at (hr.mono (by decide)) (@aA _ _ _ _ _ (pv 0) (@aA _ _ _ _ _ aF aE (by rfl)) (by rfl)) (by rfl) (by decide) (by rfl) (by rfl)) (@aV _ _ _ _ _ _ _ _ _ (@bE _ (K) rfl) rfl T.n_len bN (@aA _ _ _ _ _ (pv 4) aE (by rfl)) (by decide) (by decide) (by rfl) (by rfl))) (by rfl) (by trivial)) (@aG _ _ _ _ _ (@aZ _ _ (6) _ _ _ _ dE.nd rfl (Or.inl rfl) (@jT _ _ _ _ _ _ _ _ _ _ (@mU _ (K) rfl) (@aL _ _ _ _ _ _ _ _ lZ (@jT _ _ _ _ _ _ _ _ _ _ (@mU _ (K) rfl) (pv 4) (@lU _ _ _ (pv 5)) lW) (@jT _ _ _ _ _ _ _ _ _ _ (@mU _ (K) rfl) (pv 4) lW (@lU _ _ _ (pv 5)))) lW (@lU _ _ _ aF)) (by rfl) (by trivial)) (@aG _ _ _ _ _ (@aZ _ _ (7) _ _ _ _ dE.nd rfl (Or.inl rfl) (@bD _ _ _ _ _ _ _ (@aS _ (K) rfl) (@bF _ _ _ _ _ _ _ _ _ _ G_l_high (hr.mono (by decide)) (@aA _ _ _ _ _ (@bF _ _ _ _ _ _ _ _ _ _ G_l_mixed (hr.mono (by decide)) (@aA _ _ _ _ _ (@bF _ _ _ _ _ _ _ _ _ _ G_l_cell_at (hr.mono (by decide)) (@aA _ _ _ _ _ (pv 0) (@aA _ _ _ _ _ aF aE (by rfl)) (by rfl)) (by rfl) (by decide) (by rfl) (by rfl)) (@aA _ _ _ _ _ aF aE (by rfl)) (by rfl)) (by rfl) (by decide) (by rfl) (by rfl)) aE (by rfl)) (by rfl) (by decide) (by rfl) (by rfl)) aF (fun _ _=>rfl)) (by rfl) (by trivial)) (@aG _ _ _ _ _ (@aZ _ _ (8) _ _ _ _ dE.nd rfl (Or.inl rfl) (@bF _ _ _ _ _ _ _ _ _ _ G_l_costs (hr.mono (by decide)) (@aA _ _ _ _ _ (pv 3) (@aA _ _ _ _ _ (pv 6) (@aA _ _ _ _ _ (pv 7) aE (by rfl)) (by rfl)) (by rfl)) (by rfl) (by decide) (by rfl) (by rfl)) (by rfl) (by trivial)) (@aG _ _ _ _ _ (@aZ _ _ (9) _ _ _ _ dE.nd rfl (Or.inl rfl) (@bF _ _ _ _ _ _ _ _ _ _ G_l_costs (hr.mono (by decide)) (@aA _ _ _ _ _ (pv 3) (@aA _ _ _ _ _ (pv 6) (@aA _ _ _ _ _ (@aV _ _ _ _ _ _ _ _ _ (@aIV _ rfl) rfl T.n_min zI (@aA _ _ _ _ _ (@aL _ _ _ _ _ _ _ _ lY aF aF) (@aA _ _ _ _ _ (@aL _ _ _ _ _ _ _ _ cQ (pv 7) (@aL _ _ _ _ _ _ _ _ cO (@bF _ _ _ _ _ _ _ _ _ _ G_l_cell_at (hr.mono (by decide)) (@aA _ _ _ _ _ (pv 0) (@aA _ _ _ _ _ aF aE (by rfl)) (by rfl)) (by rfl) (by decide) (by rfl) (by rfl)) aF)) aE (by rfl)) (by rfl)) (by decide) (by decide) (by rfl) (by rfl)) aE (by rfl)) (by rfl)) (by rfl)) (by rfl) (by decide) (by rfl) (by rfl)) (by rfl) (by trivial)) (@aG _ _ _ _ _ (@fB _ _ _ _ _ _ _ _ (@PW.pt _ _ _ (@vD _ _ _ _ _ _ _ (@cA _ _ _ _ _ _ _ _ aCQ (@cJ _ _ _ _ _ _ hu (pv 8) (@dW _ _ _ _ _ aE) (fun _ _=>rfl)) aF (@bQ _ _ (by decide) (by decide))) (@rK _ _ _ _ (@cA _ _ _ _ _ _ _ _ aCQ (@cJ _ _ _ _ _ _ hu (pv 8) (@bH _ _ _ _ _ _ _ _ _ eK rfl T.n_tuple fF (@aA _ _ _ _ _ (@aV _ _ _ _ _ _ _ _ _ fI rfl T.n_sorted fJ (@aA _ _ _ _ _ (pv 6) aE (by rfl)) (by decide) (by decide) (by rfl) (by rfl)) aE (by rfl)) (by decide) (by decide) (by rfl) (by rfl)) (fun _ _=>rfl)) (@bD _ _ _ _ _ _ _ (@aS _ (K) rfl) (@bF _ _ _ _ _ _ _ _ _ _ G_p_fewest (hr.mono (by decide)) (@aA _ _ _ _ _ (pv 3) (@aA _ _ _ _ _ (pv 6) (@aA _ _ _ _ _ (pv 7) aE (by rfl)) (by rfl)) (by rfl)) (by rfl) (by decide) (by rfl) (by rfl)) aF (fun _ _=>rfl)) (@bQ _ _ (by decide) (by decide)))))) (@aH _ _ _ (@aQ _ _ _ _ oZ)) cE) (@aG _ _ _ _ _ (@iX _ _ _ _ _ _ _ _ BR rfl (@aCO _ _ _ _ (pv 8)) (@aU _ _ (10) _ dE.nd rfl (Or.inl rfl) (by trivial)) (@aG _ _ _ _ _ (@fB _ _ _ _ _ _ _ _ (@cA _ _ _ _ _ _ _ _ vK (@cJ _ _ _ _ _ _ hu (pv 9) (pv 10) (fun _ _=>rfl)) (@cJ _ _ _ _ _ _ hu (pv 8) (pv 10) (fun _ _=>rfl)) (@bQ _ _ (by decide) (by decide))) (@aH _ _ _ (@aQ _ _ _ _ oZ)) cE) (@aH _ _ _ (@iX _ _ _ _ _ _ _ _ BR rfl (@aCO _ _ _ _ (pv 8)) (@aU _ _ (11) _ dE.nd rfl (Or.inr rfl) (by trivial)) (@aG _ _ _ _ _ (@fB _ _ _ _ _ _ _ _ (@eN _ _ _ _ (@dQ _ _ _ (@bF _ _ _ _ _ _ _ _ _ _ G_l_together (hr.mono (by decide)) (@aA _ _ _ _ _ (pv 8) (@aA _ _ _ _ _ (pv 10) (@aA _ _ _ _ _ (pv 11) aE (by rfl)) (by rfl)) (by rfl)) (by rfl) (by decide) (by rfl) (by rfl)) (by intro _;rfl))) (@aH _ _ _ (@aQ _ _ _ _ oZ)) cE) (@aG _ _ _ _ _ (@aZ _ _ (12) _ _ _ _ dE.nd rfl (Or.inl rfl) (@dG _ _ _ _ _ _ _ _ (@aQL _ hr.units) (@cB _ _ _ _ _ _ _ _ _ _ _ ["_law_name","_law_other"] 1 [11] rfl (@aKV _ _ _ _ (pv 10)) (fun R=>@aU _ _ (0) _ (show Au (["_law_name","_law_other"]:List Str) by decide +kernel) rfl (Or.inl rfl) (by trivial)) (@aX _ _ (by decide)) (fun R=>@fW _ _ _ (@cA _ _ _ _ _ _ _ _ (@jU _ (K) rfl) (pv 0) (pv 1) (by with_unfolding_all rfl))) (fun R=>(pv 0)) (by rfl) (by rfl) (by rfl) (by rfl) (by rfl) (by rfl) (by rfl) (by intro _;rfl)) (@bH _ _ _ _ _ _ _ _ _ (@eL _ (K) rfl) rfl T.n_list cM (@aA _ _ _ _ _ (pv 10) aE (by rfl)) (by decide) (by decide) (by rfl) (by rfl)) (@bQ _ _ (by decide) (by decide))) (by rfl) (by trivial)) (@aH _ _ _ (@iX _ _ _ _ _ _ _ _ BR rfl (@bT _ _ _ _ (pv 6)) (@aU _ _ (13) _ dE.nd rfl (Or.inl rfl) (by trivial)) (@aH _ _ _ (@fB _ _ _ _ _ _ _ _ (@PW.pt _ _ _ (@nF _ _ _ _ _ _ _ (@dQ _ _ _ (pv 12) (by intro _;rfl)) (@nF _ _ _ _ _ _ _ (@cA _ _ _ _ _ _ _ _ (@pA _ (K) rfl) (pv 13) (pv 11) (by with_unfolding_all rfl)) (@lT _ _ _ _ (@eN _ _ _ _ (@dQ _ _ _ (@bF _ _ _ _ _ _ _ _ _ _ G_l_adds (hr.mono (by decide)) (@aA _ _ _ _ _ (pv 8) (@aA _ _ _ _ _ (pv 10) (@aA _ _ _ _ _ (pv 11) (@aA _ _ _ _ _ (pv 13) aE (by rfl)) (by rfl)) (by rfl)) (by rfl)) (by rfl) (by decide) (by rfl) (by rfl)) (by intro _;rfl))))))) (@aH _ _ _ (@aQ _ _ _ _ oZ)) cE)) (by intro _;rfl))))) (by intro _;rfl)))) (by intro _;rfl)) (@aH _ _ _ (@aQ _ _ _ _ (@dG _ _ _ _ _ _ _ _ aLE (@bF _ _ _ _ _ _ _ _ _ _ G_p_saved (hr.mono (by decide)) (@aA _ _ _ _ _ (pv 3) (@aA _ _ _ _ _ (@jT _ _ _ _ _ _ _ _ _ _ (@mU _ (K) rfl) (pv 6) lW (@lU _ _ _ aF)) (@aA _ _ _ _ _ (@jT _ _ _ _ _ _ _ _ _ _ (@mU _ (K) rfl) (pv 6) (@lU _ _ _ aF) lW) (@aA _ _ _ _ _ (pv 7) aE (by rfl)) (by rfl)) (by rfl)) (by rfl)) (by rfl) (by decide) (by rfl) (by rfl)) aF (@bQ _ _ (by decide) (by decide))))))))))))))),?_⟩
 refine aKG fun u0 hu0=>?_
 refine ⟨_,rfl,_,rfl,scr,fun t lf ld vf vd fs ds H1 S1 ht hf1 hif1 hd1 hid1 gf gd=>?_⟩
 refine ⟨t,_,rfl,SqT.of ht,rfl,_,_,rfl,_,_,rfl,rfl,?_⟩
 refine ⟨_,rfl,_,rfl,?_⟩
 intro p dx np ndx nex
 have S3':aI H1 (upd (upd H1 dx (.own p)) p (.ins C dx [])):=fun b o e=>by
  rw [aK (aT e np),aK (aT e ndx)]
  exact e
 have f2:=gf.l2
 have d2:=gd.l2
 have smf:small (.lst fs) = true:=rR (fun d m=>aDE (gf.all d m)) (by omega)
 have smd:small (.lst ds) = true:=rR (fun d m=>aFM gf.all (gd.all d m)) (by omega)
 refine ⟨_,_,_,rfl,p,dx,fs,ds,rfl,aD,⟨lf,vf,rfl,S3' _ _ hf1,IsL.same S3' _ _ hif1⟩,⟨ld,vd,rfl,S3' _ _ hd1,IsL.same S3' _ _ hid1⟩,smf,smd,aIN gf (by decide),aMJ gd (by decide),fun H3 L3 fr=>⟨rfl,?_⟩⟩
 have Z3:aI H1 H3:=fun b o e=>fr b o (S3' _ _ e) (aT e np)
 have T3:=S1.trans Z3
 have GG:=qS (bX L3).1 (bX L3).2
 have hf3:=Z3 _ _ hf1
 have hd3:=Z3 _ _ hd1
 have hif3:=IsL.same Z3 _ _ hif1
 have hid3:=IsL.same Z3 _ _ hid1
 have lvf:=aBA hif3
 refine ⟨_,rfl,lf,rfl,⟨_,SqL.of hf3⟩,?_⟩
 refine bI (F:=K) (xs:=vf) (by omega) (fun i ys H'=>H3 = H' ∧ ys = ((fs.take i).map aO).map V.str) ⟨rfl,rfl⟩ ?_ ?_ ?_
 ·rintro i ys H' hi ⟨rfl,rfl⟩
  exact ⟨SqL.of hf3,by rw [AA,AA,AZ];omega⟩
 ·rintro i xv ys H' K1 K2 hx' ⟨rfl,rfl⟩ k1 k2
  have hil:i < vf.length:=(AE.mp hx').1
  obtain ⟨d,ed⟩:∃ d,fs[i]? = some d:=⟨_,AD (by omega)⟩
  obtain ⟨v,ev,iv⟩:=hif3.get ed
  rw [hx'] at ev
  cases ev
  obtain ⟨z,g,u,rfl,hz,_⟩:=bU (gf.all d (AS ed))
  obtain ⟨t,rfl,o⟩:=lJ iv
  refine ⟨_,rfl,t,_,0,.str z,rfl,rfl,SqT.of o,aP (j:=0) rfl,k1 _ _ ⟨rfl,?_⟩⟩
  rw [Ai,ed,AW,AW]
  rfl
 rintro ys H4 ⟨rfl,rfl⟩
 rw [AI (by omega)]
 intro ln hln
 have S4:=aI.upd (o:=.lst ((fs.map aO).map V.str)) hln
 have r4:upd H3 ln (.lst ((fs.map aO).map V.str)) ln = some (.lst ((fs.map aO).map V.str)):=aD
 generalize upd H3 ln (.lst ((fs.map aO).map V.str)) = H4 at S4 r4
 have L4:=L3.same S4
 have hf4:=S4 _ _ hf3
 have hd4:=S4 _ _ hd3
 have hif4:=IsL.same S4 _ _ hif3
 have hid4:=IsL.same S4 _ _ hid3
 have scr4:=scr.same (T3.trans S4)
 refine gσ (σ':=[some (.ref a),some (.ref lf),some (.ref ld),some (.ref p),some (.ref ln),none,none,none,none,none,none,none,none,none]) rfl ?_
 have gfL:=(bX L3).1
 have gdL:=(bX L3).2
 obtain ⟨_,ns4,ea4,hS4,hl4⟩:=scr4
 cases ea4
 have lf1:=gf.l1
 have lnn:((fs.map aO).map V.str).length = fs.length:=by rw [AA,AA]
 refine ⟨_,rfl,_,_,rfl,a,_,30,rfl,rfl,hS4,hl4,by decide,_,rfl,ln,_,rfl,.inl (SqL.of r4),_,_,rfl,rfl,by rw [lnn];omega,?_⟩
 obtain ⟨k,ek,hk⟩:∃ k:Nat,ns4.getD (DK 30) 0 % (((fs.map aO).map V.str).length:Int) = (k:Int) ∧ k < fs.length:=by
  have h0:=BU (ns4.getD (DK 30) 0) (show ((((fs.map aO).map V.str).length:Nat):Int) ≠ 0 by rw [lnn];omega)
  have h1:=BM (ns4.getD (DK 30) 0) (show (0:Int) < (((fs.map aO).map V.str).length:Nat) by rw [lnn];omega)
  refine ⟨(ns4.getD (DK 30) 0 % (((fs.map aO).map V.str).length:Int)).toNat,by omega,?_⟩
  rw [lnn] at h0 h1 ⊢
  omega
 refine gσI ek (σ':=[some (.ref a),some (.ref lf),some (.ref ld),some (.ref p),some (.ref ln),some (.int k),none,none,none,none,none,none,none,none]) rfl ?_
 have lnm:(fs.map aO).length = fs.length:=AA ..
 refine ⟨_,rfl,_,rfl,k,rfl,ln,_,rfl,SqL.of r4,fun l5 m5=>?_⟩
 rw [aDL]
 have S5:=aI.upd (o:=.lst (((fs.map aO).map V.str).drop k)) m5
 have r5:upd H4 l5 (.lst (((fs.map aO).map V.str).drop k)) l5 = some (.lst (((fs.map aO).map V.str).drop k)):=aD
 generalize upd H4 l5 (.lst (((fs.map aO).map V.str).drop k)) = H5 at S5 r5
 refine ⟨_,rfl,_,rfl,k,rfl,ln,_,rfl,SqL.of (S5 _ _ r4),fun l6 m6=>?_⟩
 rw [sE]
 have S6:=aI.upd (o:=.lst (((fs.map aO).map V.str).take k)) m6
 have r6:upd H5 l6 (.lst (((fs.map aO).map V.str).take k)) l6 = some (.lst (((fs.map aO).map V.str).take k)):=aD
 generalize upd H5 l6 (.lst (((fs.map aO).map V.str).take k)) = H6 at S6 r6
 refine ⟨l5,l6,_,_,rfl,rfl,S6 _ _ r5,r6,by rw [CB,AZ,lnn];omega,fun l7 m7=>?_⟩
 refine ⟨4,rfl,l7,_,rfl,SqL.of aD,fun l8 m8=>?_⟩
 obtain ⟨zs,ezs⟩:∃ zs,zs = ((fs.map aO).drop k ++ (fs.map aO).take k).take 4:=⟨_,rfl⟩
 have ecut:wO (((fs.map aO).map V.str).drop k ++ ((fs.map aO).map V.str).take k) none (some 4) = zs.map V.str:=by
  rw [ezs,FK,AW,List.map_drop,FK]
  exact sE _ 4
 rw [ecut]
 have pmz:((fs.map aO).drop k ++ (fs.map aO).take k).Perm (fs.map aO):=by
  have:=List.perm_append_comm (l₁:=(fs.map aO).drop k) (l₂:=(fs.map aO).take k)
  rw [List.take_append_drop] at this
  exact this
 have znd:zs.Nodup:=by rw [ezs];exact CU (ED _ _) (pmz.nodup_iff.mpr gfL.nd)
 have zsub:∀ z ∈ zs,z ∈ fs.map aO:=fun z m=>by rw [ezs] at m;exact pmz.mem_iff.mp (Es m)
 have zl:1 ≤ zs.length ∧ zs.length ≤ 4:=by
  rw [ezs,AZ,pmz.length_eq,lnm]
  omega
 clear ezs ecut pmz
 have S8:aI H6 (upd (upd H6 l7 (.lst (((fs.map aO).map V.str).drop k ++ ((fs.map aO).map V.str).take k))) l8 (.lst (zs.map V.str))):=(aI.upd m7).trans (aI.upd m8)
 have r8:upd (upd H6 l7 (.lst (((fs.map aO).map V.str).drop k ++ ((fs.map aO).map V.str).take k))) l8 (.lst (zs.map V.str)) l8 = some (.lst (zs.map V.str)):=aD
 generalize upd (upd H6 l7 (.lst (((fs.map aO).map V.str).drop k ++ ((fs.map aO).map V.str).take k))) l8 (.lst (zs.map V.str)) = H8 at S8 r8
 have T8:=S5.trans (S6.trans S8)
 refine gσ (σ':=[some (.ref a),some (.ref lf),some (.ref ld),some (.ref p),some (.ref ln),some (.int k),some (.ref l8),none,none,none,none,none,none,none]) rfl ?_
 refine ⟨_,rfl,_,_,rfl,a,_,31,rfl,rfl,T8.seq hS4,hl4,by decide,_,_,rfl,_,500,rfl,rfl,by decide,by decide,fun num=>?_⟩
 refine ⟨_,rfl,_,rfl,fun a1 lv v H9 S9 tw b0 b1=>?_⟩
 obtain ⟨tt,rfl,ett⟩:=tw
 refine ⟨tt,_,1,.int lv,rfl,rfl,SqT.of ett,aP (j:=1) rfl,?_⟩
 refine gσ (σ':=[some (.ref a),some (.ref lf),some (.ref ld),some (.ref p),some (.ref ln),some (.int k),some (.ref l8),some (.int lv),none,none,none,none,none,none]) rfl ?_
 have T9:=T8.trans S9
 have L9:=L4.same T9
 have hS9:=T9.seq hS4
 have r9:=S9 _ _ r8
 have tab:oW Tb H:=⟨#[],eT,trivial,.inl rfl⟩
 have tab9:oW Tb H9:=tab.keep (T3.trans (S4.trans T9))
 have hL:hgt lv = true:=aBC b0 b1
 clear T8 S8 S5 S6 S9 ett m5 m6 m7 m8 r5 r6 r8 tab T3 Z3 S4 L3 L4 hf3 hd3 hif3 hid3 hf4 hd4 hif4 hid4 hln r4 hS4 hk ek lnm lnn hf1 hif1 hd1 hid1
 refine hu0 _ _ _ ?_
 refine aKH fun u1 hu1=>?_
 refine ⟨_,rfl,_,rfl,_,rfl,_,_,_,rfl,p,l8,fs,ds,zs,lv,rfl,L9,rfl,r9,zl.1,zl.2,znd,zsub,rfl,hL,tab9,fun dc kvs HA KA tabA nA eA CDA=>?_⟩
 refine gσ (σ':=[some (.ref a),some (.ref lf),some (.ref ld),some (.ref p),some (.ref ln),some (.int k),some (.ref l8),some (.int lv),some (.ref dc),none,none,none,none,none]) rfl ?_
 have LA:=oO KA tab9 L9
 have rA:=aLP KA tab9 _ _ r9 rfl
 have hSA:=aNK KA tab9 hS9
 refine ⟨_,rfl,_,rfl,_,_,rfl,rfl,⟨by decide,by decide,by decide⟩,_,rfl,_,rfl,_,_,rfl,a,_,32,rfl,rfl,hSA,hl4,by decide,_,_,rfl,rfl,kD rfl,_,_,rfl,rfl,_,_,rfl,?_⟩
 obtain ⟨hv,ehv,hv1,hv2,hv3⟩:∃ hv:Int,(if lv + ns4.getD (DK 32) 0 % 9 < 10 ^ DK 6 then lv + ns4.getD (DK 32) 0 % 9 else 10 ^ DK 6) = hv ∧ lv ≤ hv ∧ -1000000 ≤ hv ∧ hv ≤ 1000000:=by
  have e6:(10:Int) ^ DK 6 = 1000000:=by decide
  rw [e6]
  refine ⟨_,rfl,?_⟩
  split <;> omega
 refine ⟨_,_,_,rfl,p,l8,fs,ds,zs,hv,rfl,LA,rfl,rA,zl.1,zl.2,znd,zsub,congrArg V.int ehv,aBC hv2 hv3,tabA,fun dh kvh HB KB tabB nB eB CDB=>?_⟩
 refine gσ (σ':=[some (.ref a),some (.ref lf),some (.ref ld),some (.ref p),some (.ref ln),some (.int k),some (.ref l8),some (.int lv),some (.ref dc),some (.ref dh),none,none,none,none]) rfl ?_
 have LB:=oO KB tabA LA
 have rB:=aLP KB tabA _ _ rA rfl
 have eTc:dc ≠ Tb:=fun z=>by
  obtain ⟨qs,eQ,_⟩:=tabA
  rw [z,eQ] at eA
  cases eA
 have eC:=KB _ _ eTc eA
 have ndh:dh ≠ dc:=fun z=>by rw [z,eA] at nB;cases nB
 obtain ⟨c0,e0,p0⟩:=CDA.get [] [] .nil (fun _ m=>nomatch m) ⟨.refl _,rfl⟩
 have z0:=p0.uniq (vZ (GG lv))
 subst z0
 refine ⟨_,rfl,aY rfl,fun t0 m0=>?_⟩
 have S0:=aI.upd (o:=.tup []) m0
 have q0:upd HB t0 (.tup []) t0 = some (.tup (([]:List Str).map V.str)):=aD
 generalize upd HB t0 (.tup []) = HC at S0 q0
 refine ⟨dc,.int 0,rfl,dB (.inl (S0 _ _ eC)) q0 e0,rfl,_,rfl,?_⟩
 refine bO ?_
 refine ⟨_,rfl,_,rfl,l8,zs,rfl,SqL.of (S0 _ _ rB),by omega,fun lw sw sow mw=>?_⟩
 have S1':=aI.upd (o:=.lst (sw.map V.str)) mw
 have q1:upd HC lw (.lst (sw.map V.str)) lw = some (.lst (sw.map V.str)):=aD
 generalize upd HC lw (.lst (sw.map V.str)) = HD at S1' q1
 refine ⟨lw,_,rfl,.inl ⟨SqL.of q1,fun tw mt=>?_⟩⟩
 have S2':=aI.upd (o:=.tup (sw.map V.str)) mt
 have q2:upd HD tw (.tup (sw.map V.str)) tw = some (.tup (sw.map V.str)):=aD
 generalize upd HD tw (.tup (sw.map V.str)) = HE at S2' q2
 obtain ⟨cw,ew,pw⟩:=CDA.get zs sw znd (fun z m=>m) sow
 have TE:=S0.trans (S1'.trans S2')
 refine ⟨dc,.int cw,rfl,dB (.inl (TE _ _ eC)) q2 ew,?_⟩
 refine ⟨_,rfl,_,rfl,_,rfl,_,_,_,rfl,p,l8,fs,ds,zs,lv,rfl,LB.same TE,rfl,TE _ _ rB,zl.1,znd,zsub,rfl,hL,fun tf lk la uk ua f' R B' HF SF nt nlk nla nka hft hk ik ha ia st rd=>?_⟩
 refine ⟨tf,_,0,_,rfl,rfl,SqT.of hft,aP (j:=0) rfl,rfl,_,rfl,?_⟩
 have ew2:=pw.uniq (sQ (GG lv) st rd)
 rw [ew2,decide_eq_true rfl]
 refine bO ?_
 have TF:=TE.trans SF
 have LF:=LB.same TF
 have rF:=TF _ _ rB
 have eF:=TF _ _ eC
 have eTh:dh ≠ Tb:=fun z=>by
  obtain ⟨qs,eQ,_⟩:=tabB
  rw [z,eQ] at eB
  cases eB
 have hF:=TF _ _ eB
 clear S0 S1' S2' SF TE TF q0 q1 q2 m0 mw mt eC eB rB LB nt nlk nla nka hft hk ik ha ia st rd sow ew pw ew2 e0 p0 KB KA tabA eA LA rA hSA
 refine hu1 _ _ _ ?_
 refine aKI fun u2 hu2=>?_
 refine ⟨_,rfl,dc,kvs,rfl,.inl ⟨eF,fun ob=>?_⟩⟩
 have KG:eP dc HF (upd HF dc (.frz ob (.dT kvs))):=fun b o n e=>by rw [aK n];exact e
 have LG:=aOK KG eF LF
 have gG:upd HF dc (.frz ob (.dT kvs)) dc = some (.frz ob (.dT kvs)):=aD
 have rG:=KG _ _ (fun z=>by rw [z,eF] at rF;cases rF) rF
 have hG:=KG _ _ ndh hF
 generalize upd HF dc (.frz ob (.dT kvs)) = HG at KG LG gG rG hG
 clear KG LF rF eF hF
 refine aMA (fun i σ H'=>∃ v10 v11 v12 v13:Option V,σ = [some (.ref a),some (.ref lf),some (.ref ld),some (.ref p),some (.ref ln),some (.int k),some (.ref l8),some (.int lv),some (.ref dc),some (.ref dh),v10,v11,v12,v13] ∧ aI HG H') ⟨_,_,_,_,rfl,aI.refl _⟩ ?_ ?_ ?_
 ·rintro i σ H' hi ⟨v10,v11,v12,v13,rfl,S'⟩
  exact S' _ _ gG
 ·rintro i kv b σ H' hk hb ⟨v10,v11,v12,v13,rfl,S'⟩
  obtain ⟨ss,c,snd,ssub,sso,ek,ev,lst⟩:=CDA.all kv (AS hk)
  rw [ek,wC] at hb
  clear ek ev lst hk c
  have k1:Comp zs ss:=⟨snd,ssub,sso⟩
  obtain ⟨c1,e1,p1⟩:=CDA.get ss ss snd ssub sso
  obtain ⟨c2,e2,p2⟩:=CDB.get ss ss snd ssub sso
  have c12:=aLK hv1 gdL p1 p2
  refine gσ (σ':=[some (.ref a),some (.ref lf),some (.ref ld),some (.ref p),some (.ref ln),some (.int k),some (.ref l8),some (.int lv),some (.ref dc),some (.ref dh),some (.ref b),v11,v12,v13]) rfl ?_
  refine aGZ fun D1 hD1=>?_
  refine ⟨_,rfl,_,rfl,dh,.int c2,rfl,dB (.inl (S' _ _ hG)) hb e2,_,rfl,_,rfl,dc,.int c1,rfl,dB (.inr ⟨ob,S' _ _ gG⟩) hb e1,_,_,rfl,rfl,_,rfl,?_⟩
  rw [decide_eq_false (by omega)]
  refine bO ?_
  refine ⟨_,rfl,dc,kvs,rfl,.inr ⟨ob,S' _ _ gG,?_⟩⟩
  refine aMA (fun j σ H2=>∃ v11 v12 v13:Option V,σ = [some (.ref a),some (.ref lf),some (.ref ld),some (.ref p),some (.ref ln),some (.int k),some (.ref l8),some (.int lv),some (.ref dc),some (.ref dh),some (.ref b),v11,v12,v13] ∧ aI H' H2) ⟨_,_,_,rfl,aI.refl _⟩ ?_ ?_ ?_
  ·rintro j σ H2 hj ⟨v11,v12,v13,rfl,S2⟩
   exact (S'.trans S2) _ _ gG
  ·rintro j kw b2 σ H2 hk2 hb2 ⟨v11,v12,v13,rfl,S2⟩
   obtain ⟨sr,c,rnd,rsub,rso,ek,ev,lst⟩:=CDA.all kw (AS hk2)
   rw [ek,wC] at hb2
   clear ek ev lst hk2 c
   have k2:Comp zs sr:=⟨rnd,rsub,rso⟩
   have g2:=(S'.trans S2) _ _ gG
   have hb':=S2 _ _ hb
   refine gσ (σ':=[some (.ref a),some (.ref lf),some (.ref ld),some (.ref p),some (.ref ln),some (.int k),some (.ref l8),some (.int lv),some (.ref dc),some (.ref dh),some (.ref b),some (.ref b2),v12,v13]) rfl ?_
   refine aGZ fun D2 hD2=>?_
   refine ⟨_,rfl,_,rfl,_,rfl,_,_,_,rfl,dc,b,b2,kvs,_,_,zs,ss,sr,rfl,.inr ⟨ob,g2⟩,rfl,hb',rfl,hb2,CDA,GG lv,zl.2,k1,k2,fun H3 S3=>⟨_,rfl,bO ?_⟩⟩
   have hb3:=S3 _ _ hb'
   have hc3:=S3 _ _ hb2
   refine ⟨_,rfl,b,rfl,⟨_,SqT.of hb3⟩,?_⟩
   have n1:=k1.len zl.2
   refine aDN (F:=K) (xs:=ss.map V.str) (by rw [AA];omega) (fun i ys H4=>H3 = H4 ∧ ys = ((ss.take i).filter fun z=>decide (z ∈ sr)).map V.str) ⟨rfl,rfl⟩ ?_ ?_ ?_
   ·rintro i ys H4 hi ⟨rfl,rfl⟩
    have:=BC (fun z:Str=>decide (z ∈ sr)) (ss.take i)
    rw [AZ] at this
    exact ⟨SqT.of hb3,by rw [AA];omega⟩
   ·rintro i xv ys H4 K1 K2 hx' ⟨rfl,rfl⟩ k1 k2
    rw [AR] at hx'
    obtain ⟨z,ez,rfl⟩:=Ay.mp hx'
    have et:=iH (P:=fun z:Str=>decide (z ∈ sr)) ez
    refine ⟨_,rfl,_,rfl,b2,_,rfl,.inr (SqT.of hc3),rfl,iF sr,_,rfl,?_⟩
    rw [if_neg Ab,mG]
    cases hg:decide (z ∈ sr) with
    | false =>
     rw [hg] at et
     exact bO (k2 _ ⟨rfl,by rw [et];simp⟩)
    | true =>
     rw [hg] at et
     exact dL ⟨_,rfl,k1 _ _ ⟨rfl,by rw [et,if_pos rfl,AW];rfl⟩⟩
   rintro ys H4 ⟨rfl,rfl⟩
   rw [AA,AI (AL _)]
   intro l4' m4
   have S4:=aI.upd (o:=.lst ((ss.filter fun z=>decide (z ∈ sr)).map V.str)) m4
   have r4:upd H3 l4' (.lst ((ss.filter fun z=>decide (z ∈ sr)).map V.str)) l4' = some (.lst ((ss.filter fun z=>decide (z ∈ sr)).map V.str)):=aD
   generalize upd H3 l4' (.lst ((ss.filter fun z=>decide (z ∈ sr)).map V.str)) = H4 at S4 r4
   refine ⟨_,rfl,b,_,rfl,.inr (SqT.of (S4 _ _ hb3)),fun l5 m5=>?_⟩
   have S5:=aI.upd (o:=.lst (ss.map V.str)) m5
   refine ⟨.lst ((ss.filter fun z=>decide (z ∈ sr)).map Dv.str),.lst (ss.map Dv.str),⟨l4',_,rfl,S5 _ _ r4,IsL.strs _ _⟩,⟨l5,_,rfl,aD,IsL.strs _ _⟩,aMB _,aMB _,?_⟩
   rw [if_neg Ab,aQZ]
   generalize upd H4 l5 (.lst (ss.map V.str)) = H5 at S5
   refine gσ (σ':=[some (.ref a),some (.ref lf),some (.ref ld),some (.ref p),some (.ref ln),some (.int k),some (.ref l8),some (.int lv),some (.ref dc),some (.ref dh),some (.ref b),some (.ref b2),some (.bl (decide ((ss.filter fun z=>decide (z ∈ sr)) = ss))),v13]) rfl ?_
   have T5:=S3.trans (S4.trans S5)
   have U5:=S2.trans T5
   have w5:=(S'.trans U5) _ _ rG
   have hb5:=U5 _ _ hb
   have hc5:=T5 _ _ hb2
   have g5:=T5 _ _ g2
   refine ⟨_,rfl,l8,rfl,⟨_,SqL.of w5⟩,nR (K:=K) (a:=l8) (xs:=zs.map V.str) (fun n σ H6=>∃ v13:Option V,σ = [some (.ref a),some (.ref lf),some (.ref ld),some (.ref p),some (.ref ln),some (.int k),some (.ref l8),some (.int lv),some (.ref dc),some (.ref dh),some (.ref b),some (.ref b2),some (.bl (decide ((ss.filter fun z=>decide (z ∈ sr)) = ss))),v13] ∧ aI H5 H6) ⟨_,rfl,aI.refl _⟩ ?_ ?_ ?_⟩
   ·rintro n σ H6 hn ⟨v13,rfl,S6⟩
    exact SqL.of (S6 _ _ w5)
   ·rintro n xv σ H6 hx ⟨v13,rfl,S6⟩
    rw [AR] at hx
    obtain ⟨z,ez,rfl⟩:=Ay.mp hx
    have mz:z ∈ zs:=AS ez
    refine gσ (σ':=[some (.ref a),some (.ref lf),some (.ref ld),some (.ref p),some (.ref ln),some (.int k),some (.ref l8),some (.int lv),some (.ref dc),some (.ref dh),some (.ref b),some (.ref b2),some (.bl (decide ((ss.filter fun z=>decide (z ∈ sr)) = ss))),some (.str z)]) rfl ?_
    refine ⟨_,rfl,_,rfl,?_⟩
    refine jY (fun hin=>?_) (fun _=>bO ⟨_,rfl,S6⟩)
    have sin:∀ y ∈ ss,y ∈ sr:=fun y my=>by
     rw [← of_decide_eq_true hin] at my
     exact of_decide_eq_true (Ar.mp my).2
    refine ⟨_,rfl,_,rfl,b2,_,rfl,.inr (SqT.of (S6 _ _ hc5)),rfl,iF sr,_,rfl,?_⟩
    rw [if_pos rfl,mG]
    refine jY (fun hn=>?_) (fun _=>bO ⟨_,rfl,S6⟩)
    have nz:z ∉ sr:=fun m=>by rw [decide_eq_true m] at hn;cases hn
    exact ⟨_,rfl,_,rfl,_,rfl,_,rfl,_,_,_,_,dc,b,b2,kvs,_,_,zs,ss,sr,z,rfl,rfl,.inr ⟨ob,S6 _ _ g5⟩,rfl,S6 _ _ hb5,rfl,S6 _ _ hc5,rfl,CDA,GG lv,zl.2,k1,k2,sin,mz,nz,fun H7 S7=>⟨_,rfl,bO ⟨_,rfl,S6.trans S7⟩⟩⟩
   ·rintro σ H6 ⟨v13,rfl,S6⟩
    exact hD2 _ _ ⟨_,_,_,rfl,U5.trans S6⟩
  ·rintro σ H2 ⟨v11,v12,v13,rfl,S2⟩
   exact hD1 _ _ ⟨_,_,_,_,rfl,S'.trans S2⟩
 ·rintro σ H' ⟨v10,v11,v12,v13,rfl,S'⟩
  refine hu2 _ _ _ ?_
  have w1:=S' _ _ rG
  refine ⟨_,rfl,_,rfl,2,rfl,l8,_,rfl,SqL.of w1,fun la ma=>?_⟩
  have ec2:wO (zs.map V.str) none (some 2) = (zs.take 2).map V.str:=by rw [FK];exact sE _ 2
  rw [ec2]
  have Sa:=aI.upd (o:=.lst ((zs.take 2).map V.str)) ma
  have ra:upd H' la (.lst ((zs.take 2).map V.str)) la = some (.lst ((zs.take 2).map V.str)):=aD
  generalize upd H' la (.lst ((zs.take 2).map V.str)) = Ha at Sa ra
  refine ⟨_,rfl,1,rfl,l8,_,rfl,SqL.of (Sa _ _ w1),fun lb mb=>?_⟩
  have ec1:wO (zs.map V.str) (some 1) none = (zs.drop 1).map V.str:=by rw [List.map_drop];exact aDL _ 1
  rw [ec1]
  have Sb:=aI.upd (o:=.lst ((zs.drop 1).map V.str)) mb
  have rb:upd Ha lb (.lst ((zs.drop 1).map V.str)) lb = some (.lst ((zs.drop 1).map V.str)):=aD
  generalize upd Ha lb (.lst ((zs.drop 1).map V.str)) = Hb at Sb rb
  refine ⟨_,rfl,_,_,_,_,p,la,lb,fs,ds,zs.take 2,zs.drop 1,lv,rfl,rfl,LG.same (S'.trans (Sa.trans Sb)),rfl,Sb _ _ ra,CU (ED _ _) znd,(fun z m=>zsub z (Es m)),rfl,rb,CU (List.drop_sublist _ _) znd,(fun z m=>zsub z (List.mem_of_mem_drop m)),rfl,hL,fun c1 c2 c3 c4 Hz Sz q1 q2 q3 q4=>?_⟩
  have fin:=pQ (GG lv) (fun z m=>wK.mp m) (fun z m=>aDS.mp m) q1 q2 q3 q4
  refine ⟨_,_,rfl,rfl,?_⟩
  show Q (.bl (decide (0 ≤ c1 + c2 - c3 - c4))) Hz
  rw [decide_eq_true (by omega)]
  exact q Hz
theorem law_mk {fa c Tb:Addr} (hmg:mg "law" = some (.ref fa)) (T:Txt K mg C) :
  ∃ fd:Bz,(∀ (s:Shared) (u:Value),BindsTo s fd ⟨[u],[]⟩ [("_law_script",u)]) ∧ ∀ base:Heap,K.In base → base.Ns AJ mg → TabB K mg base "lists_of_places" c Tb → FnOk P w K mg base CX0 12 fa fd ["_law_script"] (zT K Tb):=by
 obtain ⟨f,fd,F,b,m⟩:=T.d_p_law.ex
 rw [hmg] at m
 cases m
 refine ⟨fd,fun s u=>?_,fun base _ _ B=>aQM T B F⟩
 obtain ⟨oc,od,kV,doc,pm,an,cdv,ct,osl,rfl,lk,hcd⟩:=F.ex
 exact .of_eq rfl
end
theorem txt_mk {K:AG} {h:Heap} {mg:Str → Option Value} (X:K.In h) (G:h.Ns AJ mg)
    {C:Addr}
    {fm18:Addr} {ocm18 kVm18 docm18 pmm18 cdm18 ctm18:Value} {odm18 anm18:Option Addr} {slm18:Array (Option Value)}
    {fm19:Addr} {ocm19 kVm19 docm19 pmm19 cdm19 ctm19:Value} {odm19 anm19:Option Addr} {slm19:Array (Option Value)}
    {fm20:Addr} {ocm20 kVm20 docm20 pmm20 cdm20 ctm20:Value} {odm20 anm20:Option Addr} {slm20:Array (Option Value)}
    {fm21:Addr} {ocm21 kVm21 docm21 pmm21 cdm21 ctm21:Value} {odm21 anm21:Option Addr} {slm21:Array (Option Value)}
    {fm22:Addr} {ocm22 kVm22 docm22 pmm22 cdm22 ctm22:Value} {odm22 anm22:Option Addr} {slm22:Array (Option Value)}
    {fm23:Addr} {ocm23 kVm23 docm23 pmm23 cdm23 ctm23:Value} {odm23 anm23:Option Addr} {slm23:Array (Option Value)}
    {fm24:Addr} {ocm24 kVm24 docm24 pmm24 cdm24 ctm24:Value} {odm24 anm24:Option Addr} {slm24:Array (Option Value)}
    {fm25:Addr} {ocm25 kVm25 docm25 pmm25 cdm25 ctm25:Value} {odm25 anm25:Option Addr} {slm25:Array (Option Value)}
    {fm26:Addr} {ocm26 kVm26 docm26 pmm26 cdm26 ctm26:Value} {odm26 anm26:Option Addr} {slm26:Array (Option Value)}
    {fm27:Addr} {ocm27 kVm27 docm27 pmm27 cdm27 ctm27:Value} {odm27 anm27:Option Addr} {slm27:Array (Option Value)}
    {f0:Addr} {oc0 kV0 doc0 pm0 cd0 ct0:Value} {od0 an0:Option Addr} {sl0:Array (Option Value)}
    {f1:Addr} {oc1 kV1 doc1 pm1 cd1 ct1:Value} {od1 an1:Option Addr} {sl1:Array (Option Value)}
    {f2:Addr} {oc2 kV2 doc2 pm2 cd2 ct2:Value} {od2 an2:Option Addr} {sl2:Array (Option Value)}
    {f3:Addr} {oc3 kV3 doc3 pm3 cd3 ct3:Value} {od3 an3:Option Addr} {sl3:Array (Option Value)}
    {f4:Addr} {oc4 kV4 doc4 pm4 cd4 ct4:Value} {od4 an4:Option Addr} {sl4:Array (Option Value)}
    {f5:Addr} {oc5 kV5 doc5 pm5 cd5 ct5:Value} {od5 an5:Option Addr} {sl5:Array (Option Value)}
    {f6:Addr} {oc6 kV6 doc6 pm6 cd6 ct6:Value} {od6 an6:Option Addr} {sl6:Array (Option Value)}
    {f7:Addr} {oc7 kV7 doc7 pm7 cd7 ct7:Value} {od7 an7:Option Addr} {sl7:Array (Option Value)}
    {f8:Addr} {oc8 kV8 doc8 pm8 cd8 ct8:Value} {od8 an8:Option Addr} {sl8:Array (Option Value)}
    {f9:Addr} {oc9 kV9 doc9 pm9 cd9 ct9:Value} {od9 an9:Option Addr} {sl9:Array (Option Value)}
    {f10:Addr} {oc10 kV10 doc10 pm10 cd10 ct10:Value} {od10 an10:Option Addr} {sl10:Array (Option Value)}
    {f11:Addr} {oc11 kV11 doc11 pm11 cd11 ct11:Value} {od11 an11:Option Addr} {sl11:Array (Option Value)}
    {f12:Addr} {oc12 kV12 doc12 pm12 cd12 ct12:Value} {od12 an12:Option Addr} {sl12:Array (Option Value)}
    {f13:Addr} {oc13 kV13 doc13 pm13 cd13 ct13:Value} {od13 an13:Option Addr} {sl13:Array (Option Value)}
    {f14:Addr} {oc14 kV14 doc14 pm14 cd14 ct14:Value} {od14 an14:Option Addr} {sl14:Array (Option Value)}
    {f15:Addr} {oc15 kV15 doc15 pm15 cd15 ct15:Value} {od15 an15:Option Addr} {sl15:Array (Option Value)}
    {f16:Addr} {oc16 kV16 doc16 pm16 cd16 ct16:Value} {od16 an16:Option Addr} {sl16:Array (Option Value)}
    {f17:Addr} {oc17 kV17 doc17 pm17 cd17 ct17:Value} {od17 an17:Option Addr} {sl17:Array (Option Value)}
    {f18:Addr} {oc18 kV18 doc18 pm18 cd18 ct18:Value} {od18 an18:Option Addr} {sl18:Array (Option Value)}
    {f19:Addr} {oc19 kV19 doc19 pm19 cd19 ct19:Value} {od19 an19:Option Addr} {sl19:Array (Option Value)}
    {f20:Addr} {oc20 kV20 doc20 pm20 cd20 ct20:Value} {od20 an20:Option Addr} {sl20:Array (Option Value)}
    {f21:Addr} {oc21 kV21 doc21 pm21 cd21 ct21:Value} {od21 an21:Option Addr} {sl21:Array (Option Value)}
    {f22:Addr} {oc22 kV22 doc22 pm22 cd22 ct22:Value} {od22 an22:Option Addr} {sl22:Array (Option Value)}
    {f23:Addr} {oc23 kV23 doc23 pm23 cd23 ct23:Value} {od23 an23:Option Addr} {sl23:Array (Option Value)}
    {f24:Addr} {oc24 kV24 doc24 pm24 cd24 ct24:Value} {od24 an24:Option Addr} {sl24:Array (Option Value)}
    {f25:Addr} {oc25 kV25 doc25 pm25 cd25 ct25:Value} {od25 an25:Option Addr} {sl25:Array (Option Value)}
    {f26:Addr} {oc26 kV26 doc26 pm26 cd26 ct26:Value} {od26 an26:Option Addr} {sl26:Array (Option Value)}
    {f27:Addr} {oc27 kV27 doc27 pm27 cd27 ct27:Value} {od27 an27:Option Addr} {sl27:Array (Option Value)}
    {f28:Addr} {oc28 kV28 doc28 pm28 cd28 ct28:Value} {od28 an28:Option Addr} {sl28:Array (Option Value)}
    {f29:Addr} {oc29 kV29 doc29 pm29 cd29 ct29:Value} {od29 an29:Option Addr} {sl29:Array (Option Value)}
    {f30:Addr} {oc30 kV30 doc30 pm30 cd30 ct30:Value} {od30 an30:Option Addr} {sl30:Array (Option Value)}
    {f31:Addr} {oc31 kV31 doc31 pm31 cd31 ct31:Value} {od31 an31:Option Addr} {sl31:Array (Option Value)}
    {f32:Addr} {oc32 kV32 doc32 pm32 cd32 ct32:Value} {od32 an32:Option Addr} {sl32:Array (Option Value)}
    {f33:Addr} {oc33 kV33 doc33 pm33 cd33 ct33:Value} {od33 an33:Option Addr} {sl33:Array (Option Value)}
    {f34:Addr} {oc34 kV34 doc34 pm34 cd34 ct34:Value} {od34 an34:Option Addr} {sl34:Array (Option Value)}
    {f35:Addr} {oc35 kV35 doc35 pm35 cd35 ct35:Value} {od35 an35:Option Addr} {sl35:Array (Option Value)}
    {f36:Addr} {oc36 kV36 doc36 pm36 cd36 ct36:Value} {od36 an36:Option Addr} {sl36:Array (Option Value)}
    {f37:Addr} {oc37 kV37 doc37 pm37 cd37 ct37:Value} {od37 an37:Option Addr} {sl37:Array (Option Value)}
    {f38:Addr} {oc38 kV38 doc38 pm38 cd38 ct38:Value} {od38 an38:Option Addr} {sl38:Array (Option Value)}
    {f39:Addr} {oc39 kV39 doc39 pm39 cd39 ct39:Value} {od39 an39:Option Addr} {sl39:Array (Option Value)}
    {f40:Addr} {oc40 kV40 doc40 pm40 cd40 ct40:Value} {od40 an40:Option Addr} {sl40:Array (Option Value)}
    {f41:Addr} {oc41 kV41 doc41 pm41 cd41 ct41:Value} {od41 an41:Option Addr} {sl41:Array (Option Value)}
    {f42:Addr} {oc42 kV42 doc42 pm42 cd42 ct42:Value} {od42 an42:Option Addr} {sl42:Array (Option Value)}
    {f43:Addr} {oc43 kV43 doc43 pm43 cd43 ct43:Value} {od43 an43:Option Addr} {sl43:Array (Option Value)}
    {f44:Addr} {oc44 kV44 doc44 pm44 cd44 ct44:Value} {od44 an44:Option Addr} {sl44:Array (Option Value)}
    {f45:Addr} {oc45 kV45 doc45 pm45 cd45 ct45:Value} {od45 an45:Option Addr} {sl45:Array (Option Value)}
    {f46:Addr} {oc46 kV46 doc46 pm46 cd46 ct46:Value} {od46 an46:Option Addr} {sl46:Array (Option Value)}
    {f47:Addr} {oc47 kV47 doc47 pm47 cd47 ct47:Value} {od47 an47:Option Addr} {sl47:Array (Option Value)}
    {f48:Addr} {oc48 kV48 doc48 pm48 cd48 ct48:Value} {od48 an48:Option Addr} {sl48:Array (Option Value)}
    {f49:Addr} {oc49 kV49 doc49 pm49 cd49 ct49:Value} {od49 an49:Option Addr} {sl49:Array (Option Value)}
    {u0:Value}
    {u1:Value}
    {u2:Value}
    {u3:Value}
    {u4:Value}
    {u5:Value}
    {u6:Value}
    {u7:Value}
    (aC:AM K AJ "Land" = some (some (.ref C))) (pgC:DZ K C Str.empty = true) (hdC:Dz K C = true) (poC:FI K C = true) (saC:Ap K (.ref C) "__setattr__" = some (some (.builtin "object.__setattr__"))) (mkC:EO K C = true) (kpC:AH K (.ref C) = true)
    (n_field_rows:Ap K (.ref C) "field_rows" = some none)
    (n_dyke_rows:Ap K (.ref C) "dyke_rows" = some none)
    (iha:Ap K (.ref C) "__class__" = some (some (.builtin "object.__class__"))) (ihn:Dy K (.builtin "object.__class__") "__get__" = some (some (.builtin "getset_descriptor.__get__"))) (iht:FV K (.builtin "object.__class__") = some true) (ihm:PySem.W.mroIn K C (.type "object") = some true)
    (ma18:Ap K (.ref C) "__init__" = some (some (.ref fm18))) (mi18:Bn K (.ref fm18) = true) (ml18:K.lookup fm18 = some ⟨ocm18,odm18,.func (AO "__init__" "Land.__init__" (aM gX) (aJ gX) (aB gX) .none kVm18 docm18 pmm18 anm18 cdm18 ctm18),slm18⟩) (mc18:AK K cdm18 "Land.__init__" = true) (mk18:AH K (.ref fm18) = true)
    (ma19:Ap K (.ref C) "fields" = some (some (.ref fm19))) (mi19:Bn K (.ref fm19) = true) (ml19:K.lookup fm19 = some ⟨ocm19,odm19,.func (AO "fields" "Land.fields" (aM gC) (aJ gC) (aB gC) .none kVm19 docm19 pmm19 anm19 cdm19 ctm19),slm19⟩) (mc19:AK K cdm19 "Land.fields" = true) (mk19:AH K (.ref fm19) = true)
    (ma20:Ap K (.ref C) "dykes" = some (some (.ref fm20))) (mi20:Bn K (.ref fm20) = true) (ml20:K.lookup fm20 = some ⟨ocm20,odm20,.func (AO "dykes" "Land.dykes" (aM fA) (aJ fA) (aB fA) .none kVm20 docm20 pmm20 anm20 cdm20 ctm20),slm20⟩) (mc20:AK K cdm20 "Land.dykes" = true) (mk20:AH K (.ref fm20) = true)
    (ma21:Ap K (.ref C) "field_names" = some (some (.ref fm21))) (mi21:Bn K (.ref fm21) = true) (ml21:K.lookup fm21 = some ⟨ocm21,odm21,.func (AO "field_names" "Land.field_names" (aM cN) (aJ cN) (aB cN) .none kVm21 docm21 pmm21 anm21 cdm21 ctm21),slm21⟩) (mc21:AK K cdm21 "Land.field_names" = true) (mk21:AH K (.ref fm21) = true)
    (ma22:Ap K (.ref C) "dyke_names" = some (some (.ref fm22))) (mi22:Bn K (.ref fm22) = true) (ml22:K.lookup fm22 = some ⟨ocm22,odm22,.func (AO "dyke_names" "Land.dyke_names" (aM cV) (aJ cV) (aB cV) .none kVm22 docm22 pmm22 anm22 cdm22 ctm22),slm22⟩) (mc22:AK K cdm22 "Land.dyke_names" = true) (mk22:AH K (.ref fm22) = true)
    (ma23:Ap K (.ref C) "sluices" = some (some (.ref fm23))) (mi23:Bn K (.ref fm23) = true) (ml23:K.lookup fm23 = some ⟨ocm23,odm23,.func (AO "sluices" "Land.sluices" (aM fH) (aJ fH) (aB fH) .none kVm23 docm23 pmm23 anm23 cdm23 ctm23),slm23⟩) (mc23:AK K cdm23 "Land.sluices" = true) (mk23:AH K (.ref fm23) = true)
    (ma24:Ap K (.ref C) "ground" = some (some (.ref fm24))) (mi24:Bn K (.ref fm24) = true) (ml24:K.lookup fm24 = some ⟨ocm24,odm24,.func (AO "ground" "Land.ground" (aM eI) (aJ eI) (aB eI) .none kVm24 docm24 pmm24 anm24 cdm24 ctm24),slm24⟩) (mc24:AK K cdm24 "Land.ground" = true) (mk24:AH K (.ref fm24) = true)
    (ma25:Ap K (.ref C) "dues" = some (some (.ref fm25))) (mi25:Bn K (.ref fm25) = true) (ml25:K.lookup fm25 = some ⟨ocm25,odm25,.func (AO "dues" "Land.dues" (aM iK) (aJ iK) (aB iK) .none kVm25 docm25 pmm25 anm25 cdm25 ctm25),slm25⟩) (mc25:AK K cdm25 "Land.dues" = true) (mk25:AH K (.ref fm25) = true)
    (ma26:Ap K (.ref C) "dyke" = some (some (.ref fm26))) (mi26:Bn K (.ref fm26) = true) (ml26:K.lookup fm26 = some ⟨ocm26,odm26,.func (AO "dyke" "Land.dyke" (aM fV) (aJ fV) (aB fV) .none kVm26 docm26 pmm26 anm26 cdm26 ctm26),slm26⟩) (mc26:AK K cdm26 "Land.dyke" = true) (mk26:AH K (.ref fm26) = true)
    (ma27:Ap K (.ref C) "raised" = some (some (.ref fm27))) (mi27:Bn K (.ref fm27) = true) (ml27:K.lookup fm27 = some ⟨ocm27,odm27,.func (AO "raised" "Land.raised" (aM gB) (aJ gB) (aB gB) .none kVm27 docm27 pmm27 anm27 cdm27 ctm27),slm27⟩) (mc27:AK K cdm27 "Land.raised" = true) (mk27:AH K (.ref fm27) = true)
    (a0:AM K AJ "_wall" = some (some (.ref f0))) (l0:K.lookup f0 = some ⟨oc0,od0,.func (AO "_wall" "_wall" (aM qC) (aJ qC) (aB qC) .none kV0 doc0 pm0 an0 cd0 ct0),sl0⟩) (c0:AK K cd0 "_wall" = true) (k0:AH K (.ref f0) = true)
    (a1:AM K AJ "is_whole" = some (some (.ref f1))) (l1:K.lookup f1 = some ⟨oc1,od1,.func (AO "is_whole" "is_whole" (aM gR) (aJ gR) (aB gR) .none kV1 doc1 pm1 an1 cd1 ct1),sl1⟩) (c1:AK K cd1 "is_whole" = true) (k1:AH K (.ref f1) = true)
    (a2:AM K AJ "is_name" = some (some (.ref f2))) (l2:K.lookup f2 = some ⟨oc2,od2,.func (AO "is_name" "is_name" (aM iT) (aJ iT) (aB iT) .none kV2 doc2 pm2 an2 cd2 ct2),sl2⟩) (c2:AK K cd2 "is_name" = true) (k2:AH K (.ref f2) = true)
    (a3:AM K AJ "is_height" = some (some (.ref f3))) (l3:K.lookup f3 = some ⟨oc3,od3,.func (AO "is_height" "is_height" (aM fN) (aJ fN) (aB fN) .none kV3 doc3 pm3 an3 cd3 ct3),sl3⟩) (c3:AK K cd3 "is_height" = true) (k3:AH K (.ref f3) = true)
    (a4:AM K AJ "is_amount" = some (some (.ref f4))) (l4:K.lookup f4 = some ⟨oc4,od4,.func (AO "is_amount" "is_amount" (aM fO) (aJ fO) (aB fO) .none kV4 doc4 pm4 an4 cd4 ct4),sl4⟩) (c4:AK K cd4 "is_amount" = true) (k4:AH K (.ref f4) = true)
    (a5:AM K AJ "is_one_of" = some (some (.ref f5))) (l5:K.lookup f5 = some ⟨oc5,od5,.func (AO "is_one_of" "is_one_of" (aM fM) (aJ fM) (aB fM) .none kV5 doc5 pm5 an5 cd5 ct5),sl5⟩) (c5:AK K cd5 "is_one_of" = true) (k5:AH K (.ref f5) = true)
    (a6:AM K AJ "is_list_of" = some (some (.ref f6))) (l6:K.lookup f6 = some ⟨oc6,od6,.func (AO "is_list_of" "is_list_of" (aM eV) (aJ eV) (aB eV) .none kV6 doc6 pm6 an6 cd6 ct6),sl6⟩) (c6:AK K cd6 "is_list_of" = true) (k6:AH K (.ref f6) = true)
    (a7:AM K AJ "is_tuple_of" = some (some (.ref f7))) (l7:K.lookup f7 = some ⟨oc7,od7,.func (AO "is_tuple_of" "is_tuple_of" (aM eE) (aJ eE) (aB eE) .none kV7 doc7 pm7 an7 cd7 ct7),sl7⟩) (c7:AK K cd7 "is_tuple_of" = true) (k7:AH K (.ref f7) = true)
    (a8:AM K AJ "none_twice" = some (some (.ref f8))) (l8:K.lookup f8 = some ⟨oc8,od8,.func (AO "none_twice" "none_twice" (aM eU) (aJ eU) (aB eU) .none kV8 doc8 pm8 an8 cd8 ct8),sl8⟩) (c8:AK K cd8 "none_twice" = true) (k8:AH K (.ref f8) = true)
    (a9:AM K AJ "is_field" = some (some (.ref f9))) (l9:K.lookup f9 = some ⟨oc9,od9,.func (AO "is_field" "is_field" (aM gT) (aJ gT) (aB gT) .none kV9 doc9 pm9 an9 cd9 ct9),sl9⟩) (c9:AK K cd9 "is_field" = true) (k9:AH K (.ref f9) = true)
    (a10:AM K AJ "are_fields" = some (some (.ref f10))) (l10:K.lookup f10 = some ⟨oc10,od10,.func (AO "are_fields" "are_fields" (aM eZ) (aJ eZ) (aB eZ) .none kV10 doc10 pm10 an10 cd10 ct10),sl10⟩) (c10:AK K cd10 "are_fields" = true) (k10:AH K (.ref f10) = true)
    (a11:AM K AJ "are_sides" = some (some (.ref f11))) (l11:K.lookup f11 = some ⟨oc11,od11,.func (AO "are_sides" "are_sides" (aM fS) (aJ fS) (aB fS) .none kV11 doc11 pm11 an11 cd11 ct11),sl11⟩) (c11:AK K cd11 "are_sides" = true) (k11:AH K (.ref f11) = true)
    (a12:AM K AJ "is_sill" = some (some (.ref f12))) (l12:K.lookup f12 = some ⟨oc12,od12,.func (AO "is_sill" "is_sill" (aM iS) (aJ iS) (aB iS) .none kV12 doc12 pm12 an12 cd12 ct12),sl12⟩) (c12:AK K cd12 "is_sill" = true) (k12:AH K (.ref f12) = true)
    (a13:AM K AJ "is_dyke" = some (some (.ref f13))) (l13:K.lookup f13 = some ⟨oc13,od13,.func (AO "is_dyke" "is_dyke" (aM iU) (aJ iU) (aB iU) .none kV13 doc13 pm13 an13 cd13 ct13),sl13⟩) (c13:AK K cd13 "is_dyke" = true) (k13:AH K (.ref f13) = true)
    (a14:AM K AJ "are_dykes" = some (some (.ref f14))) (l14:K.lookup f14 = some ⟨oc14,od14,.func (AO "are_dykes" "are_dykes" (aM fU) (aJ fU) (aB fU) .none kV14 doc14 pm14 an14 cd14 ct14),sl14⟩) (c14:AK K cd14 "are_dykes" = true) (k14:AH K (.ref f14) = true)
    (a15:AM K AJ "is_work" = some (some (.ref f15))) (l15:K.lookup f15 = some ⟨oc15,od15,.func (AO "is_work" "is_work" (aM iR) (aJ iR) (aB iR) .none kV15 doc15 pm15 an15 cd15 ct15),sl15⟩) (c15:AK K cd15 "is_work" = true) (k15:AH K (.ref f15) = true)
    (a16:AM K AJ "are_works" = some (some (.ref f16))) (l16:K.lookup f16 = some ⟨oc16,od16,.func (AO "are_works" "are_works" (aM fR) (aJ fR) (aB fR) .none kV16 doc16 pm16 an16 cd16 ct16),sl16⟩) (c16:AK K cd16 "are_works" = true) (k16:AH K (.ref f16) = true)
    (a17:AM K AJ "are_some_fields" = some (some (.ref f17))) (l17:K.lookup f17 = some ⟨oc17,od17,.func (AO "are_some_fields" "are_some_fields" (aM cU) (aJ cU) (aB cU) .none kV17 doc17 pm17 an17 cd17 ct17),sl17⟩) (c17:AK K cd17 "are_some_fields" = true) (k17:AH K (.ref f17) = true)
    (a18:AM K AJ "spread" = some (some (.ref f18))) (l18:K.lookup f18 = some ⟨oc18,od18,.func (AO "spread" "spread" (aM jM) (aJ jM) (aB jM) .none kV18 doc18 pm18 an18 cd18 ct18),sl18⟩) (c18:AK K cd18 "spread" = true) (k18:AH K (.ref f18) = true)
    (a19:AM K AJ "path_to" = some (some (.ref f19))) (l19:K.lookup f19 = some ⟨oc19,od19,.func (AO "path_to" "path_to" (aM iQ) (aJ iQ) (aB iQ) .none kV19 doc19 pm19 an19 cd19 ct19),sl19⟩) (c19:AK K cd19 "path_to" = true) (k19:AH K (.ref f19) = true)
    (a20:AM K AJ "check_wish" = some (some (.ref f20))) (l20:K.lookup f20 = some ⟨oc20,od20,.func (AO "check_wish" "check_wish" (aM eW) (aJ eW) (aB eW) .none kV20 doc20 pm20 an20 cd20 ct20),sl20⟩) (c20:AK K cd20 "check_wish" = true) (k20:AH K (.ref f20) = true)
    (a21:AM K AJ "coins_to" = some (some (.ref f21))) (l21:K.lookup f21 = some ⟨oc21,od21,.func (AO "coins_to" "coins_to" (aM gU) (aJ gU) (aB gU) .none kV21 doc21 pm21 an21 cd21 ct21),sl21⟩) (c21:AK K cd21 "coins_to" = true) (k21:AH K (.ref f21) = true)
    (a22:AM K AJ "coins_of" = some (some (.ref f22))) (l22:K.lookup f22 = some ⟨oc22,od22,.func (AO "coins_of" "coins_of" (aM gW) (aJ gW) (aB gW) .none kV22 doc22 pm22 an22 cd22 ct22),sl22⟩) (c22:AK K cd22 "coins_of" = true) (k22:AH K (.ref f22) = true)
    (a23:AM K AJ "is_low" = some (some (.ref f23))) (l23:K.lookup f23 = some ⟨oc23,od23,.func (AO "is_low" "is_low" (aM jN) (aJ jN) (aB jN) .none kV23 doc23 pm23 an23 cd23 ct23),sl23⟩) (c23:AK K cd23 "is_low" = true) (k23:AH K (.ref f23) = true)
    (a24:AM K AJ "is_gap" = some (some (.ref f24))) (l24:K.lookup f24 = some ⟨oc24,od24,.func (AO "is_gap" "is_gap" (aM jO) (aJ jO) (aB jO) .none kV24 doc24 pm24 an24 cd24 ct24),sl24⟩) (c24:AK K cd24 "is_gap" = true) (k24:AH K (.ref f24) = true)
    (a25:AM K AJ "gap_coins" = some (some (.ref f25))) (l25:K.lookup f25 = some ⟨oc25,od25,.func (AO "gap_coins" "gap_coins" (aM fP) (aJ fP) (aB fP) .none kV25 doc25 pm25 an25 cd25 ct25),sl25⟩) (c25:AK K cd25 "gap_coins" = true) (k25:AH K (.ref f25) = true)
    (a26:AM K AJ "steps_over" = some (some (.ref f26))) (l26:K.lookup f26 = some ⟨oc26,od26,.func (AO "steps_over" "steps_over" (aM eS) (aJ eS) (aB eS) .none kV26 doc26 pm26 an26 cd26 ct26),sl26⟩) (c26:AK K cd26 "steps_over" = true) (k26:AH K (.ref f26) = true)
    (a27:AM K AJ "room" = some (some (.ref f27))) (l27:K.lookup f27 = some ⟨oc27,od27,.func (AO "room" "room" (aM mX) (aJ mX) (aB mX) .none kV27 doc27 pm27 an27 cd27 ct27),sl27⟩) (c27:AK K cd27 "room" = true) (k27:AH K (.ref f27) = true)
    (a28:AM K AJ "reached" = some (some (.ref f28))) (l28:K.lookup f28 = some ⟨oc28,od28,.func (AO "reached" "reached" (aM iP) (aJ iP) (aB iP) .none kV28 doc28 pm28 an28 cd28 ct28),sl28⟩) (c28:AK K cd28 "reached" = true) (k28:AH K (.ref f28) = true)
    (a29:AM K AJ "path_with_room" = some (some (.ref f29))) (l29:K.lookup f29 = some ⟨oc29,od29,.func (AO "path_with_room" "path_with_room" (aM cX) (aJ cX) (aB cX) .none kV29 doc29 pm29 an29 cd29 ct29),sl29⟩) (c29:AK K cd29 "path_with_room" = true) (k29:AH K (.ref f29) = true)
    (a30:AM K AJ "fullest_stream" = some (some (.ref f30))) (l30:K.lookup f30 = some ⟨oc30,od30,.func (AO "fullest_stream" "fullest_stream" (aM cY) (aJ cY) (aB cY) .none kV30 doc30 pm30 an30 cd30 ct30),sl30⟩) (c30:AK K cd30 "fullest_stream" = true) (k30:AH K (.ref f30) = true)
    (a31:AM K AJ "works_round" = some (some (.ref f31))) (l31:K.lookup f31 = some ⟨oc31,od31,.func (AO "works_round" "works_round" (aM dZ) (aJ dZ) (aB dZ) .none kV31 doc31 pm31 an31 cd31 ct31),sl31⟩) (c31:AK K cd31 "works_round" = true) (k31:AH K (.ref f31) = true)
    (a32:AM K AJ "fewest" = some (some (.ref f32))) (l32:K.lookup f32 = some ⟨oc32,od32,.func (AO "fewest" "fewest" (aM jP) (aJ jP) (aB jP) .none kV32 doc32 pm32 an32 cd32 ct32),sl32⟩) (c32:AK K cd32 "fewest" = true) (k32:AH K (.ref f32) = true)
    (a33:AM K AJ "cost_of_none" = some (some (.ref f33))) (l33:K.lookup f33 = some ⟨oc33,od33,.func (AO "cost_of_none" "cost_of_none" (aM dP) (aJ dP) (aB dP) .none kV33 doc33 pm33 an33 cd33 ct33),sl33⟩) (c33:AK K cd33 "cost_of_none" = true) (k33:AH K (.ref f33) = true)
    (a34:AM K AJ "cost" = some (some (.ref f34))) (l34:K.lookup f34 = some ⟨oc34,od34,.func (AO "cost" "cost" (aM mY) (aJ mY) (aB mY) .none kV34 doc34 pm34 an34 cd34 ct34),sl34⟩) (c34:AK K cd34 "cost" = true) (k34:AH K (.ref f34) = true)
    (a35:AM K AJ "saved" = some (some (.ref f35))) (l35:K.lookup f35 = some ⟨oc35,od35,.func (AO "saved" "saved" (aM kT) (aJ kT) (aB kT) .none kV35 doc35 pm35 an35 cd35 ct35),sl35⟩) (c35:AK K cd35 "saved" = true) (k35:AH K (.ref f35) = true)
    (a36:AM K AJ "lists_of_places" = some (some (.ref f36))) (l36:K.lookup f36 = some ⟨oc36,od36,.func (AO "lists_of_places" "lists_of_places" (aM cR) (aJ cR) (aB cR) .none kV36 doc36 pm36 an36 cd36 ct36),sl36⟩) (c36:AK K cd36 "lists_of_places" = true) (k36:AH K (.ref f36) = true)
    (a37:AM K AJ "companies" = some (some (.ref f37))) (l37:K.lookup f37 = some ⟨oc37,od37,.func (AO "companies" "companies" (aM fQ) (aJ fQ) (aB fQ) .none kV37 doc37 pm37 an37 cd37 ct37),sl37⟩) (c37:AK K cd37 "companies" = true) (k37:AH K (.ref f37) = true)
    (a38:AM K AJ "_law_cell_at" = some (some (.ref f38))) (l38:K.lookup f38 = some ⟨oc38,od38,.func (AO "_law_cell_at" "_law_cell_at" (aM iV) (aJ iV) (aB iV) .none kV38 doc38 pm38 an38 cd38 ct38),sl38⟩) (c38:AK K cd38 "_law_cell_at" = true) (k38:AH K (.ref f38) = true)
    (a39:AM K AJ "_law_mixed" = some (some (.ref f39))) (l39:K.lookup f39 = some ⟨oc39,od39,.func (AO "_law_mixed" "_law_mixed" (aM kW) (aJ kW) (aB kW) .none kV39 doc39 pm39 an39 cd39 ct39),sl39⟩) (c39:AK K cd39 "_law_mixed" = true) (k39:AH K (.ref f39) = true)
    (a40:AM K AJ "_law_words" = some (some (.ref f40))) (l40:K.lookup f40 = some ⟨oc40,od40,.func (AO "_law_words" "_law_words" (aM hW) (aJ hW) (aB hW) .none kV40 doc40 pm40 an40 cd40 ct40),sl40⟩) (c40:AK K cd40 "_law_words" = true) (k40:AH K (.ref f40) = true)
    (a41:AM K AJ "_law_high" = some (some (.ref f41))) (l41:K.lookup f41 = some ⟨oc41,od41,.func (AO "_law_high" "_law_high" (aM nC) (aJ nC) (aB nC) .none kV41 doc41 pm41 an41 cd41 ct41),sl41⟩) (c41:AK K cd41 "_law_high" = true) (k41:AH K (.ref f41) = true)
    (a42:AM K AJ "_law_most" = some (some (.ref f42))) (l42:K.lookup f42 = some ⟨oc42,od42,.func (AO "_law_most" "_law_most" (aM mZ) (aJ mZ) (aB mZ) .none kV42 doc42 pm42 an42 cd42 ct42),sl42⟩) (c42:AK K cd42 "_law_most" = true) (k42:AH K (.ref f42) = true)
    (a43:AM K AJ "_law_fields" = some (some (.ref f43))) (l43:K.lookup f43 = some ⟨oc43,od43,.func (AO "_law_fields" "_law_fields" (aM jQ) (aJ jQ) (aB jQ) .none kV43 doc43 pm43 an43 cd43 ct43),sl43⟩) (c43:AK K cd43 "_law_fields" = true) (k43:AH K (.ref f43) = true)
    (a44:AM K AJ "_law_dykes" = some (some (.ref f44))) (l44:K.lookup f44 = some ⟨oc44,od44,.func (AO "_law_dykes" "_law_dykes" (aM kX) (aJ kX) (aB kX) .none kV44 doc44 pm44 an44 cd44 ct44),sl44⟩) (c44:AK K cd44 "_law_dykes" = true) (k44:AH K (.ref f44) = true)
    (a45:AM K AJ "_law_small" = some (some (.ref f45))) (l45:K.lookup f45 = some ⟨oc45,od45,.func (AO "_law_small" "_law_small" (aM kU) (aJ kU) (aB kU) .none kV45 doc45 pm45 an45 cd45 ct45),sl45⟩) (c45:AK K cd45 "_law_small" = true) (k45:AH K (.ref f45) = true)
    (a46:AM K AJ "_law_costs" = some (some (.ref f46))) (l46:K.lookup f46 = some ⟨oc46,od46,.func (AO "_law_costs" "_law_costs" (aM kY) (aJ kY) (aB kY) .none kV46 doc46 pm46 an46 cd46 ct46),sl46⟩) (c46:AK K cd46 "_law_costs" = true) (k46:AH K (.ref f46) = true)
    (a47:AM K AJ "_law_together" = some (some (.ref f47))) (l47:K.lookup f47 = some ⟨oc47,od47,.func (AO "_law_together" "_law_together" (aM gY) (aJ gY) (aB gY) .none kV47 doc47 pm47 an47 cd47 ct47),sl47⟩) (c47:AK K cd47 "_law_together" = true) (k47:AH K (.ref f47) = true)
    (a48:AM K AJ "_law_adds" = some (some (.ref f48))) (l48:K.lookup f48 = some ⟨oc48,od48,.func (AO "_law_adds" "_law_adds" (aM nE) (aJ nE) (aB nE) .none kV48 doc48 pm48 an48 cd48 ct48),sl48⟩) (c48:AK K cd48 "_law_adds" = true) (k48:AH K (.ref f48) = true)
    (a49:AM K AJ "law" = some (some (.ref f49))) (l49:K.lookup f49 = some ⟨oc49,od49,.func (AO "law" "law" (aM oK) (aJ oK) (aB oK) .none kV49 doc49 pm49 an49 cd49 ct49),sl49⟩) (c49:AK K cd49 "law" = true) (k49:AH K (.ref f49) = true)
    (g0:AM K AJ "SEA" = some (some u0)) (r0:bG (.str "sea") u0)
    (g1:AM K AJ "LETTERS" = some (some u1)) (r1:bG (.str "abcdefghijklmnopqrstuvwxyz") u1)
    (g2:AM K AJ "MOST_LETTERS" = some (some u2)) (r2:bG (.int 8) u2)
    (g3:AM K AJ "MOST_HEIGHT" = some (some u3)) (r3:bG (.int 1000000) u3)
    (g4:AM K AJ "MOST_AMOUNT" = some (some u4)) (r4:bG (.int 1000000) u4)
    (g5:AM K AJ "MOST_FIELDS" = some (some u5)) (r5:bG (.int 12) u5)
    (g6:AM K AJ "MOST_DYKES" = some (some u6)) (r6:bG (.int 40) u6)
    (g7:AM K AJ "MOST_IN_A_WISH" = some (some u7)) (r7:bG (.int 8) u7)
    (z0:AM K AJ "all" = some none)
    (z1:AM K AJ "bool" = some none)
    (z2:AM K AJ "dict" = some none)
    (z3:AM K AJ "int" = some none)
    (z4:AM K AJ "isinstance" = some none)
    (z5:AM K AJ "len" = some none)
    (z6:AM K AJ "list" = some none)
    (z7:AM K AJ "max" = some none)
    (z8:AM K AJ "min" = some none)
    (z9:AM K AJ "range" = some none)
    (z10:AM K AJ "reversed" = some none)
    (z11:AM K AJ "set" = some none)
    (z12:AM K AJ "sorted" = some none)
    (z13:AM K AJ "str" = some none)
    (z14:AM K AJ "sum" = some none)
    (z15:AM K AJ "tuple" = some none)  :Txt K mg C :=
  ⟨⟨pgC,hdC,poC,saC⟩,
   PySem.W.mg_of X G aC,
   n_field_rows,
   n_dyke_rows,
   ⟨iha,ihn,iht,ihm⟩,
   aOP ma18 mi18 ml18 mc18 mk18 mkC kpC (fun _ _ _ _ _ _ us hl=>match us,hl with | [_,_,_],_=>rfl),
   jG ma19 mi19 ml19 mc19 mk19 (fun _ _ _ _ _ _ us hl=>match us,hl with | [_],_=>rfl),
   jG ma20 mi20 ml20 mc20 mk20 (fun _ _ _ _ _ _ us hl=>match us,hl with | [_],_=>rfl),
   jG ma21 mi21 ml21 mc21 mk21 (fun _ _ _ _ _ _ us hl=>match us,hl with | [_],_=>rfl),
   jG ma22 mi22 ml22 mc22 mk22 (fun _ _ _ _ _ _ us hl=>match us,hl with | [_],_=>rfl),
   jG ma23 mi23 ml23 mc23 mk23 (fun _ _ _ _ _ _ us hl=>match us,hl with | [_],_=>rfl),
   jG ma24 mi24 ml24 mc24 mk24 (fun _ _ _ _ _ _ us hl=>match us,hl with | [_,_],_=>rfl),
   jG ma25 mi25 ml25 mc25 mk25 (fun _ _ _ _ _ _ us hl=>match us,hl with | [_,_],_=>rfl),
   jG ma26 mi26 ml26 mc26 mk26 (fun _ _ _ _ _ _ us hl=>match us,hl with | [_,_],_=>rfl),
   jG ma27 mi27 ml27 mc27 mk27 (fun _ _ _ _ _ _ us hl=>match us,hl with | [_,_],_=>rfl),
   bB X G a0 l0 c0 k0 (fun _ _ _ _ _ _ us hl=>match us,hl with | [_],_=>rfl),
   bB X G a1 l1 c1 k1 (fun _ _ _ _ _ _ us hl=>match us,hl with | [_],_=>rfl),
   bB X G a2 l2 c2 k2 (fun _ _ _ _ _ _ us hl=>match us,hl with | [_],_=>rfl),
   bB X G a3 l3 c3 k3 (fun _ _ _ _ _ _ us hl=>match us,hl with | [_],_=>rfl),
   bB X G a4 l4 c4 k4 (fun _ _ _ _ _ _ us hl=>match us,hl with | [_],_=>rfl),
   bB X G a5 l5 c5 k5 (fun _ _ _ _ _ _ us hl=>match us,hl with | [_,_],_=>rfl),
   bB X G a6 l6 c6 k6 (fun _ _ _ _ _ _ us hl=>match us,hl with | [_,_],_=>rfl),
   bB X G a7 l7 c7 k7 (fun _ _ _ _ _ _ us hl=>match us,hl with | [_,_],_=>rfl),
   bB X G a8 l8 c8 k8 (fun _ _ _ _ _ _ us hl=>match us,hl with | [_],_=>rfl),
   bB X G a9 l9 c9 k9 (fun _ _ _ _ _ _ us hl=>match us,hl with | [_],_=>rfl),
   bB X G a10 l10 c10 k10 (fun _ _ _ _ _ _ us hl=>match us,hl with | [_],_=>rfl),
   bB X G a11 l11 c11 k11 (fun _ _ _ _ _ _ us hl=>match us,hl with | [_,_,_],_=>rfl),
   bB X G a12 l12 c12 k12 (fun _ _ _ _ _ _ us hl=>match us,hl with | [_,_],_=>rfl),
   bB X G a13 l13 c13 k13 (fun _ _ _ _ _ _ us hl=>match us,hl with | [_,_],_=>rfl),
   bB X G a14 l14 c14 k14 (fun _ _ _ _ _ _ us hl=>match us,hl with | [_,_],_=>rfl),
   bB X G a15 l15 c15 k15 (fun _ _ _ _ _ _ us hl=>match us,hl with | [_,_],_=>rfl),
   bB X G a16 l16 c16 k16 (fun _ _ _ _ _ _ us hl=>match us,hl with | [_,_],_=>rfl),
   bB X G a17 l17 c17 k17 (fun _ _ _ _ _ _ us hl=>match us,hl with | [_,_],_=>rfl),
   bB X G a18 l18 c18 k18 (fun _ _ _ _ _ _ us hl=>match us,hl with | [_,_],_=>rfl),
   bB X G a19 l19 c19 k19 (fun _ _ _ _ _ _ us hl=>match us,hl with | [_,_],_=>rfl),
   bB X G a20 l20 c20 k20 (fun _ _ _ _ _ _ us hl=>match us,hl with | [_,_,_],_=>rfl),
   bB X G a21 l21 c21 k21 (fun _ _ _ _ _ _ us hl=>match us,hl with | [_,_],_=>rfl),
   bB X G a22 l22 c22 k22 (fun _ _ _ _ _ _ us hl=>match us,hl with | [_,_],_=>rfl),
   bB X G a23 l23 c23 k23 (fun _ _ _ _ _ _ us hl=>match us,hl with | [_,_,_],_=>rfl),
   bB X G a24 l24 c24 k24 (fun _ _ _ _ _ _ us hl=>match us,hl with | [_,_,_],_=>rfl),
   bB X G a25 l25 c25 k25 (fun _ _ _ _ _ _ us hl=>match us,hl with | [_,_],_=>rfl),
   bB X G a26 l26 c26 k26 (fun _ _ _ _ _ _ us hl=>match us,hl with | [_,_],_=>rfl),
   bB X G a27 l27 c27 k27 (fun _ _ _ _ _ _ us hl=>match us,hl with | [_,_,_],_=>rfl),
   bB X G a28 l28 c28 k28 (fun _ _ _ _ _ _ us hl=>match us,hl with | [_,_,_],_=>rfl),
   bB X G a29 l29 c29 k29 (fun _ _ _ _ _ _ us hl=>match us,hl with | [_,_,_,_],_=>rfl),
   bB X G a30 l30 c30 k30 (fun _ _ _ _ _ _ us hl=>match us,hl with | [_,_,_],_=>rfl),
   bB X G a31 l31 c31 k31 (fun _ _ _ _ _ _ us hl=>match us,hl with | [_,_,_,_],_=>rfl),
   bB X G a32 l32 c32 k32 (fun _ _ _ _ _ _ us hl=>match us,hl with | [_,_,_],_=>rfl),
   bB X G a33 l33 c33 k33 (fun _ _ _ _ _ _ us hl=>match us,hl with | [_],_=>rfl),
   bB X G a34 l34 c34 k34 (fun _ _ _ _ _ _ us hl=>match us,hl with | [_,_,_],_=>rfl),
   bB X G a35 l35 c35 k35 (fun _ _ _ _ _ _ us hl=>match us,hl with | [_,_,_,_],_=>rfl),
   bB X G a36 l36 c36 k36 (fun _ _ _ _ _ _ us hl=>match us,hl with | [_],_=>rfl),
   bB X G a37 l37 c37 k37 (fun _ _ _ _ _ _ us hl=>match us,hl with | [_,_,_],_=>rfl),
   bB X G a38 l38 c38 k38 (fun _ _ _ _ _ _ us hl=>match us,hl with | [_,_],_=>rfl),
   bB X G a39 l39 c39 k39 (fun _ _ _ _ _ _ us hl=>match us,hl with | [_,_],_=>rfl),
   bB X G a40 l40 c40 k40 (fun _ _ _ _ _ _ us hl=>match us,hl with | [_,_],_=>rfl),
   bB X G a41 l41 c41 k41 (fun _ _ _ _ _ _ us hl=>match us,hl with | [_],_=>rfl),
   bB X G a42 l42 c42 k42 (fun _ _ _ _ _ _ us hl=>match us,hl with | [_],_=>rfl),
   bB X G a43 l43 c43 k43 (fun _ _ _ _ _ _ us hl=>match us,hl with | [_,_],_=>rfl),
   bB X G a44 l44 c44 k44 (fun _ _ _ _ _ _ us hl=>match us,hl with | [_,_,_],_=>rfl),
   bB X G a45 l45 c45 k45 (fun _ _ _ _ _ _ us hl=>match us,hl with | [_],_=>rfl),
   bB X G a46 l46 c46 k46 (fun _ _ _ _ _ _ us hl=>match us,hl with | [_,_,_],_=>rfl),
   bB X G a47 l47 c47 k47 (fun _ _ _ _ _ _ us hl=>match us,hl with | [_,_,_],_=>rfl),
   bB X G a48 l48 c48 k48 (fun _ _ _ _ _ _ us hl=>match us,hl with | [_,_,_,_],_=>rfl),
   bB X G a49 l49 c49 k49 (fun _ _ _ _ _ _ us hl=>match us,hl with | [_],_=>rfl),
   kG X G g0 r0,
   kG X G g1 r1,
   kG X G g2 r2,
   kG X G g3 r3,
   kG X G g4 r4,
   kG X G g5 r5,
   kG X G g6 r6,
   kG X G g7 r7,
   BD X G z0,
   BD X G z1,
   BD X G z2,
   BD X G z3,
   BD X G z4,
   BD X G z5,
   BD X G z6,
   BD X G z7,
   BD X G z8,
   BD X G z9,
   BD X G z10,
   BD X G z11,
   BD X G z12,
   BD X G z13,
   BD X G z14,
   BD X G z15⟩
end K64
namespace PySem.W.Fast
def tw10757791738109071939 := 0
def tw8327492242718619604 := 0
def tw17751935181261836629 := 0
def tw17690033470983569458 := 0
def tw17150569935895110233 := 0
def tw16232463585964499189 := 0
def tw10013377564426824352 := 0
def tw14905434673529066700 := 0
def tw1814226166007990997 := 0
def tw6925031461506123193 := 0
def tw9371485981030462998 := 0
def tw11984120895876604487 := 0
def tw7278784053009310851 := 0
def tw13702904046582215133 := 0
def tw3464941104126229119 := 0
def tw154666395660911905 := 0
def tw17034029182169502479 := 0
def tw5052184149587120470 := 0
def tw10074340004025158714 := 0
def tw9338529628124850775 := 0
def tw16246708605470930582 := 0
def tw12316498186965080765 := 0
def tw6826956099631824944 := 0
def tw11528633782801747643 := 0
def tw10206576659941630413 := 0
def tw9935679711200598470 := 0
def tw4919347694818268046 := 0
def tw7284619836959442185 := 0
def tw4377903341231409623 := 0
def tw14381135150620999178 := 0
def tw7449451088204131660 := 0
def tw14464531921690820964 := 0
def tw1200832215873894185 := 0
def tw7403525788270048491 := 0
def tw10254625880268606561 := 0
def tw12036515059391308086 := 0
def tw17286994846961803074 := 0
def tw4542576985528020193 := 0
def tw5532157995882010986 := 0
def tw5046642399264353893 := 0
def tw5396540535222920762 := 0
def tw11864174535453547416 := 0
def tw12820788232216805088 := 0
def tw1275355181210508629 := 0
def tw7711587540083982788 := 0
def tw17875439981876763535 := 0
def tw5373561171707375101 := 0
def tw17227547226372000742 := 0
def tw13750182376582657025 := 0
def tw1303240878653587785 := 0
def tw14045349022114108505 := 0
def tw6903165073234569585 := 0
def tw17771670361181404306 := 0
def tw12717907289762521166 := 0
def tw8051666734589503018 := 0
def tw3835573029869184560 := 0
def tw8506576077950575521 := 0
def tw14262762941141920553 := 0
def tw9427969334752682175 := 0
def tw12292809132634939023 := 0
def tw10729689013992752508 := 0
def tw17592644689782563997 := 0
def tw12254353111223941179 := 0
def tw7052270148012620913 := 0
def tw5441257097631268402 := 0
def tw15981921403011784416 := 0
def tw4464095224641603028 := 0
def tw6530045977472531285 := 0
def tw3943648022712228176 := 0
def tw17376159652304240331 := 0
def tw15556177222241967345 := 0
def tw4981233891654841055 := 0
def tw16387412593529901533 := 0
def tw11289464589743824468 := 0
def tw4640599470665644263 := 0
def tw4526013352301605658 := 0
def tw7133807004096219210 := 0
def tw10425334917009107744 := 0
def tw9058341801166911900 := 0
def tw13348134833745424800 := 0
def tw3750247454103748470 := 0
def tw8890003722875443300 := 0
def tw2529054935697441652 := 0
def tw16340599184707857984 := 0
def tw13262800056085820461 := 0
def tw14331835904292727439 := 0
def tw18208930079598277027 := 0
def tw2350399171977162103 := 0
def tw7782119840101437101 := 0
def tw14713471318827163753 := 0
def tw8097684294515012708 := 0
def tw11938682140399923024 := 0
def tw14926559003673781995 := 0
def tw6307459362464942952 := 0
def tw269355524341444245 := 0
def tw10548455901471641578 := 0
def tw2391454715213545526 := 0
def tw17428451309208472032 := 0
def tw5176968952281245778 := 0
def tw761890038669283562 := 0
def tw16939954703685431383 := 0
def tw677049542921936617 := 0
def tw17657387869463966901 := 0
def tw14133489058874075463 := 0
def tw6566443329490908019 := 0
def tw8860013852838970774 := 0
end PySem.W.Fast
open PySem PySem.W PyProof.Rows
set_option maxRecDepth 100000 in
set_option maxHeartbeats 0 in
theorem PySem.Challenge.cw_dykemoot_k64_whole_together_never_more_holds : PySem.Challenge.rw_dykemoot_k64_whole_together_never_more.Holds := by
 w_on; o_law; k_head; (case hw => w_witness2)
 k_fill
 refine L2.walk_lawT (l := PySem.Challenge.rw_dykemoot_k64_whole_together_never_more) 12 "lists_of_places" 383 381 ⟨rfl, by decide, by decide⟩ rfl rfl (fun w h Y => PySem.W.km_in_of Y) (fun w h Y => PySem.W.km_tabs_of Y 381 (by k_mem)) (fun w => by kernel_rfl) (fun w => by kernel_rfl) (fun w => by kernel_rfl) ?F
 case F =>
  intro w mg fa h KX G hmg
  refine' K64.law_mk hmg (K64.txt_mk KX G ?xaC ?xpgC ?xhdC ?xpoC ?xsaC ?xmkC ?xkpC ?xn_field_rows ?xn_dyke_rows ?xiha ?xihn ?xiht ?xihm ?xma18 ?xmi18 ?xml18 ?xmc18 ?xmk18 ?xma19 ?xmi19 ?xml19 ?xmc19 ?xmk19 ?xma20 ?xmi20 ?xml20 ?xmc20 ?xmk20 ?xma21 ?xmi21 ?xml21 ?xmc21 ?xmk21 ?xma22 ?xmi22 ?xml22 ?xmc22 ?xmk22 ?xma23 ?xmi23 ?xml23 ?xmc23 ?xmk23 ?xma24 ?xmi24 ?xml24 ?xmc24 ?xmk24 ?xma25 ?xmi25 ?xml25 ?xmc25 ?xmk25 ?xma26 ?xmi26 ?xml26 ?xmc26 ?xmk26 ?xma27 ?xmi27 ?xml27 ?xmc27 ?xmk27 ?xa0 ?xl0 ?xc0 ?xk0 ?xa1 ?xl1 ?xc1 ?xk1 ?xa2 ?xl2 ?xc2 ?xk2 ?xa3 ?xl3 ?xc3 ?xk3 ?xa4 ?xl4 ?xc4 ?xk4 ?xa5 ?xl5 ?xc5 ?xk5 ?xa6 ?xl6 ?xc6 ?xk6 ?xa7 ?xl7 ?xc7 ?xk7 ?xa8 ?xl8 ?xc8 ?xk8 ?xa9 ?xl9 ?xc9 ?xk9 ?xa10 ?xl10 ?xc10 ?xk10 ?xa11 ?xl11 ?xc11 ?xk11 ?xa12 ?xl12 ?xc12 ?xk12 ?xa13 ?xl13 ?xc13 ?xk13 ?xa14 ?xl14 ?xc14 ?xk14 ?xa15 ?xl15 ?xc15 ?xk15 ?xa16 ?xl16 ?xc16 ?xk16 ?xa17 ?xl17 ?xc17 ?xk17 ?xa18 ?xl18 ?xc18 ?xk18 ?xa19 ?xl19 ?xc19 ?xk19 ?xa20 ?xl20 ?xc20 ?xk20 ?xa21 ?xl21 ?xc21 ?xk21 ?xa22 ?xl22 ?xc22 ?xk22 ?xa23 ?xl23 ?xc23 ?xk23 ?xa24 ?xl24 ?xc24 ?xk24 ?xa25 ?xl25 ?xc25 ?xk25 ?xa26 ?xl26 ?xc26 ?xk26 ?xa27 ?xl27 ?xc27 ?xk27 ?xa28 ?xl28 ?xc28 ?xk28 ?xa29 ?xl29 ?xc29 ?xk29 ?xa30 ?xl30 ?xc30 ?xk30 ?xa31 ?xl31 ?xc31 ?xk31 ?xa32 ?xl32 ?xc32 ?xk32 ?xa33 ?xl33 ?xc33 ?xk33 ?xa34 ?xl34 ?xc34 ?xk34 ?xa35 ?xl35 ?xc35 ?xk35 ?xa36 ?xl36 ?xc36 ?xk36 ?xa37 ?xl37 ?xc37 ?xk37 ?xa38 ?xl38 ?xc38 ?xk38 ?xa39 ?xl39 ?xc39 ?xk39 ?xa40 ?xl40 ?xc40 ?xk40 ?xa41 ?xl41 ?xc41 ?xk41 ?xa42 ?xl42 ?xc42 ?xk42 ?xa43 ?xl43 ?xc43 ?xk43 ?xa44 ?xl44 ?xc44 ?xk44 ?xa45 ?xl45 ?xc45 ?xk45 ?xa46 ?xl46 ?xc46 ?xk46 ?xa47 ?xl47 ?xc47 ?xk47 ?xa48 ?xl48 ?xc48 ?xk48 ?xa49 ?xl49 ?xc49 ?xk49 ?xg0 ?xr0 ?xg1 ?xr1 ?xg2 ?xr2 ?xg3 ?xr3 ?xg4 ?xr4 ?xg5 ?xr5 ?xg6 ?xr6 ?xg7 ?xr7 ?xz0 ?xz1 ?xz2 ?xz3 ?xz4 ?xz5 ?xz6 ?xz7 ?xz8 ?xz9 ?xz10 ?xz11 ?xz12 ?xz13 ?xz14 ?xz15)
  (case xaC => k_is)
  (case xpgC => k_is)
  (case xhdC => k_is)
  (case xpoC => k_is)
  (case xsaC => k_is)
  (case xmkC => k_is)
  (case xkpC => k_is)
  (case xn_field_rows => k_is)
  (case xn_dyke_rows => k_is)
  (case xiha => k_is)
  (case xihn => k_is)
  (case xiht => k_is)
  (case xihm => k_is)
  (case xma18 => k_is)
  (case xmi18 => k_is)
  (case xml18 => k_is)
  (case xmc18 => k_is)
  (case xmk18 => k_is)
  (case xma19 => k_is)
  (case xmi19 => k_is)
  (case xml19 => k_is)
  (case xmc19 => k_is)
  (case xmk19 => k_is)
  (case xma20 => k_is)
  (case xmi20 => k_is)
  (case xml20 => k_is)
  (case xmc20 => k_is)
  (case xmk20 => k_is)
  (case xma21 => k_is)
  (case xmi21 => k_is)
  (case xml21 => k_is)
  (case xmc21 => k_is)
  (case xmk21 => k_is)
  (case xma22 => k_is)
  (case xmi22 => k_is)
  (case xml22 => k_is)
  (case xmc22 => k_is)
  (case xmk22 => k_is)
  (case xma23 => k_is)
  (case xmi23 => k_is)
  (case xml23 => k_is)
  (case xmc23 => k_is)
  (case xmk23 => k_is)
  (case xma24 => k_is)
  (case xmi24 => k_is)
  (case xml24 => k_is)
  (case xmc24 => k_is)
  (case xmk24 => k_is)
  (case xma25 => k_is)
  (case xmi25 => k_is)
  (case xml25 => k_is)
  (case xmc25 => k_is)
  (case xmk25 => k_is)
  (case xma26 => k_is)
  (case xmi26 => k_is)
  (case xml26 => k_is)
  (case xmc26 => k_is)
  (case xmk26 => k_is)
  (case xma27 => k_is)
  (case xmi27 => k_is)
  (case xml27 => k_is)
  (case xmc27 => k_is)
  (case xmk27 => k_is)
  (case xa0 => k_is)
  (case xl0 => k_is)
  (case xc0 => k_is)
  (case xk0 => k_is)
  (case xa1 => k_is)
  (case xl1 => k_is)
  (case xc1 => k_is)
  (case xk1 => k_is)
  (case xa2 => k_is)
  (case xl2 => k_is)
  (case xc2 => k_is)
  (case xk2 => k_is)
  (case xa3 => k_is)
  (case xl3 => k_is)
  (case xc3 => k_is)
  (case xk3 => k_is)
  (case xa4 => k_is)
  (case xl4 => k_is)
  (case xc4 => k_is)
  (case xk4 => k_is)
  (case xa5 => k_is)
  (case xl5 => k_is)
  (case xc5 => k_is)
  (case xk5 => k_is)
  (case xa6 => k_is)
  (case xl6 => k_is)
  (case xc6 => k_is)
  (case xk6 => k_is)
  (case xa7 => k_is)
  (case xl7 => k_is)
  (case xc7 => k_is)
  (case xk7 => k_is)
  (case xa8 => k_is)
  (case xl8 => k_is)
  (case xc8 => k_is)
  (case xk8 => k_is)
  (case xa9 => k_is)
  (case xl9 => k_is)
  (case xc9 => k_is)
  (case xk9 => k_is)
  (case xa10 => k_is)
  (case xl10 => k_is)
  (case xc10 => k_is)
  (case xk10 => k_is)
  (case xa11 => k_is)
  (case xl11 => k_is)
  (case xc11 => k_is)
  (case xk11 => k_is)
  (case xa12 => k_is)
  (case xl12 => k_is)
  (case xc12 => k_is)
  (case xk12 => k_is)
  (case xa13 => k_is)
  (case xl13 => k_is)
  (case xc13 => k_is)
  (case xk13 => k_is)
  (case xa14 => k_is)
  (case xl14 => k_is)
  (case xc14 => k_is)
  (case xk14 => k_is)
  (case xa15 => k_is)
  (case xl15 => k_is)
  (case xc15 => k_is)
  (case xk15 => k_is)
  (case xa16 => k_is)
  (case xl16 => k_is)
  (case xc16 => k_is)
  (case xk16 => k_is)
  (case xa17 => k_is)
  (case xl17 => k_is)
  (case xc17 => k_is)
  (case xk17 => k_is)
  (case xa18 => k_is)
  (case xl18 => k_is)
  (case xc18 => k_is)
  (case xk18 => k_is)
  (case xa19 => k_is)
  (case xl19 => k_is)
  (case xc19 => k_is)
  (case xk19 => k_is)
  (case xa20 => k_is)
  (case xl20 => k_is)
  (case xc20 => k_is)
  (case xk20 => k_is)
  (case xa21 => k_is)
  (case xl21 => k_is)
  (case xc21 => k_is)
  (case xk21 => k_is)
  (case xa22 => k_is)
  (case xl22 => k_is)
  (case xc22 => k_is)
  (case xk22 => k_is)
  (case xa23 => k_is)
  (case xl23 => k_is)
  (case xc23 => k_is)
  (case xk23 => k_is)
  (case xa24 => k_is)
  (case xl24 => k_is)
  (case xc24 => k_is)
  (case xk24 => k_is)
  (case xa25 => k_is)
  (case xl25 => k_is)
  (case xc25 => k_is)
  (case xk25 => k_is)
  (case xa26 => k_is)
  (case xl26 => k_is)
  (case xc26 => k_is)
  (case xk26 => k_is)
  (case xa27 => k_is)
  (case xl27 => k_is)
  (case xc27 => k_is)
  (case xk27 => k_is)
  (case xa28 => k_is)
  (case xl28 => k_is)
  (case xc28 => k_is)
  (case xk28 => k_is)
  (case xa29 => k_is)
  (case xl29 => k_is)
  (case xc29 => k_is)
  (case xk29 => k_is)
  (case xa30 => k_is)
  (case xl30 => k_is)
  (case xc30 => k_is)
  (case xk30 => k_is)
  (case xa31 => k_is)
  (case xl31 => k_is)
  (case xc31 => k_is)
  (case xk31 => k_is)
  (case xa32 => k_is)
  (case xl32 => k_is)
  (case xc32 => k_is)
  (case xk32 => k_is)
  (case xa33 => k_is)
  (case xl33 => k_is)
  (case xc33 => k_is)
  (case xk33 => k_is)
  (case xa34 => k_is)
  (case xl34 => k_is)
  (case xc34 => k_is)
  (case xk34 => k_is)
  (case xa35 => k_is)
  (case xl35 => k_is)
  (case xc35 => k_is)
  (case xk35 => k_is)
  (case xa36 => k_is)
  (case xl36 => k_is)
  (case xc36 => k_is)
  (case xk36 => k_is)
  (case xa37 => k_is)
  (case xl37 => k_is)
  (case xc37 => k_is)
  (case xk37 => k_is)
  (case xa38 => k_is)
  (case xl38 => k_is)
  (case xc38 => k_is)
  (case xk38 => k_is)
  (case xa39 => k_is)
  (case xl39 => k_is)
  (case xc39 => k_is)
  (case xk39 => k_is)
  (case xa40 => k_is)
  (case xl40 => k_is)
  (case xc40 => k_is)
  (case xk40 => k_is)
  (case xa41 => k_is)
  (case xl41 => k_is)
  (case xc41 => k_is)
  (case xk41 => k_is)
  (case xa42 => k_is)
  (case xl42 => k_is)
  (case xc42 => k_is)
  (case xk42 => k_is)
  (case xa43 => k_is)
  (case xl43 => k_is)
  (case xc43 => k_is)
  (case xk43 => k_is)
  (case xa44 => k_is)
  (case xl44 => k_is)
  (case xc44 => k_is)
  (case xk44 => k_is)
  (case xa45 => k_is)
  (case xl45 => k_is)
  (case xc45 => k_is)
  (case xk45 => k_is)
  (case xa46 => k_is)
  (case xl46 => k_is)
  (case xc46 => k_is)
  (case xk46 => k_is)
  (case xa47 => k_is)
  (case xl47 => k_is)
  (case xc47 => k_is)
  (case xk47 => k_is)
  (case xa48 => k_is)
  (case xl48 => k_is)
  (case xc48 => k_is)
  (case xk48 => k_is)
  (case xa49 => k_is)
  (case xl49 => k_is)
  (case xc49 => k_is)
  (case xk49 => k_is)
  (case xg0 => k_is)
  (case xr0 => exact ⟨_, rfl⟩)
  (case xg1 => k_is)
  (case xr1 => exact ⟨_, rfl⟩)
  (case xg2 => k_is)
  (case xr2 => exact ⟨_, rfl⟩)
  (case xg3 => k_is)
  (case xr3 => exact ⟨_, rfl⟩)
  (case xg4 => k_is)
  (case xr4 => exact ⟨_, rfl⟩)
  (case xg5 => k_is)
  (case xr5 => exact ⟨_, rfl⟩)
  (case xg6 => k_is)
  (case xr6 => exact ⟨_, rfl⟩)
  (case xg7 => k_is)
  (case xr7 => exact ⟨_, rfl⟩)
  (case xz0 => k_is)
  (case xz1 => k_is)
  (case xz2 => k_is)
  (case xz3 => k_is)
  (case xz4 => k_is)
  (case xz5 => k_is)
  (case xz6 => k_is)
  (case xz7 => k_is)
  (case xz8 => k_is)
  (case xz9 => k_is)
  (case xz10 => k_is)
  (case xz11 => k_is)
  (case xz12 => k_is)
  (case xz13 => k_is)
  (case xz14 => k_is)
  (case xz15 => k_is)
