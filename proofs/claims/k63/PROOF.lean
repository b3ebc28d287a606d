import PyProof.Rows.All
import Wide.All
import OpenK.AllK
import Wide.FinOn
import Lean
import PyProof.EqAt
import PyProof.EqKinds
import PyProof.TupleCall
import PyProof.StrBlockI
import PyProof.SliceList
import PyProof.StrLawsIn
import PyProof.StrLaws
import PySem.Challenge.RW_dykemoot_k63_all_companies
open List renaming length_map→AA,getElem?_eq_some_iff→AB,getElem?_eq_getElem→AC,take_of_length_le→AE,map_append→AF,mem_of_getElem?→AG,length_take→AH,getElem?_map→AI,mem_singleton→AL,size_toArray→AM,mem_map→AN,mem_cons_of_mem→AO,mem_cons_self→AQ,take_add_one→AT,length_append→AW,map_cons→AX,mem_cons→AZ,mem_append→Ab,getD_eq_getElem?_getD→Ad,length_cons→Af,mem_append_right→Ag,range→Aj,mem_filter→Am,nodup_cons→Ap,map_map→Aq,Nodup→Ar,length_filter_le→Av,mem_iff_getElem?→BD,lookup_cons→BG,append_nil→BO,getElem?_append_left→BQ,all_eq_true→BS,mem_append_left→BX,length_drop→Bd,getElem?_take_of_lt→Be,append_assoc→Bg,find?_cons→Bl,getElem?_append_right→Bo,length_singleton→Bq,length→Bs,lookup→Bx,not_mem_nil→Bz,getElem?_set_ne→CH,map_congr_left→CK,map_nil→CO,drop_eq_nil_of_le→CP,getElem?_eq_none→CU,nodup_iff_pairwise_ne→Ca,mem_of_mem_take→Cb,getElem_inj→Cd,drop_eq_getElem_cons→Cf,all_cons→Cg,range_succ→Ch,filter_append→Ci,range'→Ck,toArray→Co,nodup_append→Cp,forIn_cons→DA,length_reverse→DE,all_map→DH,mem_range→DM,length_range'→DN,length_range→DP,map_take→DR,any_cons→DS,getElem_mem→Db,getElem_map→Dc,filter_cons_of_pos→Dd,filter_cons_of_neg→De,any_eq_true→Df,getElem?_set_self→Di,of_mem_zip→Dn,nil_append→Do,length_nil→Dp,take_zero→Dy,replicate→Dz,drop_zero→EA,flatMap_append→EH,filterMap_cons→EI,mem_filterMap→ES,getElem?_drop→ET,take_sublist→Ea,foldl_append→Eb,flatMap_cons→Ec,filter_cons→Em,foldl_cons→Er,all_append→Es
open PySem.W renaming Frag→AD,kitOne→BF,kas_item→BL,findIn→BR,kia_one→Bi,keepIn→Bm,emptyDict→Bn,fnOf→Br,instObj→CF,codeIn→Cj,plainGet→Ct,Looks→Cw,exmOne→DC,callWith_K→DD,isFn→DY,cellsFrom_some→DZ,lookIn→Dl,plainGet_of→Du,hideAll_get→Dw,specialIn→EM,methodObj→EN,hasDictIn→EO,takerIn→Ef,makesIn→Eg
open PySem.Heap renaming get?_push_of_some→AJ,lt_size→AV,get?_push_size→Ah,get?_update_other→Ba,size_push→Cq,FlyingW→Dj,get?_update_self→Dt,SameBut→Ed,size_update→En
open PySem renaming wpAny_bind→AK,wpAny_pure→Aa,sizeLine→Ak,starEach→Al,NameKind→Ay,wpAny_mono→BB,bootBuiltins→BN,compareOp→BV,FuncData→Bb,PassesOwn→Bh,wpAny_truthy_bool→Bj,wpAny_loadPart'→Bk,wpAny_Call_Name_kw→Bt,mainGlobals→Bv,wpAny_holding→CC,sizeLine_eq→CD,codeAny_builtin→CJ,keywordEach→CS,codeAny_mono→CY,wpAny_passesOwn→CZ,mem_of_lookup→Ce,plainId_quiet→Cl,wpAny_execs_nil→Cn,sysModules→Cs,wpAny_getItem_str_slice→Cv,wpAny_pyIter_list→Cy,assignEach→DB,attributeBase→DG,sliceBounds→DI,backToKw→DJ,GenState→DL,Arguments→DT,wpAny_call→DU,tupleKind_room_in1→DV,binaryOp→DW,behindInMarks→Dk,post_val_or_str→EE,letOwnedTupleGo→EF,codeAny_call_builtin→EU,bindArgs→EV,Within→EW,swapsWith→EX,getMethod→EY,wpAny_attempt→Ek,closureFor→Eo,foldedSetIterable→Et,wpAny_execs_cons→Ev,subscripted→Ex,wpAny_updateSeq→Ey,wpAny_specialOf→Ez
open Bool renaming false_ne_true→AR,and_eq_true→AU,and_eq_true_iff→Ai,true_and→BT,eq_iff_iff→Bc,false_and→Cr,and_false→EB,or_eq_true_iff→EK,false_or→EQ
open Nat renaming le_refl→AS,lt_of_lt_of_le→Ac,ne_of_lt→Ae,le_trans→Az,zero_le→BK,pow_le_pow_right→BM,lt_irrefl→CI,le_succ→Cc,lt_succ_self→Cz,lt_trans→DK,lt_succ_of_lt→DQ,le_of_eq→Dm,min_eq_left→Dr,sub_self→Eh,ne_of_gt→Ei,le_of_lt→Ej,add_le_add→Ew
open Option renaming map_eq_some_iff→AY,some→BU,isSome_map→ER
open PySem.F renaming plainAttrs_list→An,type_list_append→At,slot_list_append→Au,called_set→Bp,slot_list_getattribute→Dh
open PySem.Value renaming ref→Ao,none→CA,type→CM,int→DX,bool→EL
open PySem.NameKind renaming free→Aw,cell→Bw
open PySem.PassesOwn renaming never→Ax
open Option.some renaming inj→BA
open Int renaming eq_ofNat_of_zero_le→BC,emod_lt_of_pos→BE,emod_nonneg→BJ,zero_add→By,toNat_natCast→Cu,le_refl→ED,ofNat→EJ
open False renaming elim→BH
open PySem.Obj renaming mapSeq→BI
open Std.Legacy.Range renaming forIn_eq_forIn_range'→BP,size→Bu
open PySem.SeqAt renaming EqAt→BW
open ForInStep renaming yield→BY,done→Dg
open Std.Legacy renaming Range→BZ
open Array renaming length_toList→Bf,getElem?_toList→CB,size_push→Ep,size_map→Eu
open PySem.Around renaming under_plainId→CG
open PyProof.Rows renaming callWith_type1→CL,get?_update_seq→EG,listUpdate_at→El
open True renaming intro→CN
open PyProof.Rows.F renaming plain_set_update_loop→CQ
open PySem.Txt renaming slice→CT,slice_le→Ee
open Classical renaming byContradiction→DF
open PySem.Paired renaming length→DO,nil→Da,cons→Dq
open PySem.W.Looks renaming ld→Dx
open Sum.inr renaming inj→EZ
set_option Elab.async false
set_option linter.all false
set_option maxRecDepth 100000
noncomputable section
namespace L2
open PySem PySem.Spec PyProof.Rows
abbrev Key:=Sum Int Str
noncomputable def wK:Key→Value→Bool
 | .inl k,v=>Value.isInt k v
 | .inr x,v=>Value.isStrOf x v
noncomputable def aWK(w:World):Key→Int
 | .inl k=>hashInt k
 | .inr x=>hashStr w x
theorem cU:∀ {k:Key} {v:Value},wK k v=true→(∃ i t,k=Sum.inl i∧v=DX i t)∨(∃ x t,k=Sum.inr x∧v=Value.str x t)
 | .inl i,v,h=>by
  obtain⟨t,e⟩:=Value.isInt_shape (k:=i) (v:=v) h
  exact .inl ⟨i,t,rfl,e⟩
 | .inr x,v,h=>by
  obtain⟨t,e⟩:=Value.isStrOf_shape (x:=x) (v:=v) h
  exact .inr ⟨x,t,rfl,e⟩
theorem rX(i:Int)(t:Tok):wK (.inl i) (.int i t)=true:=by simp[wK,Value.isInt]
theorem rW(x:Str)(t:Tok):wK (.inr x) (.str x t)=true:=by simp[wK,Value.isStrOf]
theorem aSU(a b:Int):decide ((Sum.inl a:Key)=Sum.inl b)=(a == b):=by
 by_cases e:a=b
 ·subst e;simp
 ·have h:¬ (Sum.inl a:Key)=Sum.inl b:=fun q=>e (Sum.inl.inj q)
  rw[decide_eq_false h]
  exact (beq_eq_false_iff_ne.mpr e).symm
theorem aSQ(a b:Str):decide ((Sum.inr a:Key)=Sum.inr b)=decide (a=b):=by
 by_cases e:a=b
 ·subst e;simp
 ·have h:¬ (Sum.inr a:Key)=Sum.inr b:=fun q=>e (EZ q)
  rw[decide_eq_false h,decide_eq_false e]
theorem aST(a:Int)(b:Str):decide ((Sum.inl a:Key)=Sum.inr b)=false:=decide_eq_false (fun q=>nomatch q)
theorem aSR(a:Str)(b:Int):decide ((Sum.inr a:Key)=Sum.inl b)=false:=decide_eq_false (fun q=>nomatch q)
noncomputable def aX(prog:Program)(w:World):PySem.KeyKind prog w Key where
 is:=wK
 hash:=aWK w
 inj:=fun v a b ha hb=>by
  rcases cU ha with ⟨i,t,rfl,rfl⟩ | ⟨x,t,rfl,rfl⟩
  ·rcases cU hb with ⟨j,u,rfl,e⟩ | ⟨y,u,rfl,e⟩
   ·injection e with e1 _;rw[e1]
   ·exact nomatch e
  ·rcases cU hb with ⟨j,u,rfl,e⟩ | ⟨y,u,rfl,e⟩
   ·exact nomatch e
   ·injection e with e1 _;rw[e1]
 byValue:=fun k v h=>by
  rcases cU h with ⟨i,t,rfl,rfl⟩ | ⟨x,t,rfl,rfl⟩ <;> rfl
 pyHash:=fun hv h=>by
  rcases cU hv with ⟨i,t,rfl,rfl⟩ | ⟨x,t,rfl,rfl⟩
  ·exact wpAny_pyHash_int h
  ·exact wpAny_pyHash_str h
 eqBool:=fun hu hv h=>by
  rcases cU hu with ⟨i,t,rfl,rfl⟩ | ⟨x,t,rfl,rfl⟩
  ·rcases cU hv with ⟨j,u,rfl,rfl⟩ | ⟨y,u,rfl,rfl⟩
   ·rw[aSU] at h;exact wpAny_eqBool_int h
   ·rw[aST] at h;exact BW.int_str i t y u _ _ _ _ h
  ·rcases cU hv with ⟨j,u,rfl,rfl⟩ | ⟨y,u,rfl,rfl⟩
   ·rw[aSR] at h;exact BW.str_int x t j u _ _ _ _ h
   ·rw[aSQ] at h;exact wpAny_eqBool_str h
 «strs»:=fun k x t v h=>by
  rcases cU h with ⟨i,u,rfl,e⟩ | ⟨y,u,rfl,e⟩
  ·exact nomatch e
  ·injection e with e1 _
   subst e1
   cases v <;> rfl
theorem aDX(prog:Program)(w:World)(i:Int)(t:Tok):(aX prog w).is (.inl i) (.int i t)=true:=rX i t
theorem aDW(prog:Program)(w:World)(x:Str)(t:Tok):(aX prog w).is (.inr x) (.str x t)=true:=rW x t
end L2
namespace L2
open PySem PySem.Spec PyProof.Rows
inductive V where
 | non | bl (b:Bool) | int (i:Int) | str (x:Str) | byt (b:Array UInt8) | flt (b:UInt64) | ref (a:Addr) | ty (n:String)
 deriving DecidableEq
def bM:V→Value→Prop
 | .non,u=>u=CA
 | .bl b,u=>u=EL b
 | .int i,u=>∃ t,u=DX i t
 | .str x,u=>∃ t,u=Value.str x t
 | .byt b,u=>∃ t,u=Value.bytes b t
 | .flt b,u=>∃ t,u=Value.float b t
 | .ref a,u=>u=Ao a
 | .ty n,u=>u=CM n
abbrev bF:List V→List Value→Prop:=Paired bM
theorem bF.length{xs:List V}{us:List Value}(r:bF xs us):xs.length=us.length:=DO r
theorem bF.get:∀ {xs:List V} {us:List Value} {i:Nat} {x:V},bF xs us→xs[i]?=some x→∃ u,us[i]?=some u∧bM x u
 | _,_,_,_,.nil,e=>by simp at e
 | _,_,0,_,.cons r _,e=>by simp at e;subst e;exact⟨_,rfl,r⟩
 | _,_,i+1,x,.cons _ t,e=>by
  obtain⟨u,h1,h2⟩:=bF.get (i:=i) (x:=x) t (by simpa using e)
  exact⟨u,by simpa using h1,h2⟩
theorem bF.append:∀ {xs ys:List V} {us ws:List Value},bF xs us→bF ys ws→bF (xs++ys) (us++ws)
 | _,_,_,_,.nil,s=>s
 | _,_,_,_,.cons r t,s=>.cons r (bF.append t s)
theorem bF.take:∀ {xs:List V} {us:List Value} (n:Nat),bF xs us→bF (xs.take n) (us.take n)
 | _,_,0,_=>.nil
 | _,_,_+1,.nil=>.nil
 | _,_,n+1,.cons r t=>.cons r (bF.take n t)
theorem bF.drop:∀ {xs:List V} {us:List Value} (n:Nat),bF xs us→bF (xs.drop n) (us.drop n)
 | _,_,0,r=>r
 | _,_,_+1,.nil=>.nil
 | _,_,n+1,.cons _ t=>bF.drop n t
def oF:Option V→Option Value→Prop
 | some v,some u=>bM v u
 | none,none=>True
 | _,_=>False
def KV{κ:Type}:List (κ×V)→List (κ×Value)→Prop:=Paired fun (p:κ×V) (q:κ×Value)=>p.1=q.1∧bM p.2 q.2
noncomputable def kV:Key→V
 | .inl i=>.int i
 | .inr x=>.str x
inductive HO where
 /-- a list -/
 | lst (xs:List V)
 /-- a tuple (never changes) -/
 | tup (xs:List V)
 /-- a dict whose keys are ints and texts;one whose keys are tuples of ints and texts (the empty one is both) -/
 | dK (kvs:List (Key×V)) | dT (kvs:List (List Key×V))
 /-- a set of ints: its members,its size -/
 | set (S:Int→Bool) (n:Nat)
 /-- an instance of the class at C,its dict at dx,its attributes -/
 | ins (C dx:Addr) (fs:List (Str×V))
 /-- the dict of the instance at x -/
 | own (x:Addr)
 /-- the dict of an exception -/
 | xd (fs:List (Str×V))
 /-- a bound method,f of x -/
 | met (f x:Addr)
 /-- a range object lo,lo+1,.. below hi -/
 | rng (lo hi:Int)
 /-- a thing that is known to the object (the script;a dict while a loop walks it): read,never written while it is so -/
 | frz (o:Obj) (u:HO)
 /-- a code object's table -/
 | tbl (ps:Array Value)
 /-- any other thing,by what is true of its one object (a def of one's own: aKG a S n:=HO.ext fun h=>..) -/
 | ext (φ:Heap→Prop)
abbrev Hp:=Addr→Option HO
noncomputable def upd(H:Hp)(a:Addr)(o:HO):Hp:=fun b=>if b=a then some o else H b
theorem aC{H:Hp}{a:Addr}{o:HO}:upd H a o a=some o:=by unfold upd;rw[if_pos rfl]
theorem aI{H:Hp}{a b:Addr}{o:HO}(h:b≠a):upd H a o b=H b:=by unfold upd;rw[if_neg h]
theorem zC{H:Hp}{a b:Addr}{o u:HO}(h:H a=some o)(h':H b=some u)(d:o≠u):a≠b:=by
 intro e;subst e;rw[h] at h';exact d (BA h')
theorem aJ{H:Hp}{a b:Addr}{o:HO}(h:H a=some o)(h':H b=none):a≠b:=by
 intro e;subst e;rw[h] at h';cases h'
def aGQ(h:Heap)(a:Addr)(its:Array Value):Prop:=∃ o,h.get? a=some o∧o.cls=.type "tuple"∧∃ n,o.data=.seq its n∧o.dict=none
theorem aGQ.tup{h:Heap}{a:Addr}{its:Array Value}(x:aGQ h a its):IsTup h a its:=by
 obtain⟨o,e,c,n,d,_⟩:=x
 exact⟨o,e,c,n,d⟩
section
variable(P:Program)(w:World)
def cE(H:Hp)(h:Heap)(a:Addr):HO→Prop
 | .lst xs=>xs.length≤Ak∧∃ (its:List Value) (n:Nat),bF xs its∧h.get? a=some { cls:=.type "list",data:=.seq its.toArray n }
 | .tup xs=>xs.length≤Ak∧∃ its:List Value,bF xs its∧aGQ h a its.toArray
 | .dK kvs=>kvs.length≤Ak∧(a == Cs)=false∧∃ vs,KV kvs vs∧h.DictOf (aX P w) a vs
 | .dT kvs=>kvs.length≤Ak∧(a == Cs)=false∧∃ xs:List (List Key×Addr×Value),
   Paired (fun (p:List Key×V) (q:List Key×Addr×Value)=>p.1=q.1∧H q.2.1=some (.tup (p.1.map kV))∧bM p.2 q.2.2) kvs xs ∧
   ∃ o es ep,h.get? a=some o∧o.ExactDict∧o.data=.dict es ep∧es.toList=xs.map (entryOfKey (tupleKind (aX P w)))∧(xs.map (·.1)).Nodup
 | .set S n=>h.SetOf (intKind P w) a S n
 | .ins C dx fs=>H dx=some (.own a)∧fs.length≤1000∧dx≠a∧h.get? a=some (CF C dx) ∧
   ∃ mA,h.Ns1 dx mA∧(∀ f,oF (fs.lookup f) (mA f))∧EW mA (fs.map (·.1))
 | .own _=>∃ o,h.get? a=some o
 | .xd fs=>∃ mA,h.Ns1 a mA∧∀ f,oF (fs.lookup f) (mA f)
 | .rng lo hi=>∃ t u v,h.get? a=some { cls:=.type "range",data:=.fields #[.int lo t,.int hi u,.int 1 v] }
 | .frz o u=>h.get? a=some o∧cE H h a u
 | .tbl ps=>h.get? a=some { cls:=.none,data:=.fields ps }
 | .met f x=>h.get? a=some (EN (.ref f) (.ref x))
 | .ext φ=>φ h∧(∃ o,h.get? a=some o)∧∀ h1 h2:Heap,φ h1→(∀ o,h1.get? a=some o→h2.get? a=some o)→φ h2
def HOk(H:Hp)(h:Heap):Prop:=∀ a o,H a=some o→cE P w H h a o
end
section
variable{P:Program}{w:World}{H H':Hp}{h h':Heap}{a:Addr}{o:HO}
theorem cE.lt(x:cE P w H h a o):a<h.objs.size:=by
 cases o with
 | lst xs=>obtain⟨_,_,_,_,e⟩:=x;exact AV e
 | tup xs=>obtain⟨_,_,_,_,e,_⟩:=x;exact AV e
 | dK kvs=>obtain⟨_,_,_,_,o,_,_,e,_⟩:=x;exact AV e
 | dT kvs=>obtain⟨_,_,_,_,o,_,_,e,_⟩:=x;exact AV e
 | set S n=>obtain⟨o,_,_,_,e,_⟩:=x;exact AV e
 | ins C dx fs=>obtain⟨_,_,_,e,_⟩:=x;exact AV e
 | own y=>obtain⟨_,e⟩:=x;exact AV e
 | xd fs=>obtain⟨_,⟨_,_,_,e,_⟩,_⟩:=x;exact AV e
 | rng lo hi=>obtain⟨_,_,_,e⟩:=x;exact AV e
 | frz ob u=>obtain⟨e,_⟩:=x;exact AV e
 | tbl ps=>exact AV (show h.get? a=some _ from x)
 | met f y=>exact AV (show h.get? a=some _ from x)
 | ext φ=>obtain⟨_,⟨_,e⟩,_⟩:=x;exact AV e
theorem Paired.mapP{α β:Type}{F G:α→β→Prop}:∀ {l₁:List α} {l₂:List β},Paired F l₁ l₂→(∀ a b,F a b→G a b)→Paired G l₁ l₂
 | _,_,.nil,_=>.nil
 | _,_,.cons r t,f=>.cons (f _ _ r) (Paired.mapP t f)
theorem cE.stay(x:cE P w H h a o)(k:∀ b u,(b=a∨H b=some (.own a))→h.get? b=some u→h'.get? b=some u)
 (ho:∀ b,H b=some (.own a)→H' b=some (.own a))(ht:∀ b xs,H b=some (.tup xs)→H' b=some (.tup xs)):cE P w H' h' a o:=by
 induction o with
 | lst xs=>obtain⟨z,its,n,r,e⟩:=x;exact⟨z,its,n,r,k _ _ (.inl rfl) e⟩
 | tup xs=>obtain⟨z,its,r,ob,e,c⟩:=x;exact⟨z,its,r,ob,k _ _ (.inl rfl) e,c⟩
 | dK kvs=>obtain⟨z,y,vs,r,ob,es,ep,e,c⟩:=x;exact⟨z,y,vs,r,ob,es,ep,k _ _ (.inl rfl) e,c⟩
 | dT kvs =>
  obtain⟨z,y,xs,r,ob,es,ep,e,c⟩:=x
  exact⟨z,y,xs,Paired.mapP r fun p q z=>⟨z.1,ht _ _ z.2.1,z.2.2⟩,ob,es,ep,k _ _ (.inl rfl) e,c⟩
 | set S n=>obtain⟨ob,es,ep,t,e,c⟩:=x;exact⟨ob,es,ep,t,k _ _ (.inl rfl) e,c⟩
 | ins C dx fs =>
  obtain⟨d,z,ne,e,mA,⟨od,es,ep,e2,c⟩,r⟩:=x
  exact⟨ho _ d,z,ne,k _ _ (.inl rfl) e,mA,⟨od,es,ep,k _ _ (.inr d) e2,c⟩,r⟩
 | own y=>obtain⟨ob,e⟩:=x;exact⟨ob,k _ _ (.inl rfl) e⟩
 | xd fs=>obtain⟨mA,⟨od,es,ep,e,c⟩,r⟩:=x;exact⟨mA,⟨od,es,ep,k _ _ (.inl rfl) e,c⟩,r⟩
 | rng lo hi=>obtain⟨t,u,v,e⟩:=x;exact⟨t,u,v,k _ _ (.inl rfl) e⟩
 | frz ob u ih=>obtain⟨e,q⟩:=x;exact⟨k _ _ (.inl rfl) e,ih q⟩
 | tbl ps =>
  have e:h.get? a=some { cls:=.none,data:=.fields ps }:=x
  show h'.get? a=some { cls:=.none,data:=.fields ps }
  exact k a _ (.inl rfl) e
 | met f y =>
  have e:h.get? a=some (EN (.ref f) (.ref y)):=x
  show h'.get? a=some (EN (.ref f) (.ref y))
  exact k a _ (.inl rfl) e
 | ext φ=>obtain⟨p,⟨o,e⟩,st⟩:=x;exact⟨st _ _ p fun o q=>k _ _ (.inl rfl) q,⟨o,k _ _ (.inl rfl) e⟩,st⟩
theorem HOk.lt(x:HOk P w H h)(e:H a=some o):a<h.objs.size:=(x a o e).lt
theorem HOk.fresh(x:HOk P w H h)(e:h.objs.size≤a):H a=none:=by
 cases q:H a with
 | none=>rfl
 | some u=>exact absurd (Ac (x.lt q) e) (CI _)
theorem HOk.kept(x:HOk P w H h)(k:∀ b u,h.get? b=some u→h'.get? b=some u):HOk P w H h':=fun a o e =>
 (x a o e).stay (fun b u _ q=>k b u q) (fun _ q=>q) fun _ _ q=>q
theorem HOk.laid(x:HOk P w H h)(k:∀ b u,h.get? b=some u→h'.get? b=some u)(hp:h.objs.size≤a)(new:cE P w (upd H a o) h' a o):HOk P w (upd H a o) h':=fun b u e=>by
 have hn:=x.fresh hp
 by_cases hb:b=a
 ·subst hb;rw[aC] at e;cases e;exact new
 ·rw[aI hb] at e
  exact (x b u e).stay (fun c v _ q=>k c v q) (fun c q=>by rw[aI (aJ q hn)];exact q) fun c xs q=>by rw[aI (aJ q hn)];exact q
end
def Rd(H:Hp)(a:Addr)(u:HO):Prop:=H a=some u∨∃ o,H a=some (.frz o u)
theorem Rd.ok{P:Program}{w:World}{H:Hp}{h:Heap}{a:Addr}{u:HO}(r:Rd H a u)(x:HOk P w H h):cE P w H h a u:=by
 rcases r with r | ⟨o,r⟩
 ·exact x a u r
 ·obtain⟨_,q⟩:=x a _ r
  exact q
def Mut:Option HO→Prop
 | some (.lst _)=>True
 | some (.dK _)=>True
 | some (.dT _)=>True
 | some (.set _ _)=>True
 | some (.ins _ _ _)=>True
 | some (.ext _)=>True
 | _=>False
section
variable{P:Program}{w:World}{H:Hp}{h h':Heap}{x e:Addr}{o':HO}
theorem HOk.write(ok:HOk P w H h)(mu:Mut (H x))(he:e=x∨H e=some (.own x))(k:∀ b u,b≠e→h.get? b=some u→h'.get? b=some u)(heo:∃ u,h'.get? e=some u)
 (new:cE P w (upd H x o') h' x o'):HOk P w (upd H x o') h':=fun b u q=>by
 have nown:∀ c y,H c=some (.own y)→c≠x:=fun c y r z=>by subst z;rw[r] at mu;exact mu
 have ntup:∀ c xs,H c=some (.tup xs)→c≠x:=fun c xs r z=>by subst z;rw[r] at mu;exact mu
 by_cases hb:b=x
 ·subst hb;rw[aC] at q;cases q;exact new
 ·rw[aI hb] at q
  by_cases hbe:b=e
  ·have q':H b=some (.own x):=by
    rcases he with z | z
    ·exact absurd (hbe.trans z) hb
    ·rw[hbe];exact z
   rw[q] at q';cases q'
   obtain⟨v,hv⟩:=heo
   exact⟨v,by rw[hbe];exact hv⟩
  ·refine (ok b u q).stay (fun c v hc r=>k c v ?_ r) (fun c r=>by rw[aI (nown c b r)];exact r) fun c xs r=>by rw[aI (ntup c xs r)];exact r
   rcases hc with rfl | hc
   ·exact hbe
   ·rintro rfl
    rcases he with z | z
    ·exact nown c b hc z
    ·rw[hc] at z;cases z;exact hb rfl
end
structure Un (fs ex:List Addr) (H H':Hp) (h h':Heap):Prop where
 keep:∀ b o,h.get? b=some o→H b=none→b∉fs→b∉ex→h'.get? b=some o
 slot:∀ b o,h.get? b=some o→H b=none→b∈fs→b∉ex→∃ sl,h'.get? b=some { o with slots:=sl }
 free:∀ b o,h.get? b=some o→H b=none→b∉ex→H' b=none
 there:∀ b o,h.get? b=some o→b∉ex→∃ o',h'.get? b=some o'
 tups:∀ b xs,H b=some (.tup xs)→H' b=some (.tup xs)
 frzs:∀ b o u,H b=some (.frz o u)→H' b=some (.frz o u)
 tbls:∀ b ps,H b=some (.tbl ps)→∃ more,H' b=some (.tbl (ps++more))
section
variable{fs fs' ex ex':List Addr}{H H1 H2:Hp}{h h1 h2 h':Heap}{a x e:Addr}{o:HO}
theorem Un.any(u:Un fs ex H H1 h h1){b:Addr}{ob:Obj}(q:h.get? b=some ob)(n:H b=none)(hx:b∉ex):∃ sl,h1.get? b=some { ob with slots:=sl }:=by
 by_cases hb:b∈fs
 ·exact u.slot b ob q n hb hx
 ·exact⟨ob.slots,u.keep b ob q n hb hx⟩
theorem Un.kept(k:∀ b u,h.get? b=some u→h'.get? b=some u):Un fs ex H H h h' :=
 ⟨fun b ob q _ _ _=>k b ob q,fun b ob q _ _ _=>⟨ob.slots,k b ob q⟩,fun _ _ _ n _=>n,fun b ob q _=>⟨ob,k b ob q⟩,fun _ _ q=>q,fun _ _ _ q=>q,fun _ ps q=>⟨#[],by rw[q];simp⟩⟩
theorem Un.refl:Un fs ex H H h h:=Un.kept fun _ _ q=>q
theorem Un.laid(k:∀ b u,h.get? b=some u→h'.get? b=some u)(hp:h.objs.size≤a)(hn:H a=none):Un fs ex H (upd H a o) h h' where
 keep:=fun b u q _ _ _=>k b u q
 slot:=fun b u q _ _ _=>⟨u.slots,k b u q⟩
 free:=fun b u q n _=>by rw[aI (Ae (Ac (AV q) hp))];exact n
 there:=fun b u q _=>⟨u,k b u q⟩
 tups:=fun b xs q=>by rw[aI (aJ q hn)];exact q
 frzs:=fun b u xs q=>by rw[aI (aJ q hn)];exact q
 tbls:=fun b ps q=>⟨#[],by rw[aI (aJ q hn),q];simp⟩
theorem Un.write(mu:Mut (H x))(he:e=x∨H e=some (.own x))(k:∀ b u,b≠e→h.get? b=some u→h'.get? b=some u)(heo:∃ u,h'.get? e=some u):Un fs ex H (upd H x o) h h':=by
 have hx:∀ b,H b=none→b≠x:=fun b n z=>by subst z;rw[n] at mu;exact mu
 have hb:∀ b,H b=none→b≠e:=fun b n z=>by
  subst z
  rcases he with r | r
  ·exact hx b n r
  ·rw[n] at r;cases r
 have hm:∀ b u,H b=some u→¬ Mut (some u)→b≠x:=fun b u q nm z=>by subst z;rw[q] at mu;exact nm mu
 refine⟨fun b u q n _ _=>k b u (hb b n) q,fun b u q n _ _=>⟨u.slots,k b u (hb b n) q⟩,fun b u q n _=>by rw[aI (hx b n)];exact n,fun b u q _=>?_,
  fun b xs q=>by rw[aI (hm b _ q fun z=>z)];exact q,fun b u xs q=>by rw[aI (hm b _ q fun z=>z)];exact q,fun b ps q=>⟨#[],by rw[aI (hm b _ q fun z=>z),q];simp⟩⟩
 by_cases hbe:b=e
 ·subst hbe;exact heo
 ·exact⟨u,k b u hbe q⟩
end
noncomputable def trk(h:Heap)(H:Hp):List Addr:=(Aj h.objs.size).filter fun a=>(H a).isSome
noncomputable def xT(h:Heap)(H:Hp):Heap:=PySem.W.hideAll h (trk h H)
theorem aJT(h:Heap)(H:Hp):(xT h H).objs.size=h.objs.size:=PySem.W.hideAll_size _ _
theorem aMT{h:Heap}{H:Hp}{b:Addr}{o:Obj}(e:h.get? b=some o)(n:H b=none):(xT h H).get? b=some o :=
 Dw _ e fun hm=>by
  have q:(H b).isSome=true:=(Am.mp hm).2
  rw[n] at q;simp at q
theorem aPH{h:Heap}{H:Hp}{b:Addr}{o:Obj}(e:(xT h H).get? b=some o):h.get? b=some o∧H b=none:=by
 have e':h.get? b=some o:=PySem.W.of_hideAll (trk h H) e
 refine⟨e',?_⟩
 cases q:H b with
 | none=>rfl
 | some x =>
  have hm:b∈trk h H:=Am.mpr ⟨DM.mpr (AV e'),by simp[q]⟩
  have z:(xT h H).get? b=none:=PySem.W.hideAll_none (trk h H) hm
  rw[z] at e;cases e
noncomputable def aQG(g h:Heap)(L:Addr):List (Addr×Obj):=(Aj h.objs.size).filterMap fun a=>if a=L∨(g.get? a).isSome=true then none else (h.get? a).map fun o=>(a,o)
noncomputable def oZ(g h:Heap)(L d:Addr):List (Addr×Obj):=(aQG g h L).filter fun p=>decide (p.1≠d)
end L2
namespace L2
open PySem PySem.Spec PyProof.Rows
structure Mod (K:AD) (mg:Str→Option Value) (base:Heap):Prop where
 kin:K.In base
 glob:base.Ns Bv mg
 blt:∃ mb,base.Ns builtinsNs mb∧∀ x:Str,x≠"__name__"→mb x=BN x
 nolimit:base.NoLimit
structure Cx where
 prog:Program
 w:World
 K:AD
 mg:Str→Option Value
 base:Heap
 A:Around
 N:List Str
 s₀:Shared
 H₀:Hp
 env:Env
 outer:List Env
 stack:List Env
 ex:List Addr
 fn:Str→Bool
 calm:Bool
 pn:List (Addr×Obj)
 xe:Value→Shared→Prop
noncomputable def frs(l:List Env):List Addr:=l.filterMap (·.frame)
abbrev Cx.fs (X:Cx):List Addr:=frs X.outer
def Vis(sc:Scope)(x:Str):Prop:=sc.names.lookup x=some .local∨sc.names.lookup x=some .cell∨sc.names.lookup x=some .free
def Loc(sc:Scope)(x:Str):Prop:=sc.names.lookup x=some .local∨sc.names.lookup x=some .cell
def aWS(env:Env)(h:Heap)(m:Str→Option Value)(x:Str)(u:Value):Prop :=
 (env.kindOf x=some .local∧m x=some u)∨((env.kindOf x=some .cell∨env.kindOf x=some .free)∧∃ c,env.cells.lookup x=some c∧h.IsCell c (some u))
structure Cx.Ok (X:Cx):Prop where
 mod:Mod X.K X.mg X.base
 kind:X.env.scope.kind=.function
 glob:X.env.globals=Bv
 blt:X.env.builtins=builtinsNs
 above:X.s₀.heap.objs.size≤X.env.locals
 inj:∀ x y c,X.env.cells.lookup x=some c→X.env.cells.lookup y=some c→x=y
 has:∀ x,(X.env.kindOf x=some .cell∨X.env.kindOf x=some .free)→∃ c,X.env.cells.lookup x=some c
 cab:∀ x c,X.fn x=true→X.env.cells.lookup x=some c→X.s₀.heap.objs.size≤c
 hd:X.calm=true→X.A.handled=none
 frames:X.A.frames=some X.stack
 stk:X.stack=X.outer∨(X.stack=X.env :: X.outer∧X.env.frame=some X.env.locals)
 exf:∀ b∈X.ex,b≠X.env.locals∧∀ x c,X.env.cells.lookup x=some c→c≠b
 bs:∀ b o,X.base.get? b=some o→X.s₀.heap.get? b=some o∧X.H₀ b=none
 bsz:X.base.objs.size≤X.s₀.heap.objs.size
 noex:∀ b o,X.base.get? b=some o→b∉X.ex
 exfs:∀ b∈X.ex,b∉X.fs
 funs:X.s₀.heap.FunFrames X.base X.outer
 frf:∀ b∈X.fs,X.H₀ b=none
structure Inv (X:Cx) (pins:List (Addr×Obj)) (σ:List (Option V)) (H:Hp) (s:Shared):Prop where
 ok:X.Ok
 os:s.os=X.s₀.os
 bare:AllBare s.gens
 base:Un X.fs X.ex X.H₀ H X.s₀.heap s.heap
 loc:∃ m,s.heap.Ns X.env.locals m∧∀ (i:Nat) (x:Str) (v:V),X.N[i]?=some x→σ[i]?=some (some v)→Vis X.env.scope x→∃ u,bM v u∧aWS X.env s.heap m x u
 cell:∀ x c,X.env.cells.lookup x=some c→∃ v,s.heap.IsCell c v
 free:H X.env.locals=none
 freeC:∀ x c,X.env.cells.lookup x=some c→H c=none
 pin:∀ p∈X.pn++pins,s.heap.get? p.1=some p.2∧H p.1=none∧p.1≠X.env.locals∧p.1∉X.fs∧∀ v,p.2.data≠.cell v
 hok:HOk X.prog X.w H s.heap
 len:σ.length=X.N.length
section
variable{X:Cx}{pins:List (Addr×Obj)}{σ:List (Option V)}{H H':Hp}{s:Shared}{h':Heap}
theorem Cx.Ok.nofr(ok:X.Ok){b:Addr}{o:Obj}(e:X.base.get? b=some o):b∉X.fs:=fun hb=>by
 have:=(ok.funs.mem hb).1
 rw[e] at this;cases this
theorem Inv.bs(I:Inv X pins σ H s):∀ b o,X.base.get? b=some o→s.heap.get? b=some o∧H b=none:=fun b o e =>
 ⟨I.base.keep b o (I.ok.bs b o e).1 (I.ok.bs b o e).2 (I.ok.nofr e) (I.ok.noex b o e),I.base.free b o (I.ok.bs b o e).1 (I.ok.bs b o e).2 (I.ok.noex b o e)⟩
theorem Inv.bk(I:Inv X pins σ H s):∀ b o,X.base.get? b=some o→s.heap.get? b=some o:=fun b o e=>(I.bs b o e).1
theorem Inv.mod(I:Inv X pins σ H s):Mod X.K X.mg X.base:=I.ok.mod
theorem Inv.kIn(I:Inv X pins σ H s):X.K.In s.heap:=I.ok.mod.kin.keeps I.bk
theorem Inv.fr(I:Inv X pins σ H s):∃ m,Fr X.base X.env.locals s.heap m :=
 let ⟨m,hn,_⟩:=I.loc
 ⟨m,hn,I.bk,Az I.ok.bsz I.ok.above⟩
theorem Inv.lt(I:Inv X pins σ H s):X.env.locals<s.heap.objs.size:=let ⟨_,hn,_⟩:=I.loc;hn.lt
theorem Inv.sz(I:Inv X pins σ H s):X.s₀.heap.objs.size≤s.heap.objs.size:=Az I.ok.above (Ej I.lt)
theorem Inv.nofs(I:Inv X pins σ H s){a:Addr}(h:s.heap.objs.size≤a):a∉X.fs:=fun hb=>by
 obtain⟨_,o,ho,_⟩:=I.ok.funs.mem hb
 exact absurd (Ac (AV ho) (Az I.sz h)) (CI _)
theorem Inv.cne(I:Inv X pins σ H s):∀ x c,X.env.cells.lookup x=some c→c≠X.env.locals:=fun x c e z=>by
 obtain⟨v,o,ho,hd⟩:=I.cell x c e
 obtain⟨m,⟨o',es,ep,ho',hd',_⟩,_⟩:=I.loc
 rw[z,ho'] at ho;cases ho;rw[hd'] at hd;cases hd
theorem Inv.funs(I:Inv X pins σ H s):s.heap.FunFrames X.base X.outer:=by
 have all:∀ (l:List Env),(∀ b∈frs l,b∈X.fs)→X.s₀.heap.FunFrames X.base l→s.heap.FunFrames X.base l:=by
  intro l
  induction l with
  | nil=>intro _ _;trivial
  | cons env r ih =>
   intro hs hl
   obtain⟨hk,⟨L,o,hf,hn,ho,hd⟩,hr⟩:=hl
   have hL:L∈X.fs:=hs L (by unfold frs;rw[EI,hf];exact AQ)
   obtain⟨sl,e⟩:=I.base.slot L o ho (I.ok.frf L hL) hL fun z=>I.ok.exfs L z hL
   exact⟨hk,⟨L,_,hf,hn,e,hd⟩,ih (fun b hb=>hs b (by unfold frs;rw[EI,hf];exact AO _ hb)) hr⟩
 exact all X.outer (fun _ hb=>hb) I.ok.funs
theorem Inv.stack(I:Inv X pins σ H s):s.heap.FunFrames X.base X.stack:=by
 rcases I.ok.stk with e | ⟨e,hf⟩
 ·rw[e];exact I.funs
 ·rw[e]
  obtain⟨m,hn,_⟩:=I.loc
  refine .cons (by rw[I.ok.kind];decide) hf hn ?_ I.funs
  exact Heap.get?_none_of_le (Az I.ok.bsz I.ok.above)
theorem Inv.stkSub(I:Inv X pins σ H s):∀ b∈frs X.stack,b∈X.env.locals :: X.fs:=fun b hb=>by
 rcases I.ok.stk with e | ⟨e,hf⟩
 ·rw[e] at hb;exact AO _ hb
 ·rw[e] at hb
  unfold frs at hb
  rw[EI,hf] at hb
  exact hb
theorem Inv.stkFree(I:Inv X pins σ H s):∀ b∈frs X.stack,H b=none:=fun b hb=>by
 rcases AZ.mp (I.stkSub b hb) with e | hb
 ·rw[e];exact I.free
 ·obtain⟨_,o,ho,_⟩:=I.ok.funs.mem hb
  exact I.base.free b o ho (I.ok.frf b hb) fun z=>I.ok.exfs b z hb
theorem Inv.step{g':Array DL}{t':Nat}{d':Drawn}{ch:List Addr}(I:Inv X pins σ H s)
 (hch:∀ b∈ch,(b∈X.ex∨X.s₀.heap.objs.size≤b)∧b≠X.env.locals∧(∀ x c,X.env.cells.lookup x=some c→c≠b)∧∀ p∈X.pn++pins,p.1≠b)
 (keep:∀ b o,b≠X.env.locals→b∉X.fs→b∉ch→s.heap.get? b=some o→H b=none→h'.get? b=some o)
 (slot:∀ b o,b≠X.env.locals→b∈X.fs→b∉ch→s.heap.get? b=some o→H b=none→∃ sl,h'.get? b=some { o with slots:=sl })(free:∀ b o,b∉ch→s.heap.get? b=some o→H b=none→H' b=none)
 (there:∀ b o,b∉ch→s.heap.get? b=some o→∃ o',h'.get? b=some o')
 (tups:∀ b xs,H b=some (.tup xs)→H' b=some (.tup xs))(frzs:∀ b o u,H b=some (.frz o u)→H' b=some (.frz o u))(tbls:∀ b ps,H b=some (.tbl ps)→∃ more,H' b=some (.tbl (ps++more)))
 (ns:∀ m,s.heap.Ns X.env.locals m→h'.Ns X.env.locals m)(hok:HOk X.prog X.w H' h')(hg:AllBare g') :
  Inv X pins σ H' { s with heap:=h',gens:=g',drawn:=d',toks:=t' }:=by
 have neL:∀ b o,X.s₀.heap.get? b=some o→b≠X.env.locals:=fun b o e=>Ae (Ac (AV e) I.ok.above)
 have neC:∀ b o,X.s₀.heap.get? b=some o→b∉X.ex→b∉ch:=fun b o e hx hb=>by
  rcases (hch b hb).1 with z | z
  ·exact hx z
  ·exact absurd (Ac (AV e) z) (CI _)
 have cellK:∀ x c,X.env.cells.lookup x=some c→∀ v,s.heap.IsCell c v→h'.IsCell c v:=fun x c e v ⟨o,ho,hd⟩=>by
  have nch:c∉ch:=fun z=>(hch c z).2.2.1 x c e rfl
  by_cases hc:c∈X.fs
  ·obtain⟨sl,q⟩:=slot c o (I.cne x c e) hc nch ho (I.freeC x c e)
   exact⟨_,q,hd⟩
  ·exact⟨o,keep c o (I.cne x c e) hc nch ho (I.freeC x c e),hd⟩
 refine⟨I.ok,I.os,hg,⟨fun b o e n hb hx=>?_,fun b o e n hb hx=>?_,fun b o e n hx=>?_,fun b o e hx=>?_,fun b xs e=>tups b xs (I.base.tups b xs e),fun b o xs e=>frzs b o xs (I.base.frzs b o xs e),fun b ps e=>?_⟩,?_,fun x c e=>?_,?_,fun x c e=>?_,fun p hp=>?_,hok,I.len⟩
 ·exact keep b o (neL b o e) hb (neC b o e hx) (I.base.keep b o e n hb hx) (I.base.free b o e n hx)
 ·obtain⟨sl,e1⟩:=I.base.slot b o e n hb hx
  obtain⟨sl',e2⟩:=slot b _ (neL b o e) hb (neC b o e hx) e1 (I.base.free b o e n hx)
  exact⟨sl',e2⟩
 ·obtain⟨o',e1⟩:=I.base.there b o e hx
  exact free b o' (neC b o e hx) e1 (I.base.free b o e n hx)
 ·obtain⟨o',e1⟩:=I.base.there b o e hx
  exact there b o' (neC b o e hx) e1
 ·obtain⟨m1,e1⟩:=I.base.tbls b ps e
  obtain⟨m2,e2⟩:=tbls b _ e1
  exact⟨m1++m2,by rw[e2,Array.append_assoc]⟩
 ·obtain⟨m,hn,hl⟩:=I.loc
  refine⟨m,ns m hn,fun i x v e1 e2 e3=>?_⟩
  obtain⟨u,r,l⟩:=hl i x v e1 e2 e3
  refine⟨u,r,?_⟩
  rcases l with l | ⟨k,c,e,z⟩
  ·exact .inl l
  ·exact .inr ⟨k,c,e,cellK x c e _ z⟩
 ·obtain⟨v,z⟩:=I.cell x c e
  exact⟨v,cellK x c e v z⟩
 ·obtain⟨m,⟨o,_,_,ho,_⟩,_⟩:=I.loc
  exact free _ o (fun z=>(hch _ z).2.1 rfl) ho I.free
 ·obtain⟨v,o,ho,hd⟩:=I.cell x c e
  exact free c o (fun z=>(hch c z).2.2.1 x c e rfl) ho (I.freeC x c e)
 ·obtain⟨e,n,ne,nf,d⟩:=I.pin p hp
  have nch:p.1∉ch:=fun z=>(hch p.1 z).2.2.2 p hp rfl
  exact⟨keep p.1 p.2 ne nf nch e n,free p.1 p.2 nch e n,ne,nf,d⟩
theorem Inv.un{t':Nat}(I:Inv X pins σ H s)(u:Un X.fs [] H H' s.heap h')(hok:HOk X.prog X.w H' h'):Inv X pins σ H' { s with heap:=h',toks:=t' }:=by
 obtain⟨m,⟨o,es,ep,ho,r⟩,_⟩:=id I.loc
 obtain⟨sl,hL⟩:=u.any ho I.free (by simp)
 exact I.step (g':=s.gens) (d':=s.drawn) (ch:=[]) (fun _ z=>nomatch z) (fun b o _ hb _ e n=>u.keep b o e n hb (by simp)) (fun b o _ hb _ e n=>u.slot b o e n hb (by simp)) (fun b o _ e n=>u.free b o e n (by simp)) (fun b o _ e=>u.there b o e (by simp)) u.tups u.frzs u.tbls (fun m' hm=>by
  obtain⟨o',es',ep',ho',r'⟩:=hm
  rw[ho] at ho';cases ho'
  exact⟨_,es',ep',hL,r'⟩) hok I.bare
theorem Inv.call{g':Array DL}{t':Nat}{d':Drawn}{ch:List Addr}(I:Inv X pins σ H s)(u:Un (frs X.stack) ch H H' s.heap h')(hok:HOk X.prog X.w H' h')(hg:AllBare g')
 (hch:∀ b∈ch,(b∈X.ex∨X.s₀.heap.objs.size≤b)∧b≠X.env.locals∧(∀ x c,X.env.cells.lookup x=some c→c≠b)∧∀ p∈X.pn++pins,p.1≠b) :
  Inv X pins σ H' { s with heap:=h',gens:=g',drawn:=d',toks:=t' }:=by
 obtain⟨m,⟨o,es,ep,ho,r⟩,_⟩:=id I.loc
 obtain⟨sl,hL⟩:=u.any ho I.free fun z=>(hch _ z).2.1 rfl
 exact I.step (ch:=ch) hch (fun b o hL hb hc e n=>u.keep b o e n (fun z=>(AZ.mp (I.stkSub b z)).elim hL hb) hc) (fun b o _ _ hc e n=>u.any e n hc) (fun b o hc e n=>u.free b o e n hc) (fun b o hc e=>u.there b o e hc) u.tups u.frzs u.tbls (fun m' hm=>by
  obtain⟨o',es',ep',ho',r'⟩:=hm
  rw[ho] at ho';cases ho'
  exact⟨_,es',ep',hL,r'⟩) hok hg
theorem Inv.turned{t':Nat}{it:Addr}(I:Inv X pins σ H s)(k:∀ b o,b≠it→s.heap.get? b=some o→h'.get? b=some o)(hn:H it=none)(hL:it≠X.env.locals)
 (h1:it∈X.ex∨X.s₀.heap.objs.size≤it)(h2:∀ x c,X.env.cells.lookup x=some c→c≠it)(h3:∀ p∈X.pn++pins,p.1≠it):Inv X pins σ H { s with heap:=h',toks:=t' }:=by
 have nit:∀ b u,H b=some u→b≠it:=fun b u e z=>by rw[z,hn] at e;cases e
 refine I.step (g':=s.gens) (d':=s.drawn) (ch:=[it]) (fun b hb=>?_) (fun b o _ _ hc e _=>k b o (fun z=>hc (by simp[z])) e) (fun b o _ _ hc e _=>⟨o.slots,k b o (fun z=>hc (by simp[z])) e⟩) (fun _ _ _ _ n=>n)
  (fun b o hc e=>⟨o,k b o (fun z=>hc (by simp[z])) e⟩) (fun _ _ e=>e) (fun _ _ _ e=>e) (fun b ps e=>⟨#[],by rw[e];simp⟩) (fun m hm=>?_) (fun b u e=>?_) I.bare
 ·have e:b=it:=by simpa using hb
  subst e
  exact⟨h1,hL,h2,h3⟩
 ·obtain⟨o,es,ep,ho,r⟩:=hm
  exact⟨o,es,ep,k _ o (Ne.symm hL) ho,r⟩
 ·refine (I.hok b u e).stay (fun c v hc q=>k c v ?_ q) (fun _ q=>q) fun _ _ q=>q
  rcases hc with z | z
  ·rw[z];exact nit b u e
  ·exact nit c _ z
theorem Inv.tok(I:Inv X pins σ H s)(t:Nat):Inv X pins σ H { s with toks:=t }:=I.un (h':=s.heap) (t':=t) Un.refl I.hok
theorem Inv.kept{t':Nat}(I:Inv X pins σ H s)(k:∀ b u,s.heap.get? b=some u→h'.get? b=some u):Inv X pins σ H { s with heap:=h',toks:=t' }:=I.un (Un.kept k) (I.hok.kept k)
theorem Inv.laid{a:Addr}{o:HO}{t':Nat}(I:Inv X pins σ H s)(k:∀ b u,s.heap.get? b=some u→h'.get? b=some u)(hp:s.heap.objs.size≤a)(new:cE X.prog X.w (upd H a o) h' a o) :
  Inv X pins σ (upd H a o) { s with heap:=h',toks:=t' }:=I.un (Un.laid k hp (I.hok.fresh hp)) (I.hok.laid k hp new)
theorem Inv.write{x e:Addr}{o:HO}{t':Nat}(I:Inv X pins σ H s)(mu:Mut (H x))(he:e=x∨H e=some (.own x))(k:∀ b u,b≠e→s.heap.get? b=some u→h'.get? b=some u)(heo:∃ u,h'.get? e=some u)
 (new:cE X.prog X.w (upd H x o) h' x o):Inv X pins σ (upd H x o) { s with heap:=h',toks:=t' }:=I.un (Un.write mu he k heo) (I.hok.write mu he k heo new)
theorem Inv.weak{σ':List (Option V)}(I:Inv X pins σ H s)(hl:σ'.length=σ.length)(w:∀ (i:Nat) v,σ'[i]?=some (some v)→σ[i]?=some (some v)):Inv X pins σ' H s :=
 ⟨I.ok,I.os,I.bare,I.base,let ⟨m,hn,hl'⟩:=I.loc;⟨m,hn,fun i x v e1 e2 e3=>hl' i x v e1 (w i v e2) e3⟩,I.cell,I.free,I.freeC,I.pin,I.hok,hl.trans I.len⟩
theorem Inv.pins_of{pins':List (Addr×Obj)}(I:Inv X pins σ H s)(h:∀ p∈pins',s.heap.get? p.1=some p.2∧H p.1=none∧p.1≠X.env.locals∧p.1∉X.fs∧∀ v,p.2.data≠.cell v):Inv X pins' σ H s :=
 ⟨I.ok,I.os,I.bare,I.base,I.loc,I.cell,I.free,I.freeC,fun p hp=>(Ab.mp hp).elim (fun z=>I.pin p (BX _ z)) (h p),I.hok,I.len⟩
theorem qM{N:List Str}(hN:N.Nodup){i j:Nat}{x:Str}(a:N[i]?=some x)(b:N[j]?=some x):i=j:=by
 obtain⟨h1,e1⟩:=AB.mp a
 obtain⟨h2,e2⟩:=AB.mp b
 exact (Cd hN).mp (e1.trans e2.symm)
theorem aIV{M:Model}{A:Around}{E:Value→Shared→Prop}{i:Nat}{x:Str}{v:V}{u:Value}{Q:Unit→Shared→Prop}(I:Inv X pins σ H s)(hN:X.N.Nodup)(hi:X.N[i]?=some x)(hx:Loc X.env.scope x)(r:bM v u)
 (h:∀ s',Inv X pins (σ.set i (some v)) H s'→(∃ a,Ed a s.heap s'.heap∧(a=X.env.locals∨X.env.cells.lookup x=some a))→Q () s')(hf:X.fn x=true∨X.env.scope.names.lookup x=some .local:=by first | exact .inl rfl | exact .inr rfl | assumption):wpAny M A (storeName X.env x u) Q E s:=by
 obtain⟨m,hn,hl⟩:=id I.loc
 have hcls:(X.env.scope.kind == .class || (X.env.scope.kind == .module && X.env.locals != X.env.globals))=false:=by rw[I.ok.kind];rfl
 have hiσ:i<σ.length:=by rw[I.len];exact (AB.mp hi).1
 have cne:=I.cne
 have tracked:∀ {a:Addr} {h':Heap},(∃ o,s.heap.get? a=some o∧H a=none)→Ed a s.heap h'→HOk X.prog X.w H h':=fun {a h'} ha hs b ob e=>by
  obtain⟨_,_,hfree⟩:=ha
  refine (I.hok b ob e).stay (fun c w' hc q=>(hs.2 c ?_).trans q) (fun _ q=>q) fun _ _ q=>q
  rintro rfl
  rcases hc with rfl | hc
  ·rw[hfree] at e;cases e
  ·rw[hfree] at hc;cases hc
 rcases hx with hk | hk
 ·refine wpAny_storeName_local hk hn (fun h' hn' hs=>?_) hcls
  obtain⟨oL,_,_,hoL,_⟩:=id hn
  refine h _ ⟨I.ok,I.os,I.bare,⟨fun b o e n hb hx=>?_,fun b o e n hb hx=>?_,I.base.free,fun b o e hx=>?_,I.base.tups,I.base.frzs,I.base.tbls⟩,⟨_,hn',fun j y v' e1 e2 e3=>?_⟩,fun y c e=>?_,I.free,I.freeC,fun p hp=>?_,tracked ⟨oL,hoL,I.free⟩ hs,by simpa using I.len⟩ ⟨_,hs,.inl rfl⟩
  ·exact (hs.2 b (Ae (Ac (AV e) I.ok.above))).trans (I.base.keep b o e n hb hx)
  ·obtain⟨sl,e1⟩:=I.base.slot b o e n hb hx
   exact⟨sl,(hs.2 b (Ae (Ac (AV e) I.ok.above))).trans e1⟩
  ·obtain⟨o',e1⟩:=I.base.there b o e hx
   exact⟨o',(hs.2 b (Ae (Ac (AV e) I.ok.above))).trans e1⟩
  ·by_cases hj:j=i
   ·subst hj
    rw[hi] at e1;cases e1
    rw[Di hiσ] at e2
    cases e2
    exact⟨u,r,.inl ⟨hk,by simp⟩⟩
   ·rw[CH (Ne.symm hj)] at e2
    obtain⟨u',r',q⟩:=hl j y v' e1 e2 e3
    refine⟨u',r',?_⟩
    rcases q with ⟨k,e⟩ | ⟨k,c,e,z⟩
    ·refine .inl ⟨k,?_⟩
     have:y≠x:=fun e=>hj (qM hN e1 (e▸hi))
     simp[this,e]
    ·exact .inr ⟨k,c,e,z.sameBut hs (cne y c e)⟩
  ·obtain⟨w',z⟩:=I.cell y c e
   exact⟨w',z.sameBut hs (cne y c e)⟩
  ·obtain⟨e,n,ne,nf,d⟩:=I.pin p hp
   exact⟨(hs.2 p.1 ne).trans e,n,ne,nf,d⟩
 ·have hfn:X.fn x=true:=by
   rcases hf with z | z
   ·exact z
   ·rw[z] at hk;cases hk
  obtain⟨c,hc⟩:=I.ok.has x (.inl hk)
  obtain⟨w',z⟩:=I.cell x c hc
  refine wpAny_storeName_cell I.ok.kind hk hc z (fun h' hc' hs=>?_)
  obtain⟨oc,hoc,hocd⟩:=id z
  refine h { s with heap:=h' } ⟨I.ok,I.os,I.bare,⟨fun b o e n hb hx=>?_,fun b o e n hb hx=>?_,I.base.free,fun b o e hx=>?_,I.base.tups,I.base.frzs,I.base.tbls⟩,⟨m,hn.sameBut hs (Ne.symm (cne x c hc)),fun j y v' e1 e2 e3=>?_⟩,fun y c' e=>?_,I.free,I.freeC,fun p hp=>?_,tracked ⟨oc,hoc,I.freeC x c hc⟩ hs,by simpa using I.len⟩ ⟨c,hs,.inr hc⟩
  ·exact (hs.2 b (Ae (Ac (AV e) (I.ok.cab x c hfn hc)))).trans (I.base.keep b o e n hb hx)
  ·obtain⟨sl,e1⟩:=I.base.slot b o e n hb hx
   exact⟨sl,(hs.2 b (Ae (Ac (AV e) (I.ok.cab x c hfn hc)))).trans e1⟩
  ·obtain⟨o',e1⟩:=I.base.there b o e hx
   exact⟨o',(hs.2 b (Ae (Ac (AV e) (I.ok.cab x c hfn hc)))).trans e1⟩
  ·by_cases hj:j=i
   ·subst hj
    rw[hi] at e1;cases e1
    rw[Di hiσ] at e2
    cases e2
    exact⟨u,r,.inr ⟨.inl hk,c,hc,hc'⟩⟩
   ·rw[CH (Ne.symm hj)] at e2
    obtain⟨u',r',q⟩:=hl j y v' e1 e2 e3
    refine⟨u',r',?_⟩
    rcases q with q | ⟨k,c',e,z'⟩
    ·exact .inl q
    ·refine .inr ⟨k,c',e,z'.sameBut hs ?_⟩
     rintro rfl
     exact hj (qM hN e1 (I.ok.inj _ _ _ e hc▸hi))
  ·by_cases hcc:c'=c
   ·subst hcc;exact⟨_,hc'⟩
   ·obtain⟨w2,z2⟩:=I.cell y c' e
    exact⟨w2,z2.sameBut hs hcc⟩
  ·obtain⟨e,n,ne,nf,d⟩:=I.pin p hp
   refine⟨(hs.2 p.1 ?_).trans e,n,ne,nf,d⟩
   intro q
   rw[q,hoc] at e
   have q':oc=p.2:=BA e
   exact d w' (by rw[← q'];exact hocd)
theorem uS{M:Model}{A:Around}{E:Value→Shared→Prop}{i:Nat}{x:Str}{v:V}{u:Value}{Q:Unit→Shared→Prop}(I:Inv X pins σ H s)(hN:X.N.Nodup)(hi:X.N[i]?=some x)(hx:Loc X.env.scope x)(r:bM v u)
 (h:∀ s',Inv X pins (σ.set i (some v)) H s'→Q () s')(hf:X.fn x=true∨X.env.scope.names.lookup x=some .local:=by first | exact .inl rfl | exact .inr rfl | assumption):wpAny M A (storeName X.env x u) Q E s :=
 aIV I hN hi hx r (fun s' I' _=>h s' I') hf
theorem Inv.call'{s':Shared}{ch:List Addr}(I:Inv X pins σ H s)(ho:s'.os=s.os)(u:Un (frs X.stack) ch H H' s.heap s'.heap)(hok:HOk X.prog X.w H' s'.heap)(hg:AllBare s'.gens)
 (hch:∀ b∈ch,(b∈X.ex∨X.s₀.heap.objs.size≤b)∧b≠X.env.locals∧(∀ x c,X.env.cells.lookup x=some c→c≠b)∧∀ p∈X.pn++pins,p.1≠b):Inv X pins σ H' s':=by
 obtain⟨h',g',d',t',o'⟩:=s'
 have e:o'=s.os:=ho
 subst e
 exact I.call (g':=g') (t':=t') (d':=d') u hok hg hch
end
abbrev XK:=Value→Option Addr→Hp→Prop
abbrev St:=List (Option V)
abbrev VK:=V→Hp→Prop
abbrev TE:=St→Hp→VK→Prop
abbrev TT:=St→Hp→(Bool→Hp→Prop)→Prop
abbrev TA:=St→Hp→(List V→Hp→Prop)→Prop
structure Ends where
 nx:St→Hp→Prop
 rt:VK
 bk:St→Hp→Prop:=fun _ _=>False
 ct:St→Hp→Prop:=fun _ _=>False
abbrev TS:=Ends→St→Hp→Prop
def EP(X:Cx)(pins:List (Addr×Obj))(σ:St)(Q:VK)(u:Value)(s':Shared):Prop:=∃ v H',Inv X pins σ H' s'∧bM v u∧Q v H'
def TP(X:Cx)(pins:List (Addr×Obj))(σ:St)(Q:Bool→Hp→Prop)(b:Bool)(s':Shared):Prop:=∃ H',Inv X pins σ H' s'∧Q b H'
def AP(X:Cx)(pins:List (Addr×Obj))(σ:St)(Q:List V→Hp→Prop)(us:List Value)(s':Shared):Prop:=∃ vs H',Inv X pins σ H' s'∧bF vs us∧Q vs H'
def SP(X:Cx)(pins:List (Addr×Obj))(D:Ends)(f:Flow)(s':Shared):Prop :=
 match f with
 | .next=>∃ σ' H',Inv X pins σ' H' s'∧D.nx σ' H'
 | .brk=>∃ σ' H',Inv X pins σ' H' s'∧D.bk σ' H'
 | .cont=>∃ σ' H',Inv X pins σ' H' s'∧D.ct σ' H'
 | .ret u=>∃ v σ' H',Inv X pins σ' H' s'∧bM v u∧D.rt v H'
def PE(X:Cx)(e:Expr)(t:TE):Prop :=
 ∀ (pins:List (Addr×Obj)) (s:Shared) (σ:St) (H:Hp) (Q:VK),Inv X pins σ H s→t σ H Q→wpAny (model X.prog X.w) X.A (eval e X.env) (EP X pins σ Q) X.xe s
def PT(X:Cx)(e:Expr)(t:TT):Prop :=
 ∀ (pins:List (Addr×Obj)) (s:Shared) (σ:St) (H:Hp) (Q:Bool→Hp→Prop),Inv X pins σ H s→t σ H Q→wpAny (model X.prog X.w) X.A (isTrue e X.env (eval e X.env)) (TP X pins σ Q) X.xe s
def PW(X:Cx)(e:Expr)(t:TT):Prop :=
 ∀ (whole:Sem Value) (pins:List (Addr×Obj)) (s:Shared) (σ:St) (H:Hp) (Q:Bool→Hp→Prop),Inv X pins σ H s→t σ H Q→wpAny (model X.prog X.w) X.A (isTrue e X.env whole) (TP X pins σ Q) X.xe s
theorem PW.pt{X:Cx}{e:Expr}{t:TT}(h:PW X e t):PT X e t:=h _
def PA(X:Cx)(es:List Expr)(t:TA):Prop :=
 ∀ (pos:Pos) (pins:List (Addr×Obj)) (s:Shared) (σ:St) (H:Hp) (Q:List V→Hp→Prop),Inv X pins σ H s→t σ H Q→wpAny (model X.prog X.w) X.A (spliced (backTo pos (Al es X.env))) (AP X pins σ Q) X.xe s
def PS(X:Cx)(st:Stmt)(t:TS):Prop :=
 ∀ (pins:List (Addr×Obj)) (s:Shared) (σ:St) (H:Hp) (D:Ends),Inv X pins σ H s→t D σ H→wpAny (model X.prog X.w) X.A (exec st X.env) (SP X pins D) X.xe s
def PSs(X:Cx)(st:List Stmt)(t:TS):Prop :=
 ∀ (pins:List (Addr×Obj)) (s:Shared) (σ:St) (H:Hp) (D:Ends),Inv X pins σ H s→t D σ H→wpAny (model X.prog X.w) X.A (execs st X.env) (SP X pins D) X.xe s
theorem thn{α:Type}{t:Sem α}{Q Q':α→Shared→Prop}{M:Model}{A:Around}{E:Value→Shared→Prop}{s:Shared}(h:wpAny M A t Q E s)(hQ:∀ a s,Q a s→Q' a s):wpAny M A t Q' E s:=BB h hQ fun _ _ x=>x
end L2
namespace L2
open PySem PySem.Spec PyProof.Rows
section
variable{X:Cx}
def qZ(i:Nat):TE:=fun σ H Q=>∃ v,σ[i]?=some (some v)∧Q v H
def tC(v:V):TE:=fun _ H Q=>Q v H
theorem aSE{i:Nat}{x:Str}{pos:Pos}(hN:X.N[i]?=some x)(hv:Vis X.env.scope x)(hd:(x == ("__debug__":Str))=false:=by decide)(hcd:(x == ("__classdict__":Str))=false:=by decide):PE X (.Name x pos) (qZ i):=by
 intro pins s σ H Q I h
 obtain⟨v,e,h⟩:=h
 obtain⟨m,hn,hl⟩:=I.loc
 obtain⟨u,r,l⟩:=hl i x v hN e hv
 have fin:EP X pins σ Q u s:=⟨v,H,I,r,h⟩
 rcases l with ⟨hk,hm⟩ | ⟨hk,c,hc,hcell⟩
 ·exact wpAny_Name (wpAny_loadName_local I.ok.kind hk hn hm fin) hd
 ·rcases hk with hk | hk
  ·exact wpAny_Name (wpAny_loadName_cell I.ok.kind hk hc hcell fin) hd
  ·exact wpAny_Name (wpAny_loadName_free I.ok.kind hk hc hcell fin hcd) hd
theorem aD{i j pos}:PE X (.Constant (.int i) j pos) (tC (.int i)):=fun _ _ _ H _ I h=>wpAny_Constant_int ⟨.int i,H,I.tok _,⟨_,rfl⟩,h⟩
theorem fC{b j pos}:PE X (.Constant (.bool b) j pos) (tC (.bl b)):=fun _ _ _ H _ I h=>Constant_bool ⟨.bl b,H,I,rfl,h⟩
theorem rJ{j pos}:PE X (.Constant .none j pos) (tC .non):=fun _ _ _ H _ I h=>Constant_none ⟨.non,H,I,rfl,h⟩
theorem kT{x j pos}:PE X (.Constant (.str x) j pos) (tC (.str x)):=fun _ _ _ H _ I h=>Calls.Constant_str ⟨.str x,H,I.tok _,⟨_,rfl⟩,h⟩
def Gl(X:Cx)(x:Str):Prop:=X.env.kindOf x=some .globalImplicit
theorem nV{E:Value→Shared→Prop}{pins:List (Addr×Obj)}{s:Shared}{σ:St}{H:Hp}{x:Str}{u:Value}{pos:Pos}{Q:Value→Shared→Prop}(I:Inv X pins σ H s)(hg:Gl X x)(hm:X.mg x=some u)(h:Q u s)
 (hd:(x == ("__debug__":Str))=false:=by decide):wpAny (model X.prog X.w) X.A (eval (.Name x pos) X.env) Q E s :=
 Calls.Name_function_global I.ok.kind hg (Calls.loadGlobal_global (by rw[I.ok.glob];exact I.mod.glob.keeps I.bk) hm h) hd
theorem pH{E:Value→Shared→Prop}{pins:List (Addr×Obj)}{s:Shared}{σ:St}{H:Hp}{x:Str}{u:Value}{pos:Pos}{Q:Value→Shared→Prop}(I:Inv X pins σ H s)(hg:Gl X x)(hm:X.mg x=none)(hv:BN x=some u)(h:Q u s)
 (hn:x≠"__name__":=by decide)(hd:(x == ("__debug__":Str))=false:=by decide):wpAny (model X.prog X.w) X.A (eval (.Name x pos) X.env) Q E s:=by
 obtain⟨mb,h1,h2⟩:=I.mod.blt
 exact Calls.Name_function_global I.ok.kind hg (Calls.loadGlobal_builtin (by rw[I.ok.glob];exact I.mod.glob.keeps I.bk) hm (by rw[I.ok.blt];exact h1.keeps I.bk) ((h2 x hn).trans hv) h) hd
theorem aBG{x:Str}{v:V}{u:Value}{pos:Pos}(hg:Gl X x)(hm:X.mg x=some u)(r:bM v u)(hd:(x == ("__debug__":Str))=false:=by decide):PE X (.Name x pos) (tC v) :=
 fun _ _ _ H _ I h=>nV I hg hm ⟨v,H,I,r,h⟩ hd
theorem aPC{x:Str}{v:V}{u:Value}{pos:Pos}(hg:Gl X x)(hm:X.mg x=none)(hv:BN x=some u)(r:bM v u)(hn:x≠"__name__":=by decide)(hd:(x == ("__debug__":Str))=false:=by decide):PE X (.Name x pos) (tC v) :=
 fun _ _ _ H _ I h=>pH I hg hm hv ⟨v,H,I,r,h⟩ hn hd
variable{a b:Expr}{ta tb:TE}{pos:Pos}
def PC(X:Cx)(op:CmpOp)(a b:Expr)(t:TE):Prop :=
 ∀ (pins:List (Addr×Obj)) (s:Shared) (σ:St) (H:Hp) (Q:VK),Inv X pins σ H s→t σ H Q →
  wpAny (model X.prog X.w) X.A (eval a X.env) (fun v s₁=>wpAny (model X.prog X.w) X.A (eval b X.env) (fun u s₂=>wpAny (model X.prog X.w) X.A (BV op v u) (EP X pins σ Q) X.xe s₂) X.xe s₁) X.xe s
def tB(t:TE):TT:=fun σ H Q=>t σ H fun x H1=>∃ c,x=.bl c∧Q c H1
theorem aBD{op:CmpOp}{t:TE}(h:PC X op a b t)(h1:Dk op b=false:=by first | exact nobehind _ (by decide) (by decide) | rfl):PT X (.Compare a [op] [b] pos) (tB t):=by
 intro pins s σ H Q I hw
 refine wpAny_isTrue_Compare1 (thn (h pins s σ H _ I hw) fun v s1 h1=>thn h1 fun u s2 h2=>thn h2 fun c s3 ⟨x,H1,I1,r1,q1⟩=>?_) h1
 obtain⟨d,rfl,q⟩:=q1
 cases r1
 exact Bj ⟨H1,I1,q⟩
theorem cR{e:Expr}{t:TE}(h:PE X e t)(he:∀ whole,isTrue e X.env whole=(do let v ← whole;standAt e.pos;holding [v] (truthy v)):=by intro _;rfl):PT X e (tB t):=by
 intro pins s σ H Q I hw
 refine isTrue_plain (thn (h pins s σ H _ I hw) fun v s1 ⟨x,H1,I1,r1,q1⟩=>?_) (he _)
 obtain⟨d,rfl,q⟩:=q1
 cases r1
 exact Bj ⟨H1,I1,q⟩
variable{tA tB':TT}{oZ:List Expr}
def aVZ(t u:TT):TT:=fun σ H Q=>t σ H fun c H1=>if c=true then u σ H1 Q else Q false H1
def tOr(t u:TT):TT:=fun σ H Q=>t σ H fun c H1=>if c=true then Q true H1 else u σ H1 Q
def aVS(t:TT):TT:=fun σ H Q=>t σ H fun c H1=>Q (!c) H1
theorem kQ(ha:PT X a tA):PW X (.BoolOp .And [a] pos) tA:=by
 intro wh pins s σ H Q I h
 refine isTrue_and (thn (ha pins s σ H Q I h) fun c s1 e=>?_)
 cases c with
 | true=>exact isTrue_and_nil e
 | false=>exact e
theorem iW(ha:PT X a tA):PW X (.BoolOp .Or [a] pos) tA:=by
 intro wh pins s σ H Q I h
 refine isTrue_or (thn (ha pins s σ H Q I h) fun c s1 e=>?_)
 cases c with
 | false=>exact isTrue_or_nil e
 | true=>exact e
theorem mJ(ha:PT X a tA)(hb:PW X (.BoolOp .And (b :: oZ) pos) tB'):PW X (.BoolOp .And (a :: b :: oZ) pos) (aVZ tA tB'):=by
 intro wh pins s σ H Q I h
 refine isTrue_and (thn (ha pins s σ H _ I h) fun c s1 ⟨H1,I1,q1⟩=>?_)
 cases c with
 | true=>exact hb wh pins s1 σ H1 Q I1 q1
 | false=>exact⟨H1,I1,q1⟩
theorem kA(ha:PT X a tA)(hb:PW X (.BoolOp .Or (b :: oZ) pos) tB'):PW X (.BoolOp .Or (a :: b :: oZ) pos) (tOr tA tB'):=by
 intro wh pins s σ H Q I h
 refine isTrue_or (thn (ha pins s σ H _ I h) fun c s1 ⟨H1,I1,q1⟩=>?_)
 cases c with
 | true=>exact⟨H1,I1,q1⟩
 | false=>exact hb wh pins s1 σ H1 Q I1 q1
theorem dA(ha:PT X a tA):PT X (.UnaryOp .Not a pos) (aVS tA):=by
 intro pins s σ H Q I h
 exact isTrue_not (ha pins s σ H (fun c H1=>Q (!c) H1) I h)
def aQO(ta tb:TE):TE:=fun σ H Q=>ta σ H fun x H1=>∃ c,x=.bl c∧if c=true then tb σ H1 Q else Q (.bl false) H1
def aVQ(ta tb:TE):TE:=fun σ H Q=>ta σ H fun x H1=>∃ c,x=.bl c∧if c=true then Q (.bl true) H1 else tb σ H1 Q
def aUB(ta:TE):TE:=fun σ H Q=>ta σ H fun x H1=>∃ c,x=.bl c∧Q (.bl (!c)) H1
theorem dY{op}{t:TE}(h:PE X a t):PE X (.BoolOp op [a] pos) t:=fun pins s σ H Q I hw=>BoolOp_one (h pins s σ H Q I hw)
theorem dD(ha:PE X a ta)(hb:PE X (.BoolOp .And (b :: oZ) pos) tb):PE X (.BoolOp .And (a :: b :: oZ) pos) (aQO ta tb):=by
 intro pins s σ H Q I h
 refine BoolOp_and (thn (ha pins s σ H _ I h) fun v s1 ⟨x,H1,I1,r1,q1⟩=>?_)
 obtain⟨c,rfl,q1⟩:=q1
 cases r1
 refine Bj ?_
 cases c with
 | true=>exact hb pins s1 σ H1 Q I1 q1
 | false=>exact⟨.bl false,H1,I1,rfl,q1⟩
theorem aQV(ha:PE X a ta)(hb:PE X (.BoolOp .Or (b :: oZ) pos) tb):PE X (.BoolOp .Or (a :: b :: oZ) pos) (aVQ ta tb):=by
 intro pins s σ H Q I h
 refine BoolOp_or (thn (ha pins s σ H _ I h) fun v s1 ⟨x,H1,I1,r1,q1⟩=>?_)
 obtain⟨c,rfl,q1⟩:=q1
 cases r1
 refine Bj ?_
 cases c with
 | false=>exact hb pins s1 σ H1 Q I1 q1
 | true=>exact⟨.bl true,H1,I1,rfl,q1⟩
theorem aSG(ha:PE X a ta):PE X (.UnaryOp .Not a pos) (aUB ta):=by
 intro pins s σ H Q I h
 refine UnaryOp_ (thn (ha pins s σ H _ I h) fun v s1 ⟨x,H1,I1,r1,q1⟩=>?_)
 obtain⟨c,rfl,q1⟩:=q1
 cases r1
 exact not_of (Bj ⟨.bl (!c),H1,I1,rfl,q1⟩)
def tIf(t:TT)(ta tb:TE):TE:=fun σ H Q=>t σ H fun c H1=>if c=true then ta σ H1 Q else tb σ H1 Q
theorem aLX{c:Expr}(hc:PT X c tA)(ha:PE X a ta)(hb:PE X b tb):PE X (.IfExp c a b pos) (tIf tA ta tb):=by
 intro pins s σ H Q I h
 refine wpAny_IfExp (thn (hc pins s σ H _ I h) fun d s1 ⟨H1,I1,q1⟩=>?_)
 cases d with
 | true=>exact ha pins s1 σ H1 Q I1 q1
 | false=>exact hb pins s1 σ H1 Q I1 q1
end
end L2
namespace L2
open PySem PySem.Spec PyProof.Rows
def SqL(K:AD)(H:Hp)(a:Addr)(xs:List V):Prop :=
 Rd H a (.lst xs) ∨
  ∃ (o:Obj) (its:Array Value) (n:Nat),K.lookup a=some o∧o.cls=.type "list"∧o.dict=none∧o.data=.seq its n∧its.size≤Ak∧bF xs its.toList
def SqT(K:AD)(H:Hp)(a:Addr)(xs:List V):Prop :=
 Rd H a (.tup xs) ∨
  ∃ (o:Obj) (its:Array Value) (n:Nat),K.lookup a=some o∧o.cls=.type "tuple"∧o.data=.seq its n∧its.size≤Ak∧bF xs its.toList
noncomputable def aWP:Value→Option V
 | .none=>some .non
 | .bool b=>some (.bl b)
 | .int i _=>some (.int i)
 | .str x _=>some (.str x)
 | .bytes b _=>some (.byt b)
 | .float b _=>some (.flt b)
 | .ref a=>some (.ref a)
 | .type n=>some (.ty n)
 | _=>none
theorem bM.abs{x:V}{u:Value}(r:bM x u):aWP u=some x:=by
 cases x with
 | non=>cases r;rfl
 | bl _=>cases r;rfl
 | int _=>obtain⟨t,rfl⟩:=r;rfl
 | str _=>obtain⟨t,rfl⟩:=r;rfl
 | byt _=>obtain⟨t,rfl⟩:=r;rfl
 | flt _=>obtain⟨t,rfl⟩:=r;rfl
 | ref _=>cases r;rfl
 | ty _=>cases r;rfl
theorem bM.inj{x y:V}{u:Value}(r:bM x u)(q:bM y u):x=y:=BA (r.abs.symm.trans q.abs)
theorem bF.inj:∀ {xs ys:List V} {us:List Value},bF xs us→bF ys us→xs=ys
 | _,_,_,.nil,.nil=>rfl
 | _,_,_,.cons r t,.cons r' t'=>by rw[r.inj r',bF.inj t t']
section
variable{X:Cx}{pins:List (Addr×Obj)}{σ:St}{H:Hp}{s:Shared}{a:Addr}{xs ys:List V}
theorem SqL.of{K:AD}(h:H a=some (.lst xs)):SqL K H a xs:=.inl (.inl h)
theorem SqT.of{K:AD}(h:H a=some (.tup xs)):SqT K H a xs:=.inl (.inl h)
theorem Inv.list(I:Inv X pins σ H s)(h:SqL X.K H a xs):∃ its:List Value,bF xs its∧PlainL s.heap a its.toArray∧xs.length≤Ak:=by
 rcases h with h | ⟨o,its,n,hk,hc,hd,hs,hz,r⟩
 ·obtain⟨z,its,n,r,e⟩:=h.ok I.hok
  exact⟨its,r,⟨_,n,e,rfl,rfl,rfl⟩,z⟩
 ·refine⟨its.toList,r,⟨o,n,I.kIn a o hk,hc,hd,by simpa using hs⟩,?_⟩
  have e:=r.length
  simp only[Bf] at e
  omega
theorem Inv.tuple(I:Inv X pins σ H s)(h:SqT X.K H a xs):∃ its:List Value,bF xs its∧IsTup s.heap a its.toArray∧xs.length≤Ak:=by
 rcases h with h | ⟨o,its,n,hk,hc,hs,hz,r⟩
 ·obtain⟨z,its,r,p⟩:=h.ok I.hok
  exact⟨its,r,p.tup,z⟩
 ·refine⟨its.toList,r,⟨o,I.kIn a o hk,hc,n,by simpa using hs⟩,?_⟩
  have e:=r.length
  simp only[Bf] at e
  omega
theorem Inv.list_inj(I:Inv X pins σ H s)(h:SqL X.K H a xs)(h':SqL X.K H a ys):xs=ys:=by
 obtain⟨its,r,⟨o,n,e,_,_,d⟩,_⟩:=I.list h
 obtain⟨its',r',⟨o',n',e',_,_,d'⟩,_⟩:=I.list h'
 rw[e] at e';cases e'
 rw[d] at d'
 injection d' with d1 _
 have:its=its':=by simpa using congrArg Array.toList d1
 subst this
 exact r.inj r'
end
abbrev Cx.wish (X:Cx) (E:Value→Shared→Prop):Cx:={ X with xe:=E }
abbrev Cx.nox (X:Cx):Cx:=X.wish fun _ _=>False
theorem Cx.Ok.wish{X:Cx}(ok:X.Ok)(E:Value→Shared→Prop):(X.wish E).Ok :=
 ⟨ok.mod,ok.kind,ok.glob,ok.blt,ok.above,ok.inj,ok.has,ok.cab,ok.hd,ok.frames,ok.stk,ok.exf,ok.bs,ok.bsz,ok.noex,ok.exfs,ok.funs,ok.frf⟩
theorem Cx.Ok.unwish{X:Cx}{E:Value→Shared→Prop}(ok:(X.wish E).Ok):X.Ok :=
 ⟨ok.mod,ok.kind,ok.glob,ok.blt,ok.above,ok.inj,ok.has,ok.cab,ok.hd,ok.frames,ok.stk,ok.exf,ok.bs,ok.bsz,ok.noex,ok.exfs,ok.funs,ok.frf⟩
section
variable{X:Cx}{pins:List (Addr×Obj)}{σ:St}{H:Hp}{s:Shared}{E:Value→Shared→Prop}
theorem Inv.wish(I:Inv X pins σ H s)(E:Value→Shared→Prop):Inv (X.wish E) pins σ H s:=⟨I.ok.wish E,I.os,I.bare,I.base,I.loc,I.cell,I.free,I.freeC,I.pin,I.hok,I.len⟩
theorem Inv.unwish(I:Inv (X.wish E) pins σ H s):Inv X pins σ H s:=⟨I.ok.unwish,I.os,I.bare,I.base,I.loc,I.cell,I.free,I.freeC,I.pin,I.hok,I.len⟩
theorem SP.unwish{D:Ends}{f:Flow}{s':Shared}(h:SP (X.wish E) pins D f s'):SP X pins D f s':=by
 cases f with
 | next=>obtain⟨σ',H',I,q⟩:=h;exact⟨σ',H',I.unwish,q⟩
 | brk=>obtain⟨σ',H',I,q⟩:=h;exact⟨σ',H',I.unwish,q⟩
 | cont=>obtain⟨σ',H',I,q⟩:=h;exact⟨σ',H',I.unwish,q⟩
 | ret u=>obtain⟨v,σ',H',I,r,q⟩:=h;exact⟨v,σ',H',I.unwish,r,q⟩
theorem PSs.nox{st:List Stmt}{t:TS}(h:PSs X.nox st t):PSs X st t:=fun pins s σ H D I hw =>
 BB (h pins s σ H D (I.wish _) hw) (fun _ _ q=>q.unwish) fun _ _ z=>BH z
end
section
variable{X:Cx}{st:Stmt}{oZ:List Stmt}{t u:TS}{e:Expr}{te:TE}{pos:Pos}
def aUC:TS:=fun D σ H=>D.nx σ H
def uQ(t u:TS):TS:=fun D σ H=>t { D with nx:=u D } σ H
theorem bP:PSs X [] aUC:=fun _ _ σ H _ I h=>Cn ⟨σ,H,I,h⟩
theorem aE(h1:PS X st t)(h2:PSs X oZ u):PSs X (st :: oZ) (uQ t u):=by
 intro pins s σ H D I h
 refine Ev (thn (h1 pins s σ H { D with nx:=u D } I h) fun f s1 q=>?_)
 cases f with
 | next =>
  obtain⟨σ',H',I',q⟩:=q
  exact h2 pins s1 σ' H' D I' q
 | ret v=>exact q
 | brk=>exact q
 | cont=>exact q
theorem aG(h1:PS X st t):PSs X [st] t:=by
 intro pins s σ H D I h
 refine Ev (thn (h1 pins s σ H D I h) fun f s1 q=>?_)
 cases f with
 | next=>exact Cn q
 | ret v=>exact q
 | brk=>exact q
 | cont=>exact q
theorem Inv.quiet{pins:List (Addr×Obj)}{σ:St}{H:Hp}{s:Shared}(I:Inv X pins σ H s):interactive X.env=false:=by simp[interactive,I.ok.kind]
def aQM(te:TE):TS:=fun D σ H=>te σ H fun _ H1=>D.nx σ H1
theorem dB(he:PE X e te)(hs:EX e none pos.line X.env=pure false:=by rfl):PS X (.Expr e pos) (aQM te):=by
 intro pins s σ H D I h
 exact wpAny_Expr_any (thn (he pins s σ H _ I h) fun v s1 ⟨x,H1,I1,r1,q1⟩=>⟨σ,H1,I1,q1⟩) I.quiet hs
def aTZ(te:TE):TS:=fun D σ H=>te σ H D.rt
theorem aQ(he:PE X e te):PS X (.Return (some e) pos) (aTZ te):=by
 intro pins s σ H D I h
 exact wpAny_Return_some (thn (he pins s σ H _ I h) fun v s1 ⟨x,H1,I1,r1,q1⟩=>⟨x,σ,H1,I1,r1,q1⟩)
def aVU(c:TT)(t u:TS):TS:=fun D σ H=>c σ H fun b H1=>if b=true then t D σ H1 else u D σ H1
theorem dG{c:Expr}{a b:List Stmt}{tc:TT}(hc:PT X c tc)(ha:PSs X a t)(hb:PSs X b u):PS X (.If c a b pos) (aVU tc t u):=by
 intro pins s σ H D I h
 refine wpAny_If (thn (hc pins s σ H _ I h) fun d s1 ⟨H1,I1,q1⟩=>?_)
 cases d with
 | true=>exact ha pins s1 σ H1 D I1 q1
 | false=>exact hb pins s1 σ H1 D I1 q1
def aKN:TS:=fun _ _ _=>False
theorem kB:PS X st aKN:=fun _ _ _ _ _ _ h=>h.elim
theorem rG{sts:List Stmt}:PSs X sts aKN:=fun _ _ _ _ _ _ h=>h.elim
end
abbrev TG:=V→St→Hp→(St→Hp→Prop)→Prop
abbrev TGs:=List V→St→Hp→(St→Hp→Prop)→Prop
def PG(X:Cx)(target:Expr)(t:TG):Prop :=
 ∀ (pins:List (Addr×Obj)) (s:Shared) (σ:St) (H:Hp) (v:V) (u:Value) (Q:St→Hp→Prop),Inv X pins σ H s→bM v u→t v σ H Q →
  wpAny (model X.prog X.w) X.A (assign target X.env u) (fun _ s'=>∃ σ' H',Inv X pins σ' H' s'∧Q σ' H') X.xe s
def PGs(X:Cx)(ts:List Expr)(t:TGs):Prop :=
 ∀ (pins:List (Addr×Obj)) (s:Shared) (σ:St) (H:Hp) (vs:List V) (us:List Value) (Q:St→Hp→Prop),Inv X pins σ H s→bF vs us→t vs σ H Q →
  wpAny (model X.prog X.w) X.A (assignInOrder ((DB ts X.env).map (·.2)) us) (fun _ s'=>∃ σ' H',Inv X pins σ' H' s'∧Q σ' H') X.xe s
abbrev TSet:=V→V→V→Hp→(Hp→Prop)→Prop
abbrev TIp:=V→V→Hp→VK→Prop
section
variable{X:Cx}{pos:Pos}
def wQ(i:Nat):TG:=fun v σ H Q=>Q (σ.set i (some v)) H
theorem aN{i:Nat}{x:Str}(hN:X.N.Nodup)(hi:X.N[i]?=some x)(hx:Loc X.env.scope x)(hf:X.fn x=true∨X.env.scope.names.lookup x=some .local:=by first | exact .inl rfl | exact .inr rfl | assumption):PG X (.Name x pos) (wQ i):=by
 intro pins s σ H v u Q I r h
 exact wpAny_assign_Name (uS I hN hi hx r (fun s' I'=>⟨_,H,I',h⟩) hf)
def aVG:TGs:=fun vs σ H Q=>vs=[]∧Q σ H
def aQW(t:TG)(u:TGs):TGs:=fun vs σ H Q=>∃ v r,vs=v :: r∧t v σ H fun σ' H'=>u r σ' H' Q
theorem kR:PGs X [] aVG:=by
 intro pins s σ H vs us Q I r h
 obtain⟨e,h⟩:=h
 subst e
 cases r
 exact assignInOrder_nil ⟨σ,H,I,h⟩
theorem cH{e:Expr}{es:List Expr}{t:TG}{u:TGs}(h1:PG X e t)(h2:PGs X es u)
 (hs:(DB (e :: es) X.env).map (·.2)=assign e X.env :: (DB es X.env).map (·.2):=by rfl):PGs X (e :: es) (aQW t u):=by
 intro pins s σ H vs us Q I r h
 obtain⟨v,vr,e1,h⟩:=h
 subst e1
 cases r with
 | cons r rr =>
  rw[hs]
  refine assignInOrder_cons (thn (h1 pins s σ H _ _ _ I r h) fun _ s1 ⟨σ1,H1,I1,q1⟩=>?_)
  exact h2 pins s1 σ1 H1 _ _ Q I1 rr q1
def aTB(K:AD)(n:Nat)(t:TGs):TG:=fun v σ H Q=>∃ a xs,v=.ref a∧SqT K H a xs∧xs.length=n∧t xs σ H Q
theorem rH{es:List Expr}{k:Nat}{t:TGs}{n:Nat}(hc:X.calm=true)(h:PGs X es t)
 (hn:(DB es X.env).length=n:=by rfl)(hst:(DB es X.env).findIdx? (·.1)=none:=by rfl):PG X (.Tuple es k pos) (aTB X.K n t):=by
 intro pins s σ H v u Q I r hw
 obtain⟨a,xs,e1,hq,hl,hw⟩:=hw
 subst e1
 cases r
 obtain⟨its,rv,ht,hz⟩:=I.tuple hq
 refine assign_Tuple_tuple (I.ok.hd hc) ht (by simp[hn,← hl,rv.length]) hst fun h' hx=>?_
 have I1:Inv X pins σ H { s with heap:=h' }:=I.kept (t':=s.toks) fun b o e=>hx b o (Ae (AV e)) e
 exact h pins _ σ H xs _ Q I1 (by simpa using rv) hw
def aRG(te:TE)(g:TG):TS:=fun D σ H=>te σ H fun x H1=>g x σ H1 D.nx
theorem aBE{tg e:Expr}{te:TE}{g:TG}(he:PE X e te)(hg:PG X tg g)(hs:swapsWithSole [tg] e pos.line X.env=pure false:=by rfl)(hw:swappedStores [tg] e X.env=pure none:=by rfl)
 (h1:(DB [tg] X.env).map (·.2)=[assign tg X.env]:=by rfl):PS X (.Assign [tg] e pos) (aRG te g):=by
 intro pins s σ H D I h
 refine wpAny_Assign_stores (thn (he pins s σ H _ I h) fun v s1 ⟨x,H1,I1,r1,q1⟩=>?_) hs hw
 rw[h1]
 exact thn (hg pins s1 σ H1 x v _ I1 r1 q1) fun _ s2 q=>q
theorem aV{i:Nat}{x:Str}{e:Expr}{te:TE}{pos':Pos}(hN:X.N.Nodup)(hi:X.N[i]?=some x)(hx:Loc X.env.scope x)(he:PE X e te)(hs:EX e (some (.Name x pos')) pos.line X.env=pure false:=by rfl)(hf:X.fn x=true∨X.env.scope.names.lookup x=some .local:=by first | exact .inl rfl | exact .inr rfl | assumption) :
  PS X (.Assign [.Name x pos'] e pos) (aRG te (wQ i)):=by
 intro pins s σ H D I h
 refine wpAny_Assign_Name (thn (he pins s σ H _ I h) fun v s1 ⟨y,H1,I1,r1,q1⟩=>?_) hs
 exact uS I1 hN hi hx r1 (fun s2 I2=>⟨_,H1,I2,q1⟩) hf
end
section
variable{X:Cx}{pos:Pos}
def aKM(c:TT)(tb:TS):TS:=fun D σ H=>∃ W:Nat→St→Hp→Prop,(∃ m,W m σ H)∧∀ m σ H,W m σ H →
 c σ H fun b H1=>if b=true then ∃ N:St→Hp→Prop,(∀ σ' H',N σ' H'→∃ m',m'<m∧W m' σ' H')∧tb { D with nx:=N,ct:=N,bk:=D.nx } σ H1 else D.nx σ H1
theorem vP{c:Expr}{body:List Stmt}{tc:TT}{tb:TS}(hp:Bh (model X.prog X.w) X.A X.env X.xe)(hc:PT X c tc)(hb:PSs X body tb):PS X (.While c body [] pos) (aKM tc tb):=by
 intro pins s σ H D I h
 obtain⟨W,⟨m0,w0⟩,turn⟩:=h
 refine wpAny_While (codeAny_whileLoop (fun n s'=>∃ σ' H',Inv X pins σ' H' s'∧W n σ' H') ?_ m0 ⟨σ,H,I,w0⟩)
 rintro n s1 ⟨σ1,H1,I1,w1⟩
 refine CZ hp (thn (hc pins s1 σ1 H1 _ I1 (turn n σ1 H1 w1)) fun b s2 ⟨H2,I2,q2⟩=>?_)
 cases b with
 | true =>
  obtain⟨N,hN,q2⟩:=q2
  rw[if_pos rfl]
  refine CZ hp (thn (hb pins s2 σ1 H2 _ I2 q2) fun f s3 q3=>?_)
  cases f with
  | next =>
   obtain⟨σ3,H3,I3,n3⟩:=q3
   obtain⟨m',hm,w3⟩:=hN σ3 H3 n3
   exact⟨m',hm,σ3,H3,I3,w3⟩
  | cont =>
   obtain⟨σ3,H3,I3,n3⟩:=q3
   obtain⟨m',hm,w3⟩:=hN σ3 H3 n3
   exact⟨m',hm,σ3,H3,I3,w3⟩
  | brk=>exact q3
  | ret v=>exact q3
 | false =>
  rw[if_neg AR]
  exact Cn ⟨σ1,H2,I2,q2⟩
end
structure It where
 go:Nat→Hp→Prop
 yld:Nat→Hp→V→Hp→Prop
 stop:Nat→Hp→Prop
def aCI(X:Cx)(pins:List (Addr×Obj))(H:Hp)(b:Addr):Prop :=
 H b=none∧b≠X.env.locals∧b∉X.fs∧(b∈X.ex∨X.s₀.heap.objs.size≤b)∧(∀ x c,X.env.cells.lookup x=some c→c≠b)∧∀ p∈X.pn++pins,p.1≠b
theorem Inv.fpOk{X:Cx}{pins:List (Addr×Obj)}{σ:St}{H H':Hp}{s:Shared}{b:Addr}(I:Inv X pins σ H s)(hb:s.heap.objs.size≤b)(hn:H' b=none):aCI X pins H' b:=by
 refine⟨hn,Ei (Ac I.lt hb),I.nofs hb,.inr (Az I.sz hb),fun x c e z=>?_,fun p hp z=>?_⟩
 ·obtain⟨v,q⟩:=I.cell x c e
  exact absurd (Ac q.lt (by rw[z];exact hb)) (CI _)
 ·exact absurd (Ac (AV (I.pin p hp).1) (by rw[z];exact hb)) (CI _)
structure Turn (P:Program) (w:World) (K:AD) (tg:Expr) (J:It) (fp:List Addr) (it:Addr) (tn:Nat→Heap→Prop):Prop where
 mem:it∈fp
 obj:∀ i h,tn i h→∀ b∈fp,∃ o,h.get? b=some o∧∀ v,o.data≠.cell v
 keep:∀ i h h',tn i h→(∀ b∈fp,∀ o,h.get? b=some o→h'.get? b=some o)→tn i h'
 item:∀ (X:Cx),X.prog=P→X.w=w→X.K=K→X.calm=true→∀ (i:Nat) (pins:List (Addr×Obj)) (s:Shared) (σ:St) (H:Hp) (E:Value→Shared→Prop),Inv X pins σ H s→(∀ b∈fp,aCI X pins H b)→tn i s.heap→J.go i H →
  wpAny (model P w) X.A (pyNext (.ref it)) (fun r s1=>∃ u,r=some u ∧
   wpAny (model P w) X.A (EF tg (.ref it) u) (fun _ s2=>∃ x H',Inv X pins σ H' s2∧bM x u∧J.yld i H x H'∧tn (i+1) s2.heap∧∀ b∈fp,H' b=none) E s1) E s
 done:∀ (X:Cx),X.prog=P→X.w=w→X.K=K→X.calm=true→∀ (i:Nat) (pins:List (Addr×Obj)) (s:Shared) (σ:St) (H:Hp) (E:Value→Shared→Prop),Inv X pins σ H s→(∀ b∈fp,aCI X pins H b)→tn i s.heap→J.stop i H →
  wpAny (model P w) X.A (pyNext (.ref it)) (fun r s1=>r=none∧Inv X pins σ H s1) E s
 self:∀ (A:Around) (i:Nat) (s:Shared) (Q:Value→Shared→Prop) (E:Value→Shared→Prop),tn i s.heap→Q (.ref it) s→wpAny (model P w) A (pyIter (.ref it)) Q E s
abbrev TI:=St→Hp→(It→Hp→Prop)→Prop
def PIE(X:Cx)(pins:List (Addr×Obj))(σ:St)(tg:Expr)(R:It→Hp→Prop)(itv:Value)(s2:Shared):Prop :=
 ∃ (it:Addr) (fp:List Addr) (tn:Nat→Heap→Prop) (J:It) (H':Hp),itv=.ref it∧Inv X pins σ H' s2∧Turn X.prog X.w X.K tg J fp it tn∧tn 0 s2.heap∧(∀ b∈fp,aCI X pins H' b)∧R J H'
def PI(X:Cx)(tg iter:Expr)(wi:TI):Prop :=
 ∀ (pins:List (Addr×Obj)) (s:Shared) (σ:St) (H:Hp) (R:It→Hp→Prop),Inv X pins σ H s→wi σ H R →
  wpAny (model X.prog X.w) X.A (eval iter X.env) (fun v s1=>wpAny (model X.prog X.w) X.A (pyIter v) (PIE X pins σ tg R) X.xe s1) X.xe s
theorem aIE{M:Model}{A:Around}{E:Value→Shared→Prop}{s:Shared}{tg:Expr}{it:Addr}{u:Value}{o:Obj}{n:String}{vs:Array Value}{Q:Unit→Shared→Prop}(ho:s.heap.get? it=some o)(hc:o.cls=.type n)(hd:o.data=.fields vs)
 (hn:["enumerate","zip","dict_itemiterator","dict_reverseitemiterator","odict_iterator","itertools.zip_longest","itertools.pairwise"].contains n=false)(hQ:Q () s):wpAny M A (EF tg (.ref it) u) Q E s:=by
  unfold EF
  cases tg <;> first
    | exact Aa hQ
    | (cases u <;> first
        | exact Aa hQ
        | (refine AK (wpAny_load ho ?_)
           rw[hc,hd]
           show wpAny M A (if (["enumerate","zip","dict_itemiterator","dict_reverseitemiterator","odict_iterator","itertools.zip_longest","itertools.pairwise"].contains n && vs[0]? == some (rawInt _))=true then _ else _) Q E s
           rw[if_neg (by intro h;rw[hn,Cr] at h;cases h)]
           exact Aa hQ))
noncomputable def Itl(K:AD)(a:Addr):It :=
 ⟨fun i H=>∃ xs x,SqL K H a xs∧xs[i]?=some x,fun i H x H'=>H'=H∧∀ xs,SqL K H a xs→xs[i]?=some x,fun i H=>∃ xs,SqL K H a xs∧xs.length≤i⟩
noncomputable def Itr(lo:Int)(n:Nat):It:=⟨fun i _=>i<n,fun i H x H'=>H'=H∧x=.int (lo+i),fun i _=>n≤i⟩
theorem aIS{P:Program}{w:World}{K:AD}{tg:Expr}(a it:Addr):Turn P w K tg (Itl K a) [it] it (fun i h=>h.IsListIter it a i) where
 mem:=by simp
 obj:=fun i h st b hb=>by
  have e:b=it:=by simpa using hb
  subst e
  obtain⟨o,e,c,d⟩:=st
  exact⟨o,e,fun v z=>by rw[d] at z;cases z⟩
 keep:=fun i h h' st k=>st.at fun o e=>k it (by simp) o e
 item:=by
  intro X hP hw hK hc i pins s σ H E I hf st hg
  subst hP hw hK
  obtain⟨xs,x,hq,hx⟩:=hg
  obtain⟨its,rv,p,hz⟩:=I.list hq
  obtain⟨u,hu,ru⟩:=rv.get hx
  obtain⟨f0,f1,f2,f3,f4,f5⟩:=hf it (by simp)
  refine wpAny_pyNext_list_item st p.isList (x:=u) (by simpa using hu) fun h' st' sb=>?_
  have I1:Inv X pins σ H { s with heap:=h' }:=I.turned (t':=s.toks) (fun b o hb e=>(sb.2 b hb).trans e) f0 f1 f3 f4 f5
  obtain⟨o,e,c,d⟩:=id st'
  exact⟨u,rfl,aIE (s:={ s with heap:=h' }) e c d (by decide) ⟨x,H,I1,ru,⟨rfl,fun ys hy=>by rw[I.list_inj hy hq];exact hx⟩,st',fun b hb=>(hf b hb).1⟩⟩
 done:=by
  intro X hP hw hK hc i pins s σ H E I hf st hg
  subst hP hw hK
  obtain⟨xs,hq,hx⟩:=hg
  obtain⟨its,rv,p,hz⟩:=I.list hq
  obtain⟨f0,f1,f2,f3,f4,f5⟩:=hf it (by simp)
  have hl:=rv.length
  exact wpAny_pyNext_list_end (I.ok.hd hc) st p.isList (by simp;omega) fun h' eb=>⟨rfl,I.turned (t':=s.toks) (fun b o hb e=>eb b o hb e) f0 f1 f3 f4 f5⟩
 self:=fun _ _ _ _ _ st h=>wpAny_pyIter_listiter st h
theorem aFC{P:Program}{w:World}{K:AD}{tg:Expr}(it:Addr)(lo:Int)(n:Nat):Turn P w K tg (Itr lo n) [it] it (fun i h=>IsRangeIter h it (lo+(i:Nat)*1) ((n:Int) - (i:Nat)) 1) where
 mem:=by simp
 obj:=fun i h st b hb=>by
  have e:b=it:=by simpa using hb
  subst e
  exact⟨_,st,fun v z=>by
   have z':Data.fields _=Data.cell v:=z
   cases z'⟩
 keep:=fun i h h' st k=>k it (by simp) _ st
 item:=by
  intro X hP hw hK hc i pins s σ H E I hf st hg
  subst hP hw hK
  obtain⟨f0,f1,f2,f3,f4,f5⟩:=hf it (by simp)
  have W:=Walks.range (prog:=X.prog) (w:=X.w) (I.ok.hd hc) it lo 1 n
  refine W.item i s _ _ hg st fun v h' tk hv st' kk=>?_
  obtain⟨t,rfl⟩:=hv
  have I1:Inv X pins σ H { s with heap:=h',toks:=tk }:=I.turned (fun b o hb e=>kk b o (by simpa using hb) e) f0 f1 f3 f4 f5
  refine⟨_,rfl,aIE (s:={ s with heap:=h',toks:=tk }) (n:="range_iterator") st' rfl rfl (by decide) ⟨.int (lo+i),H,I1,⟨t,?_⟩,⟨rfl,rfl⟩,st',fun b hb=>(hf b hb).1⟩⟩
  rw[Int.mul_one]
 done:=by
  intro X hP hw hK hc i pins s σ H E I hf st hg
  subst hP hw hK
  obtain⟨f0,f1,f2,f3,f4,f5⟩:=hf it (by simp)
  exact wpAny_pyNext_range_end (I.ok.hd hc) st (by have:n≤i:=hg;omega) fun h' eb=>⟨rfl,I.turned (t':=s.toks) (fun b o hb e=>eb b o hb e) f0 f1 f3 f4 f5⟩
 self:=fun _ _ _ _ _ st h=>wpAny_pyIter_rangeiter st h
end L2
namespace L2
open PySem PySem.Spec PyProof.Rows
section
variable{X:Cx}{tg:Expr}
def aVE(K:AD)(tl:TE):TI:=fun σ H R=>tl σ H fun x H1=>∃ a,x=.ref a∧(∃ xs,SqL K H1 a xs)∧R (Itl K a) H1
theorem bG{l:Expr}{tl:TE}(hl:PE X l tl):PI X tg l (aVE X.K tl):=by
 intro pins s σ H R I h
 refine thn (hl pins s σ H _ I h) fun v s1 ⟨x,H1,I1,r1,q1⟩=>?_
 obtain⟨a,e,⟨xs,hq⟩,q⟩:=q1
 subst e
 cases r1
 obtain⟨its,rv,p,hz⟩:=I1.list hq
 refine Cy p.isList ?_
 refine⟨s1.heap.objs.size,[s1.heap.objs.size],_,_,H1,rfl,I1.kept (t':=s1.toks) fun b o e=>AJ _ e,aIS a _,⟨_,Ah _ rfl,rfl,rfl⟩,fun b hb=>?_,q⟩
 have e:b=s1.heap.objs.size:=by simpa using hb
 subst e
 exact I1.fpOk (AS _) (I1.hok.fresh (AS _))
theorem aLO{pins:List (Addr×Obj)}{σ:St}{H:Hp}{s:Shared}{R:It→Hp→Prop}{E:Value→Shared→Prop}{lo hi:Int}{t u v:Tok}{tk:Nat}(I:Inv X pins σ H s)(h1:-(2 ^ 62)≤lo)(h2:lo<2 ^ 62)(h3:-(2 ^ 62)≤hi)(h4:hi<2 ^ 62)
 (q:R (Itr lo (hi - lo).toNat) H):wpAny (model X.prog X.w) X.A (pyIter (.ref s.heap.objs.size)) (PIE X pins σ tg R) E { s with heap:=s.heap.push { cls:=.type "range",data:=.fields #[.int lo t,.int hi u,.int 1 v] },toks:=tk }:=by
 refine wpAny_pyIter_range (IsRange.new ..) (small_one h1 h2 h3 h4) ?_
 have I1:Inv X pins σ H { s with heap:=s.heap.push { cls:=.type "range",data:=.fields #[.int lo t,.int hi u,.int 1 v] },toks:=tk }:=I.kept fun b o e=>AJ _ e
 refine⟨(s.heap.push { cls:=.type "range",data:=.fields #[.int lo t,.int hi u,.int 1 v] }).objs.size,[(s.heap.push { cls:=.type "range",data:=.fields #[.int lo t,.int hi u,.int 1 v] }).objs.size],_,_,H,rfl,
  I1.kept (t':=tk) fun b o e=>AJ _ e,aFC _ lo (hi - lo).toNat,?_,fun b hb=>?_,q⟩
 ·have e1:lo+((0:Nat):Int)*1=lo:=by simp
  have e2:(((hi - lo).toNat:Nat):Int) - ((0:Nat):Int)=Builtin.Range.rangeSize lo hi 1:=by rw[rangeSize_one];split <;> omega
  show IsRangeIter _ _ (lo+((0:Nat):Int)*1) ((((hi - lo).toNat:Nat):Int) - ((0:Nat):Int)) 1
  rw[e1,e2]
  exact Ah _ rfl
 ·have e:b=(s.heap.push { cls:=.type "range",data:=.fields #[.int lo t,.int hi u,.int 1 v] }).objs.size:=by simpa using hb
  subst e
  exact I1.fpOk (AS _) (I1.hok.fresh (AS _))
def aVD(ta:TA):TI:=fun σ H R=>ta σ H fun vs H1=>∃ j:Int,vs=[.int j]∧-(2 ^ 62)≤j∧j<2 ^ 62∧R (Itr 0 j.toNat) H1
theorem eQ{a:Expr}{ta:TA}{p pos:Pos}(hg:Gl X "range")(hm:X.mg "range"=none)(ha:PA X [a] ta)(hs:Al [a] X.env=[(false,eval a X.env)]:=by rfl):PI X tg (.Call (.Name "range" p) [a] [] pos) (aVD ta):=by
 intro pins s σ H R I h
 refine Call_ (pH I hg hm boot_range (CL (thn (ha pos pins s σ H _ I h) fun us s1 ⟨vs,H1,I1,r1,q1⟩=>?_) hs rfl))
 obtain⟨j,e,q1,q2,q⟩:=q1
 subst e
 cases r1 with
 | cons r rr =>
  cases rr
  obtain⟨t,rfl⟩:=r
  exact call_range_1 (aLO I1 (by omega) (by omega) q1 q2 (by simpa using q))
def aVV(wi:TI)(g:TG)(tb:TS):TS:=fun D σ H=>wi σ H fun J H1=>∃ W:Nat→Nat→St→Hp→Prop,(∃ m,W 0 m σ H1)∧∀ i m σ H,W i m σ H →
 (J.stop i H∧D.nx σ H)∨(J.go i H∧∃ N:St→Hp→Prop,(∀ σ' H',N σ' H'→∃ m',m'<m∧W (i+1) m' σ' H')∧∀ x H',J.yld i H x H'→g x σ H' fun σ2 H2=>tb { D with nx:=N,ct:=N,bk:=D.nx } σ2 H2)
noncomputable def mK(fp:List Addr)(h:Heap):List (Addr×Obj):=fp.filterMap fun b=>(h.get? b).map fun o=>(b,o)
theorem kZ{fp:List Addr}{h:Heap}{b:Addr}{o:Obj}(hb:b∈fp)(e:h.get? b=some o):(b,o)∈mK fp h:=ES.mpr ⟨b,hb,by rw[e];rfl⟩
theorem zB{fp:List Addr}{h:Heap}{p:Addr×Obj}(hp:p∈mK fp h):p.1∈fp∧h.get? p.1=some p.2:=by
 obtain⟨b,hb,e⟩:=ES.mp hp
 cases q:h.get? b with
 | none=>rw[q] at e;cases e
 | some o =>
  rw[q] at e
  have e':(b,o)=p:=BA e
  subst e'
  exact⟨hb,q⟩
theorem Inv.pinned{pins:List (Addr×Obj)}{σ:St}{H:Hp}{s:Shared}{fp:List Addr}(I:Inv X pins σ H s)(hf:∀ b∈fp,aCI X pins H b)(ho:∀ b∈fp,∃ o,s.heap.get? b=some o∧∀ v,o.data≠.cell v):Inv X (pins++mK fp s.heap) σ H s :=
 I.pins_of fun p hp=>(Ab.mp hp).elim (fun z=>I.pin p (Ag _ z)) fun z=>by
  obtain⟨hb,e⟩:=zB z
  obtain⟨f0,f1,f2,_⟩:=hf p.1 hb
  obtain⟨o,e',d⟩:=ho p.1 hb
  rw[e] at e';cases e'
  exact⟨e,f0,f1,f2,d⟩
theorem Inv.unpinned{pins pl:List (Addr×Obj)}{σ:St}{H:Hp}{s:Shared}(I:Inv X (pins++pl) σ H s):Inv X pins σ H s:=I.pins_of fun p hp=>I.pin p (Ag _ (BX _ hp))
theorem eS{iter:Expr}{body:List Stmt}{wi:TI}{g:TG}{tb:TS}{pos:Pos}(hp:Bh (model X.prog X.w) X.A X.env X.xe)(hc:X.calm=true)(hi:PI X tg iter wi)(hg:PG X tg g)(hb:PSs X body tb)
 (hs:∀ x,Et iter X.env x=pure x:=by intro _;rfl):PS X (.For tg iter body [] pos) (aVV wi g tb):=by
 intro pins s σ H D I h
 refine wpAny_For (thn (hi pins s σ H _ I h) fun v s1 h1=>thn h1 fun itv s2 h2=>?_) hs
 obtain⟨it,fp,tn,J,H2,e,I2,T,st2,f2,W,⟨m0,w0⟩,turn⟩:=h2
 subst e
 have stat:∀ {H':Hp},(∀ b∈fp,H' b=none)→∀ b∈fp,aCI X pins H' b:=fun hn b hb=>⟨hn b hb,(f2 b hb).2⟩
 refine codeAny_forLoop_any (fun n s'=>∃ i σ' H',Inv X pins σ' H' s'∧tn i s'.heap∧(∀ b∈fp,H' b=none)∧W i n σ' H') ?_ m0 ⟨0,σ,H2,I2,st2,fun b hb=>(f2 b hb).1,w0⟩
 rintro n s3 ⟨i,σ3,H3,I3,st3,fr3,w3⟩
 rcases turn i n σ3 H3 w3 with ⟨stop,qn⟩ | ⟨go,N,hN,step⟩
 ·refine CZ hp (thn (T.done X rfl rfl rfl hc i pins s3 σ3 H3 X.xe I3 (stat fr3) st3 stop) fun r s4 ⟨hr,I4⟩=>?_)
  subst hr
  exact Cn ⟨σ3,H3,I4,qn⟩
 ·refine CZ hp (thn (T.item X rfl rfl rfl hc i pins s3 σ3 H3 X.xe I3 (stat fr3) st3 go) fun r s4 ⟨u,hr,h4⟩=>?_)
  subst hr
  refine CZ hp (thn h4 fun _ s5 ⟨x,H5,I5,r5,y5,st5,fr5⟩=>?_)
  have I5':=I5.pinned (stat fr5) (T.obj _ _ st5)
  refine CZ hp (thn (hg _ s5 σ3 H5 x u _ I5' r5 (step x H5 y5)) fun _ s6 ⟨σ6,H6,I6,q6⟩=>?_)
  refine CZ hp (thn (hb _ s6 σ6 H6 _ I6 q6) fun f s7 q7=>?_)
  have again:∀ {σ7:St} {H7:Hp},Inv X (pins++mK fp s5.heap) σ7 H7 s7→N σ7 H7→∃ m,m<n∧∃ i σ' H',Inv X pins σ' H' s7∧tn i s7.heap∧(∀ b∈fp,H' b=none)∧W i m σ' H':=fun {σ7 H7} I7 n7=>by
   obtain⟨m',hm,w7⟩:=hN σ7 H7 n7
   refine⟨m',hm,i+1,σ7,H7,I7.unpinned,T.keep _ _ _ st5 fun b hb o e=>(I7.pin (b,o) (Ag _ (Ag _ (kZ hb e)))).1,fun b hb=>?_,w7⟩
   obtain⟨o,e,d⟩:=T.obj _ _ st5 b hb
   exact (I7.pin (b,o) (Ag _ (Ag _ (kZ hb e)))).2.1
  cases f with
  | next=>obtain⟨σ7,H7,I7,n7⟩:=q7;exact again I7 n7
  | cont=>obtain⟨σ7,H7,I7,n7⟩:=q7;exact again I7 n7
  | brk=>obtain⟨σ7,H7,I7,q7⟩:=q7;exact⟨σ7,H7,I7.unpinned,q7⟩
  | ret v=>obtain⟨x7,σ7,H7,I7,r7,q7⟩:=q7;exact⟨x7,σ7,H7,I7.unpinned,r7,q7⟩
end
theorem gH{K:AD}{a:Addr}{xs:List V}{g:TG}{tb:TS}{D:Ends}{σ:St}{H:Hp}(Pv:Nat→St→Hp→Prop)(h0:Pv 0 σ H)(hl:∀ i σ H,i≤xs.length→Pv i σ H→SqL K H a xs)
 (hs:∀ i x σ H,xs[i]?=some x→Pv i σ H→g x σ H fun σ2 H2=>tb { D with nx:=Pv (i+1),ct:=Pv (i+1),bk:=D.nx } σ2 H2)(hd:∀ σ H,Pv xs.length σ H→D.nx σ H) :
  ∃ W:Nat→Nat→St→Hp→Prop,(∃ m,W 0 m σ H)∧∀ i m σ H,W i m σ H →
   ((Itl K a).stop i H∧D.nx σ H)∨((Itl K a).go i H∧∃ N:St→Hp→Prop,(∀ σ' H',N σ' H'→∃ m',m'<m∧W (i+1) m' σ' H')∧∀ x H',(Itl K a).yld i H x H'→g x σ H' fun σ2 H2=>tb { D with nx:=N,ct:=N,bk:=D.nx } σ2 H2):=by
 refine⟨fun i m σ H=>m=xs.length - i∧i≤xs.length∧Pv i σ H,⟨xs.length,by simp,BK _,h0⟩,?_⟩
 rintro i m σ H ⟨rfl,hi,p⟩
 have q:=hl i σ H hi p
 by_cases hlt:i<xs.length
 ·refine .inr ⟨⟨xs,xs[i],q,by simp[hlt]⟩,Pv (i+1),fun σ' H' p'=>⟨xs.length - (i+1),by omega,rfl,hlt,p'⟩,fun x H' y=>?_⟩
  obtain⟨e,y⟩:=y
  subst e
  exact hs i x σ _ (y xs q) p
 ·have e:i=xs.length:=by omega
  subst e
  exact .inl ⟨⟨xs,q,AS _⟩,hd σ H p⟩
theorem fW{lo:Int}{n:Nat}{g:TG}{tb:TS}{D:Ends}{σ:St}{H:Hp}(Pv:Nat→St→Hp→Prop)(h0:Pv 0 σ H)
 (hs:∀ i σ H,i<n→Pv i σ H→g (.int (lo+i)) σ H fun σ2 H2=>tb { D with nx:=Pv (i+1),ct:=Pv (i+1),bk:=D.nx } σ2 H2)(hd:∀ σ H,Pv n σ H→D.nx σ H) :
  ∃ W:Nat→Nat→St→Hp→Prop,(∃ m,W 0 m σ H)∧∀ i m σ H,W i m σ H →
   ((Itr lo n).stop i H∧D.nx σ H)∨((Itr lo n).go i H∧∃ N:St→Hp→Prop,(∀ σ' H',N σ' H'→∃ m',m'<m∧W (i+1) m' σ' H')∧∀ x H',(Itr lo n).yld i H x H'→g x σ H' fun σ2 H2=>tb { D with nx:=N,ct:=N,bk:=D.nx } σ2 H2):=by
 refine⟨fun i m σ H=>m=n - i∧i≤n∧Pv i σ H,⟨n,by simp,BK _,h0⟩,?_⟩
 rintro i m σ H ⟨rfl,hi,p⟩
 by_cases hlt:i<n
 ·refine .inr ⟨hlt,Pv (i+1),fun σ' H' p'=>⟨n - (i+1),by omega,rfl,hlt,p'⟩,fun x H' y=>?_⟩
  obtain⟨e,y⟩:=y
  subst e y
  exact hs i σ _ hlt p
 ·have e:i=n:=by omega
  subst e
  exact .inl ⟨AS _,hd σ H p⟩
theorem uN{c:TT}{tb:TS}{D:Ends}{σ:St}{H:Hp}(Pv:St→Hp→Prop)(μ:St→Hp→Nat)(h0:Pv σ H)
 (hs:∀ σ H,Pv σ H→c σ H fun b H1=>if b=true then tb { D with nx:=fun σ' H'=>Pv σ' H'∧μ σ' H'<μ σ H,ct:=fun σ' H'=>Pv σ' H'∧μ σ' H'<μ σ H,bk:=D.nx } σ H1 else D.nx σ H1)
 (mono:∀ σ H Q Q',(∀ b H1,Q b H1→Q' b H1)→c σ H Q→c σ H Q'):aKM c tb D σ H:=by
 refine⟨fun m σ H=>m=μ σ H∧Pv σ H,⟨_,rfl,h0⟩,?_⟩
 rintro m σ H ⟨rfl,p⟩
 refine mono σ H _ _ (fun b H1 q=>?_) (hs σ H p)
 cases b with
 | true=>exact⟨_,fun σ' H' ⟨p',l⟩=>⟨_,l,rfl,p'⟩,q⟩
 | false=>exact q
end L2
namespace L2
open PySem PySem.Spec PyProof.Rows
abbrev R2:=V→V→Hp→VK→Prop
def OpR(X:Cx)(f:Value→Value→Sem Value)(r:R2):Prop :=
 ∀ (pins:List (Addr×Obj)) (s:Shared) (σ:St) (H:Hp) (x y:V) (v u:Value) (Q:VK),Inv X pins σ H s→bM x v→bM y u→r x y H Q →
  wpAny (model X.prog X.w) X.A (f v u) (EP X pins σ Q) X.xe s
def UnR(X:Cx)(f:Value→Sem Value)(r:V→Hp→VK→Prop):Prop :=
 ∀ (pins:List (Addr×Obj)) (s:Shared) (σ:St) (H:Hp) (x:V) (v:Value) (Q:VK),Inv X pins σ H s→bM x v→r x H Q →
  wpAny (model X.prog X.w) X.A (f v) (EP X pins σ Q) X.xe s
def gK(X:Cx)(f:Value)(r:List V→Hp→VK→Prop):Prop :=
 ∀ (pins:List (Addr×Obj)) (s:Shared) (σ:St) (H:Hp) (xs:List V) (us:List Value) (Q:VK),Inv X pins σ H s→bF xs us→r xs H Q →
  wpAny (model X.prog X.w) X.A (call f us) (EP X pins σ Q) X.xe s
def aWQ(X:Cx)(r:V→Hp→(Bool→Hp→Prop)→Prop):Prop :=
 ∀ (pins:List (Addr×Obj)) (s:Shared) (σ:St) (H:Hp) (x:V) (v:Value) (Q:Bool→Hp→Prop),Inv X pins σ H s→bM x v→r x H Q →
  wpAny (model X.prog X.w) X.A (truthy v) (TP X pins σ Q) X.xe s
def tOp(r:R2)(ta tb:TE):TE:=fun σ H Q=>ta σ H fun x H1=>tb σ H1 fun y H2=>r x y H2 Q
def tUn(r:V→Hp→VK→Prop)(ta:TE):TE:=fun σ H Q=>ta σ H fun x H1=>r x H1 Q
def rI(C:Int→Int→Prop)(g:Int→Int→V):R2:=fun x y H Q=>∃ i j,x=.int i∧y=.int j∧C i j∧Q (g i j) H
def rI0(g:Int→Int→V):R2:=fun x y H Q=>∃ i j,x=.int i∧y=.int j∧Q (g i j) H
def rU(g:Int→V):V→Hp→VK→Prop:=fun x H Q=>∃ i,x=.int i∧Q (g i) H
section
variable{X:Cx}{a b c:Expr}{ta tb tc:TE}{pos:Pos}
theorem aTM(ha:PE X a ta)(hb:PE X b tb){pins:List (Addr×Obj)}{s:Shared}{σ:St}{H:Hp}{R:V→V→Hp→Prop}(I:Inv X pins σ H s)
 (h:ta σ H fun x H1=>tb σ H1 fun y H2=>R x y H2){Q:Value→Shared→Prop}{f:Value→Value→Sem Value}
 (hf:∀ v u s2 x y H2,Inv X pins σ H2 s2→bM x v→bM y u→R x y H2→wpAny (model X.prog X.w) X.A (f v u) Q X.xe s2) :
  wpAny (model X.prog X.w) X.A (eval a X.env) (fun v s₁=>wpAny (model X.prog X.w) X.A (eval b X.env) (fun u s₂=>wpAny (model X.prog X.w) X.A (f v u) Q X.xe s₂) X.xe s₁) X.xe s:=by
 refine thn (ha pins s σ H _ I h) fun v s1 ⟨x,H1,I1,r1,q1⟩=>?_
 refine thn (hb pins s1 σ H1 _ I1 q1) fun u s2 ⟨y,H2,I2,r2,q2⟩=>?_
 exact hf v u s2 x y H2 I2 r1 r2 q2
theorem aK{op:Operator}{r:R2}(ho:OpR X (DW op) r)(ha:PE X a ta)(hb:PE X b tb):PE X (.BinOp a op b pos) (tOp r ta tb):=by
 intro pins s σ H Q I h
 exact wpAny_BinOp (aTM ha hb I h fun v u s2 x y H2 I2 rx ry q=>ho pins s2 σ H2 x y v u Q I2 rx ry q)
theorem aQU{op:UnaryOp}{r:V→Hp→VK→Prop}(ho:UnR X (unaryOp op) r)(ha:PE X a ta):PE X (.UnaryOp op a pos) (tUn r ta):=by
 intro pins s σ H Q I h
 exact UnaryOp_ (thn (ha pins s σ H _ I h) fun v s1 ⟨x,H1,I1,r1,q1⟩=>ho pins s1 σ H1 x v Q I1 r1 q1)
theorem opI{f:Value→Value→Sem Value}{C:Int→Int→Prop}{g:Int→Int→Int}
 (rule:∀ (i j:Int) (t u:Tok) (s:Shared) (Q:Value→Shared→Prop) (E:Value→Shared→Prop),C i j→Q (.int (g i j) s.toks) { s with toks:=s.toks+1 }→wpAny (model X.prog X.w) X.A (f (.int i t) (.int j u)) Q E s) :
  OpR X f (rI C fun i j=>.int (g i j)):=by
 intro pins s σ H x y v u Q I rx ry h
 obtain⟨i,j,rfl,rfl,hc,q⟩:=h
 obtain⟨t,rfl⟩:=rx
 obtain⟨t',rfl⟩:=ry
 exact rule i j t t' s _ _ hc ⟨.int (g i j),H,I.tok _,⟨_,rfl⟩,q⟩
theorem aUR{f:Value→Value→Sem Value}{g:Int→Int→Int}
 (rule:∀ (i j:Int) (t u:Tok) (s:Shared) (Q:Value→Shared→Prop) (E:Value→Shared→Prop),Q (.int (g i j) s.toks) { s with toks:=s.toks+1 }→wpAny (model X.prog X.w) X.A (f (.int i t) (.int j u)) Q E s) :
  OpR X f (rI0 fun i j=>.int (g i j)):=by
 intro pins s σ H x y v u Q I rx ry h
 obtain⟨i,j,rfl,rfl,q⟩:=h
 obtain⟨t,rfl⟩:=rx
 obtain⟨t',rfl⟩:=ry
 exact rule i j t t' s _ _ ⟨.int (g i j),H,I.tok _,⟨_,rfl⟩,q⟩
theorem aPG{f:Value→Value→Sem Value}{g:Int→Int→Bool}
 (rule:∀ (i j:Int) (t u:Tok) (s:Shared) (Q:Value→Shared→Prop) (E:Value→Shared→Prop),Q (.bool (g i j)) s→wpAny (model X.prog X.w) X.A (f (.int i t) (.int j u)) Q E s) :
  OpR X f (rI0 fun i j=>.bl (g i j)):=by
 intro pins s σ H x y v u Q I rx ry h
 obtain⟨i,j,rfl,rfl,q⟩:=h
 obtain⟨t,rfl⟩:=rx
 obtain⟨t',rfl⟩:=ry
 exact rule i j t t' s _ _ ⟨.bl (g i j),H,I,rfl,q⟩
def aWT(i j:Int):Prop:=0≤j∧j≤1000000∧i.natAbs<2 ^ 64
def aTU(i j:Int):Prop:=(-(2 ^ 64)<i∧i<2 ^ 64)∨(-(2 ^ 64)<j∧j<2 ^ 64)
theorem aTU.ok{i j:Int}(h:aTU i j):IntMulOk i j:=by
 rcases h with ⟨h1,h2⟩ | ⟨h1,h2⟩
 ·exact .of_left (intBits_le_64 h1 h2)
 ·exact .of_right (intBits_le_64 h1 h2)
theorem cY:OpR X (DW .Add) (rI0 fun i j=>.int (i+j)):=aUR fun _ _ _ _ _ _ _ q=>add_int q
theorem jM:OpR X (DW .Sub) (rI0 fun i j=>.int (i - j)):=aUR fun _ _ _ _ _ _ _ q=>sub_int q
theorem gC:OpR X (DW .Mult) (rI aTU fun i j=>.int (i*j)):=opI fun _ _ _ _ _ _ _ hc q=>mul_int q hc.ok
theorem cB:OpR X (DW .Mod) (rI (fun _ j=>0<j) fun i j=>.int (i % j)):=opI fun i j _ _ _ _ _ hc q=>by
 have h1:(0:Int)<j:=hc
 exact mod_int' (by omega) (by rw[Int.fmod_eq_emod_of_nonneg i (by omega)];exact q)
theorem kW:OpR X (DW .Pow) (rI aWT fun i j=>.int (i ^ j.toNat)):=opI fun _ _ _ _ _ _ _ hc q=>pow_int_small hc.1 hc.2.1 hc.2.2 q
theorem unI{f:Value→Sem Value}{g:Int→Int}
 (rule:∀ (i:Int) (t:Tok) (s:Shared) (Q:Value→Shared→Prop) (E:Value→Shared→Prop),Q (.int (g i) s.toks) { s with toks:=s.toks+1 }→wpAny (model X.prog X.w) X.A (f (.int i t)) Q E s) :
  UnR X f (rU fun i=>.int (g i)):=by
 intro pins s σ H x v Q I rx h
 obtain⟨i,rfl,q⟩:=h
 obtain⟨t,rfl⟩:=rx
 exact rule i t s _ _ ⟨.int (g i),H,I.tok _,⟨_,rfl⟩,q⟩
theorem aKK:UnR X (unaryOp .USub) (rU fun i=>.int (-i)):=unI fun _ _ _ _ _ q=>neg_int q
end
noncomputable def aUG:V→V→Bool
 | .non,.non=>true | .non,.int _=>true | .int _,.non=>true | .non,.bl _=>true | .bl _,.non=>true | .non,.str _=>true | .str _,.non=>true
 | .int _,.int _=>true | .bl _,.bl _=>true | .str _,.str _=>true | .byt _,.byt _=>true
 | .int _,.str _=>true | .str _,.int _=>true | .bl _,.str _=>true | .str _,.bl _=>true
 | _,_=>false
def rEq:R2:=fun x y H Q=>aUG x y=true∧Q (.bl (decide (x=y))) H
def rNe:R2:=fun x y H Q=>aUG x y=true∧Q (.bl (!decide (x=y))) H
theorem jJ{i j:Int}:decide (V.int i=V.int j)=(i == j):=by
 rw[Bc]
 simp
theorem aNK{i j:Bool}:decide (V.bl i=V.bl j)=(i == j):=by
 rw[Bc]
 simp
theorem qS{i j:Str}:decide (V.str i=V.str j)=(i == j):=by
 rw[Bc]
 simp
theorem aIM{i j:Array UInt8}:decide (V.byt i=V.byt j)=(i.toList == j.toList):=by
 rw[Bc]
 cases i
 cases j
 simp
section
variable{X:Cx}{a b c:Expr}{ta tb tc:TE}{pos:Pos}
theorem bX{pins:List (Addr×Obj)}{σ:St}{H:Hp}{s:Shared}{Q:VK}{k k':Bool}(I:Inv X pins σ H s)(q:Q (.bl k) H)(e:k=k'):EP X pins σ Q (.bool k') s:=by
 subst e
 exact⟨.bl k,H,I,rfl,q⟩
theorem iX:OpR X (BV .Eq) rEq:=by
 intro pins s σ H x y v u Q I rx ry h
 obtain⟨hs,q⟩:=h
 cases x with
 | non =>
  cases rx
  cases y with
  | non=>cases ry;exact PySem.EqNone.eq_none_none (bX I q (by simp))
  | bl j=>cases ry;exact PySem.EqNone.eq_none_bool (bX I q (by simp))
  | int j=>obtain⟨t',rfl⟩:=ry;exact PySem.EqNone.eq_none_int (bX I q (by simp))
  | str j=>obtain⟨t',rfl⟩:=ry;exact PySem.EqNone.eq_none_str (bX I q (by simp))
  | _=>exact absurd (show false=true from hs) AR
 | bl i =>
  cases rx
  cases y with
  | non=>cases ry;exact PySem.EqNone.eq_bool_none (bX I q (by simp))
  | bl j=>cases ry;exact eq_bool (bX I q aNK)
  | str j=>obtain⟨t',rfl⟩:=ry;exact PySem.EqMixed.eq_bool_str (bX I q (by simp))
  | _=>exact absurd (show false=true from hs) AR
 | int i =>
  obtain⟨t,rfl⟩:=rx
  cases y with
  | non=>cases ry;exact PySem.EqNone.eq_int_none (bX I q (by simp))
  | int j=>obtain⟨t',rfl⟩:=ry;exact eq_int (bX I q jJ)
  | str j=>obtain⟨t',rfl⟩:=ry;exact PySem.EqMixed.eq_int_str (bX I q (by simp))
  | _=>exact absurd (show false=true from hs) AR
 | str i =>
  obtain⟨t,rfl⟩:=rx
  cases y with
  | non=>cases ry;exact PySem.EqNone.eq_str_none (bX I q (by simp))
  | bl j=>cases ry;exact PySem.EqMixed.eq_str_bool (bX I q (by simp))
  | int j=>obtain⟨t',rfl⟩:=ry;exact PySem.EqMixed.eq_str_int (bX I q (by simp))
  | str j=>obtain⟨t',rfl⟩:=ry;exact eq_str (bX I q qS)
  | _=>exact absurd (show false=true from hs) AR
 | byt i =>
  obtain⟨t,rfl⟩:=rx
  cases y with
  | byt j=>obtain⟨t',rfl⟩:=ry;exact PySem.W.eq_bytes (bX I q aIM)
  | _=>exact absurd (show false=true from hs) AR
 | _=>cases y <;> exact absurd (show false=true from hs) AR
theorem yX:OpR X (BV .NotEq) rNe:=by
 intro pins s σ H x y v u Q I rx ry h
 obtain⟨hs,q⟩:=h
 cases x with
 | non =>
  cases rx
  cases y with
  | non=>cases ry;exact PySem.EqNone.ne_none_none (bX I q (by simp))
  | bl j=>cases ry;exact PySem.EqNone.ne_none_bool (bX I q (by simp))
  | int j=>obtain⟨t',rfl⟩:=ry;exact PySem.EqNone.ne_none_int (bX I q (by simp))
  | str j=>obtain⟨t',rfl⟩:=ry;exact PySem.EqNone.ne_none_str (bX I q (by simp))
  | _=>exact absurd (show false=true from hs) AR
 | bl i =>
  cases rx
  cases y with
  | non=>cases ry;exact PySem.EqNone.ne_bool_none (bX I q (by simp))
  | bl j=>cases ry;exact ne_bool (bX I q (congrArg not aNK))
  | str j=>obtain⟨t',rfl⟩:=ry;exact PySem.EqMixed.ne_bool_str (bX I q (by simp))
  | _=>exact absurd (show false=true from hs) AR
 | int i =>
  obtain⟨t,rfl⟩:=rx
  cases y with
  | non=>cases ry;exact PySem.EqNone.ne_int_none (bX I q (by simp))
  | int j=>obtain⟨t',rfl⟩:=ry;exact ne_int (bX I q (congrArg not jJ))
  | str j=>obtain⟨t',rfl⟩:=ry;exact PySem.EqMixed.ne_int_str (bX I q (by simp))
  | _=>exact absurd (show false=true from hs) AR
 | str i =>
  obtain⟨t,rfl⟩:=rx
  cases y with
  | non=>cases ry;exact PySem.EqNone.ne_str_none (bX I q (by simp))
  | bl j=>cases ry;exact PySem.EqMixed.ne_str_bool (bX I q (by simp))
  | int j=>obtain⟨t',rfl⟩:=ry;exact PySem.EqMixed.ne_str_int (bX I q (by simp))
  | str j=>obtain⟨t',rfl⟩:=ry;exact ne_str (bX I q (congrArg not qS))
  | _=>exact absurd (show false=true from hs) AR
 | byt i =>
  obtain⟨t,rfl⟩:=rx
  cases y with
  | byt j=>obtain⟨t',rfl⟩:=ry;exact PySem.W.ne_bytes (bX I q (congrArg not aIM))
  | _=>exact absurd (show false=true from hs) AR
 | _=>cases y <;> exact absurd (show false=true from hs) AR
theorem tE:OpR X (BV .Lt) (rI0 fun i j=>.bl (decide (i<j))):=aPG fun _ _ _ _ _ _ _ q=>lt_int q
theorem tF:OpR X (BV .LtE) (rI0 fun i j=>.bl (decide (i≤j))):=aPG fun _ _ _ _ _ _ _ q=>le_int q
theorem aDR:OpR X (BV .Gt) (rI0 fun i j=>.bl (decide (j<i))):=aPG fun _ _ _ _ _ _ _ q=>gt_int q
theorem aUQ:OpR X (BV .GtE) (rI0 fun i j=>.bl (decide (j≤i))):=aPG fun _ _ _ _ _ _ _ q=>ge_int q
theorem aJL:OpR X (BV .In) (fun x y H Q=>∃ i j,x=.str i∧y=.str j∧Q (.bl (!(Builtin.Str.occurrences j i 0 j.length 1).isEmpty)) H):=by
 intro pins s σ H x y v u Q I rx ry h
 obtain⟨i,j,rfl,rfl,q⟩:=h
 obtain⟨t,rfl⟩:=rx
 obtain⟨t',rfl⟩:=ry
 exact in_str (bX I q rfl)
theorem aSI:OpR X (BV .Is) (fun x y H Q=>y=.non∧Q (.bl (decide (x=.non))) H):=by
 intro pins s σ H x y v u Q I rx ry h
 obtain⟨rfl,q⟩:=h
 cases ry
 refine is_none_gen (bX I q ?_)
 cases x <;> first
  | (cases rx;rfl)
  | (obtain⟨t,rfl⟩:=rx;rfl)
theorem aPF:OpR X (BV .IsNot) (fun x y H Q=>y=.non∧Q (.bl (!decide (x=.non))) H):=by
 intro pins s σ H x y v u Q I rx ry h
 obtain⟨rfl,q⟩:=h
 cases ry
 refine isnot_none_gen (bX I q ?_)
 cases x <;> first
  | (cases rx;rfl)
  | (obtain⟨t,rfl⟩:=rx;rfl)
theorem bI(b:Expr){op:CmpOp}(h:op≠.In:=by decide)(h2:op≠.NotIn:=by decide):Dk op b=false:=by
 have e1:(op == CmpOp.In)=false:=by cases op <;> first | rfl | exact absurd rfl h
 have e2:(op == CmpOp.NotIn)=false:=by cases op <;> first | rfl | exact absurd rfl h2
 cases b <;> simp[Dk,e1,e2]
theorem dC{op:CmpOp}{r:R2}(ho:OpR X (BV op) r)(ha:PE X a ta)(hb:PE X b tb)(hm:Dk op b=false):PE X (.Compare a [op] [b] pos) (tOp r ta tb):=by
 intro pins s σ H Q I h
 exact wpAny_Compare1 (aTM ha hb I h fun v u s2 x y H2 I2 rx ry q=>ho pins s2 σ H2 x y v u Q I2 rx ry q) hm
def aGX(t:TE):TT:=fun σ H Q=>t σ H fun x H'=>∃ k,x=.bl k∧Q k H'
theorem bK{op:CmpOp}{r:R2}(ho:OpR X (BV op) r)(ha:PE X a ta)(hb:PE X b tb)(hm:Dk op b=false):PT X (.Compare a [op] [b] pos) (aGX (tOp r ta tb)):=by
 intro pins s σ H Q I h
 refine wpAny_isTrue_Compare1 (thn (ha pins s σ H _ I h) fun v s1 ⟨x,H1,I1,r1,q1⟩=>thn (hb pins s1 σ H1 _ I1 q1) fun u s2 ⟨y,H2,I2,r2,q2⟩ =>
  thn (ho pins s2 σ H2 x y v u _ I2 r1 r2 q2) fun c s3 ⟨z,H3,I3,r3,k,e,q3⟩=>?_) hm
 subst e
 cases r3
 exact Bj ⟨H3,I3,q3⟩
def aKO(r r':R2)(ta tb tc:TE):TE:=fun σ H Q=>ta σ H fun x H1=>tb σ H1 fun y H2=>r x y H2 fun z H3=>∃ k,z=.bl k ∧
 (if k=true then tc σ H3 fun w' H4=>r' y w' H4 Q else Q (.bl false) H3)
theorem vU{op op':CmpOp}{r r':R2}(ho:OpR X (BV op) r)(ho':OpR X (BV op') r')(ha:PE X a ta)(hb:PE X b tb)(hc:PE X c tc)
 (hm:lastMarks [op,op'] [b,c]=false:=by with_unfolding_all rfl):PE X (.Compare a [op,op'] [b,c] pos) (aKO r r' ta tb tc):=by
 intro pins s σ H Q I h
 refine Compare_chain (thn (ha pins s σ H _ I h) fun v s1 ⟨x,H1,I1,r1,q1⟩=>chain_link (thn (hb pins s1 σ H1 _ I1 q1) fun u s2 ⟨y,H2,I2,r2,q2⟩ =>
  thn (ho pins s2 σ H2 x y v u _ I2 r1 r2 q2) fun d s3 ⟨z,H3,I3,r3,k,e,q3⟩=>?_)) hm
 subst e
 cases r3
 refine Bj ?_
 cases k with
 | false=>exact ite_ff ⟨.bl false,H3,I3,rfl,q3⟩
 | true=>exact ite_tt (chain_last (thn (hc pins s3 σ H3 _ I3 q3) fun w' s4 ⟨z',H4,I4,r4,q4⟩=>ho' pins s4 σ H4 y z' u w' Q I4 r2 r4 q4))
theorem aLQ{op op':CmpOp}{r r':R2}(ho:OpR X (BV op) r)(ho':OpR X (BV op') r')(ha:PE X a ta)(hb:PE X b tb)(hc:PE X c tc)
 (hm:lastMarks [op,op'] [b,c]=false:=by with_unfolding_all rfl):PT X (.Compare a [op,op'] [b,c] pos) (aGX (aKO r r' ta tb tc)):=by
 intro pins s σ H Q I h
 refine isTrue_chain (thn (ha pins s σ H _ I h) fun v s1 ⟨x,H1,I1,r1,q1⟩=>test_link (thn (hb pins s1 σ H1 _ I1 q1) fun u s2 ⟨y,H2,I2,r2,q2⟩ =>
  thn (ho pins s2 σ H2 x y v u _ I2 r1 r2 q2) fun d s3 ⟨z,H3,I3,r3,k,e,q3⟩=>?_)) hm
 subst e
 cases r3
 refine Bj ?_
 cases k with
 | false =>
  obtain⟨k',e',q'⟩:=q3
  cases e'
  exact ite_ff ⟨H3,I3,q'⟩
 | true =>
  refine ite_tt (test_last (thn (hc pins s3 σ H3 _ I3 q3) fun w' s4 ⟨z',H4,I4,r4,q4⟩=>thn (ho' pins s4 σ H4 y z' u w' _ I4 r2 r4 q4) fun d' s5 ⟨z2,H5,I5,r5,k2,e2,q5⟩=>?_))
  subst e2
  cases r5
  exact Bj ⟨H5,I5,q5⟩
def aVM(K:AD)(x:V)(H:Hp)(k:Bool):Prop :=
 match x with
 | .non=>k=false
 | .bl b=>k=b
 | .int i=>k=(i != 0)
 | .str y=>y.length≤Ak∧k=((y.length:Int) != 0)
 | .byt y=>y.size≤Ak∧k=((y.size:Int) != 0)
 | .ref p=>(∃ xs,SqL K H p xs∧k=!xs.isEmpty)∨(∃ xs,SqT K H p xs∧k=!xs.isEmpty)∨∃ kvs,H p=some (.dK kvs)∧k=!kvs.isEmpty
 | _=>False
theorem aGC{κ:Type}{kvs:List (κ×V)}{vs:List (κ×Value)}(r:KV kvs vs):(!vs.isEmpty)=!kvs.isEmpty:=by
 cases r <;> rfl
theorem wM{xs:List V}{its:List Value}(r:bF xs its):(!its.toArray.isEmpty)=!xs.isEmpty:=by
 cases r <;> simp
theorem rR:(Ak:Nat)<2 ^ 63:=by rw[CD];decide
theorem aRC:aWQ X (fun x H Q=>∃ k,aVM X.K x H k∧Q k H):=by
 intro pins s σ H x v Q I rx h
 obtain⟨k,e,q⟩:=h
 have hl:=rR
 have hs:Ak=16777216:=CD
 cases x with
 | non =>
  cases rx
  have e':k=false:=e
  subst e'
  exact truthy_none ⟨H,I,q⟩
 | bl b =>
  cases rx
  have e':k=b:=e
  subst e'
  exact Bj ⟨H,I,q⟩
 | int i =>
  obtain⟨t,rfl⟩:=rx
  have e':k=(i != 0):=e
  subst e'
  exact PySem.P.truthy_int ⟨H,I,q⟩
 | str y =>
  obtain⟨t,rfl⟩:=rx
  obtain⟨hy,e'⟩:y.length≤Ak∧k=((y.length:Int) != 0):=e
  subst e'
  exact PySem.P.truthy_str (by omega) ⟨H,I.tok _,q⟩
 | byt y =>
  obtain⟨t,rfl⟩:=rx
  obtain⟨hy,e'⟩:y.size≤Ak∧k=((y.size:Int) != 0):=e
  subst e'
  exact PySem.W.truthy_bytes (by omega) ⟨H,I.tok _,q⟩
 | ref p =>
  cases rx
  have e':(∃ xs,SqL X.K H p xs∧k=!xs.isEmpty)∨(∃ xs,SqT X.K H p xs∧k=!xs.isEmpty)∨∃ kvs,H p=some (.dK kvs)∧k=!kvs.isEmpty:=e
  rcases e' with ⟨xs,hx,e'⟩ | ⟨xs,hx,e'⟩ | ⟨kvs,hx,e'⟩
  ·subst e'
   obtain⟨its,r,pl,hz⟩:=I.list hx
   have hlen:=r.length
   exact wpAny_truthy_list pl.isList (by simp only[AM];omega) ⟨H,I.tok _,by rw[wM r];exact q⟩
  ·subst e'
   obtain⟨its,r,pl,hz⟩:=I.tuple hx
   have hlen:=r.length
   exact truthy_tuple pl (by simp only[AM];omega) ⟨H,I.tok _,by rw[wM r];exact q⟩
  ·subst e'
   obtain⟨hz,hS,vs,r,m⟩:kvs.length≤Ak∧(p == Cs)=false∧∃ vs,KV kvs vs∧s.heap.DictOf (aX X.prog X.w) p vs:=I.hok p _ hx
   have hlen:kvs.length=vs.length:=DO r
   exact wpAny_truthy_dict hS m (by omega) ⟨H,I.tok _,by rw[aGC r];exact q⟩
 | _=>exact (show False from e).elim
theorem pA:OpR X (DW .Add) (fun x y H Q=>∃ i j,x=.str i∧y=.str j∧i.length+j.length≤Ak∧Q (.str (i++j)) H):=by
 intro pins s σ H x y v u Q I rx ry h
 obtain⟨i,j,rfl,rfl,hz,q⟩:=h
 obtain⟨t,rfl⟩:=rx
 obtain⟨t',rfl⟩:=ry
 exact add_str (fun t' tk=>⟨.str (i++j),H,I.tok _,⟨_,rfl⟩,q⟩) hz
theorem aKI{x:V}{us:List Value}(r:bF [x] us):∃ u,us=[u]∧bM x u:=by
 cases r with
 | cons r1 r2=>cases r2;exact⟨_,rfl,r1⟩
theorem aTV{x y:V}{us:List Value}(r:bF [x,y] us):∃ u w',us=[u,w']∧bM x u∧bM y w':=by
 cases r with
 | cons r1 r2 =>
  cases r2 with
  | cons r3 r4=>cases r4;exact⟨_,_,rfl,r1,r3⟩
theorem aKB(hc:X.calm=true):gK X (.builtin "max") (fun xs H Q=>∃ i j,xs=[.int i,.int j]∧Q (.int (if j>i then j else i)) H):=by
 intro pins s σ H xs us Q I r h
 obtain⟨i,j,rfl,q⟩:=h
 obtain⟨u,w',rfl,⟨t,rfl⟩,⟨t',rfl⟩⟩:=aTV r
 refine max_two_ints (I.ok.hd hc) fun h' tk k=>⟨_,H,I.kept k,?_,q⟩
 by_cases hj:j>i
 ·rw[if_pos hj,if_pos hj];exact⟨_,rfl⟩
 ·rw[if_neg hj,if_neg hj];exact⟨_,rfl⟩
end
end L2
namespace L2
open PySem PySem.Spec PyProof.Rows
structure ObjM (h:Heap) (x dx C:Addr) (mA:Str→Option Value):Prop where
 obj:h.get? x=some (CF C dx)
 ns:h.Ns1 dx mA
 ne:dx≠x
theorem aJP{h:Heap}{dx:Addr}{mA:Str→Option Value}(n:h.Ns1 dx mA):∃ od,h.get? dx=some od∧∀ name,Dl name od=some (mA name):=by
 obtain⟨o,es,ep,ho,hd,hk,_,hm⟩:=n
 refine⟨o,ho,fun name=>?_⟩
 have e:=hm name
 unfold nsFind findBy at e
 rw[← Array.find?_toList] at e
 unfold Dl
 rw[hd]
 dsimp only
 split
 ·rename_i y q
  rw[q] at e
  exact congrArg some e
 ·rename_i q
  rw[q] at e
  have a:es.toList.any (·.refKey)=false:=by
   rw[List.any_eq_false]
   intro y hy
   obtain⟨z,t,hkey⟩:=hk y (Array.mem_toList_iff.mp hy)
   simp[DictEntry.refKey,hkey]
  have a':¬ es.toList.any (·.refKey)=true:=by rw[a];exact AR
  rw[if_neg a']
  exact congrArg some e
theorem ObjM.look{h:Heap}{x dx C:Addr}{mA:Str→Option Value}(I:ObjM h x dx C mA):∃ od,PySem.W.InstAt h x (CF C dx) C (some od)∧∀ name,Dl name od=some (mA name) :=
 let ⟨od,ho,hl⟩:=aJP I.ns
 ⟨od,⟨I.obj,rfl,rfl,ho⟩,hl⟩
section
variable{prog:Program}{w:World}{A:Around}{E:Value→Shared→Prop}{s:Shared}{K:AD}{x dx C f:Addr}{mA:Str→Option Value}{name:Str}{v:Value}
theorem aPT{expr:Bool}{Q:Value→Shared→Prop}(X:K.In s.heap)(I:ObjM s.heap x dx C mA)(hg:Ct K C name=true)(hh:EO K C=true)
 (ha:BR K (.ref C) name=some none)(hv:mA name=some v)(hv':PySem.W.handedIn v=true)(h:Q v { s with toks:=s.toks+1 }) :
  wpAny (model prog w) A (getAttr (.ref x) name expr) Q E s:=by
 obtain⟨od,J,hl⟩:=I.look
 exact PySem.W.get_value X J (Du hg).1 (PySem.W.findObj_own hh ha rfl (by rw[hl,hv])) hv' h
theorem aMV{pl:Sem Bool}{Q:Value×List Value→Shared→Prop}(X:K.In s.heap)(I:ObjM s.heap x dx C mA)(hg:Ct K C name=true)
 (hf:BR K (.ref C) name=some (some (.ref f)))(ht:DY K (.ref f)=true)(hv:mA name=none)(h:Q (.ref f,[.ref x]) s) :
  wpAny (model prog w) A (EY (.ref x) name pl) Q E s:=by
 obtain⟨od,J,hl⟩:=I.look
 exact PySem.W.method_fn X J (Du hg).1 (Du hg).2 hf (beq_iff_eq.mp ht) (by show (Dl name od).map (·.isSome)=some false;rw[hl,hv];rfl) h
theorem aOL{ns:List Str}{Q:Unit→Shared→Prop}(X:K.In s.heap)(I:ObjM s.heap x dx C mA)
 (hs:BR K (.ref C) "__setattr__"=some (some (.builtin "object.__setattr__")))(hp:PySem.W.plainOver K C=true)(ht:Ef K C name=some none)(hh:EO K C=true)
 (hw:EW mA ns)(hsz:ns.length≤Ak)
 (h:∀ h',ObjM h' x dx C (fun y=>if y=name then some v else mA y)→Ed dx s.heap h'→Q () { s with heap:=h',toks:=s.toks+2 }) :
  wpAny (model prog w) A (setAttr (.ref x) name v) Q E s:=by
 obtain⟨od,J,hl⟩:=I.look
 refine PySem.W.set_plain X J hs (PySem.W.osa_open (s:={ s with toks:=s.toks+1 }) (r:=none) X J hp ht fun b=>?_)
 obtain⟨cd,hc,hd'⟩:=PySem.W.any_some hh
 have hx:s.heap.get? x=some ⟨.ref C,some dx,.plain,#[]⟩:=I.obj
 refine AK (Aa (AK (AK (wpAny_loadPart hx (AK (Cw.here (s:={ s with toks:=s.toks+1 }) (PySem.W.looks_clsIn X hc) ?_))))))
 rw[hd']
 refine Aa (a:=some dx) (AK (Aa (AK ?_)))
 refine wpAny_nsSet1 (s:={ s with toks:=s.toks+1 }) I.ns fun h' hn2 hs2=>?_
 obtain⟨oD,esD,epD,hoD,hdD,hcD⟩:=hn2.count (EW.cons name v hw)
 refine AK (wpAny_lookBehind hoD (by rw[hdD];exact pastItsLine_dict (Az hcD (by rw[Af];omega))) ?_)
 exact Aa (h _ ⟨(hs2.2 _ (Ne.symm I.ne)).trans I.obj,hn2,I.ne⟩ hs2)
theorem aMH{R:Result→Shared→Prop}{vs:List Value}{kw:List (Str×Value)}(X:K.In s.heap)(hm:Eg K C=true)
 (hi:BR K (.ref C) "__init__"=some (some (.ref f)))(hf:PySem.W.typeIn K (.ref f)=some (.type "function"))
 (h:codeAny (model prog w) (A.under (.builtin "type.__call__" ⟨.ref C :: vs,kw⟩)) (.call (.ref f) ⟨.ref (s.heap.objs.size+1) :: vs,kw⟩) (PySem.W.InitBack (s.heap.objs.size+1) R)
   { s with heap:=(s.heap.push Bn).push (CF C s.heap.objs.size) }) :
  codeAny (model prog w) A (.call (.ref C) ⟨vs,kw⟩) R s:=by
 obtain⟨hh,g,d,t,os⟩:=s
 exact PySem.W.make_core (PySem.W.makes_of X hm) (PySem.W.looks_findIn X hi) (fun self=>PySem.W.bind_fn X self hf) (.inl rfl) h
end
noncomputable def iN(f:Str)(v:V):List (Str×V)→List (Str×V)
 | []=>[(f,v)]
 | (g,x) :: r=>if g=f then (g,v) :: r else (g,x) :: iN f v r
theorem fD(f g:Str)(v:V):∀ fs:List (Str×V),(iN f v fs).lookup g=if g=f then some v else fs.lookup g
 | []=>by
  show Bx g [(f,v)]=_
  by_cases h:g=f
  ·have hb:(g == f)=true:=beq_iff_eq.mpr h
   simp only[Bx,hb,if_pos h]
  ·have hb:(g == f)=false:=beq_eq_false_iff_ne.mpr h
   simp only[Bx,hb,if_neg h]
 | (k,x) :: r=>by
  have ih:=fD f g v r
  rw[show iN f v ((k,x) :: r)=(if k=f then (k,v) :: r else (k,x) :: iN f v r) from rfl]
  by_cases hk:k=f
  ·rw[if_pos hk]
   by_cases h:g=k
   ·have hb:(g == k)=true:=beq_iff_eq.mpr h
    simp only[Bx,hb,if_pos (h.trans hk)]
   ·have hb:(g == k)=false:=beq_eq_false_iff_ne.mpr h
    simp only[Bx,hb,if_neg (fun e:g=f=>h (e.trans hk.symm))]
  ·rw[if_neg hk]
   by_cases h:g=k
   ·have hb:(g == k)=true:=beq_iff_eq.mpr h
    simp only[Bx,hb,if_neg (fun e:g=f=>hk (h.symm.trans e))]
   ·have hb:(g == k)=false:=beq_eq_false_iff_ne.mpr h
    simp only[Bx,hb]
    exact ih
theorem rV(f:Str)(v:V):∀ fs:List (Str×V),f∈(iN f v fs).map (·.1)∧∀ g,g∈fs.map (·.1)→g∈(iN f v fs).map (·.1)
 | []=>⟨by simp[iN],fun g h=>by simp at h⟩
 | (k,x) :: r=>by
  obtain⟨i1,i2⟩:=rV f v r
  rw[show iN f v ((k,x) :: r)=(if k=f then (k,v) :: r else (k,x) :: iN f v r) from rfl]
  by_cases hk:k=f
  ·rw[if_pos hk]
   subst hk
   exact⟨by simp,fun g h=>by simpa using h⟩
  ·rw[if_neg hk]
   refine⟨?_,fun g h=>?_⟩
   ·rw[AX]
    exact AO _ i1
   ·rw[AX] at h ⊢
    rcases AZ.mp h with e | e
    ·exact AZ.mpr (.inl e)
    ·exact AO _ (i2 g e)
theorem tJ(f:Str)(v:V):∀ fs:List (Str×V),(iN f v fs).length≤fs.length+1
 | []=>by simp[iN]
 | (k,x) :: r=>by
  have ih:=tJ f v r
  rw[show iN f v ((k,x) :: r)=(if k=f then (k,v) :: r else (k,x) :: iN f v r) from rfl]
  by_cases hk:k=f
  ·rw[if_pos hk,Af,Af];omega
  ·rw[if_neg hk,Af,Af];omega
theorem oF.some_of{v:V}{o:Option Value}(r:oF (some v) o):∃ u,o=some u∧bM v u:=by
 cases o with
 | none=>exact (show False from r).elim
 | some u=>exact⟨u,rfl,r⟩
theorem oF.none_of{o:Option Value}(r:oF none o):o=none:=by
 cases o with
 | none=>rfl
 | some u=>exact (show False from r).elim
theorem aJU{v:V}{u:Value}(r:bM v u):PySem.W.handedIn u=true:=by
 cases v with
 | non=>cases (show u=CA from r);rfl
 | bl b=>cases (show u=EL b from r);rfl
 | int i=>obtain⟨t,e⟩:=(show ∃ t,u=DX i t from r);cases e;rfl
 | str x=>obtain⟨t,e⟩:=(show ∃ t,u=Value.str x t from r);cases e;rfl
 | byt b=>obtain⟨t,e⟩:=(show ∃ t,u=Value.bytes b t from r);cases e;rfl
 | flt b=>obtain⟨t,e⟩:=(show ∃ t,u=Value.float b t from r);cases e;rfl
 | ref a=>cases (show u=Ao a from r);rfl
 | ty n=>cases (show u=CM n from r);rfl
section
variable{P:Program}{w:World}{H H':Hp}{h h':Heap}{a C dx:Addr}{fs fs':List (Str×V)}
theorem uM(hok:HOk P w H h)(e:H a=some (.ins C dx fs)):∃ mA,ObjM h a dx C mA∧(∀ f,oF (fs.lookup f) (mA f))∧EW mA (fs.map (·.1))∧fs.length≤1000∧H dx=some (.own a):=by
 obtain⟨d,z,ne,ob,mA,n,r,q⟩:=(show cE P w H h a (.ins C dx fs) from hok a _ e)
 exact⟨mA,⟨ob,n,ne⟩,r,q,z,d⟩
end
structure Cls (K:AD) (C:Addr):Prop where
 pg:Ct K C Str.empty=true
 hd:EO K C=true
 po:PySem.W.plainOver K C=true
 sa:BR K (.ref C) "__setattr__"=some (some (.builtin "object.__setattr__"))
theorem Cls.get{K:AD}{C:Addr}(c:Cls K C)(f:Str):Ct K C f=true:=c.pg
def nL(K:AD)(C:Addr)(f:Str):Prop:=BR K (.ref C) f=some none
theorem nL.taker{K:AD}{C:Addr}{f:Str}(n:nL K C f):Ef K C f=some none:=by
 unfold Ef
 rw[show BR K (.ref C) f=some none from n]
 rfl
structure Con (K:AD) (C:Addr) (f:Str) (v:V) (u:Value):Prop where
 at_:BR K (.ref C) f=some (some u)
 rel:bM v u
 get:EM K u "__get__"=some none
 cp:PySem.W.copiedNames.contains f=false
structure Meth (K:AD) (C:Addr) (m:Str) (f:Addr):Prop where
 at_:BR K (.ref C) m=some (some (.ref f))
 fn:DY K (.ref f)=true
 kp:Bm K (.ref f)=true
section
variable{X:Cx}{pins:List (Addr×Obj)}{σ:St}{H:Hp}{s:Shared}{a C dx:Addr}{fs:List (Str×V)}{f:Str}{v:V}{A:Around}{E:Value→Shared→Prop}
theorem aGF{b:Bool}{Q:Value→Shared→Prop}(I:Inv X pins σ H s)(e:H a=some (.ins C dx fs))(c:Cls X.K C)(n:nL X.K C f)(l:fs.lookup f=some v)
 (h:∀ u s',Inv X pins σ H s'→bM v u→Q u s'):wpAny (model X.prog X.w) A (getAttr (.ref a) f b) Q E s:=by
 obtain⟨mA,O,r,_,_,_⟩:=uM I.hok e
 obtain⟨u,hu,ru⟩:=oF.some_of (v:=v) (o:=mA f) (by rw[← l];exact r f)
 exact aPT I.kIn O (c.get f) c.hd n hu (aJU ru) (h u _ (I.tok _) ru)
theorem wP{m:Str}{g:Addr}{pl:Sem Bool}{Q:Value×List Value→Shared→Prop}(I:Inv X pins σ H s)(e:H a=some (.ins C dx fs))(c:Cls X.K C)(k:Meth X.K C m g)(l:fs.lookup m=none)
 (h:Q (.ref g,[.ref a]) s):wpAny (model X.prog X.w) A (EY (.ref a) m pl) Q E s:=by
 obtain⟨mA,O,r,_,_,_⟩:=uM I.hok e
 have hn:mA m=none:=oF.none_of (by rw[← l];exact r m)
 exact aMV I.kIn O (c.get m) k.at_ k.fn hn h
theorem aFJ{y:V}{u:Value}{Q:Unit→Shared→Prop}(I:Inv X pins σ H s)(e:H a=some (.ins C dx fs))(c:Cls X.K C)(n:nL X.K C f)(hl:fs.length<1000)(ry:bM y u)
 (h:∀ s',Inv X pins σ (upd H a (.ins C dx (iN f y fs))) s'→Q () s'):wpAny (model X.prog X.w) A (setAttr (.ref a) f u) Q E s:=by
 obtain⟨mA,O,r,wi,_,ho⟩:=uM I.hok e
 have hz:(fs.map (·.1)).length≤Ak:=by rw[AA,CD];omega
 refine aOL I.kIn O c.sa c.po n.taker c.hd wi hz fun h' O' sb=>h _ ?_
 have hd:∃ o,h'.get? dx=some o:=let ⟨o,_,_,e',_⟩:=O'.ns;⟨o,e'⟩
 refine I.write (x:=a) (e:=dx) (by rw[e];exact CN) (.inr ho) (fun b q hb z=>(sb.2 b hb).trans z) hd ?_
 refine⟨by rw[aI O.ne];exact ho,?_,O.ne,O'.obj,_,O'.ns,fun g=>?_,fun g hg=>?_⟩
 ·have:=tJ f y fs;omega
 ·show oF ((iN f y fs).lookup g) (if g=f then some u else mA g)
  rw[fD]
  by_cases q:g=f
  ·rw[if_pos q,if_pos q];exact ry
  ·rw[if_neg q,if_neg q];exact r g
 ·by_cases q:g=f
  ·rw[q];exact (rV f y fs).1
  ·refine (rV f y fs).2 g (wi g fun z=>hg ?_)
   show (if g=f then some u else mA g)=none
   rw[if_neg q];exact z
theorem Inv.made(I:Inv X pins σ H s):Inv X pins σ (upd (upd H s.heap.objs.size (.own (s.heap.objs.size+1))) (s.heap.objs.size+1) (.ins C s.heap.objs.size []))
  { s with heap:=(s.heap.push Bn).push (CF C s.heap.objs.size) }:=by
 have e1:(s.heap.push Bn).get? s.heap.objs.size=some Bn:=Ah s.heap rfl
 have e2:((s.heap.push Bn).push (CF C s.heap.objs.size)).get? (s.heap.objs.size+1)=some (CF C s.heap.objs.size):=by
  have:=Ah (s.heap.push Bn) (o:=CF C s.heap.objs.size) rfl
  rwa [Cq] at this
 have e3:(s.heap.push Bn).Ns s.heap.objs.size (fun _=>none):=⟨Bn,#[],_,e1,rfl,(fun e he=>absurd he (by simp)),fun _=>rfl⟩
 have I1:=I.laid (a:=s.heap.objs.size) (o:=.own (s.heap.objs.size+1)) (h':=s.heap.push Bn) (t':=s.toks) (fun b u q=>AJ _ q) (AS _) ⟨_,e1⟩
 refine I1.laid (a:=s.heap.objs.size+1) (o:=.ins C s.heap.objs.size []) (t':=s.toks) (fun b u q=>AJ _ q) (Dm (Cq _ _)) ?_
 have ne:s.heap.objs.size≠s.heap.objs.size+1:=Ae (Cz _)
 refine⟨by rw[aI ne,aC],BK _,ne,e2,fun _=>none,(Heap.Ns1.of_empty e3).at fun o q=>AJ _ q,fun _=>CN,fun y hy=>absurd rfl hy⟩
theorem aQC{prog:Program}{w:World}{env:Env}{e:Expr}{f:Str}{pos:Pos}{s:Shared}{Q:Value→Shared→Prop}(hb:DG e f env (eval e env)=eval e env)
 (h:wpAny (model prog w) A (eval e env) (fun o s₁=>wpAny (model prog w) A (getAttr o f true) Q E s₁) E s):wpAny (model prog w) A (eval (.Attribute e f pos) env) Q E s :=
 Attribute_any_ h (by rw[arm_eval_Attribute,hb])
end
def aVW(K:AD)(ta:TE)(f:Str):TE:=fun σ H Q=>ta σ H fun x H1=>∃ a C dx fs v,x=.ref a∧H1 a=some (.ins C dx fs)∧Cls K C∧nL K C f∧fs.lookup f=some v∧Q v H1
def aWC(K:AD)(ta tv:TE)(f:Str):TS:=fun D σ H=>tv σ H fun y H1=>ta σ H1 fun x H2=>∃ a C dx fs,x=.ref a∧H2 a=some (.ins C dx fs)∧Cls K C∧nL K C f∧fs.length<1000 ∧
 D.nx σ (upd H2 a (.ins C dx (iN f y fs)))
def aVO(X:Cx)(op:Operator)(rd:V→V→Hp→VK→Prop):Prop :=
 ∀ (pins:List (Addr×Obj)) (s:Shared) (σ:St) (H:Hp) (x y:V) (u v:Value) (Q:VK),Inv X pins σ H s→bM x u→bM y v→rd x y H Q→wpAny (model X.prog X.w) X.A (inplaceOp op u v) (EP X pins σ Q) X.xe s
section
variable{X:Cx}{o e value:Expr}{f:Str}{pos pos' tpos:Pos}{ta tv:TE}
theorem vT(he:PE X e ta)(hb:DG e f X.env (eval e X.env)=eval e X.env):PE X (.Attribute e f pos) (aVW X.K ta f):=by
 intro pins s σ H Q I h
 refine aQC hb (thn (he pins s σ H _ I h) fun u s1 ⟨x,H1,I1,rx,a,C,dx,fs,v,ex,ea,c,n,l,q⟩=>?_)
 subst ex
 obtain rfl:u=Ao a:=rx
 exact aGF I1 ea c n l fun u' s2 I2 ru=>⟨v,H1,I2,ru,q⟩
theorem aLR(ha:PE X o ta)(hv:PE X value tv)(hs:EX value (some (.Attribute o f pos')) pos.line X.env=pure false):PS X (.Assign [.Attribute o f pos'] value pos) (aWC X.K ta tv f):=by
 intro pins s σ H D I h
 refine plainObj_wpAny_Assign_Attribute (thn (hv pins s σ H _ I h) fun u s1 ⟨y,H1,I1,ry,q⟩=>thn (ha pins s1 σ H1 _ I1 q) fun ov s2 ⟨x,H2,I2,rx,a,C,dx,fs,ex,ea,c,n,l,q2⟩=>?_) hs
 subst ex
 obtain rfl:ov=Ao a:=rx
 exact aFJ I2 ea c n l ry fun s3 I3=>⟨σ,_,I3,q2⟩
def aWF:V→V→Hp→VK→Prop:=fun x y H Q=>∃ i j,x=.int i∧y=.int j∧Q (.int (i+j)) H
theorem aSY:aVO X .Add aWF:=by
 rintro pins s σ H x y u v Q I rx ry ⟨i,j,rfl,rfl,q⟩
 obtain⟨t,rfl⟩:=(show ∃ t,u=DX i t from rx)
 obtain⟨t',rfl⟩:=(show ∃ t',v=DX j t' from ry)
 exact PyProof.Rows.iadd_int ⟨.int (i+j),H,I.tok _,⟨_,rfl⟩,q⟩
end
section
variable{X:Cx}{pins:List (Addr×Obj)}{σ:St}{H:Hp}{s:Shared}{A:Around}{E:Value→Shared→Prop}{Q:Value→Shared→Prop}{c:Value}{b:Bool}
inductive TyOf (K:AD) (H:Hp):V→Value→Prop where
 | non:TyOf K H .non (.type "NoneType")
 | bl (x:Bool):TyOf K H (.bl x) (.type "bool")
 | int (i:Int):TyOf K H (.int i) (.type "int")
 | str (x:Str):TyOf K H (.str x) (.type "str")
 | flt (x:UInt64):TyOf K H (.flt x) (.type "float")
 | lst {a:Addr} {xs:List V} (e:H a=some (.lst xs)):TyOf K H (.ref a) (.type "list")
 | frz {a:Addr} {o:Obj} {xs:List V} (e:H a=some (.frz o (.lst xs))):TyOf K H (.ref a) (.type "list")
 | tup {a:Addr} {xs:List V} (e:H a=some (.tup xs)):TyOf K H (.ref a) (.type "tuple")
 | dK {a:Addr} {kvs:List (Key×V)} (e:H a=some (.dK kvs)):TyOf K H (.ref a) (.type "dict")
 | dT {a:Addr} {kvs:List (List Key×V)} (e:H a=some (.dT kvs)):TyOf K H (.ref a) (.type "dict")
 | ins {a C dx:Addr} {fs:List (Str×V)} (e:H a=some (.ins C dx fs)) (cl:Cls K C) (ha:BR K (.ref C) "__class__"=some (some (.builtin "object.__class__")))
   (hn:EM K (.builtin "object.__class__") "__get__"=some (some (.builtin "getset_descriptor.__get__"))) (htk:PySem.W.takesIn K (.builtin "object.__class__")=some true)
   (hm:PySem.W.mroIn K C (.type "object")=some true):TyOf K H (.ref a) (.ref C)
theorem aJR{x:V}{u t:Value}(I:Inv X pins σ H s)(rx:bM x u)(ty:TyOf X.K H x t)(e:BF X.K t c=some b)(h:∀ tk,Q (.bool b) { s with toks:=tk }) :
  wpAny (model X.prog X.w) A (call (.builtin "isinstance") [u,c]) Q E s:=by
 cases ty with
 | non=>cases (show u=CA from rx);exact Bi PySem.W.kitx_none I.kIn CN e (fun z=>nomatch z) h
 | bl y=>cases (show u=EL y from rx);exact Bi PySem.W.kitx_bool I.kIn CN e (fun z=>nomatch z) h
 | int i=>obtain⟨t,q⟩:=(show ∃ t,u=DX i t from rx);cases q;exact Bi PySem.W.kitx_int I.kIn CN e (fun z=>nomatch z) h
 | str y=>obtain⟨t,q⟩:=(show ∃ t,u=Value.str y t from rx);cases q;exact Bi PySem.W.kitx_str I.kIn CN e (fun z=>nomatch z) h
 | flt y=>obtain⟨t,q⟩:=(show ∃ t,u=Value.float y t from rx);cases q;exact Bi PySem.W.kitx_float I.kIn CN e (fun z=>nomatch z) h
 | @lst a xs ea =>
  cases (show u=Ao a from rx)
  obtain⟨_,_,n,_,h1⟩:=(show cE X.prog X.w H s.heap a (.lst xs) from I.hok a _ ea)
  exact Bi PySem.W.kitx_list I.kIn ⟨_,h1,rfl⟩ e (fun z=>nomatch z) h
 | @frz a ob xs ea =>
  cases (show u=Ao a from rx)
  obtain⟨_,_,_,n,_,h1⟩:=(show cE X.prog X.w H s.heap a (.frz ob (.lst xs)) from I.hok a _ ea)
  exact Bi PySem.W.kitx_list I.kIn ⟨_,h1,rfl⟩ e (fun z=>nomatch z) h
 | @tup a xs ea =>
  cases (show u=Ao a from rx)
  obtain⟨_,_,_,p⟩:=(show cE X.prog X.w H s.heap a (.tup xs) from I.hok a _ ea)
  obtain⟨o,h1,h2,_⟩:=p
  exact Bi PySem.W.kitx_tuple I.kIn ⟨o,h1,h2⟩ e (fun z=>nomatch z) h
 | @dK a kvs ea =>
  cases (show u=Ao a from rx)
  obtain⟨_,_,vs,_,p⟩:=(show cE X.prog X.w H s.heap a (.dK kvs) from I.hok a _ ea)
  obtain⟨o,es,ep,h1,h2,_⟩:=p
  exact Bi PySem.W.kitx_dict I.kIn ⟨o,h1,h2.1⟩ e (fun z=>nomatch z) h
 | @dT a kvs ea =>
  cases (show u=Ao a from rx)
  obtain⟨_,_,xs,_,o,es,ep,h1,h2,_⟩:=(show cE X.prog X.w H s.heap a (.dT kvs) from I.hok a _ ea)
  exact Bi PySem.W.kitx_dict I.kIn ⟨o,h1,h2.1⟩ e (fun z=>nomatch z) h
 | @ins a C dx fs ea cl ha hn htk hm =>
  cases (show u=Ao a from rx)
  obtain⟨mA,O,_⟩:=uM I.hok ea
  obtain⟨od,J,_⟩:=O.look
  exact Bi (PySem.W.kitx_own (cl.get _) cl.hd ha hn htk hm) I.kIn J e (fun z=>nomatch z) h
end
end L2
namespace L2
open PySem PySem.Spec PyProof.Rows
structure Room (k:Nat) (A:Around):Prop where
 hd:A.handled=none
 dp:A.depth+3*k+5<recursionLimit
 un:A.units+16*k+200<cLine
theorem Room.mono{j k:Nat}{A:Around}(r:Room k A)(h:j≤k):Room j A:=⟨r.hd,by have:=r.dp;omega,by have:=r.un;omega⟩
theorem Room.deeper{k:Nat}{A:Around}(r:Room (k+1) A)(env:Env):Room k (A.deeper env) :=
 ⟨r.hd,by have:=r.dp;show A.depth+1+3*k+5<_;omega,by have:=r.un;show A.units+3+16*k+200<_;omega⟩
theorem Room.in1{k:Nat}{A:Around}(r:Room (k+1) A):Room k A.in1 :=
 ⟨r.hd,by have:=r.dp;show A.depth+3*k+5<_;omega,by have:=r.un;show A.units+1+16*k+200<_;omega⟩
theorem aFY{A:Around}{C:Addr}{us:List Value}{kw:List (Str×Value)}:(A.under (.builtin "type.__call__" ⟨.ref C :: us,kw⟩)).depth=A.depth+1:=by
 first | rfl | simp[Around.under,Code.weight,Code.isCreation,Code.isGuard,Code.isCaller,Code.frames,Code.isFrame,guardIds]
theorem aFX{A:Around}{C:Addr}{us:List Value}{kw:List (Str×Value)}:(A.under (.builtin "type.__call__" ⟨.ref C :: us,kw⟩)).units=A.units+1:=by
 first | rfl | simp[Around.under,Code.cUnits,Code.frames,Code.isFrame]
theorem Room.make{k:Nat}{A:Around}(r:Room (k+1) A)(C:Addr)(us:List Value)(kw:List (Str×Value)):Room k (A.under (.builtin "type.__call__" ⟨.ref C :: us,kw⟩)) :=
 ⟨r.hd,by have:=r.dp;rw[aFY];omega,by have:=r.un;rw[aFX];omega⟩
theorem Room.depth{k:Nat}{A:Around}(r:Room k A):A.depth<recursionLimit:=by have:=r.dp;omega
theorem Room.units{k:Nat}{A:Around}(r:Room k A):A.units+64<cLine:=by have:=r.un;omega
def aCP:TA:=fun _ H Q=>Q [] H
def oG(ta:TE)(tr:TA):TA:=fun σ H Q=>ta σ H fun x H1=>tr σ H1 fun xs H2=>Q (x :: xs) H2
section
variable{X:Cx}{e:Expr}{es:List Expr}{te:TE}{t:TA}{pos:Pos}
theorem aB:PA X [] aCP:=fun _ _ _ _ H Q I h=>Calls.spliced_nil ⟨[],H,I,.nil,h⟩
theorem aA(ha:PE X e te)(hr:PA X es t)(hs:Al (e :: es) X.env=(false,eval e X.env) :: Al es X.env:=by rfl):PA X (e :: es) (oG te t):=by
 intro pos pins s σ H Q I h
 rw[hs]
 show wpAny _ _ (spliced ((false,eval e X.env) :: backTo pos (Al es X.env))) _ _ s
 refine Calls.spliced_cons (thn (ha pins s σ H _ I h) fun u s1 ⟨x,H1,I1,r1,q1⟩=>?_)
 exact thn (hr pos pins s1 σ H1 _ I1 q1) fun us s2 ⟨xs,H2,I2,r2,q2⟩=>⟨x :: xs,H2,I2,.cons r1 r2,q2⟩
def aTW(t:TA):TE:=fun σ H Q=>t σ H fun xs H1=>xs.length≤Ak∧∀ p,H1 p=none→Q (.ref p) (upd H1 p (.tup xs))
def aVT(t:TA):TE:=fun σ H Q=>t σ H fun xs H1=>xs.length≤Ak∧∀ p,H1 p=none→Q (.ref p) (upd H1 p (.lst xs))
theorem dW{x1}(h:PA X es t):PE X (.Tuple es x1 pos) (aTW t):=by
 intro pins s σ H Q I hq
 refine wpAny_Tuple_spliced (thn (h pos pins s σ H _ I hq) fun us s1 ⟨xs,H1,I1,r,z,q⟩=>⟨by rw[← r.length];exact z,?_⟩)
 have hf:H1 s1.heap.objs.size=none:=I1.hok.fresh (AS _)
 refine⟨.ref s1.heap.objs.size,upd H1 s1.heap.objs.size (.tup xs),I1.laid (t':=s1.toks) (fun b u e=>AJ _ e) (AS _) ?_,rfl,q _ hf⟩
 exact⟨z,us,r,⟨_,Ah _ rfl,rfl,_,rfl,rfl⟩⟩
theorem bS(h:PA X es t):PE X (.List es pos) (aVT t):=by
 intro pins s σ H Q I hq
 refine wpAny_List_spliced (thn (h pos pins s σ H _ I hq) fun us s1 ⟨xs,H1,I1,r,z,q⟩=>⟨by rw[← r.length];exact z,?_⟩)
 have hf:H1 s1.heap.objs.size=none:=I1.hok.fresh (AS _)
 refine⟨.ref s1.heap.objs.size,upd H1 s1.heap.objs.size (.lst xs),I1.laid (t':=s1.toks) (fun b u e=>AJ _ e) (AS _) ?_,rfl,q _ hf⟩
 exact⟨z,us,0,r,Ah _ rfl⟩
end
abbrev Sp:=List V→Hp→VK→XK→Prop
abbrev CXT:=List Env→Hp→Shared→XK→Value→Shared→Prop
structure Env0 (P:Program) (w:World) (K:AD) (mg:Str→Option Value) (base:Heap) (A:Around) (outer:List Env) (s:Shared) (H:Hp):Prop where
 frames:A.frames=some outer
 mod:Mod K mg base
 bs:∀ b o,base.get? b=some o→s.heap.get? b=some o∧H b=none
 bsz:base.objs.size≤s.heap.objs.size
 funs:s.heap.FunFrames base outer
 frf:∀ b∈frs outer,H b=none
 hok:HOk P w H s.heap
 bare:AllBare s.gens
def CE(outer:List Env)(P:Program)(w:World)(H:Hp)(s:Shared)(Q:VK)(u:Value)(s':Shared):Prop :=
 ∃ v H',s'.os=s.os∧AllBare s'.gens∧Un (frs outer) [] H H' s.heap s'.heap∧HOk P w H' s'.heap∧bM v u∧Q v H'
def CR(CX:CXT)(outer:List Env)(P:Program)(w:World)(H:Hp)(s:Shared)(Q:VK)(E:XK)(r:Result)(s':Shared):Prop :=
 match r with
 | .ok (.ret u)=>CE outer P w H s Q u s'
 | .ok _=>False
 | .error e=>CX outer H s E e s'
structure FnOk (P:Program) (w:World) (K:AD) (mg:Str→Option Value) (base:Heap) (CX:CXT) (k:Nat) (f:Addr) (fd:Bb) (ps:List Str) (sp:Sp):Prop where
 len:∀ vs H Q E,sp vs H Q E→vs.length=ps.length
 run:∀ (A:Around) (outer:List Env) (s:Shared) (H:Hp) (args:Args) (us:List Value) (vs:List V) (Q:VK) (E:XK),Room k A→Env0 P w K mg base A outer s H→BindsTo s fd args (ps.zip us)→bF vs us→sp vs H Q E →
  codeAny (model P w) A (.call (.ref f) args) (CR CX outer P w H s Q E) s
theorem FnOk.imp{P:Program}{w:World}{K:AD}{mg:Str→Option Value}{base:Heap}{CX:CXT}{k:Nat}{f:Addr}{fd:Bb}{ps:List Str}{sp sp':Sp}(F:FnOk P w K mg base CX k f fd ps sp)
 (h:∀ vs H Q E,sp' vs H Q E→sp vs H Q E):FnOk P w K mg base CX k f fd ps sp' :=
 ⟨fun vs H Q E q=>F.len vs H Q E (h _ _ _ _ q),fun A outer s H args us vs Q E hr he hb hv hs=>F.run A outer s H args us vs Q E hr he hb hv (h _ _ _ _ hs)⟩
theorem Env0.make{P:Program}{w:World}{K:AD}{mg:Str→Option Value}{base:Heap}{A:Around}{outer:List Env}{s:Shared}{H:Hp}(e:Env0 P w K mg base A outer s H)(C:Addr)(us:List Value)(kw:List (Str×Value)) :
  Env0 P w K mg base (A.under (.builtin "type.__call__" ⟨.ref C :: us,kw⟩)) outer s H:=⟨by first | exact e.frames | (simpa [Around.under,Code.envs,Code.isFrame,pushEnvs] using e.frames),e.mod,e.bs,e.bsz,e.funs,e.frf,e.hok,e.bare⟩
theorem Env0.in1{P:Program}{w:World}{K:AD}{mg:Str→Option Value}{base:Heap}{A:Around}{outer:List Env}{s:Shared}{H:Hp}(e:Env0 P w K mg base A outer s H) :
  Env0 P w K mg base A.in1 outer s H:=⟨e.frames,e.mod,e.bs,e.bsz,e.funs,e.frf,e.hok,e.bare⟩
section
variable{X:Cx}{pins:List (Addr×Obj)}{σ:St}{H:Hp}{s s':Shared}
theorem Inv.env0(I:Inv X pins σ H s):Env0 X.prog X.w X.K X.mg X.base X.A X.stack s H :=
 ⟨I.ok.frames,I.ok.mod,I.bs,Az I.ok.bsz I.sz,I.stack,I.stkFree,I.hok,I.bare⟩
theorem Inv.after{Q:VK}{u:Value}(I:Inv X pins σ H s)(h:CE X.stack X.prog X.w H s Q u s'):EP X pins σ Q u s':=by
 obtain⟨v,H',os,bare,un,hok,r,q⟩:=h
 obtain⟨hh,g,d,t,os'⟩:=s'
 obtain rfl:os'=s.os:=os
 exact⟨v,H',I.call (h':=hh) (g':=g) (d':=d) (t':=t) (ch:=[]) un hok bare (fun b z=>absurd z (by simp)),r,q⟩
end
def yA(sp:Sp)(dvs:List V)(E:XK)(t:TA):TE:=fun σ H Q=>t σ H fun vs H1=>sp (vs++dvs) H1 Q E
def aGY(C:Addr)(m:Str)(sp:Sp)(dvs:List V)(E:XK)(ta:TE)(t:TA):TE:=fun σ H Q=>ta σ H fun x H1=>∃ a dx fs,x=.ref a∧H1 a=some (.ins C dx fs)∧fs.lookup m=none ∧
 t σ H1 fun vs H2=>sp (x :: (vs++dvs)) H2 Q E
def aQL(C:Addr)(sp:Sp)(dvs:List V)(E:XK)(t:TA):TE:=fun σ H Q=>t σ H fun vs H1=>∀ x dx,H1 x=none→H1 dx=none→dx≠x →
 sp (.ref x :: (vs++dvs)) (upd (upd H1 dx (.own x)) x (.ins C dx [])) (fun v H2=>v=.non∧Q (.ref x) H2) E
def gL(K:AD)(fd:Bb)(ps:List Str)(ds:List Value):Prop :=
 ∀ (s:Shared) (us:List Value),K.In s.heap→(us++ds).length=ps.length→BindsTo s fd ⟨us,[]⟩ (ps.zip (us++ds))
theorem gL.all{K:AD}{fd:Bb}{ps:List Str}(h:∀ us:List Value,us.length=ps.length→EV fd ⟨us,[]⟩=pure (ps.zip us)):gL K fd ps []:=fun s us _ hl=>by
 rw[BO] at hl ⊢
 exact .of_eq (h us hl)
def lH(CX:CXT)(X:Cx)(E:XK):Prop:=∀ (pins:List (Addr×Obj)) (σ:St) (H:Hp) (s:Shared) (e:Value) (s':Shared),Inv X pins σ H s→CX X.stack H s E e s'→X.xe e s'
section
variable{X:Cx}{CX:CXT}{k:Nat}{f C:Addr}{fd:Bb}{ps:List Str}{sp:Sp}{dvs:List V}{ds:List Value}{E:XK}{x m:Str}{p pos apos:Pos}{e o:Expr}{es:List Expr}{ta:TE}{t:TA}
theorem aFL{pins:List (Addr×Obj)}{σ:St}{H:Hp}{s:Shared}{Q:VK}{us:List Value}{vs:List V}(F:FnOk X.prog X.w X.K X.mg X.base CX k f fd ps sp)(hr:Room k X.A)(hb:gL X.K fd ps ds)(hd:bF dvs ds)(hx:lH CX X E)
 (I:Inv X pins σ H s)(r:bF vs us)(h:sp (vs++dvs) H Q E):wpAny (model X.prog X.w) X.A (call (.ref f) us) (EP X pins σ Q) X.xe s:=by
 have r2:bF (vs++dvs) (us++ds):=r.append hd
 have hl:(us++ds).length=ps.length:=by rw[← r2.length];exact F.len _ _ _ _ h
 refine DU (CY (F.run X.A X.stack s H ⟨us,[]⟩ (us++ds) (vs++dvs) Q E hr I.env0 (hb s us I.kIn hl) r2 h) fun r s' hq=>?_)
 cases r with
 | error e=>exact hx pins σ H s e s' I hq
 | ok fl =>
  cases fl with
  | ret u=>exact I.after hq
  | next=>exact BH hq
  | brk=>exact BH hq
  | cont=>exact BH hq
theorem aHX(F:FnOk X.prog X.w X.K X.mg X.base CX k f fd ps sp)(hr:Room k X.A)(hg:Gl X x)(hm:X.mg x=some (.ref f))(hk:Bm X.K (.ref f)=true)(hb:gL X.K fd ps ds)(hd:bF dvs ds)(hx:lH CX X E)
 (ha:PA X (e :: es) t)(hdb:(x == ("__debug__":Str))=false:=by decide)(he:Al (e :: es) X.env=(false,eval e X.env) :: Al es X.env:=by rfl)(hpl:(backTo pos (Al es X.env)).any (·.1)=false:=by rfl) :
  PE X (.Call (.Name x p) (e :: es) [] pos) (yA sp dvs E t):=by
 intro pins s σ H Q I h
 refine Bt (nV I hg hm ?_ hdb)
 refine DD (h₀:=X.base) I.ok.mod.kin hk (thn (ha pos pins s σ H _ I h) fun us s1 ⟨vs,H1,I1,r,q⟩=>⟨I1.kIn,?_⟩) he hpl
 exact aFL F hr hb hd hx I1 r q
theorem aOZ{pl:Sem Bool}(he:PE X o ta)(c:Cls X.K C)(hm:Meth X.K C m f)(F:FnOk X.prog X.w X.K X.mg X.base CX k f fd ps sp)(hr:Room k X.A)(hb:gL X.K fd ps ds)(hd:bF dvs ds)(hx:lH CX X E)(ha:PA X (e :: es) t)
 (hst:Al (e :: es) X.env=(false,eval e X.env) :: Al es X.env:=by rfl)(hpl:(backTo pos (Al es X.env)).any (·.1)=false:=by rfl)
 (ht:eval (.Call (.Attribute o m apos) (e :: es) [] pos) X.env=(do
   let ov ← eval o X.env
   standAt apos.atName
   let (f,first) ← holding [ov] (EY ov m pl)
   callWith pos f first (backTo pos (Al (e :: es) X.env)) (DJ pos (CS [] X.env))):=by rfl) :
  PE X (.Call (.Attribute o m apos) (e :: es) [] pos) (aGY C m sp dvs E ta t):=by
 intro pins s σ H Q I h
 refine PySem.W.methodCall_KW (pl:=pl) (thn (he pins s σ H _ I h) fun u s1 ⟨x,H1,I1,rx,a,dx,fs,ex,ea,l,q⟩=>?_) ht
 subst ex
 obtain rfl:u=Ao a:=rx
 refine wP I1 ea c hm l ?_
 refine DD (first:=[.ref a]) (h₀:=X.base) I.ok.mod.kin hm.kp (thn (ha pos pins s1 σ H1 _ I1 q) fun us s2 ⟨vs,H2,I2,r,q2⟩=>⟨I2.kIn,?_⟩) hst hpl
 exact aFL (us:=.ref a :: us) (vs:=.ref a :: vs) F hr hb hd hx I2 (.cons rfl r) q2
theorem aLW{pl:Sem Bool}(he:PE X o ta)(c:Cls X.K C)(hm:Meth X.K C m f)(F:FnOk X.prog X.w X.K X.mg X.base CX k f fd ps sp)(hr:Room k X.A)(hb:gL X.K fd ps ds)(hd:bF dvs ds)(hx:lH CX X E)
 (ht:eval (.Call (.Attribute o m apos) [] [] pos) X.env=(do
   let ov ← eval o X.env
   standAt apos.atName
   let (f,first) ← holding [ov] (EY ov m pl)
   callWith pos f first (backTo pos (Al [] X.env)) (DJ pos (CS [] X.env))):=by rfl) :
  PE X (.Call (.Attribute o m apos) [] [] pos) (aGY C m sp dvs E ta aCP):=by
 intro pins s σ H Q I h
 refine PySem.W.methodCall_KW (pl:=pl) (thn (he pins s σ H _ I h) fun u s1 ⟨x,H1,I1,rx,a,dx,fs,ex,ea,l,q⟩=>?_) ht
 subst ex
 obtain rfl:u=Ao a:=rx
 refine wP I1 ea c hm l ?_
 exact PySem.W.callWith_K0 (first:=[.ref a]) I1.kIn hm.kp (aFL (us:=[.ref a]) (vs:=[.ref a]) F hr hb hd hx I1 (.cons rfl .nil) q)
structure Mk (K:AD) (C f:Addr):Prop where
 makes:Eg K C=true
 init:BR K (.ref C) "__init__"=some (some (.ref f))
 fn:DY K (.ref f)=true
 kp:Bm K (.ref C)=true
theorem aLF{pins:List (Addr×Obj)}{σ:St}{H:Hp}{s:Shared}{Q:VK}{us:List Value}{vs:List V}(M:Mk X.K C f)(F:FnOk X.prog X.w X.K X.mg X.base CX k f fd ps sp)(hr:Room (k+1) X.A)(hb:gL X.K fd ps ds)(hd:bF dvs ds)
 (hx:lH CX X E)(I:Inv X pins σ H s)(r:bF vs us)
 (h:∀ x dx,H x=none→H dx=none→dx≠x→sp (.ref x :: (vs++dvs)) (upd (upd H dx (.own x)) x (.ins C dx [])) (fun v H2=>v=.non∧Q (.ref x) H2) E) :
  wpAny (model X.prog X.w) X.A (call (.ref C) us) (EP X pins σ Q) X.xe s:=by
 have hq:=h (s.heap.objs.size+1) s.heap.objs.size (I.hok.fresh (Cc _)) (I.hok.fresh (AS _)) (Ae (Cz _))
 have I2:=Inv.made (C:=C) I
 have r2:bF (V.ref (s.heap.objs.size+1) :: (vs++dvs)) (Ao (s.heap.objs.size+1) :: (us++ds)):=.cons rfl (r.append hd)
 have hl:(Ao (s.heap.objs.size+1) :: us++ds).length=ps.length:=by
  have e:=r2.length
  rw[F.len _ _ _ _ hq] at e
  exact e.symm
 refine DU (aMH (f:=f) I.kIn M.makes M.init (beq_iff_eq.mp M.fn) (CY (F.run _ X.stack _ _ ⟨Ao (s.heap.objs.size+1) :: us,[]⟩ (Ao (s.heap.objs.size+1) :: (us++ds)) _ _ E (hr.make C us [])
  (I2.env0.make C us []) (hb _ (Ao (s.heap.objs.size+1) :: us) I2.kIn hl) r2 hq) fun r s' hq'=>?_))
 cases r with
 | error e=>exact hx pins σ _ _ e s' I2 hq'
 | ok fl =>
  cases fl with
  | ret u =>
   obtain⟨v,H',I3,rv,ev,q3⟩:=I2.after hq'
   subst ev
   exact⟨rv,⟨V.ref (s.heap.objs.size+1),H',I3,rfl,q3⟩⟩
  | next=>exact BH hq'
  | brk=>exact BH hq'
  | cont=>exact BH hq'
theorem aPA(M:Mk X.K C f)(F:FnOk X.prog X.w X.K X.mg X.base CX k f fd ps sp)(hr:Room (k+1) X.A)(hg:Gl X x)(hm:X.mg x=some (.ref C))(hb:gL X.K fd ps ds)(hd:bF dvs ds)(hx:lH CX X E)
 (ha:PA X (e :: es) t)(hdb:(x == ("__debug__":Str))=false:=by decide)(he:Al (e :: es) X.env=(false,eval e X.env) :: Al es X.env:=by rfl)(hpl:(backTo pos (Al es X.env)).any (·.1)=false:=by rfl) :
  PE X (.Call (.Name x p) (e :: es) [] pos) (aQL C sp dvs E t):=by
 intro pins s σ H Q I h
 refine Bt (nV I hg hm ?_ hdb)
 refine DD (h₀:=X.base) I.ok.mod.kin M.kp (thn (ha pos pins s σ H _ I h) fun us s1 ⟨vs,H1,I1,r,q⟩=>⟨I1.kIn,?_⟩) he hpl
 exact aLF M F hr hb hd hx I1 r q
end
def PK(X:Cx)(kws:List Keyword)(t:TA):Prop :=
 ∀ (pos:Pos) (pins:List (Addr×Obj)) (s:Shared) (σ:St) (H:Hp) (Q:List V→Hp→Prop),Inv X pins σ H s→t σ H Q→wpAny (model X.prog X.w) X.A (evalAll ((DJ pos (CS kws X.env)).map (·.2))) (AP X pins σ Q) X.xe s
section
variable{X:Cx}{CX:CXT}{k:Nat}{f C:Addr}{fd:Bb}{ps ks:List Str}{sp:Sp}{E:XK}{x m:Str}{p pos apos kpos:Pos}{e o:Expr}{es:List Expr}{kws:List Keyword}{te ta:TE}{t tk:TA}{nm:Option Str}
theorem aSC:PK X [] aCP:=fun _ _ _ _ H Q I h=>wpAny_evalAll_nil ⟨[],H,I,.nil,h⟩
theorem aOY(ha:PE X e te)(hr:PK X kws t):PK X (⟨nm,e,kpos⟩ :: kws) (oG te t):=by
 intro pos pins s σ H Q I h
 show wpAny _ _ (evalAll ((do let v ← eval e X.env;standAt pos;pure v) :: (DJ pos (CS kws X.env)).map (·.2))) _ _ s
 refine wpAny_evalAll_cons (AK (thn (ha pins s σ H _ I h) fun u s1 ⟨x,H1,I1,r1,q1⟩=>AK (wpAny_standAt (Aa ?_))))
 exact thn (hr pos pins s1 σ H1 _ I1 q1) fun us s2 ⟨xs,H2,I2,r2,q2⟩=>⟨x :: xs,H2,I2,.cons r1 r2,q2⟩
structure KBinds (K:AD) (fd:Bb) (ps ks:List Str) (g:List Value→List Value→List Value) (gV:List V→List V→List V):Prop where
 to:∀ (s:Shared) (us ws:List Value),K.In s.heap→(g us ws).length=ps.length→BindsTo s fd ⟨us,ks.zip ws⟩ (ps.zip (g us ws))
 rel:∀ {vs:List V} {us:List Value} {zs:List V} {ws:List Value},bF vs us→bF zs ws→bF (gV vs zs) (g us ws)
variable{g:List Value→List Value→List Value}{gV:List V→List V→List V}
end
structure FnScope (N P:List Str) (sc:Scope):Prop where
 kind:sc.kind=.function
 co:sc.isCoroutine=false
 gen:sc.isGenerator=false
 nd:N.Nodup
 pre:N.take P.length=P
 par:∀ x∈P,sc.names.lookup x=some .local∨sc.names.lookup x=some .cell
 nofree:∀ y∈sc.names,y.2≠.free
theorem zZ{kindOf:Str→Option Ay}{x:Str}:∀ {binds:List (Str×Value)} {m:Str→Option Value},(∀ v,(x,v)∉binds)→bindL kindOf binds m x=m x
 | [],_,_=>rfl
 | (n,v) :: r,m,h=>by
  unfold bindL
  rw[zZ fun w hw=>h w (AO _ hw)]
  split
  ·have:x≠n:=by rintro rfl;exact h v AQ
   simp[this]
  ·rfl
theorem aAB{kindOf:Str→Option Ay}{x:Str}:∀ {binds:List (Str×Value)} {m:Str→Option Value},(∀ v,(x,v)∉binds)→bindC kindOf binds m x=m x
 | [],_,_=>rfl
 | (n,v) :: r,m,h=>by
  unfold bindC
  rw[aAB fun w hw=>h w (AO _ hw)]
  split
  ·rfl
  ·have:x≠n:=by rintro rfl;exact h v AQ
   simp[this]
theorem aAA{kindOf:Str→Option Ay}{x:Str}{v:Value}:∀ {P:List Str} {vs:List Value} {i:Nat} {m:Str→Option Value},P.Nodup→P[i]?=some x→vs[i]?=some v→kindOf x=some .local →
  bindL kindOf (P.zip vs) m x=some v
 | [],_,_,_,_,h,_,_=>by simp at h
 | _ :: _,[],_,_,_,_,h,_=>by simp at h
 | p :: P,w :: vs,0,m,nd,h1,h2,hk=>by
  simp at h1 h2;subst h1;subst h2
  show bindL kindOf ((p,w) :: P.zip vs) m p=_
  unfold bindL
  rw[zZ fun v hv=>(Ap.mp nd).1 (Dn hv).1,if_pos hk]
  simp
 | p :: P,w :: vs,i+1,m,nd,h1,h2,hk=>by
  show bindL kindOf ((p,w) :: P.zip vs) m x=_
  unfold bindL
  exact aAA (i:=i) (Ap.mp nd).2 (by simpa using h1) (by simpa using h2) hk
theorem aAC{kindOf:Str→Option Ay}{x:Str}{v:Value}:∀ {P:List Str} {vs:List Value} {i:Nat} {m:Str→Option Value},P.Nodup→P[i]?=some x→vs[i]?=some v→kindOf x≠some .local →
  bindC kindOf (P.zip vs) m x=some v
 | [],_,_,_,_,h,_,_=>by simp at h
 | _ :: _,[],_,_,_,_,h,_=>by simp at h
 | p :: P,w :: vs,0,m,nd,h1,h2,hk=>by
  simp at h1 h2;subst h1;subst h2
  show bindC kindOf ((p,w) :: P.zip vs) m p=_
  unfold bindC
  rw[aAB fun v hv=>(Ap.mp nd).1 (Dn hv).1,if_neg hk]
  simp
 | p :: P,w :: vs,i+1,m,nd,h1,h2,hk=>by
  show bindC kindOf ((p,w) :: P.zip vs) m x=_
  unfold bindC
  exact aAC (i:=i) (Ap.mp nd).2 (by simpa using h1) (by simpa using h2) hk
noncomputable def start(N:List Str)(vs:List V):St:=vs.map some++Dz (N.length - vs.length) none
noncomputable def gZ(CX:CXT)(P:Program)(w:World)(K:AD)(mg:Str→Option Value)(base:Heap)(N:List Str)(qual:Str)(scope:Scope)(f:Addr)(cd:Value)(A:Around)(outer:List Env)(s:Shared)(H:Hp)(E:XK):Cx where
 prog:=P
 w:=w
 K:=K
 mg:=mg
 base:=base
 A:=A.deeper (envOfC qual scope s.heap.objs.size f cd)
 N:=N
 s₀:=s
 H₀:=H
 env:=envOfC qual scope s.heap.objs.size f cd
 outer:=outer
 stack:=envOfC qual scope s.heap.objs.size f cd :: outer
 ex:=[]
 calm:=true
 fn:=fun _=>true
 pn:=[]
 xe:=fun e s'=>wpAny (model P w) (A.deeper (envOfC qual scope s.heap.objs.size f cd)) (leaving (envOfC qual scope s.heap.objs.size f cd) e) (fun _ s''=>CX outer H s E e s'') (fun e' s''=>CX outer H s E e' s'') s'
theorem aER{sc:Scope}{n:Nat}{x:Str}(h:sc.names.lookup x=some .cell):∃ c,(cellsFrom n sc.names []).lookup x=some c:=by
 have q:=DZ sc.names n [] (.inl h)
 exact Option.isSome_iff_exists.mp q
theorem zM{CX:CXT}{P:Program}{w:World}{K:AD}{mg:Str→Option Value}{base:Heap}{N ps:List Str}{qual:Str}{scope:Scope}{f:Addr}{cd:Value}{A:Around}{outer:List Env}{s s1:Shared}{H:Hp}{E:XK}{us:List Value}{vs:List V}
 (S:FnScope N ps scope)(hd:A.handled=none)(e0:Env0 P w K mg base A outer s H)(hl:vs.length=ps.length)(r:bF vs us)
 (x:InCallC s s.heap.objs.size (bindL (envOfC qual scope s.heap.objs.size f cd).kindOf (ps.zip us) fun _=>none) (cellsFrom (s.heap.objs.size+1) scope.names []) (bindC (envOfC qual scope s.heap.objs.size f cd).kindOf (ps.zip us) fun _=>none) s1) :
  Inv (gZ CX P w K mg base N qual scope f cd A outer s H E) [] (start N vs) H s1:=by
 have hpl:ps.length≤N.length:=by have:=congrArg Bs S.pre;rw[AH] at this;omega
 obtain⟨h1,tk,rfl,hk⟩:=x.done
 have noA:∀ b:Addr,b∉(gZ CX P w K mg base N qual scope f cd A outer s H E).ex:=fun b z=>absurd (show b∈([]:List Addr) from z) (by simp)
 refine⟨⟨e0.mod,S.kind,rfl,rfl,AS _,fun y z c h1 h2=>?_,fun y hy=>?_,fun y c _ h=>?_,fun _=>hd,Around.frames_deeper e0.frames,.inr ⟨rfl,rfl⟩,fun b z=>absurd z (noA b),e0.bs,e0.bsz,fun b _ _=>noA b,fun b z=>absurd z (noA b),e0.funs,e0.frf⟩,
  rfl,e0.bare,Un.kept hk,⟨_,x.toInCall.ns,fun i y v h1 h2 h3=>?_⟩,fun y c h=>⟨_,x.cell y c h⟩,e0.hok.fresh (AS _),fun y c h=>?_,fun p hp=>absurd (show p∈([]:List (Addr×Obj)) from hp) (by simp),e0.hok.kept hk,?_⟩
 ·exact name_of_addr x.apart (Ce h1) (Ce h2)
 ·have hy:scope.names.lookup y=some .cell∨scope.names.lookup y=some .free:=hy
  rcases hy with hy | hy
  ·exact aER hy
  ·exact absurd rfl (S.nofree _ (Ce hy))
 ·exact Ej (x.above y c (Ce h))
 ·have hi:i<vs.length:=by
   unfold start at h2
   by_cases hi:i<vs.length
   ·exact hi
   ·rw[Bo (by simpa using hi)] at h2
    rw[List.getElem?_replicate] at h2
    split at h2 <;> cases h2
  have ha:vs[i]?=some v:=by
   unfold start at h2
   rw[BQ (by simpa using hi),AI] at h2
   cases e:vs[i]? with
   | none=>rw[e] at h2;cases h2
   | some a=>rw[e] at h2;cases h2;rfl
  obtain⟨u,hu,rv⟩:=r.get ha
  have hp:ps[i]?=some y:=by
   rw[← S.pre,Be (by omega)];exact h1
  have ndP:ps.Nodup:=by rw[← S.pre];exact S.nd.sublist (Ea _ _)
  refine⟨u,rv,?_⟩
  rcases S.par y (AG hp) with k | k
  ·exact .inl ⟨k,aAA ndP hp hu k⟩
  ·obtain⟨c,e⟩:=aER (n:=s.heap.objs.size+1) k
   refine .inr ⟨.inl k,c,e,?_⟩
   have q:=x.cell y c e
   rw[aAC ndP hp hu (by show scope.names.lookup y≠_;rw[k];decide)] at q
   exact q
 ·exact e0.hok.fresh (Ej (x.above y c (Ce h)))
 ·unfold start
  show _=N.length
  rw[AW,AA,List.length_replicate]
  omega
theorem aMY{CX:CXT}{P:Program}{w:World}{K:AD}{mg:Str→Option Value}{base:Heap}{k:Nat}{f:Addr}{name qual:Str}{params:DT}{body:List Stmt}{scope:Scope}{dV kV doc pm cdv ct oc:Value}{an od:Option Addr}
 {osl:Array (Option Value)}{N ps:List Str}{sp:Sp}(lk:K.lookup f=some ⟨oc,od,.func (Br name qual params body scope dV kV doc pm an cdv ct),osl⟩)(hcd:Cj K cdv qual=true)(S:FnScope N ps scope)
 (len:∀ vs H Q E,sp vs H Q E→vs.length=ps.length)
 (hbody:∀ (A:Around) (outer:List Env) (s:Shared) (H:Hp) (vs:List V) (Q:VK) (E:XK),Room k (A.deeper (envOfC qual scope s.heap.objs.size f cdv))→sp vs H Q E →
   ∃ t,PSs (gZ CX P w K mg base N qual scope f cdv A outer s H E) body t∧t { nx:=fun _ H'=>Q .non H',rt:=Q } (start N vs) H) :
  FnOk P w K mg base CX (k+1) f (Br name qual params body scope dV kV doc pm an cdv ct) ps sp:=by
 refine⟨len,fun A outer s H args us vs Q E hr e0 hb r hsp=>?_⟩
 have hl:=len _ _ _ _ hsp
 have KX:K.In s.heap:=e0.mod.kin.keeps fun b o e=>(e0.bs b o e).1
 have lim:s.heap.NoLimit:=e0.mod.nolimit.keeps fun b o e=>(e0.bs b o e).1
 have hkind:∀ y∈ps.zip us,scope.names.lookup y.1=some .local∨(scope.names.lookup y.1=some .cell∧((cellsFrom (s.heap.objs.size+1) scope.names []).lookup y.1).isSome=true):=fun⟨n,v⟩ hy=>by
  rcases S.par n (Dn hy).1 with q | q
  ·exact .inl q
  ·exact .inr ⟨q,DZ _ _ _ (.inl q)⟩
 refine codeAny_call_function hr.depth (KX _ _ lk) rfl S.co S.gen rfl (PySem.W.codeRec_of KX hcd) (hb _ _ _ _ ?_)
 refine wpAny_newFunctionEnv_cells S.kind hkind fun env he s1 x=>?_
 subst he
 refine⟨lim.keeps x.toInCall.keep,codeAny_func ?_⟩
 obtain⟨t,ht,hq⟩:=hbody A outer s H vs Q E (hr.deeper _) hsp
 have I:Inv (gZ CX P w K mg base N qual scope f cdv A outer s H E) [] (start N vs) H s1:=zM S hr.hd e0 hl r x
 refine BB (ht [] s1 (start N vs) H _ I hq) (fun fl s' hs=>?_) fun e s' hs=>hs
 have fin:∀ {σ':St} {H':Hp} {v:V} {u:Value},Inv (gZ CX P w K mg base N qual scope f cdv A outer s H E) [] σ' H' s'→bM v u→Q v H'→CE outer P w H s Q u s' :=
  fun {σ' H' v u} J rv q=>⟨v,H',J.os,J.bare,J.base,J.hok,rv,q⟩
 cases fl with
 | ret u =>
  obtain⟨v,σ',H',J,rv,q⟩:=hs
  exact fin J rv q
 | next =>
  obtain⟨σ',H',J,q⟩:=hs
  exact fin (v:=V.non) (u:=CA) J rfl q
 | brk =>
  obtain⟨_,_,_,q⟩:=hs
  exact BH q
 | cont =>
  obtain⟨_,_,_,q⟩:=hs
  exact BH q
end L2
namespace L2
open PySem PySem.Spec PyProof.Rows
section
variable{X:Cx}{x:Str}{p pos:Pos}{e:Expr}{es:List Expr}{t:TA}{id T:String}{r:List V→Hp→VK→Prop}
def tCB(r:List V→Hp→VK→Prop)(t:TA):TE:=fun σ H Q=>t σ H fun vs H1=>r vs H1 Q
theorem aS(hc:gK X (.builtin id) r)(hg:Gl X x)(hm:X.mg x=none)(hv:BN x=some (.builtin id))(ha:PA X (e :: es) t)(hn:x≠"__name__":=by decide)(hdb:(x == ("__debug__":Str))=false:=by decide)
 (he:Al (e :: es) X.env=(false,eval e X.env) :: Al es X.env:=by rfl)(hpl:(backTo pos (Al es X.env)).any (·.1)=false:=by rfl):PE X (.Call (.Name x p) (e :: es) [] pos) (tCB r t):=by
 intro pins s σ H Q I h
 refine Bt (pH I hg hm hv ?_ hn hdb)
 exact PyProof.Rows.callWith_builtin1 (thn (ha pos pins s σ H _ I h) fun us s1 ⟨vs,H1,I1,r1,q1⟩=>hc pins s1 σ H1 vs us Q I1 r1 q1) he hpl
theorem dM(hc:gK X (.type T) r)(hg:Gl X x)(hm:X.mg x=none)(hv:BN x=some (.type T))(ha:PA X (e :: es) t)(hn:x≠"__name__":=by decide)(hdb:(x == ("__debug__":Str))=false:=by decide)
 (he:Al (e :: es) X.env=(false,eval e X.env) :: Al es X.env:=by rfl)(hpl:(backTo pos (Al es X.env)).any (·.1)=false:=by rfl):PE X (.Call (.Name x p) (e :: es) [] pos) (tCB r t):=by
 intro pins s σ H Q I h
 refine Bt (pH I hg hm hv ?_ hn hdb)
 exact CL (thn (ha pos pins s σ H _ I h) fun us s1 ⟨vs,H1,I1,r1,q1⟩=>hc pins s1 σ H1 vs us Q I1 r1 q1) he hpl
end
end L2
namespace L2
open PySem PySem.Spec PyProof.Rows
section
variable{κ:Type}[DecidableEq κ]
noncomputable def fL(kvs:List (κ×V))(k:κ):Option V:=(kvs.find? fun kv=>decide (kv.1=k)).map (·.2)
noncomputable def nZ(kvs:List (κ×V))(k:κ)(v:V):List (κ×V) :=
 if (kvs.any fun kv=>decide (kv.1=k))=true then kvs.map (fun kv=>if kv.1=k then (kv.1,v) else kv) else kvs++[(k,v)]
theorem lW{p:κ×V}{r:List (κ×V)}{k:κ}(e:p.1=k):fL (p :: r) k=some p.2:=by simp[fL,Bl,e]
theorem lX{p:κ×V}{r:List (κ×V)}{k:κ}(e:¬ p.1=k):fL (p :: r) k=fL r k:=by simp[fL,Bl,e]
theorem lY(k:κ):∀ kvs:List (κ×V),(kvs.any fun kv=>decide (kv.1=k))=(fL kvs k).isSome
 | []=>rfl
 | p :: r=>by
  rw[DS]
  by_cases e:p.1=k
  ·simp only[lW e,decide_eq_true e,Bool.true_or,Option.isSome_some]
  ·rw[lX e,decide_eq_false e,EQ];exact lY k r
theorem tI(kvs:List (κ×V))(k:κ)(v:V):(nZ kvs k v).length≤kvs.length+1:=by
 unfold nZ
 split
 ·rw[AA];omega
 ·rw[AW,Af,Dp];omega
theorem aLP{kvs:List (κ×V)}{k:κ}(v:V)(h:fL kvs k=none):nZ kvs k v=kvs++[(k,v)]:=by
 unfold nZ
 rw[lY,h]
 exact if_neg (by decide)
theorem oF.isSome_eq{o:Option V}{u:Option Value}(r:oF o u):o.isSome=u.isSome:=by
 cases o with
 | none=>cases u with
  | none=>rfl
  | some _=>exact (show False from r).elim
 | some _=>cases u with
  | none=>exact (show False from r).elim
  | some _=>rfl
theorem KV.val{kvs:List (κ×V)}{vs:List (κ×Value)}(r:KV kvs vs)(k:κ):oF (fL kvs k) (valueAt vs k):=by
 unfold KV at r
 induction r with
 | nil=>exact CN
 | @cons p q ps qs h t ih =>
  obtain⟨h1,h2⟩:=h
  by_cases e:p.1=k
  ·have e':q.1=k:=h1.symm.trans e
   have b:valueAt (q :: qs) k=some q.2:=by simp[valueAt,Bl,e']
   rw[lW e,b];exact h2
  ·have e':¬ q.1=k:=fun z=>e (h1.trans z)
   have b:valueAt (q :: qs) k=valueAt qs k:=by simp[valueAt,Bl,e']
   rw[lX e,b];exact ih
theorem KV.any{kvs:List (κ×V)}{vs:List (κ×Value)}(r:KV kvs vs)(k:κ):(kvs.any fun kv=>decide (kv.1=k))=vs.any fun kv=>decide (kv.1=k):=by
 unfold KV at r
 induction r with
 | nil=>rfl
 | cons h t ih=>rw[DS,DS,ih,h.1]
theorem KV.repl{kvs:List (κ×V)}{vs:List (κ×Value)}(r:KV kvs vs)(k:κ){y:V}{u:Value}(ry:bM y u) :
  KV (kvs.map fun kv=>if kv.1=k then (kv.1,y) else kv) (vs.map fun kv=>if kv.1=k then (kv.1,u) else kv):=by
 unfold KV at r ⊢
 induction r with
 | nil=>exact .nil
 | @cons p q ps qs h t ih =>
  rw[AX,AX]
  refine .cons ?_ ih
  obtain⟨h1,h2⟩:=h
  by_cases e:p.1=k
  ·rw[if_pos e,if_pos (h1.symm.trans e)];exact⟨h1,ry⟩
  ·rw[if_neg e,if_neg (fun z=>e (h1.trans z))];exact⟨h1,h2⟩
theorem KV.put{kvs:List (κ×V)}{vs:List (κ×Value)}(r:KV kvs vs)(k:κ){y:V}{u:Value}(ry:bM y u):KV (nZ kvs k y) (stored vs k u):=by
 unfold nZ stored
 rw[r.any k]
 by_cases e:(vs.any fun kv=>decide (kv.1=k))=true
 ·rw[if_pos e,if_pos e];exact r.repl k ry
 ·rw[if_neg e,if_neg e];exact Paired.snoc r ⟨rfl,ry⟩
theorem KV.keys{kvs:List (κ×V)}{vs:List (κ×Value)}(r:KV kvs vs):kvs.map (·.1)=vs.map (·.1):=by
 unfold KV at r
 induction r with
 | nil=>rfl
 | cons h t ih=>rw[AX,AX,ih,h.1]
theorem KV.length{kvs:List (κ×V)}{vs:List (κ×Value)}(r:KV kvs vs):kvs.length=vs.length:=DO r
end
theorem aEC{P:Program}{w:World}{k:Key}{u:Value}(r:bM (kV k) u):(aX P w).is k u=true:=by
 cases k with
 | inl i=>obtain⟨t,e⟩:=(show ∃ t,u=DX i t from r);subst e;exact aDX P w i t
 | inr x=>obtain⟨t,e⟩:=(show ∃ t,u=Value.str x t from r);subst e;exact aDW P w x t
theorem zL{P:Program}{w:World}:∀ {ks:List Key} {us:List Value},bF (ks.map kV) us→ItemsAre (aX P w) ks us
 | [],_,r=>by rw[CO] at r;cases r;exact .nil
 | k :: ks,_,r=>by
  rw[AX] at r
  cases r with
  | cons h t=>exact .cons (aEC h) (zL t)
abbrev KT (H:Hp):List (List Key×V)→List (List Key×Addr×Value)→Prop:=Paired fun p q=>p.1=q.1∧H q.2.1=some (.tup (p.1.map kV))∧bM p.2 q.2.2
theorem KT.val{H:Hp}{kvs:List (List Key×V)}{xs:List (List Key×Addr×Value)}(r:KT H kvs xs)(k:List Key):oF (fL kvs k) ((atKey xs k).map (·.2)):=by
 induction r with
 | nil=>exact CN
 | @cons p q ps qs h t ih =>
  obtain⟨h1,_,h2⟩:=h
  by_cases e:p.1=k
  ·have e':q.1=k:=h1.symm.trans e
   have b:atKey (q :: qs) k=some q.2:=by simp[atKey,Bl,e']
   rw[lW e,b];exact h2
  ·have e':¬ q.1=k:=fun z=>e (h1.trans z)
   have b:atKey (q :: qs) k=atKey qs k:=by simp[atKey,Bl,e']
   rw[lX e,b];exact ih
theorem KT.repl{H:Hp}{kvs:List (List Key×V)}{xs:List (List Key×Addr×Value)}(r:KT H kvs xs)(k:List Key){y:V}{u:Value}(ry:bM y u) :
  KT H (kvs.map fun kv=>if kv.1=k then (kv.1,y) else kv) (xs.map (putAt k u)):=by
 induction r with
 | nil=>exact .nil
 | @cons p q ps qs h t ih =>
  rw[AX,AX]
  refine .cons ?_ ih
  obtain⟨h1,h2,h3⟩:=h
  unfold putAt
  by_cases e:p.1=k
  ·rw[if_pos e,if_pos (h1.symm.trans e)];exact⟨h1,h2,ry⟩
  ·rw[if_neg e,if_neg (fun z=>e (h1.trans z))];exact⟨h1,h2,h3⟩
theorem KT.put{H:Hp}{kvs:List (List Key×V)}{xs:List (List Key×Addr×Value)}(r:KT H kvs xs)(k:List Key){b:Addr}{y:V}{u:Value}(hb:H b=some (.tup (k.map kV)))(ry:bM y u) :
  KT H (nZ kvs k y) (storedH xs k b u):=by
 have e:(kvs.any fun kv=>decide (kv.1=k))=(atKey xs k).isSome:=by
  rw[lY,(r.val k).isSome_eq,ER]
 unfold nZ storedH
 rw[e]
 by_cases q:(atKey xs k).isSome=true
 ·rw[if_pos q,if_pos q];exact r.repl k ry
 ·rw[if_neg q,if_neg q];exact Paired.snoc r ⟨rfl,hb,ry⟩
theorem KT.keeps{H H':Hp}{kvs:List (List Key×V)}{xs:List (List Key×Addr×Value)}(r:KT H kvs xs)(ht:∀ b ys,H b=some (.tup ys)→H' b=some (.tup ys)):KT H' kvs xs :=
 Paired.mapP r fun _ _ z=>⟨z.1,ht _ _ z.2.1,z.2.2⟩
section
variable{P:Program}{w:World}{H:Hp}{h:Heap}{a:Addr}
theorem aQT{u:HO}(ok:HOk P w H h)(e:Rd H a u):cE P w H h a u:=e.ok ok
theorem aEI{kvs:List (Key×V)}(ok:HOk P w H h)(e:Rd H a (.dK kvs)):kvs.length≤Ak∧(a == Cs)=false∧∃ vs,KV kvs vs∧h.DictOf (aX P w) a vs :=
 show cE P w H h a (.dK kvs) from aQT ok e
theorem aVK{kvs:List (Key×V)}(ok:HOk P w H h)(e:H a=some (.dK kvs)):kvs.length≤Ak∧(a == Cs)=false∧∃ vs,KV kvs vs∧h.DictOf (aX P w) a vs:=aEI ok (.inl e)
theorem wJ{ks:List Key}(ok:HOk P w H h)(e:H a=some (.tup (ks.map kV))):(tupleKind (aX P w)).is h ks a:=by
 obtain⟨_,its,r,o,h1,h2,n,h3,_⟩:=(show cE P w H h a (.tup (ks.map kV)) from ok a _ e)
 exact⟨o,its.toArray,n,h1,h2,h3,by simpa using zL r⟩
theorem aEG{kvs:List (List Key×V)}(ok:HOk P w H h)(e:Rd H a (.dT kvs)):kvs.length≤Ak∧(a == Cs)=false ∧
  ∃ xs,KT H kvs xs∧h.DictOfH (tupleKind (aX P w)) a xs:=by
 obtain⟨z,y,xs,r,o,es,ep,h1,h2,h3,h4,h5⟩:=(show cE P w H h a (.dT kvs) from aQT ok e)
 refine⟨z,y,xs,r,o,es,ep,h1,h2,h3,h4,fun x hx=>?_,h5⟩
 have all:∀ {l:List (List Key×V)} {m:List (List Key×Addr×Value)},KT H l m→∀ x∈m,(tupleKind (aX P w)).is h x.1 x.2.1:=by
  intro l m q
  induction q with
  | nil=>intro x hx;exact nomatch hx
  | @cons p q ps qs hq t ih =>
   intro x hx
   rcases AZ.mp hx with e | hx
   ·subst e
    exact wJ ok (by rw[← hq.1];exact hq.2.1)
   ·exact ih x hx
 exact all r x hx
theorem aVJ{kvs:List (List Key×V)}(ok:HOk P w H h)(e:H a=some (.dT kvs)):kvs.length≤Ak∧(a == Cs)=false ∧
  ∃ xs,KT H kvs xs∧h.DictOfH (tupleKind (aX P w)) a xs:=aEG ok (.inl e)
end
def uF(H:Hp)(a:Addr)(y:V)(r:Option V):Prop :=
 (∃ kvs k,Rd H a (.dK kvs)∧y=kV k∧r=fL kvs k)∨∃ kvs k b,Rd H a (.dT kvs)∧y=.ref b∧H b=some (.tup (k.map kV))∧r=fL kvs k
def aTT(H:Hp)(a:Addr)(y v:V)(H':Hp):Prop :=
 (∃ kvs k,H a=some (.dK kvs)∧y=kV k∧kvs.length<Ak∧H'=upd H a (.dK (nZ kvs k v))) ∨
 ∃ kvs k b,H a=some (.dT kvs)∧y=.ref b∧H b=some (.tup (k.map kV))∧kvs.length<Ak∧H'=upd H a (.dT (nZ kvs k v))
theorem uF.k{H:Hp}{a:Addr}{kvs:List (Key×V)}{k:Key}(e:H a=some (.dK kvs)):uF H a (kV k) (fL kvs k):=.inl ⟨kvs,k,.inl e,rfl,rfl⟩
section
variable{X:Cx}{pins:List (Addr×Obj)}{σ:St}{H:Hp}{s:Shared}{a:Addr}{y v:V}{u r:Value}{o:Option V}{A:Around}{E:Value→Shared→Prop}
theorem Inv.big(I:Inv X pins σ H s):Cs<s.heap.objs.size:=by
 have h:Bv<s.heap.objs.size:=(I.mod.glob.keeps I.bk).lt
 exact DK (by decide) h
theorem zR{Q:Value→Shared→Prop}(hu:A.units+1<cLine)(I:Inv X pins σ H s)(g:uF H a y (some v))(ry:bM y u)(h:∀ w' s',Inv X pins σ H s'→bM v w'→Q w' s') :
  wpAny (model X.prog X.w) A (getItem (.ref a) u) Q E s:=by
 rcases g with ⟨kvs,k,e,ey,l⟩ | ⟨kvs,k,b,e,ey,eb,l⟩
 ·subst ey
  obtain⟨z,hd,vs,rel,dd⟩:=aEI I.hok e
  obtain⟨w',hw,rw'⟩:=oF.some_of (v:=v) (o:=valueAt vs k) (by rw[l];exact rel.val k)
  exact wpAny_getItem_of (aEC ry) dd.mapOf hw (h w' _ (I.tok _) rw')
 ·subst ey
  cases (show u=Ao b from ry)
  obtain⟨z,hd,xs,rel,dd⟩:=aEG I.hok e
  obtain⟨w',hw,rw'⟩:=oF.some_of (v:=v) (o:=(atKey xs k).map (·.2)) (by rw[l];exact rel.val k)
  obtain⟨p,hp,hp2⟩:=AY.mp hw
  refine wpAny_getItem_heap (DV hu) (wJ I.hok eb) dd hp ?_
  rw[hp2]
  exact h w' _ (I.tok _) rw'
theorem aWN{Q:Value→Shared→Prop}(hu:A.units+1<cLine)(I:Inv X pins σ H s)(g:uF H a y o)(ry:bM y u)(h:∀ s',Inv X pins σ H s'→Q (.bool o.isSome) s') :
  wpAny (model X.prog X.w) A (BV .In u (.ref a)) Q E s:=by
 rcases g with ⟨kvs,k,e,ey,l⟩ | ⟨kvs,k,b,e,ey,eb,l⟩
 ·subst ey
  obtain⟨z,hd,vs,rel,dd⟩:=aEI I.hok e
  refine wpAny_in_of (aEC ry) hd dd.mapOf ?_
  rw[← (rel.val k).isSome_eq,← l]
  exact h _ (I.tok _)
 ·subst ey
  cases (show u=Ao b from ry)
  obtain⟨z,hd,xs,rel,dd⟩:=aEG I.hok e
  refine wpAny_in_heap (DV hu) (wJ I.hok eb) hd dd ?_
  have q:=(rel.val k).isSome_eq
  rw[ER] at q
  rw[← q,← l]
  exact h _ (I.tok _)
theorem aQA{Q:Value→Shared→Prop}(hu:A.units+1<cLine)(I:Inv X pins σ H s)(g:uF H a y o)(ry:bM y u)(h:∀ s',Inv X pins σ H s'→Q (.bool (!o.isSome)) s') :
  wpAny (model X.prog X.w) A (BV .NotIn u (.ref a)) Q E s:=by
 rcases g with ⟨kvs,k,e,ey,l⟩ | ⟨kvs,k,b,e,ey,eb,l⟩
 ·subst ey
  obtain⟨z,hd,vs,rel,dd⟩:=aEI I.hok e
  refine wpAny_notIn_of (aEC ry) hd dd.mapOf ?_
  rw[← (rel.val k).isSome_eq,← l]
  exact h _ (I.tok _)
 ·subst ey
  cases (show u=Ao b from ry)
  obtain⟨z,hd,xs,rel,dd⟩:=aEG I.hok e
  refine wpAny_notIn_heap (DV hu) (wJ I.hok eb) hd dd ?_
  have q:=(rel.val k).isSome_eq
  rw[ER] at q
  rw[← q,← l]
  exact h _ (I.tok _)
theorem aIN{h':Heap}{t':Nat}{ob:HO}(I:Inv X pins σ H s)(mu:Mut (H a))(hs:Ed a s.heap h')(he:∃ q,h'.get? a=some q)(new:cE X.prog X.w (upd H a ob) h' a ob) :
  Inv X pins σ (upd H a ob) { s with heap:=h',toks:=t' } :=
 I.write (x:=a) (e:=a) mu (.inl rfl) (fun b q hb z=>(hs.2 b hb).trans z) he new
theorem aTI{P:Program}{w:World}{H':Hp}{h':Heap}{kvs:List (Key×V)}{vs:List (Key×Value)}(z:kvs.length≤Ak)(hd:(a == Cs)=false)(rel:KV kvs vs)(dd:h'.DictOf (aX P w) a vs) :
  cE P w H' h' a (.dK kvs):=⟨z,hd,vs,rel,dd⟩
theorem zQ{H':Hp}{Q:Unit→Shared→Prop}(hu:A.units+1<cLine)(I:Inv X pins σ H s)(g:aTT H a y v H')(ry:bM y u)(rv:bM v r)(h:∀ s',Inv X pins σ H' s'→Q () s') :
  wpAny (model X.prog X.w) A (setItem (.ref a) u r) Q E s:=by
 rcases g with ⟨kvs,k,e,ey,l,eH⟩ | ⟨kvs,k,b,e,ey,eb,l,eH⟩
 ·subst ey eH
  obtain⟨z,hd,vs,rel,dd⟩:=aVK I.hok e
  have hz:vs.length≤Ak:=by rw[← rel.length];exact z
  have hl:(nZ kvs k v).length≤Ak:=by have:=tI kvs k v;omega
  refine wpAny_setItem_pairs (hsz:=hz) (aEC ry) dd fun h' dd' hs=>h _ ?_
  have he:∃ q,h'.get? a=some q:=let ⟨q,_,_,hq,_⟩:=dd';⟨q,hq⟩
  exact aIN I (by rw[e];exact CN) hs he (aTI hl hd (rel.put k rv) dd')
 ·subst ey eH
  cases (show u=Ao b from ry)
  obtain⟨z,hd,xs,rel,dd⟩:=aVJ I.hok e
  have hz:xs.length≤Ak:=by rw[← DO rel];exact z
  have hl:(nZ kvs k v).length≤Ak:=by have:=tI kvs k v;omega
  refine wpAny_setItem_heap (hsz:=hz) (DV hu) (wJ I.hok eb) dd fun h' dd' hs=>h _ ?_
  obtain⟨q,es,ep,hq,h2,h3,h4,_,h5⟩:=dd'
  refine aIN I (by rw[e];exact CN) hs ⟨q,hq⟩ ⟨hl,hd,_,(rel.put k eb rv).keeps fun c ys ec=>?_,q,es,ep,hq,h2,h3,h4,h5⟩
  rw[aI (zC ec e (fun z=>nomatch z))]
  exact ec
end
section
variable{X:Cx}{pins:List (Addr×Obj)}{σ:St}{H:Hp}{s:Shared}{a:Addr}{kvs:List (Key×V)}{k:Key}{u:Value}{A:Around}{E:Value→Shared→Prop}
end
def aVN(i:Expr):Prop:=∀ ov iv,Ex i false ov iv=operate [ov,iv] (getItem ov iv)
theorem aOD{prog:Program}{w:World}{A:Around}{E:Value→Shared→Prop}{s:Shared}{env:Env}{value slice:Expr}{pos:Pos}{T id:String}{Q:Value→Shared→Prop}
 (hl:typeLookup (.type T) "__getitem__"=pure (some (.builtin id)))(hs:aVN slice)
 (h:wpAny (model prog w) A (eval value env) (fun o s₁=>wpAny (model prog w) A (eval slice env) (fun i s₂=>s₂.TypeIs o T∧wpAny (model prog w) A (getItem o i) Q E s₂) E s₁) E s) :
  wpAny (model prog w) A (eval (.Subscript value slice pos) env) Q E s:=by
 refine Subscript_ (BB h (fun o s₁ h₁=>BB h₁ (fun i s₂ h₂=>?_) fun _ _ x=>x) fun _ _ x=>x)
 obtain⟨hT,h₂⟩:=h₂
 unfold subscriptTail
 refine AK ?_
 rw[getitemInPython_of_ne hT.not_modules]
 refine AK (Ez hT hl ?_)
 have fin:wpAny (model prog w) A (Ex slice false o i) (fun r s₃=>wpAny (model prog w) A (letTemporaryGo value o r >>= fun _=>pure r) Q E s₃) E s₂:=by
  rw[hs o i]
  exact wpAny_operating (BB h₂ (fun r s₃ h₃=>AK (wpAny_letTemporaryGo (Aa h₃))) fun _ _ x=>x)
 first
  | exact Aa (AK fin)
  | exact AK (Aa (AK fin))
  | exact AK fin
theorem aEJ{X:Cx}{pins:List (Addr×Obj)}{σ:St}{H:Hp}{s:Shared}{a:Addr}{y:V}{o:Option V}(I:Inv X pins σ H s)(g:uF H a y o):s.TypeIs (.ref a) "dict":=by
 rcases g with ⟨kvs,k,e,_,_⟩ | ⟨kvs,k,b,e,_,_,_⟩
 ·obtain⟨_,_,vs,_,dd⟩:=aEI I.hok e
  exact dd.typeIs
 ·obtain⟨_,_,xs,_,dd⟩:=aEG I.hok e
  exact dd.typeIs
def aUE(td ty:TE):TE:=fun σ H Q=>td σ H fun x H1=>ty σ H1 fun y H2=>∃ a v,x=.ref a∧uF H2 a y (some v)∧Q v H2
def aVX(ty td:TE):TE:=fun σ H Q=>ty σ H fun y H1=>td σ H1 fun x H2=>∃ a o,x=.ref a∧uF H2 a y o∧Q (.bl o.isSome) H2
def aOC(ty td:TE):TE:=fun σ H Q=>ty σ H fun y H1=>td σ H1 fun x H2=>∃ a o,x=.ref a∧uF H2 a y o∧Q (.bl (!o.isSome)) H2
def aUH(td ty tv:TE):TS:=fun D σ H=>tv σ H fun v H1=>td σ H1 fun x H2=>ty σ H2 fun y H3=>∃ a H4,x=.ref a∧aTT H3 a y v H4∧D.nx σ H4
def aUI(td ty tv:TE)(rd:V→V→Hp→VK→Prop):TS:=fun D σ H=>td σ H fun x H1=>ty σ H1 fun y H2=>∃ a v,x=.ref a∧uF H2 a y (some v) ∧
 tv σ H2 fun y2 H3=>rd v y2 H3 fun z H4=>∃ H5,aTT H4 a y z H5∧D.nx σ H5
section
variable{X:Cx}{o i e value:Expr}{pos pos' tpos:Pos}{td ty tv:TE}
theorem jI(hu:X.A.units+1<cLine)(ho:PE X o td)(hi:PE X i ty)(hs:aVN i):PE X (.Subscript o i pos) (aUE td ty):=by
 intro pins s σ H Q I h
 refine aOD PySem.F.slot_dict_getitem.lookup hs (thn (ho pins s σ H _ I h) fun u s1 ⟨x,H1,I1,rx,q1⟩=>thn (hi pins s1 σ H1 _ I1 q1) fun iv s2 ⟨y,H2,I2,ry,a,v,ex,g,q2⟩=>?_)
 subst ex
 obtain rfl:u=Ao a:=rx
 exact⟨aEJ I2 g,zR hu I2 g ry fun w' s3 I3 rw'=>⟨v,H2,I3,rw',q2⟩⟩
theorem aLZ(hu:X.A.units+1<cLine)(hi:PE X i ty)(ho:PE X o td):PC X .In i o (aVX ty td):=by
 intro pins s σ H Q I h
 refine thn (hi pins s σ H _ I h) fun iv s1 ⟨y,H1,I1,ry,q1⟩=>thn (ho pins s1 σ H1 _ I1 q1) fun u s2 ⟨x,H2,I2,rx,a,ov,ex,g,q2⟩=>?_
 subst ex
 obtain rfl:u=Ao a:=rx
 exact aWN hu I2 g ry fun s3 I3=>⟨.bl ov.isSome,H2,I3,rfl,q2⟩
theorem yW(hu:X.A.units+1<cLine)(hi:PE X i ty)(ho:PE X o td):PC X .NotIn i o (aOC ty td):=by
 intro pins s σ H Q I h
 refine thn (hi pins s σ H _ I h) fun iv s1 ⟨y,H1,I1,ry,q1⟩=>thn (ho pins s1 σ H1 _ I1 q1) fun u s2 ⟨x,H2,I2,rx,a,ov,ex,g,q2⟩=>?_
 subst ex
 obtain rfl:u=Ao a:=rx
 exact aQA hu I2 g ry fun s3 I3=>⟨.bl (!ov.isSome),H2,I3,rfl,q2⟩
theorem aOW(hu:X.A.units+1<cLine)(ho:PE X o td)(hi:PE X i ty)(hv:PE X value tv)(hs:EX value (some (.Subscript o i pos')) pos.line X.env=pure false) :
  PS X (.Assign [.Subscript o i pos'] value pos) (aUH td ty tv):=by
 intro pins s σ H D I h
 refine wpAny_Assign_Subscript (thn (hv pins s σ H _ I h) fun r s1 ⟨v,H1,I1,rv,q1⟩=>thn (ho pins s1 σ H1 _ I1 q1) fun u s2 ⟨x,H2,I2,rx,q2⟩=>thn (hi pins s2 σ H2 _ I2 q2) fun iv s3 ⟨y,H3,I3,ry,a,H4,ex,g,q3⟩=>?_) hs
 subst ex
 obtain rfl:u=Ao a:=rx
 exact zQ hu I3 g ry rv fun s4 I4=>⟨σ,H4,I4,q3⟩
theorem aOX{op:Operator}{rd:V→V→Hp→VK→Prop}(hu:X.A.units+1<cLine)(ho:PE X o td)(hi:PE X i ty)(hv:PE X value tv)(hop:aVO X op rd)
 (ha:∀ ov iv new,augStore i ov iv new=(do holding [new,ov,iv] (setItem ov iv new);release [new,ov,iv] [];pure .next)):PS X (.AugAssign (.Subscript o i tpos) op value pos) (aUI td ty tv rd):=by
 intro pins s σ H D I h
 refine wpAny_AugAssign_SubscriptAny (thn (ho pins s σ H _ I h) fun u s1 ⟨x,H1,I1,rx,q1⟩=>thn (hi pins s1 σ H1 _ I1 q1) fun iv s2 ⟨y,H2,I2,ry,a,v,ex,g,q2⟩=>?_) ha
 subst ex
 obtain rfl:u=Ao a:=rx
 refine zR hu I2 g ry fun w' s3 I3 rw'=>thn (hv pins s3 σ H2 _ I3 q2) fun w2 s4 ⟨y2,H3,I4,ry2,q3⟩=>thn (hop pins s4 σ H3 v y2 w' w2 _ I4 rw' ry2 q3) fun w3 s5 ⟨z,H4,I5,rz,H5,g5,q4⟩=>?_
 exact zQ hu I5 g5 ry rz fun s6 I6=>⟨σ,H5,I6,q4⟩
end
section
variable{X:Cx}{pos:Pos}
end
def aRF:List (TE×TE)→St→Hp→(List (V×V)→Hp→Prop)→Prop
 | [],_,H,Q=>Q [] H
 | (tk,tv) :: r,σ,H,Q=>tk σ H fun x H1=>tv σ H1 fun y H2=>aRF r σ H2 fun ps H3=>Q ((x,y) :: ps) H3
abbrev VV:List (V×V)→List (Value×Value)→Prop:=Paired fun p q=>bM p.1 q.1∧bM p.2 q.2
structure M1 (X:Cx) (o:Expr) (m:Str) (apos:Pos) (e:Expr) (cpos:Pos):Prop where
 base:DG o m X.env (eval o X.env)=eval o X.env
 few:((backTo cpos (Al [e] X.env)).all (fun x=>!x.1) && (DJ cpos (CS [] X.env)).all (fun x=>x.1.isSome)
  && decide (([e]:List Expr).length+([]:List Keyword).length+(if ([]:List Keyword).isEmpty then 0 else 1)<30))=true
 line:(apos.endLine == cpos.line)=true
 trees:backTo cpos (Al [e] X.env)=[(false,eval e X.env)]
structure M2 (X:Cx) (o:Expr) (m:Str) (apos:Pos) (e f:Expr) (cpos:Pos):Prop where
 base:DG o m X.env (eval o X.env)=eval o X.env
 few:((backTo cpos (Al [e,f] X.env)).all (fun x=>!x.1) && (DJ cpos (CS [] X.env)).all (fun x=>x.1.isSome)
  && decide (([e,f]:List Expr).length+([]:List Keyword).length+(if ([]:List Keyword).isEmpty then 0 else 1)<30))=true
 line:(apos.endLine == cpos.line)=true
 trees:backTo cpos (Al [e,f] X.env)=[(false,eval e X.env),(false,eval f X.env)]
section
variable{X:Cx}{pins:List (Addr×Obj)}{σ:St}{H:Hp}{s:Shared}{a:Addr}{y d:V}{u r:Value}{o:Option V}{A:Around}{E:Value→Shared→Prop}
end
section
variable{X:Cx}{o e f:Expr}{apos cpos:Pos}{td ty tx:TE}
end
section
variable{X:Cx}{pins:List (Addr×Obj)}{σ:St}{H:Hp}{s:Shared}{a:Addr}{kvs:List (Key×V)}{A:Around}{E:Value→Shared→Prop}
end
section
variable{X:Cx}{pins:List (Addr×Obj)}{σ:St}{H:Hp}{s:Shared}{a:Addr}{y:V}{u:Value}{A:Around}{E:Value→Shared→Prop}
end
end L2
namespace HT
open PySem PyProof.Rows
noncomputable def lexLt:List Int→List Int→Bool
 | [],[]=>false
 | [],_ :: _=>true
 | _ :: _,[]=>false
 | x :: xs,y :: ys=>if x=y then lexLt xs ys else decide (x<y)
theorem lexLt_cons(x y:Int)(xs ys:List Int):lexLt (x :: xs) (y :: ys)=if x=y then lexLt xs ys else decide (x<y):=rfl
theorem xR:lexLt [] []=false:=rfl
theorem wF(y:Int)(ys:List Int):lexLt [] (y :: ys)=true:=rfl
theorem wG(x:Int)(xs:List Int):lexLt (x :: xs) []=false:=rfl
theorem aNI(A:Around)(s:Shared)(a:Int)(t:Tok)(c:Int)(u:Tok):∃ e,BW A s (.int a t) (.int c u) e∧(e=true↔a=c) :=
 ⟨(a == c),BW.int_int a t c u,by simp⟩
theorem aLM(A:Around)(s:Shared)(a:Int)(t:Tok)(c:Int)(u:Tok)(prog:Program)(w:World)(E:Value→Shared→Prop)(Q:Value→Shared→Prop)(h:Q (.bool (decide (a<c))) s) :
  wpAny (model prog w) A (richCompare .Lt (.int a t) (.int c u)) Q E s :=
 (PyProof.Rows.lt_int h:wpAny (model prog w) A (BV .Lt (.int a t) (.int c u)) Q E s)
section
open PySem.SeqAt
open PySem.AutoSeq1 (wpAny_loadPart')
open PySem.MeetsSeq PySem.MeetsSeq2 PySem.MeetsSeq3
end
section
variable{prog:Program}{w:World}{A:Around}{E:Value→Shared→Prop}{s:Shared}
noncomputable def sIx(n d:Nat):Option Int→Nat
 | none=>d
 | some v=>if v<0 then (v+(n:Int)).toNat else min v.toNat n
theorem sIx_none(n d:Nat):sIx n d none=d:=rfl
theorem sIx_nat(n d k:Nat):sIx n d (some (k:Int))=min k n:=by
 show (if (k:Int)<0 then ((k:Int)+(n:Int)).toNat else min (k:Int).toNat n)=min k n
 rw[if_neg (by omega),Cu]
end
end HT
namespace L2
open PySem PySem.Spec PyProof.Rows
abbrev TO:=St→Hp→(Option Int→Hp→Prop)→Prop
def PO(X:Cx)(e:Option Expr)(t:TO):Prop :=
 ∀ (pins:List (Addr×Obj)) (s:Shared) (σ:St) (H:Hp) (Q:Option Int→Hp→Prop),Inv X pins σ H s→t σ H Q →
  wpAny (model X.prog X.w) X.A (evalPart e X.env) (fun u s'=>∃ o H',Inv X pins σ H' s'∧IsPart u o∧Q o H') X.xe s
def aOB:TO:=fun _ H Q=>Q none H
def aUA(t:TE):TO:=fun σ H Q=>t σ H fun x H1=>∃ i,x=.int i∧Q (some i) H1
theorem wN{ns:List Int}:∀ {us:List Value},bF (ns.map V.int) us→IntsAre us ns:=by
 induction ns with
 | nil=>intro us r;rw[CO] at r;cases r;exact .nil
 | cons n ns ih =>
  intro us r
  rw[AX] at r
  cases r with
  | cons r1 r2 =>
   obtain⟨t,e⟩:=r1
   subst e
   exact .cons n t (ih r2)
section
variable{X:Cx}{e:Expr}{te:TE}{lo hi:Option Expr}{tl th:TO}{pos p2:Pos}
theorem eV:PO X none aOB:=by
 intro pins s σ H Q I h
 rw[evalPart_none]
 exact Aa ⟨none,H,I,.none,h⟩
theorem eU(h:PE X e te):PO X (some e) (aUA te):=by
 intro pins s σ H Q I hw
 rw[evalPart_some]
 refine thn (h pins s σ H _ I hw) fun u s1 ⟨x,H1,I1,r1,q1⟩=>?_
 obtain⟨i,rfl,q⟩:=q1
 obtain⟨t,rfl⟩:=r1
 exact⟨some i,H1,I1,.int i t,q⟩
def SlR(X:Cx)(r:V→Option Int→Option Int→Hp→VK→Prop):Prop :=
 ∀ (pins:List (Addr×Obj)) (s:Shared) (σ:St) (H:Hp) (x:V) (v vl vu:Value) (lo hi:Option Int) (sl:Addr) (Q:VK),Inv X pins σ H s→bM x v→s.heap.IsSliceOf sl vl vu .none→IsPart vl lo→IsPart vu hi→r x lo hi H Q →
  ∃ T id,typeLookup (.type T) "__getitem__"=pure (some (.builtin id))∧s.TypeIs v T∧wpAny (model X.prog X.w) X.A (getItem v (.ref sl)) (EP X pins σ Q) X.xe s
def tSl(r:V→Option Int→Option Int→Hp→VK→Prop)(te:TE)(tl th:TO):TE:=fun σ H Q=>te σ H fun x H1=>tl σ H1 fun l H2=>th σ H2 fun u H3=>r x l u H3 Q
theorem dR{r:V→Option Int→Option Int→Hp→VK→Prop}(hr:SlR X r)(he:PE X e te)(hl:PO X lo tl)(hu:PO X hi th):PE X (.Subscript e (.Slice lo hi none p2) pos) (tSl r te tl th):=by
 intro pins s σ H Q I h
 refine Subscript_ (thn (he pins s σ H _ I h) fun v s1 ⟨x,H1,I1,r1,q1⟩=>?_)
 refine wpAny_Slice (thn (hl pins s1 σ H1 _ I1 q1) fun vl s2 ⟨l,H2,I2,pl,q2⟩=>thn (hu pins s2 σ H2 _ I2 q2) fun vu s3 ⟨u,H3,I3,pu,q3⟩=>?_)
 rw[evalPart_none]
 refine Aa ?_
 have I4:Inv X pins σ H3 { s3 with heap:=s3.heap.push { cls:=.type "slice",data:=.fields #[vl,vu,.none] } }:=I3.kept (t':=s3.toks) fun b ob q=>AJ _ q
 obtain⟨T,id,hT,ht,hg⟩:=hr pins { s3 with heap:=s3.heap.push { cls:=.type "slice",data:=.fields #[vl,vu,.none] } } σ H3 x v vl vu l u s3.heap.objs.size Q I4 r1 (Heap.IsSliceOf.new ..) pl pu q3
 show wpAny (model X.prog X.w) X.A (subscriptTail e (.Slice lo hi none p2) v (.ref s3.heap.objs.size)) (EP X pins σ Q) X.xe { s3 with heap:=s3.heap.push { cls:=.type "slice",data:=.fields #[vl,vu,.none] } }
 exact tail_any (ops:=[.ref s3.heap.objs.size,v]) ht hT hg (by with_unfolding_all rfl)
noncomputable def lR(xs:List V)(lo hi:Option Int):List V:=(xs.drop (HT.sIx xs.length 0 lo)).take (HT.sIx xs.length xs.length hi - HT.sIx xs.length 0 lo)
theorem aEK(xs:List V)(lo hi:Option Int):(lR xs lo hi).length≤xs.length:=by
 unfold lR
 rw[AH,Bd]
 omega
end
end L2
namespace L2
open PySem PySem.Spec PyProof.Rows
noncomputable def ixN(n:Nat)(i:Int):Option Nat:=if 0≤i then (if i<n then some i.toNat else none) else if -(n:Int)≤i then some (i+n).toNat else none
noncomputable def atI{α:Type}(xs:List α)(i:Int):Option α:=(ixN xs.length i).bind fun j=>xs[j]?
theorem aPR{n:Nat}{i:Int}{j:Nat}(h:ixN n i=some j):seqIndex? i n=some j∧j<n∧-(n:Int)≤i∧i<n:=by
 unfold ixN at h
 by_cases h0:0≤i
 ·rw[if_pos h0] at h
  by_cases h1:i<n
  ·rw[if_pos h1] at h
   have e:i.toNat=j:=BA h
   exact⟨by rw[seqIndex_of h0 h1,e],by omega,by omega,h1⟩
  ·rw[if_neg h1] at h;cases h
 ·rw[if_neg h0] at h
  by_cases h1:-(n:Int)≤i
  ·rw[if_pos h1] at h
   have e:(i+n).toNat=j:=BA h
   exact⟨by rw[seqIndex_neg (by omega) h1,e],by omega,h1,by omega⟩
  ·rw[if_neg h1] at h;cases h
theorem aCG{α:Type}{xs:List α}{i:Int}{v:α}(h:atI xs i=some v):∃ j,seqIndex? i xs.length=some j∧xs[j]?=some v∧j<xs.length∧-(xs.length:Int)≤i∧i<xs.length:=by
 unfold atI at h
 cases e:ixN xs.length i with
 | none=>rw[e] at h;cases h
 | some j =>
  rw[e] at h
  obtain⟨h1,h2,h3,h4⟩:=aPR e
  exact⟨j,h1,h,h2,h3,h4⟩
theorem aO{α:Type}{xs:List α}{j:Nat}{v:α}(h:xs[j]?=some v):atI xs (j:Int)=some v:=by
 have hj:j<xs.length:=(AB.mp h).1
 have e:ixN xs.length (j:Int)=some j:=by
  unfold ixN
  rw[if_pos (by omega),if_pos (by omega)];simp
 unfold atI;rw[e];exact h
def aQI(b:Expr):Prop:=∀ o i,Ex b false o i=operate [o,i] (getItem o i)
def IxR(X:Cx)(r:R2):Prop :=
 ∀ (value slice:Expr) (pins:List (Addr×Obj)) (s:Shared) (σ:St) (H:Hp) (x y:V) (v u:Value) (Q:VK),Inv X pins σ H s→bM x v→bM y u→r x y H Q →
  Ex slice false v u=operate [v,u] (getItem v u)→wpAny (model X.prog X.w) X.A (subscriptTail value slice v u) (EP X pins σ Q) X.xe s
def MtR(X:Cx)(id:String)(r:V→List V→Hp→VK→Prop):Prop :=
 ∀ (pins:List (Addr×Obj)) (s:Shared) (σ:St) (H:Hp) (x:V) (xs:List V) (v:Value) (us:List Value) (Q:VK),Inv X pins σ H s→bM x v→bF xs us→r x xs H Q →
  wpAny (model X.prog X.w) X.A (call (.builtin id) (v :: us)) (EP X pins σ Q) X.xe s
section
variable{X:Cx}{a b:Expr}{ta tb:TE}{pos:Pos}
theorem bA{r:R2}(hr:IxR X r)(ha:PE X a ta)(hb:PE X b tb)(hs:aQI b):PE X (.Subscript a b pos) (tOp r ta tb):=by
 intro pins s σ H Q I h
 exact Subscript_ (aTM ha hb I h fun v u s2 x y H2 I2 rx ry q=>hr a b pins s2 σ H2 x y v u Q I2 rx ry q (hs _ _))
def aUO(K:AD):R2:=fun x y H Q=>∃ p xs i v,x=.ref p∧y=.int i∧SqL K H p xs∧atI xs i=some v∧Q v H
def aUN(K:AD):R2:=fun x y H Q=>∃ p xs i v,x=.ref p∧y=.int i∧SqT K H p xs∧atI xs i=some v∧Q v H
def aWD:R2:=fun x y H Q=>∃ z i c,x=.str z∧y=.int i∧z.length≤Ak∧atI z.cps.toList i=some c∧Q (.str ⟨#[c]⟩) H
theorem aPQ:IxR X (aUO X.K):=by
 intro value slice pins s σ H x y v u Q I rx ry h hs
 obtain⟨p,xs,i,z,rfl,rfl,hq,he,q⟩:=h
 cases rx
 obtain⟨t,rfl⟩:=ry
 obtain⟨its,r,pl,hz⟩:=I.list hq
 obtain⟨j,h1,h2,h3,h4,h5⟩:=aCG he
 obtain⟨w,ew,rw'⟩:=r.get h2
 have hl:=r.length
 have hn:=rR
 have fin:EP X pins σ Q w s:=⟨z,H,I,rw',q⟩
 by_cases h0:0≤i
 ·have hj:i.toNat=j:=by
   rw[seqIndex_of h0 h5] at h1
   exact BA h1
  exact item_listR pl.isList h0 (by omega) (by rw[hj];simpa using ew) fin hs
 ·have hj:(i+(its.toArray.size:Int)).toNat=j:=by
   rw[seqIndex_neg (by omega) h4] at h1
   rw[AM,← hl]
   exact BA h1
  exact subscriptTail_builtinR (x:=w) pl.isList.typeIs slot_list_getitem.lookup
   (wpAny_getItem_list_neg (Q:=fun r s'=>r=w∧EP X pins σ Q r s') pl.isList (by omega) (by rw[AM] <;> omega) (by omega) (by rw[hj];simpa using ew) ⟨rfl,fin⟩) hs
theorem aSW:IxR X (aUN X.K):=by
 intro value slice pins s σ H x y v u Q I rx ry h hs
 obtain⟨p,xs,i,z,rfl,rfl,hq,he,q⟩:=h
 cases rx
 obtain⟨t,rfl⟩:=ry
 obtain⟨its,r,pl,hz⟩:=I.tuple hq
 obtain⟨j,h1,h2,h3,h4,h5⟩:=aCG he
 obtain⟨w,ew,rw'⟩:=r.get h2
 have hl:=r.length
 have hn:=rR
 have fin:EP X pins σ Q w s:=⟨z,H,I,rw',q⟩
 exact subscriptTail_builtinR (x:=w) pl.typeIs slot_tuple_getitem.lookup
  (getItem_tuple (j:=j) (Q:=fun r s'=>r=w∧EP X pins σ Q r s') pl (by omega) (by omega) (by rw[AM,← hl];exact h1) (by simpa using ew) ⟨rfl,fin⟩) hs
theorem aBU:IxR X aWD:=by
 intro value slice pins s σ H x y v u Q I rx ry h hs
 obtain⟨z,i,c,rfl,rfl,hz,he,q⟩:=h
 obtain⟨t,rfl⟩:=rx
 obtain⟨t',rfl⟩:=ry
 obtain⟨j,h1,h2,h3,h4,h5⟩:=aCG he
 have hl:z.cps.toList.length=z.length:=by simp[Str.length]
 rw[hl] at h1 h4 h5
 have hn:=rR
 exact tail_any (typeIs_str s z t) slot_str_getitem.lookup (getItem_str (c:=c) (by
  have e1:decide (i < -(2 ^ 63:Int))=false:=decide_eq_false (by omega)
  have e2:decide (i≥2 ^ 63)=false:=decide_eq_false (by omega)
  rw[e1,e2,Bool.or_false]) (by rw[h1];simpa using h2) ⟨.str ⟨#[c]⟩,H,I.tok _,⟨_,rfl⟩,q⟩) hs
theorem aAS(lo hi:Option Int)(n:Nat):(DI lo hi none n).1=((HT.sIx n 0 lo:Nat):Int)∧(DI lo hi none n).2.1=((HT.sIx n n hi:Nat):Int)∧(DI lo hi none n).2.2=1:=by
 refine⟨?_,?_,rfl⟩
 ·cases lo with
  | none=>simp[DI,HT.sIx]
  | some i =>
   simp only[DI,HT.sIx,Option.getD_none,show (1:Int)>0 by decide,if_true]
   by_cases h:i<0
   ·simp only[h,if_true] <;> omega
   ·simp only[h,if_false] <;> omega
 ·cases hi with
  | none=>simp[DI,HT.sIx]
  | some i =>
   simp only[DI,HT.sIx,Option.getD_none,show (1:Int)>0 by decide,if_true]
   by_cases h:i<0
   ·simp only[h,if_true] <;> omega
   ·simp only[h,if_false] <;> omega
theorem xH(its:List Value)(lo hi:Option Int):slicePick its.toArray lo hi none=((its.drop (HT.sIx its.length 0 lo)).take (HT.sIx its.length its.length hi - HT.sIx its.length 0 lo)).toArray:=by
 obtain⟨h1,h2,h3⟩:=aAS lo hi its.toArray.size
 unfold slicePick
 rw[h1,h2,h3]
 simp only[sliceRange_one,pick_run,AM] <;> rfl
def aUL(K:AD):V→Option Int→Option Int→Hp→VK→Prop:=fun x lo hi H Q=>∃ a xs,x=.ref a∧SqL K H a xs∧∀ p,H p=none→Q (.ref p) (upd H p (.lst (lR xs lo hi)))
theorem aOK:SlR X (aUL X.K):=by
 intro pins s σ H x v vl vu lo hi sl Q I rx hs pl pu h
 obtain⟨a,xs,rfl,hx,q⟩:=h
 cases rx
 obtain⟨its,r,ht,hz⟩:=I.list hx
 have hlen:=r.length
 refine⟨"list",_,slot_list_getitem.lookup,ht.isList.typeIs,?_⟩
 refine wpAny_getItem_list_slice ht.isList hs pl pu .none (by simp) ?_ (by rw[AM] <;> omega)
 rw[xH,← hlen]
 refine⟨.ref s.heap.objs.size,_,I.laid (t':=s.toks) (o:=.lst (lR xs lo hi)) (fun b ob q=>AJ _ q) (AS _) ?_,rfl,q _ (I.hok.fresh (AS _))⟩
 exact⟨Az (aEK xs lo hi) hz,_,0,(r.drop (HT.sIx xs.length 0 lo)).take (HT.sIx xs.length xs.length hi - HT.sIx xs.length 0 lo),Ah _ rfl⟩
noncomputable def qR:V→Bool
 | .non=>true
 | .bl _=>true
 | .int _=>true
 | .str _=>true
 | _=>false
noncomputable def eqV:V→V→Bool
 | .non,.non=>true
 | .bl a,.bl b=>a == b
 | .bl a,.int b=>(if a then 1 else 0) == b
 | .int a,.bl b=>a == (if b then 1 else 0)
 | .int a,.int b=>a == b
 | .str a,.str b=>a == b
 | _,_=>false
theorem lE{A:Around}{s:Shared}{y x:V}{u v:Value}(ry:bM y u)(rx:bM x v)(fy:qR y=true)(fx:qR x=true):BW A s u v (eqV y x):=by
 cases y with
 | non =>
  cases ry
  cases x with
  | non=>cases rx;exact BW.same _
  | bl b=>cases rx;exact BW.none_bool b
  | int b=>obtain⟨t,rfl⟩:=rx;exact BW.none_int b t
  | str b=>obtain⟨t,rfl⟩:=rx;exact BW.none_str b t
  | _=>exact absurd (show false=true from fx) AR
 | bl a =>
  cases ry
  cases x with
  | non=>cases rx;exact BW.bool_none a
  | bl b=>cases rx;exact BW.bool_bool a b
  | int b=>obtain⟨t,rfl⟩:=rx;exact BW.bool_int a b t
  | str b=>obtain⟨t,rfl⟩:=rx;exact BW.bool_str a b t
  | _=>exact absurd (show false=true from fx) AR
 | int a =>
  obtain⟨t',rfl⟩:=ry
  cases x with
  | non=>cases rx;exact BW.int_none a t'
  | bl b=>cases rx;exact BW.int_bool a t' b
  | int b=>obtain⟨t,rfl⟩:=rx;exact BW.int_int a t' b t
  | str b=>obtain⟨t,rfl⟩:=rx;exact BW.int_str a t' b t
  | _=>exact absurd (show false=true from fx) AR
 | str a =>
  obtain⟨t',rfl⟩:=ry
  cases x with
  | non=>cases rx;exact BW.str_none a t'
  | bl b=>cases rx;exact BW.str_bool a t' b
  | int b=>obtain⟨t,rfl⟩:=rx;exact BW.str_int a t' b t
  | str b=>obtain⟨t,rfl⟩:=rx;exact BW.str_str a t' b t
  | _=>exact absurd (show false=true from fx) AR
 | _=>exact absurd (show false=true from fy) AR
noncomputable def eqU(x:V)(u:Value):Bool:=match u with
 | .none=>eqV .non x
 | .bool b=>eqV (.bl b) x
 | .int i _=>eqV (.int i) x
 | .str z _=>eqV (.str z) x
 | _=>false
theorem aNH{x y:V}{u:Value}(r:bM y u)(f:qR y=true):eqU x u=eqV y x:=by
 cases y with
 | non=>cases r;rfl
 | bl b=>cases r;rfl
 | int i=>obtain⟨t,rfl⟩:=r;rfl
 | str z=>obtain⟨t,rfl⟩:=r;rfl
 | _=>exact absurd (show false=true from f) AR
theorem qV{x:V}:∀ {xs:List V} {us:List Value},bF xs us→xs.all qR=true→us.any (eqU x)=xs.any fun y=>eqV y x
 | _,_,.nil,_=>rfl
 | y :: xs,u :: us,.cons r t,f=>by
  rw[Cg,AU] at f
  rw[DS,DS,aNH r f.1,qV t f.2]
theorem mU{A:Around}{s:Shared}{x:V}{v:Value}(rx:bM x v)(fx:qR x=true):∀ {xs:List V} {us:List Value},bF xs us→xs.all qR=true→∀ u∈us,BW A s u v (eqU x u)
 | _,_,.nil,_=>fun u hu=>by cases hu
 | y :: xs,u :: us,.cons r t,f=>fun u' hu=>by
  rw[Cg,AU] at f
  rcases AZ.mp hu with rfl | hu
  ·rw[aNH r f.1];exact lE r rx f.1 fx
  ·exact mU rx fx t f.2 u' hu
noncomputable def inV(x:V)(xs:List V):Bool:=xs.any fun y=>eqV y x
def rIn(K:AD)(neg:Bool):R2:=fun x y H Q=>∃ p xs,y=.ref p∧(SqL K H p xs∨SqT K H p xs)∧qR x=true∧xs.all qR=true∧Q (.bl (if neg then !inV x xs else inV x xs)) H
theorem aJM:OpR X (BV .In) (rIn X.K false):=by
 intro pins s σ H x y v u Q I rx ry h
 obtain⟨p,xs,rfl,hq,fx,fs,q⟩:=h
 cases ry
 rcases hq with hq | hq
 ·obtain⟨its,r,pl,hz⟩:=I.list hq
  refine SeqAt.in_listAt (eqU x) pl.isList (fun w hw=>mU rx fx r fs w (by simpa using hw)) ⟨.bl _,H,I,rfl,?_⟩
  rw[show its.toArray.any (eqU x)=its.any (eqU x) by simp,qV r fs]
  exact q
 ·obtain⟨its,r,pl,hz⟩:=I.tuple hq
  refine SeqAt.in_tupleAt (eqU x) pl (fun w hw=>mU rx fx r fs w (by simpa using hw)) ⟨.bl _,H,I,rfl,?_⟩
  rw[show its.toArray.any (eqU x)=its.any (eqU x) by simp,qV r fs]
  exact q
theorem aBH:OpR X (BV .NotIn) (rIn X.K true):=by
 intro pins s σ H x y v u Q I rx ry h
 obtain⟨p,xs,rfl,hq,fx,fs,q⟩:=h
 cases ry
 rcases hq with hq | hq
 ·obtain⟨its,r,pl,hz⟩:=I.list hq
  refine SeqAt.notIn_listAt (eqU x) pl.isList (fun w hw=>mU rx fx r fs w (by simpa using hw)) ⟨.bl _,H,I,rfl,?_⟩
  rw[show its.toArray.any (eqU x)=its.any (eqU x) by simp,qV r fs]
  exact q
 ·obtain⟨its,r,pl,hz⟩:=I.tuple hq
  refine SeqAt.notIn_tupleAt (eqU x) pl (fun w hw=>mU rx fx r fs w (by simpa using hw)) ⟨.bl _,H,I,rfl,?_⟩
  rw[show its.toArray.any (eqU x)=its.any (eqU x) by simp,qV r fs]
  exact q
theorem aCE:gK X (.builtin "len") (fun xs H Q=>∃ p ys,xs=[.ref p]∧(SqL X.K H p ys∨SqT X.K H p ys)∧Q (.int ys.length) H):=by
 intro pins s σ H xs us Q I r h
 obtain⟨p,ys,rfl,hq,q⟩:=h
 obtain⟨u,rfl,rx⟩:=aKI r
 cases rx
 have hn:=rR
 rcases hq with hq | hq
 ·obtain⟨its,r',pl,hz⟩:=I.list hq
  have hlen:=r'.length
  exact Calls.call_len_list pl.isList (by simp only[AM] <;> omega) ⟨.int ys.length,H,I.tok _,⟨s.toks+1,by rw[AM,hlen]⟩,q⟩
 ·obtain⟨its,r',pl,hz⟩:=I.tuple hq
  have hlen:=r'.length
  exact len_tuple pl (by simp only[AM] <;> omega) ⟨.int ys.length,H,I.tok _,⟨s.toks+1,by rw[AM,hlen]⟩,q⟩
theorem aCD:gK X (.builtin "len") (fun xs H Q=>∃ z,xs=[.str z]∧z.length≤Ak∧Q (.int z.length) H):=by
 intro pins s σ H xs us Q I r h
 obtain⟨z,rfl,hz,q⟩:=h
 obtain⟨u,rfl,t,rfl⟩:=aKI r
 have hn:=rR
 exact len_str (by omega) ⟨.int z.length,H,I.tok _,⟨_,rfl⟩,q⟩
theorem aCC:gK X (.type "list") (fun xs H Q=>∃ p ys,xs=[.ref p]∧(SqL X.K H p ys∨SqT X.K H p ys)∧∀ l,H l=none→Q (.ref l) (upd H l (.lst ys))):=by
 intro pins s σ H xs us Q I r h
 obtain⟨p,ys,rfl,hq,q⟩:=h
 obtain⟨u,rfl,rx⟩:=aKI r
 cases rx
 have fin:∀ (its:List Value),bF ys its→ys.length≤Ak→∀ (h':Heap) (c':Nat),(∀ b o',s.heap.get? b=some o'→h'.get? b=some o') →
   h'.get? s.heap.objs.size=some { cls:=.type "list",dict:=none,data:=.seq its.toArray c',slots:=#[] }→EP X pins σ Q (.ref s.heap.objs.size) { s with heap:=h' }:=fun its r' hz h' c' kp e =>
  ⟨.ref s.heap.objs.size,_,I.laid (t':=s.toks) kp (AS _) (show cE X.prog X.w _ h' _ (.lst ys) from⟨hz,its,c',r',e⟩),rfl,q _ (I.hok.fresh (AS _))⟩
 rcases hq with hq | hq
 ·obtain⟨its,r',pl,hz⟩:=I.list hq
  have hlen:=r'.length
  obtain⟨o,ho,hc,n,hd⟩:=pl.isList
  exact call_list_seq p (.inl rfl) ho hc hd (fun h' c' kp e=>fin its r' hz h' c' kp e) (by simp only[AM] <;> omega)
 ·obtain⟨its,r',pl,hz⟩:=I.tuple hq
  have hlen:=r'.length
  obtain⟨o,ho,hc,n,hd⟩:=pl
  exact call_list_seq p (.inr rfl) ho hc hd (fun h' c' kp e=>fin its r' hz h' c' kp e) (by simp only[AM] <;> omega)
def tyV(K:AD)(T:String)(x:V)(H:Hp):Prop:=match x with
 | .str _=>T="str"
 | .int _=>T="int"
 | .ref p=>(T="list"∧∃ xs,SqL K H p xs)∨(T="tuple"∧∃ o,K.lookup p=some o∧o.cls=.type "tuple"∧o.dict=none) ∨
   (T="dict"∧((∃ kvs,H p=some (.dK kvs))∨∃ kvs,H p=some (.dT kvs)))∨(T="set"∧∃ S n,H p=some (.set S n))∨(T="tuple"∧∃ xs,H p=some (.tup xs))
 | _=>False
theorem aKL{pins:List (Addr×Obj)}{σ:St}{H:Hp}{s:Shared}{T:String}{x:V}{v:Value}(I:Inv X pins σ H s)(r:bM x v)(ty:tyV X.K T x H) :
  s.TypeIs v T∧∀ a,v=.ref a→∃ ob,s.heap.get? a=some ob∧ob.dict=none:=by
 cases x with
 | str z =>
  obtain⟨t,rfl⟩:=r
  cases (show T="str" from ty)
  exact⟨typeIs_str s z t,fun _ e=>nomatch e⟩
 | int i =>
  obtain⟨t,rfl⟩:=r
  cases (show T="int" from ty)
  exact⟨typeIs_int s i t,fun _ e=>nomatch e⟩
 | ref p =>
  cases r
  rcases ty with ⟨rfl,xs,hq⟩ | ⟨rfl,o,hk,hc,hd⟩ | ⟨rfl,hk⟩ | ⟨rfl,S,n,hk⟩ | ⟨rfl,xs,hk⟩
  ·obtain⟨its,_,pl,_⟩:=I.list hq
   refine⟨pl.isList.typeIs,fun a e=>?_⟩
   cases e
   obtain⟨o,n,e,c,hd,_⟩:=pl
   exact⟨o,e,hd⟩
  ·refine⟨⟨o,I.kIn p o hk,hc⟩,fun a e=>?_⟩
   cases e
   exact⟨o,I.kIn _ o hk,hd⟩
  ·have z:∃ o,s.heap.get? p=some o∧o.ExactDict:=by
    rcases hk with ⟨kvs,hk⟩ | ⟨kvs,hk⟩
    ·obtain⟨_,_,_,_,o,_,_,e,ex,_⟩:=I.hok p _ hk
     exact⟨o,e,ex⟩
    ·obtain⟨_,_,_,_,o,_,_,e,ex,_⟩:=I.hok p _ hk
     exact⟨o,e,ex⟩
   obtain⟨o,e,ex⟩:=z
   refine⟨⟨o,e,ex.1⟩,fun a e2=>?_⟩
   cases e2
   exact⟨o,e,ex.2.1⟩
  ·obtain⟨o,_,_,_,e,ex,_⟩:=I.hok p _ hk
   refine⟨⟨o,e,ex.1⟩,fun a e2=>?_⟩
   cases e2
   exact⟨o,e,ex.2.1⟩
  ·obtain⟨_,_,_,o,e,hc,_,_,hd⟩:=(show cE X.prog X.w H s.heap p (.tup xs) from I.hok p _ hk)
   refine⟨⟨o,e,hc⟩,fun a e2=>?_⟩
   cases e2
   exact⟨o,e,hd⟩
 | _=>exact BH ty
def aVY(K:AD)(T:String)(r:V→List V→Hp→VK→Prop)(to:TE):TE:=fun σ H Q=>to σ H fun x H1=>tyV K T x H1∧r x [] H1 Q
def tBM(K:AD)(T:String)(r:V→List V→Hp→VK→Prop)(to:TE)(t:TA):TE:=fun σ H Q=>to σ H fun x H1=>tyV K T x H1∧t σ H1 fun xs H2=>r x xs H2 Q
variable{o e:Expr}{es:List Expr}{to:TE}{t:TA}{name:Str}{apos cpos:Pos}{T id:String}{r:V→List V→Hp→VK→Prop}
theorem aLY(pa:PlainAttrs T)(slot:Slot T name id)(hty:typeOf (.builtin id)=pure (.type "method_descriptor"))(hm:MtR X id r)(ho:PE X o to)
 (hbase:DG o name X.env (eval o X.env)=eval o X.env:=by rfl)(hline:(apos.endLine == cpos.line)=true:=by rfl):PE X (.Call (.Attribute o name apos) [] [] cpos) (aVY X.K T r to):=by
 intro pins s σ H Q I h
 refine wpAny_Call_method0_late hbase hline (thn (ho pins s σ H _ I h) fun v s1 ⟨x,H1,I1,r1,ty,q1⟩=>?_)
 obtain⟨h1,h2⟩:=aKL I1 r1 ty
 exact⟨T,id,pa,slot,hty,h1,h2,Calls.callWith_builtin rfl (PySem.evalArgs_none (hm pins s1 σ H1 x [] v [] Q I1 r1 .nil q1))⟩
theorem iJ(pa:PlainAttrs T)(slot:Slot T name id)(hty:typeOf (.builtin id)=pure (.type "method_descriptor"))(hm:MtR X id r)(ho:PE X o to)(ha:PA X (e :: es) t)
 (hbase:DG o name X.env (eval o X.env)=eval o X.env:=by rfl)
 (hfew:((backTo cpos (Al (e :: es) X.env)).all (fun x=>!x.1) && (DJ cpos (CS [] X.env)).all (fun x=>x.1.isSome)
   && decide ((e :: es).length+([]:List Keyword).length+(if ([]:List Keyword).isEmpty then 0 else 1)<30))=true:=by rfl)
 (hline:(apos.endLine == cpos.line)=true:=by rfl)(hs:Al (e :: es) X.env=(false,eval e X.env) :: Al es X.env:=by rfl)(hplain:(backTo cpos (Al es X.env)).any (·.1)=false:=by rfl) :
  PE X (.Call (.Attribute o name apos) (e :: es) [] cpos) (tBM X.K T r to t):=by
 intro pins s σ H Q I h
 refine wpAny_Call_method_late hbase hfew hline rfl (thn (ho pins s σ H _ I h) fun v s1 ⟨x,H1,I1,r1,ty,q1⟩=>?_)
 obtain⟨h1,h2⟩:=aKL I1 r1 ty
 refine⟨T,id,pa,slot,hty,h1,h2,?_⟩
 have hA:=ha cpos pins s1 σ H1 _ I1 q1
 rw[hs] at hA ⊢
 refine Calls.callWith_builtin (by show (false || (backTo cpos (Al es X.env)).any (·.1))=false;rw[hplain] <;> rfl) (Calls.evalArgs_plain ?_)
 exact thn hA fun us s2 ⟨vs,H2,I2,r2,q2⟩=>hm pins s2 σ H2 x vs v us Q I2 r1 r2 q2
end
end L2
namespace L2
open PySem PySem.Spec PyProof.Rows
def MtM(X:Cx)(id:String)(r:V→List V→Hp→VK→Prop):Prop :=
 ∀ (pins:List (Addr×Obj)) (s:Shared) (σ:St) (H:Hp) (x:V) (xs:List V) (v:Value) (us:List Value) (Q:VK),Inv X pins σ H s→bM x v→bF xs us→r x xs H Q →
  wpAny (model X.prog X.w) X.A (call (.builtin id) (v :: us)) (EP X pins σ Q) X.xe s
theorem bF.one:∀ {x:V} {us:List Value},bF [x] us→∃ u,us=[u]∧bM x u
 | _,_,.cons r .nil=>⟨_,rfl,r⟩
theorem bF.two:∀ {x y:V} {us:List Value},bF [x,y] us→∃ u v,us=[u,v]∧bM x u∧bM y v
 | _,_,_,.cons r (.cons q .nil)=>⟨_,_,rfl,r,q⟩
theorem bF.zero:∀ {us:List Value},bF [] us→us=[]
 | _,.nil=>rfl
theorem bF.eraseIdx:∀ {xs:List V} {us:List Value} (i:Nat),bF xs us→bF (xs.eraseIdx i) (us.eraseIdx i)
 | _,_,_,.nil=>.nil
 | _,_,0,.cons _ t=>t
 | _,_,i+1,.cons r t=>.cons r (bF.eraseIdx i t)
theorem zF{α:Type}:∀ (l:List α) (i:Nat),(l.eraseIdx i).length≤l.length
 | [],_=>AS _
 | _ :: _,0=>Cc _
 | _ :: r,i+1=>Nat.succ_le_succ (zF r i)
section
variable{X:Cx}{pins:List (Addr×Obj)}{σ:St}{H:Hp}{s:Shared}{l b:Addr}{xs ys zs:List V}
theorem Inv.lset{its its':List Value}{n:Nat}{f:Array Value→Array Value}{t':Nat}(I:Inv X pins σ H s)(hH:H l=some (.lst xs))
 (e:s.heap.get? l=some { cls:=.type "list",data:=.seq its.toArray n })(hf:f its.toArray=its'.toArray)(hv:bF ys its')(hz:ys.length≤Ak) :
  Inv X pins σ (upd H l (.lst ys)) { s with heap:=s.heap.update l (BI f),toks:=t' }:=by
 have q:=PySem.IsL.update e f
 rw[hf] at q
 refine I.write (x:=l) (e:=l) (by rw[hH];exact trivial) (.inl rfl) (fun b' u hb hu=>(Ba s.heap (BI f) (Ne.symm hb)).trans hu) ⟨_,q⟩ ?_
 exact⟨hz,its',_,hv,q⟩
theorem Inv.lnew{its:List Value}{t':Nat}(I:Inv X pins σ H s)(hv:bF ys its)(hz:ys.length≤Ak) :
  Inv X pins σ (upd H s.heap.objs.size (.lst ys)) { s with heap:=s.heap.push { cls:=.type "list",data:=.seq its.toArray },toks:=t' } :=
 I.laid (fun _ _ q=>AJ _ q) (AS _) ⟨hz,its,0,hv,Ah _ rfl⟩
theorem Inv.fresh(I:Inv X pins σ H s):H s.heap.objs.size=none:=I.hok.fresh (AS _)
theorem Inv.lstM(I:Inv X pins σ H s)(hH:H l=some (.lst xs)):xs.length≤Ak∧∃ (its:List Value) (n:Nat),bF xs its∧xs.length=its.length∧s.heap.get? l=some { cls:=.type "list",data:=.seq its.toArray n }:=by
 obtain⟨z,its,n,r,e⟩:=I.hok l _ hH
 exact⟨z,its,n,r,r.length,e⟩
end
section
variable{X:Cx}
def aOT:V→List V→Hp→VK→Prop:=fun x vs H Q=>∃ l xs y,x=.ref l∧vs=[y]∧H l=some (.lst xs)∧xs.length<Ak∧Q .non (upd H l (.lst (xs++[y])))
theorem cX:MtM X "list.append" aOT:=by
 intro pins s σ H x vs v us Q I rx rv h
 obtain⟨l,xs,y,rfl,rfl,hH,hz,q⟩:=h
 cases rx
 obtain⟨u,rfl,ru⟩:=rv.one
 obtain⟨z,its,n,r,hl,e⟩:=I.lstM hH
 refine call_meets F.slot_list_append ⟨_,e,rfl⟩ F.entry_list_append (F.args_list_append_2 _ _) (PySem.list_append l its.toArray n u (by rw[AM];omega)) ⟨e,?_⟩
 refine⟨.non,_,I.lset (its':=its++[u]) hH e (by simp) (r.append (.cons ru .nil)) ?_,rfl,q⟩
 rw[AW,Bq]
 omega
def aSA:V→List V→Hp→VK→Prop:=fun x vs H Q=>∃ l xs i k y,x=.ref l∧vs=[.int i]∧H l=some (.lst xs)∧-(2 ^ 63)≤i∧i<2 ^ 63∧seqIndex? i xs.length=some k∧xs[k]?=some y∧Q y (upd H l (.lst (xs.eraseIdx k)))
theorem aME:MtM X "list.pop" aSA:=by
 intro pins s σ H x vs v us Q I rx rv h
 obtain⟨l,xs,i,k,y,rfl,rfl,hH,h1,h2,hk,hy,q⟩:=h
 cases rx
 obtain⟨u,rfl,ru⟩:=rv.one
 obtain⟨t,rfl⟩:=ru
 obtain⟨z,its,n,r,hl,e⟩:=I.lstM hH
 obtain⟨w,hw,rw'⟩:=r.get hy
 refine call_meets F.slot_list_pop ⟨_,e,rfl⟩ F.entry_list_pop (F.args_list_pop_2 _ _)
  (MeetsSeq.list_pop_at l its.toArray n i t k w (fitsIndex_both h1 h2) (by rw[AM,← hl];exact hk) (by rw[← CB];exact hw) (by rw[AM];omega)) ⟨e,?_⟩
 refine⟨y,_,I.lset (its':=its.eraseIdx k) hH e ?_ (r.eraseIdx k) ?_,rw',q⟩
 ·show its.toArray.eraseIdxIfInBounds k=(its.eraseIdx k).toArray
  rw[List.eraseIdxIfInBounds_toArray]
 ·have:=zF xs k
  omega
def aSB:V→List V→Hp→VK→Prop:=fun x vs H Q=>∃ l xs,x=.ref l∧vs=[]∧H l=some (.lst xs)∧Q .non (upd H l (.lst []))
theorem aMF:MtM X "list.clear" aSB:=by
 intro pins s σ H x vs v us Q I rx rv h
 obtain⟨l,xs,rfl,rfl,hH,q⟩:=h
 cases rx
 have hus:=rv.zero
 subst hus
 obtain⟨z,its,n,r,hl,e⟩:=I.lstM hH
 refine call_meets F.slot_list_clear ⟨_,e,rfl⟩ F.entry_list_clear (F.args_list_clear_1 _) (AutoSeq1.list_clear_list_0 l its.toArray n (by rw[AM];omega)) ⟨e,?_⟩
 exact⟨.non,_,I.lset (its':=[]) (ys:=[]) hH e rfl .nil (BK _),rfl,q⟩
def aWE:R2:=fun x y H Q=>∃ l b xs zs,x=.ref l∧y=.ref b∧H l=some (.lst xs)∧H b=some (.lst zs)∧xs.length+zs.length≤Ak∧∀ p,H p=none→Q (.ref p) (upd H p (.lst (xs++zs)))
theorem iD:OpR X (DW .Add) aWE:=by
 intro pins s σ H x y v u Q I rx ry h
 obtain⟨l,b,xs,zs,rfl,rfl,hH,hB,hz,q⟩:=h
 cases rx
 cases ry
 obtain⟨z,its,n,r,hl,e⟩:=I.lstM hH
 obtain⟨z2,its2,n2,r2,hl2,e2⟩:=I.lstM hB
 refine PySem.P.add_list e e2 ?_ (by rw[AM,AM];omega)
 have ea:its.toArray++its2.toArray=(its++its2).toArray:=by simp
 rw[ea]
 exact⟨.ref _,_,I.lnew (t':=s.toks) (r.append r2) (by rw[AW];omega),rfl,q _ I.fresh⟩
end
section
variable{prog:Program}{w:World}{A:Around}{E:Value→Shared→Prop}{s:Shared}
end
section
variable{X:Cx}
end
end L2
namespace Att
open PySem PySem.W PySem.Calls PyProof.Rows
theorem tZ{P:Params}{h:Heap}:∀ (ns:List Int) (vs:List Value),WellAll P h vs (ns.map WData.int)→IntsAre vs ns:=by
 intro ns
 induction ns with
 | nil =>
  intro vs w
  rw[CO] at w
  cases w
  exact .nil
 | cons n ns ih =>
  intro vs w
  rw[AX] at w
  cases w with
  | cons a b =>
   cases a
   exact .cons _ _ (ih _ b)
theorem aJA{l:OpenLaw}{n:Nat}(hn:l.most=some n){P:Params}{h:Heap}{args:List WData}{vals:List Value}
 (hpre:l.row.toRowW.claim.pre args=true)(hwl:WellAll P h vals args) :
  ∃ a vs ns,vals=[Ao a]∧args=[WData.list (ns.map WData.int)]∧h.get? a=some { cls:=.type "list",data:=.seq vs.toArray }∧IntsAre vs ns∧ns.length≤n:=by
 have hsh:WShape.hasAll [] args [.list .int]=true:=(pre_splitW hpre).1
 have hc:l.pre.holds [] { args:=args }=true:=(pre_splitW hpre).2
 obtain⟨d,r,rfl,h1,h2⟩:=hasAllW_cons hsh
 obtain rfl:=hasAllW_nil h2
 obtain⟨xs,rfl,h3⟩:=hasW_list h1
 obtain⟨ns,rfl⟩:=items_int h3
 have hlen:ns.length≤n:=by
  unfold OpenLaw.pre at hc
  have h4:(WTm.not (.lt (.lit (.int (n:Int))) (.len (.arg 0)))).holds [] { args:=[.list (ns.map .int)] }=true:=by
   have h4:=(holds_andW hc).1
   rw[hn] at h4
   exact h4
  have h5:=condW_of h4 (w_not (w_lt w_lit (w_len_list (w_arg rfl))))
  rw[AA] at h5
  refine Nat.le_of_not_lt fun q=>?_
  have q':(n:Int)<((ns.length:Nat):Int):=by omega
  first
   | (rw[decide_eq_true q'] at h5;exact absurd h5 (by decide))
   | (simp at h5;omega)
 cases hwl with
 | cons w1 w2 =>
  cases w2
  cases w1 with
  | list ho hall=>exact⟨_,_,ns,rfl,rfl,ho,tZ ns _ hall,hlen⟩
theorem aJH(l:OpenLaw)(args:List WData):l.row.toRowW.claim.post args (.bool true) args=true :=
 postW_of (r:=l.row.toRowW) (X:=(true == true))
  (show WShape.has [] (.bool true) .bool=true by first | rfl | decide | simp[WShape.has,WShape.arms,WShape.armsAll])
  (show (WTm.eq .res (.lit (.bool true))).value [] { args:=args,res:=some (.bool true),after:=args }=some (.bool (true == true)) from w_eq_bool (w_res rfl) w_lit) rfl
theorem attach_call{l:OpenLaw}{n:Nat}{q:Program}{loose:List Str}{XP:(Str→Option Value)→Heap→Prop}{YP:World→Heap→Prop}{d:DefRec}
 (hn:l.most=some n)(hdf:d.params.defaults=[])
 (call:∀ (w:World) (s₀ s₁:Shared) (mg mb:Str→Option Value) (fa:Addr) (o:Obj) (pm cd doc:Value) (a:Addr) (vs:List Value) (ns:List Int),
   Ground q loose [] XP w s₀ mg mb s₁.heap→YP w s₁.heap →
   s₁.heap.get? fa=some o→o.data=.func (docDef d.name d.params d.body d.scope pm cd doc)→s₁.heap.CodeRec cd d.name→mg d.name=some (.ref fa) →
   s₁.heap.get? a=some { cls:=.type "list",data:=.seq vs.toArray }→IntsAre vs ns→ns.length≤n→s₁.gens=#[] →
   codeAny (model l.prog w) callerA (.call (.ref fa) ⟨[.ref a],[]⟩) (fun r s'=>r=.ok (.ret (.bool true))∧OldK s₁.heap s'.heap∧s'.os=s₁.os∧AllBare s'.gens) s₁) :
  WalkO q loose XP YP l.row.toRowW d [] (fun f vs=>PySem.call f vs):=by
 intro w s₀ s₁ mg mb G Y fa o pm cd doc dV kV ho hd hcd hD hmg hg args vals as hpre hlay hrd hwl hlo
 obtain rfl:dV=.none:=Dflts.none hD hdf
 obtain rfl:kV=.none:=Dflts.noKw hD
 obtain⟨a,vs,ns,rfl,rfl,hobj,hints,hlen⟩:=aJA hn hpre hwl
 refine enter_call (CY (call w s₀ s₁ mg mb fa o pm cd doc a vs ns G Y ho (fd_plain hd) hcd hmg hobj hints hlen hg) fun r s' hq=>?_)
 obtain⟨rfl,h2,h3,h4⟩:=hq
 exact⟨.inl ⟨.bool true,.bool true,[],rfl,fun _=>rfl,.bool true,aJH l _,fun _=>⟨List.Pairwise.nil,fun _ hm=>(nomatch hm)⟩⟩,h2,h3,h4⟩
section
variable{prog:Program}{w:World}{A:Around}{E:Value→Shared→Prop}{s:Shared}{K:Frag}
end
end Att
namespace L2
open PySem PySem.Spec PyProof.Rows
theorem xW:∀ {vs:List Value} {ns:List Int},IntsAre vs ns→bF (ns.map V.int) vs
 | _,_,.nil=>.nil
 | _,_,.cons n t h=>.cons ⟨t,rfl⟩ (xW h)
end L2
namespace L2
open PySem PySem.Spec PyProof.Rows
end L2
namespace L2
open PySem PySem.Spec PyProof.Rows
noncomputable def hE(s:Stmt)(j:Nat):Stmt:=match s with
 | .ClassDef _ _ _ body _ _ _ _ _ _ _=>body.getD j (.Pass ⟨0,0,0,0⟩)
 | _=>.Pass ⟨0,0,0,0⟩
noncomputable def hJ(s:Stmt):DT:=match s with
 | .FunctionDef _ a _ _ _ _ _ _ _ _=>a
 | _=>{ posonlyargs:=[],args:=[],vararg:=none,kwonlyargs:=[],kw_defaults:=[],kwarg:=none,defaults:=[] }
noncomputable def cQ(s:Stmt):List Stmt:=match s with
 | .FunctionDef _ _ b _ _ _ _ _ _ _=>b
 | _=>[]
noncomputable def aF(s:Stmt):Scope:=match s with
 | .FunctionDef _ _ _ _ _ _ sc _ _ _=>sc
 | _=>{ kind:=.function,names:=[],isGenerator:=false,isCoroutine:=false }
abbrev CX0:CXT:=fun _ _ _ _ _ _=>False
abbrev E0:XK:=fun _ _ _=>False
theorem aHY{X:Cx}:lH CX0 X E0:=fun _ _ _ _ _ _ _ h=>h.elim
structure Fun (K:AD) (x qual:Str) (st:Stmt) (f:Addr) (fd:Bb):Prop where
 ex:∃ (oc:Value) (od:Option Addr) (kV doc pm:Value) (an:Option Addr) (cdv ct:Value) (osl:Array (Option Value)),
  fd=Br x qual (hJ st) (cQ st) (aF st) .none kV doc pm an cdv ct∧K.lookup f=some ⟨oc,od,.func fd,osl⟩∧Cj K cdv qual=true
 kp:Bm K (.ref f)=true
section
variable{P:Program}{w:World}{K:AD}{mg:Str→Option Value}{base:Heap}
theorem Fun.ok{x qual:Str}{st:Stmt}{f:Addr}{fd:Bb}{N ps:List Str}{k:Nat}{sp:Sp}(F:Fun K x qual st f fd)(S:FnScope N ps (aF st))(len:∀ vs H Q E,sp vs H Q E→vs.length=ps.length)
 (hbody:∀ (cdv:Value) (A:Around) (outer:List Env) (s:Shared) (H:Hp) (vs:List V) (Q:VK) (E:XK),Room k (A.deeper (envOfC qual (aF st) s.heap.objs.size f cdv))→sp vs H Q E →
   ∃ t,PSs (gZ CX0 P w K mg base N qual (aF st) f cdv A outer s H E).nox (cQ st) t∧t { nx:=fun _ H'=>Q .non H',rt:=Q } (start N vs) H):FnOk P w K mg base CX0 (k+1) f fd ps sp:=by
 obtain⟨oc,od,kV,doc,pm,an,cdv,ct,osl,rfl,lk,hcd⟩:=F.ex
 refine aMY lk hcd S len fun A outer s H vs Q E hr hsp=>?_
 obtain⟨t,h,q⟩:=hbody cdv A outer s H vs Q E hr hsp
 exact⟨t,h.nox,q⟩
theorem Fun.binds{x qual:Str}{st:Stmt}{f:Addr}{fd:Bb}{ps:List Str}(F:Fun K x qual st f fd)
 (h:∀ (kV doc pm:Value) (an:Option Addr) (cdv ct:Value) (us:List Value),us.length=ps.length→EV (Br x qual (hJ st) (cQ st) (aF st) .none kV doc pm an cdv ct) ⟨us,[]⟩=pure (ps.zip us)):gL K fd ps []:=by
 obtain⟨oc,od,kV,doc,pm,an,cdv,ct,osl,rfl,lk,hcd⟩:=F.ex
 exact .all (h kV doc pm an cdv ct)
theorem sC{x qual:Str}{st:Stmt}{f:Addr}{oc:Value}{od an:Option Addr}{osl:Array (Option Value)}{kV doc pm cdv ct:Value}(l:K.lookup f=some ⟨oc,od,.func (Br x qual (hJ st) (cQ st) (aF st) .none kV doc pm an cdv ct),osl⟩)
 (c:Cj K cdv qual=true)(k:Bm K (.ref f)=true):Fun K x qual st f (Br x qual (hJ st) (cQ st) (aF st) .none kV doc pm an cdv ct):=⟨⟨oc,od,kV,doc,pm,an,cdv,ct,osl,rfl,l,c⟩,k⟩
end
theorem qP{A:Around}{k:Nat}(hr:Room k A):A.units+1<cLine:=Nat.lt_of_le_of_lt (Nat.add_le_add_left (by decide:1≤64) _) hr.units
section
variable{X:Cx}
theorem pv(i:Nat){x:Str}{pos:Pos}(hN:X.N[i]?=some x:=by rfl)(hv:Vis X.env.scope x:=by first | exact Or.inl rfl | exact Or.inr (Or.inl rfl) | exact Or.inr (Or.inr rfl))(hd:(x == ("__debug__":Str))=false:=by decide)
 (hcd:(x == ("__classdict__":Str))=false:=by decide):PE X (.Name x pos) (qZ i):=aSE hN hv hd hcd
end
theorem bO{A B:Prop}(h:B):if false=true then A else B:=by
 rw[if_neg AR]
 exact h
theorem cP{A B:Prop}(h:A):if true=true then A else B:=by
 rw[if_pos rfl]
 exact h
theorem iZ{c A B:Prop}[Decidable c](h1:c→A)(h2:¬ c→B):if c then A else B:=by
 by_cases h:c
 ·rw[if_pos h]
  exact h1 h
 ·rw[if_neg h]
  exact h2 h
def aH(H H':Hp):Prop:=∀ b o,H b=some o→H' b=some o
theorem aH.refl(H:Hp):aH H H:=fun _ _ h=>h
theorem aH.trans{H H1 H2:Hp}(a:aH H H1)(b:aH H1 H2):aH H H2:=fun c o h=>b c o (a c o h)
theorem aH.free{H H':Hp}(e:aH H H'){l:Addr}(h:H' l=Option.none):H l=Option.none:=by
 cases q:H l with
 | none=>rfl
 | some o =>
  rw[e l o q] at h
  cases h
theorem aH.seq{K:AD}{H H':Hp}{a:Addr}{xs:List V}(e:aH H H')(h:SqL K H a xs):SqL K H' a xs:=by
 rcases h with (h | ⟨o,h⟩) | h
 ·exact .inl (.inl (e _ _ h))
 ·exact .inl (.inr ⟨o,e _ _ h⟩)
 ·exact .inr h
end L2
namespace L2
open PySem PySem.Spec PyProof.Rows
section
variable{X:Cx}
end
section
variable{κ:Type}[DecidableEq κ]
theorem aKJ{kvs:List (κ×V)}{k:κ}(h:fL kvs k=none):¬ k∈kvs.map (·.1):=by
 intro m
 obtain⟨p,hp,e⟩:=AN.mp m
 have q:(kvs.any fun kv=>decide (kv.1=k))=true:=Df.mpr ⟨p,hp,decide_eq_true e⟩
 rw[lY,h] at q
 exact absurd q (by simp)
theorem aOA{kvs:List (κ×V)}{k:κ}{v:V}(h:fL kvs k=some v):k∈kvs.map (·.1):=by
 have q:(kvs.any fun kv=>decide (kv.1=k))=true:=by
  rw[lY,h]
  all_goals rfl
 obtain⟨p,hp,e⟩:=Df.mp q
 exact AN.mpr ⟨p,hp,of_decide_eq_true e⟩
end
end L2
namespace Tx
open PySem PySem.Builtin PySem.Builtin.Str
noncomputable def cl(n d:Nat):Option Int→Nat
 | none=>d
 | some i=>(max 0 (min (if i<0 then i+n else i) n)).toNat
theorem cl_nat(n d k:Nat):cl n d (some (k:Int))=min k n:=by
 show (max 0 (min (if (k:Int)<0 then (k:Int)+n else (k:Int)) n)).toNat=min k n
 rw[if_neg (by omega)]
 omega
theorem aQX(n d:Nat)(hd:d≤n):∀ o,cl n d o≤n
 | none=>hd
 | some i=>by
  show (max 0 (min (if i<0 then i+n else i) n)).toNat≤n
  omega
theorem aGD(lo hi:Option Int)(n:Nat):strSliceIndices lo hi 1 n=(Aj (cl n n hi - cl n 0 lo)).map (cl n 0 lo+·):=by
 have h1:∀ (v:Option Int) (d:Nat),d≤n→(match v with | none=>(d:Int) | some i=>if (1:Int)>0 then max 0 (min (if i<0 then i+n else i) n) else max (-1) (min (if i<0 then i+n else i) (n - 1)))=((cl n d v:Nat):Int):=by
  intro v d hd
  cases v with
  | none=>rfl
  | some i =>
   show (if (1:Int)>0 then max 0 (min (if i<0 then i+n else i) n) else max (-1) (min (if i<0 then i+n else i) (n - 1)))=(((max 0 (min (if i<0 then i+n else i) n)).toNat:Nat):Int)
   rw[if_pos (by decide)]
   omega
 rw[← sliceRange_one]
 unfold strSliceIndices
 have a:=h1 lo 0 (BK _)
 have b:=h1 hi n (AS _)
 simp only[show (1:Int)>0 by decide,if_true] at a b ⊢
 congr 1
theorem slice_codes(x:Str)(lo hi:Option Int):(CT x lo hi).cps.toList=(x.cps.toList.drop (cl x.length 0 lo)).take (cl x.length x.length hi - cl x.length 0 lo):=by
 unfold CT
 rw[aGD]
 split
 ·rename_i h
  have h':cl x.length x.length hi - cl x.length 0 lo=x.length:=by
   have:=(Ai.mp h).2
   have:=beq_iff_eq.mp this
   simpa using this
  have h2:=aQX x.length x.length (AS _) hi
  have h4:=aQX x.length 0 (BK _) lo
  have h3:cl x.length 0 lo=0:=by omega
  rw[h',h3,EA,AE]
  show x.cps.toList.length≤x.cps.size
  simp
 ·rw[pick_run]
theorem app_codes(a b:Str):(a++b).cps.toList=a.cps.toList++b.cps.toList:=by
 simp[Str.cps_append]
theorem app_len(a b:Str):(a++b).length=a.length+b.length:=Str.length_append a b
end Tx
set_option maxHeartbeats 4000000
namespace L2
open PySem PySem.Spec PyProof.Rows
theorem nA{env:Env}{f:(Str×Ay)→List (Str×Addr)→Sem (ForInStep (List (Str×Addr)))}
 (hf:∀ n k cs,f (n,k) cs=if (k == Aw)=true then (cellOf env n >>= fun c=>pure (BY ((n,c) :: cs))) else pure (BY cs)) :
  ∀ (names:List (Str×Ay)) (acc:List (Str×Addr)),
  (∀ y∈names,y.2=.free→∃ c,env.cells.lookup y.1=some c) →
  (∀ x c,acc.lookup x=some c→env.cells.lookup x=some c) →
  ∃ cl,forIn names acc f=(pure cl:Sem _)∧(∀ x c,cl.lookup x=some c→env.cells.lookup x=some c)∧(∀ x c,acc.lookup x=some c→∃ d,cl.lookup x=some d) ∧
   ∀ x,(x,Aw)∈names→∃ c,cl.lookup x=some c
 | [],acc,_,ha=>⟨acc,rfl,ha,fun x c e=>⟨c,e⟩,fun x m=>absurd m (by simp)⟩
 | (n,k) :: r,acc,hn,ha=>by
  have hr:∀ y∈r,y.2=.free→∃ c,env.cells.lookup y.1=some c:=fun y hy=>hn y (AO _ hy)
  by_cases hk:k=.free
  ·subst hk
   obtain⟨c,hc⟩:=hn (n,.free) AQ rfl
   have hcell:cellOf env n=pure c:=by
    have hc':env.cells.lookup n=some c:=hc
    unfold cellOf
    rw[hc']
   have ha':∀ x d,Bx x ((n,c) :: acc)=some d→env.cells.lookup x=some d:=fun x d e=>by
    by_cases hx:(x == n)=true
    ·rw[BG,hx] at e
     obtain rfl:=beq_iff_eq.mp hx
     cases e
     exact hc
    ·have hx':(x == n)=false:=by simpa using hx
     rw[BG,hx'] at e
     exact ha x d e
   obtain⟨cl,e1,e2,e3,e4⟩:=nA hf r ((n,c) :: acc) hr ha'
   refine⟨cl,?_,e2,fun x d e=>?_,fun x m=>?_⟩
   ·rw[DA,hf,if_pos (beq_self_eq_true _),hcell,pure_bind,pure_bind]
    exact e1
   ·by_cases hx:(x == n)=true
    ·exact e3 x c (by rw[BG,hx])
    ·have hx':(x == n)=false:=by simpa using hx
     exact e3 x d (by rw[BG,hx'];exact e)
   ·rcases AZ.mp m with q | q
    ·have q':x=n:=congrArg Prod.fst q
     subst q'
     exact e3 x c (by rw[BG,beq_self_eq_true])
    ·exact e4 x q
  ·have hk':(k == Aw)=false:=by simpa using hk
   obtain⟨cl,e1,e2,e3,e4⟩:=nA hf r acc hr ha
   refine⟨cl,?_,e2,e3,fun x m=>?_⟩
   ·rw[DA,hf,hk',if_neg AR,pure_bind]
    exact e1
   ·rcases AZ.mp m with q | q
    ·exact absurd (congrArg Prod.snd q).symm hk
    ·exact e4 x q
theorem xD{scope:Scope}{env:Env}(h:∀ y∈scope.names,y.2=.free→∃ c,env.cells.lookup y.1=some c) :
  ∃ cl,Eo scope env=pure cl∧(∀ x c,cl.lookup x=some c→env.cells.lookup x=some c)∧∀ x,(x,Aw)∈scope.names→∃ c,cl.lookup x=some c:=by
 obtain⟨cl,e1,e2,_,e4⟩:=nA (env:=env) (f:=fun (x:Str×Ay) cs=>match x with | (name,kind)=>if (kind == Aw)=true then (cellOf env name >>= fun c=>pure (BY ((name,c) :: cs))) else pure (BY cs)) (fun n k cs=>rfl) scope.names [] h (fun x c e=>by cases e)
 refine⟨cl,?_,e2,e4⟩
 have:Eo scope env=(forIn scope.names [] (fun (x:Str×Ay) cs=>match x with | (name,kind)=>if (kind == Aw)=true then (cellOf env name >>= fun c=>pure (BY ((name,c) :: cs))) else pure (BY cs)) >>= fun cs=>pure cs):=by
  first | rfl | (unfold Eo;rfl) | (unfold Eo;simp only[pure_bind,bind_pure])
 rw[this,e1,pure_bind]
theorem iK{env:Env}:∀ {names:List (Str×Ay)} {x:Str},names.lookup x=some .free →
  (names.map fun (n,k)=>if (k == Aw && env.scope.kind == .function && env.kindOf n == some .cell) then (n,Bw) else (n,k)).lookup x=some .cell ∨
  (names.map fun (n,k)=>if (k == Aw && env.scope.kind == .function && env.kindOf n == some .cell) then (n,Bw) else (n,k)).lookup x=some .free
 | [],_,h=>by simp at h
 | (n,k) :: r,x,h=>by
  have ih:=@iK env r x
  show Bx x ((if (k == Aw && env.scope.kind == .function && env.kindOf n == some .cell)=true then (n,Bw) else (n,k)) :: _)=_∨Bx x ((if (k == Aw && env.scope.kind == .function && env.kindOf n == some .cell)=true then (n,Bw) else (n,k)) :: _)=_
  cases hx:x == n with
  | true =>
   simp only[BG,hx] at h
   cases h
   by_cases hc:(Aw == Aw && env.scope.kind == .function && env.kindOf n == some .cell)=true
   ·rw[if_pos hc];left;simp only[BG,hx]
   ·rw[if_neg hc];right;simp only[BG,hx]
  | false =>
   simp only[BG,hx] at h
   by_cases hc:(k == Aw && env.scope.kind == .function && env.kindOf n == some .cell)=true
   ·rw[if_pos hc];simp only[BG,hx];exact ih h
   ·rw[if_neg hc];simp only[BG,hx];exact ih h
theorem jZ{env:Env}:∀ {names:List (Str×Ay)} {x:Str},(∀ y∈names,y.2≠.cell) →
  ((names.map fun (n,k)=>if (k == Aw && env.scope.kind == .function && env.kindOf n == some .cell) then (n,Bw) else (n,k)).lookup x=some .cell ∨
  (names.map fun (n,k)=>if (k == Aw && env.scope.kind == .function && env.kindOf n == some .cell) then (n,Bw) else (n,k)).lookup x=some .free)→(x,Aw)∈names
 | [],_,_,h=>by rcases h with h | h <;> simp at h
 | (n,k) :: r,x,hn,h=>by
  have ih:=@jZ env r x (fun y hy=>hn y (AO _ hy))
  have h':Bx x ((if (k == Aw && env.scope.kind == .function && env.kindOf n == some .cell)=true then (n,Bw) else (n,k)) :: (r.map fun (n,k)=>if (k == Aw && env.scope.kind == .function && env.kindOf n == some .cell) then (n,Bw) else (n,k)))=some .cell ∨
   Bx x ((if (k == Aw && env.scope.kind == .function && env.kindOf n == some .cell)=true then (n,Bw) else (n,k)) :: (r.map fun (n,k)=>if (k == Aw && env.scope.kind == .function && env.kindOf n == some .cell) then (n,Bw) else (n,k)))=some .free:=h
  cases hx:x == n with
  | true =>
   obtain rfl:=beq_iff_eq.mp hx
   have hk:k=.free:=by
    by_cases hc:(k == Aw && env.scope.kind == .function && env.kindOf x == some .cell)=true
    ·have:=(Ai.mp (Ai.mp hc).1).1
     exact beq_iff_eq.mp this
    ·rw[if_neg hc] at h'
     simp only[BG,hx] at h'
     rcases h' with e | e
     ·cases e;exact absurd rfl (hn (x,.cell) AQ)
     ·cases e;rfl
   subst hk
   exact AQ
  | false =>
   refine AO _ (ih ?_)
   by_cases hc:(k == Aw && env.scope.kind == .function && env.kindOf n == some .cell)=true
   ·rw[if_pos hc] at h';simp only[BG,hx] at h';exact h'
   ·rw[if_neg hc] at h';simp only[BG,hx] at h';exact h'
structure BlkR where
 cl:List (Str×Addr)
 C:Addr
 s₀:Shared
 H₀:Hp
 ex:List Addr
abbrev blk (X:Cx) (scope:Scope) (N':List Str) (R:BlkR):Cx :=
 { prog:=X.prog,w:=X.w,K:=X.K,mg:=X.mg,base:=X.base,A:=X.A,N:=N',s₀:=R.s₀,H₀:=R.H₀,env:=compEnvC scope R.cl R.C X.env,outer:=X.stack,stack:=X.stack,ex:=R.ex,fn:=fun _=>false,calm:=X.calm,pn:=[],xe:=fun _ _=>False }
def aNY(X:Cx)(ifs:List Expr)(t:TT):Prop :=
 ∀ (pins:List (Addr×Obj)) (s:Shared) (σ:St) (H:Hp) (Q:Bool→Hp→Prop),Inv X pins σ H s→t σ H Q →
  wpAny (model X.prog X.w) X.A (forIn ifs true fun c r=>if r=true then do let ok ← isTrue c X.env (eval c X.env);pure (BY ok) else pure (BY r)) (TP X pins σ Q) X.xe s
def aTY:TT:=fun _ H Q=>Q true H
theorem bT{X:Cx}:aNY X [] aTY:=fun pins s σ H Q I h=>wpAny_tests_nil ⟨H,I,h⟩
theorem fI{X:Cx}{c:Expr}{t:TT}(h:PT X c t):aNY X [c] t:=fun pins s σ H Q I hw=>wpAny_tests_one (h pins s σ H Q I hw)
def aEZ(nt:Nat)(g:TG):Prop:=∀ x σ H Q,g x σ H Q→g x σ H fun σ2 H2=>Q σ2 H2∧σ2.length=σ.length∧∀ i,nt≤i→σ2[i]?=σ[i]?
theorem aW{nt i:Nat}(h:i<nt):aEZ nt (wQ i):=fun x σ H Q q =>
 ⟨q,by simp,fun j hj=>CH (by omega)⟩
noncomputable def nH(nt:Nat)(cap:List Nat)(σ:St):St:=Dz nt none++cap.map fun j=>(σ[j]?).join
theorem aKE{nt:Nat}{cap:List Nat}{σ:St}:(nH nt cap σ).length=nt+cap.length:=by simp[nH]
theorem zY{nt:Nat}{cap:List Nat}{σ:St}{i:Nat}{v:V}(h:(nH nt cap σ)[i]?=some (some v)):∃ j,nt≤i∧cap[i - nt]?=some j∧σ[j]?=some (some v):=by
 unfold nH at h
 by_cases hi:i<nt
 ·rw[BQ (by simpa using hi),List.getElem?_replicate] at h
  rw[if_pos hi] at h
  cases h
 ·rw[Bo (by simp;omega),List.length_replicate,AI] at h
  cases e:cap[i - nt]? with
  | none=>rw[e] at h;cases h
  | some j =>
   rw[e] at h
   refine⟨j,by omega,rfl,?_⟩
   have h':(σ[j]?).join=some v:=by simpa using h
   cases q:σ[j]? with
   | none=>rw[q] at h';cases h'
   | some o=>rw[q] at h';cases o with
    | none=>cases h'
    | some z=>cases h';rfl
theorem xC{prog:Program}{w:World}{A:Around}{R:Result→Shared→Prop}{s:Shared}{elt target iter:Expr}{ifs:List Expr}{scope:Scope}{pos:Pos}{it acc:Value}{env:Env}(I:Nat→Shared→Prop)
 (turn:∀ n s,I n s→wpAny (model prog w) A (pyNext it) (fun r s₁=>match r with
   | none=>R (.ok .next) s₁
   | some v=>wpAny (model prog w) A (EF target it v) (fun _ s₁=>wpAny (model prog w) A (assign target env v) (fun _ s₂ =>
     wpAny (model prog w) A (forIn ifs true fun c r=>if r=true then do let ok ← isTrue c env (eval c env);pure (BY ok) else pure (BY r)) (fun ok s₃ =>
      if ok=true then wpAny (model prog w) A (eval elt env) (fun x s₄ =>
       wpAny (model prog w) A (call (.builtin "list.append") [acc,x]) (fun _ s₅=>∃ m,m<n∧I m s₅) (notedBy (model prog w) A env fun e s'=>R (.error e) s') s₄) (notedBy (model prog w) A env fun e s'=>R (.error e) s') s₃
      else ∃ m,m<n∧I m s₃) (notedBy (model prog w) A env fun e s'=>R (.error e) s') s₂) (notedBy (model prog w) A env fun e s'=>R (.error e) s') s₁) (notedBy (model prog w) A env fun e s'=>R (.error e) s') s₁) (notedBy (model prog w) A env fun e s'=>R (.error e) s') s)
 (n:Nat)(h:I n s) :
  codeAny (model prog w) A (.compLoop (.ListComp elt [⟨target,iter,ifs,0⟩] scope pos) 0 it acc env) R s:=by
 refine codeAny_loop rfl I (fun n s hI=>?_) n h
 show wpAny _ A ((compTurn (.ListComp elt [⟨target,iter,ifs,0⟩] scope pos) 0 it acc env).onRaise (fun x=>do noteFrame x env;theTreesLotGoes x)) _ _ s
 refine wpAny_noted ?_
 rw[compTurn_list]
 refine AK (wpAny_standAt (AK (BB (turn n s hI) (fun r s₁ h₁=>?_) fun _ _ h'=>h')))
 cases r with
 | none=>exact Aa h₁
 | some v =>
  refine AK (BB h₁ (fun _ s₁' h₁'=>?_) fun _ _ h'=>h')
  refine AK (BB h₁' (fun _ s₂ h₂=>AK (BB h₂ (fun ok s₃ h₃=>?_) fun _ _ h'=>h')) fun _ _ h'=>h')
  cases ok with
  | false=>exact Aa ⟨rfl,h₃⟩
  | true =>
   exact AK (AK (BB h₃ (fun x s₄ h₄=>AK (BB h₄ (fun _ s₅ h₅=>Aa (Aa ⟨rfl,h₅⟩)) fun _ _ h'=>h')) fun _ _ h'=>h'))
abbrev CW:=Nat→Nat→List V→Hp→Prop
def xZ(σb:St)(J:It)(g:TG)(tt:TT)(te:TE)(W:CW)(fin:List V→Hp→Prop)(i m:Nat)(ys:List V)(H:Hp):Prop :=
 (J.stop i H∧fin ys H) ∨
 (J.go i H∧ys.length<Ak∧∀ x H',J.yld i H x H'→g x σb H' fun σ2 H2=>tt σ2 H2 fun b H3 =>
  if b=true then te σ2 H3 fun y H4=>∃ m',m'<m∧W (i+1) m' (ys++[y]) H4 else ∃ m',m'<m∧W (i+1) m' ys H3)
structure BlkEnd (X:Cx) (pins:List (Addr×Obj)) (H:Hp) (C:Addr) (s:Shared):Prop where
 ns:∃ m,s.heap.Ns C m
 fr:H C=none
 ne:C≠X.env.locals
 ab:X.s₀.heap.objs.size≤C
 cl:∀ x c,X.env.cells.lookup x=some c→c≠C
 pn:∀ p∈X.pn++pins,p.1≠C
theorem xB{X:Cx}{pins:List (Addr×Obj)}{σ:St}{s₂:Shared}{H₂:Hp}{elt iter tg:Expr}{ifs:List Expr}{scope:Scope}{pos:Pos}{N':List Str}{nt:Nat}{cap:List Nat}{g:TG}{tt:TT}{te:TE}{cl:List (Str×Addr)}
 {it:Addr}{fp:List Addr}{tn:Nat→Heap→Prop}{J:It}{Q:List V→Hp→Prop}{E:Value→Shared→Prop}
 (hc:X.calm=true)(I₂:Inv X pins σ H₂ s₂)(T:Turn X.prog X.w X.K tg J fp it tn)(st:tn 0 s₂.heap)(hf:∀ b∈fp,aCI X pins H₂ b)
 (hclk:∀ x c,cl.lookup x=some c→X.env.cells.lookup x=some c)(hclh:∀ x,(x,Aw)∈scope.names→∃ c,cl.lookup x=some c)
 (hcell:∀ y∈scope.names,y.2≠.cell)(hkind:scope.kind=.function)
 (hfr:∀ y∈scope.names,y.2=.free→(X.env.kindOf y.1=some .cell∨X.env.kindOf y.1=some .free))
 (hN:N'.length=nt+cap.length)(hcapN:∀ (k j:Nat),cap[k]?=some j→N'[nt+k]?=X.N[j]?)(hcapF:∀ x∈N'.drop nt,scope.names.lookup x=some .free)
 (hg:∀ R,PG (blk X scope N' R) tg g)(hgk:aEZ nt g)(ht:∀ R,aNY (blk X scope N' R) ifs tt)(he:∀ R,PE (blk X scope N' R) elt te)
 (h:∃ W:CW,(∃ m,W 0 m [] H₂)∧∀ i m ys H,W i m ys H→xZ (nH nt cap σ) J g tt te W Q i m ys H)
 {RR:Value→Addr→Result→Shared→Prop}
 (hRR:∀ D C s' H' ys,H' D=none→Q ys H'→Inv X pins σ (upd H' D (.lst ys)) s'→BlkEnd X pins (upd H' D (.lst ys)) C s'→RR (.ref D) C (.ok .next) s') :
  wpAny (model X.prog X.w) X.A (newList []) (fun acc s₃=>wpAny (model X.prog X.w) X.A (newFunctionEnv scope X.env.globals cl [] X.env.qual none .none (some X.env)) (fun cenv s₄ =>
   codeAny (model X.prog X.w) X.A (.compStart (.ListComp elt [⟨tg,iter,ifs,0⟩] scope pos) 0 (.ref it) acc { cenv with scope:=relabel scope X.env }) (RR acc cenv.locals) s₄) E s₃) E s₂:=by
 obtain⟨W,⟨m0,w0⟩,turn⟩:=h
 refine wpAny_newObj_type (wpAny_newFunctionEnv hcell (by intro y hy;simp at hy) (fun h₁ hns₁ hsb₁=>?_) hkind)
 dsimp only at hns₁ hsb₁ ⊢
 generalize hH2:s₂.heap.push { cls:=.type "list",dict:=none,data:=.seq ([]:List Value).toArray }=Hx at hns₁ hsb₁ ⊢
 have hC:Hx.objs.size=s₂.heap.objs.size+1:=by rw[← hH2,Cq]
 generalize hD:s₂.heap.objs.size=D at hC ⊢
 generalize hCC:Hx.objs.size=C at hns₁ hsb₁ hC ⊢
 have hDC:D≠C:=by omega
 have below:∀ b,b<s₂.heap.objs.size→b≠C∧b≠D:=fun b hb=>by omega
 have old:∀ b o,s₂.heap.get? b=some o→h₁.get? b=some o:=fun b o e=>hsb₁.extBut b o (below b (AV e)).1 (AJ _ (hH2▸AJ _ e))
 have hacc:h₁.get? D=some { cls:=.type "list",data:=.seq ([]:List Value).toArray }:=hsb₁.extBut _ _ hDC (AJ _ (by rw[← hH2,← hD];exact Ah _ rfl))
 have freshD:H₂ D=none:=I₂.hok.fresh (by omega)
 have freshC:H₂ C=none:=I₂.hok.fresh (by omega)
 have fpo:∀ b∈fp,∃ o,s₂.heap.get? b=some o∧∀ v,o.data≠.cell v:=T.obj 0 _ st
 have fplt:∀ b∈fp,b<s₂.heap.objs.size:=fun b hb=>let ⟨o,e,_⟩:=fpo b hb;AV e
 have celllt:∀ x c,X.env.cells.lookup x=some c→c<s₂.heap.objs.size:=fun x c e=>let ⟨v,z⟩:=I₂.cell x c e;z.lt
 have pinlt:∀ p∈X.pn++pins,p.1<s₂.heap.objs.size:=fun p hp=>AV (I₂.pin p hp).1
 let R:BlkR:=⟨cl,C,s₂,H₂,fp⟩
 have okb:(blk X scope N' R).Ok:={
  mod:=I₂.mod
  kind:=hkind
  glob:=I₂.ok.glob
  blt:=I₂.ok.blt
  above:=(by show s₂.heap.objs.size≤C;omega)
  inj:=fun x y c e1 e2=>I₂.ok.inj x y c (hclk x c e1) (hclk y c e2)
  has:=fun x hx=>hclh x (jZ hcell hx)
  cab:=fun x c hx _=>by cases hx
  hd:=I₂.ok.hd
  frames:=I₂.ok.frames
  stk:=.inl rfl
  exf:=fun b hb=>⟨(below b (fplt b hb)).1,fun x c e=>(hf b hb).2.2.2.2.1 x c (hclk x c e)⟩
  bs:=I₂.bs
  bsz:=Az I₂.ok.bsz I₂.sz
  noex:=fun b o e hb=>by
   rcases (hf b hb).2.2.2.1 with z | z
   ·exact I₂.ok.noex b o e z
   ·exact absurd (Ac (AV e) (Az I₂.ok.bsz z)) (CI _)
  exfs:=fun b hb z=>by
   rcases AZ.mp (I₂.stkSub b z) with q | q
   ·exact (hf b hb).2.1 q
   ·exact (hf b hb).2.2.1 q
  funs:=I₂.stack
  frf:=I₂.stkFree }
 have nofs:∀ a,s₂.heap.objs.size≤a→a∉frs X.stack:=fun a ha z=>by
  rcases AZ.mp (I₂.stkSub a z) with q | q
  ·exact absurd (Ac I₂.lt ha) (by rw[q];exact CI _)
  ·exact I₂.nofs ha q
 have hDle:s₂.heap.objs.size≤D:=by omega
 have hCle:s₂.heap.objs.size≤C:=by omega
 have stat:∀ {H':Hp} {ob:Obj},(∀ b∈fp,H' b=none)→∀ b∈fp,aCI (blk X scope N' R) [(D,ob)] H' b:=fun {H' ob} hn b hb =>
  ⟨hn b hb,(below b (fplt b hb)).1,okb.exfs b hb,.inl hb,fun x c e=>(hf b hb).2.2.2.2.1 x c (hclk x c e),fun p hp=>by
   have e:p=(D,ob):=by simpa using hp
   rw[e]
   exact Ne.symm (below b (fplt b hb)).2⟩
 have entry:∀ tk,Inv (blk X scope N' R) [(D,{ cls:=.type "list",data:=.seq ([]:List Value).toArray })] (nH nt cap σ) H₂ { s₂ with heap:=h₁,toks:=tk }:=fun tk=>{
  ok:=okb
  os:=rfl
  bare:=I₂.bare
  base:=Un.kept old
  loc:=by
   refine⟨_,hns₁,fun i x v e1 e2 e3=>?_⟩
   obtain⟨j,hi,hj,hv⟩:=zY e2
   have hx:X.N[j]?=some x:=by
    rw[← hcapN _ _ hj,show nt+(i - nt)=i by omega]
    exact e1
   have hxm:x∈N'.drop nt:=by
    refine AG (i:=i - nt) ?_
    rw[ET,show nt+(i - nt)=i by omega]
    exact e1
   have hfree:=hcapF x hxm
   have hmem:(x,Aw)∈scope.names:=by
    have:∀ (l:List (Str×Ay)),l.lookup x=some .free→(x,Aw)∈l:=by
     intro l
     induction l with
     | nil=>intro q;cases q
     | cons a r ih =>
      intro q
      obtain⟨n,k⟩:=a
      cases hxn:x == n with
      | true =>
       rw[BG,hxn] at q
       obtain rfl:=beq_iff_eq.mp hxn
       cases q
       exact AQ
      | false =>
       rw[BG,hxn] at q
       exact AO _ (ih q)
    exact this _ hfree
   have hk:=hfr (x,.free) hmem rfl
   obtain⟨m,hn,hl⟩:=I₂.loc
   have vis:Vis X.env.scope x:=by
    rcases hk with k | k
    ·exact .inr (.inl k)
    ·exact .inr (.inr k)
   obtain⟨u,ru,lk⟩:=hl j x v hx hv vis
   refine⟨u,ru,?_⟩
   rcases lk with ⟨k,_⟩ | ⟨k,c,hc1,hc2⟩
   ·exfalso
    rcases hk with z | z
    ·rw[z] at k;cases k
    ·rw[z] at k;cases k
   ·obtain⟨d,hd⟩:=hclh x hmem
    have hd':=hclk x d hd
    rw[hc1] at hd'
    cases hd'
    refine .inr ⟨iK hfree,c,hd,?_⟩
    obtain⟨o,ho,hdat⟩:=hc2
    exact⟨o,old c o ho,hdat⟩
  cell:=fun x c e=>by
   obtain⟨v,o,ho,hdat⟩:=I₂.cell x c (hclk x c e)
   exact⟨v,o,old c o ho,hdat⟩
  free:=freshC
  freeC:=fun x c e=>I₂.freeC x c (hclk x c e)
  pin:=fun p hp=>by
   have e:p=(D,{ cls:=.type "list",data:=.seq ([]:List Value).toArray }):=by simpa using hp
   subst e
   exact⟨hacc,freshD,hDC,nofs D hDle,fun v z=>by cases z⟩
  hok:=I₂.hok.kept old
  len:=by rw[aKE,hN] }
 have loop:∀ tk,codeAny (model X.prog X.w) X.A (.compLoop (.ListComp elt [⟨tg,iter,ifs,0⟩] scope pos) 0 (.ref it) (.ref D) (compEnvC scope cl C X.env)) (RR (.ref D) C) { s₂ with heap:=h₁,toks:=tk }:=by
  intro tk
  refine xC (fun n s'=>∃ i ys H' its k,Inv (blk X scope N' R) [(D,{ cls:=.type "list",data:=.seq its.toArray k })] (nH nt cap σ) H' s'∧tn i s'.heap∧(∀ b∈fp,H' b=none)∧bF ys its∧ys.length≤Ak∧W i n ys H') ?_ m0
   ⟨0,[],H₂,[],0,entry tk,T.keep _ _ _ st fun b hb o e=>old b o e,fun b hb=>(hf b hb).1,.nil,BK _,w0⟩
  rintro n s3 ⟨i,ys,H3,its,k,I3,st3,fr3,rv,hz,w3⟩
  have pD:=I3.pin (D,{ cls:=.type "list",data:=.seq its.toArray k }) (by simp)
  rcases turn i n ys H3 w3 with ⟨stop,qn⟩ | ⟨go,hlt,step⟩
  ·-- the end
   refine BB (T.done (blk X scope N' R) rfl rfl rfl hc i _ s3 _ H3 (fun _ _=>False) I3 (stat fr3) st3 stop) (fun r s4 ⟨hr,I4⟩=>?_) fun _ _ z=>z.elim
   subst hr
   have pD4:=I4.pin (D,{ cls:=.type "list",data:=.seq its.toArray k }) (by simp)
   have b4:Un (frs X.stack) fp H₂ H3 s₂.heap s4.heap:=I4.base
   have u4:Un (frs X.stack) fp H₂ (upd H3 D (.lst ys)) s₂.heap s4.heap:={
    keep:=b4.keep
    slot:=b4.slot
    free:=fun b o e n hx=>by
     rw[aI (below b (AV e)).2]
     exact b4.free b o e n hx
    there:=b4.there
    tups:=fun b xs e=>by
     have z:=b4.tups b xs e
     rw[aI (aJ z pD4.2.1)]
     exact z
    frzs:=fun b o u e=>by
     have z:=b4.frzs b o u e
     rw[aI (aJ z pD4.2.1)]
     exact z
    tbls:=fun b ps e=>by
     obtain⟨more,z⟩:=b4.tbls b ps e
     exact⟨more,by rw[aI (aJ z pD4.2.1)];exact z⟩ }
   have hok4:HOk X.prog X.w (upd H3 D (.lst ys)) s4.heap:=fun b u e=>by
    by_cases hb:b=D
    ·subst hb
     rw[aC] at e
     cases e
     exact⟨hz,its,k,rv,pD4.1⟩
    ·rw[aI hb] at e
     exact (I4.hok b u e).stay (fun c v _ q=>q) (fun c q=>by rw[aI (aJ q pD4.2.1)];exact q) fun c xs q=>by rw[aI (aJ q pD4.2.1)];exact q
   have I5:Inv X pins σ (upd H3 D (.lst ys)) s4:=I₂.call' I4.os u4 hok4 I4.bare fun b hb=>⟨(hf b hb).2.2.2.1,(hf b hb).2.1,(hf b hb).2.2.2.2.1,(hf b hb).2.2.2.2.2⟩
   refine hRR D C s4 H3 ys pD4.2.1 qn I5 ?_
   obtain⟨m,hn,_⟩:=I4.loc
   exact⟨⟨m,hn⟩,by rw[aI (Ne.symm hDC)];exact I4.free,fun z=>absurd I₂.lt (by rw[← z];exact Nat.not_lt.mpr hCle),Az I₂.sz hCle,fun x c e=>Ae (Ac (celllt x c e) hCle),fun p hp=>Ae (Ac (pinlt p hp) hCle)⟩
  ·-- a turn
   refine BB (T.item (blk X scope N' R) rfl rfl rfl hc i _ s3 _ H3 (fun _ _=>False) I3 (stat fr3) st3 go) (fun r s4 ⟨u,hr,h4⟩=>?_) fun _ _ z=>z.elim
   subst hr
   refine BB h4 (fun _ s5 ⟨x,H5,I5,r5,y5,st5,fr5⟩=>?_) fun _ _ z=>z.elim
   have I5':=I5.pinned (stat fr5) (T.obj _ _ st5)
   refine BB (hg R _ s5 _ H5 x u _ I5' r5 (hgk _ _ _ _ (step x H5 y5))) (fun _ s6 ⟨σ6,H6,I6,q6,l6,k6⟩=>?_) fun _ _ z=>z.elim
   refine BB (ht R _ s6 σ6 H6 _ I6 q6) (fun ok s7 ⟨H7,I7,q7⟩=>?_) fun _ _ z=>z.elim
   have weak:∀ {H8:Hp} {s8:Shared} {ps:List (Addr×Obj)},Inv (blk X scope N' R) ps σ6 H8 s8→Inv (blk X scope N' R) ps (nH nt cap σ) H8 s8:=fun I8=>I8.weak (by rw[l6]) fun j v e=>by
    obtain⟨_,hj,_,_⟩:=zY e
    rw[k6 j hj]
    exact e
   have tnK:∀ {H8:Hp} {s8:Shared} {σ8:St},Inv (blk X scope N' R) ([(D,{ cls:=.type "list",data:=.seq its.toArray k })]++mK fp s5.heap) σ8 H8 s8→tn (i+1) s8.heap∧∀ b∈fp,H8 b=none:=fun {H8 s8 σ8} I8 =>
    ⟨T.keep _ _ _ st5 fun b hb o e=>(I8.pin (b,o) (Ag _ (Ag _ (kZ hb e)))).1,fun b hb=>by
     obtain⟨o,e,_⟩:=T.obj _ _ st5 b hb
     exact (I8.pin (b,o) (Ag _ (Ag _ (kZ hb e)))).2.1⟩
   cases ok with
   | false =>
    rw[if_neg AR] at q7 ⊢
    obtain⟨m',hm,w7⟩:=q7
    exact⟨m',hm,i+1,ys,H7,its,k,weak I7.unpinned,(tnK I7).1,(tnK I7).2,rv,hz,w7⟩
   | true =>
    rw[if_pos rfl] at q7 ⊢
    refine BB (he R _ s7 σ6 H7 _ I7 q7) (fun xv s8 ⟨y,H8,I8,ry,q8⟩=>?_) fun _ _ z=>z.elim
    obtain⟨m',hm,w8⟩:=q8
    have pD8:=I8.pin (D,{ cls:=.type "list",data:=.seq its.toArray k }) (by simp)
    have hsz:its.toArray.size≤Ak:=by rw[AM,← rv.length];omega
    refine wpAny_list_append_plain (hsz:=hsz) ⟨k,pD8.1⟩ fun h9 hl9 hs9=>?_
    obtain⟨k9,hl9⟩:=hl9
    have tn8:=tnK I8
    have I8':Inv (blk X scope N' R) (mK fp s5.heap) (nH nt cap σ) H8 s8:=(weak I8).pins_of fun p hp=>I8.pin p (Ag _ (Ag _ hp))
    have I9:Inv (blk X scope N' R) (mK fp s5.heap) (nH nt cap σ) H8 { s8 with heap:=h9 }:=I8'.turned (it:=D) (t':=s8.toks) (fun b o hb e=>hs9.extBut b o hb e) pD8.2.1 pD8.2.2.1 (.inr hDle)
     (fun x c e=>Ae (Ac (celllt x c (hclk x c e)) hDle)) fun p hp=>by
      have hp':p∈mK fp s5.heap:=by simpa using hp
      exact Ae (Ac (fplt p.1 (zB hp').1) hDle)
    have e9:h9.get? D=some { cls:=.type "list",data:=.seq (its++[xv]).toArray k9 }:=by
     rw[hl9]
     simp
    refine⟨m',hm,i+1,ys++[y],H8,its++[xv],k9,I9.pins_of fun p hp=>?_,T.keep _ _ _ tn8.1 fun b hb o e=>hs9.extBut b o (Ae (Ac (fplt b hb) hDle)) e,tn8.2,rv.append (.cons ry .nil),by rw[AW];exact hlt,w8⟩
    have e:p=(D,{ cls:=.type "list",data:=.seq (its++[xv]).toArray k9 }):=by simpa using hp
    subst e
    exact⟨e9,pD8.2.1,pD8.2.2.1,pD8.2.2.2.1,fun v z=>by cases z⟩
 exact codeAny_compStart_list (loop _) (T.self _ 0 _ _ _ (T.keep _ _ _ st fun b hb o e=>old b o e) (loop _))
def aQN(nt:Nat)(cap:List Nat)(wi:TI)(g:TG)(tt:TT)(te:TE):TE:=fun σ H Q=>wi σ H fun J H1=>∃ W:CW,(∃ m,W 0 m [] H1)∧∀ i m ys H,W i m ys H→xZ (nH nt cap σ) J g tt te W (fun ys H'=>∀ p,H' p=none→Q (.ref p) (upd H' p (.lst ys))) i m ys H
theorem jK{α:Type}{l:List α}{p:α→Bool}(h:l.all p=true):∀ x∈l,p x=true:=fun x hx=>BS.mp h x hx
theorem bZ{X:Cx}{elt iter tg:Expr}{ifs:List Expr}{scope:Scope}{pos:Pos}{wi:TI}{g:TG}{tt:TT}{te:TE}(N':List Str)(nt:Nat)(cap:List Nat)
 (hc:X.calm=true)(hi:PI X tg iter wi)(hg:∀ R,PG (blk X scope N' R) tg g)(hgk:aEZ nt g)(ht:∀ R,aNY (blk X scope N' R) ifs tt)(he:∀ R,PE (blk X scope N' R) elt te)
 (hcell:(scope.names.all fun y=>!(y.2 == .cell))=true:=by rfl)(hkind:scope.kind=.function:=by rfl)
 (hnames:(scope.names.all fun y=>!(y.2 == .local) || (scope.names.lookup y.1 == some .local))=true:=by rfl)
 (hfr:(scope.names.all fun y=>!(y.2 == .free) || (X.env.kindOf y.1 == some .cell || X.env.kindOf y.1 == some .free))=true:=by rfl)
 (hN:N'.length=nt+cap.length:=by rfl)(hcapN:(cap.map fun j=>X.N[j]?)=(N'.drop nt).map some:=by rfl)(hcapF:((N'.drop nt).all fun x=>scope.names.lookup x == some .free)=true:=by rfl)
 (hs:∀ x,Et iter X.env x=pure x:=by intro _;rfl) :
  PE X (.ListComp elt [⟨tg,iter,ifs,0⟩] scope pos) (aQN nt cap wi g tt te):=by
 intro pins s σ H Q I h
 have hfr':∀ y∈scope.names,y.2=.free→(X.env.kindOf y.1=some .cell∨X.env.kindOf y.1=some .free):=fun y hy e=>by
  have z:=jK hfr y hy
  rw[e] at z
  have z':(X.env.kindOf y.1 == some .cell || X.env.kindOf y.1 == some .free)=true:=z
  rcases EK.mp z' with q | q
  ·exact .inl (beq_iff_eq.mp q)
  ·exact .inr (beq_iff_eq.mp q)
 have hcell':∀ y∈scope.names,y.2≠.cell:=fun y hy e=>by
  have z:=jK hcell y hy
  rw[e] at z
  cases z
 obtain⟨cl,hcl,hclk,hclh⟩:=xD (scope:=scope) (env:=X.env) fun y hy e=>I.ok.has y.1 (hfr' y hy e)
 have hnames':∀ y∈scope.names,y.2=.local→scope.names.lookup y.1=some .local:=fun y hy e=>by
  have z:=jK hnames y hy
  rw[e] at z
  exact beq_iff_eq.mp z
 have hcapN':∀ (k j:Nat),cap[k]?=some j→N'[nt+k]?=X.N[j]?:=fun k j e=>by
  have z:=congrArg (fun l:List (Option Str)=>l[k]?) hcapN
  simp only[AI,e,Option.map_some,ET] at z
  cases q:N'[nt+k]? with
  | none=>rw[q] at z;cases z
  | some x=>rw[q] at z;exact (BA z).symm
 rw[eval_ListComp]
 refine wpAny_comprehension_free (use:=none) rfl hs hcl hkind hnames' (thn (hi pins s σ H _ I h) fun v s1 h1=>thn h1 fun itv s2 h2=>?_)
 obtain⟨it,fp,tn,J,H2,e,I2,T,st2,f2,hw⟩:=h2
 subst e
 refine xB (RR:=fun acc C=>compPost (model X.prog X.w) X.A X.xe none (EP X pins σ Q) acc C) hc I2 T st2 f2 hclk hclh hcell' hkind hfr' hN hcapN' (fun x hx=>beq_iff_eq.mp (jK hcapF x hx)) hg hgk ht he hw ?_
 intro D C s' H' ys hD q I' B
 obtain⟨m,hn⟩:=B.ns
 refine⟨m,hn,fun h' hs'=>⟨.ref D,_,I'.turned (it:=C) (t':=s'.toks) (fun b o hb e=>hs'.extBut b o hb e) B.fr B.ne (.inr B.ab) B.cl B.pn,rfl,q D hD⟩⟩
end L2
namespace L2
open PySem PySem.Spec PyProof.Rows
section
variable{X:Cx}
noncomputable def aQB:V→Option Value
 | .ty n=>some (.type n)
 | .ref a=>some (.ref a)
 | _=>none
theorem aEP{y:V}{c u:Value}(h:aQB y=some c)(r:bM y u):u=c:=by
 cases y with
 | ty n=>cases h;exact r
 | ref a=>cases h;exact r
 | non=>cases h
 | bl b=>cases h
 | int i=>cases h
 | str x=>cases h
 | byt b=>cases h
 | flt b=>cases h
theorem aET:gK X (.builtin "isinstance") (fun xs H Q=>∃ x y c t b,xs=[x,y]∧aQB y=some c∧TyOf X.K H x t∧BF X.K t c=some b∧Q (.bl b) H):=by
 intro pins s σ H xs us Q I r h
 obtain⟨x,y,c,t,b,rfl,hc,ty,e,q⟩:=h
 obtain⟨u,v,rfl,ru,rv⟩:=bF.two r
 obtain rfl:=aEP hc rv
 exact aJR I ru ty e fun tk=>⟨.bl b,H,I.tok tk,rfl,q⟩
theorem tP:∀ {bs:List Bool} {us:List Value},bF (bs.map V.bl) us→LSm.BoolsAre us bs
 | [],us,r=>by
  rw[CO] at r
  cases r
  exact .nil
 | b :: bs,us,r=>by
  rw[AX] at r
  cases r with
  | cons r1 r2 =>
   cases r1
   exact .cons b (tP r2)
theorem kM(hc:X.calm=true):gK X (.builtin "all") (fun xs H Q=>∃ (p:Addr) (bs:List Bool),xs=[.ref p]∧SqL X.K H p (bs.map V.bl)∧Q (.bl (bs.all id)) H):=by
 intro pins s σ H xs us Q I r h
 obtain⟨p,bs,rfl,hq,q⟩:=h
 obtain⟨u,rfl,ru⟩:=bF.one r
 cases ru
 obtain⟨its,rv,pl,hz⟩:=I.list hq
 obtain⟨m,F⟩:=I.fr
 have hb:=tP rv
 have hl:=pl.isList
 have hlt:p<s.heap.objs.size:=by obtain⟨_,e,_⟩:=hl;exact AV e
 refine call_all_walk (Cy hl ?_)
 refine⟨s.heap.objs.size,[s.heap.objs.size,p],[s.heap.objs.size],its.toArray.size,_,_,fun i=>(bs[i]?).getD true,rfl,Walks.list (A:=X.A.in1) (I.ok.hd hc) _ p (Ae hlt) its.toArray,
  ⟨⟨_,Ah _ rfl,rfl,rfl⟩,hl.push _⟩,fun i v s' Q' E' hP hQ=>?_,fun h' tk hk=>?_⟩
 ·obtain⟨b,e,rfl⟩:=hb.get i v (by simpa using hP)
  simp only[e,Option.getD_some] at hQ
  exact Bj hQ
 ·have e:((Aj its.toArray.size).all fun i=>(bs[i]?).getD true)=bs.all id:=by
   rw[AM,hb.length];exact LSm.range_all bs
  rw[e]
  exact⟨.bl _,H,I.kept (LSm.kept_iter hk),rfl,q⟩
theorem aLA:SlR X (fun x lo hi H Q=>∃ z,x=.str z∧z.length≤Ak∧Q (.str (CT z lo hi)) H):=by
 intro pins s σ H x v vl vu lo hi sl Q I rx hs pl pu h
 obtain⟨z,rfl,hz,q⟩:=h
 obtain⟨t,rfl⟩:=rx
 refine⟨"str",_,F.slot_str_getitem.lookup,typeIs_str _ _ _,?_⟩
 have fin:∀ (t':Tok) (k:Nat),EP X pins σ Q (.str (CT z lo hi) t') { s with toks:=k }:=fun t' k=>⟨.str _,H,I.tok k,⟨t',rfl⟩,q⟩
 cases pl with
 | none =>
  cases pu with
  | none=>exact Cv (l:=none) (u:=none) (st:=none) hs rfl (EE ⟨Az (Ee z _ _) hz,fun t' k=>fin t' k⟩)
  | int j uj=>exact Cv (l:=none) (u:=some (j,uj)) (st:=none) hs rfl (EE ⟨Az (Ee z _ _) hz,fun t' k=>fin t' k⟩)
 | int i ui =>
  cases pu with
  | none=>exact Cv (l:=some (i,ui)) (u:=none) (st:=none) hs rfl (EE ⟨Az (Ee z _ _) hz,fun t' k=>fin t' k⟩)
  | int j uj=>exact Cv (l:=some (i,ui)) (u:=some (j,uj)) (st:=none) hs rfl (EE ⟨Az (Ee z _ _) hz,fun t' k=>fin t' k⟩)
theorem bN:OpR X (DW .FloorDiv) (rI (fun _ j=>0<j∧j.natAbs.log2<9000) fun i j=>.int (i / j)):=opI fun i j _ _ _ _ _ hc q=>by
 have h1:(0:Int)<j:=hc.1
 exact floordiv_int (by omega) (by rw[Int.fdiv_eq_ediv_of_nonneg i (by omega)];exact q) (.inl (PyProof.noPylong_of_log2 hc.2))
noncomputable def Its(x:Str):It where
 go:=fun i _=>i<x.cps.size
 yld:=fun i H v H'=>H'=H∧∃ c,x.cps[i]?=some c∧v=.str ⟨#[c]⟩
 stop:=fun i _=>i=x.cps.size
theorem aCN{P:Program}{w:World}{K:AD}{tg:Expr}(it:Addr)(x:Str)(t:Tok)(ty:String)
 (W:∀ A:Around,A.handled=none→Walks P w A it [it] [it] x.cps.size (SignAt x) (fun i h=>h.IsStrIter it ty x t i))
 (hn:["enumerate","zip","dict_itemiterator","dict_reverseitemiterator","odict_iterator","itertools.zip_longest","itertools.pairwise"].contains ty=false)
 (self:∀ (A:Around) (i:Nat) (s:Shared) (Q:Value→Shared→Prop) (E:Value→Shared→Prop),s.heap.IsStrIter it ty x t i→Q (.ref it) s→wpAny (model P w) A (pyIter (.ref it)) Q E s) :
  Turn P w K tg (Its x) [it] it (fun i h=>h.IsStrIter it ty x t i) where
 mem:=by simp
 obj:=fun i h st b hb=>by
  have e:b=it:=by simpa using hb
  subst e
  obtain⟨o,e,c,d⟩:=st
  exact⟨o,e,fun v z=>by rw[d] at z;cases z⟩
 keep:=fun i h h' st k=>let ⟨o,ho,r⟩:=st;⟨o,k it (by simp) o ho,r⟩
 item:=by
  intro X hP hw hK hc i pins s σ H E I hf st hg
  subst hP hw hK
  obtain⟨f0,f1,f2,f3,f4,f5⟩:=hf it (by simp)
  refine (W X.A (I.ok.hd hc)).item i s _ _ hg st fun v h' tk hv st' kk=>?_
  obtain⟨c,u,hx,rfl⟩:=hv
  have I1:Inv X pins σ H { s with heap:=h',toks:=tk }:=I.turned (fun b o hb e=>kk b o (by simpa using hb) e) f0 f1 f3 f4 f5
  obtain⟨o,e,cc,d⟩:=id st'
  exact⟨_,rfl,aIE (s:={ s with heap:=h',toks:=tk }) e cc d hn ⟨.str ⟨#[c]⟩,H,I1,⟨u,rfl⟩,⟨rfl,c,hx,rfl⟩,st',fun b hb=>(hf b hb).1⟩⟩
 done:=by
  intro X hP hw hK hc i pins s σ H E I hf st hg
  subst hP hw hK
  obtain⟨f0,f1,f2,f3,f4,f5⟩:=hf it (by simp)
  have hg':i=x.cps.size:=hg
  subst hg'
  exact (W X.A (I.ok.hd hc)).done s _ _ st fun h' tk kk=>⟨rfl,I.turned (fun b o hb e=>kk b o (by simpa using hb) e) f0 f1 f3 f4 f5⟩
 self:=self
def aWM(tl:TE):TI:=fun σ H R=>tl σ H fun x H1=>∃ z,x=.str z∧R (Its z) H1
theorem aSD{tg l:Expr}{tl:TE}(hl:PE X l tl):PI X tg l (aWM tl):=by
 intro pins s σ H R I h
 refine thn (hl pins s σ H _ I h) fun v s1 ⟨x,H1,I1,r1,q1⟩=>?_
 obtain⟨z,e,q⟩:=q1
 subst e
 obtain⟨t,rfl⟩:=r1
 have fp:∀ b∈[s1.heap.objs.size],aCI X pins H1 b:=fun b hb=>by
  have e:b=s1.heap.objs.size:=by simpa using hb
  subst e
  exact I1.fpOk (AS _) (I1.hok.fresh (AS _))
 cases ha:z.cps.all (·<128)
 ·refine wpAny_pyIter_wide ha ?_
  exact⟨s1.heap.objs.size,[s1.heap.objs.size],_,_,H1,rfl,I1.kept (t':=s1.toks) fun b o e=>AJ _ e,aCN _ z t "str_iterator" (fun A hA=>Walks.strWide hA _ z t) (by decide) (fun A i s Q E st h=>wpAny_pyIter_striter_wide st h),
   ⟨_,Ah _ rfl,rfl,rfl⟩,fp,q⟩
 ·refine wpAny_pyIter_ascii ha ?_
  exact⟨s1.heap.objs.size,[s1.heap.objs.size],_,_,H1,rfl,I1.kept (t':=s1.toks) fun b o e=>AJ _ e,aCN _ z t "str_ascii_iterator" (fun A hA=>Walks.strAscii hA _ z t) (by decide) (fun A i s Q E st h=>wpAny_pyIter_striter_ascii st h),
   ⟨_,Ah _ rfl,rfl,rfl⟩,fp,q⟩
end
theorem aNL{σb:St}{x:Str}{g:TG}{tt:TT}{te:TE}{fin:List V→Hp→Prop}{H:Hp}(hz:x.cps.size≤Ak)(Pv:Nat→List V→Hp→Prop)(h0:Pv 0 [] H)(hl:∀ i ys H,Pv i ys H→ys.length≤i)
 (hs:∀ i c ys H (K:VK) (K':Hp→Prop),x.cps[i]?=some c→Pv i ys H→(∀ y H4,Pv (i+1) (ys++[y]) H4→K y H4)→(∀ H3,Pv (i+1) ys H3→K' H3) →
   g (.str ⟨#[c]⟩) σb H fun σ2 H2=>tt σ2 H2 fun b H3=>if b=true then te σ2 H3 K else K' H3)
 (hd:∀ ys H,Pv x.cps.size ys H→fin ys H):∃ W:CW,(∃ m,W 0 m [] H)∧∀ i m ys H,W i m ys H→xZ σb (Its x) g tt te W fin i m ys H:=by
 refine⟨fun i m ys H=>m=x.cps.size - i∧i≤x.cps.size∧Pv i ys H,⟨x.cps.size,by simp,BK _,h0⟩,?_⟩
 rintro i m ys H ⟨rfl,hi,p⟩
 by_cases hlt:i<x.cps.size
 ·refine .inr ⟨hlt,?_,fun v H' y=>?_⟩
  ·have:=hl i ys H p;omega
  ·obtain⟨e,c,hx,rfl⟩:=y
   subst e
   exact hs i c ys _ _ _ hx p (fun y H4 q=>⟨x.cps.size - (i+1),by omega,rfl,hlt,q⟩) fun H3 q=>⟨x.cps.size - (i+1),by omega,rfl,hlt,q⟩
 ·have e:i=x.cps.size:=by omega
  subst e
  exact .inl ⟨rfl,hd ys H p⟩
theorem bE{F:AD}{a:Addr}{xs:List V}{σb:St}{g:TG}{tt:TT}{te:TE}{fin:List V→Hp→Prop}{H:Hp}(hz:xs.length≤Ak)(Pv:Nat→List V→Hp→Prop)(h0:Pv 0 [] H)
 (hl:∀ i ys H,i≤xs.length→Pv i ys H→SqL F H a xs∧ys.length≤i)
 (hs:∀ i x ys H (K:VK) (K':Hp→Prop),xs[i]?=some x→Pv i ys H→(∀ y H4,Pv (i+1) (ys++[y]) H4→K y H4)→(∀ H3,Pv (i+1) ys H3→K' H3) →
   g x σb H fun σ2 H2=>tt σ2 H2 fun b H3=>if b=true then te σ2 H3 K else K' H3)
 (hd:∀ ys H,Pv xs.length ys H→fin ys H):∃ W:CW,(∃ m,W 0 m [] H)∧∀ i m ys H,W i m ys H→xZ σb (Itl F a) g tt te W fin i m ys H:=by
 refine⟨fun i m ys H=>m=xs.length - i∧i≤xs.length∧Pv i ys H,⟨xs.length,by simp,BK _,h0⟩,?_⟩
 rintro i m ys H ⟨rfl,hi,p⟩
 obtain⟨q,ql⟩:=hl i ys H hi p
 by_cases hlt:i<xs.length
 ·refine .inr ⟨⟨xs,xs[i],q,by simp[hlt]⟩,by omega,fun x H' y=>?_⟩
  obtain⟨e,y⟩:=y
  subst e
  exact hs i x ys _ _ _ (y xs q) p (fun y H4 q=>⟨xs.length - (i+1),by omega,rfl,hlt,q⟩) fun H3 q=>⟨xs.length - (i+1),by omega,rfl,hlt,q⟩
 ·have e:i=xs.length:=by omega
  subst e
  exact .inl ⟨⟨xs,q,AS _⟩,hd ys H p⟩
theorem xA{lo:Int}{n:Nat}{σb:St}{g:TG}{tt:TT}{te:TE}{fin:List V→Hp→Prop}{H:Hp}(hz:n≤Ak)(Pv:Nat→List V→Hp→Prop)(h0:Pv 0 [] H)(hl:∀ i ys H,Pv i ys H→ys.length≤i)
 (hs:∀ i ys H (K:VK) (K':Hp→Prop),i<n→Pv i ys H→(∀ y H4,Pv (i+1) (ys++[y]) H4→K y H4)→(∀ H3,Pv (i+1) ys H3→K' H3) →
   g (.int (lo+i)) σb H fun σ2 H2=>tt σ2 H2 fun b H3=>if b=true then te σ2 H3 K else K' H3)
 (hd:∀ ys H,Pv n ys H→fin ys H):∃ W:CW,(∃ m,W 0 m [] H)∧∀ i m ys H,W i m ys H→xZ σb (Itr lo n) g tt te W fin i m ys H:=by
 refine⟨fun i m ys H=>m=n - i∧i≤n∧Pv i ys H,⟨n,by simp,BK _,h0⟩,?_⟩
 rintro i m ys H ⟨rfl,hi,p⟩
 by_cases hlt:i<n
 ·refine .inr ⟨hlt,?_,fun v H' y=>?_⟩
  ·have:=hl i ys H p;omega
  ·obtain⟨e,y⟩:=y
   subst e y
   exact hs i ys _ _ _ hlt p (fun y H4 q=>⟨n - (i+1),by omega,rfl,hlt,q⟩) fun H3 q=>⟨n - (i+1),by omega,rfl,hlt,q⟩
 ·have e:i=n:=by omega
  subst e
  exact .inl ⟨AS _,hd ys H p⟩
end L2
namespace L2
open PySem PySem.Spec PyProof.Rows
structure DefAt (K:AD) (mg:Str→Option Value) (x:Str) (st:Stmt) (ps:List Str):Prop where
 ex:∃ (f:Addr) (fd:Bb),Fun K x x st f fd∧gL K fd ps []∧mg x=some (.ref f)
structure Fc (P:Program) (w:World) (K:AD) (mg:Str→Option Value) (base:Heap) (k:Nat) (x:Str) (ps:List Str) (sp:Sp):Prop where
 ex:∃ (f:Addr) (fd:Bb),FnOk P w K mg base CX0 k f fd ps sp∧gL K fd ps []∧mg x=some (.ref f)∧Bm K (.ref f)=true
section
variable{P:Program}{w:World}{K:AD}{mg:Str→Option Value}{base:Heap}
theorem DefAt.fc{x:Str}{st:Stmt}{N ps:List Str}{k:Nat}{sp:Sp}(D:DefAt K mg x st ps)(S:FnScope N ps (aF st))(len:∀ vs H Q E,sp vs H Q E→vs.length=ps.length)
 (hbody:∀ (f:Addr) (cdv:Value) (A:Around) (outer:List Env) (s:Shared) (H:Hp) (vs:List V) (Q:VK) (E:XK),Room k (A.deeper (envOfC x (aF st) s.heap.objs.size f cdv))→sp vs H Q E →
   ∃ t,PSs (gZ CX0 P w K mg base N x (aF st) f cdv A outer s H E).nox (cQ st) t∧t { nx:=fun _ H'=>Q .non H',rt:=Q } (start N vs) H):Fc P w K mg base (k+1) x ps sp:=by
 obtain⟨f,fd,F,b,m⟩:=D.ex
 exact⟨f,fd,F.ok S len fun cdv A outer s H vs Q E hr h=>hbody f cdv A outer s H vs Q E hr h,b,m,F.kp⟩
theorem def_mk{h:Heap}{x:Str}{st:Stmt}{ps:List Str}{f:Addr}{oc:Value}{od an:Option Addr}{osl:Array (Option Value)}{kV doc pm cdv ct:Value}(X:K.In h)(G:h.Ns Bv mg)
 (a:PySem.W.nsIn K Bv x=some (some (.ref f)))(l:K.lookup f=some ⟨oc,od,.func (Br x x (hJ st) (cQ st) (aF st) .none kV doc pm an cdv ct),osl⟩)
 (c:Cj K cdv x=true)(k:Bm K (.ref f)=true)
 (hb:∀ (kV doc pm:Value) (an:Option Addr) (cdv ct:Value) (us:List Value),us.length=ps.length→EV (Br x x (hJ st) (cQ st) (aF st) .none kV doc pm an cdv ct) ⟨us,[]⟩=pure (ps.zip us)):DefAt K mg x st ps :=
 ⟨f,_,sC l c k,(sC l c k).binds hb,PySem.W.mg_of X G a⟩
end
section
variable{X:Cx}{k:Nat}{ps:List Str}{sp:Sp}{x:Str}{p pos:Pos}{e:Expr}{es:List Expr}{t:TA}
theorem bC(F:Fc X.prog X.w X.K X.mg X.base k x ps sp)(hr:Room k X.A)(ha:PA X (e :: es) t)(hg:Gl X x:=by rfl)(hdb:(x == ("__debug__":Str))=false:=by decide)
 (he:Al (e :: es) X.env=(false,eval e X.env) :: Al es X.env:=by rfl)(hpl:(backTo pos (Al es X.env)).any (·.1)=false:=by rfl) :
  PE X (.Call (.Name x p) (e :: es) [] pos) (yA sp [] E0 t):=by
 obtain⟨f,fd,G,b,m,kp⟩:=F.ex
 exact aHX G hr hg m kp b .nil aHY ha hdb he hpl
end
def sp1(f:V→Hp→VK→Prop):Sp:=fun vs H Q _=>∃ x,vs=[x]∧f x H Q
def sp2(f:V→V→Hp→VK→Prop):Sp:=fun vs H Q _=>∃ x y,vs=[x,y]∧f x y H Q
def sp3(f:V→V→V→Hp→VK→Prop):Sp:=fun vs H Q _=>∃ x y z,vs=[x,y,z]∧f x y z H Q
theorem oE{f:V→Hp→VK→Prop}:∀ vs H Q E,sp1 f vs H Q E→vs.length=1:=fun vs H Q E ⟨x,e,_⟩=>by rw[e];rfl
theorem gW{f:V→V→Hp→VK→Prop}:∀ vs H Q E,sp2 f vs H Q E→vs.length=2:=fun vs H Q E ⟨x,y,e,_⟩=>by rw[e];rfl
theorem rS{f:V→V→V→Hp→VK→Prop}:∀ vs H Q E,sp3 f vs H Q E→vs.length=3:=fun vs H Q E ⟨x,y,z,e,_⟩=>by rw[e];rfl
theorem bD:BN "isinstance"=some (.builtin "isinstance"):=by decide +kernel
theorem iQ:BN "all"=some (.builtin "all"):=by decide +kernel
theorem bJ:BN "len"=some (.builtin "len"):=by decide +kernel
theorem aKC:BN "max"=some (.builtin "max"):=by decide +kernel
theorem zX:BN "min"=some (.builtin "min"):=by decide +kernel
theorem zW:BN "str"=some (.type "str"):=by decide +kernel
theorem aKD:BN "int"=some (.type "int"):=by decide +kernel
theorem xF:BN "bool"=some (.type "bool"):=by decide +kernel
theorem dX:BN "list"=some (.type "list"):=by decide +kernel
theorem tO:BN "tuple"=some (.type "tuple"):=by decide +kernel
theorem jC:BN "dict"=some (.type "dict"):=by decide +kernel
theorem sM:BN "set"=some (.type "set"):=by decide +kernel
inductive Pl (K:AD) (H:Hp):V→Prop where
 | non:Pl K H .non
 | bl (b:Bool):Pl K H (.bl b)
 | int (i:Int):Pl K H (.int i)
 | str (x:Str):Pl K H (.str x)
 | lst {a:Addr} {xs:List V} (e:H a=some (.lst xs)):Pl K H (.ref a)
 | frz {a:Addr} {o:Obj} {xs:List V} (e:H a=some (.frz o (.lst xs))):Pl K H (.ref a)
 | tup {a:Addr} {xs:List V} (e:H a=some (.tup xs)):Pl K H (.ref a)
 | dK {a:Addr} {kvs:List (Key×V)} (e:H a=some (.dK kvs)):Pl K H (.ref a)
theorem gG(K:AD)(n:String):BF K (.type n) (.type n)=some true:=by
 unfold BF
 rw[if_pos (by simp)]
end L2
namespace L2
open PySem PySem.Spec PyProof.Rows
def jR(mg:Str→Option Value)(x:Str)(v:V):Prop:=∃ u,mg x=some u∧bM v u
theorem rK{X:Cx}{x:Str}{v:V}{pos:Pos}(h:jR X.mg x v)(hg:Gl X x:=by rfl)(hd:(x == ("__debug__":Str))=false:=by decide):PE X (.Name x pos) (tC v):=by
 obtain⟨u,hm,r⟩:=h
 exact aBG hg hm r hd
theorem glob_mk{K:AD}{mg:Str→Option Value}{h:Heap}{x:Str}{v:V}{u:Value}(X:K.In h)(G:h.Ns Bv mg)(a:PySem.W.nsIn K Bv x=some (some u))(r:bM v u):jR mg x v:=⟨u,PySem.W.mg_of X G a,r⟩
end L2
namespace L2
open PySem PySem.Spec PyProof.Rows
noncomputable def sF:HO→Bool
 | .lst _=>true
 | .dK _=>true
 | .set _ _=>true
 | .ext _=>true
 | .rng _ _=>true
 | _=>false
def gJ(H' H'':Hp):Prop:=∀ b,H'' b=H' b∨(H'' b=none∧∃ o,H' b=some o∧sF o=true)
theorem gJ.refl(H:Hp):gJ H H:=fun _=>.inl rfl
theorem gJ.trans{H1 H2 H3:Hp}(a:gJ H1 H2)(b:gJ H2 H3):gJ H1 H3:=fun c=>by
 rcases b c with e | ⟨e,o,q,d⟩
 ·rcases a c with e' | ⟨e',o,q,d⟩
  ·exact .inl (e.trans e')
  ·exact .inr ⟨e.trans e',o,q,d⟩
 ·rcases a c with e' | ⟨e',_⟩
  ·exact .inr ⟨e,o,e'▸q,d⟩
  ·rw[e'] at q;cases q
theorem gJ.new{H:Hp}{p:Addr}{o:HO}(h:H p=none)(d:sF o=true):gJ (upd H p o) H:=fun b=>by
 by_cases hb:b=p
 ·subst hb
  exact .inr ⟨h,o,aC,d⟩
 ·exact .inl (aI hb).symm
theorem gJ.lst{H:Hp}{p:Addr}{xs:List V}(h:H p=none):gJ (upd H p (.lst xs)) H:=gJ.new h rfl
def cW(Q:VK):VK:=fun v H'=>∃ H'',gJ H' H''∧Q v H''
theorem cW.of{Q:VK}{v:V}{H H':Hp}(d:gJ H' H)(q:Q v H):cW Q v H':=⟨H,d,q⟩
theorem HOk.drop{P:Program}{w:World}{H' H'':Hp}{h:Heap}(d:gJ H' H'')(ok:HOk P w H' h):HOk P w H'' h:=fun b o e=>by
 have e':H' b=some o:=by
  rcases d b with z | ⟨z,_⟩
  ·exact z.symm.trans e
  ·rw[z] at e;cases e
 refine (ok b o e').stay (fun _ _ _ q=>q) (fun c q=>?_) fun c xs q=>?_
 ·rcases d c with z | ⟨_,o',z',dr⟩
  ·exact z.trans q
  ·rw[q] at z';cases z';cases dr
 ·rcases d c with z | ⟨_,o',z',dr⟩
  ·exact z.trans q
  ·rw[q] at z';cases z';cases dr
theorem Un.drop{fs ex:List Addr}{H H' H'':Hp}{h h':Heap}(d:gJ H' H'')(u:Un fs ex H H' h h'):Un fs ex H H'' h h' where
 keep:=u.keep
 slot:=u.slot
 free:=fun b o e n hx=>by
  rcases d b with z | ⟨z,_⟩
  ·exact z.trans (u.free b o e n hx)
  ·exact z
 there:=u.there
 tups:=fun b xs e=>by
  have q:=u.tups b xs e
  rcases d b with z | ⟨_,o',z',dr⟩
  ·exact z.trans q
  ·rw[q] at z';cases z';cases dr
 frzs:=fun b o v e=>by
  have q:=u.frzs b o v e
  rcases d b with z | ⟨_,o',z',dr⟩
  ·exact z.trans q
  ·rw[q] at z';cases z';cases dr
 tbls:=fun b ps e=>by
  obtain⟨m,q⟩:=u.tbls b ps e
  rcases d b with z | ⟨_,o',z',dr⟩
  ·exact⟨m,z.trans q⟩
  ·rw[q] at z';cases z';cases dr
theorem FnOk.drop{P:Program}{w:World}{K:AD}{mg:Str→Option Value}{base:Heap}{k:Nat}{f:Addr}{fd:Bb}{ps:List Str}{sp:Sp}(len:∀ vs H Q E,sp vs H Q E→vs.length=ps.length)
 (F:FnOk P w K mg base CX0 k f fd ps (fun vs H Qd E=>∃ Q,sp vs H Q E∧Qd=cW Q)):FnOk P w K mg base CX0 k f fd ps sp:=by
 refine⟨len,fun A outer s H args us vs Q E hr he hb hv hs=>CY (F.run A outer s H args us vs (cW Q) E hr he hb hv ⟨Q,hs,rfl⟩) fun r s' h=>?_⟩
 cases r with
 | error e=>exact h
 | ok fl =>
  cases fl with
  | ret u =>
   obtain⟨v,H',os,bare,un,hok,rv,H'',d,q⟩:=h
   exact⟨v,H'',os,bare,un.drop d,hok.drop d,rv,q⟩
  | next=>exact h
  | brk=>exact h
  | cont=>exact h
theorem DefAt.fcD{P:Program}{w:World}{K:AD}{mg:Str→Option Value}{base:Heap}{x:Str}{st:Stmt}{N ps:List Str}{k:Nat}{sp:Sp}(D:DefAt K mg x st ps)(S:FnScope N ps (aF st))(len:∀ vs H Q E,sp vs H Q E→vs.length=ps.length)
 (hbody:∀ (f:Addr) (cdv:Value) (A:Around) (outer:List Env) (s:Shared) (H:Hp) (vs:List V) (Q:VK) (E:XK),Room k (A.deeper (envOfC x (aF st) s.heap.objs.size f cdv))→sp vs H Q E →
   ∃ t,PSs (gZ CX0 P w K mg base N x (aF st) f cdv A outer s H E).nox (cQ st) t∧t { nx:=fun _ H'=>cW Q .non H',rt:=cW Q } (start N vs) H):Fc P w K mg base (k+1) x ps sp:=by
 obtain⟨f,fd,F,b,m⟩:=D.ex
 refine⟨f,fd,FnOk.drop len (F.ok S (fun vs H Q E ⟨Q',h,_⟩=>len vs H Q' E h) fun cdv A outer s H vs Q E hr ⟨Q',h,e⟩=>?_),b,m,F.kp⟩
 subst e
 exact hbody f cdv A outer s H vs Q' E hr h
end L2
namespace L2
open PySem PySem.Spec PyProof.Rows
theorem aH.upd{H:Hp}{p:Addr}{o:HO}(h:H p=none):aH H (upd H p o):=fun b u e=>by
 rw[aI (aJ e h)]
 exact e
end L2
namespace L2
open PySem PySem.Spec PyProof.Rows
theorem kE{X:Cx}{x:Str}{n:String}{pos:Pos}(hm:X.mg x=none)(hv:BN x=some (.type n))(hg:Gl X x:=by rfl)(hn:x≠"__name__":=by decide)(hd:(x == ("__debug__":Str))=false:=by decide):PE X (.Name x pos) (tC (.ty n)) :=
 aPC hg hm hv rfl hn hd
end L2
namespace L2
theorem aM{n:Nat}(h:Nat.ble n 1000=true):n≤PySem.sizeLine:=Az (Nat.le_of_ble_eq_true h) (by decide)
end L2
namespace L2
open PySem PySem.Spec PyProof.Rows
end L2
namespace L2
open PySem PySem.Spec PyProof.Rows
inductive Dv where
 | non | bl (b:Bool) | int (i:Int) | str (x:Str) | lst (ds:List Dv) | tup (ds:List Dv) | dct (ks:List Key) (ds:List Dv)
mutual
def Is(H:Hp):Dv→V→Prop
 | .non,v=>v=.non
 | .bl b,v=>v=.bl b
 | .int i,v=>v=.int i
 | .str x,v=>v=.str x
 | .lst ds,v=>∃ a vs,v=.ref a∧H a=some (.lst vs)∧IsL H ds vs
 | .tup ds,v=>∃ a vs,v=.ref a∧H a=some (.tup vs)∧IsL H ds vs
 | .dct ks ds,v=>∃ a vs,v=.ref a∧H a=some (.dK (ks.zip vs))∧vs.length=ks.length∧IsL H ds vs
def IsL(H:Hp):List Dv→List V→Prop
 | [],vs=>vs=[]
 | d :: ds,vs=>∃ v r,vs=v :: r∧Is H d v∧IsL H ds r
end
noncomputable def aSX:HO→Bool
 | .lst _=>true
 | .tup _=>true
 | .dK _=>true
 | _=>false
def aEY(H H':Hp):Prop:=∀ b o,H b=some o→aSX o=true→H' b=some o
mutual
theorem Is.sameD{H H':Hp}(S:aEY H H'):∀ (d:Dv) (v:V),Is H d v→Is H' d v
 | .non,_,h=>h
 | .bl _,_,h=>h
 | .int _,_,h=>h
 | .str _,_,h=>h
 | .lst ds,_,⟨a,vs,e,o,h⟩=>⟨a,vs,e,S _ _ o rfl,IsL.sameD S ds vs h⟩
 | .tup ds,_,⟨a,vs,e,o,h⟩=>⟨a,vs,e,S _ _ o rfl,IsL.sameD S ds vs h⟩
 | .dct ks ds,_,⟨a,vs,e,o,l,h⟩=>⟨a,vs,e,S _ _ o rfl,l,IsL.sameD S ds vs h⟩
theorem IsL.sameD{H H':Hp}(S:aEY H H'):∀ (ds:List Dv) (vs:List V),IsL H ds vs→IsL H' ds vs
 | [],_,h=>h
 | d :: ds,_,⟨v,r,e,h,t⟩=>⟨v,r,e,Is.sameD S d v h,IsL.sameD S ds r t⟩
end
theorem Is.same{H H':Hp}(S:aH H H')(d:Dv)(v:V)(h:Is H d v):Is H' d v:=Is.sameD (fun b o e _=>S b o e) d v h
theorem IsL.same{H H':Hp}(S:aH H H')(ds:List Dv)(vs:List V)(h:IsL H ds vs):IsL H' ds vs:=IsL.sameD (fun b o e _=>S b o e) ds vs h
mutual
noncomputable def aBW:Dv→Bool
 | .lst _=>false
 | .dct _ _=>false
 | .tup ds=>zN ds
 | _=>true
noncomputable def zN:List Dv→Bool
 | []=>true
 | d :: ds=>aBW d && zN ds
end
def gN(H H':Hp):Prop:=∀ a xs,H a=some (.tup xs)→H' a=some (.tup xs)
mutual
theorem Is.keep{H H':Hp}(S:gN H H'):∀ (d:Dv) (v:V),aBW d=true→Is H d v→Is H' d v
 | .non,_,_,h=>h
 | .bl _,_,_,h=>h
 | .int _,_,_,h=>h
 | .str _,_,_,h=>h
 | .lst ds,_,f,_=>by cases f
 | .tup ds,_,f,⟨a,vs,e,o,h⟩=>⟨a,vs,e,S _ _ o,IsL.keep S ds vs f h⟩
 | .dct ks ds,_,f,_=>by cases f
theorem IsL.keep{H H':Hp}(S:gN H H'):∀ (ds:List Dv) (vs:List V),zN ds=true→IsL H ds vs→IsL H' ds vs
 | [],_,_,h=>h
 | d :: ds,_,f,⟨v,r,e,h,t⟩=>⟨v,r,e,Is.keep S d v (Ai.mp f).1 h,IsL.keep S ds r (Ai.mp f).2 t⟩
end
mutual
noncomputable def deq:Dv→Dv→Bool
 | .non,.non=>true
 | .bl a,.bl b=>a == b
 | .bl a,.int b=>(if a then 1 else 0) == b
 | .int a,.bl b=>a == (if b then 1 else 0)
 | .int a,.int b=>a == b
 | .str a,.str b=>a == b
 | .lst a,.lst b=>uB a b
 | .tup a,.tup b=>uB a b
 | _,_=>false
noncomputable def uB:List Dv→List Dv→Bool
 | [],[]=>true
 | a :: r,b :: q=>deq a b && uB r q
 | _,_=>false
end
mutual
noncomputable def aY:Nat→Dv→Bool
 | _,.dct _ _=>false
 | 0,.lst _=>false
 | 0,.tup _=>false
 | n+1,.lst ds=>cI n ds
 | n+1,.tup ds=>cI n ds
 | _,_=>true
noncomputable def cI:Nat→List Dv→Bool
 | _,[]=>true
 | n,d :: ds=>aY n d && cI n ds
end
mutual
theorem kK:∀ (n:Nat) (d:Dv),aY n d=true→deq d d=true
 | _,.non,_=>rfl
 | _,.bl b,_=>beq_self_eq_true b
 | _,.int i,_=>beq_self_eq_true i
 | _,.str x,_=>beq_self_eq_true x
 | 0,.lst ds,f=>by simp[aY] at f
 | 0,.tup ds,f=>by simp[aY] at f
 | n+1,.lst ds,f=>sG n ds (by simpa [aY] using f)
 | n+1,.tup ds,f=>sG n ds (by simpa [aY] using f)
 | n,.dct ks ds,f=>by simp[aY] at f
theorem sG:∀ (n:Nat) (ds:List Dv),cI n ds=true→uB ds ds=true
 | _,[],_=>rfl
 | n,d :: ds,f=>by
  rw[cI,AU] at f
  show (deq d d && uB ds ds)=true
  rw[kK n d f.1,sG n ds f.2];rfl
end
theorem IsL.length{H:Hp}:∀ {ds:List Dv} {vs:List V},IsL H ds vs→vs.length=ds.length
 | [],_,h=>by rw[show _=[] from h];rfl
 | d :: ds,_,⟨v,r,e,_,t⟩=>by rw[e,Af,Af,IsL.length t]
mutual
theorem Is.inj{H:Hp}:∀ (d e:Dv) (v:V),Is H d v→Is H e v→(∃ n,aY n d=true)→(∃ n,aY n e=true)→d=e
 | .non,e,v,h,h',_,_=>by
  cases e <;> simp_all [Is]
 | .bl b,e,v,h,h',_,_=>by
  cases e <;> simp_all [Is]
 | .int b,e,v,h,h',_,_=>by
  cases e <;> simp_all [Is]
 | .str b,e,v,h,h',_,_=>by
  cases e <;> simp_all [Is]
 | .lst ds,e,v,⟨a,vs,q,o,h⟩,h',⟨n,f⟩,⟨m,g⟩=>by
  subst q
  cases e with
  | lst es =>
   obtain⟨a',vs',q',o',h'⟩:=h'
   cases q'
   rw[o] at o'
   cases o'
   cases n with
   | zero=>simp[aY] at f
   | succ n =>
    cases m with
    | zero=>simp[aY] at g
    | succ m=>rw[IsL.inj ds es vs h h' ⟨n,by simpa [aY] using f⟩ ⟨m,by simpa [aY] using g⟩]
  | tup es =>
   obtain⟨a',vs',q',o',h'⟩:=h'
   cases q'
   rw[o] at o'
   cases o'
  | dct ks es=>simp[aY] at g
  | _=>simp_all [Is]
 | .tup ds,e,v,⟨a,vs,q,o,h⟩,h',⟨n,f⟩,⟨m,g⟩=>by
  subst q
  cases e with
  | tup es =>
   obtain⟨a',vs',q',o',h'⟩:=h'
   cases q'
   rw[o] at o'
   cases o'
   cases n with
   | zero=>simp[aY] at f
   | succ n =>
    cases m with
    | zero=>simp[aY] at g
    | succ m=>rw[IsL.inj ds es vs h h' ⟨n,by simpa [aY] using f⟩ ⟨m,by simpa [aY] using g⟩]
  | lst es =>
   obtain⟨a',vs',q',o',h'⟩:=h'
   cases q'
   rw[o] at o'
   cases o'
  | dct ks es=>simp[aY] at g
  | _=>simp_all [Is]
 | .dct ks ds,e,v,_,h',⟨n,f⟩,_=>by simp[aY] at f
theorem IsL.inj{H:Hp}:∀ (ds es:List Dv) (vs:List V),IsL H ds vs→IsL H es vs→(∃ n,cI n ds=true)→(∃ n,cI n es=true)→ds=es
 | [],es,vs,h,h',_,_=>by
  rw[show vs=[] from h] at h'
  cases es with
  | nil=>rfl
  | cons e es=>obtain⟨v,r,q,_⟩:=h';cases q
 | d :: ds,es,vs,⟨v,r,q,h,t⟩,h',⟨n,f⟩,⟨m,g⟩=>by
  subst q
  cases es with
  | nil=>cases (show v :: r=[] from h')
  | cons e es =>
   obtain⟨v',r',q',h',t'⟩:=h'
   cases q'
   rw[cI,AU] at f g
   rw[Is.inj d e v h h' ⟨n,f.1⟩ ⟨m,g.1⟩,IsL.inj ds es r t t' ⟨n,f.2⟩ ⟨m,g.2⟩]
end
theorem IsL.get{H:Hp}:∀ {ds:List Dv} {vs:List V} {i:Nat} {d:Dv},IsL H ds vs→ds[i]?=some d→∃ v,vs[i]?=some v∧Is H d v
 | [],_,_,_,_,e=>by simp at e
 | d :: ds,_,0,d',⟨v,r,e,h,t⟩,q=>by
  simp at q
  subst q e
  exact⟨v,rfl,h⟩
 | d :: ds,_,i+1,d',⟨v,r,e,h,t⟩,q=>by
  subst e
  obtain⟨u,h1,h2⟩:=IsL.get (i:=i) t (by simpa using q)
  exact⟨u,by simpa using h1,h2⟩
theorem pL:∀ (ds es:List Dv),ds.length=es.length→(Aj ds.length).all (fun j=>deq (ds.getD j .non) (es.getD j .non))=uB ds es
 | [],[],_=>rfl
 | d :: ds,e :: es,h=>by
  have ih:=pL ds es (by simpa using h)
  rw[Af,List.range_succ_eq_map,Cg,DH]
  show (deq d e && (Aj ds.length).all (fun j=>deq (ds.getD j .non) (es.getD j .non)))=(deq d e && uB ds es)
  rw[ih]
 | [],_ :: _,h=>by simp at h
 | _ :: _,[],h=>by simp at h
theorem wW:∀ (ds es:List Dv),ds.length≠es.length→uB ds es=false
 | [],[],h=>absurd rfl h
 | d :: ds,e :: es,h=>by
  show (deq d e && uB ds es)=false
  rw[wW ds es (fun q=>h (by simp[q]))]
  simp
 | [],_ :: _,_=>rfl
 | _ :: _,[],_=>rfl
theorem nB:∀ {n:Nat} {ds:List Dv} {i:Nat} {d:Dv},cI n ds=true→ds[i]?=some d→aY n d=true
 | n,[],_,_,_,e=>by simp at e
 | n,d :: ds,0,d',f,e=>by
  simp at e
  subst e
  rw[cI,AU] at f
  exact f.1
 | n,d :: ds,i+1,d',f,e=>by
  rw[cI,AU] at f
  exact nB (i:=i) f.2 (by simpa using e)
theorem IsL.snoc{H:Hp}{d:Dv}{v:V}(h:Is H d v):∀ {ds:List Dv} {vs:List V},IsL H ds vs→IsL H (ds++[d]) (vs++[v])
 | [],_,e=>by
  rw[show _=[] from e]
  exact⟨v,[],rfl,h,rfl⟩
 | d' :: ds,_,⟨v',r,e,h',t⟩=>by
  subst e
  exact⟨v',r++[v],rfl,h',IsL.snoc h t⟩
theorem IsL.rev{H:Hp}:∀ {ds:List Dv} {vs:List V},IsL H ds vs→IsL H ds.reverse vs.reverse
 | [],_,e=>by rw[show _=[] from e];exact rfl
 | d :: ds,_,⟨v,r,e,h,t⟩=>by
  subst e
  rw[List.reverse_cons,List.reverse_cons]
  exact IsL.snoc h (IsL.rev t)
theorem IsL.take{H:Hp}:∀ (n:Nat) {ds:List Dv} {vs:List V},IsL H ds vs→IsL H (ds.take n) (vs.take n)
 | 0,_,_,_=>rfl
 | n+1,[],_,e=>by rw[show _=[] from e];exact rfl
 | n+1,d :: ds,_,⟨v,r,e,h,t⟩=>by
  subst e
  exact⟨v,r.take n,rfl,h,IsL.take n t⟩
theorem IsL.drop{H:Hp}:∀ (n:Nat) {ds:List Dv} {vs:List V},IsL H ds vs→IsL H (ds.drop n) (vs.drop n)
 | 0,_,_,h=>h
 | n+1,[],_,e=>by rw[show _=[] from e];exact rfl
 | n+1,d :: ds,_,⟨v,r,e,h,t⟩=>by
  subst e
  exact IsL.drop n t
theorem IsL.app{H:Hp}{es:List Dv}{us:List V}(h:IsL H es us):∀ {ds:List Dv} {vs:List V},IsL H ds vs→IsL H (ds++es) (vs++us)
 | [],_,e=>by rw[show _=[] from e];exact h
 | d :: ds,_,⟨v,r,e,h',t⟩=>by
  subst e
  exact⟨v,r++us,rfl,h',IsL.app h t⟩
theorem IsL.strs(H:Hp):∀ zs:List Str,IsL H (zs.map Dv.str) (zs.map V.str)
 | []=>rfl
 | z :: zs=>⟨.str z,zs.map V.str,rfl,rfl,IsL.strs H zs⟩
theorem fE:∀ {ds:List Dv},(∀ d∈ds,aBW d=true)→zN ds=true
 | [],_=>rfl
 | d :: ds,h=>by
  rw[zN,h d AQ,fE fun e m=>h e (AO _ m)]
  rfl
theorem gN.lst{H:Hp}{l:Addr}{xs:List V}{o:HO}(h:H l=some (.lst xs)):gN H (upd H l o):=fun a ys e=>by
 have:a≠l:=zC e h (by intro z;cases z)
 rw[aI this]
 exact e
theorem aH.over{H H':Hp}{l:Addr}{o:HO}(S:aH H H')(hl:H l=none):aH H (L2.upd H' l o):=fun b u e=>by
 rw[aI (aJ e hl)]
 exact S b u e
theorem pJ{n:Nat}:∀ {ds:List Dv},(∀ d∈ds,aY n d=true)→cI n ds=true
 | [],_=>by rw[cI]
 | d :: ds,h=>by
  rw[cI,h d AQ,pJ fun e m=>h e (AO _ m)]
  rfl
inductive View (s:Shared) (H:Hp):Dv→Value→Prop where
 | non:View s H .non .none
 | bl (b:Bool):View s H (.bl b) (.bool b)
 | int (i:Int) (t:Tok):View s H (.int i) (.int i t)
 | str (x:Str) (t:Tok):View s H (.str x) (.str x t)
 | lst {ds:List Dv} {l:Addr} {its:List Value} {vs:List V} (hl:s.heap.IsList l its.toArray) (r:bF vs its) (h:IsL H ds vs):View s H (.lst ds) (.ref l)
 | tup {ds:List Dv} {l:Addr} {its:List Value} {vs:List V} (hl:s.heap.IsTuple l its.toArray) (r:bF vs its) (h:IsL H ds vs):View s H (.tup ds) (.ref l)
section
variable{X:Cx}{pins:List (Addr×Obj)}{σ:St}{H:Hp}{s:Shared}
theorem Is.view(I:Inv X pins σ H s){n:Nat}{d:Dv}{v:V}{u:Value}(f:aY n d=true)(h:Is H d v)(r:bM v u):View s H d u:=by
 cases d with
 | non=>cases (show v=.non from h);cases r;exact .non
 | bl b=>cases (show v=.bl b from h);cases r;exact .bl b
 | int b=>cases (show v=.int b from h);obtain⟨t,rfl⟩:=r;exact .int b t
 | str b=>cases (show v=.str b from h);obtain⟨t,rfl⟩:=r;exact .str b t
 | lst ds =>
  obtain⟨a,vs,rfl,o,h⟩:=h
  cases r
  obtain⟨its,rv,pl,hz⟩:=I.list (SqL.of o)
  exact .lst pl.isList rv h
 | tup ds =>
  obtain⟨a,vs,rfl,o,h⟩:=h
  cases r
  obtain⟨its,rv,pl,hz⟩:=I.tuple (SqT.of o)
  exact .tup pl rv h
 | dct ks ds=>simp[aY] at f
open PySem.SeqAt in
theorem lA{n:Nat}{A:Around}(hu:A.units+n<cLine)
 (ih:∀ (d e:Dv) (v v':V) (u u':Value) (A:Around),A.units+n<cLine→aY n d=true→aY n e=true→Is H d v→Is H e v'→bM v u→bM v' u'→EqAt A s u u' (deq d e))
 {ds es:List Dv}{vs vs':List V}{its its':List Value}(f:cI n ds=true)(g:cI n es=true)(h:IsL H ds vs)(h':IsL H es vs')(r:bF vs its)(r':bF vs' its')
 (j:Nat)(h1:j<its.toArray.size)(h2:j<its'.toArray.size):EqAt A s its.toArray[j] its'.toArray[j] (deq (ds.getD j .non) (es.getD j .non)):=by
 have l1:=r.length
 have l2:=r'.length
 have l3:=h.length
 have l4:=h'.length
 rw[AM] at h1 h2
 have e1:ds[j]?=some (ds.getD j .non):=by
  rw[Ad,AC (by omega)];rfl
 have e2:es[j]?=some (es.getD j .non):=by
  rw[Ad,AC (by omega)];rfl
 obtain⟨v,q1,i1⟩:=h.get e1
 obtain⟨v',q2,i2⟩:=h'.get e2
 obtain⟨u,p1,k1⟩:=r.get q1
 obtain⟨u',p2,k2⟩:=r'.get q2
 have z1:its.toArray[j]=u:=by
  have:=AB.mp p1
  obtain⟨_,e⟩:=this
  simpa using e
 have z2:its'.toArray[j]=u':=by
  have:=AB.mp p2
  obtain⟨_,e⟩:=this
  simpa using e
 rw[z1,z2]
 exact ih _ _ v v' u u' A hu (nB f e1) (nB g e2) i1 i2 k1 k2
open PySem.SeqAt in
theorem aLL(I:Inv X pins σ H s){n:Nat}
 (ih:∀ (d e:Dv) (v v':V) (u u':Value) (A:Around),A.units+n<cLine→aY n d=true→aY n e=true→Is H d v→Is H e v'→bM v u→bM v' u'→EqAt A s u u' (deq d e))
 (d e:Dv)(v v':V)(u u':Value)(A:Around)(hu:A.units+(n+1)<cLine)(f:aY (n+1) d=true)(g:aY (n+1) e=true)(h:Is H d v)(h':Is H e v')(r:bM v u)(r':bM v' u') :
  RcAt A s u u' (deq d e)∧RcNeAt A s u u' (!deq d e):=by
 have hu0:A.units<cLine:=by omega
 have hu1:A.in1.units+n<cLine:=by show A.units+1+n<cLine;omega
 have w:=Is.view I f h r
 have w':=Is.view I g h' r'
 cases w with
 | non =>
  cases w' with
  | non=>exact⟨RcAt.none_none,RcNeAt.none_none⟩
  | bl b=>exact⟨RcAt.none_bool _,RcNeAt.none_bool _⟩
  | int b t=>exact⟨RcAt.none_int _ _,RcNeAt.none_int _ _⟩
  | str b t=>exact⟨RcAt.none_str _ _,RcNeAt.none_str _ _⟩
  | lst hl _ _=>exact⟨RcAt.none_list hl hu0,RcNeAt.none_list hl hu0⟩
  | tup hl _ _=>exact⟨RcAt.none_tuple hl hu0,RcNeAt.none_tuple hl hu0⟩
 | bl a =>
  cases w' with
  | non=>exact⟨RcAt.bool_none _,RcNeAt.bool_none _⟩
  | bl b=>exact⟨RcAt.bool_bool _ _,RcNeAt.bool_bool _ _⟩
  | int b t=>exact⟨RcAt.bool_int _ _ _,RcNeAt.bool_int _ _ _⟩
  | str b t=>exact⟨RcAt.bool_str _ _ _,RcNeAt.bool_str _ _ _⟩
  | lst hl _ _=>exact⟨RcAt.bool_list _ hl hu0,RcNeAt.bool_list _ hl hu0⟩
  | tup hl _ _=>exact⟨RcAt.bool_tuple _ hl hu0,RcNeAt.bool_tuple _ hl hu0⟩
 | int a t =>
  cases w' with
  | non=>exact⟨RcAt.int_none _ _,RcNeAt.int_none _ _⟩
  | bl b=>exact⟨RcAt.int_bool _ _ _,RcNeAt.int_bool _ _ _⟩
  | int b t=>exact⟨RcAt.int_int _ _ _ _,RcNeAt.int_int _ _ _ _⟩
  | str b t=>exact⟨RcAt.int_str _ _ _ _,RcNeAt.int_str _ _ _ _⟩
  | lst hl _ _=>exact⟨RcAt.int_list _ _ hl hu0,RcNeAt.int_list _ _ hl hu0⟩
  | tup hl _ _=>exact⟨RcAt.int_tuple _ _ hl hu0,RcNeAt.int_tuple _ _ hl hu0⟩
 | str a t =>
  cases w' with
  | non=>exact⟨RcAt.str_none _ _,RcNeAt.str_none _ _⟩
  | bl b=>exact⟨RcAt.str_bool _ _ _,RcNeAt.str_bool _ _ _⟩
  | int b t=>exact⟨RcAt.str_int _ _ _ _,RcNeAt.str_int _ _ _ _⟩
  | str b t=>exact⟨RcAt.str_str _ _ _ _,RcNeAt.str_str _ _ _ _⟩
  | lst hl _ _=>exact⟨RcAt.str_list _ _ hl hu0,RcNeAt.str_list _ _ hl hu0⟩
  | tup hl _ _=>exact⟨RcAt.str_tuple _ _ hl hu0,RcNeAt.str_tuple _ _ hl hu0⟩
 | @lst ds l its vs hl rv hi =>
  cases w' with
  | non=>exact⟨RcAt.list_none hl hu0,RcNeAt.list_none hl hu0⟩
  | bl b=>exact⟨RcAt.list_bool _ hl hu0,RcNeAt.list_bool _ hl hu0⟩
  | int b t=>exact⟨RcAt.list_int _ _ hl hu0,RcNeAt.list_int _ _ hl hu0⟩
  | str b t=>exact⟨RcAt.list_str _ _ hl hu0,RcNeAt.list_str _ _ hl hu0⟩
  | @lst es l' its' vs' hl' rv' hi' =>
   have f':cI n ds=true:=by simpa [aY] using f
   have g':cI n es=true:=by simpa [aY] using g
   have l1:=rv.length
   have l2:=rv'.length
   have l3:=hi.length
   have l4:=hi'.length
   by_cases hq:ds.length=es.length
   ·have hsz:its.toArray.size=its'.toArray.size:=by rw[AM,AM];omega
    have key:(Aj its.toArray.size).all (fun j=>deq (ds.getD j .non) (es.getD j .non))=deq (.lst ds) (.lst es):=by
     rw[AM,show its.length=ds.length by omega]
     exact pL ds es hq
    rw[← key]
    exact⟨RcAt.lists hl hl' hsz hu0 (lA hu1 ih f' g' hi hi' rv rv'),RcNeAt.lists hl hl' hsz hu0 (lA hu1 ih f' g' hi hi' rv rv')⟩
   ·have key:deq (.lst ds) (.lst es)=false:=wW ds es hq
    have hsz:(its.toArray.size != its'.toArray.size)=true:=by
     rw[AM,AM,bne_iff_ne];omega
    rw[key]
    exact⟨RcAt.lists_lengths hl hl' hsz hu0,RcNeAt.lists_lengths hl hl' hsz hu0⟩
  | tup hl' _ _=>exact⟨RcAt.list_tuple hl hl' hu0,RcNeAt.list_tuple hl hl' hu0⟩
 | @tup ds l its vs hl rv hi =>
  cases w' with
  | non=>exact⟨RcAt.tuple_none hl hu0,RcNeAt.tuple_none hl hu0⟩
  | bl b=>exact⟨RcAt.tuple_bool _ hl hu0,RcNeAt.tuple_bool _ hl hu0⟩
  | int b t=>exact⟨RcAt.tuple_int _ _ hl hu0,RcNeAt.tuple_int _ _ hl hu0⟩
  | str b t=>exact⟨RcAt.tuple_str _ _ hl hu0,RcNeAt.tuple_str _ _ hl hu0⟩
  | lst hl' _ _=>exact⟨RcAt.tuple_list hl hl' hu0,RcNeAt.tuple_list hl hl' hu0⟩
  | @tup es l' its' vs' hl' rv' hi' =>
   have f':cI n ds=true:=by simpa [aY] using f
   have g':cI n es=true:=by simpa [aY] using g
   have l1:=rv.length
   have l2:=rv'.length
   have l3:=hi.length
   have l4:=hi'.length
   have key:((Aj (min its.toArray.size its'.toArray.size)).all (fun j=>deq (ds.getD j .non) (es.getD j .non)) && its.toArray.size == its'.toArray.size)=deq (.tup ds) (.tup es):=by
    rw[AM,AM,show its.length=ds.length by omega,show its'.length=es.length by omega]
    show _=uB ds es
    by_cases hq:ds.length=es.length
    ·rw[← hq,Nat.min_self,pL ds es hq]
     simp
    ·rw[wW ds es hq,beq_eq_false_iff_ne.mpr hq]
     simp
   rw[← key]
   exact⟨RcAt.tuples hl hl' hu0 (lA hu1 ih f' g' hi hi' rv rv'),RcNeAt.tuples hl hl' hu0 (lA hu1 ih f' g' hi hi' rv rv')⟩
open PySem.SeqAt in
theorem Is.eqAt(I:Inv X pins σ H s):∀ (n:Nat) (d e:Dv) (v v':V) (u u':Value) (A:Around),A.units+n<cLine→aY n d=true→aY n e=true→Is H d v→Is H e v'→bM v u→bM v' u'→EqAt A s u u' (deq d e):=by
 intro n
 induction n with
 | zero =>
  intro d e v v' u u' A hu f g h h' r r'
  cases d with
  | lst _=>simp[aY] at f
  | tup _=>simp[aY] at f
  | dct _ _=>simp[aY] at f
  | non =>
   cases e with
   | lst _=>simp[aY] at g
   | tup _=>simp[aY] at g
   | dct _ _=>simp[aY] at g
   | _=>cases h;cases h';exact lE r r' rfl rfl
  | bl b =>
   cases e with
   | lst _=>simp[aY] at g
   | tup _=>simp[aY] at g
   | dct _ _=>simp[aY] at g
   | _=>cases h;cases h';exact lE r r' rfl rfl
  | int b =>
   cases e with
   | lst _=>simp[aY] at g
   | tup _=>simp[aY] at g
   | dct _ _=>simp[aY] at g
   | _=>cases h;cases h';exact lE r r' rfl rfl
  | str b =>
   cases e with
   | lst _=>simp[aY] at g
   | tup _=>simp[aY] at g
   | dct _ _=>simp[aY] at g
   | _=>cases h;cases h';exact lE r r' rfl rfl
 | succ n ih =>
  intro d e v v' u u' A hu f g h h' r r'
  have rc:=(aLL I ih d e v v' u u' A hu f g h h' r r').1
  have w:=Is.view I f h r
  have w':=Is.view I g h' r'
  have fin:∀ (l l':Addr),u=.ref l→u'=.ref l'→EqAt A s u u' (deq d e):=by
   rintro l l' rfl rfl
   by_cases hq:l=l'
   ·subst hq
    have e1:v=.ref l:=r.inj (show bM (.ref l) (.ref l) from rfl)
    have e2:v'=.ref l:=r'.inj (show bM (.ref l) (.ref l) from rfl)
    subst e1 e2
    have e3:=Is.inj d e _ h h' ⟨_,f⟩ ⟨_,g⟩
    subst e3
    rw[kK _ d f]
    exact EqAt.same _
   ·exact EqAt.of_refs hq rc
  cases w with
  | lst hl _ _ =>
   cases w' with
   | lst hl' _ _=>exact fin _ _ rfl rfl
   | tup hl' _ _=>exact fin _ _ rfl rfl
   | non=>exact EqAt.list_none hl (by omega)
   | bl b=>exact EqAt.list_bool _ hl (by omega)
   | int b t=>exact EqAt.list_int _ _ hl (by omega)
   | str b t=>exact EqAt.list_str _ _ hl (by omega)
  | tup hl _ _ =>
   cases w' with
   | lst hl' _ _=>exact fin _ _ rfl rfl
   | tup hl' _ _=>exact fin _ _ rfl rfl
   | non=>exact EqAt.tuple_none hl (by omega)
   | bl b=>exact EqAt.tuple_bool _ hl (by omega)
   | int b t=>exact EqAt.tuple_int _ _ hl (by omega)
   | str b t=>exact EqAt.tuple_str _ _ hl (by omega)
  | non =>
   cases w' with
   | lst hl' _ _=>exact EqAt.none_list hl' (by omega)
   | tup hl' _ _=>exact EqAt.none_tuple hl' (by omega)
   | _=>cases h;cases h';exact lE r r' rfl rfl
  | bl b =>
   cases w' with
   | lst hl' _ _=>exact EqAt.bool_list _ hl' (by omega)
   | tup hl' _ _=>exact EqAt.bool_tuple _ hl' (by omega)
   | _=>cases h;cases h';exact lE r r' rfl rfl
  | int b t =>
   cases w' with
   | lst hl' _ _=>exact EqAt.int_list _ _ hl' (by omega)
   | tup hl' _ _=>exact EqAt.int_tuple _ _ hl' (by omega)
   | _=>cases h;cases h';exact lE r r' rfl rfl
  | str b t =>
   cases w' with
   | lst hl' _ _=>exact EqAt.str_list _ _ hl' (by omega)
   | tup hl' _ _=>exact EqAt.str_tuple _ _ hl' (by omega)
   | _=>cases h;cases h';exact lE r r' rfl rfl
end
def aOS(neg:Bool):R2:=fun x y H Q=>∃ d e,Is H d x∧Is H e y∧aY 30 d=true∧aY 30 e=true∧Q (.bl (if neg then !deq d e else deq d e)) H
theorem aFP{X:Cx}(hu:X.A.units+64<cLine):OpR X (BV .Eq) (aOS false):=by
 intro pins s σ H x y v u Q I rx ry h
 obtain⟨d,e,h,h',f,g,q⟩:=h
 exact (aLL (n:=29) I (Is.eqAt I 29) d e x y v u X.A (by omega) f g h h' rx ry).1 _ _ _ _ ⟨.bl _,H,I,rfl,q⟩
theorem aFO{X:Cx}(hu:X.A.units+64<cLine):OpR X (BV .NotEq) (aOS true):=by
 intro pins s σ H x y v u Q I rx ry h
 obtain⟨d,e,h,h',f,g,q⟩:=h
 exact (aLL (n:=29) I (Is.eqAt I 29) d e x y v u X.A (by omega) f g h h' rx ry).2 _ _ _ _ ⟨.bl _,H,I,rfl,q⟩
end L2
namespace L2
open PySem PySem.Spec PyProof.Rows
instance keyMem (k:Key) (l:List Key):Decidable (k∈l):=decidable_of_iff (l.any (fun x=>decide (x=k))=true) (by simp)
noncomputable def eJ(key:Nat→Key):Nat→List Key
 | 0=>[]
 | i+1=>if key i∈eJ key i then eJ key i else eJ key i++[key i]
theorem uL(key:Nat→Key):∀ i,(eJ key i).length≤i
 | 0=>AS _
 | i+1=>by
  have ih:=uL key i
  show (if key i∈eJ key i then eJ key i else eJ key i++[key i]).length≤i+1
  split
  ·omega
  ·rw[AW,Bq];omega
theorem aDY(key:Nat→Key)(k:Key):∀ i,k∈eJ key i↔∃ j,j<i∧key j=k
 | 0=>by
  constructor
  ·intro h;cases h
  ·rintro⟨j,h,_⟩;omega
 | i+1=>by
  have ih:=aDY key k i
  show k∈(if key i∈eJ key i then eJ key i else eJ key i++[key i])↔_
  have step:(k∈eJ key i∨k=key i)↔∃ j,j<i+1∧key j=k:=by
   rw[ih]
   constructor
   ·rintro (⟨j,h,e⟩ | e)
    ·exact⟨j,by omega,e⟩
    ·exact⟨i,by omega,e.symm⟩
   ·rintro⟨j,h,e⟩
    by_cases hj:j=i
    ·subst hj;exact .inr e.symm
    ·exact .inl ⟨j,by omega,e⟩
  rw[← step]
  split
  ·rename_i h
   constructor
   ·exact .inl
   ·rintro (h' | rfl)
    ·exact h'
    ·exact h
  ·rw[Ab,AL]
theorem zD(key:Nat→Key):∀ n,(eJ key n).length=n↔∀ i j,i<j→j<n→key i≠key j
 | 0=>⟨fun _ i j _ h=>absurd h (Nat.not_lt_zero _),fun _=>rfl⟩
 | n+1=>by
  have ih:=zD key n
  have le:=uL key n
  have mm:=aDY key (key n) n
  show (if key n∈eJ key n then eJ key n else eJ key n++[key n]).length=n+1↔_
  split
  ·rename_i h
   constructor
   ·intro e;omega
   ·intro e
    obtain⟨j,hj,q⟩:=mm.mp h
    exact absurd q (e j n hj (Cz n))
  ·rename_i h
   rw[AW,Bq,Nat.add_right_cancel_iff,ih]
   constructor
   ·intro e i j hi hj
    by_cases q:j=n
    ·subst q
     exact fun z=>h (mm.mpr ⟨i,hi,z⟩)
    ·exact e i j hi (by omega)
   ·intro e i j hi hj
    exact e i j hi (by omega)
noncomputable def uC(ks:List Key):List Key:=eJ (fun i=>ks.getD i (.inl 0)) ks.length
theorem sI(ks:List Key):(uC ks).length=ks.length↔ks.Nodup:=by
 unfold uC
 rw[zD,Ca,List.pairwise_iff_getElem]
 constructor
 ·intro h i j hi hj hij
  have:=h i j hij hj
  simpa [Ad,hi,hj] using this
 ·intro h i j hij hj
  have hi:i<ks.length:=by omega
  have:=h i j hi hj hij
  simpa [Ad,hi,hj] using this
theorem aBY(ks:List Key):(uC ks).length≤ks.length:=uL _ _
noncomputable def aKG(P:Program)(w:World)(a:Addr)(S:Key→Bool)(n:Nat):HO:=.ext fun h=>h.SetOf (aX P w) a S n
theorem aKG.ok{P:Program}{w:World}{H:Hp}{h:Heap}{a:Addr}{S:Key→Bool}{n:Nat}(x:h.SetOf (aX P w) a S n):cE P w H h a (aKG P w a S n) :=
 ⟨x,let ⟨o,_,_,_,ho,_⟩:=x;⟨o,ho⟩,fun _ _ ⟨o,es,ep,t,ho,r⟩ k=>⟨o,es,ep,t,k o ho,r⟩⟩
theorem aMN{P:Program}{w:World}{k:Key}{v:Value}(h:(aX P w).is k v=true):v.scannable=true:=by
 rcases cU h with ⟨i,t,rfl,rfl⟩ | ⟨x,t,rfl,rfl⟩ <;> rfl
section
variable{P:Program}{w:World}{A:Around}{R:Result→Shared→Prop}{I:Addr}{fp wr:List Addr}{G:Array DL→Array DL→Prop}{n:Nat}{Pv:Nat→Value→Prop}{Stt:Nat→Shared→Prop}
theorem aFK{h:Heap}{a:Addr}{S S':Key→Bool}{n n':Nat}(x:h.SetOf (aX P w) a S n)(e:∀ k,S k=S' k)(q:n=n'):h.SetOf (aX P w) a S' n':=by
 obtain rfl:S=S':=funext e
 subst q
 exact x
theorem aLC(W:WalksS P w A.in1 I fp wr G n Pv Stt)(D:Addr)(hD:D∉fp)(key:Nat→Key)(hv:∀ i v,Pv i v→(aX P w).is (key i) v=true)(hb:n+1<scanBound)(fin:∀ s s',Moved (D :: wr) G s s'→s'.heap.SetOf (aX P w) D (fun k=>decide (k∈eJ key n)) (eJ key n).length→True) :
  ∀ (m i:Nat) (s:Shared),n - i=m→i≤n→Stt i s→s.heap.SetOf (aX P w) D (fun k=>decide (k∈eJ key i)) (eJ key i).length →
   (∀ s',Moved (D :: wr) G s s'→s'.heap.SetOf (aX P w) D (fun k=>decide (k∈eJ key n)) (eJ key n).length→R (.ok (.ret .none)) s') →
   codeAny (model P w) A (.builtin "set.update.loop" ⟨[.ref D,.ref I],[]⟩) R s:=by
 have hDw:D∉wr:=fun z=>hD (W.sub _ z)
 have sub:∀ b∈wr,b∈D :: wr:=fun b z=>AO _ z
 have moved:∀ {s s':Shared} {S:Key→Bool} {c:Nat},Moved wr G s s'→s.heap.SetOf (aX P w) D S c→s'.heap.SetOf (aX P w) D S c:=fun mv ⟨o,es,ep,t,ho,r⟩=>⟨o,es,ep,t,mv.heap D _ hDw ho,r⟩
 intro m
 induction m with
 | zero =>
  intro i s e1 e2 st hS hR
  obtain rfl:i=n:=by omega
  refine CJ PyProof.Rows.F.entry_set_update_loop ?_
  rw[CG CQ _]
  show wpAny _ A.in1 (pyNext (.ref I) >>= _) _ _ s
  refine AK (W.done s _ _ st fun s' mv=>?_)
  exact Aa (hR s' (mv.mono sub) (moved mv hS))
 | succ m ih =>
  intro i s e1 e2 st hS hR
  have lt:i<n:=by omega
  refine CJ PyProof.Rows.F.entry_set_update_loop ?_
  rw[CG CQ _]
  show wpAny _ A.in1 (pyNext (.ref I) >>= _) _ _ s
  refine AK (W.item i s _ _ lt st fun v s' pv st' mv=>?_)
  have hk:=hv i v pv
  have hS1:=moved mv hS
  show wpAny _ A.in1 (holding [v] (setAdd D v) >>= _) _ _ s'
  refine AK (CC ?_)
  unfold setAdd
  refine CC (AK ((aX P w).pyHash (k:=key i) hk ?_))
  have room:(eJ key i).length+1<scanBound:=by have:=uL key i;omega
  refine wpAny_setAddHashed_of (knd:=aX P w) (s:={ s' with toks:=s'.toks+1 }) hk (aMN hk) hS1 room fun h' sb hS2=>?_
  have hS3:h'.SetOf (aX P w) D (fun k=>decide (k∈eJ key (i+1))) (eJ key (i+1)).length:=by
   refine aFK hS2 (fun k=>?_) ?_
   ·show (decide (k∈eJ key i) || decide (k=key i))=decide (k∈if key i∈eJ key i then eJ key i else eJ key i++[key i])
    by_cases z:key i∈eJ key i
    ·rw[if_pos z]
     by_cases y:k=key i
     ·subst y;simp[z]
     ·simp[y]
    ·rw[if_neg z]
     simp
   ·show (if decide (key i∈eJ key i)=true then (eJ key i).length else (eJ key i).length+1)=(if key i∈eJ key i then eJ key i else eJ key i++[key i]).length
    by_cases z:key i∈eJ key i
    ·rw[if_pos z,if_pos (decide_eq_true z)]
    ·rw[if_neg z,if_neg (by simpa using z)]
     simp
  refine Aa ⟨Cl CQ _,ih (i+1) _ (by omega) lt (W.frame _ s' _ _ st' (Cc _) fun b hb o e=>?_) hS3 fun s2 mv2 hS4=>?_⟩
  ·rw[sb.2 b (fun z:b=D=>hD (by rw[← z];exact hb))]
   exact e
  ·refine hR s2 (Moved.trans W.gtrans ((mv.mono sub).then_heap (Cc _) fun b o hb e=>?_) mv2) hS4
   rw[sb.2 b (fun z:b=D=>hb (by rw[z];exact AQ))]
   exact e
end
section
variable{P:Program}{w:World}{A:Around}{E:Value→Shared→Prop}{s:Shared}
abbrev wC (led:Bool):Obj:={ cls:=.type "set",dict:=none,data:=.set #[] 0 (.fresh 0 0 led) }
set_option maxHeartbeats 8000000 in
theorem aDA{l:Addr}{its:List Value}{ks:List Key}{Q:Value→Shared→Prop}(hh:A.handled=none)(hl:s.heap.IsList l its.toArray)(hk:∀ i v,its[i]?=some v→(aX P w).is (ks.getD i (.inl 0)) v=true)(hn:its.length=ks.length)(hb:its.length+1<scanBound)
 (h:∀ (h':Heap) (tk:Nat),h'.SetOf (aX P w) s.heap.objs.size (fun k=>decide (k∈uC ks)) (uC ks).length→(∀ b o,s.heap.get? b=some o→h'.get? b=some o)→Q (.ref s.heap.objs.size) { s with heap:=h',toks:=tk }) :
  wpAny (model P w) A (call (.type "set") [.ref l]) Q E s:=by
 obtain⟨c,tl,hmro⟩:=Bp.mro
 have m1:=Bp.made
 have m2:=Bp.sub
 refine DU (codeAny_of_tree ?_)
 show wpAny _ _ (callAny (.type "set") _) _ _ _
 refine Aa ⟨Code.quiet_builtin _ (by decide +kernel),CJ PySem.F.entry_type_call ?_⟩
 rw[Around.under_plain (weight_type_call_type "set" [.ref l] []) rfl]
 have m3:=Bp.notType
 have m4:=Bp.canCreate
 have m5:=PySem.F.typeCall_set_1 (.ref l)
 repeat (any_goals (first | assumption | wp_step))
 refine CY (code_set_new_1 (.ref l) (E:=E) (Q₁:=fun ob s1=>∃ led:Bool,ob=.ref s.heap.objs.size∧s1={ s with heap:=s.heap.push (wC led) }) fun led=>⟨led,rfl,rfl⟩) fun r s1 hr=>?_
 cases r with
 | error e=>exact hr
 | ok fl =>
  cases fl with
  | ret ob =>
   obtain⟨led,rfl,rfl⟩:=hr
   have hS:(s.heap.push (wC led)).get? s.heap.objs.size=some (wC led):=Ah _ rfl
   have hT:Shared.TypeIs { s with heap:=s.heap.push (wC led) } (.ref s.heap.objs.size) "set":=⟨_,hS,rfl⟩
   have m6:=Bp.init.lookup
   have m7:=Bp.init.bind (.ref s.heap.objs.size)
   repeat (any_goals (first | assumption | wp_step))
   refine CY (EU (R:=wants (fun r s2=>r=.none∧∃ h' tk,s2={ s with heap:=h',toks:=tk }∧h'.SetOf (aX P w) s.heap.objs.size (fun k=>decide (k∈uC ks)) (uC ks).length∧(∀ b o,s.heap.get? b=some o→h'.get? b=some o)) E)
    Bp.init.plain PySem.F.entry_set_init (check_set_init_1 hT ?_)) fun r2 s2 hr2=>?_
   ·obtain⟨⟨oc,od,oda,osl⟩,hol,hcl,nl,hdl⟩:=hl
    simp only at hcl hdl
    subst hcl hdl
    have hol1:(s.heap.push (wC led)).get? l=some { cls:=.type "list",dict:=od,data:=.seq its.toArray nl,slots:=osl }:=AJ _ hol
    have m8:=PySem.F.sub_list_set
    have m9:=PySem.F.sub_list_frozenset
    have m10:(CM "list" == CM "dict")=false:=by decide
    have hl1:(s.heap.push (wC led)).IsList l its.toArray:=⟨_,hol1,rfl,nl,rfl⟩
    have lS:l<s.heap.objs.size:=AV hol
    unfold Builtin.«set.__init__» noKeywords Builtin.Frozenset.updateFrom
    generalize hPI:pyIter=PI
    wp_walk
    subst hPI
    refine Cy hl1 (AK (wpAny_runValue ?_))
    have hh3:A.in1.in1.in1.handled=none:=by simp[hh]
    have nI:l≠(s.heap.push (wC led)).objs.size:=by rw[Cq];exact Ae (DQ lS)
    have nS:s.heap.objs.size∉[(s.heap.push (wC led)).objs.size,l]:=by
     rw[Cq]
     simp only[AZ,AL,Bz,or_false,not_or]
     exact⟨Ae (Cz _),Ei lS⟩
    have sz:its.toArray.size=ks.length:=by rw[AM,hn]
    refine aLC ((Walks.list hh3 _ l nI its.toArray).toS) s.heap.objs.size nS (fun i=>ks.getD i (.inl 0)) (fun i v pv=>hk i v (by simpa using pv)) (by rw[AM];exact hb) (fun _ _ _ _=>trivial) (its.toArray.size - 0) 0 _ (by omega) (BK _)
     ⟨⟨_,Ah _ rfl,rfl,rfl⟩,(hl1.push _)⟩ ?_ ?_
    ·have g:((s.heap.push (wC led)).push { cls:=.type "list_iterator",data:=.fields #[.ref l,.int 0 0] }).get? s.heap.objs.size=some (wC led):=AJ _ hS
     exact⟨_,#[],0,_,g,⟨rfl,rfl,rfl⟩,rfl,fun e he=>by simp at he,fun k=>by simp[eJ],by decide,by rfl,rfl⟩
    ·intro s3 mv hS3
     obtain⟨h3,g3,d3,t3,o3⟩:=s3
     have e1:g3=s.gens:=mv.gens
     have e2:d3=s.drawn:=mv.drawn
     have e3:o3=s.os:=mv.os
     subst e1 e2 e3
     rw[sz] at hS3
     show wpAny _ _ _ _ _ _
     refine Aa ?_
     show wpAny _ _ (ret CA) _ _ _
     refine Aa ⟨rfl,h3,t3,rfl,hS3,fun b o e=>?_⟩
     have lb:=AV e
     have b1:b≠s.heap.objs.size:=Ae lb
     have b2:b≠(s.heap.push (wC led)).objs.size:=by rw[Cq];exact Ae (DQ lb)
     exact mv.heap b o (by simp only[AZ,AL,Bz,or_false,not_or];exact⟨b1,b2⟩) (AJ _ (AJ _ e))
   ·cases r2 with
    | error e=>exact hr2
    | ok f2 =>
     cases f2 with
     | ret r =>
      obtain⟨rfl,h',tk,rfl,hS2,hk2⟩:=hr2
      repeat (any_goals (first | assumption | wp_step))
      exact h _ _ hS2 hk2
     | _=>exact hr2.elim
  | _=>exact hr.elim
end
section
variable{X:Cx}
theorem aID{P:Program}{w:World}:∀ {ks:List Key} {us:List Value},bF (ks.map kV) us→∀ i v,us[i]?=some v→(aX P w).is (ks.getD i (.inl 0)) v=true
 | [],us,r,i,v,e=>by
  rw[CO] at r
  cases r
  simp at e
 | k :: ks,us,r,i,v,e=>by
  rw[AX] at r
  cases r with
  | cons r1 r2 =>
   cases i with
   | zero =>
    simp at e
    subst e
    cases k with
    | inl z=>obtain⟨t,rfl⟩:=r1;exact rX z t
    | inr z=>obtain⟨t,rfl⟩:=r1;exact rW z t
   | succ i =>
    have:=aID (P:=P) (w:=w) r2 i v (by simpa using e)
    simpa using this
theorem jQ(hc:X.calm=true):gK X (.type "set") (fun xs H Q=>∃ (p:Addr) (ks:List Key),xs=[.ref p]∧SqL X.K H p (ks.map kV)∧ks.length≤1000 ∧
  ∀ l,H l=none→Q (.ref l) (upd H l (aKG X.prog X.w l (fun k=>decide (k∈uC ks)) (uC ks).length))):=by
 intro pins s σ H xs us Q I r h
 obtain⟨p,ks,rfl,hq,hn,q⟩:=h
 obtain⟨u,rfl,ru⟩:=bF.one r
 cases ru
 obtain⟨its,rv,pl,hz⟩:=I.list hq
 have hlen:=rv.length
 rw[AA] at hlen
 refine aDA (ks:=ks) (I.ok.hd hc) pl.isList (aID rv) hlen.symm (by unfold scanBound;omega) fun h' tk hS hk=>?_
 exact⟨.ref s.heap.objs.size,_,I.laid (t':=tk) hk (AS _) (aKG.ok hS),rfl,q _ (I.hok.fresh (AS _))⟩
theorem call_len_set:gK X (.builtin "len") (fun xs H Q=>∃ l S n,xs=[.ref l]∧H l=some (aKG X.prog X.w l S n)∧n≤1000∧Q (.int n) H):=by
 intro pins s σ H xs us Q I r h
 obtain⟨l,S,n,rfl,e,hn,q⟩:=h
 obtain⟨u,rfl,ru⟩:=bF.one r
 cases ru
 obtain⟨⟨o,es,ep,t,ho,hex,hd,hel,hmem,hb,hf,hes⟩,_⟩:=I.hok l _ e
 refine PySem.call_len_set ho hex hd hf (by rw[hes];omega) ⟨.int n,H,I.tok _,⟨s.toks+1,by rw[hes]⟩,q⟩
end
end L2
namespace L2
open PySem PySem.Spec PyProof.Rows
section
variable{X:Cx}
theorem zK{k:Key}{v:Value}(h:wK k v=true):bM (kV k) v:=by
 rcases cU h with ⟨i,t,rfl,rfl⟩ | ⟨x,t,rfl,rfl⟩
 ·exact⟨t,rfl⟩
 ·exact⟨t,rfl⟩
theorem uG:∀ {xs:List V} {us:List Value},us.length=xs.length→(∀ (j:Nat) (u:Value) (x:V),us[j]?=some u→xs[j]?=some x→bM x u)→bF xs us
 | [],[],_,_=>.nil
 | x :: xs,u :: us,hl,h=>.cons (h 0 u x rfl rfl) (uG (by simpa using hl) fun j v y e1 e2=>h (j+1) v y (by simpa using e1) (by simpa using e2))
 | [],_ :: _,hl,_=>by simp at hl
 | _ :: _,[],hl,_=>by simp at hl
theorem KV.get:∀ {kvs:List (Key×V)} {vs:List (Key×Value)} {i:Nat} {p:Key×Value},KV kvs vs→vs[i]?=some p→∃ q,kvs[i]?=some q∧q.1=p.1∧bM q.2 p.2
 | _,_,_,_,.nil,e=>by simp at e
 | _,_,0,_,.cons r _,e=>by simp at e;subst e;exact⟨_,rfl,r.1,r.2⟩
 | _,_,i+1,p,.cons _ t,e=>by
  obtain⟨q,h1,h2⟩:=KV.get (i:=i) (p:=p) t (by simpa using e)
  exact⟨q,by simpa using h1,h2⟩
theorem nG(hc:X.calm=true):gK X (.type "list") (fun xs H Q=>∃ p kvs,xs=[.ref p]∧Rd H p (.dK kvs)∧∀ l,H l=none→Q (.ref l) (upd H l (.lst (kvs.map fun kv=>kV kv.1)))):=by
 intro pins s σ H xs us Q I r h
 obtain⟨p,kvs,rfl,hq,q⟩:=h
 obtain⟨u,rfl,ru⟩:=bF.one r
 cases ru
 obtain⟨hz,lo,vs,kv,hD⟩:=hq.ok I.hok
 obtain⟨ep,hat⟩:=hD.dictAt
 have hl:=KV.length kv
 refine PySem.W.kdl_call (PySem.W.kdl_dict (knd:=aX X.prog X.w) (kvs:=vs) (ep:=ep) lo) (I.ok.hd hc) hat (by omega) fun h' tk acc c hk hg hi=>?_
 refine⟨.ref s.heap.objs.size,_,I.laid (t':=tk) hk (AS _) (show cE X.prog X.w _ h' _ (.lst (kvs.map fun kv=>kV kv.1)) from⟨by rw[AA];exact hz,acc.toList,c,?_,by simpa using hg⟩),rfl,q _ (I.hok.fresh (AS _))⟩
 refine uG (by rw[AA,Bf,hi.1,hl]) fun j u x e1 e2=>?_
 obtain⟨k,y,e3,e4⟩:=hi.2 j u (by rw[← CB];exact e1)
 obtain⟨z,e5,e6,_⟩:=KV.get kv e3
 rw[AI,e5] at e2
 have e2':kV z.1=x:=by simpa using e2
 subst e2'
 rw[show z.1=k from e6]
 exact zK e4
noncomputable def aEX(v d:Addr):HO:=.ext fun h=>h.IsValuesView v d
theorem aEX.ok{P:Program}{w:World}{H:Hp}{h:Heap}{v d:Addr}(x:h.IsValuesView v d):cE P w H h v (aEX v d) :=
 ⟨x,let ⟨o,ho,_⟩:=x;⟨o,ho⟩,fun _ _ ⟨o,ho,r⟩ k=>⟨o,k o ho,r⟩⟩
theorem aJN:MtR X "dict.values" (fun x vs H Q=>∃ d kvs,x=.ref d∧vs=[]∧Rd H d (.dK kvs)∧∀ v,H v=none→Q (.ref v) (upd H v (aEX v d))):=by
 intro pins s σ H x vs v us Q I rx rv h
 obtain⟨d,kvs,rfl,rfl,hq,q⟩:=h
 cases rx
 have hus:=rv.zero
 subst hus
 obtain⟨hz,lo,ws,kv,hD⟩:=hq.ok I.hok
 refine call_meetsIn PySem.F.slot_dict_values hD.typeIs PySem.F.entry_dict_values (PySem.F.args_dict_values_1 _) (meets_dict_values (aX X.prog X.w) d lo) ⟨⟨ws,hD⟩,?_⟩
 exact⟨.ref s.heap.objs.size,_,I.laid (t':=s.toks) (fun b ob e=>AJ _ e) (AS _) (aEX.ok ⟨_,Ah _ rfl,rfl,rfl⟩),rfl,q _ (I.hok.fresh (AS _))⟩
theorem sL(hc:X.calm=true):gK X (.type "list") (fun xs H Q=>∃ v d kvs,xs=[.ref v]∧H v=some (aEX v d)∧Rd H d (.dK kvs)∧∀ l,H l=none→Q (.ref l) (upd H l (.lst (kvs.map (·.2))))):=by
 intro pins s σ H xs us Q I r h
 obtain⟨v,d,kvs,rfl,ev,hq,q⟩:=h
 obtain⟨u,rfl,ru⟩:=bF.one r
 cases ru
 obtain⟨hz,lo,vs,kv,hD⟩:=hq.ok I.hok
 obtain⟨hv,_⟩:=I.hok v _ ev
 obtain⟨ep,hat⟩:=hD.dictAt
 have hl:=KV.length kv
 refine PySem.W.kdl_call (PySem.W.kdl_values (knd:=aX X.prog X.w) (kvs:=vs) (ep:=ep)) (I.ok.hd hc) ⟨hv,hat⟩ (by omega) fun h' tk acc c hk hg hi=>?_
 refine⟨.ref s.heap.objs.size,_,I.laid (t':=tk) hk (AS _) (show cE X.prog X.w _ h' _ (.lst (kvs.map (·.2))) from⟨by rw[AA];exact hz,acc.toList,c,?_,by simpa using hg⟩),rfl,q _ (I.hok.fresh (AS _))⟩
 refine uG (by rw[AA,Bf,hi.1,hl]) fun j u x e1 e2=>?_
 obtain⟨k,e3⟩:=hi.2 j u (by rw[← CB];exact e1)
 obtain⟨z,e5,_,e6⟩:=KV.get kv e3
 rw[AI,e5] at e2
 have e2':z.2=x:=by simpa using e2
 subst e2'
 exact e6
end
section
variable{X:Cx}{e se:Expr}{te ts:TE}{p2 pos:Pos}
end
end L2
namespace L2
open PySem PySem.Spec PyProof.Rows
theorem wE:typeLookup (.type "list") "keys"=pure none:=by rw[typeLookup_type,builtinLookup_eq_fast];kernel_rfl
section
variable{P:Program}{w:World}{A:Around}{E:Value→Shared→Prop}{s:Shared}
theorem aBP{a:Addr}{xs:Array Value}{k:Nat}{sl:Array (Option Value)}{Q:Option Value→Shared→Prop}(hA:A.handled=none)(hx:s.heap.get? a=some { cls:=.type "list",dict:=none,data:=.seq xs k,slots:=sl })
 (h:∀ h' tk,(∀ b o,s.heap.get? b=some o→h'.get? b=some o)→Q none { s with heap:=h',toks:=tk }):wpAny (model P w) A (getAttr? (.ref a) "keys") Q E s:=by
 obtain⟨hp,g,d,tk,os⟩:=s
 have hT:∀ tk',(⟨hp,g,d,tk',os⟩:Shared).TypeIs (.ref a) "list":=fun _=>⟨_,hx,rfl⟩
 have f1:=sub_AttributeError
 have f3:=Dh.lookup
 have f4:=Dh.bind (.ref a)
 have f5:=am_list_getattr_none
 unfold getAttr? getAttrBy? getAttrBy
 repeat (any_goals (first | assumption | exact hT _ | ((with_reducible show wpAny _ _ (call (Value.builtin "list.__getattribute__") _ _) _ _ _);refine call_meets Dh (hT _) am_entry_list_getattribute (F.args_list_getattribute_2 _ _) (meets_getattribute_miss_list a xs k sl "keys" _ wE (by decide +kernel)) ⟨hx,hA,fun h' tk' e hx'=>?_⟩) | wp_step))
 obtain⟨t',u',he⟩:=hx'.there
 show wpAny _ _ (getattributeRaised _ _ _ _ _ _ _) _ _ _
 unfold getattributeRaised
 repeat (any_goals (first | assumption | wp_step))
 exact h _ _ hx'.keeps
end
theorem lZ:entryFor table "dict.update.loop"=some Builtin.«dict.update.loop»:=entryFor_of_tree (by kernel_rfl)
theorem gA:plainId "dict.update.loop"=true:=by decide +kernel
section
variable{P:Program}{w:World}{A:Around}{R:Result→Shared→Prop}{I:Addr}{fp wr:List Addr}{G:Array DL→Array DL→Prop}{n:Nat}{Pv:Nat→Value→Prop}{Stt:Nat→Shared→Prop}
theorem aJZ(W:WalksS P w A.in1 I fp wr G n Pv Stt)(D:Addr)(hD:D∉fp)(res:Value)(kvs:List (Key×Value))(hn:kvs.length=n)(hz:n≤Ak)(s₀:Shared)
 (hv:∀ (i:Nat) (v:Value),Pv i v→∃ (a:Addr) (k:Key) (kv x:Value) (ob:Obj) (c:Nat),v=.ref a∧a∉D :: wr∧s₀.heap.get? a=some ob∧ob.cls=.type "tuple"∧ob.data=.seq #[kv,x] c∧kvs[i]?=some (k,x)∧(aX P w).is k kv=true) :
  ∀ (m i:Nat) (s:Shared),n - i=m→i≤n→Stt i s→(∀ b o,b∉D :: wr→s₀.heap.get? b=some o→s.heap.get? b=some o)→s.heap.DictOf (aX P w) D (merged [] (kvs.take i)) →
   (∀ s',Moved (D :: wr) G s s'→s'.heap.DictOf (aX P w) D (merged [] kvs)→R (.ok (.ret res)) s') →
   codeAny (model P w) A (.builtin "dict.update.loop" ⟨[.ref D,.ref I,rawInt i,res],[]⟩) R s:=by
 have hDw:D∉wr:=fun z=>hD (W.sub _ z)
 have sub:∀ b∈wr,b∈D :: wr:=fun b z=>AO _ z
 have moved:∀ {s s':Shared} {l:List (Key×Value)},Moved wr G s s'→s.heap.DictOf (aX P w) D l→s'.heap.DictOf (aX P w) D l:=fun mv ⟨o,es,ep,ho,r⟩=>⟨o,es,ep,mv.heap D _ hDw ho,r⟩
 intro m
 induction m with
 | zero =>
  intro i s e1 e2 st kp hS hR
  obtain rfl:i=n:=by omega
  rw[AE (by omega)] at hS
  refine CJ lZ ?_
  rw[CG gA _]
  show wpAny _ A.in1 (pyNext (.ref I) >>= _) _ _ s
  refine AK (W.done s _ _ st fun s' mv=>?_)
  show wpAny _ A.in1 (Builtin.Dict.addKeywords D [] >>= _) _ _ s'
  refine AK (Aa ?_)
  exact Aa (hR s' (mv.mono sub) (moved mv hS))
 | succ m ih =>
  intro i s e1 e2 st kp hS hR
  have lt:i<n:=by omega
  refine CJ lZ ?_
  rw[CG gA _]
  show wpAny _ A.in1 (pyNext (.ref I) >>= _) _ _ s
  refine AK (W.item i s _ _ lt st fun v s' pv st' mv=>?_)
  obtain⟨a,k,kv,x,ob,c,rfl,ha,hg,hc,hd,hi,hk⟩:=hv i v pv
  have hS1:=moved mv hS
  have hg1:s'.heap.get? a=some ob:=mv.heap a ob (fun z=>ha (sub a z)) (kp a ob ha hg)
  have hT:s'.TypeIs (.ref a) "tuple":=⟨ob,hg1,hc⟩
  refine AK (CC (AK (wpAny_tryCatch ?_)))
  unfold Builtin.Dict.pairItems
  refine AK (wpAny_typeOf hT ?_)
  rw[if_pos (by decide)]
  refine AK (wpAny_seqItems hg1 hd (Aa ?_))
  show wpAny _ _ (holding [kv,x] (dictSet D kv x)) _ _ s'
  refine CC (wpAny_dictSet_pairs hk hS1 (fun h' hS2 sb=>?_) ?_)
  ·have e:merged [] (kvs.take (i+1))=stored (merged [] (kvs.take i)) k x:=merged_take_succ [] kvs i (k,x) hi
   rw[← e] at hS2
   refine Aa ⟨Cl gA _,ih (i+1) _ (by omega) lt (W.frame _ s' _ _ st' (Cc _) fun b hb o e=>?_) (fun b o hb e=>?_) hS2 fun s2 mv2 hS4=>?_⟩
   ·rw[sb.2 b (fun z:b=D=>hD (by rw[← z];exact hb))]
    exact e
   ·rw[sb.2 b (fun z:b=D=>hb (by rw[z];exact AQ))]
    exact mv.heap b o (fun z=>hb (sub b z)) (kp b o hb e)
   ·refine hR s2 (Moved.trans W.gtrans ((mv.mono sub).then_heap (Cc _) fun b o hb e=>?_) mv2) hS4
    rw[sb.2 b (fun z:b=D=>hb (by rw[z];exact AQ))]
    exact e
  ·have:=merged_length_le ([]:List (Key×Value)) (kvs.take i)
   rw[AH] at this
   simp only[Dp] at this
   omega
end
section
variable{P:Program}{w:World}{A:Around}{E:Value→Shared→Prop}{s:Shared}
theorem xU{l:Addr}{its:List Value}{kvs:List (Key×Value)}{Q:Value→Shared→Prop}(hh:A.handled=none)(hl:PlainL s.heap l its.toArray)(hn:its.length=kvs.length)(hz:its.length≤Ak)
 (hv:∀ (i:Nat) (v:Value),its[i]?=some v→∃ (a:Addr) (k:Key) (kv x:Value) (ob:Obj) (c:Nat),v=.ref a∧s.heap.get? a=some ob∧ob.cls=.type "tuple"∧ob.data=.seq #[kv,x] c∧kvs[i]?=some (k,x)∧(aX P w).is k kv=true)
 (h:∀ (h':Heap) (tk:Nat),h'.DictOf (aX P w) s.heap.objs.size (merged [] kvs)→(∀ b o,s.heap.get? b=some o→h'.get? b=some o)→Q (.ref s.heap.objs.size) { s with heap:=h',toks:=tk }) :
  wpAny (model P w) A (call (.type "dict") [.ref l]) Q E s:=by
 refine callType_codes (Q₁:=fun (obj:Value) (s₁:Shared)=>obj=Ao s.heap.objs.size∧s₁={ s with heap:=s.heap.push { cls:=.type "dict",data:=.dict #[] } }) F.kt_called_dict (F.kt_typeCall_dict_1 _) F.entry_dict_init (kt_code_dict_new _ ⟨rfl,rfl⟩) ?_
 rintro obj s₁ ⟨rfl,rfl⟩
 have hnew:(s.heap.push { cls:=.type "dict",data:=.dict #[] }).DictOf (aX P w) s.heap.objs.size []:=Heap.DictOf.new s.heap
 obtain⟨⟨oc,od,oda,osl⟩,nl,hol,hcl,hod,hdl⟩:=id hl
 simp only at hcl hod hdl
 subst hcl hod hdl
 have lS:l<s.heap.objs.size:=AV hol
 have hol1:=AJ (h:=s.heap) { cls:=.type "dict",data:=.dict #[] } hol
 refine⟨hnew.typeIs,F.args_dict_init_2 _ _,?_⟩
 unfold Builtin.«dict.__init__»
 refine AK ?_
 unfold Builtin.Dict.selfAndRest
 refine AK (wpAny_notOrdered_dict hnew.typeIs ?_)
 show wpAny _ _ (pure (s.heap.objs.size,[Ao l])) _ _ _
 refine Aa ?_
 show wpAny _ _ (Builtin.Dict.updateFrom "dict.__init__" s.heap.objs.size (.ref l) [] .none) _ _ _
 unfold Builtin.Dict.updateFrom
 refine AK (wpAny_typeOf (T:="list") ⟨_,hol1,rfl⟩ ?_)
 rw[if_pos (by decide)]
 refine AK (aBP (by simp[hh]) hol1 fun h1 t1 k1=>?_)
 show wpAny _ _ (rule _ >>= _) _ _ _
 refine AK (wpAny_rule ?_)
 have hol2:=k1 _ _ hol1
 have hl2:h1.IsList l its.toArray:=⟨_,hol2,rfl,nl,rfl⟩
 refine AK (Cy (s:={ s with heap:=h1,toks:=t1 }) hl2 ?_)
 have sz1:s.heap.objs.size<h1.objs.size:=by
  obtain⟨o,es,ep,ho,_⟩:=hnew
  exact AV (k1 _ _ ho)
 have nI:l≠h1.objs.size:=Ae (AV hol2)
 have nD:s.heap.objs.size∉[h1.objs.size,l]:=by
  simp only[AZ,AL,Bz,or_false,not_or]
  exact⟨Ae sz1,Ei lS⟩
 refine Aa ⟨Cl gA _,?_⟩
 have hh2:A.in1.in1.handled=none:=by simp[hh]
 refine aJZ ((Walks.list hh2 _ l nI its.toArray).toS) s.heap.objs.size nD .none kvs (by rw[AM,hn]) (by rw[AM];exact hz) { s with heap:=h1.push { cls:=.type "list_iterator",data:=.fields #[.ref l,.int 0 0] },toks:=t1 } (fun i v pv=>?_) (its.toArray.size - 0) 0 _ (by omega) (BK _)
  ⟨⟨_,Ah _ rfl,rfl,rfl⟩,(hl2.push _)⟩ (fun _ _ _ e=>e) ?_ ?_
 ·obtain⟨a,k,kv,x,ob,c,rfl,hg,hc,hd,hi,hk⟩:=hv i v (by simpa using pv)
  have la:=AV hg
  refine⟨a,k,kv,x,ob,c,rfl,?_,AJ _ (k1 _ _ (AJ _ hg)),hc,hd,hi,hk⟩
  simp only[AZ,AL,Bz,or_false,not_or]
  exact⟨Ae la,Ae (DK la sz1)⟩
 ·obtain⟨o,es,ep,ho,r⟩:=hnew
  exact⟨o,es,ep,AJ _ (k1 _ _ ho),r⟩
 ·intro s3 mv hS3
  obtain⟨h3,g3,d3,t3,o3⟩:=s3
  have e1:g3=s.gens:=mv.gens
  have e2:d3=s.drawn:=mv.drawn
  have e3:o3=s.os:=mv.os
  subst e1 e2 e3
  refine⟨rfl,h h3 t3 hS3 fun b o e=>?_⟩
  have lb:=AV e
  refine mv.heap b o ?_ (AJ _ (k1 _ _ (AJ _ e)))
  simp only[AZ,AL,Bz,or_false,not_or]
  exact⟨Ae lb,Ae (DK lb sz1)⟩
end
def cA(H:Hp)(ys:List V)(kvs:List (Key×V)):Prop:=Paired (fun (y:V) (kv:Key×V)=>∃ a,y=.ref a∧H a=some (.tup [kV kv.1,kv.2])) ys kvs
theorem cA.nil(H:Hp):cA H [] []:=Da
theorem cA.len{H:Hp}{ys:List V}{kvs:List (Key×V)}(h:cA H ys kvs):ys.length=kvs.length:=DO h
theorem cA.same{H H':Hp}(S:aH H H'):∀ {ys:List V} {kvs:List (Key×V)},cA H ys kvs→cA H' ys kvs
 | _,_,Da=>Da
 | _,_,Dq ⟨a,e,o⟩ t=>Dq ⟨a,e,S _ _ o⟩ (cA.same S t)
theorem cA.snoc{H:Hp}{ys:List V}{kvs:List (Key×V)}{p:Addr}{k:Key}{v:V}(h:cA H ys kvs)(hp:H p=none):cA (upd H p (.tup [kV k,v])) (ys++[.ref p]) (kvs++[(k,v)]) :=
 Paired.snoc (h.same (aH.upd hp)) ⟨p,rfl,aC⟩
section
variable{X:Cx}
theorem aOQ{P:Program}{w:World}{k:Key}{u:Value}(r:bM (kV k) u):(aX P w).is k u=true:=by
 cases k with
 | inl z=>obtain⟨t,rfl⟩:=r;exact rX z t
 | inr z=>obtain⟨t,rfl⟩:=r;exact rW z t
theorem qI{pins:List (Addr×Obj)}{σ:St}{H:Hp}{s:Shared}(I:Inv X pins σ H s):∀ {ys:List V} {kvs:List (Key×V)} {its:List Value},cA H ys kvs→bF ys its →
  ∃ vk:List (Key×Value),KV kvs vk∧its.length=vk.length∧∀ (i:Nat) (v:Value),its[i]?=some v→∃ (a:Addr) (k:Key) (kv x:Value) (ob:Obj) (c:Nat),v=.ref a∧s.heap.get? a=some ob∧ob.cls=.type "tuple"∧ob.data=.seq #[kv,x] c∧vk[i]?=some (k,x)∧(aX X.prog X.w).is k kv=true
 | _,_,_,Da,Da=>⟨[],Da,rfl,fun i v e=>by simp at e⟩
 | _,(k,v0) :: kvs,u :: its,Dq ⟨a,e,o⟩ t,Dq r rs=>by
  obtain⟨vk,h1,h2,h3⟩:=qI I t rs
  subst e
  cases r
  obtain⟨tis,rt,⟨ob,g,hc,c,hd⟩,_⟩:=I.tuple (SqT.of o)
  obtain⟨ku,xu,rfl,rk,rx⟩:=bF.two rt
  refine⟨(k,xu) :: vk,Dq ⟨rfl,rx⟩ h1,by simp[h2],fun i v e=>?_⟩
  cases i with
  | zero =>
   simp at e
   subst e
   exact⟨a,k,ku,xu,ob,c,rfl,g,hc,hd,rfl,aOQ rk⟩
  | succ i =>
   obtain⟨a',k',kv',x',ob',c',q⟩:=h3 i v (by simpa using e)
   exact⟨a',k',kv',x',ob',c',by simpa using q⟩
theorem eP(hc:X.calm=true):gK X (.type "dict") (fun xs H Q=>∃ (p:Addr) (ys:List V) (kvs:List (Key×V)),xs=[.ref p]∧SqL X.K H p ys∧cA H ys kvs∧kvs.length≤1000∧(kvs.map (·.1)).Nodup∧∀ l,H l=none→Q (.ref l) (upd H l (.dK kvs))):=by
 intro pins s σ H xs us Q I r h
 obtain⟨p,ys,kvs,rfl,hq,hp,hn,nd,q⟩:=h
 obtain⟨u,rfl,ru⟩:=bF.one r
 cases ru
 obtain⟨its,rv,pl,hz⟩:=I.list hq
 obtain⟨vk,kv,el,hv⟩:=qI I hp rv
 have big:(1000:Nat)≤Ak:=by decide
 have l1:=KV.length kv
 have ek:vk.map (·.1)=kvs.map (·.1):=(KV.keys kv).symm
 refine xU (kvs:=vk) (I.ok.hd hc) pl el (by omega) hv fun h' tk hD hk=>?_
 rw[merged_nil_of_nodup vk (by rw[ek];exact nd)] at hD
 refine⟨.ref s.heap.objs.size,_,I.laid (t':=tk) hk (AS _) (show cE X.prog X.w _ h' _ (.dK kvs) from⟨by omega,?_,vk,kv,hD⟩),rfl,q _ (I.hok.fresh (AS _))⟩
 have b:=I.big
 exact beq_eq_false_iff_ne.mpr (Ei b)
end
end L2
namespace L2
open PySem PySem.Spec PyProof.Rows
structure MethAt (K:AD) (C:Addr) (m qual:Str) (st:Stmt) (ps:List Str):Prop where
 ex:∃ (f:Addr) (fd:Bb),Fun K m qual st f fd∧gL K fd ps []∧Meth K C m f
structure InitAt (K:AD) (C:Addr) (qual:Str) (st:Stmt) (ps:List Str):Prop where
 ex:∃ (f:Addr) (fd:Bb),Fun K "__init__" qual st f fd∧gL K fd ps []∧Mk K C f
structure Mc (P:Program) (w:World) (K:AD) (mg:Str→Option Value) (base:Heap) (k:Nat) (C:Addr) (m:Str) (ps:List Str) (sp:Sp):Prop where
 ex:∃ (f:Addr) (fd:Bb),FnOk P w K mg base CX0 k f fd ps sp∧gL K fd ps []∧Meth K C m f
structure Ic (P:Program) (w:World) (K:AD) (mg:Str→Option Value) (base:Heap) (k:Nat) (C:Addr) (ps:List Str) (sp:Sp):Prop where
 ex:∃ (f:Addr) (fd:Bb),FnOk P w K mg base CX0 k f fd ps sp∧gL K fd ps []∧Mk K C f
section
variable{P:Program}{w:World}{K:AD}{mg:Str→Option Value}{base:Heap}{C:Addr}{m qual:Str}{st:Stmt}{N ps:List Str}{k:Nat}{sp:Sp}
theorem MethAt.mc(D:MethAt K C m qual st ps)(S:FnScope N ps (aF st))(len:∀ vs H Q E,sp vs H Q E→vs.length=ps.length)
 (hbody:∀ (f:Addr) (cdv:Value) (A:Around) (outer:List Env) (s:Shared) (H:Hp) (vs:List V) (Q:VK) (E:XK),Room k (A.deeper (envOfC qual (aF st) s.heap.objs.size f cdv))→sp vs H Q E →
   ∃ t,PSs (gZ CX0 P w K mg base N qual (aF st) f cdv A outer s H E).nox (cQ st) t∧t { nx:=fun _ H'=>Q .non H',rt:=Q } (start N vs) H):Mc P w K mg base (k+1) C m ps sp:=by
 obtain⟨f,fd,F,b,mm⟩:=D.ex
 exact⟨f,fd,F.ok S len fun cdv A outer s H vs Q E hr h=>hbody f cdv A outer s H vs Q E hr h,b,mm⟩
theorem InitAt.ic(D:InitAt K C qual st ps)(S:FnScope N ps (aF st))(len:∀ vs H Q E,sp vs H Q E→vs.length=ps.length)
 (hbody:∀ (f:Addr) (cdv:Value) (A:Around) (outer:List Env) (s:Shared) (H:Hp) (vs:List V) (Q:VK) (E:XK),Room k (A.deeper (envOfC qual (aF st) s.heap.objs.size f cdv))→sp vs H Q E →
   ∃ t,PSs (gZ CX0 P w K mg base N qual (aF st) f cdv A outer s H E).nox (cQ st) t∧t { nx:=fun _ H'=>Q .non H',rt:=Q } (start N vs) H):Ic P w K mg base (k+1) C ps sp:=by
 obtain⟨f,fd,F,b,mm⟩:=D.ex
 exact⟨f,fd,F.ok S len fun cdv A outer s H vs Q E hr h=>hbody f cdv A outer s H vs Q E hr h,b,mm⟩
theorem Mc.imp{sp':Sp}(F:Mc P w K mg base k C m ps sp)(h:∀ vs H Q E,sp' vs H Q E→sp vs H Q E):Mc P w K mg base k C m ps sp':=by
 obtain⟨f,fd,G,b,mm⟩:=F.ex
 exact⟨f,fd,G.imp h,b,mm⟩
theorem meth_mk{f:Addr}{oc:Value}{od an:Option Addr}{osl:Array (Option Value)}{kV doc pm cdv ct:Value}(a:BR K (.ref C) m=some (some (.ref f)))(i:DY K (.ref f)=true)
 (l:K.lookup f=some ⟨oc,od,.func (Br m qual (hJ st) (cQ st) (aF st) .none kV doc pm an cdv ct),osl⟩)(c:Cj K cdv qual=true)(kp:Bm K (.ref f)=true)
 (hb:∀ (kV doc pm:Value) (an:Option Addr) (cdv ct:Value) (us:List Value),us.length=ps.length→EV (Br m qual (hJ st) (cQ st) (aF st) .none kV doc pm an cdv ct) ⟨us,[]⟩=pure (ps.zip us)):MethAt K C m qual st ps :=
 ⟨f,_,sC l c kp,(sC l c kp).binds hb,⟨a,i,kp⟩⟩
theorem init_mk{f:Addr}{oc:Value}{od an:Option Addr}{osl:Array (Option Value)}{kV doc pm cdv ct:Value}(a:BR K (.ref C) "__init__"=some (some (.ref f)))(i:DY K (.ref f)=true)
 (l:K.lookup f=some ⟨oc,od,.func (Br "__init__" qual (hJ st) (cQ st) (aF st) .none kV doc pm an cdv ct),osl⟩)(c:Cj K cdv qual=true)(kp:Bm K (.ref f)=true)
 (mk:Eg K C=true)(kc:Bm K (.ref C)=true)
 (hb:∀ (kV doc pm:Value) (an:Option Addr) (cdv ct:Value) (us:List Value),us.length=ps.length→EV (Br "__init__" qual (hJ st) (cQ st) (aF st) .none kV doc pm an cdv ct) ⟨us,[]⟩=pure (ps.zip us)):InitAt K C qual st ps :=
 ⟨f,_,sC l c kp,(sC l c kp).binds hb,⟨mk,a,i,kc⟩⟩
end
section
variable{X:Cx}{k:Nat}{ps:List Str}{sp:Sp}{x m:Str}{p pos apos:Pos}{o e:Expr}{es:List Expr}{ta:TE}{t:TA}{C:Addr}
theorem aPB{pl:Sem Bool}(c:Cls X.K C)(F:Mc X.prog X.w X.K X.mg X.base k C m ps sp)(hr:Room k X.A)(ho:PE X o ta)(ha:PA X (e :: es) t)
 (hst:Al (e :: es) X.env=(false,eval e X.env) :: Al es X.env:=by rfl)(hpl:(backTo pos (Al es X.env)).any (·.1)=false:=by rfl)
 (ht:eval (.Call (.Attribute o m apos) (e :: es) [] pos) X.env=(do
   let ov ← eval o X.env
   standAt apos.atName
   let (f,first) ← holding [ov] (EY ov m pl)
   callWith pos f first (backTo pos (Al (e :: es) X.env)) (DJ pos (CS [] X.env))):=by rfl) :
  PE X (.Call (.Attribute o m apos) (e :: es) [] pos) (aGY C m sp [] E0 ta t):=by
 obtain⟨f,fd,G,b,mm⟩:=F.ex
 exact aOZ (pl:=pl) ho c mm G hr b .nil aHY ha hst hpl ht
theorem yV{pl:Sem Bool}(c:Cls X.K C)(F:Mc X.prog X.w X.K X.mg X.base k C m ps sp)(hr:Room k X.A)(ho:PE X o ta)
 (ht:eval (.Call (.Attribute o m apos) [] [] pos) X.env=(do
   let ov ← eval o X.env
   standAt apos.atName
   let (f,first) ← holding [ov] (EY ov m pl)
   callWith pos f first (backTo pos (Al [] X.env)) (DJ pos (CS [] X.env))):=by rfl) :
  PE X (.Call (.Attribute o m apos) [] [] pos) (aGY C m sp [] E0 ta aCP):=by
 obtain⟨f,fd,G,b,mm⟩:=F.ex
 exact aLW (pl:=pl) ho c mm G hr b .nil aHY ht
theorem aLV(hm:X.mg x=some (.ref C))(F:Ic X.prog X.w X.K X.mg X.base k C ps sp)(hr:Room (k+1) X.A)(ha:PA X (e :: es) t)(hg:Gl X x:=by rfl)(hdb:(x == ("__debug__":Str))=false:=by decide)
 (he:Al (e :: es) X.env=(false,eval e X.env) :: Al es X.env:=by rfl)(hpl:(backTo pos (Al es X.env)).any (·.1)=false:=by rfl) :
  PE X (.Call (.Name x p) (e :: es) [] pos) (aQL C sp [] E0 t):=by
 obtain⟨f,fd,G,b,mm⟩:=F.ex
 exact aPA mm G hr hg hm b .nil aHY ha hdb he hpl
end
section
variable{X:Cx}{K:AD}
theorem aT(e:X.K=K):IxR X (aUN K):=by subst e;exact aSW
theorem cZ(e:X.K=K):IxR X (aUO K):=by subst e;exact aPQ
theorem eO(e:X.K=K):SlR X (aUL K):=by subst e;exact aOK
theorem fN(e:X.K=K):OpR X (BV .In) (rIn K false):=by subst e;exact aJM
theorem xO(e:X.K=K):OpR X (BV .NotIn) (rIn K true):=by subst e;exact aBH
theorem bB(e:X.K=K):gK X (.builtin "len") (fun xs H Q=>∃ p ys,xs=[.ref p]∧(SqL K H p ys∨SqT K H p ys)∧Q (.int ys.length) H):=by subst e;exact aCE
theorem cD(e:X.K=K):gK X (.builtin "isinstance") (fun xs H Q=>∃ x y c t b,xs=[x,y]∧aQB y=some c∧TyOf K H x t∧BF K t c=some b∧Q (.bl b) H):=by subst e;exact aET
theorem xV(e:X.K=K):gK X (.type "list") (fun xs H Q=>∃ p ys,xs=[.ref p]∧(SqL K H p ys∨SqT K H p ys)∧∀ l,H l=none→Q (.ref l) (upd H l (.lst ys))):=by subst e;exact aCC
end
theorem gB{j:Int}(h:decide (0<j)=true):0<j:=of_decide_eq_true h
end L2
namespace L2
open PySem PySem.Spec PyProof.Rows
theorem fA{X:Cx}{i:Nat}{x:Str}{elt iter tg:Expr}{ifs:List Expr}{scope:Scope}{pos pos' cpos:Pos}{wi:TI}{g:TG}{tt:TT}{te:TE}(hXN:X.N.Nodup)(hix:X.N[i]?=some x)(N':List Str)(nt:Nat)(cap:List Nat)
 (hc:X.calm=true)(hi:PI X tg iter wi)(hg:∀ R,PG (blk X scope N' R) tg g)(hgk:aEZ nt g)(ht:∀ R,aNY (blk X scope N' R) ifs tt)(he:∀ R,PE (blk X scope N' R) elt te)
 (hx:Loc X.env.scope x:=by exact Or.inl rfl)(hfn:X.fn x=true∨X.env.scope.names.lookup x=some .local:=by first | exact .inl rfl | exact .inr rfl | assumption)
 (hsw:EX (.ListComp elt [⟨tg,iter,ifs,0⟩] scope cpos) (some (.Name x pos')) pos.line X.env=pure true:=by rfl)
 (hcell:(scope.names.all fun y=>!(y.2 == .cell))=true:=by rfl)(hkind:scope.kind=.function:=by rfl)
 (hnames:(scope.names.all fun y=>!(y.2 == .local) || (scope.names.lookup y.1 == some .local))=true:=by rfl)
 (hfr:(scope.names.all fun y=>!(y.2 == .free) || (X.env.kindOf y.1 == some .cell || X.env.kindOf y.1 == some .free))=true:=by rfl)
 (hN:N'.length=nt+cap.length:=by rfl)(hcapN:(cap.map fun j=>X.N[j]?)=(N'.drop nt).map some:=by rfl)(hcapF:((N'.drop nt).all fun x=>scope.names.lookup x == some .free)=true:=by rfl)
 (hs:∀ x,Et iter X.env x=pure x:=by intro _;rfl) :
  PS X (.Assign [.Name x pos'] (.ListComp elt [⟨tg,iter,ifs,0⟩] scope cpos) pos) (aRG (aQN nt cap wi g tt te) (wQ i)):=by
 intro pins s σ H Ds I h
 have hfr':∀ y∈scope.names,y.2=.free→(X.env.kindOf y.1=some .cell∨X.env.kindOf y.1=some .free):=fun y hy e=>by
  have z:=jK hfr y hy
  rw[e] at z
  have z':(X.env.kindOf y.1 == some .cell || X.env.kindOf y.1 == some .free)=true:=z
  rcases EK.mp z' with q | q
  ·exact .inl (beq_iff_eq.mp q)
  ·exact .inr (beq_iff_eq.mp q)
 have hcell':∀ y∈scope.names,y.2≠.cell:=fun y hy e=>by
  have z:=jK hcell y hy
  rw[e] at z
  cases z
 obtain⟨cl,hcl,hclk,hclh⟩:=xD (scope:=scope) (env:=X.env) fun y hy e=>I.ok.has y.1 (hfr' y hy e)
 have hnames':∀ y∈scope.names,y.2=.local→scope.names.lookup y.1=some .local:=fun y hy e=>by
  have z:=jK hnames y hy
  rw[e] at z
  exact beq_iff_eq.mp z
 have hcapN':∀ (k j:Nat),cap[k]?=some j→N'[nt+k]?=X.N[j]?:=fun k j e=>by
  have z:=congrArg (fun l:List (Option Str)=>l[k]?) hcapN
  simp only[AI,e,Option.map_some,ET] at z
  cases q:N'[nt+k]? with
  | none=>rw[q] at z;cases z
  | some x=>rw[q] at z;exact (BA z).symm
 rw[exec_Assign_Name_used _ _ _ _ hsw]
 refine AK (wpAny_standAt (AK ?_))
 show wpAny _ X.A (do let _ ← comprehension (.ListComp elt [⟨tg,iter,ifs,0⟩] scope cpos) scope X.env _ (newList []) false (eval iter X.env) (some (assign (.Name x pos') X.env))) _ _ s
 refine AK (BB (wpAny_comprehension_free (use:=some (assign (.Name x pos') X.env)) (Q:=fun _ s'=>SP X pins Ds .next s') rfl hs hcl hkind hnames'
  (thn (hi pins s σ H _ I h) fun v s1 h1=>thn h1 fun itv s2 h2=>?_)) (fun _ s' hq=>Aa (Aa hq)) fun _ _ e=>e)
 obtain⟨it,fp,tn,J,H2,e,I2,T,st2,f2,hw⟩:=h2
 subst e
 refine xB (RR:=fun acc C=>compPost (model X.prog X.w) X.A X.xe (some (assign (.Name x pos') X.env)) (fun _ s'=>SP X pins Ds .next s') acc C) hc I2 T st2 f2 hclk hclh hcell' hkind hfr' hN hcapN' (fun x hx=>beq_iff_eq.mp (jK hcapF x hx)) hg hgk ht he hw ?_
 intro D C s' H' ys hD q I' B
 obtain⟨m,hn⟩:=B.ns
 obtain⟨oC,es,ep,hoC,hdC,hrest⟩:=id hn
 have nofs:C∉X.fs:=fun hb=>by
  obtain⟨_,o,ho,_⟩:=I'.ok.funs.mem hb
  exact absurd (Ac (AV ho) B.ab) (CI _)
 have IC:Inv X ((C,oC) :: pins) σ (upd H' D (.lst ys)) s':=I'.pins_of fun p hp=>by
  rcases AZ.mp hp with rfl | hp
  ·exact⟨hoC,B.fr,B.ne,nofs,fun v z=>by rw[hdC] at z;cases z⟩
  ·exact I'.pin p (Ag _ hp)
 show wpAny _ X.A (assign (.Name x pos') X.env (.ref D)) _ _ _
 refine thn (aN hXN hix hx hfn ((C,oC) :: pins) s' σ (upd H' D (.lst ys)) (.ref D) (.ref D) Ds.nx IC rfl (q D hD)) fun _ s'' h''=>?_
 obtain⟨σ2,H3,I3,q3⟩:=h''
 have pC:=I3.pin (C,oC) (Ag _ AQ)
 refine⟨m,hn.at' (fun o e=>?_),fun h4 hs4=>⟨σ2,H3,?_,q3⟩⟩
 ·rw[hoC] at e
  cases e
  exact pC.1
 ·have I4:Inv X pins σ2 H3 s'':=I3.pins_of fun p hp=>I3.pin p (Ag _ (AO _ hp))
  exact I4.turned (it:=C) (t':=s''.toks) (fun b o hb e=>hs4.extBut b o hb e) pC.2.1 B.ne (.inr B.ab) B.cl B.pn
end L2
namespace L2
open PySem PySem.Spec PyProof.Rows
section
variable{X:Cx}
end
structure InstC (K:AD) (C:Addr):Prop where
 ha:BR K (.ref C) "__class__"=some (some (.builtin "object.__class__"))
 hn:EM K (.builtin "object.__class__") "__get__"=some (some (.builtin "getset_descriptor.__get__"))
 htk:PySem.W.takesIn K (.builtin "object.__class__")=some true
 hm:PySem.W.mroIn K C (.type "object")=some true
theorem MethAt.mcD{P:Program}{w:World}{K:AD}{mg:Str→Option Value}{base:Heap}{C:Addr}{m qual:Str}{st:Stmt}{N ps:List Str}{k:Nat}{sp:Sp}(D:MethAt K C m qual st ps)(S:FnScope N ps (aF st))(len:∀ vs H Q E,sp vs H Q E→vs.length=ps.length)
 (hbody:∀ (f:Addr) (cdv:Value) (A:Around) (outer:List Env) (s:Shared) (H:Hp) (vs:List V) (Q:VK) (E:XK),Room k (A.deeper (envOfC qual (aF st) s.heap.objs.size f cdv))→sp vs H Q E →
   ∃ t,PSs (gZ CX0 P w K mg base N qual (aF st) f cdv A outer s H E).nox (cQ st) t∧t { nx:=fun _ H'=>cW Q .non H',rt:=cW Q } (start N vs) H):Mc P w K mg base (k+1) C m ps sp:=by
 obtain⟨f,fd,F,b,mm⟩:=D.ex
 refine⟨f,fd,FnOk.drop len (F.ok S (fun vs H Q E ⟨Q',h,_⟩=>len vs H Q' E h) fun cdv A outer s H vs Q E hr ⟨Q',h,e⟩=>?_),b,mm⟩
 subst e
 exact hbody f cdv A outer s H vs Q' E hr h
theorem gJ.under{H:Hp}{p q:Addr}{o u:HO}(hp:H p=none)(d:sF o=true)(hq:L2.upd H p o q=none):gJ (L2.upd (L2.upd H p o) q u) (L2.upd H q u):=fun b=>by
 by_cases hb:b=q
 ·subst hb
  left
  rw[aC,aC]
 ·rw[aI hb,aI hb]
  by_cases hc:b=p
  ·subst hc
   right
   exact⟨hp,o,aC,d⟩
  ·left
   rw[aI hc]
end L2
namespace Ld
open PySem L2
noncomputable def fH(c:Nat):Bool:=decide (97≤c) && decide (c≤122)
noncomputable def eW(z:Str):Bool:=decide (1≤z.length) && decide (z.length≤8) && !decide (z="sea") && z.cps.toList.all fH
noncomputable def isInt:Dv→Bool
 | .int _=>true
 | _=>false
noncomputable def aMP:Dv→Bool
 | .bl _=>true
 | _=>false
noncomputable def aUZ:Dv→Bool
 | .str _=>true
 | _=>false
noncomputable def aVB:Dv→Bool
 | .lst _=>true
 | _=>false
noncomputable def aUY:Dv→Bool
 | .tup _=>true
 | _=>false
noncomputable def aGU(n:Int):Dv→Bool
 | .tup ds=>decide ((ds.length:Int)=n)
 | _=>false
noncomputable def zE(n:Int):Dv→Bool
 | .lst ds=>decide (1≤ds.length) && decide ((ds.length:Int)≤n)
 | _=>false
noncomputable def pI:Dv→Bool
 | .str z=>eW z
 | _=>false
noncomputable def hgt(i:Int):Bool:=decide (-1000000≤i) && decide (i≤1000000)
noncomputable def amt(i:Int):Bool:=decide (0≤i) && decide (i≤1000000)
noncomputable def eA:Dv→Bool
 | .int i=>hgt i
 | _=>false
noncomputable def kG:Dv→Bool
 | .int i=>amt i
 | _=>false
noncomputable def fS(zs:List Str):Dv→Bool
 | .str z=>decide (z∈zs)
 | _=>false
noncomputable def cN:Dv→Option Str
 | .tup (.str z :: _)=>some z
 | _=>none
noncomputable def cC:Dv→Bool
 | .tup [a,b,c]=>pI a && (eA b && kG c)
 | _=>false
noncomputable def kN:Dv→Bool
 | .lst ds=>(decide (1≤ds.length) && decide (ds.length≤12)) && (ds.all cC && decide ((ds.map cN).Nodup))
 | _=>false
noncomputable def nJ(zs:List Str)(a b:Dv):Bool:=fS zs a && (fS zs b && !deq a b)
noncomputable def lB(c:Dv):Dv→Bool
 | .non=>true
 | .int i=>hgt i && (match c with | .int j=>decide (i<j) | _=>false)
 | _=>false
noncomputable def cV(zs:List Str):Dv→Bool
 | .tup [n,a,b,c,r,s]=>pI n && nJ zs a b && (eA c && (kG r && lB c s))
 | _=>false
noncomputable def nK(zs:List Str):Dv→Bool
 | .lst ds=>(decide (1≤ds.length) && decide (ds.length≤40)) && (ds.all (cV zs) && decide ((ds.map cN).Nodup))
 | _=>false
mutual
noncomputable def cO:Dv→Bool
 | .str z=>decide (z.length≤1000)
 | .lst ds=>decide (ds.length≤1000) && dL ds
 | .tup ds=>decide (ds.length≤1000) && dL ds
 | _=>true
noncomputable def dL:List Dv→Bool
 | []=>true
 | d :: ds=>cO d && dL ds
end
theorem iS:∀ {ds:List Dv} {d:Dv},dL ds=true→d∈ds→cO d=true
 | [],_,_,m=>by cases m
 | e :: ds,d,f,m=>by
  rw[dL,AU] at f
  rcases AZ.mp m with rfl | m
  ·exact f.1
  ·exact iS f.2 m
theorem yG{ds:List Dv}(h:cO (.tup ds)=true):dL ds=true:=(Ai.mp (show (decide (ds.length≤1000) && dL ds)=true from h)).2
theorem sO(K:AD){H:Hp}{d:Dv}{x:V}(h:Is H d x):∃ t,TyOf K H x t∧BF K t (.type "int")=some (isInt d || aMP d)∧BF K t (.type "bool")=some (aMP d) ∧
  BF K t (.type "str")=some (aUZ d)∧BF K t (.type "list")=some (aVB d)∧BF K t (.type "tuple")=some (aUY d):=by
 cases d with
 | non=>cases (show x=.non from h);exact⟨_,.non,rfl,rfl,rfl,rfl,rfl⟩
 | bl b=>cases (show x=.bl b from h);exact⟨_,.bl b,rfl,gG _ _,rfl,rfl,rfl⟩
 | int i=>cases (show x=.int i from h);exact⟨_,.int i,gG _ _,rfl,rfl,rfl,rfl⟩
 | str z=>cases (show x=.str z from h);exact⟨_,.str z,rfl,rfl,gG _ _,rfl,rfl⟩
 | lst ds=>obtain⟨a,vs,rfl,e,_⟩:=h;exact⟨_,.lst e,rfl,rfl,rfl,gG _ _,rfl⟩
 | tup ds=>obtain⟨a,vs,rfl,e,_⟩:=h;exact⟨_,.tup e,rfl,rfl,rfl,rfl,gG _ _⟩
 | dct ks ds=>obtain⟨a,vs,rfl,e,_⟩:=h;exact⟨_,.dK e,rfl,rfl,rfl,rfl,rfl⟩
theorem aBS:("abcdefghijklmnopqrstuvwxyz":Str).cps.toList=[97,98,99,100,101,102,103,104,105,106,107,108,109,110,111,112,113,114,115,116,117,118,119,120,121,122]:=by decide +kernel
theorem aGE(c:Nat):(!(Builtin.Str.occurrences ("abcdefghijklmnopqrstuvwxyz":Str) ⟨#[c]⟩ 0 ("abcdefghijklmnopqrstuvwxyz":Str).length 1).isEmpty)=fH c:=by
 rw[PySem.StrLaws.found_one,aBS]
 have h1:∀ d,d∈([97,98,99,100,101,102,103,104,105,106,107,108,109,110,111,112,113,114,115,116,117,118,119,120,121,122]:List Nat)→97≤d∧d≤122:=by decide
 have h2:∀ k,k<26→(97+k)∈([97,98,99,100,101,102,103,104,105,106,107,108,109,110,111,112,113,114,115,116,117,118,119,120,121,122]:List Nat):=by decide
 unfold fH
 by_cases h:97≤c∧c≤122
 ·have e:=h2 (c - 97) (by omega)
  rw[show 97+(c - 97)=c by omega] at e
  rw[decide_eq_true e,decide_eq_true h.1,decide_eq_true h.2]
  rfl
 ·have e:¬ c∈([97,98,99,100,101,102,103,104,105,106,107,108,109,110,111,112,113,114,115,116,117,118,119,120,121,122]:List Nat):=fun m=>h (h1 c m)
  rw[decide_eq_false e]
  by_cases h':97≤c
  ·rw[decide_eq_true h',decide_eq_false (fun z=>h ⟨h',z⟩)]
   rfl
  ·rw[decide_eq_false h']
   rfl
noncomputable def aP(d:Dv):Str:=(cN d).getD ""
noncomputable def mX(d:Dv):Key:=.inr (aP d)
theorem aNF{d:Dv}{z:Str}(h:cN d=some z):aP d=z:=by unfold aP;rw[h];rfl
noncomputable def mW(d1 d2:Addr):List (Str×V):=iN "dyke_rows" (.ref d2) (iN "field_rows" (.ref d1) [])
theorem aVH:¬ (("field_rows":Str)="dyke_rows"):=by decide +kernel
theorem aIC(d1 d2:Addr):(mW d1 d2).lookup ("field_rows":Str)=some (.ref d1):=by
 unfold mW
 rw[fD,if_neg aVH,fD,if_pos rfl]
theorem aBT(d1 d2:Addr):(mW d1 d2).lookup ("dyke_rows":Str)=some (.ref d2):=by
 unfold mW
 rw[fD,if_pos rfl]
theorem gF(d1 d2:Addr){m:Str}(h1:¬ m="dyke_rows")(h2:¬ m="field_rows"):(mW d1 d2).lookup m=none:=by
 unfold mW
 rw[fD,if_neg h1,fD,if_neg h2]
 all_goals rfl
def qW(H:Hp)(a:Addr)(ds:List Dv):Prop:=∃ kvs,H a=some (.dK kvs)∧kvs.map (·.1)=ds.map mX∧IsL H ds (kvs.map (·.2))
theorem qW.same{H H':Hp}(S:aH H H'){a:Addr}{ds:List Dv}(h:qW H a ds):qW H' a ds:=by
 obtain⟨kvs,e,k,i⟩:=h
 exact⟨kvs,S _ _ e,k,IsL.same S _ _ i⟩
structure LandAt (C:Addr) (H:Hp) (x:Addr) (fs ds:List Dv):Prop where
 ex:∃ dx d1 d2,H x=some (.ins C dx (mW d1 d2))∧qW H d1 fs∧qW H d2 ds
 okf:kN (.lst fs)=true
 okd:nK ("sea" :: fs.map aP) (.lst ds)=true
theorem LandAt.same{C:Addr}{H H':Hp}(S:aH H H'){x:Addr}{fs ds:List Dv}(h:LandAt C H x fs ds):LandAt C H' x fs ds:=by
 obtain⟨⟨dx,d1,d2,e,t1,t2⟩,a,b⟩:=h
 exact⟨⟨dx,d1,d2,S _ _ e,t1.same S,t2.same S⟩,a,b⟩
theorem aAD:∀ {kvs:List (Key×V)} {H:Hp} {ds:List Dv} {d:Dv},kvs.map (·.1)=ds.map mX→IsL H ds (kvs.map (·.2))→(ds.map aP).Nodup→d∈ds→∃ v,fL kvs (.inr (aP d))=some v∧Is H d v
 | [],_,[],_,_,_,_,m=>by cases m
 | [],_,_ :: _,_,e,_,_,_=>by simp at e
 | _ :: _,_,[],_,_,_,_,m=>by cases m
 | (k,v) :: kvs,H,d0 :: ds,d,e,i,n,m=>by
  obtain⟨v',r,e1,h0,t⟩:=i
  rw[AX] at e1
  cases e1
  rw[AX,AX,List.cons.injEq] at e
  have ek:k=mX d0:=e.1
  rw[AX,Ap] at n
  by_cases q:aP d=aP d0
  ·have:d=d0:=by
    rcases AZ.mp m with rfl | m
    ·rfl
    ·exact absurd (AN.mpr ⟨d,m,q⟩) n.1
   subst this
   refine⟨v,?_,h0⟩
   unfold fL
   rw[Bl,ek]
   simp[mX]
  ·have m':d∈ds:=by
    rcases AZ.mp m with rfl | m
    ·exact absurd rfl q
    ·exact m
   obtain⟨u,e2,h2⟩:=aAD (kvs:=kvs) e.2 t n.2 m'
   refine⟨u,?_,h2⟩
   unfold fL at e2 ⊢
   have hk:¬ k=Sum.inr (aP d):=by
    rw[ek]
    intro z
    exact q (EZ z).symm
   rw[Bl,decide_eq_false (show ¬ (k,v).1=Sum.inr (aP d) from hk)]
   exact e2
theorem gY:∀ {ds:List Dv} {p:Dv→Bool},(∀ d,p d=true→∃ z,cN d=some z)→ds.all p=true→ds.map cN=(ds.map aP).map some
 | [],_,_,_=>rfl
 | d :: ds,p,hp,h=>by
  rw[Cg,AU] at h
  obtain⟨z,e⟩:=hp d h.1
  rw[AX,AX,AX,gY hp h.2,aNF e,e]
theorem eI(zs:List Str):(zs.map some).Nodup↔zs.Nodup:=by
 induction zs with
 | nil=>simp
 | cons z zs ih =>
  rw[AX,Ap,Ap,ih]
  simp
theorem bH{d:Dv}(h:cC d=true):∃ z g e,d=.tup [.str z,.int g,.int e]∧eW z=true∧hgt g=true∧amt e=true:=by
 unfold cC at h
 split at h
 ·rename_i a b c
  rw[AU,AU] at h
  obtain⟨h1,h2,h3⟩:=h
  cases a with
  | str z =>
   cases b with
   | int g =>
    cases c with
    | int e=>exact⟨z,g,e,rfl,h1,h2,h3⟩
    | _=>cases h3
   | _=>cases h2
  | _=>cases h1
 ·cases h
theorem tM(d:Dv)(h:cC d=true):∃ z,cN d=some z:=by
 obtain⟨z,_,_,rfl,_⟩:=bH h
 exact⟨z,rfl⟩
theorem bQ{zs:List Str}{d:Dv}(h:cV zs d=true):∃ n a b c r s,d=.tup [.str n,.str a,.str b,.int c,.int r,s]∧eW n=true∧a∈zs∧b∈zs∧a≠b∧hgt c=true∧amt r=true∧lB (.int c) s=true:=by
 unfold cV at h
 split at h
 ·rename_i n a b c r s
  rw[AU,AU,AU,AU] at h
  obtain⟨⟨h1,h2⟩,h3,h4,h5⟩:=h
  unfold nJ at h2
  rw[AU,AU] at h2
  obtain⟨h6,h7,h8⟩:=h2
  cases n with
  | str n =>
   cases a with
   | str a =>
    cases b with
    | str b =>
     cases c with
     | int c =>
      cases r with
      | int r =>
       refine⟨n,a,b,c,r,s,rfl,h1,of_decide_eq_true h6,of_decide_eq_true h7,?_,h3,h4,h5⟩
       intro z
       subst z
       have:(!(a == a))=true:=h8
       rw[beq_self_eq_true] at this
       cases this
      | _=>cases h4
     | _=>cases h3
    | _=>cases h7
   | _=>cases h6
  | _=>cases h1
 ·cases h
theorem wU{zs:List Str}(d:Dv)(h:cV zs d=true):∃ z,cN d=some z:=by
 obtain⟨z,_,_,_,_,_,rfl,_⟩:=bQ h
 exact⟨z,rfl⟩
structure GoodF (fs:List Dv):Prop where
 l1:1≤fs.length
 l2:fs.length≤12
 all:∀ d∈fs,cC d=true
 nd:(fs.map aP).Nodup
structure GoodD (zs:List Str) (ds:List Dv):Prop where
 l1:1≤ds.length
 l2:ds.length≤40
 all:∀ d∈ds,cV zs d=true
 nd:(ds.map aP).Nodup
theorem rZ(fs:List Dv):kN (.lst fs)=true↔GoodF fs:=by
 show ((decide (1≤fs.length) && decide (fs.length≤12)) && (fs.all cC && decide ((fs.map cN).Nodup)))=true↔_
 rw[AU,AU,AU,decide_eq_true_iff,decide_eq_true_iff,decide_eq_true_iff]
 constructor
 ·rintro⟨⟨a,b⟩,c,d⟩
  rw[gY tM c,eI] at d
  exact⟨a,b,BS.mp c,d⟩
 ·rintro⟨a,b,c,d⟩
  have c':=BS.mpr c
  refine⟨⟨a,b⟩,c',?_⟩
  rw[gY tM c',eI]
  exact d
theorem sA(zs:List Str)(ds:List Dv):nK zs (.lst ds)=true↔GoodD zs ds:=by
 show ((decide (1≤ds.length) && decide (ds.length≤40)) && (ds.all (cV zs) && decide ((ds.map cN).Nodup)))=true↔_
 rw[AU,AU,AU,decide_eq_true_iff,decide_eq_true_iff,decide_eq_true_iff]
 constructor
 ·rintro⟨⟨a,b⟩,c,d⟩
  rw[gY wU c,eI] at d
  exact⟨a,b,BS.mp c,d⟩
 ·rintro⟨a,b,c,d⟩
  have c':=BS.mpr c
  refine⟨⟨a,b⟩,c',?_⟩
  rw[gY wU c',eI]
  exact d
theorem yH:∀ {ds:List Dv},(∀ d∈ds,cO d=true)→dL ds=true
 | [],_=>rfl
 | d :: ds,h=>by
  rw[dL,h d AQ,yH fun e m=>h e (AO _ m)]
  rfl
end Ld
namespace Mt02
open PySem L2 Ld
noncomputable def aWO(i:Nat):Nat:=if i<18 then 97+i else 98+i
noncomputable def rst(c:Int):Nat→Int
 | 0=>c / 3
 | j+1=>rst c j / 25
noncomputable def num(o:Nat→Int)(c p b:Int)(k j:Nat):Int:=if (j:Int)=b then c / 17+((k:Int) / 25) else if (j:Int)=p then c / 11+(k:Int) else o j
noncomputable def code(o:Nat→Int)(c p b:Int)(k j:Nat):Nat:=aWO (num o c p b k j % 25).toNat
noncomputable def nm(o:Nat→Int)(c p b:Int)(n k:Nat):Str:=⟨((Aj n).map (code o c p b k)).toArray⟩
structure Names (zs:List Str) (n:Nat):Prop where
 len:zs.length=n
 nd:zs.Nodup
 good:∀ z∈zs,eW z=true
end Mt02
namespace Mt04
open PySem L2 Ld
noncomputable def aGN:Dv→Int
 | .tup [_,_,_,.int c,_,_]=>c
 | _=>0
noncomputable def hOf:Dv→Int
 | .tup [_,.int h]=>h
 | _=>0
noncomputable def gI(ds:List Dv)(z:Str):Int:=(ds.find? fun d=>decide (aP d=z)).elim 0 aGN
noncomputable def dZ(ds:List Dv):Dv→Bool
 | .tup [.str z,.int h]=>decide (z∈ds.map aP) && (hgt h && decide (gI ds z≤h))
 | _=>false
noncomputable def aEU(ds:List Dv):Dv→Bool
 | .lst ws=>ws.all (dZ ds) && decide ((ws.map cN).Nodup)
 | _=>false
theorem aPY{ds:List Dv}(nd:(ds.map aP).Nodup){d:Dv}(m:d∈ds):(ds.find? fun e=>decide (aP e=aP d))=some d:=by
 induction ds with
 | nil=>cases m
 | cons e ds ih =>
  rw[AX,Ap] at nd
  rw[Bl]
  by_cases q:aP e=aP d
  ·rw[decide_eq_true q]
   rcases AZ.mp m with rfl | m
   ·rfl
   ·exact absurd (AN.mpr ⟨d,m,q.symm⟩) nd.1
  ·rw[decide_eq_false q]
   rcases AZ.mp m with rfl | m
   ·exact absurd rfl q
   ·exact ih nd.2 m
theorem wZ{ds:List Dv}(nd:(ds.map aP).Nodup){d:Dv}(m:d∈ds):gI ds (aP d)=aGN d:=by
 unfold gI
 rw[aPY nd m]
 rfl
theorem oU{ds:List Dv}{d:Dv}(h:dZ ds d=true):∃ z v,d=.tup [.str z,.int v]∧z∈ds.map aP∧hgt v=true∧gI ds z≤v:=by
 unfold dZ at h
 split at h
 ·rename_i z v
  rw[AU,AU] at h
  exact⟨z,v,rfl,of_decide_eq_true h.1,h.2.1,of_decide_eq_true h.2.2⟩
 ·cases h
theorem oV{ds:List Dv}(d:Dv)(h:dZ ds d=true):∃ z,cN d=some z:=by
 obtain⟨z,_,rfl,_⟩:=oU h
 exact⟨z,rfl⟩
structure GoodW (ds ws:List Dv):Prop where
 all:∀ d∈ws,dZ ds d=true
 nd:(ws.map aP).Nodup
theorem aJV(ds ws:List Dv):aEU ds (.lst ws)=true↔GoodW ds ws:=by
 show (ws.all (dZ ds) && decide ((ws.map cN).Nodup))=true↔_
 rw[AU,decide_eq_true_iff]
 constructor
 ·rintro⟨c,d⟩
  rw[gY oV c,eI] at d
  exact⟨BS.mp c,d⟩
 ·rintro⟨c,d⟩
  have c':=BS.mpr c
  refine⟨c',?_⟩
  rw[gY oV c',eI]
  exact d
end Mt04
namespace Mt22
open PySem L2 Ld
structure St where
 nm:Str
 near:Str
 far:Str
 h:Int
abbrev Lo:=Str→Option Int
noncomputable def sea:Str:="sea"
noncomputable def lo0:Lo:=fun z=>if z=sea then some (-1000000) else none
noncomputable def aUK(lo:Lo)(s:St):Lo:=match lo s.near with
 | none=>lo
 | some a=>fun z=>if z=s.far then some (match lo s.far with | none=>max a s.h | some b=>min (max a s.h) b) else lo z
noncomputable def aUJ(S:List St)(lo:Lo):Lo:=S.foldl aUK lo
noncomputable def aLH(S:List St):Nat→Lo
 | 0=>lo0
 | n+1=>aUJ S (aLH S n)
inductive Walk (S:List St):Nat→Str→Int→Prop
 | sea:Walk S 0 Mt22.sea (-1000000)
 | step {k:Nat} {a:Int} {s:St} (w:Walk S k s.near a) (m:s∈S):Walk S (k+1) s.far (max a s.h)
def Att(S:List St)(lo:Lo):Prop:=∀ z c,lo z=some c→∃ k,Walk S k z c
inductive Path (S:List St):List Str→Str→Int→Prop
 | sea:Path S [] Mt22.sea (-1000000)
 | step {p:List Str} {a:Int} {s:St} (w:Path S p s.near a) (m:s∈S) (n:s.far∉p):Path S (s.far :: p) s.far (max a s.h)
theorem wH{α:Type}[DecidableEq α]:∀ {P N:List α},P.Nodup→(∀ x∈P,x∈N)→P.length≤N.length
 | [],N,_,_=>BK _
 | x :: P,N,nd,sub=>by
  have hx:=sub x AQ
  rw[Ap] at nd
  have:=wH (P:=P) (N:=N.erase x) nd.2 fun y m=>(List.mem_erase_of_ne (a:=y) (b:=x) (fun e=>nd.1 (by rw[← e];exact m))).mpr (sub y (AO _ m))
  rw[List.length_erase_of_mem hx] at this
  have hp:=List.length_pos_of_mem hx
  rw[Af]
  omega
structure Flood (S:List St) (lo:Lo):Prop where
 att:Att S lo
 low:∀ k v b,Walk S k v b→∃ c,lo v=some c∧c≤b
inductive Come (S:List St) (L:Int):Str→Prop
 | sea:Come S L Mt22.sea
 | step {s:St} (w:Come S L s.near) (m:s∈S) (h:s.h<L):Come S L s.far
end Mt22
namespace MtF
open PySem L2 Ld Mt04 Mt22
noncomputable def aRJ:Dv→Dv
 | .tup [_,_,_,_,_,s]=>s
 | _=>.non
noncomputable def aVC:Dv→Int
 | .int i=>i
 | _=>0
noncomputable def aUS:Dv→Str
 | .tup [_,.str a,_,_,_,_]=>a
 | _=>""
noncomputable def aMA:Dv→Str
 | .tup [_,_,.str b,_,_,_]=>b
 | _=>""
noncomputable def aRI(op:List Str)(d:Dv):Int:=if aP d∈op then aVC (aRJ d) else aGN d
noncomputable def lD:Dv→Int
 | .tup [_,.int g,_]=>g
 | _=>0
noncomputable def mZ(fs:List Dv)(z:Str):Int:=(fs.find? fun d=>decide (aP d=z)).elim 0 lD
theorem aPX{ds:List Dv}(nd:(ds.map aP).Nodup){d:Dv}(m:d∈ds):(ds.find? fun e=>decide (aP e=aP d))=some d:=by
 induction ds with
 | nil=>cases m
 | cons e ds ih =>
  rw[AX,Ap] at nd
  rw[Bl]
  rcases AZ.mp m with rfl | m
  ·rw[decide_eq_true rfl]
  ·have hne:aP e≠aP d:=fun c=>nd.1 (c▸AN.mpr ⟨d,m,rfl⟩)
   rw[decide_eq_false hne]
   exact ih nd.2 m
theorem nW{fs:List Dv}(nd:(fs.map aP).Nodup){d:Dv}(m:d∈fs):mZ fs (aP d)=lD d:=by
 show (fs.find? fun e=>decide (aP e=aP d)).elim 0 lD=_
 rw[aPX nd m]
 rfl
noncomputable def aKQ(fs:List Dv)(op:List Str)(d:Dv)(near far:Str):List Mt22.St:=if far="sea" then [] else [⟨aP d,near,far,max (aRI op d) (mZ fs far)⟩]
noncomputable def stepsOf(fs:List Dv)(op:List Str)(d:Dv):List Mt22.St:=aKQ fs op d (aUS d) (aMA d)++aKQ fs op d (aMA d) (aUS d)
noncomputable def bV(s:Mt22.St):Dv:=.tup [.str s.nm,.str s.near,.str s.far,.int s.h]
end MtF
namespace Mt21
open PySem L2 Ld Mt02
noncomputable def ab(i:Int):Nat:=97+(i % 26).toNat
theorem nY(i:Int):fH (ab i)=true:=by
 have h0:=BJ i (show (26:Int)≠0 by decide)
 have h1:=BE i (show (0:Int)<26 by decide)
 unfold ab fH
 rw[decide_eq_true (by omega),decide_eq_true (by omega)]
 rfl
theorem aQH:("abcdefghijklmnopqrstuvwxyz":Str).cps.toList=(Aj 26).map fun i=>97+i:=by decide +kernel
theorem aIO(i:Int):atI ("abcdefghijklmnopqrstuvwxyz":Str).cps.toList (i % 26)=some (ab i):=by
 have h0:=BJ i (show (26:Int)≠0 by decide)
 have h1:=BE i (show (0:Int)<26 by decide)
 obtain⟨k,hk⟩:=BC h0
 unfold ab
 rw[hk,aQH]
 refine aO ?_
 rw[AI,List.getElem?_range (by omega)]
 rfl
noncomputable def jN(i:Int):Str:=⟨#[ab i]⟩
theorem wL:∀ (ys:List Str) (acc:Array Nat),(ys.foldl (fun acc p=>acc++("":Str).cps++p.cps) acc).toList=acc.toList++(ys.map fun y=>y.cps.toList).flatten
 | [],acc=>by simp
 | y :: ys,acc=>by
  rw[Er,wL ys]
  have:("":Str).cps=#[]:=by decide +kernel
  rw[this]
  simp
theorem aGB(ys:List Str):(Txt.join "" ys).cps.toList=(ys.map fun y=>y.cps.toList).flatten:=by
 cases ys with
 | nil =>
  show (Str.empty.cps).toList=[]
  decide +kernel
 | cons y ys =>
  show (List.foldl (fun acc p=>acc++("":Str).cps++p.cps) y.cps ys).toList=_
  rw[wL]
  simp
theorem uO(z:Str)(k:Nat)(h:k≤z.length):(CT z none (some (k:Int))).cps.toList=z.cps.toList.take k:=by
 rw[Tx.slice_codes,Tx.cl_nat]
 show (z.cps.toList.drop 0).take (min k z.length - 0)=_
 rw[EA,Nat.sub_zero,Dr h]
theorem wV(z:Str)(k:Nat)(h:k≤z.length):(CT z (some (k:Int)) none).cps.toList=z.cps.toList.drop k:=by
 rw[Tx.slice_codes,Tx.cl_nat,Dr h]
 show (z.cps.toList.drop k).take (z.length - k)=_
 rw[AE]
 rw[Bd]
 show z.cps.toList.length - k≤z.length - k
 simp[Str.length]
theorem gU(z:Str):z.length=z.cps.toList.length:=by simp[Str.length]
theorem aIA{z:Str}(h:z.cps.toList.all fH=true)(h1:1≤z.length)(h2:z.length≤8)(h3:z.length≠3):eW z=true:=by
 have e:¬ z="sea":=fun e=>by
  rw[e] at h3
  exact h3 (by decide +kernel)
 unfold eW
 rw[h,decide_eq_true h1,decide_eq_true h2,decide_eq_false e]
 rfl
theorem tH{f:Nat→Str}{n:Nat}(h:∀ k l,k<n→l<n→f k=f l→k=l):((Aj n).map f).Nodup:=by
 rw[Ca,List.pairwise_map]
 refine List.Pairwise.imp_of_mem ?_ (List.pairwise_lt_range (n:=n))
 intro k l hk hl hkl he
 have:=h k l (DM.mp hk) (DM.mp hl) he
 omega
theorem aFQ{a:Int}{n:Nat}(hn:n≤26):Names ((Aj n).map fun (k:Nat)=>jN (a+5*(k:Int))) n where
 len:=by simp
 nd:=tH fun k l hk hl e=>by
  have e':[ab (a+5*(k:Int))]=[ab (a+5*(l:Int))]:=congrArg (fun z:Str=>z.cps.toList) e
  have e2:ab (a+5*(k:Int))=ab (a+5*(l:Int)):=by simpa using e'
  unfold ab at e2
  omega
 good z m:=by
  obtain⟨k,_,rfl⟩:=AN.mp m
  refine aIA ?_ (show 1≤1 by decide) (show 1≤8 by decide) (show (1:Nat)≠3 by decide)
  show (fH (ab _) && true)=true
  rw[nY]
  rfl
structure Put (z b:Str) (at':Nat) (x y:Int):Prop where
 codes:z.cps.toList=b.cps.toList.take at'++[ab x,ab y]++b.cps.toList.drop at'
theorem aJG{b:Str}{sz at' n:Nat}{p q:Int}{f:Nat→Str}(hb:b.cps.toList.all fH=true)(hl:b.length=sz)(h2:2≤sz)(h6:sz≤6)(ha:at'≤sz)(hn:n≤52)(hf:∀ k,k<n→Put (f k) b at' ((k:Int)+p) ((k:Int) / 26+q)) :
  Names ((Aj n).map f) n where
 len:=by simp
 nd:=tH fun k l hk hl' e=>by
  have h1:=(hf k hk).codes
  have h2:=(hf l hl').codes
  rw[e,h2] at h1
  have hlt:(b.cps.toList.take at').length=at':=by
   rw[AH,← gU,hl]
   omega
  rw[Bg,Bg] at h1
  have h3:=List.append_cancel_left h1
  have e1:ab ((l:Int)+p)=ab ((k:Int)+p)∧ab ((l:Int) / 26+q)=ab ((k:Int) / 26+q):=by
   simpa using h3
  unfold ab at e1
  omega
 good z m:=by
  obtain⟨k,mk,rfl⟩:=AN.mp m
  have h:=(hf k (DM.mp mk)).codes
  have hlen:(f k).length=sz+2:=by
   rw[gU,h,AW,AW,AH,Bd,← gU,hl]
   show min at' sz+2+(sz - at')=_
   omega
  refine aIA ?_ (by omega) (by omega) (by omega)
  rw[h,Es,Es]
  have t1:(b.cps.toList.take at').all fH=true:=BS.mpr fun x m=>BS.mp hb x (Cb m)
  have t2:(b.cps.toList.drop at').all fH=true:=BS.mpr fun x m=>BS.mp hb x (List.mem_of_mem_drop m)
  rw[t1,t2]
  show (true && (fH (ab _) && (fH (ab _) && true)) && true)=true
  rw[nY,nY]
  rfl
end Mt21
namespace Mt31
open PySem L2 Ld Mt22
abbrev Cm:=List (Str×Option Mt22.St)
noncomputable def keys(cm:Cm):List Str:=cm.map (·.1)
structure Came (S:List Mt22.St) (cm:Cm):Prop where
 nd:(keys cm).Nodup
 first:cm[0]?=some (Mt22.sea,none)
 prev:∀ (i:Nat) (z:Str) (o:Option Mt22.St),0<i→cm[i]?=some (z,o)→∃ s,o=some s∧s∈S∧s.far=z∧s.near∈keys (cm.take i)
def uD(S:List Mt22.St)(cm:Cm)(p:Nat):Prop:=∀ (i:Nat) (u:Str),i<p→(keys cm)[i]?=some u→∀ s∈S,s.near=u→s.far∈keys cm
theorem kF(a b:Cm):keys (a++b)=keys a++keys b:=AF
theorem uD.snoc{S:List Mt22.St}{cm:Cm}{p:Nat}(h:uD S cm p)(hp:p≤cm.length)(x:Str×Option Mt22.St):uD S (cm++[x]) p:=fun i u hi e s ms en=>by
 rw[kF,BQ (by unfold keys;rw[AA];omega)] at e
 rw[kF]
 exact BX _ (h i u hi e s ms en)
inductive Chain (S:List Mt22.St):List Mt22.St→Str→Prop
 | nil:Chain S [] Mt22.sea
 | snoc {ss:List Mt22.St} {s:Mt22.St} (c:Chain S ss s.near) (m:s∈S) (n:s.far∉ss.map (·.far)):Chain S (ss++[s]) s.far
noncomputable def hm(ss:List Mt22.St):Int:=ss.foldl (fun a s=>max a s.h) (-1000000)
theorem zT{S:List Mt22.St}{ss:List Mt22.St}{v:Str}(c:Chain S ss v):(∀ s∈ss,s∈S)∧(ss.map (·.far)).Nodup:=by
 induction c with
 | nil=>exact⟨(fun s m=>by cases m),by simp⟩
 | @snoc ss s c m n ih =>
  refine⟨fun t mt=>?_,?_⟩
  ·rcases Ab.mp mt with mt | mt
   ·exact ih.1 t mt
   ·rw[AL.mp mt];exact m
  ·rw[AF,Cp]
   refine⟨ih.2,by simp,fun a ha b hb=>?_⟩
   have hb':b=s.far:=AL.mp hb
   intro e
   have e':a=s.far:=e.trans hb'
   exact n (e'▸ha)
def aTQ(S:List Mt22.St)(cm:Cm)(j:Nat)(z:Str)(tl:List Mt22.St)(side:Str):Prop:=∀ ss,Chain S ss z→(∀ y∈ss.map (·.far),y∈keys (cm.take (j+1)))→Chain S (ss++tl) side
theorem aIU{S:List Mt22.St}{cm:Cm}(h:Came S cm){i j:Nat}{z:Str}{s:Mt22.St}{tl:List Mt22.St}{side:Str}(hj:cm[j]?=some (z,some s))(ms:s∈S)(hf:s.far=z)(hi:i<j)(hu:(keys cm)[i]?=some s.near)(t:aTQ S cm j z tl side):aTQ S cm i s.near (s :: tl) side:=fun ss c sub=>by
 have e:ss++s :: tl=(ss++[s])++tl:=by rw[Bg];rfl
 have kj:(keys cm)[j]?=some z:=by unfold keys;rw[AI,hj];rfl
 have ktake:∀ n,keys (cm.take n)=(keys cm).take n:=fun n=>by unfold keys;rw[DR]
 have fresh:s.far∉ss.map (·.far):=fun m=>by
  have h1:=sub _ m
  rw[ktake,hf] at h1
  obtain⟨k,hk⟩:=BD.mp h1
  have hkl:=(AB.mp hk).1
  rw[AH] at hkl
  rw[Be (by omega)] at hk
  obtain⟨h2,e2⟩:=AB.mp hk
  obtain⟨h3,e3⟩:=AB.mp kj
  have:=(Cd h.nd).mp (e2.trans e3.symm)
  omega
 rw[e]
 refine t (ss++[s]) (hf▸Chain.snoc c ms fresh) fun y my=>?_
 rw[ktake]
 rw[AF] at my
 rcases Ab.mp my with my | my
 ·have:=sub y my
  rw[ktake] at this
  obtain⟨k,hk⟩:=BD.mp this
  have hkl:=(AB.mp hk).1
  rw[AH] at hkl
  rw[Be (by omega)] at hk
  exact AG (i:=k) (by rw[Be (by omega)];exact hk)
 ·have:y=s.far:=AL.mp my
  rw[this,hf]
  exact AG (i:=j) (by rw[Be (by omega)];exact kj)
end Mt31
namespace Mt61
open PySem L2 Mt22 Mt31
structure Gap where
 nm:Str
 a:Str
 b:Str
 cap:Int
abbrev Fl:=Str→Int
noncomputable def sm{α:Type}(xs:List α)(f:α→Int):Int:=(xs.map f).sum
section
variable{α β:Type}
theorem aAR(f:α→Int):sm [] f=0:=rfl
theorem bW(x:α)(xs:List α)(f:α→Int):sm (x :: xs) f=f x+sm xs f:=by
 unfold sm;rw[AX,List.sum_cons]
theorem aKZ(f:α→Int):∀ xs ys:List α,sm (xs++ys) f=sm xs f+sm ys f
 | [],ys=>by rw[Do,aAR];omega
 | x :: xs,ys=>by rw[List.cons_append,bW,bW,aKZ f xs ys];omega
theorem eN{f g:α→Int}:∀ {xs:List α},(∀ x∈xs,f x=g x)→sm xs f=sm xs g
 | [],_=>rfl
 | x :: xs,h=>by rw[bW,bW,h x AQ,eN fun y m=>h y (AO _ m)]
theorem aHN{f g:α→Int}:∀ {xs:List α},(∀ x∈xs,f x≤g x)→sm xs f≤sm xs g
 | [],_=>ED _
 | x :: xs,h=>by
  rw[bW,bW]
  have:=h x AQ
  have:=aHN (xs:=xs) fun y m=>h y (AO _ m)
  omega
theorem jH{f:α→Int}{xs:List α}(h:∀ x∈xs,f x=0):sm xs f=0:=by
 rw[eN h]
 induction xs with
 | nil=>rfl
 | cons x xs ih=>rw[bW,ih fun y m=>h y (AO _ m)];rfl
theorem aFI(f g:α→Int):∀ xs:List α,sm xs (fun x=>f x+g x)=sm xs f+sm xs g
 | []=>rfl
 | x :: xs=>by rw[bW,bW,bW,aFI f g xs];omega
theorem aFH(f g:α→Int):∀ xs:List α,sm xs (fun x=>f x - g x)=sm xs f - sm xs g
 | []=>rfl
 | x :: xs=>by rw[bW,bW,bW,aFH f g xs];omega
theorem aHO(f:α→β→Int)(ys:List β):∀ xs:List α,sm xs (fun x=>sm ys (f x))=sm ys (fun y=>sm xs fun x=>f x y)
 | []=>(jH (fun _ _=>rfl)).symm
 | x :: xs=>by
  rw[bW,aHO f ys xs,← aFI]
  exact eN fun y _=>by rw[bW]
theorem aCY(X:α→Bool)(f:α→Int):∀ xs:List α,sm xs f=sm (xs.filter X) f+sm (xs.filter fun x=>!X x) f
 | []=>rfl
 | x :: xs=>by
  rw[bW,aCY X f xs]
  cases h:X x with
  | true=>rw[Dd h,De (by simp[h]),bW];omega
  | false=>rw[De (by simp[h]),Dd (by simp[h]),bW];omega
theorem jV(X:α→Bool)(f:α→Int):∀ xs:List α,sm (xs.filter X) f=sm xs fun x=>if X x=true then f x else 0
 | []=>rfl
 | x :: xs=>by
  cases h:X x with
  | true=>rw[Dd h,bW,bW,if_pos h,jV X f xs]
  | false=>rw[De (by simp[h]),bW,if_neg (by simp[h]),jV X f xs];omega
end
theorem aAQ{V:List Str}(X:Str→Bool){w:Str}(c:Int)(nd:V.Nodup)(m:w∈V):sm (V.filter X) (fun v=>if w=v then c else 0)=if X w=true then c else 0:=by
 rw[jV]
 induction V with
 | nil=>cases m
 | cons v V ih =>
  rw[Ap] at nd
  rw[bW]
  by_cases e:w=v
  ·subst e
   rw[jH (xs:=V) fun x mx=>?_]
   ·simp
   ·have:w≠x:=fun e=>nd.1 (e▸mx)
    simp[this]
  ·have mV:w∈V:=by
    rcases AZ.mp m with h | h
    ·exact absurd h e
    ·exact h
   rw[ih nd.2 mV]
   simp[e]
theorem aHM{G:List Gap}(nd:(G.map (·.nm)).Nodup){g0:Gap}(m:g0∈G)(c:Gap→Int):sm G (fun g=>if g.nm=g0.nm then c g else 0)=c g0:=by
 induction G with
 | nil=>cases m
 | cons g G ih =>
  rw[AX,Ap] at nd
  rw[bW]
  rcases AZ.mp m with rfl | m
  ·rw[jH (xs:=G) fun x mx=>?_]
   ·simp
   ·have:x.nm≠g0.nm:=fun e=>nd.1 (e▸AN.mpr ⟨x,mx,rfl⟩)
    simp[this]
  ·have:g.nm≠g0.nm:=fun e=>nd.1 (e▸AN.mpr ⟨g0,m,rfl⟩)
   rw[ih nd.2 m]
   simp[this]
noncomputable def aDV(f:Fl)(v:Str)(g:Gap):Int:=(if g.b=v then f g.nm else 0) - (if g.a=v then f g.nm else 0)
noncomputable def net(G:List Gap)(f:Fl)(v:Str):Int:=sm G (aDV f v)
noncomputable def aJS(X:Str→Bool)(f:Fl)(g:Gap):Int:=(if X g.b=true then f g.nm else 0) - (if X g.a=true then f g.nm else 0)
noncomputable def val(G:List Gap)(f:Fl):Int:=- net G f sea
noncomputable def tN(X:Str→Bool)(g:Gap):Int:=if X g.a=X g.b then 0 else g.cap
noncomputable def cut(G:List Gap)(X:Str→Bool):Int:=sm G (tN X)
structure Gaps (V:List Str) (G:List Gap):Prop where
 nd:(G.map (·.nm)).Nodup
 ends:∀ g∈G,g.a∈V∧g.b∈V∧g.a≠g.b
 cap:∀ g∈G,0≤g.cap
 vnd:V.Nodup
 sea:Mt22.sea∈V
def aGR(G:List Gap)(f:Fl):Prop:=∀ g∈G,-g.cap≤f g.nm∧f g.nm≤g.cap
theorem aHZ{V:List Str}{G:List Gap}(h:Gaps V G)(X:Str→Bool)(f:Fl):sm (V.filter X) (net G f)=sm G (aJS X f):=by
 unfold net
 rw[aHO]
 refine eN fun g mg=>?_
 obtain⟨ma,mb,_⟩:=h.ends g mg
 show sm (V.filter X) (fun v=>(if g.b=v then f g.nm else 0) - (if g.a=v then f g.nm else 0))=_
 rw[aFH,aAQ X (f g.nm) h.vnd mb,aAQ X (f g.nm) h.vnd ma]
 rfl
theorem aPK{V:List Str}{G:List Gap}(h:Gaps V G)(f:Fl):sm V (net G f)=0:=by
 have:=aHZ h (fun _=>true) f
 rw[List.filter_eq_self.mpr (fun _ _=>rfl)] at this
 rw[this]
 refine jH fun g _=>?_
 unfold aJS
 simp
theorem aCL{V:List Str}{G:List Gap}(h:Gaps V G){f:Fl}{X:Str→Bool}(hs:X Mt22.sea=false)(hz:∀ v∈V,v≠Mt22.sea→X v=false→net G f v=0):sm G (aJS X f)=val G f:=by
 rw[← aHZ h X f]
 have a:=aPK h f
 rw[aCY X (net G f) V] at a
 have b:sm (V.filter fun x=>!X x) (net G f)=net G f Mt22.sea:=by
  have e:sm (V.filter fun x=>!X x) (net G f)=sm (V.filter fun x=>!X x) (fun v=>if Mt22.sea=v then net G f Mt22.sea else 0):=eN fun v mv=>by
   rw[Am] at mv
   by_cases hv:Mt22.sea=v
   ·rw[if_pos hv,hv]
   ·rw[if_neg hv]
    exact hz v mv.1 (fun e=>hv e.symm) (by simpa using mv.2)
  rw[e,aAQ (fun x=>!X x) _ h.vnd h.sea,hs]
  rfl
 unfold val
 omega
theorem aPS{G:List Gap}{f:Fl}(hf:aGR G f)(X:Str→Bool):∀ g∈G,aJS X f g≤tN X g:=fun g m=>by
 obtain⟨h1,h2⟩:=hf g m
 unfold aJS tN
 cases ha:X g.a <;> cases hb:X g.b <;> simp <;> omega
theorem aRA{V:List Str}{G:List Gap}(h:Gaps V G){f:Fl}(hf:aGR G f){X:Str→Bool}(hs:X Mt22.sea=false)(hz:∀ v∈V,v≠Mt22.sea→X v=false→net G f v=0):val G f≤cut G X:=by
 rw[← aCL h hs hz]
 exact aHN (aPS hf X)
theorem aRB{V:List Str}{G:List Gap}(h:Gaps V G){f:Fl}{X:Str→Bool}(hs:X Mt22.sea=false)(hz:∀ v∈V,v≠Mt22.sea→X v=false→net G f v=0)
 (h1:∀ g∈G,X g.a=false→X g.b=true→f g.nm=g.cap)(h2:∀ g∈G,X g.a=true→X g.b=false→f g.nm=-g.cap):val G f=cut G X:=by
 rw[← aCL h hs hz]
 refine eN fun g m=>?_
 have e1:=h1 g m
 have e2:=h2 g m
 unfold aJS tN
 cases ha:X g.a <;> cases hb:X g.b <;> simp[ha,hb] at e1 e2 ⊢ <;> omega
noncomputable def up(g:Gap):Mt22.St:=⟨g.nm,g.a,g.b,1⟩
noncomputable def dn(g:Gap):Mt22.St:=⟨g.nm,g.b,g.a,-1⟩
noncomputable def stepsOf(G:List Gap):List Mt22.St:=G.flatMap fun g=>[up g,dn g]
theorem iP{G:List Gap}{s:Mt22.St}:s∈stepsOf G↔∃ g∈G,s=up g∨s=dn g:=by
 unfold stepsOf
 rw[List.mem_flatMap]
 simp
noncomputable def jE(m:Int)(f:Fl)(s:Mt22.St):Fl:=fun n=>if n=s.nm then f n+s.h*m else f n
theorem aPL{V:List Str}{G:List Gap}(h:Gaps V G){s:Mt22.St}(ms:s∈stepsOf G)(m:Int)(f:Fl)(v:Str):net G (jE m f s) v=net G f v+((if s.far=v then m else 0) - (if s.near=v then m else 0)):=by
 obtain⟨g0,m0,e⟩:=iP.mp ms
 have key:net G (jE m f s) v=net G f v+sm G (fun g=>if g.nm=g0.nm then ((if s.far=v then m else 0) - (if s.near=v then m else 0)) else 0):=by
  unfold net
  rw[← aFI]
  refine eN fun g mg=>?_
  unfold aDV jE
  have hn:s.nm=g0.nm:=by rcases e with rfl | rfl <;> rfl
  by_cases hg:g.nm=g0.nm
  ·have eg:g=g0:=by
    have nd:=h.nd
    obtain⟨i,hi⟩:=BD.mp mg
    obtain⟨j,hj⟩:=BD.mp m0
    obtain⟨li,ei⟩:=AB.mp hi
    obtain⟨lj,ej⟩:=AB.mp hj
    have:i=j:=(Cd (xs:=G.map (·.nm)) (h₀:=by rw[AA];exact li) (h₁:=by rw[AA];exact lj) nd).mp (by rw[Dc,Dc,ei,ej,hg])
    subst this
    rw[← ei,← ej]
   subst eg
   rw[if_pos hg,if_pos hn.symm]
   rcases e with rfl | rfl
   ·show (if g.b=v then f g.nm+1*m else 0) - (if g.a=v then f g.nm+1*m else 0)=(if g.b=v then f g.nm else 0) - (if g.a=v then f g.nm else 0)+((if g.b=v then m else 0) - (if g.a=v then m else 0))
    split <;> split <;> omega
   ·show (if g.b=v then f g.nm+-1*m else 0) - (if g.a=v then f g.nm+-1*m else 0)=(if g.b=v then f g.nm else 0) - (if g.a=v then f g.nm else 0)+((if g.a=v then m else 0) - (if g.b=v then m else 0))
    split <;> split <;> omega
  ·have hg':¬ g.nm=s.nm:=fun e=>hg (e.trans hn)
   simp only[if_neg hg,if_neg hg']
   omega
 rw[key,aHM h.nd m0]
theorem rQ{V:List Str}{G:List Gap}(h:Gaps V G){S ss:List Mt22.St}{z:Str}(c:Chain S ss z)(hS:∀ s∈S,s∈stepsOf G)(m:Int)(f:Fl)(v:Str):net G (ss.foldl (jE m) f) v=net G f v+((if z=v then m else 0) - (if Mt22.sea=v then m else 0)):=by
 induction c with
 | nil =>
  show net G f v=_
  omega
 | @snoc ss s c ms n ih =>
  rw[Eb]
  show net G (jE m (ss.foldl (jE m) f) s) v=_
  rw[aPL h (hS s ms),ih]
  omega
theorem aIF(m:Int)(n:Str):∀ (ss:List Mt22.St) (f:Fl),(ss.foldl (jE m) f) n=f n+m*sm ss (fun s=>if s.nm=n then s.h else 0)
 | [],f=>by rw[aAR,Int.mul_zero,Int.add_zero];rfl
 | s :: ss,f=>by
  show (ss.foldl (jE m) (jE m f s)) n=_
  rw[aIF m n ss,bW,Int.mul_add]
  unfold jE
  by_cases e:s.nm=n
  ·rw[if_pos e,if_pos e.symm,Int.mul_comm m s.h]
   omega
  ·rw[if_neg e,if_neg (fun q=>e q.symm),Int.mul_zero]
   omega
theorem aPU{V:List Str}{G:List Gap}(h:Gaps V G){g g':Gap}(m:g∈G)(m':g'∈G)(e:g.nm=g'.nm):g=g':=by
 obtain⟨i,hi⟩:=BD.mp m
 obtain⟨j,hj⟩:=BD.mp m'
 obtain⟨li,ei⟩:=AB.mp hi
 obtain⟨lj,ej⟩:=AB.mp hj
 have:i=j:=(Cd (xs:=G.map (·.nm)) (h₀:=by rw[AA];exact li) (h₁:=by rw[AA];exact lj) h.nd).mp (by rw[Dc,Dc,ei,ej,e])
 subst this
 rw[← ei,← ej]
instance stDec:DecidableEq Mt22.St:=fun a b=>decidable_of_iff (a.nm=b.nm∧a.near=b.near∧a.far=b.far∧a.h=b.h) (by
 cases a;cases b;simp)
theorem aCZ{V:List Str}{G:List Gap}(h:Gaps V G){g:Gap}(mg:g∈G):∀ {ss:List Mt22.St},(∀ s∈ss,s∈stepsOf G)→ss.Nodup→sm ss (fun s=>if s.nm=g.nm then s.h else 0)=(if up g∈ss then 1 else 0) - (if dn g∈ss then 1 else 0)
 | [],_,_=>by simp[aAR]
 | s :: ss,hs,nd=>by
  rw[Ap] at nd
  rw[bW,aCZ h mg (fun t m=>hs t (AO _ m)) nd.2]
  have ne:up g≠dn g:=fun e=>by
   have:=congrArg Mt22.St.h e
   exact absurd this (by show (1:Int)≠-1;decide)
  by_cases e:s.nm=g.nm
  ·obtain⟨g',m',e'⟩:=iP.mp (hs s AQ)
   have eg:g'=g:=aPU h m' mg (by rcases e' with rfl | rfl <;> exact e)
   subst eg
   rcases e' with rfl | rfl
   ·rw[if_pos e,if_pos AQ,if_neg nd.1]
    have:(dn g'∈up g' :: ss)↔dn g'∈ss:=by simp[Ne.symm ne]
    simp only[this]
    show (1:Int)+_=_
    omega
   ·rw[if_pos e,if_pos (show dn g'∈dn g' :: ss from AQ),if_neg nd.1]
    have:(up g'∈dn g' :: ss)↔up g'∈ss:=by simp[ne]
    simp only[this]
    show (-1:Int)+_=_
    omega
  ·have n1:s≠up g:=fun q=>e (by rw[q];rfl)
   have n2:s≠dn g:=fun q=>e (by rw[q];rfl)
   have:(up g∈s :: ss)↔up g∈ss:=by simp[Ne.symm n1]
   have h2:(dn g∈s :: ss)↔dn g∈ss:=by simp[Ne.symm n2]
   simp only[this,h2,if_neg e]
   omega
noncomputable def qT(G:List Gap)(n:Str):Int:=sm G fun g=>if g.nm=n then g.cap else 0
theorem nF{V:List Str}{G:List Gap}(h:Gaps V G){g:Gap}(m:g∈G):qT G g.nm=g.cap:=aHM h.nd m (·.cap)
noncomputable def room(G:List Gap)(f:Fl)(s:Mt22.St):Int:=qT G s.nm - s.h*f s.nm
theorem aHP{V:List Str}{G:List Gap}(h:Gaps V G){g:Gap}(m:g∈G)(f:Fl):room G f (up g)=g.cap - f g.nm:=by
 show qT G g.nm - 1*f g.nm=_
 rw[nF h m]
 omega
theorem aHQ{V:List Str}{G:List Gap}(h:Gaps V G){g:Gap}(m:g∈G)(f:Fl):room G f (dn g)=g.cap+f g.nm:=by
 show qT G g.nm - -1*f g.nm=_
 rw[nF h m]
 omega
theorem aGH{V:List Str}{G:List Gap}(h:Gaps V G){S ss:List Mt22.St}{z:Str}(c:Chain S ss z)(hS:∀ s∈S,s∈stepsOf G){m:Int}(m0:0≤m){f:Fl}(hf:aGR G f)(hr:∀ s∈ss,m≤room G f s):aGR G (ss.foldl (jE m) f):=fun g mg=>by
 obtain⟨f1,f2⟩:=hf g mg
 obtain⟨sub,nd⟩:=zT c
 have nd':ss.Nodup:=by
  rw[Ca]
  exact ((List.pairwise_map.mp (Ca.mp nd))).imp fun hne e=>hne (by rw[e])
 rw[aIF,aCZ h mg (fun s ms=>hS s (sub s ms)) nd']
 have r1:up g∈ss→m≤g.cap - f g.nm:=fun q=>by have:=hr _ q;rwa [aHP h mg] at this
 have r2:dn g∈ss→m≤g.cap+f g.nm:=fun q=>by have:=hr _ q;rwa [aHQ h mg] at this
 by_cases u:up g∈ss <;> by_cases d:dn g∈ss
 ·rw[if_pos u,if_pos d];have:=r1 u;have:=r2 d;omega
 ·rw[if_pos u,if_neg d];have:=r1 u;omega
 ·rw[if_neg u,if_pos d];have:=r2 d;omega
 ·rw[if_neg u,if_neg d];omega
structure Stream (V:List Str) (G:List Gap) (ws:List Str) (f:Fl):Prop where
 fits:aGR G f
 zero:∀ v∈V,v≠Mt22.sea→v∉ws→net G f v=0
 gain:∀ v∈ws,0≤net G f v
theorem Stream.none{V:List Str}{G:List Gap}(h:Gaps V G)(ws:List Str){f:Fl}(hf:∀ g∈G,f g.nm=0):Stream V G ws f:=by
 have z:∀ v,net G f v=0:=fun v=>jH fun g m=>by
  unfold aDV
  rw[hf g m]
  simp
 refine⟨fun g m=>?_,fun v _ _ _=>z v,fun v _=>by rw[z v];exact ED _⟩
 have:=h.cap g m
 rw[hf g m]
 omega
theorem Stream.more{V:List Str}{G:List Gap}(h:Gaps V G){ws:List Str}{f:Fl}(st:Stream V G ws f){S ss:List Mt22.St}{z:Str}(c:Chain S ss z)(hS:∀ s∈S,s∈stepsOf G){m:Int}(m0:0≤m)(hr:∀ s∈ss,m≤room G f s)(mz:z∈ws)(ns:Mt22.sea∉ws) :
  Stream V G ws (ss.foldl (jE m) f)∧val G (ss.foldl (jE m) f)=val G f+m:=by
 have zs:z≠Mt22.sea:=fun e=>ns (e▸mz)
 refine⟨⟨aGH h c hS m0 st.fits hr,fun v mv hv hw=>?_,fun v mv=>?_⟩,?_⟩
 ·rw[rQ h c hS,st.zero v mv hv hw,if_neg (show ¬ z=v from fun e=>hw (e▸mz)),if_neg (show ¬ Mt22.sea=v from fun e=>hv e.symm)]
  rfl
 ·rw[rQ h c hS,if_neg (show ¬ Mt22.sea=v from fun e=>ns (e▸mv))]
  have:=st.gain v mv
  split <;> omega
 ·unfold val
  rw[rQ h c hS,if_neg zs,if_pos rfl]
  omega
noncomputable def aCO(G:List Gap):Int:=sm G (·.cap)
theorem aIR{V:List Str}{G:List Gap}(h:Gaps V G){f:Fl}(hf:aGR G f):val G f≤aCO G:=by
 unfold val net aCO
 have:sm G (aDV f Mt22.sea)≥sm G (fun g=>0 - g.cap):=aHN fun g m=>by
  obtain⟨f1,f2⟩:=hf g m
  obtain⟨_,_,ne⟩:=h.ends g m
  have:=h.cap g m
  unfold aDV
  by_cases e1:g.b=Mt22.sea <;> by_cases e2:g.a=Mt22.sea
  ·exact absurd (e2.trans e1.symm) ne
  ·rw[if_pos e1,if_neg e2];omega
  ·rw[if_neg e1,if_pos e2];omega
  ·rw[if_neg e1,if_neg e2];omega
 rw[aFH,jH (f:=fun _=>(0:Int)) (fun _ _=>rfl)] at this
 have e:(sm G fun x=>x.cap)=sm G Gap.cap:=rfl
 omega
structure Round (G:List Gap) (f:Fl) (ws R B:List Str):Prop where
 sea:Mt22.sea∈R
 closed:∀ s∈stepsOf G,0<room G f s→s.near∈R→s.far∈R
 wout:∀ z∈ws,z∉R
 win:∀ z∈ws,z∈B
 bout:∀ z∈B,z∉R
 bclosed:∀ s∈stepsOf G,s.far∉R→s.near∈B→s.far∈B
instance memStr (z:Str) (l:List Str):Decidable (z∈l):=inferInstance
noncomputable def inB(B:List Str):Str→Bool:=fun z=>decide (z∈B)
theorem oY{V:List Str}{G:List Gap}(h:Gaps V G){f:Fl}(hf:aGR G f){ws R B:List Str}(r:Round G f ws R B){g:Gap}(m:g∈G) :
  (g.a∉B→g.b∈B→g.a∈R∧f g.nm=g.cap)∧(g.a∈B→g.b∉B→g.b∈R∧f g.nm=-g.cap):=by
 obtain⟨f1,f2⟩:=hf g m
 have mu:up g∈stepsOf G:=iP.mpr ⟨g,m,.inl rfl⟩
 have md:dn g∈stepsOf G:=iP.mpr ⟨g,m,.inr rfl⟩
 refine⟨fun ha hb=>?_,fun ha hb=>?_⟩
 ·have aR:g.a∈R:=DF fun n=>ha (r.bclosed _ md n hb)
  refine⟨aR,?_⟩
  have:¬ 0<room G f (up g):=fun q=>r.bout _ hb (r.closed _ mu q aR)
  rw[aHP h m] at this
  omega
 ·have bR:g.b∈R:=DF fun n=>hb (r.bclosed _ mu n ha)
  refine⟨bR,?_⟩
  have:¬ 0<room G f (dn g):=fun q=>r.bout _ ha (r.closed _ md q bR)
  rw[aHQ h m] at this
  omega
theorem yR{V:List Str}{G:List Gap}(h:Gaps V G){f:Fl}{ws R B:List Str}(st:Stream V G ws f)(r:Round G f ws R B):val G f=cut G (inB B):=by
 have sB:Mt22.sea∉B:=fun m=>r.bout _ m r.sea
 refine aRB h (decide_eq_false sB) (fun v mv hv hX=>?_) (fun g m ha hb=>?_) (fun g m ha hb=>?_)
 ·exact st.zero v mv hv fun w=>(of_decide_eq_false hX) (r.win v w)
 ·exact ((oY h st.fits r m).1 (of_decide_eq_false ha) (of_decide_eq_true hb)).2
 ·exact ((oY h st.fits r m).2 (of_decide_eq_true ha) (of_decide_eq_false hb)).2
noncomputable def eR(G:List Gap)(R B:List Str):List Mt22.St:=(stepsOf G).filter fun s=>decide (s.near∈R) && decide (s.far∈B)
theorem aFM{V:List Str}{G:List Gap}(h:Gaps V G){f:Fl}{ws R B:List Str}(st:Stream V G ws f)(r:Round G f ws R B):sm (eR G R B) (fun s=>qT G s.nm)=val G f:=by
 rw[yR h st r]
 unfold eR cut stepsOf
 rw[jV]
 have key:∀ G':List Gap,(∀ g∈G',g∈G)→sm (G'.flatMap fun g=>[up g,dn g]) (fun s=>if (decide (s.near∈R) && decide (s.far∈B))=true then qT G s.nm else 0)=sm G' (tN (inB B)):=by
  intro G'
  induction G' with
  | nil=>intro _;rfl
  | cons g G' ih =>
   intro sub
   have m:=sub g AQ
   rw[Ec,aKZ,ih fun x mx=>sub x (AO _ mx),bW g]
   congr 1
   rw[bW,bW,aAR]
   show (if (decide (g.a∈R) && decide (g.b∈B))=true then qT G g.nm else 0)+((if (decide (g.b∈R) && decide (g.a∈B))=true then qT G g.nm else 0)+0)=(if decide (g.a∈B)=decide (g.b∈B) then 0 else g.cap)
   rw[nF h m]
   obtain⟨e1,e2⟩:=oY h st.fits r m
   by_cases ha:g.a∈B <;> by_cases hb:g.b∈B
   ·have:=r.bout _ ha
    have:=r.bout _ hb
    simp[*]
   ·have:=r.bout _ ha
    have:=(e2 ha hb).1
    simp[*]
   ·have:=r.bout _ hb
    have:=(e1 ha hb).1
    simp[*]
   ·simp[*]
 exact key G fun g m=>m
def fZ(G:List Gap)(ws:List Str)(c:Int):Prop:=(∃ X:Str→Bool,X Mt22.sea=false∧(∀ z∈ws,X z=true)∧cut G X=c)∧∀ X:Str→Bool,X Mt22.sea=false→(∀ z∈ws,X z=true)→c≤cut G X
theorem aDJ{V:List Str}{G:List Gap}(h:Gaps V G){f:Fl}{ws R B:List Str}(st:Stream V G ws f)(r:Round G f ws R B):fZ G ws (val G f):=by
 refine⟨⟨inB B,decide_eq_false fun m=>r.bout _ m r.sea,fun z m=>decide_eq_true (r.win z m),(yR h st r).symm⟩,fun X hs hw=>?_⟩
 refine aRA h st.fits hs fun v mv hv hX=>st.zero v mv hv fun w=>?_
 rw[hw v w] at hX
 cases hX
theorem fZ.uniq{G:List Gap}{ws:List Str}{c d:Int}(h:fZ G ws c)(h':fZ G ws d):c=d:=by
 obtain⟨⟨X,s,w,e⟩,a⟩:=h
 obtain⟨⟨X',s',w',e'⟩,a'⟩:=h'
 have:=a X' s' w'
 have:=a' X s w
 omega
end Mt61
namespace L2
open PySem PySem.Spec PyProof.Rows
def aWR(l:List Nat):Prop:=∀ i k,i<k→k<l.length→l.getD i 0<l.getD k 0
structure Ris (t:SetTable):Prop where
 no:t.dummies=#[]
 up:aWR t.place.toList
end L2
namespace L2
open PySem PySem.Spec PyProof.Rows
section
variable{P:Program}{w:World}{A:Around}{E:Value→Shared→Prop}{s:Shared}
end
end L2
namespace L2
open PySem PySem.Spec PyProof.Rows
section
variable{P:Program}{w:World}{A:Around}{E:Value→Shared→Prop}{s:Shared}
end
section
variable{P:Program}{w:World}{A:Around}{R:Result→Shared→Prop}{I:Addr}{fp wr:List Addr}{G:Array DL→Array DL→Prop}{n:Nat}{Pv:Nat→Value→Prop}{Stt:Nat→Shared→Prop}
end
section
variable{P:Program}{w:World}{A:Around}{E:Value→Shared→Prop}{s:Shared}
end
end L2
namespace L2
open PySem PySem.Spec PyProof.Rows
section
variable{P:Program}{w:World}{A:Around}{E:Value→Shared→Prop}{s:Shared}{it a:Addr}{o:Obj}{es:Array (Int×Value)}{ep:Nat}{t:SetTable}
end
end L2
namespace L2
open PySem PySem.Spec PyProof.Rows
section
variable{P:Program}{w:World}{A:Around}{E:Value→Shared→Prop}{s:Shared}{it a:Addr}{o:Obj}{es:Array (Int×Value)}{ep:Nat}{t:SetTable}
end
end L2
namespace L2
open PySem PySem.Spec PyProof.Rows
section
variable{P:Program}{w:World}{A:Around}{E:Value→Shared→Prop}{s:Shared}{a:Addr}{ks:List Key}
end
end L2
namespace L2
open PySem PySem.Spec PyProof.Rows
theorem aCF:BN "sorted"=some (.builtin "sorted"):=by decide +kernel
section
variable{X:Cx}{pins:List (Addr×Obj)}{σ:List (Option V)}{H:Hp}{s:Shared}
end
end L2
namespace L2
open PySem PySem.Spec PyProof.Rows PySem.W
section
variable{P:Program}{w:World}{K:AD}{mg:Str→Option Value}{base:Heap}
theorem aML{k:Nat}{f:Addr}{name qual:Str}{params:DT}{body:Expr}{scope:Scope}{pm cdv ct:Value}{o:Obj}{N ps:List Str}
 {A:Around}{outer:List Env}{s:Shared}{H:Hp}{args:Args}{us:List Value}{vs:List V}{Q:VK}
 (hr:Room (k+1) A)(e0:Env0 P w K mg base A outer s H)(ho:s.heap.get? f=some o)(hd:o.data=.func (kla_fn name qual params body scope [] pm cdv ct))(hcd:s.heap.CodeRec cdv qual)(S:FnScope N ps scope)
 (hb:BindsTo s (kla_fn name qual params body scope [] pm cdv ct) args (ps.zip us))(r:bF vs us)(hl:vs.length=ps.length)
 (hbody:Room k (A.deeper (envOfC qual scope s.heap.objs.size f cdv))→∃ t:TE,PE (gZ CX0 P w K mg base N qual scope f cdv A outer s H E0).nox body t∧t (start N vs) H Q) :
  codeAny (model P w) A (.call (.ref f) args) (CR CX0 outer P w H s Q E0) s:=by
 have lim:s.heap.NoLimit:=e0.mod.nolimit.keeps fun b o e=>(e0.bs b o e).1
 have hkind:∀ y∈ps.zip us,scope.names.lookup y.1=some .local∨(scope.names.lookup y.1=some .cell∧((cellsFrom (s.heap.objs.size+1) scope.names []).lookup y.1).isSome=true):=fun⟨n,v⟩ hy=>by
  rcases S.par n (Dn hy).1 with q | q
  ·exact .inl q
  ·exact .inr ⟨q,DZ _ _ _ (.inl q)⟩
 refine kla_callFunE hr.depth ho hd S.co S.gen rfl hcd (hb _ _ _ _ ?_)
 refine wpAny_newFunctionEnv_cells S.kind hkind fun env he s1 x=>?_
 subst he
 refine⟨lim.keeps x.toInCall.keep,kla_codeExpr ?_⟩
 obtain⟨t,ht,hq⟩:=hbody (hr.deeper _)
 have I:Inv (gZ CX0 P w K mg base N qual scope f cdv A outer s H E0) [] (start N vs) H s1:=zM S hr.hd e0 hl r x
 have I':Inv (gZ CX0 P w K mg base N qual scope f cdv A outer s H E0).nox [] (start N vs) H s1:=⟨⟨I.ok.mod,I.ok.kind,I.ok.glob,I.ok.blt,I.ok.above,I.ok.inj,I.ok.has,I.ok.cab,I.ok.hd,I.ok.frames,I.ok.stk,I.ok.exf,I.ok.bs,I.ok.bsz,I.ok.noex,I.ok.exfs,I.ok.funs,I.ok.frf⟩,I.os,I.bare,I.base,I.loc,I.cell,I.free,I.freeC,I.pin,I.hok,I.len⟩
 refine BB (ht [] s1 (start N vs) H _ I' hq) (fun u s' hs=>?_) fun e s' hs=>BH hs
 obtain⟨v,H',J,rv,q⟩:=hs
 exact⟨v,H',J.os,J.bare,J.base,J.hok,rv,q⟩
end
end L2
namespace L2
open PySem PySem.Spec PyProof.Rows PySem.W
def eC(T:Addr)(H H':Hp):Prop:=∀ b o,b≠T→H b=some o→H' b=some o
theorem eC.trans{T:Addr}{H H1 H2:Hp}(a:eC T H H1)(b:eC T H1 H2):eC T H H2:=fun x o n e=>b x o n (a x o n e)
noncomputable def oT(qual:Str)(c:Addr):HO:=.ext fun h=>h.CodeRec (.ref c) qual
noncomputable def uE(name qual:Str)(params:DT)(body:Expr)(scope:Scope)(c f:Addr):HO:=.ext fun h=>∃ pm ctv,h.get? f=some (kla_obj name qual params body scope [] pm c ctv)
theorem oT.ok{P:Program}{w:World}{H:Hp}{h:Heap}{q:Str}{c:Addr}(x:h.CodeRec (.ref c) q):cE P w H h c (oT q c):=by
 refine⟨x,?_,fun h1 h2 y k=>?_⟩
 ·obtain⟨c',oc,vs,t,e,ho,_⟩:=x
  cases e
  exact⟨oc,ho⟩
 ·obtain⟨c',oc,vs,t,e,ho,r⟩:=y
  cases e
  exact⟨_,oc,vs,t,rfl,k _ ho,r⟩
theorem uE.ok{P:Program}{w:World}{H:Hp}{h:Heap}{n q:Str}{ps:DT}{b:Expr}{sc:Scope}{c f:Addr}{pm ctv:Value}(x:h.get? f=some (kla_obj n q ps b sc [] pm c ctv)):cE P w H h f (uE n q ps b sc c f) :=
 ⟨⟨pm,ctv,x⟩,⟨_,x⟩,fun h1 h2 ⟨p,v,y⟩ k=>⟨p,v,k _ y⟩⟩
def lU(T:Addr)(pos:Pos)(qual:Str)(H:Hp):Prop :=
 ∃ ps,H T=some (.tbl ps)∧TriplesOk ps.toList∧(codeAmong pos ps.toList=none∨∃ c',codeAmong pos ps.toList=some (.ref c')∧H c'=some (oT qual c'))
theorem lU.keep{T:Addr}{pos:Pos}{qual:Str}{H H':Hp}(x:lU T pos qual H)(k:∀ b o,H b=some o→H' b=some o):lU T pos qual H':=by
 obtain⟨ps,e,t,r⟩:=x
 refine⟨ps,k _ _ e,t,r.imp id fun⟨c,e1,e2⟩=>⟨c,e1,k _ _ e2⟩⟩
theorem sP:∀ (l:List Value) {m:List Value},TriplesOk m→TriplesOk l→TriplesOk (l++m)
 | [],_,h,_=>h
 | [a],_,_,h=>by cases a <;> exact BH h
 | [a,b],_,_,h=>by cases a <;> cases b <;> exact BH h
 | a :: b :: c :: r,m,h1,h2=>by
  cases a <;> first | exact BH h2 | (cases b <;> first | exact BH h2 | exact sP r h1 h2)
structure TabB (K:AD) (mg:Str→Option Value) (base:Heap) (x:Str) (c T:Addr):Prop where
 bm:∃ bm ob,mg "__builtins__"=some (.ref bm)∧bm≠builtinsNs∧base.get? bm=some ob∧ob.cls=.type "module"∧ob.dict=some builtinsNs∧ob.data=.plain
 hd:CodeHd base c T
 cd:∀ (fa:Addr) (o:Obj) (fd:Bb),mg x=some (.ref fa)→K.lookup fa=some o→o.data=.func fd→fd.code=.ref c
section
variable{X:Cx}{T c:Addr}{qual:Str}{params:DT}{body:Expr}{scope:Scope}{pos:Pos}
def aUD(T:Addr)(pos:Pos)(qual:Str)(params:DT)(body:Expr)(scope:Scope):TE:=fun σ H Q=>lU T pos qual H ∧
 ∀ (f c':Addr) (H':Hp),eC T H H'→lU T pos qual H'→H' c'=some (oT qual c')→H' f=some (uE "<lambda>" qual params body scope c' f)→Q (.ref f) H'
theorem aSH{x:Str}(B:TabB X.K X.mg X.base x c T)(hc:X.env.code=.ref c)(hq:X.env.qual++"<lambda>"=qual)(hcl:Eo scope X.env=pure [])(hdef:defaultsOf params X.env=([],[])) :
  PE X (.Lambda params body scope pos) (aUD T pos qual params body scope):=by
 intro pins s σ H Q I h
 obtain⟨⟨ps,eT,tr,hit⟩,q⟩:=h
 subst hq
 have gP:s.heap.get? T=some (tabObj ps):=I.hok T _ eT
 have hgs:=I.mod.glob.keeps I.bk
 obtain⟨bm,ob,b1,b2,b3,b4,b5,b6⟩:=B.bm
 have hgP:Bv≠T:=fun z=>by
  obtain⟨o,es,ep,e,hd,_⟩:=hgs
  rw[z,gP] at e;cases e;cases hd
 have hbP:bm≠T:=fun z=>by
  have e:=I.bk _ _ b3
  rw[z,gP] at e;cases e;cases b4
 have hbG:bm≠Bv:=fun z=>by
  obtain⟨o,es,ep,e,hd,_⟩:=I.mod.glob
  rw[z,e] at b3;cases b3;rw[hd] at b6;cases b6
 have bl:s.heap.BuiltinsAt X.mg T:=⟨bm,ob,b1,b2,hbG,hbP,I.bk _ _ b3,b4,b5,b6⟩
 have nT:∀ b,H b=none→b≠T:=fun b n z=>by rw[z,eT] at n;cases n
 refine kla_eval hdef ?_
 rcases hit with hn | ⟨c',hf,ec⟩
 ·refine kla_makeFunction (mg:=X.mg) hcl I.ok.glob hgs hc (B.hd.keeps I.bk) gP tr hn hgP bl fun c' ctv h' tk hx hge hlt hrec htb=>?_
  have gf:(h'.push (kla_obj "<lambda>" (X.env.qual++"<lambda>") params body scope [] ((X.mg "__name__").getD .none) c' ctv)).get? h'.objs.size=some (kla_obj "<lambda>" (X.env.qual++"<lambda>") params body scope [] ((X.mg "__name__").getD .none) c' ctv):=Ah _ rfl
  generalize hob:kla_obj "<lambda>" (X.env.qual++"<lambda>") params body scope [] ((X.mg "__name__").getD .none) c' ctv=obF at gf
  have keep:∀ b o,b≠T→s.heap.get? b=some o→(h'.push obF).get? b=some o:=fun b o n e=>AJ _ (hx b o n e)
  have lt:∀ b o,s.heap.get? b=some o→b≠c'∧b≠h'.objs.size:=fun b o e=>⟨Ae (Ac (AV e) hge),Ae (DK (Ac (AV e) hge) hlt)⟩
  have fresh:∀ b o,H b=some o→b≠c'∧b≠h'.objs.size:=fun b o e=>by
   have:=I.hok.lt e
   exact⟨Ae (Ac this hge),Ae (DK (Ac this hge) hlt)⟩
  have cT:c'≠T:=Ne.symm (fresh T _ eT).1
  have fT:h'.objs.size≠T:=Ne.symm (fresh T _ eT).2
  have cf:c'≠h'.objs.size:=Ae hlt
  let ps':=ps++#[rawInt pos.line,rawInt pos.col,.ref c']
  let H1:=upd (upd (upd H T (.tbl ps')) c' (oT (X.env.qual++"<lambda>") c')) h'.objs.size (uE "<lambda>" (X.env.qual++"<lambda>") params body scope c' h'.objs.size)
  have up:∀ b,b≠T→b≠c'→b≠h'.objs.size→H1 b=H b:=fun b n1 n2 n3=>by
   show upd _ _ _ b=_
   rw[aI n3,aI n2,aI n1]
  have eT1:H1 T=some (.tbl ps'):=by
   show upd _ _ _ T=_
   rw[aI (Ne.symm fT),aI (Ne.symm cT),aC]
  have ec1:H1 c'=some (oT (X.env.qual++"<lambda>") c'):=by
   show upd _ _ _ c'=_
   rw[aI cf,aC]
  have ef1:H1 h'.objs.size=some (uE "<lambda>" (X.env.qual++"<lambda>") params body scope c' h'.objs.size):=aC
  have KB:eC T H H1:=fun b o n e=>by rw[up b n (fresh b o e).1 (fresh b o e).2];exact e
  have hok:HOk X.prog X.w H1 (h'.push obF):=fun b u e=>by
   by_cases z1:b=h'.objs.size
   ·subst z1
    rw[ef1] at e
    cases e
    exact uE.ok (pm:=(X.mg "__name__").getD .none) (ctv:=ctv) (by rw[gf,hob])
   ·by_cases z2:b=c'
    ·subst z2
     rw[ec1] at e
     cases e
     obtain⟨_,oc,vs,t,e1,ho,r⟩:=hrec
     cases e1
     exact oT.ok ⟨_,oc,vs,t,rfl,AJ _ ho,r⟩
    ·by_cases z3:b=T
     ·subst z3
      rw[eT1] at e
      cases e
      show (h'.push obF).get? b=some _
      exact AJ _ htb
     ·rw[up b z3 z2 z1] at e
      refine (I.hok b u e).stay (fun d v hd g=>keep d v (fun z=>?_) g) (fun d z=>KB d _ (fun zz=>by rw[zz,eT] at z;cases z) z) fun d xs z=>KB d _ (fun zz=>by rw[zz,eT] at z;cases z) z
      rcases hd with hd | hd
      ·exact z3 (hd▸z)
      ·rw[z,eT] at hd;cases hd
  have I1:Inv X pins σ H1 { s with heap:=h'.push obF,toks:=tk }:=by
   refine I.step (g':=s.gens) (d':=s.drawn) (ch:=[]) (fun _ z=>nomatch z) (fun b o _ _ _ e n=>keep b o (nT b n) e) (fun b o _ _ _ e n=>⟨o.slots,keep b o (nT b n) e⟩)
    (fun b o _ e n=>by rw[up b (nT b n) (lt b o e).1 (lt b o e).2];exact n) (fun b o _ e=>?_) (fun b xs e=>KB b _ (fun z=>by rw[z,eT] at e;cases e) e) (fun b o u e=>KB b _ (fun z=>by rw[z,eT] at e;cases e) e)
    (fun b qs e=>?_) (fun m hm=>?_) hok I.bare
   ·by_cases z:b=T
    ·subst z
     exact⟨_,AJ _ htb⟩
    ·exact⟨o,keep b o z e⟩
   ·by_cases z:b=T
    ·subst z
     rw[eT] at e
     cases e
     exact⟨_,eT1⟩
    ·exact⟨#[],by rw[KB b _ z e];simp⟩
   ·exact (hm.extBut hx (nT _ I.free)).push _
  refine⟨.ref h'.objs.size,H1,?_,rfl,q _ c' H1 KB ⟨ps',eT1,?_,.inr ⟨c',?_,ec1⟩⟩ ec1 ef1⟩
  ·exact I1
  ·show TriplesOk (ps++#[rawInt pos.line,rawInt pos.col,.ref c']).toList
   rw[Array.toList_append]
   generalize ps.toList=l at tr
   clear up eT1 hok KB I1 fresh lt keep q gP hn hlt hge cf fT cT ec1 ef1 hx hrec htb gf hob bl eT
   revert tr
   refine sP l ?_
   exact trivial
  ·show codeAmong pos (ps++#[rawInt pos.line,rawInt pos.col,.ref c']).toList=_
   rw[Array.toList_append]
   exact codeAmong_snoc _ tr hn
 ·refine kla_makeFunctionHit (mg:=X.mg) hcl I.ok.glob hgs hc (B.hd.keeps I.bk) gP tr hf bl fun ctv h' tk hk hsz=>?_
  have gf:(h'.push (kla_obj "<lambda>" (X.env.qual++"<lambda>") params body scope [] ((X.mg "__name__").getD .none) c' ctv)).get? h'.objs.size=some (kla_obj "<lambda>" (X.env.qual++"<lambda>") params body scope [] ((X.mg "__name__").getD .none) c' ctv):=Ah _ rfl
  refine⟨.ref h'.objs.size,_,I.laid (a:=h'.objs.size) (o:=uE "<lambda>" (X.env.qual++"<lambda>") params body scope c' h'.objs.size) (t':=tk) (fun b o e=>AJ _ (hk b o e)) hsz (uE.ok gf),rfl,?_⟩
  have fr:=I.hok.fresh hsz
  have KS:∀ b o,H b=some o→upd H h'.objs.size (uE "<lambda>" (X.env.qual++"<lambda>") params body scope c' h'.objs.size) b=some o:=fun b o e=>by rw[aI (aJ e fr)];exact e
  exact q _ c' _ (fun b o _ e=>KS b o e) (lU.keep ⟨ps,eT,tr,.inr ⟨c',hf,ec⟩⟩ KS) (KS _ _ ec) aC
end
end L2
namespace HT
open PySem PyProof.Rows
section
open PySem.SeqAt
open PySem.AutoSeq1 (wpAny_loadPart')
open PySem.MeetsSeq PySem.MeetsSeq2 PySem.MeetsSeq3
theorem mY:∀ {vs:List Value} {ns:List Int} (i:Nat),IntsAre vs ns→i<vs.length→∃ a t,vs[i]?=some (.int a t)∧ns[i]?=some a
 | _,_,_,.nil,h=>by simp at h
 | _,_,0,.cons a t r,_=>⟨a,t,rfl,rfl⟩
 | _,_,i+1,.cons a t r,h=>mY i r (by simpa using h)
theorem aBQ(l b:Addr)(items items2:Array Value)(n n2:Nat)(dd dd2:Option Addr)(sl sl2:Array (Option Value))(ns ms:List Int)(hi:IntsAre items.toList ns)(hj:IntsAre items2.toList ms)(k:Nat) :
  ∀ i:Nat,items.size - i=k→Meets (Builtin.«list.__eq__.loop» ⟨[.ref l,.ref b,rawInt i,rawInt 0],[]⟩)
   (fun A R s=>s.heap.get? l=some { cls:=.type "list",dict:=dd,data:=.seq items n,slots:=sl }∧s.heap.get? b=some { cls:=.type "list",dict:=dd2,data:=.seq items2 n2,slots:=sl2 } ∧
    i≤items.size∧i≤items2.size∧R (.ok (.ret (.bool (lexLt (ns.drop i) (ms.drop i))))) s):=by
 have z1:items.size=ns.length:=by rw[← hi.length];simp
 have z2:items2.size=ms.length:=by rw[← hj.length];simp
 induction k with
 | zero =>
  intro i hk prog w A R s h
  obtain⟨hp,g,d,tk,os⟩:=s;obtain⟨hl,hb,hi1,hi2,h⟩:=h
  wp_walk using Bk hl,Bk hb
  have hi1:items[((i:Nat):Int).toNat]?=none:=by simp;omega
  rw[hi1]
  wp_walk using Bk hl,Bk hb
  show R (.ok (.ret (.bool (decide (items.size<items2.size))))) _
  rw[CP (as:=ns) (by omega)] at h
  have e:lexLt [] (ms.drop i)=decide (items.size<items2.size):=by
   by_cases q:i<ms.length
   ·rw[Cf q,wF]
    exact (decide_eq_true (by omega)).symm
   ·rw[CP (by omega),xR]
    exact (decide_eq_false (by omega)).symm
  rw[e] at h
  exact h
 | succ k ih =>
  intro i hk prog w A R s h
  obtain⟨hp,g,d,tk,os⟩:=s;obtain⟨hl,hb,l1,l2,h⟩:=h
  have hlt:i<items.size:=by omega
  obtain⟨a,t,e1,f1⟩:=mY i hi (by rw[Bf];exact hlt)
  have hn:i<ns.length:=by omega
  have hi1:items[((i:Nat):Int).toNat]?=some (.int a t):=by
   rw[show ((i:Nat):Int).toNat=i by simp,← CB];exact e1
  have dn:ns.drop i=a :: ns.drop (i+1):=by
   rw[Cf hn]
   rw[AC hn] at f1
   rw[BA f1]
  rw[dn] at h
  wp_walk using Bk hl,Bk hb
  rw[hi1]
  by_cases q:i<items2.size
  ·obtain⟨c,u,e2,f2⟩:=mY i hj (by rw[Bf];exact q)
   have hm:i<ms.length:=by omega
   have hi2:items2[((i:Nat):Int).toNat]?=some (.int c u):=by
    rw[show ((i:Nat):Int).toNat=i by simp,← CB];exact e2
   have dm:ms.drop i=c :: ms.drop (i+1):=by
    rw[Cf hm]
    rw[AC hm] at f2
    rw[BA f2]
   rw[dm,lexLt_cons] at h
   rw[hi2]
   obtain⟨e,he,hiff⟩:=aNI A.in1 ⟨hp,g,d,tk,os⟩ a t c u
   have hc:((i:Int)+1)=((i+1:Nat):Int):=by push_cast;rfl
   refine AK (he prog w _ _ ?_)
   cases e with
   | true =>
    rw[if_pos (hiff.mp rfl)] at h
    wp_walk
    rw[hc]
    exact⟨Cl plain_eq_loop _,CJ entry_eq_loop (by
     rw[CG plain_eq_loop _]
     exact ih (i+1) (by omega) prog w A R _ ⟨hl,hb,by omega,by omega,h⟩)⟩
   | false =>
    rw[if_neg (fun z=>absurd (hiff.mpr z) AR)] at h
    have hri:=aLM A.in1 ⟨hp,g,d,tk,os⟩ a t c u prog w
    wp_walk using Bk hl,Bk hb
    rw[hi1,hi2]
    wp_walk using hri
    exact h
  ·have hi2:items2[((i:Nat):Int).toNat]?=none:=by simp;omega
   rw[hi2]
   wp_walk using Bk hl,Bk hb
   show R (.ok (.ret (.bool (decide (items.size<items2.size))))) _
   rw[CP (as:=ms) (by omega),wG] at h
   rw[decide_eq_false (by omega)]
   exact h
theorem aBR(l b:Addr)(items items2:Array Value)(n n2:Nat)(dd dd2:Option Addr)(sl sl2:Array (Option Value))(ns ms:List Int)(hi:IntsAre items.toList ns)(hj:IntsAre items2.toList ms) :
  Meets (Builtin.«list.__lt__» ⟨[.ref l,.ref b],[]⟩)
   (fun A R s=>s.heap.get? l=some { cls:=.type "list",dict:=dd,data:=.seq items n,slots:=sl }∧s.heap.get? b=some { cls:=.type "list",dict:=dd2,data:=.seq items2 n2,slots:=sl2 } ∧
    R (.ok (.ret (.bool (lexLt ns ms)))) s):=by
 intro prog w A R s h
 obtain⟨hp,g,d,tk,os⟩:=s;obtain⟨hl,hb,h⟩:=h
 have f3:=AutoSeq1.sub_list_list
 wp_walk using Bk hl,Bk hb
 exact⟨Cl plain_eq_loop _,CJ entry_eq_loop (by
  rw[CG plain_eq_loop _]
  exact aBQ l b items items2 n n2 dd dd2 sl sl2 ns ms hi hj _ 0 rfl prog w A R _ ⟨hl,hb,BK _,BK _,by simpa using h⟩)⟩
end
section
variable{prog:Program}{w:World}{A:Around}{E:Value→Shared→Prop}{s:Shared}
theorem lt_listInts{l b:Addr}{items items2:Array Value}{ns ms:List Int}{Q:Value→Shared→Prop}(hl:s.heap.IsList l items)(hb:s.heap.IsList b items2)(hi:IntsAre items.toList ns)(hj:IntsAre items2.toList ms)
 (hu:A.units<cLine)(h:Q (.bool (lexLt ns ms)) s):wpAny (model prog w) A (BV .Lt (.ref l) (.ref b)) Q E s:=by
 obtain⟨⟨cls,dd,data,sl⟩,ho,hc,n,hd⟩:=id hl
 obtain⟨⟨cls2,dd2,data2,sl2⟩,ho2,hc2,n2,hd2⟩:=id hb
 simp only at hc hd hc2 hd2
 subst hc hd hc2 hd2
 exact richCompare_meets_room (op:=.Lt) ⟨_,ho,rfl⟩ ⟨_,ho2,rfl⟩ PySem.F.slot_list_lt PySem.F.entry_list_lt (PySem.F.args_list_lt_2 _ _) (aBR l b items items2 n n2 dd dd2 sl sl2 ns ms hi hj)
  ⟨ho,ho2,show EL (lexLt ns ms)≠Value.notImplemented∧Q (.bool (lexLt ns ms)) s from⟨(fun x=>nomatch x),h⟩⟩ hu
end
end HT
namespace L2
open PySem PySem.Spec PyProof.Rows PySem.W
noncomputable def aIK(n:Nat)(lt:Nat→Nat→Bool){α:Type}:KasT α→Option α
 | .ret a=>some a
 | .ask i j k=>if i<n∧j<n then aIK n lt (k (lt i j)) else none
theorem aCJ{α:Type}{n:Nat}{lt:Nat→Nat→Bool}{cmp:Nat→Nat→(Bool→Shared→Prop)→Shared→Prop}{s:Shared}(hc:∀ (i j:Nat) (C:Bool→Shared→Prop),i<n→j<n→C (lt i j) s→cmp i j C s) :
  ∀ (t:KasT α) (a:α) (G:α→Shared→Prop),aIK n lt t=some a→G a s→t.kasWp cmp G s
 | .ret b,a,G,e,g=>by
  have e:b=a:=BA e
  subst e
  exact g
 | .ask i j k,a,G,e,g=>by
  unfold aIK at e
  split at e
  ·rename_i h
   exact hc i j _ h.1 h.2 (aCJ hc (k (lt i j)) a G e g)
  ·cases e
noncomputable def jP(ns ms:List Int):Bool:=if ns.length=ms.length then HT.lexLt ns ms else decide (ns.length<ms.length)
noncomputable def yF(nss:List (List Int)):Option (Array Nat):=aIK nss.length (fun i j=>jP (nss.getD i []) (nss.getD j [])) (kas_sort nss.length)
noncomputable def eX:Nat→List (List Int)
 | 0=>[[]]
 | k+1=>eX k++(eX k).map (·++[(k:Int)])
noncomputable def aDO:Nat→List Nat
 | 1=>[0,1]
 | 2=>[0,1,2,3]
 | 3=>[0,1,2,4,3,5,6,7]
 | _=>[0,1,2,4,8,3,5,9,6,10,12,7,11,13,14,15]
theorem aOJ:yF (eX 1)=some (aDO 1).toArray:=by decide +kernel
theorem aOI:yF (eX 2)=some (aDO 2).toArray:=by decide +kernel
theorem aOH:yF (eX 3)=some (aDO 3).toArray:=by decide +kernel
theorem aOG:yF (eX 4)=some (aDO 4).toArray:=by decide +kernel
end L2
namespace L2
open PySem PySem.Spec PyProof.Rows PySem.W
section
variable{X:Cx}{pins:List (Addr×Obj)}{σ:List (Option V)}{H:Hp}{s:Shared}
structure Ours (X:Cx) (H:Hp) (b:Addr):Prop where
 nt:H b=none
 loc:b≠X.env.locals
 nfs:b∉X.fs
 ab:X.s₀.heap.objs.size≤b
 ncl:∀ x c,X.env.cells.lookup x=some c→c≠b
 npn:∀ p∈X.pn,p.1≠b
theorem Ours.new(I:Inv X pins σ H s){b:Addr}(h:s.heap.objs.size≤b):Ours X H b:=by
 refine⟨I.hok.fresh h,Ne.symm (Ae (Ac I.lt h)),I.nofs h,Az I.sz h,fun x c e z=>?_,fun p hp z=>?_⟩
 ·obtain⟨v,o,ho,_⟩:=I.cell x c e
  exact absurd (AV ho) (by rw[z];exact Nat.not_lt.mpr h)
 ·have ho:=(I.pin p (BX _ hp)).1
  exact absurd (AV ho) (by rw[z];exact Nat.not_lt.mpr h)
theorem Inv.pinAdd{b:Addr}{o:Obj}(I:Inv X pins σ H s)(e:s.heap.get? b=some o)(O:Ours X H b)(nc:∀ v,o.data≠.cell v):Inv X ((b,o) :: pins) σ H s :=
 I.pins_of fun p hp=>by
  rcases AZ.mp hp with rfl | hp
  ·exact⟨e,O.nt,O.loc,O.nfs,nc⟩
  ·exact I.pin p (Ag _ hp)
theorem Inv.pinDrop{q:Addr×Obj}(I:Inv X (q :: pins) σ H s):Inv X pins σ H s:=I.pins_of fun p hp=>I.pin p (Ag _ (AO _ hp))
theorem Inv.pinAt{b:Addr}{o:Obj}(I:Inv X ((b,o) :: pins) σ H s):s.heap.get? b=some o∧H b=none:=let x:=I.pin (b,o) (Ag _ AQ);⟨x.1,x.2.1⟩
theorem Inv.turn{t':Nat}{h':Heap}{b:Addr}{o o':Obj}(I:Inv X ((b,o) :: pins) σ H s)(O:Ours X H b)(hp:∀ p∈pins,p.1≠b)(k:∀ d u,d≠b→s.heap.get? d=some u→h'.get? d=some u)(e:h'.get? b=some o')(nc:∀ v,o'.data≠.cell v) :
  Inv X ((b,o') :: pins) σ H { s with heap:=h',toks:=t' } :=
 Inv.pinAdd (I.pinDrop.turned (h':=h') (t':=t') k O.nt O.loc (.inr O.ab) O.ncl fun p z=>by
  rcases Ab.mp z with z | z
  ·exact O.npn p z
  ·exact hp p z) e O nc
theorem Inv.track{b:Addr}{o:Obj}{u:HO}(I:Inv X ((b,o) :: pins) σ H s)(O:Ours X H b)(hp:∀ p∈pins,p.1≠b)(new:cE X.prog X.w (upd H b u) s.heap b u):Inv X pins σ (upd H b u) s:=by
 have I0:=I.pinDrop
 have nb:∀ c v,H c=some v→c≠b:=fun c v e=>aJ e O.nt
 have hch:∀ c∈[b],(c∈X.ex∨X.s₀.heap.objs.size≤c)∧c≠X.env.locals∧(∀ x d,X.env.cells.lookup x=some d→d≠c)∧∀ p∈X.pn++pins,p.1≠c:=fun c hc=>by
  have e:c=b:=by simpa using hc
  subst e
  exact⟨.inr O.ab,O.loc,O.ncl,fun p z=>(Ab.mp z).elim (O.npn p) (hp p)⟩
 have:=I0.step (h':=s.heap) (H':=upd H b u) (g':=s.gens) (t':=s.toks) (d':=s.drawn) (ch:=[b]) hch (fun c o _ _ _ e _=>e) (fun c o _ _ _ e _=>⟨o.slots,e⟩) (fun c o hc e n=>by rw[aI (by simpa using hc)];exact n)
  (fun c o _ e=>⟨o,e⟩) (fun c xs e=>by rw[aI (nb c _ e)];exact e) (fun c o v e=>by rw[aI (nb c _ e)];exact e) (fun c ps e=>⟨#[],by rw[aI (nb c _ e),e];simp⟩) (fun m hm=>hm) (fun c v e=>?_) I.bare
 ·exact this
 ·by_cases hc:c=b
  ·subst hc;rw[aC] at e;cases e;exact new
  ·rw[aI hc] at e
   exact (I.hok c v e).stay (fun d w _ q=>q) (fun d q=>by rw[aI (nb d _ q)];exact q) fun d xs q=>by rw[aI (nb d _ q)];exact q
end
end L2
namespace L2
open PySem PySem.Spec PyProof.Rows PySem.W
theorem qN:∀ ns:List Int,HT.lexLt ns ns=false
 | []=>rfl
 | n :: ns=>by rw[HT.lexLt_cons,if_pos rfl];exact qN ns
theorem zP:∀ ns ms:List Int,uB (ns.map Dv.int) (ms.map Dv.int)=decide (ns=ms)
 | [],[]=>rfl
 | [],_ :: _=>rfl
 | _ :: _,[]=>rfl
 | n :: ns,m :: ms=>by
  show (deq (.int n) (.int m) && uB (ns.map Dv.int) (ms.map Dv.int))=_
  rw[zP ns ms]
  show (decide (n=m) && decide (ns=ms))=_
  by_cases h1:n=m <;> by_cases h2:ns=ms <;> simp[h1,h2]
theorem qO{H:Hp}:∀ ns:List Int,IsL H (ns.map Dv.int) (ns.map V.int)
 | []=>rfl
 | n :: ns=>⟨.int n,_,rfl,rfl,qO ns⟩
theorem sD:∀ ns:List Int,cI 1 (ns.map Dv.int)=true
 | []=>rfl
 | n :: ns=>by
  show (aY 1 (.int n) && cI 1 (ns.map Dv.int))=true
  rw[sD ns]
  rfl
theorem rY:∀ {ns:List Int} {vs:List Value},bF (ns.map V.int) vs→IntsAre vs.toArray.toList ns
 | [],_,.nil=>.nil
 | n :: ns,_,.cons ⟨t,rfl⟩ r=>.cons n t (rY r)
section
variable{X:Cx}{pins:List (Addr×Obj)}{σ:List (Option V)}{H:Hp}{s:Shared}
theorem aSS(I:Inv X pins σ H s){A:Around}(hu:A.units+8<cLine){t u a b:Addr}{ns ms:List Int}(et:H t=some (.tup [.int ns.length,.ref a]))(eu:H u=some (.tup [.int ms.length,.ref b]))
 (ea:H a=some (.lst (ns.map V.int)))(eb:H b=some (.lst (ms.map V.int))){Q:Bool→Shared→Prop}{E:Value→Shared→Prop}(q:Q (jP ns ms) s) :
  wpAny (model X.prog X.w) A (keyLt' (tuples' true) (.ref t) (.ref u)) Q E s:=by
 obtain⟨i1,r1,⟨o1,g1,c1,n1,d1⟩,_⟩:=I.tuple (SqT.of et)
 obtain⟨i2,r2,⟨o2,g2,c2,n2,d2⟩,_⟩:=I.tuple (SqT.of eu)
 cases r1 with
 | cons x1 y1 =>
 cases y1 with
 | cons x1' y1 =>
 cases y1
 cases r2 with
 | cons x2 y2 =>
 cases y2 with
 | cons x2' y2 =>
 cases y2
 obtain⟨t1,rfl⟩:=x1
 obtain⟨t2,rfl⟩:=x2
 cases x1'
 cases x2'
 refine kat_lt g1 d1 g2 d2 ?_
 refine kat_cons (wpAny_eqBool_int ?_)
 by_cases hl:ns.length=ms.length
 ·have e1:((ns.length:Int) == (ms.length:Int))=true:=by simp[hl]
  rw[e1]
  refine kat_yes (kat_cons ?_)
  refine Is.eqAt I 2 (.lst (ns.map Dv.int)) (.lst (ms.map Dv.int)) (.ref a) (.ref b) (.ref a) (.ref b) A (by omega) (sD ns) (sD ms) ⟨a,_,rfl,ea,qO ns⟩ ⟨b,_,rfl,eb,qO ms⟩ rfl rfl X.prog X.w _ _ ?_
  have e2:deq (.lst (ns.map Dv.int)) (.lst (ms.map Dv.int))=decide (ns=ms):=zP ns ms
  rw[e2]
  by_cases hm:ns=ms
  ·rw[decide_eq_true hm]
   refine kat_yes (kat_nil ?_)
   subst hm
   have e3:jP ns ns=false:=by unfold jP;rw[if_pos rfl,qN]
   rw[e3] at q
   exact q
  ·rw[decide_eq_false hm]
   refine kat_no ?_
   show wpAny _ _ (oneLt' false (.ref a) (.ref b)) _ _ _
   obtain⟨j1,v1,p1,_⟩:=I.list (SqL.of ea)
   obtain⟨j2,v2,p2,_⟩:=I.list (SqL.of eb)
   refine kat_one _ _ (HT.lt_listInts p1.isList p2.isList (rY v1) (rY v2) (by omega) ?_)
   have e3:jP ns ms=HT.lexLt ns ms:=by unfold jP;rw[if_pos hl]
   rw[e3] at q
   exact q
 ·have e1:((ns.length:Int) == (ms.length:Int))=false:=by simp;omega
  rw[e1]
  refine kat_no ?_
  show wpAny _ _ (oneLt' true (.int ns.length t1) (.int ms.length t2)) _ _ _
  refine oneLt_int ?_
  have e3:jP ns ms=decide ((ns.length:Int)<(ms.length:Int)):=by
   unfold jP
   rw[if_neg hl]
   by_cases h:ns.length<ms.length
   ·rw[decide_eq_true h,decide_eq_true (by omega)]
   ·rw[decide_eq_false h,decide_eq_false (by omega)]
  rw[e3] at q
  exact q
end
end L2
namespace L2
open PySem PySem.Spec PyProof.Rows PySem.W
def aQJ(X:Cx)(σ:List (Option V))(A:Around)(f:Addr)(P0:Hp→Prop):Prop:=∀ (pins:List (Addr×Obj)) (s:Shared) (H:Hp) (a:Addr) (ns:List Int),Inv X pins σ H s→P0 H→H a=some (.lst (ns.map V.int)) →
 wpAny (model X.prog X.w) A (call (.ref f) [.ref a]) (fun u s'=>∃ t H',Inv X pins σ H' s'∧u=.ref t∧aH H H'∧H' t=some (.tup [.int ns.length,.ref a])) (fun _ _=>False) s
abbrev jD (H:Hp) (ps:List (Addr×List Int)):Prop:=∀ p∈ps,H p.1=some (.lst (p.2.map V.int))
theorem jD.same{H H':Hp}{ps:List (Addr×List Int)}(S:aH H H')(h:jD H ps):jD H' ps:=fun p m=>S _ _ (h p m)
def eM(H:Hp):List Value→List (Addr×List Int)→Prop
 | [],[]=>True
 | k :: ks,p :: ps=>(∃ t,k=.ref t∧H t=some (.tup [.int p.2.length,.ref p.1]))∧eM H ks ps
 | _,_=>False
theorem eM.same{H H':Hp}(S:aH H H'):∀ {ks:List Value} {ps:List (Addr×List Int)},eM H ks ps→eM H' ks ps
 | [],[],_=>trivial
 | [],_ :: _,h=>h
 | _ :: _,[],h=>h
 | _ :: _,_ :: _,⟨⟨t,e,g⟩,r⟩=>⟨⟨t,e,S _ _ g⟩,eM.same S r⟩
theorem eM.snoc{H:Hp}{p:Addr×List Int}{t:Addr}(g:H t=some (.tup [.int p.2.length,.ref p.1])):∀ {ks:List Value} {ps:List (Addr×List Int)},eM H ks ps→eM H (ks++[.ref t]) (ps++[p])
 | [],[],_=>⟨⟨t,rfl,g⟩,trivial⟩
 | [],_ :: _,h=>h.elim
 | _ :: _,[],h=>h.elim
 | _ :: _,_ :: _,⟨x,r⟩=>⟨x,eM.snoc g r⟩
theorem eM.length{H:Hp}:∀ {ks:List Value} {ps:List (Addr×List Int)},eM H ks ps→ks.length=ps.length
 | [],[],_=>rfl
 | [],_ :: _,h=>h.elim
 | _ :: _,[],h=>h.elim
 | _ :: _,_ :: _,⟨_,r⟩=>by rw[Af,Af,eM.length r]
theorem eM.get{H:Hp}:∀ {ks:List Value} {ps:List (Addr×List Int)} (i:Nat),eM H ks ps→i<ps.length→∃ t p,ks.getD i CA=.ref t∧ps[i]?=some p∧H t=some (.tup [.int p.2.length,.ref p.1])
 | [],[],_,_,h=>by simp at h
 | [],_ :: _,_,h,_=>h.elim
 | _ :: _,[],_,h,_=>h.elim
 | _ :: _,p :: _,0,⟨⟨t,e,g⟩,_⟩,_=>⟨t,p,by simpa using e,rfl,g⟩
 | _ :: ks,_ :: ps,i+1,⟨_,r⟩,h=>by
  obtain⟨t,p,e1,e2,e3⟩:=eM.get (ks:=ks) (ps:=ps) i r (by simpa using h)
  exact⟨t,p,by simpa using e1,by simpa using e2,e3⟩
section
variable{X:Cx}{pins:List (Addr×Obj)}{σ:List (Option V)}{A:Around}{f kS:Addr}{P0:Hp→Prop}
theorem nR{cl:Value}{xs:Array Value}{n:Nat}:∀ v,({ cls:=cl,data:=.seq xs n }:Obj).data≠.cell v:=fun v h=>by cases h
theorem zH{H:Hp}{s:Shared}(I:Inv X pins σ H s):∀ {ks:List Value} {ps:List (Addr×List Int)},eM H ks ps→∃ fs:List Value,KatTups s.heap ks fs∧fs.length=ps.length∧∀ v∈fs,∃ i t,v=.int i t
 | [],[],_=>⟨[],.nil,rfl,fun _ m=>nomatch m⟩
 | [],_ :: _,h=>h.elim
 | _ :: _,[],h=>h.elim
 | _ :: ks,p :: ps,⟨⟨t,e,g⟩,r⟩=>by
  subst e
  obtain⟨fs,a,b,c⟩:=zH I r
  obtain⟨i1,r1,⟨o1,g1,c1,n1,d1⟩,_⟩:=I.tuple (SqT.of g)
  cases r1 with
  | cons x1 y1 =>
  obtain⟨t1,rfl⟩:=x1
  refine⟨_ :: fs,.cons g1 c1 d1 rfl a,by rw[Af,Af,b],fun v m=>?_⟩
  rcases AZ.mp m with rfl | m
  ·exact⟨_,_,rfl⟩
  ·exact c v m
theorem zI(st0:∀ H H',aH H H'→P0 H→P0 H')(hk:aQJ X σ A f P0){n:Nat}(hn:n≤1000){body:Value→PUnit→Sem (ForInStep PUnit)}{E:Value→Shared→Prop}
 (hb:∀ (x:Value) (ks:List Value) (s:Shared) (C:Value→Shared→Prop),wpAny (model X.prog X.w) A (call (.ref f) [x]) (fun k s'=>wpAny (model X.prog X.w) A (Builtin.List.listUpdate (.ref kS) (·.push k)) (fun _ s''=>C k s'') (fun _ _=>False) s') (fun _ _=>False) s →
   wpAny (model X.prog X.w) A (body x ⟨⟩) (fun r s'=>r=.yield ⟨⟩∧∃ k,C k s') E s) :
  ∀ (r done:List (Addr×List Int)) (ks:List Value) (e:Nat) (H:Hp) (s:Shared),Inv X ((kS,seqObj "list" ks.toArray e) :: pins) σ H s→Ours X H kS→(∀ p∈pins,p.1≠kS)→P0 H→jD H r→eM H ks done→done.length+r.length=n →
   wpAny (model X.prog X.w) A (forIn (r.map fun p=>Ao p.1) PUnit.unit body) (fun _ s'=>∃ (ks':List Value) (e':Nat) (H':Hp),Inv X ((kS,seqObj "list" ks'.toArray e') :: pins) σ H' s'∧aH H H'∧eM H' ks' (done++r)) E s
 | [],done,ks,e,H,s,I,O,hp,p0,it,kt,hl=>by
  rw[CO,List.forIn_nil]
  exact Aa ⟨ks,e,H,I,aH.refl _,by rw[BO];exact kt⟩
 | p :: r,done,ks,e,H,s,I,O,hp,p0,it,kt,hl=>by
  rw[AX,DA]
  have hl':=kt.length
  rw[Af] at hl
  refine AK (BB (hb (.ref p.1) ks s (fun k s'=>∃ (t:Addr) (e':Nat) (H':Hp),k=.ref t∧Inv X ((kS,seqObj "list" (ks++[k]).toArray e') :: pins) σ H' s'∧aH H H'∧H' t=some (.tup [.int p.2.length,.ref p.1])) ?_) (fun q s' hq=>?_) fun _ _ x=>x)
  ·refine BB (hk _ s H p.1 p.2 I p0 (it p AQ)) (fun u s' hu=>?_) fun _ _ x=>x
   obtain⟨t,H',I',rfl,S,g⟩:=hu
   have pa:=I'.pinAt
   refine El pa.1 rfl ?_ (by rw[AM,CD];omega) (Az (Dm (Ep ..)) (by rw[AM,CD];omega))
   have ea:(Co ks).push (.ref t)=Co (ks++[.ref t]):=by simp
   obtain⟨c2,hc2⟩:∃ c2,(s'.heap.update kS (BI (·.push (.ref t)))).get? kS=some (seqObj "list" (Co (ks++[.ref t])) c2):=⟨_,by rw[← ea];exact EG pa.1 (·.push (.ref t))⟩
   refine⟨t,c2,H',rfl,?_,S,g⟩
   exact Inv.turn (t':=s'.toks) I' ⟨pa.2,O.loc,O.nfs,O.ab,O.ncl,O.npn⟩ hp (fun d u nd q=>by rw[Ba _ _ (Ne.symm nd)];exact q) hc2 nR
  ·obtain⟨rfl,k,t,e',H',rfl,I',S,g⟩:=hq
   show wpAny (model X.prog X.w) A (forIn (r.map fun p=>Ao p.1) PUnit.unit body) _ E s'
   refine BB (zI st0 hk hn hb r (done++[p]) (ks++[.ref t]) e' H' s' I' ⟨I'.pinAt.2,O.loc,O.nfs,O.ab,O.ncl,O.npn⟩ hp (st0 _ _ S p0) (jD.same S fun q m=>it q (AO _ m)) ((kt.same S).snoc g) (by rw[AW,Bq];omega)) (fun _ s2 hz=>?_) fun _ _ x=>x
   obtain⟨ks2,e2,H2,I2,S2,kt2⟩:=hz
   refine⟨ks2,e2,H2,I2,S.trans S2,?_⟩
   rw[Bg] at kt2
   exact kt2
end
end L2
namespace L2
open PySem PySem.Spec PyProof.Rows PySem.W
section
variable{prog:Program}{w:World}{A:Around}{E:Value→Shared→Prop}{s:Shared}
def Rn(prog:Program)(w:World)(A:Around)(E:Value→Shared→Prop)(s:Shared){α:Type}(m:StateT SortSt Sem α)(st:SortSt)(r:α)(st':SortSt):Prop :=
 ∀ Q:α×SortSt→Shared→Prop,Q (r,st') s→wpAny (model prog w) A (m.run st) Q E s
theorem aZ{α:Type}{r:α}{st:SortSt}:Rn prog w A E s (pure r) st r st:=fun Q h=>Aa h
theorem aL{α β:Type}{m:StateT SortSt Sem α}{f:α→StateT SortSt Sem β}{st st1 st2:SortSt}{a:α}{r:β}(h1:Rn prog w A E s m st a st1)(h2:Rn prog w A E s (f a) st1 r st2):Rn prog w A E s (m >>= f) st r st2 :=
 fun Q h=>AK (h1 _ (h2 Q h))
theorem gQ{st:SortSt}:Rn prog w A E s get st st st:=fun Q h=>Aa h
theorem aHS{x:String}{st:SortSt}:Rn prog w A E s (liftM (rule x)) st () st:=fun Q h=>AK (wpAny_rule (Aa h))
theorem eE{arr:Array Keyed}{i:Nat}{p:Keyed}{st:SortSt}(h:arr[i]?=some p):Rn prog w A E s (elem' arr i) st p st:=by
 show Rn prog w A E s (match arr[i]? with | some p=>pure p | none=>liftM (unsupported _)) st p st
 rw[h]
 exact aZ
section
variable{α β:Type}
theorem qG{f:Nat→β→StateT SortSt Sem (ForInStep β)}{st st1:SortSt}{b b1:β}{x:Nat}{xs:List Nat}(h:Rn prog w A E s (f x b) st (.done b1) st1):Rn prog w A E s (forIn (x :: xs) b f) st b1 st1:=by
 rw[DA]
 exact aL h aZ
theorem jY{f:Nat→β→StateT SortSt Sem (ForInStep β)}{st st1 st2:SortSt}{b b1 b2:β}{x:Nat}{xs:List Nat}(h:Rn prog w A E s (f x b) st (.yield b1) st1)(h2:Rn prog w A E s (forIn xs b1 f) st1 b2 st2):Rn prog w A E s (forIn (x :: xs) b f) st b2 st2:=by
 rw[DA]
 exact aL h h2
end
variable{κ:SortKind}{it:Array Keyed}{n:Nat}{lt:Nat→Nat→Bool}
structure As where
 p:Array Nat
 pend:Array (Nat×Nat×Nat)
 mg:Nat
noncomputable def As.st(κ:SortKind)(it:Array Keyed)(a:As):SortSt:=SortSt.mk' κ (a.p.map (BL it)) a.pend a.mg none
def qX(prog:Program)(w:World)(A:Around)(s:Shared)(κ:SortKind)(it:Array Keyed)(n:Nat)(lt:Nat→Nat→Bool):Prop:=∀ i j (C:Bool→Shared→Prop),i<n→j<n→C (lt i j) s→kas_cmp prog w A κ it i j C s
theorem aDK(hk:qX prog w A s κ it n lt){a:As}{i j:Nat}(hi:i<n)(hj:j<n):Rn prog w A E s (lt' (BL it i) (BL it j)) (a.st κ it) (some (lt i j)) (a.st κ it):=by
 intro Q h
 refine AK (Aa ?_)
 refine AK (AK (Ek (BB (hk i j (fun b s'=>b=lt i j∧s'=s) hi hj ⟨rfl,rfl⟩) (fun b s' hb=>?_) fun _ _ x=>x.elim)))
 obtain⟨rfl,rfl⟩:=hb
 exact Aa (Aa h)
noncomputable def ask(n:Nat)(lt:Nat→Nat→Bool)(p:Array Nat)(i j:Nat):Option Bool:=match p[i]?,p[j]? with
 | some x,some y=>if x<n∧y<n then some (lt x y) else none
 | _,_=>none
theorem aNV{p:Array Nat}{i j:Nat}{b:Bool}(h:ask n lt p i j=some b):∃ x y,p[i]?=some x∧p[j]?=some y∧x<n∧y<n∧b=lt x y:=by
 unfold ask at h
 split at h
 ·rename_i x y e1 e2
  split at h
  ·rename_i hh
   exact⟨x,y,e1,e2,hh.1,hh.2,(BA h).symm⟩
  ·cases h
 ·cases h
theorem fO{p:Array Nat}{i x:Nat}(h:p[i]?=some x):(p.map (BL it))[i]?=some (BL it x):=by
 rw[Array.getElem?_map,h]
 rfl
theorem qF(hk:qX prog w A s κ it n lt){a:As}{i j:Nat}{b:Bool}(h:ask n lt a.p i j=some b):Rn prog w A E s (ltAt' i j) (a.st κ it) (some b) (a.st κ it):=by
 obtain⟨x,y,e1,e2,hx,hy,rfl⟩:=aNV h
 refine aL gQ ?_
 refine aL (eE (fO e1)) ?_
 refine aL (eE (fO e2)) ?_
 exact aDK hk hx hy
noncomputable def aQE(ak:Nat→Nat→Option Bool)(lo:Nat):Nat→Nat→Option Nat
 | 0,m=>some m
 | f+1,m=>match ak (lo+m) (lo+m - 1) with
  | none=>none
  | some true=>some m
  | some false=>aQE ak lo f (m+1)
noncomputable def aTK(ak:Nat→Nat→Option Bool)(lo nrem:Nat):Option Nat:=match aQE ak lo (nrem - 1) 1 with
 | none=>none
 | some m=>if m=nrem then some m else if m>1 then (if ak lo (lo+m - 1)=some true then some m else none) else none
theorem aLK(hk:qX prog w A s κ it n lt){a:As}{lo nrem m:Nat}(h:aTK (ask n lt a.p) lo nrem=some m):Rn prog w A E s (countRun' lo nrem) (a.st κ it) (some m) (a.st κ it):=by
 unfold aTK at h
 split at h
 ·cases h
 ·rename_i k hk'
  refine aL (a:=(none,k)) (st1:=a.st κ it) ?_ ?_
  ·rw[BP]
   have gen:∀ (xs:List Nat) (m k:Nat),aQE (ask n lt a.p) lo xs.length m=some k→Rn prog w A E s (forIn xs ((none:Option (Option Nat)),m) fun x __s =>
     (ltAt' (lo+__s.snd) (lo+__s.snd - 1)) >>= fun __x=>match __x with
      | some smaller=>if smaller=true then pure (Dg (none,__s.snd)) else pure (BY (none,__s.snd+1))
      | x=>pure (Dg (some none,__s.snd))) (a.st κ it) (none,k) (a.st κ it):=by
    intro xs
    induction xs with
    | nil=>intro m k e;cases e;exact aZ
    | cons x xs ih =>
     intro m k e
     rw[Af] at e
     unfold aQE at e
     split at e
     ·cases e
     ·rename_i eb
      cases e
      exact qG (aL (qF hk eb) aZ)
     ·rename_i eb
      exact jY (aL (qF hk eb) aZ) (ih _ _ e)
   exact gen _ _ _ (by rw[DN,show [1:nrem].size=nrem - 1 by simp[Bu]];exact hk')
  ·by_cases e:k=nrem
   ·rw[if_pos e] at h
    cases h
    show Rn prog w A E s (if (m == nrem)=true then pure (some m) else _) _ _ _
    rw[if_pos (by rw[e];exact beq_self_eq_true _)]
    exact aZ
   ·rw[if_neg e] at h
    split at h
    ·rename_i k1
     split at h
     ·rename_i eb
      cases h
      show Rn prog w A E s (if (m == nrem)=true then pure (some m) else if m>1 then _ else _) _ _ _
      rw[if_neg (by rw[beq_iff_eq];exact e),if_pos k1]
      exact aL (qF hk eb) aZ
     ·cases h
    ·cases h
noncomputable def mvT(p:Array Nat)(src dst:Nat):Array Nat:=(Aj (src - dst)).foldl (fun a k=>a.swapIfInBounds (src - k) (src - k - 1)) p
theorem aOO{a:As}{src dst:Nat}:Rn prog w A E s (moveDown' src dst) (a.st κ it) PUnit.unit (As.st κ it { a with p:=mvT a.p src dst }):=by
 intro Q h
 refine Aa ?_
 have e:=kas_swaps_map (BL it) (fun k=>src - k) (fun k=>src - k - 1) (Aj (src - dst)) a.p
 unfold As.st mvT at h
 dsimp only at h
 rw[← e] at h
 exact h
noncomputable def plT(ak:Nat→Nat→Option Bool)(lo k:Nat):Nat→Nat→Nat→Option Nat
 | 0,l,_=>some l
 | f+1,l,r=>if l≥r then some l else match ak (lo+k) (lo+(l+r) / 2) with
  | none=>none
  | some true=>plT ak lo k f l ((l+r) / 2)
  | some false=>plT ak lo k f ((l+r) / 2+1) r
noncomputable def aNR(n:Nat)(lt:Nat→Nat→Bool)(lo:Nat):List Nat→Array Nat→Option (Array Nat)
 | [],p=>some p
 | k :: ks,p=>match plT (ask n lt p) lo k k 0 k with
  | none=>none
  | some l=>aNR n lt lo ks (mvT p (lo+k) (lo+l))
theorem aRZ(hk:qX prog w A s κ it n lt){lo m ok:Nat}{a:As}{p':Array Nat}(h:aNR n lt lo (Ck (max ok 1) (m - max ok 1)) a.p=some p'):Rn prog w A E s (binarySort' lo m ok) (a.st κ it) true (As.st κ it { a with p:=p' }):=by
 refine aL (a:=(none,())) (st1:=As.st κ it { a with p:=p' }) ?_ aZ
 rw[BP,show [max ok 1:m].size=m - max ok 1 by simp[Bu]]
 revert h
 show aNR n lt lo (Ck (max ok 1) (m - max ok 1)) a.p=some p'→Rn prog w A E s (forIn (Ck (max ok 1) (m - max ok 1) 1) _ _) _ _ _
 generalize Ck (max ok 1) (m - max ok 1) 1=ks
 intro h
 induction ks generalizing a with
 | nil=>cases h;exact aZ
 | cons k ks ih =>
  unfold aNR at h
  split at h
  ·cases h
  ·rename_i l el
   refine jY (b1:=(none,())) (st1:=As.st κ it { a with p:=mvT a.p (lo+k) (lo+l) }) ?_ (ih (a:={ a with p:=mvT a.p (lo+k) (lo+l) }) h)
   have gen:∀ (xs:List Nat) (l0 r0 l:Nat),plT (ask n lt a.p) lo k xs.length l0 r0=some l→∃ r,Rn prog w A E s (forIn xs ((none:Option Bool),l0,r0) fun x __s =>
     if __s.snd.fst≥__s.snd.snd then pure (Dg (none,__s.snd.fst,__s.snd.snd)) else (ltAt' (lo+k) (lo+(__s.snd.fst+__s.snd.snd) / 2)) >>= fun __x=>match __x with
      | some less=>if less=true then pure (BY (none,__s.snd.fst,(__s.snd.fst+__s.snd.snd) / 2)) else pure (BY (none,(__s.snd.fst+__s.snd.snd) / 2+1,__s.snd.snd))
      | x=>pure (Dg (some false,__s.snd.fst,__s.snd.snd))) (a.st κ it) (none,l,r) (a.st κ it):=by
    intro xs
    induction xs with
    | nil=>intro l0 r0 l e;cases e;exact⟨r0,aZ⟩
    | cons x xs ih =>
     intro l0 r0 l e
     rw[Af] at e
     unfold plT at e
     split at e
     ·rename_i hle
      cases e
      refine⟨r0,qG ?_⟩
      dsimp only
      rw[if_pos hle]
      exact aZ
     ·rename_i hle
      split at e
      ·cases e
      ·rename_i eb
       obtain⟨r,hr⟩:=ih _ _ _ e
       refine⟨r,jY ?_ hr⟩
       dsimp only
       rw[if_neg hle]
       exact aL (qF hk eb) aZ
      ·rename_i eb
       obtain⟨r,hr⟩:=ih _ _ _ e
       refine⟨r,jY ?_ hr⟩
       dsimp only
       rw[if_neg hle]
       exact aL (qF hk eb) aZ
   obtain⟨r,hr⟩:=gen (Ck 0 k) 0 k l (by rw[DN];exact el)
   refine aL (a:=(none,l,r)) (st1:=a.st κ it) ?_ (aL aOO aZ)
   rw[BP,show [:k].size=k by simp[Bu]]
   exact hr
noncomputable def dJ{γ:Type}(g:γ→Option (Bool×γ)):Nat→γ→Option γ
 | 0,c=>some c
 | f+1,c=>match g c with
  | none=>none
  | some (true,c')=>some c'
  | some (false,c')=>dJ g f c'
theorem aOP{γ β:Type}(φ:γ→β)(g:γ→Option (Bool×γ)){st:SortSt}{f:Nat→β→StateT SortSt Sem (ForInStep β)}(hd:∀ x c c',g c=some (true,c')→Rn prog w A E s (f x (φ c)) st (.done (φ c')) st)(hy:∀ x c c',g c=some (false,c')→Rn prog w A E s (f x (φ c)) st (.yield (φ c')) st) :
  ∀ (xs:List Nat) (c c':γ),dJ g xs.length c=some c'→Rn prog w A E s (forIn xs (φ c) f) st (φ c') st:=by
 intro xs
 induction xs with
 | nil=>intro c c' e;cases e;exact aZ
 | cons x xs ih =>
  intro c c' e
  rw[Af] at e
  unfold dJ at e
  split at e
  ·cases e
  ·rename_i eb
   cases e
   exact qG (hd _ _ _ eb)
  ·rename_i eb
   exact jY (hy _ _ _ eb) (ih _ _ e)
theorem vN{γ β:Type}(φ:γ→β)(g:γ→Option (Bool×γ)){st:SortSt}{f:Nat→β→StateT SortSt Sem (ForInStep β)}{m:Nat}{c c':γ}(h:dJ g m c=some c')(hd:∀ x c c',g c=some (true,c')→Rn prog w A E s (f x (φ c)) st (.done (φ c')) st)(hy:∀ x c c',g c=some (false,c')→Rn prog w A E s (f x (φ c)) st (.yield (φ c')) st) :
  Rn prog w A E s (forIn [:m] (φ c) f) st (φ c') st:=by
 rw[BP,show [:m].size=m by simp[Bu]]
 exact aOP φ g hd hy _ _ _ (by rw[DN];exact h)
noncomputable def aMD(bt:Nat→Option Bool)(pos:Nat→Nat)(c:Bool→Bool)(maxofs:Nat)(x:Nat×Nat):Option (Bool×Nat×Nat):=if x.2≥maxofs then some (true,x) else match bt (pos x.2) with
 | none=>none
 | some m=>if c m=true then some (true,x) else some (false,x.2,2*x.2+1)
noncomputable def bsG(bt:Nat→Option Bool)(x:Nat×Nat):Option (Bool×Nat×Nat):=if x.1≥x.2 then some (true,x) else match bt (x.1+(x.2 - x.1) / 2) with
 | none=>none
 | some m=>if m=true then some (false,x.1+(x.2 - x.1) / 2+1,x.2) else some (false,x.1,x.1+(x.2 - x.1) / 2)
noncomputable def aPV(bt:Nat→Option Bool)(m hint:Nat):Option Nat:=if bt hint=some true then
  match dJ (aMD bt (fun o=>hint+o) (fun b=>!b) (m - hint)) m (0,1) with
  | none=>none
  | some x=>(dJ (bsG bt) m (hint+x.1+1,hint+min x.2 (m - hint))).map (·.2)
 else none
noncomputable def aPW(bt:Nat→Option Bool)(m hint:Nat):Option Nat:=if bt hint=some false then
  match dJ (aMD bt (fun o=>hint - o) (fun b=>b) (hint+1)) m (0,1) with
  | none=>none
  | some x=>(dJ (bsG bt) m (hint+1 - min x.2 (hint+1),hint - x.1)).map (·.2)
 else none
noncomputable def bfR(n:Nat)(lt:Nat→Nat→Bool)(p:Array Nat)(key base i:Nat):Option Bool:=match p[base+i]? with
 | some x=>if x<n∧key<n then some (!lt key x) else none
 | none=>none
noncomputable def bfL(n:Nat)(lt:Nat→Nat→Bool)(p:Array Nat)(key base i:Nat):Option Bool:=match p[base+i]? with
 | some x=>if x<n∧key<n then some (lt x key) else none
 | none=>none
theorem aNS{p:Array Nat}{key base i:Nat}{b:Bool}(h:bfR n lt p key base i=some b):∃ x,p[base+i]?=some x∧x<n∧key<n∧b=!lt key x:=by
 unfold bfR at h
 split at h
 ·rename_i x e
  split at h
  ·rename_i hh
   exact⟨x,e,hh.1,hh.2,(BA h).symm⟩
  ·cases h
 ·cases h
theorem aNT{p:Array Nat}{key base i:Nat}{b:Bool}(h:bfL n lt p key base i=some b):∃ x,p[base+i]?=some x∧x<n∧key<n∧b=lt x key:=by
 unfold bfL at h
 split at h
 ·rename_i x e
  split at h
  ·rename_i hh
   exact⟨x,e,hh.1,hh.2,(BA h).symm⟩
  ·cases h
 ·cases h
structure Ml where
 res:Option (Array Nat)
 out:Array Nat
 ia:Nat
 ib:Nat
 ac:Nat
 bc:Nat
 deriving DecidableEq
noncomputable def aMG(n:Nat)(lt:Nat→Nat→Bool)(a b:Array Nat)(mg:Nat)(c:Ml):Option (Bool×Ml):=match b[c.ib]?,a[c.ia]? with
 | some y,some x=>if y<n∧x<n then
   if lt y x=true then
    (if (c.ib+1 == b.size)=true then some (true,⟨some (c.out.push y++a.extract c.ia++b.extract (c.ib+1)),c.out.push y,c.ia,c.ib+1,0,c.bc+1⟩)
    else if c.bc+1≥mg then none else some (false,⟨none,c.out.push y,c.ia,c.ib+1,0,c.bc+1⟩))
   else
    (if (c.ia+1+1 == a.size)=true then some (true,⟨some (c.out.push x++b.extract c.ib++a.extract (c.ia+1)),c.out.push x,c.ia+1,c.ib,c.ac+1,0⟩)
    else if c.ac+1≥mg then none else some (false,⟨none,c.out.push x,c.ia+1,c.ib,c.ac+1,0⟩))
  else none
 | _,_=>none
noncomputable def aOU(p:Array Nat)(sa:Nat)(q:Array Nat):Array Nat:=q.toList.zipIdx.foldl (fun a x=>a.setIfInBounds (sa+x.2) x.1) p
theorem aLJ{bt:Nat→Option Bool}{bey:Nat→StateT SortSt Sem (Option Bool)}{pos:Nat→Nat}{c:Bool→Bool}{mo m:Nat}{st:SortSt}{x:Nat×Nat}{f:Nat→Option (Option Nat)×Nat×Nat→StateT SortSt Sem (ForInStep (Option (Option Nat)×Nat×Nat))}(hb:∀ i r,bt i=some r→Rn prog w A E s (bey i) st (some r) st)(h:dJ (aMD bt pos c mo) m (0,1)=some x)
 (h1:∀ y z,z.2≥mo→f y (none,z)=pure (.done (none,z)))(h2:∀ y z,¬ z.2≥mo→∃ k,f y (none,z)=bey (pos z.2) >>= k∧(∀ b,c b=true→k (some b)=pure (.done (none,z)))∧∀ b,c b=false→k (some b)=pure (.yield (none,z.2,2*z.2+1))):Rn prog w A E s (forIn [:m] (none,0,1) f) st (none,x) st:=by
 refine vN (fun c=>((none:Option (Option Nat)),c)) _ h (fun y z z' e=>?_) (fun y z z' e=>?_)
 ·unfold aMD at e
  split at e
  ·rename_i hg
   cases e
   rw[h1 y z hg]
   exact aZ
  ·rename_i hg
   split at e
   ·cases e
   ·rename_i b eb
    obtain⟨k,e1,e2,e3⟩:=h2 y z hg
    split at e
    ·rename_i hc
     cases e
     rw[e1]
     exact aL (hb _ _ eb) (by rw[e2 b hc];exact aZ)
    ·cases e
 ·unfold aMD at e
  split at e
  ·cases e
  ·rename_i hg
   split at e
   ·cases e
   ·rename_i b eb
    obtain⟨k,e1,e2,e3⟩:=h2 y z hg
    split at e
    ·cases e
    ·rename_i hc
     cases e
     rw[e1]
     exact aL (hb _ _ eb) (by rw[e3 b (by simpa using hc)];exact aZ)
theorem aQS{bt:Nat→Option Bool}{bey:Nat→StateT SortSt Sem (Option Bool)}{m:Nat}{st:SortSt}{x0 x:Nat×Nat}{f:Nat→Option (Option Nat)×Nat×Nat→StateT SortSt Sem (ForInStep (Option (Option Nat)×Nat×Nat))}(hb:∀ i r,bt i=some r→Rn prog w A E s (bey i) st (some r) st)(h:dJ (bsG bt) m x0=some x)
 (h1:∀ y z,z.1≥z.2→f y (none,z)=pure (.done (none,z)))(h2:∀ y z,¬ z.1≥z.2→∃ k,f y (none,z)=bey (z.1+(z.2 - z.1) / 2) >>= k∧k (some true)=pure (.yield (none,z.1+(z.2 - z.1) / 2+1,z.2))∧k (some false)=pure (.yield (none,z.1,z.1+(z.2 - z.1) / 2))):Rn prog w A E s (forIn [:m] (none,x0) f) st (none,x) st:=by
 refine vN (fun c=>((none:Option (Option Nat)),c)) _ h (fun y z z' e=>?_) (fun y z z' e=>?_)
 ·unfold bsG at e
  split at e
  ·rename_i hg
   cases e
   rw[h1 y z hg]
   exact aZ
  ·split at e
   ·cases e
   ·split at e <;> cases e
 ·unfold bsG at e
  split at e
  ·cases e
  ·rename_i hg
   split at e
   ·cases e
   ·rename_i b eb
    obtain⟨k,e1,e2,e3⟩:=h2 y z hg
    cases b with
    | true =>
     cases e
     rw[e1]
     exact aL (hb _ _ eb) (by rw[e2];exact aZ)
    | false =>
     cases e
     rw[e1]
     exact aL (hb _ _ eb) (by rw[e3];exact aZ)
theorem aHR{α:Type}{m:StateT SortSt Sem α}{st st':SortSt}{r r':α}(h:Rn prog w A E s m st r st')(e:r=r'):Rn prog w A E s m st r' st':=e▸h
theorem yT{α:Type}{c:Prop}[Decidable c]{m1 m2:StateT SortSt Sem α}{st st':SortSt}{r:α}(hc:¬ c)(h:Rn prog w A E s m2 st r st'):Rn prog w A E s (if c then m1 else m2) st r st':=by
 rw[if_neg hc]
 exact h
theorem aHU(sa:Nat):∀ (l:List (Nat×Nat)) (p:Array Nat),(l.map fun x=>(BL it x.1,x.2)).foldl (fun a x=>a.setIfInBounds (sa+x.2) x.1) (p.map (BL it))=(l.foldl (fun a x=>a.setIfInBounds (sa+x.2) x.1) p).map (BL it)
 | [],p=>rfl
 | x :: l,p=>by
  rw[AX,Er,Er,← aHU sa l]
  congr 1
  simp
end
end L2
namespace L2
open PySem PySem.Spec PyProof.Rows PySem.W
section
variable{prog:Program}{w:World}{A:Around}{E:Value→Shared→Prop}{s:Shared}{κ:SortKind}{it:Array Keyed}{n:Nat}{lt:Nat→Nat→Bool}
end
end L2
namespace L2
open PySem PySem.Spec PyProof.Rows PySem.W
noncomputable def kLt(nss:List (List Int))(i j:Nat):Bool:=jP (nss.getD i []) (nss.getD j [])
def sN(nss:List (List Int))(π:Array Nat):Prop:=∀ (prog:Program) (w:World) (A:Around) (E:Value→Shared→Prop) (s:Shared) (κ:SortKind) (ks vs:List Value),ks.length=nss.length→vs.length=nss.length →
 qX prog w A s κ (ks.toArray.zip vs.toArray) nss.length (kLt nss)→wpAny (model prog w) A (sortRuns'.run (SortSt.mk' κ (ks.toArray.zip vs.toArray) #[] 7 none)) (fun r s'=>s'=s∧arrOf r.2=π.map (BL (ks.toArray.zip vs.toArray))∧failedOf r.2=none) E s
theorem jU{nss:List (List Int)}{π:Array Nat}(h:yF nss=some π)(h2:2≤nss.length)(h64:nss.length<64):sN nss π:=by
 intro prog w A E s κ ks vs l1 l2 hk
 refine kat_run (Q:=fun st' s'=>s'=s∧arrOf st'=π.map (BL (ks.toArray.zip vs.toArray))∧failedOf st'=none) (G:=fun p s'=>p=π∧s'=s) (by rw[l1,l2]) (by rw[l2];exact h2) (by rw[l2];exact h64) (fun p st' s' a1 a2 a3 a4=>⟨a4.2,by rw[← a4.1];exact a2,a3⟩) ?_
 rw[l2,kat_ask_eq (l1.trans l2.symm)]
 exact aCJ (n:=nss.length) (lt:=kLt nss) (fun i j C hi hj c=>hk i j C hi hj c) _ π (fun p s'=>p=π∧s'=s) h ⟨rfl,rfl⟩
structure Mrg (n:Nat) (lt:Nat→Nat→Bool) (p:Array Nat) where
 k:Nat
 nb:Nat
 x1:Nat
 x2:Nat
 y0:Nat
 c:Ml
 res:Array Nat
 e1:p[32]?=some x1
 g1:aPV (bfR n lt p x1 0) 32 0=some k
 n1:(32 - k == 0)=false
 e2:p[0+k+(32 - k) - 1]?=some x2
 g2:aPW (bfL n lt p x2 32) 32 (32 - 1)=some nb
 n2:(nb == 0)=false
 le:32 - k≤nb
 e3:(p.extract 32 (32+nb))[0]?=some y0
 z1:(1 == (p.extract 32 (32+nb)).size)=false
 z2:(0+1 == (p.extract (0+k) 32).size)=false
 h:dJ (aMG n lt (p.extract (0+k) 32) (p.extract 32 (32+nb)) 7) ((p.extract (0+k) 32).size+(p.extract 32 (32+nb)).size) ⟨none,#[y0],0,1,0,0⟩=some c
 hr:c.res=some res
 h1:1≤(p.extract (0+k) 32).size+(p.extract 32 (32+nb)).size
noncomputable def fB:List Nat:=[0,1,2,4,8,16,32,3,5,9,17,33,6,10,18,34,12,20,36,24,40,48,7,11,19,35,13,21,37,25,41,49,14,22,38,26,42,50,28,44,52,56,15,23,39,27,43,51,29,45,53,57,30,46,54,58,60,31,47,55,59,61,62,63]
end L2
namespace L2
open PySem PySem.Spec PyProof.Rows PySem.W
theorem jA{α β:Type}(f:α→β)(d:β):∀ (l:List α) (i:Nat),(l.map f).getD i d=match l[i]? with | some a=>f a | none=>d
 | [],i=>by simp
 | a :: l,0=>rfl
 | a :: l,i+1=>by simpa using jA f d l i
section
variable{X:Cx}{pins:List (Addr×Obj)}{σ:List (Option V)}{A:Around}{f:Addr}{P0:Hp→Prop}
theorem aMQ{M:Model}{h:Heap}{i:Int}{t:Tok}:Looks M h (typeOf (.int i t)) (.type "int"):=Looks.of_pure rfl
theorem aIQ{π:List Nat}{ps:List (Addr×List Int)}(h:∀ i∈π,i<ps.length):bF (π.map fun i=>(ps.map fun p=>V.ref p.1).getD i .non) (π.map fun i=>(ps.map fun p=>Ao p.1).getD i CA):=by
 induction π with
 | nil=>exact .nil
 | cons i π ih =>
  refine .cons ?_ (ih fun j m=>h j (AO _ m))
  have hi:=h i AQ
  show bM ((ps.map fun p=>V.ref p.1).getD i .non) ((ps.map fun p=>Ao p.1).getD i CA)
  rw[jA,jA,AC hi]
  rfl
theorem aIW{D kS:Addr}{e e1:Nat}{ps:List (Addr×List Int)}{ks:List Value}{H:Hp}{s:Shared}{π:Array Nat}{Q:VK}{E:Value→Shared→Prop}(hu:A.units+8<cLine)
 (I:Inv X ((kS,seqObj "list" ks.toArray e) :: (D,seqObj "list" #[] e1) :: pins) σ H s)(OD:Ours X H D)(OS:Ours X H kS)(nDS:D≠kS)(hpD:∀ p∈pins,p.1≠D)(hpS:∀ p∈pins,p.1≠kS)
 (it:jD H ps)(kt:eM H ks ps)(h2:2≤ps.length)(h64:ps.length≤1000)(hπ:sN (ps.map (·.2)) π)(hb:∀ i∈π.toList,i<ps.length)(hs:π.size=ps.length)
 (q:∀ H',aH H H'→H D=none→H' D=some (.lst (π.toList.map fun i=>(ps.map fun p=>V.ref p.1).getD i .non))→Q (.ref D) H') :
  wpAny (model X.prog X.w) A (ksk_end D false (ps.map fun p=>Ao p.1).toArray e1 (.ref kS) ks.toArray) (fun fin s'=>fin=.done (.ret .none)∧EP X pins σ Q (.ref D) s') E s:=by
 have hl:=kt.length
 have hn2:¬ (ps.map fun p=>Ao p.1).toArray.size<2:=by rw[AM,AA];omega
 unfold ksk_end
 dsimp only
 rw[if_neg AR,if_neg AR,if_neg hn2,if_neg hn2]
 obtain⟨fs,kf,lf,inf⟩:=zH I kt
 refine AK (kat_kind (T:=.type "int") kf (by omega) (fun v m=>by obtain⟨i,t,rfl⟩:=inf v m;exact aMQ) (by decide) ?_)
 have hT:(CM "int" != CM "tuple")=true:=by decide
 rw[hT]
 refine AK (BB (hπ X.prog X.w A E s _ ks (ps.map fun p=>Ao p.1) (by rw[AA];exact hl) (by rw[AA,AA]) fun i j C hi hj c=>?_) (fun r s' hr=>?_) fun _ _ x=>x)
 ·rw[AA] at hi hj
  obtain⟨t,p,k1,g1,e1'⟩:=kt.get i hi
  obtain⟨u,p',k2,g2,e2'⟩:=kt.get j hj
  rw[← kat_ask_eq (by rw[AA];exact hl)]
  unfold kas_ask
  rw[k1,k2]
  refine aSS I hu e1' e2' (it p (AG g1)) (it p' (AG g2)) ?_
  unfold kLt at c
  rw[jA,jA,g1,g2] at c
  exact c
 ·obtain⟨⟨⟩,st⟩:=r
  obtain⟨hs1,har,hf⟩:=hr
  rw[hs1]
  dsimp only
  have hout:=kat_snds (ks:=ks) (vs:=ps.map fun p=>Ao p.1) (by rw[AA];exact hl) har
  unfold ksk_tail
  dsimp only
  rw[hout]
  have pS:=I.pinAt
  have pD:=I.pinDrop.pinAt
  refine AK (El pS.1 rfl ?_ (by rw[AM,CD];omega) (BK _))
  refine AK (wpAny_letGo ?_)
  have gD:(s.heap.update kS (BI fun _=>(#[]:Array Value))).get? D=some (seqObj "list" #[] e1):=by rw[Ba _ _ (Ne.symm nDS)];exact pD.1
  refine AK (seqEpoch_at gD rfl ?_)
  have hz:(Co (π.toList.map fun i=>(ps.map fun p=>Ao p.1).getD i CA)).size=ps.length:=by rw[AM,AA,Bf,hs]
  refine AK (El gD rfl ?_ (BK _) (by rw[if_neg AR,hz,CD];omega))
  rw[hf]
  simp only[bne_self_eq_false,Bool.false_eq_true,if_false]
  refine Aa ⟨rfl,?_⟩
  have I1:=I.pinDrop.pinDrop
  have I2:=Inv.pins_of (pins':=(D,seqObj "list" #[] e1) :: pins) I fun p hp=>I.pin p (Ag _ (AO _ hp))
  have I3:Inv X ((D,seqObj "list" #[] e1) :: pins) σ H { s with heap:=s.heap.update kS (BI fun _=>(#[]:Array Value)),toks:=s.toks }:=by
   obtain⟨cS,hcS⟩:∃ c2,(s.heap.update kS (BI fun _=>(#[]:Array Value))).get? kS=some (seqObj "list" #[] c2):=⟨_,EG pS.1 fun _=>#[]⟩
   refine (Inv.turn (t':=s.toks) (o':=seqObj "list" #[] cS) I OS (fun p hp=>?_) (fun d u nd g=>by rw[Ba _ _ (Ne.symm nd)];exact g) hcS nR).pinDrop
   rcases AZ.mp hp with rfl | hp
   ·exact nDS
   ·exact hpS p hp
  obtain⟨c2,hc2⟩:∃ c2,((s.heap.update kS (BI fun _=>(#[]:Array Value))).update D (BI fun _=>Co (π.toList.map fun i=>(ps.map fun p=>Ao p.1).getD i CA))).get? D=some (seqObj "list" (Co (π.toList.map fun i=>(ps.map fun p=>Ao p.1).getD i CA)) c2):=⟨_,EG gD fun _=>_⟩
  have I4:=Inv.turn (t':=s.toks) (o':=seqObj "list" (Co (π.toList.map fun i=>(ps.map fun p=>Ao p.1).getD i CA)) c2) I3 OD hpD (fun d u nd g=>by rw[Ba _ _ (Ne.symm nd)];exact g) hc2 nR
  have I5:=Inv.track (u:=.lst (π.toList.map fun i=>(ps.map fun p=>V.ref p.1).getD i .non)) I4 OD hpD ⟨by rw[AA,Bf,hs,CD];omega,_,c2,aIQ hb,hc2⟩
  exact⟨.ref D,_,I5,rfl,q _ (fun b o e=>by rw[aI (aJ e OD.nt)];exact e) OD.nt aC⟩
end
end L2
namespace L2
open PySem PySem.Spec PyProof.Rows PySem.W
section
variable{X:Cx}{pins:List (Addr×Obj)}{σ:List (Option V)}{A:Around}{f:Addr}{P0:Hp→Prop}
theorem aIX{D kS:Addr}{e1:Nat}{ps:List (Addr×List Int)}{H:Hp}{s:Shared}{π:Array Nat}{Q:VK}{E:Value→Shared→Prop}(hu:A.units+8<cLine)(st0:∀ H H',aH H H'→P0 H→P0 H')(hk:aQJ X σ A f P0)
 (I:Inv X ((kS,seqObj "list" #[] 0) :: (D,seqObj "list" #[] e1) :: pins) σ H s)(OD:Ours X H D)(OS:Ours X H kS)(nDS:D≠kS)(hpD:∀ p∈pins,p.1≠D)(hpS:∀ p∈pins,p.1≠kS)
 (p0:P0 H)(it:jD H ps)(h2:2≤ps.length)(h64:ps.length≤1000)(hπ:sN (ps.map (·.2)) π)(hb:∀ i∈π.toList,i<ps.length)(hs:π.size=ps.length)
 (q:∀ H',aH H H'→H D=none→H' D=some (.lst (π.toList.map fun i=>(ps.map fun p=>V.ref p.1).getD i .non))→Q (.ref D) H') :
  wpAny (model X.prog X.w) A (ksk_rest D (.ref f) false (ps.map fun p=>Ao p.1).toArray e1 (.ref kS)) (fun fin s'=>fin=.done (.ret .none)∧EP X pins σ Q (.ref D) s') E s:=by
 unfold ksk_rest
 refine AK (wpAny_rule ?_)
 first
  | rw[List.forIn_toArray]
  | (rw[← Array.forIn_toList];simp only[List.toList_toArray])
  | rw[← Array.forIn_toList]
 refine AK (BB (zI (kS:=kS) (pins:=(D,seqObj "list" #[] e1) :: pins) st0 hk h64 (fun x ks s' C hx=>?_) ps [] [] 0 H s I OS (fun p hp=>?_) p0 it trivial (by simp)) (fun _ s' hd=>?_) fun _ _ x=>x)
 ·refine AK (Ek (BB hx (fun k s'' hk=>?_) fun _ _ hF=>hF.elim))
  try dsimp only
  exact AK (BB hk (fun _ s3 h3=>Aa ⟨rfl,k,h3⟩) fun _ _ z=>z.elim)
 ·rcases AZ.mp hp with rfl | hp
  ·exact nDS
  ·exact hpS p hp
 ·obtain⟨ks,e,H',I',S,kt⟩:=hd
  rw[Do] at kt
  try dsimp only
  refine AK (listItems_at I'.pinAt.1 rfl ?_)
  have pD:=I'.pinDrop.pinAt
  exact aIW hu I' ⟨pD.2,OD.loc,OD.nfs,OD.ab,OD.ncl,OD.npn⟩ ⟨I'.pinAt.2,OS.loc,OS.nfs,OS.ab,OS.ncl,OS.npn⟩ nDS hpD hpS (it.same S) kt h2 h64 hπ hb hs fun H2 S2 n2 e2=>q H2 (S.trans S2) OD.nt e2
theorem aDN{H:Hp}{s:Shared}(I:Inv X pins σ H s){b:Addr}(h:s.heap.objs.size≤b):∀ p∈pins,p.1≠b:=fun p hp z=>by
 have ho:=(I.pin p (Ag _ hp)).1
 exact absurd (AV ho) (by rw[z];exact Nat.not_lt.mpr h)
theorem aCX{l:Addr}{ps:List (Addr×List Int)}{H:Hp}{s:Shared}{π:Array Nat}{Q:VK}{E:Value→Shared→Prop}(hu:A.units+16<cLine)(st0:∀ H H',aH H H'→P0 H→P0 H')(hk:aQJ X σ A.in1.in1 f P0)
 (I:Inv X pins σ H s)(sq:SqL X.K H l (ps.map fun p=>V.ref p.1))(p0:P0 H)(it:jD H ps)(h2:2≤ps.length)(h64:ps.length≤1000)(hπ:sN (ps.map (·.2)) π)(hb:∀ i∈π.toList,i<ps.length)(hs:π.size=ps.length)
 (q:∀ (D:Addr) (H':Hp),aH H H'→H D=none→H' D=some (.lst (π.toList.map fun i=>(ps.map fun p=>V.ref p.1).getD i .non))→Q (.ref D) H') :
  wpAny (model X.prog X.w) A (call (.builtin "sorted") [.ref l] [("key",.ref f)]) (EP X pins σ Q) E s:=by
 obtain⟨its,rv,pl,hz⟩:=I.list sq
 have ei:its=ps.map fun p=>Ao p.1:=by
  clear sq hz pl hπ hb hs it p0 q h2 h64
  induction ps generalizing its with
  | nil=>cases rv;rfl
  | cons p ps ih =>
   cases rv with
   | cons a b =>
    cases a
    rw[AX,← ih _ b]
 subst ei
 have hlen:(ps.map fun p=>Ao p.1).length=ps.length:=AA ..
 refine call_function_entry_kw kind_sorted plain_sorted entry_sorted (ksk_s1 _ _) ?_
 unfold Builtin.«sorted»
 refine AK (m:=checkCount "sorted" 1 1 _) (Aa ?_)
 refine AK (collect_list pl.isList ?_ (by rw[hlen,CD];omega))
 refine AK (wpAny_newList ?_ (by rw[hlen,CD];omega))
 generalize hvs:(ps.map fun p=>Ao p.1)=vs at *
 have hsz:((s.heap.push (seqObj "list" #[] 0)).update s.heap.objs.size (BI (·++vs.toArray))).objs.size=s.heap.objs.size+1:=by
  rw[En,size_push']
 have hoL:(((s.heap.push (seqObj "list" #[] 0)).update s.heap.objs.size (BI (·++vs.toArray))).push (seqObj "list" vs.toArray 0)).get? (s.heap.objs.size+1)=some (seqObj "list" vs.toArray 0):=by
  rw[← hsz];exact Ah _ rfl
 have keep:∀ b o,s.heap.get? b=some o→(((s.heap.push (seqObj "list" #[] 0)).update s.heap.objs.size (BI (·++vs.toArray))).push (seqObj "list" vs.toArray 0)).get? b=some o:=fun b o q=>by
  have hlt:b<s.heap.objs.size:=AV q
  rw[Heap.get?_push_ne _ _ _ (by rw[hsz];exact Ae (DQ hlt)),Heap.get?_update_ne _ _ _ _ (Ae hlt),Heap.get?_push_ne _ _ _ (Ae hlt)]
  exact q
 show wpAny _ _ _ _ _ { s with heap:=((s.heap.push (seqObj "list" #[] 0)).update s.heap.objs.size (BI (·++vs.toArray))).push (seqObj "list" vs.toArray 0) }
 rw[hsz]
 have OD:Ours X H (s.heap.objs.size+1):=Ours.new I (Cc _)
 have hpD:=aDN I (Cc s.heap.objs.size)
 have I1:Inv X pins σ H { s with heap:=((s.heap.push (seqObj "list" #[] 0)).update s.heap.objs.size (BI (·++vs.toArray))).push (seqObj "list" vs.toArray 0),toks:=s.toks }:=I.kept keep
 have hs2:(((s.heap.push (seqObj "list" #[] 0)).update s.heap.objs.size (BI (·++vs.toArray))).push (seqObj "list" vs.toArray 0)).objs.size=s.heap.objs.size+2:=by rw[size_push',hsz]
 generalize hh:((s.heap.push (seqObj "list" #[] 0)).update s.heap.objs.size (BI (·++vs.toArray))).push (seqObj "list" vs.toArray 0)=h1 at *
 refine AK (CC (wpAny_call_entry_kw slot_list_sort ⟨_,hoL,rfl⟩ entry_list_sort ?_ (ksk_l1 _ _)))
 show wpAny (model X.prog X.w) A.in1.in1 (Builtin.«list.sort» ⟨[.ref (s.heap.objs.size+1)],[(Str.ofString "key",.ref f)]⟩) _ _ _
 rw[ksk_t1]
 unfold ksk_tree
 have I2:=Inv.pinAdd I1 hoL OD nR
 refine AK (listItems_at hoL rfl ?_)
 refine AK (El hoL rfl ?_ (by rw[AM,hlen,CD];omega) (BK _))
 obtain⟨e1,ho1⟩:∃ e1,(h1.update (s.heap.objs.size+1) (BI fun _=>(#[]:Array Value))).get? (s.heap.objs.size+1)=some (seqObj "list" #[] e1):=⟨_,EG hoL fun _=>#[]⟩
 have I3:=Inv.turn (t':=s.toks) I2 OD hpD (fun d u nd q=>by rw[Ba _ _ (Ne.symm nd)];exact q) ho1 nR
 refine AK (seqEpoch_at ho1 rfl ?_)
 refine AK (wpAny_newTuple ?_ (by show vs.length≤_;rw[hlen,CD];omega))
 refine AK (wpAny_newList ?_ (BK _))
 refine CC ?_
 have hs3:((h1.update (s.heap.objs.size+1) (BI fun _=>(#[]:Array Value))).push (seqObj "tuple" vs.toArray 0)).objs.size=s.heap.objs.size+3:=by rw[size_push',En,hs2]
 have k4:∀ b o,(h1.update (s.heap.objs.size+1) (BI fun _=>(#[]:Array Value))).get? b=some o→(((h1.update (s.heap.objs.size+1) (BI fun _=>(#[]:Array Value))).push (seqObj "tuple" vs.toArray 0)).push (seqObj "list" #[] 0)).get? b=some o:=fun b o e=>AJ _ (AJ _ e)
 have I4:Inv X ((s.heap.objs.size+1,seqObj "list" #[] e1) :: pins) σ H { s with heap:=((h1.update (s.heap.objs.size+1) (BI fun _=>(#[]:Array Value))).push (seqObj "tuple" vs.toArray 0)).push (seqObj "list" #[] 0),toks:=s.toks }:=I3.kept k4
 have gS:(((h1.update (s.heap.objs.size+1) (BI fun _=>(#[]:Array Value))).push (seqObj "tuple" vs.toArray 0)).push (seqObj "list" #[] 0)).get? (s.heap.objs.size+3)=some (seqObj "list" #[] 0):=by
  rw[← hs3];exact Ah _ rfl
 have OS:Ours X H (s.heap.objs.size+3):=Ours.new I (by omega)
 have I5:=Inv.pinAdd I4 gS OS nR
 rw[show ((h1.update (s.heap.objs.size+1) (BI fun _=>(#[]:Array Value))).push { cls:=.type "tuple",data:=.seq vs.toArray.toList.toArray }).objs.size=s.heap.objs.size+3 from by rw[size_push',En,hs2]]
 rw[← hvs] at I5 ⊢
 refine BB (aIX (D:=s.heap.objs.size+1) (kS:=s.heap.objs.size+3) (by show A.units+1+1+8<cLine;omega) st0 hk I5 OD OS (Ae (Nat.add_lt_add_left (by decide) _)) hpD (aDN I (Nat.le_add_right _ 3)) p0 it h2 h64 hπ hb hs (q _)) (fun fin s' hf=>?_) fun _ _ x=>x
 obtain⟨rfl,ep⟩:=hf
 exact⟨_,rfl,Aa ⟨_,rfl,ep⟩⟩
end
end L2
namespace L2
open PySem PySem.Spec PyProof.Rows
section
variable{X:Cx}
end
def aCH(nt:Nat)(u:TGs):Prop:=∀ vs σ H Q,u vs σ H Q→u vs σ H fun σ2 H2=>Q σ2 H2∧σ2.length=σ.length∧∀ i,nt≤i→σ2[i]?=σ[i]?
theorem wO{nt:Nat}:aCH nt aVG:=fun vs σ H Q ⟨e,q⟩=>⟨e,q,rfl,fun _ _=>rfl⟩
theorem fV{nt i:Nat}{u:TGs}(h:i<nt)(hu:aCH nt u):aCH nt (aQW (wQ i) u):=fun vs σ H Q ⟨v,r,e,q⟩=>by
 have q':=hu r (σ.set i (some v)) H Q q
 have ef:(fun (σ2:St) (H2:Hp)=>Q σ2 H2∧σ2.length=(σ.set i (some v)).length∧∀ j,nt≤j→σ2[j]?=(σ.set i (some v))[j]?)=(fun (σ2:St) (H2:Hp)=>Q σ2 H2∧σ2.length=σ.length∧∀ j,nt≤j→σ2[j]?=σ[j]?):=by
  funext σ2 H2
  rw[List.length_set]
  have:(∀ j,nt≤j→σ2[j]?=(σ.set i (some v))[j]?)=(∀ j,nt≤j→σ2[j]?=σ[j]?):=by
   refine propext ⟨fun h1 j hj=>?_,fun h1 j hj=>?_⟩
   ·rw[h1 j hj,CH (by omega)]
   ·rw[h1 j hj,CH (by omega)]
  rw[this]
 rw[ef] at q'
 exact⟨v,r,e,q'⟩
theorem zO{nt n:Nat}{K:AD}{u:TGs}(hu:aCH nt u):aEZ nt (aTB K n u):=fun x σ H Q ⟨a,xs,e,hq,hl,q⟩=>⟨a,xs,e,hq,hl,hu xs σ H Q q⟩
theorem aHW{X:Cx}{pos:Pos}{es:List Expr}{k:Nat}{t:TGs}{n:Nat}{K:AD}(e:X.K=K)(hc:X.calm=true)(h:PGs X es t)
 (hn:(DB es X.env).length=n:=by rfl)(hst:(DB es X.env).findIdx? (·.1)=none:=by rfl):PG X (.Tuple es k pos) (aTB K n t):=by subst e;exact rH hc h hn hst
end L2
namespace L2
open PySem PySem.Spec PyProof.Rows
theorem zV:BN "sum"=some (.builtin "sum"):=by decide +kernel
theorem mY{ns:List Int}{us:List Value}(h:IntsAre us ns):us.length=ns.length∧∀ (i:Nat) (v:Value),us[i]?=some v→∃ t,v=.int (ns.getD i 0) t:=by
 induction h with
 | nil=>exact⟨rfl,fun i v e=>by cases e⟩
 | cons n t r ih =>
  refine⟨by rw[Af,Af,ih.1],fun i v e=>?_⟩
  cases i with
  | zero=>cases e;exact⟨t,rfl⟩
  | succ i=>exact ih.2 i v e
theorem tD(ns:List Int):∀ n,n≤ns.length→preSum (fun i=>ns.getD i 0) n=(ns.take n).sum
 | 0,_=>by rw[Dy];rfl
 | n+1,h=>by
  have ih:=tD ns n (by omega)
  have e:ns.take (n+1)=ns.take n++[ns.getD n 0]:=by
   rw[AT,AC (by omega),Ad,AC (by omega)]
   rfl
  rw[e,List.sum_append,← ih]
  show preSum _ n+ns.getD n 0=_
  simp
section
variable{X:Cx}
theorem aES(hc:X.calm=true):gK X (.builtin "sum") (fun xs H Q=>∃ (p:Addr) (ns:List Int),xs=[.ref p]∧SqL X.K H p (ns.map V.int)∧Q (.int ns.sum) H):=by
 intro pins s σ H xs us Q I r h
 obtain⟨p,ns,rfl,hq,q⟩:=h
 obtain⟨u,rfl,ru⟩:=bF.one r
 cases ru
 obtain⟨its,rv,pl,hz⟩:=I.list hq
 have hb:=mY (wN rv)
 have hl:=pl.isList
 have hlt:p<s.heap.objs.size:=by obtain⟨_,e,_⟩:=hl;exact AV e
 refine call_sum_walkG (Cy hl ?_)
 refine⟨s.heap.objs.size,[s.heap.objs.size,p],[s.heap.objs.size],its.toArray.size,_,_,fun i=>ns.getD i 0,rfl,Walks.list (A:=X.A.in1) (I.ok.hd hc) _ p (Ae hlt) its.toArray,
  ⟨⟨_,Ah _ rfl,rfl,rfl⟩,hl.push _⟩,fun b hb'=>?_,fun i v hP=>hb.2 i v (by simpa using hP),fun h' tk t' hk=>?_⟩
 ·simp only[AZ,Bz,or_false] at hb'
  show b<(s.heap.push _).objs.size
  rw[show (s.heap.push _).objs.size=s.heap.objs.size+1 from Ep ..]
  rcases hb' with e | e
  ·rw[e];exact Cz _
  ·rw[e];exact DQ hlt
 ·have e:preSum (fun i=>ns.getD i 0) its.toArray.size=ns.sum:=by
   rw[tD _ _ (by rw[AM];omega),AE (by rw[AM];omega)]
  rw[e]
  exact⟨.int _,H,I.kept (LSm.kept_iter hk),⟨_,rfl⟩,q⟩
end
end L2
namespace L2
open PySem PySem.Spec PyProof.Rows
theorem aMS{prog:Program}{w:World}{A:Around}{E:Value→Shared→Prop}{s:Shared}{r:Addr}{Q:Bool→Shared→Prop}(hT:s.TypeIs (.ref r) "list_reverseiterator")(h:Q false s) :
  wpAny (model prog w) A (Builtin.List.listLengthHint (.ref r)) Q E s:=by
 unfold Builtin.List.listLengthHint
 refine AK (Ez hT (r:=none) (by rfl) ?_)
 dsimp only
 rw[if_neg (by decide),if_neg (by decide)]
 refine AK (Ez hT (r:=some (.builtin "list_reverseiterator.__length_hint__")) (by rfl) ?_)
 dsimp only
 rw[show splitId "list_reverseiterator.__length_hint__"=some ("list_reverseiterator","__length_hint__") from by decide +kernel]
 dsimp only
 refine AK (wpAny_isInstance hT (b:=true) (by rfl) ?_)
 rw[if_neg (by decide),if_pos (by decide +kernel),if_neg (by decide +kernel)]
 exact Aa h
theorem aGL{prog:Program}{w:World}{A:Around}{s:Shared}{R:Result→Shared→Prop}{I l:Addr}{items:Array Value}(hh:A.handled=none)(hI:s.heap.IsRevIter I l ((items.size:Int) - 1))(hl:s.heap.IsList l items)(hne:l≠I)(hn:items.size≤Ak)
 (S:Addr)(hSI:S≠I)(hSl:S≠l)(res:Value)(c₀:Nat)(hS:s.heap.get? S=some { cls:=.type "list",data:=.seq #[] c₀ })
 (hR:∀ (h':Heap) (tk:Nat) (acc':Array Value) (c':Nat),(∀ (b:Addr) (o:Obj),b≠S→b≠I→s.heap.get? b=some o→h'.get? b=some o)→h'.get? S=some { cls:=.type "list",data:=.seq acc' c' }→ItemsOf (fun i v=>items[items.size - 1 - i]?=some v) acc' items.size→R (.ok (.ret res)) { s with heap:=h',toks:=tk }) :
  wpAny (model prog w) A.in1 (Builtin.List.listExtendWith (.ref S) (.ref I) res) (fun fin s'=>match fin with | .done f=>R (.ok f) s' | .again c'=>c'.quiet=true∧codeAny (model prog w) A c' R s') (fun e s'=>R (.error e) s') s:=by
 have hT:s.TypeIs (.ref I) "list_reverseiterator":=hI.typeIs
 have hSf:¬ S∈[I,l]:=by simp[hSI,hSl]
 have W:=Walks.listRev (prog:=prog) (w:=w) (A:=A.in1) hh I l hne items
 have key:∀ (h:Heap) (c₁:Nat) (tk:Nat),(∀ (b:Addr) (o:Obj),b≠S→s.heap.get? b=some o→h.get? b=some o)→h.get? S=some { cls:=.type "list",data:=.seq #[] c₁ } →
   codeAny (model prog w) A (.builtin "list.extend.loop" { pos:=[.ref S,.ref I,res] }) R { s with heap:=h,toks:=tk }:=fun h c₁ tk hk hS₁=>by
  refine codeAny_extend_loopS W.toS hn S hSf res items.size 0 { s with heap:=h,toks:=tk } #[] c₁ rfl (BK _) ?_ hS₁ (ItemsOf.nil _) fun s' acc' c' hm hS' hacc=>?_
  ·refine⟨BK _,?_,?_⟩
   ·have:((items.size:Int) - 1 - ((0:Nat):Int))=(items.size:Int) - 1:=by omega
    rw[this]
    obtain⟨o,ho,r⟩:=hI
    exact⟨o,hk _ _ (Ne.symm hSI) ho,r⟩
   ·obtain⟨o,ho,r⟩:=hl
    exact⟨o,hk _ _ (Ne.symm hSl) ho,r⟩
  ·rw[Moved.eq_with hm]
   refine hR s'.heap s'.toks acc' c' (fun b o h1 h2 e=>hm.heap b o (fun hmem=>?_) (hk b o h1 e)) hS' hacc
   rcases AZ.mp hmem with e' | hmem
   ·exact h1 e'
   ·exact h2 (AL.mp hmem)
 unfold Builtin.List.listExtendWith
 refine AK (wpAny_typeOf hT ?_)
 have e0:Builtin.List.listSameRef (.ref S) (.ref I)=false:=by
  show (S == I)=false
  exact beq_eq_false_iff_ne.mpr hSI
 rw[e0,if_neg (by decide +kernel)]
 refine AK (wpAny_pyIter_revIter hI ?_)
 refine AK (CC (aMS hT ?_))
 have e0:s={ s with heap:=s.heap,toks:=s.toks }:=rfl
 refine wpAny_ite_split (fun _=>?_) (fun _=>?_)
 ·refine AK (wpAny_rule (AK ?_))
  unfold Builtin.List.listTouch
  refine AK (Ey hS rfl ?_)
  have hS₂:=Dt (BI fun x=>x.push CA) hS rfl
  refine Ey hS₂ rfl ?_
  have hS₃:=Dt (BI fun x=>x.pop) hS₂ rfl
  refine Aa ⟨Cl F.plain_extend_loop _,key _ _ _ (fun b o hb e=>?_) hS₃⟩
  rw[Ba _ _ (Ne.symm hb),Ba _ _ (Ne.symm hb)]
  exact e
 ·exact Aa ⟨Cl F.plain_extend_loop _,key s.heap c₀ s.toks (fun b o _ e=>e) hS⟩
theorem aMR{prog:Program}{w:World}{A:Around}{s:Shared}{R:Result→Shared→Prop}{I l:Addr}{items:Array Value}(hh:A.handled=none)(hI:s.heap.IsRevIter I l ((items.size:Int) - 1))(hl:s.heap.IsList l items)(hne:l≠I)(hn:items.size≤Ak)
 (S:Addr)(hSI:S≠I)(hSl:S≠l)(hS:s.heap.get? S=some { cls:=.type "list",data:=.seq #[] })
 (hR:∀ (h':Heap) (tk:Nat) (acc':Array Value) (c':Nat),(∀ (b:Addr) (o:Obj),b≠S→b≠I→s.heap.get? b=some o→h'.get? b=some o)→h'.get? S=some { cls:=.type "list",data:=.seq acc' c' }→ItemsOf (fun i v=>items[items.size - 1 - i]?=some v) acc' items.size→R (.ok (.ret .none)) { s with heap:=h',toks:=tk }) :
  wpAny (model prog w) A.in1 (Builtin.«list.__init__» { pos:=[.ref S,.ref I] }) (fun fin s'=>match fin with | .done f=>R (.ok f) s' | .again c'=>c'.quiet=true∧codeAny (model prog w) A c' R s') (fun e s'=>R (.error e) s') s:=by
 refine AK (AK (wpAny_seqItems hS rfl (Aa ?_)))
 refine AK (Ey hS rfl ?_)
 have hS₂:=Dt (BI fun x=>#[]) hS rfl
 have oth:∀ (b:Addr) (o:Obj),b≠S→s.heap.get? b=some o→(s.heap.update S (BI fun x=>#[])).get? b=some o:=fun b o hb e=>(Ba s.heap (BI fun x=>#[]) (Ne.symm hb)).trans e
 refine AK (wpAny_letGo ?_)
 refine aGL hh ?_ ?_ hne hn S hSI hSl .none _ hS₂ fun h' tk acc' c' hk hS' hacc=>hR h' tk acc' c' (fun b o h1 h2 e=>hk b o h1 h2 (oth b o h1 e)) hS' hacc
 ·obtain⟨o,ho,r⟩:=hI
  exact⟨o,oth _ _ (Ne.symm hSI) ho,r⟩
 ·obtain⟨o,ho,r⟩:=hl
  exact⟨o,oth _ _ (Ne.symm hSl) ho,r⟩
theorem aDZ{prog:Program}{w:World}{A:Around}{E:Value→Shared→Prop}{s:Shared}{Q:Value→Shared→Prop}{I l:Addr}{items:Array Value}(hh:A.handled=none)(hI:s.heap.IsRevIter I l ((items.size:Int) - 1))(hl:s.heap.IsList l items)(hne:l≠I)(hn:items.size≤Ak)
 (hQ:∀ (h':Heap) (tk:Nat) (acc':Array Value) (c':Nat),(∀ (b:Addr) (o:Obj),b≠I→s.heap.get? b=some o→h'.get? b=some o)→h'.get? s.heap.objs.size=some { cls:=.type "list",data:=.seq acc' c' }→ItemsOf (fun i v=>items[items.size - 1 - i]?=some v) acc' items.size→Q (.ref s.heap.objs.size) { s with heap:=h',toks:=tk }) :
  wpAny (model prog w) A (call (.type "list") [.ref I]) Q E s:=by
 have lI:I<s.heap.objs.size:=by obtain⟨_,e,_⟩:=hI;exact AV e
 have ll:l<s.heap.objs.size:=by obtain⟨_,e,_⟩:=hl;exact AV e
 refine callType_codes F.called_list (F.typeCall_list_1 (.ref I)) F.entry_list_init (code_list_new (.ref I) (Q₁:=fun o s₁=>o=.ref s.heap.objs.size∧s₁={ s with heap:=s.heap.push { cls:=.type "list",data:=.seq #[] } }) ⟨rfl,rfl⟩) fun obj s₁ h₁=>?_
 obtain⟨rfl,rfl⟩:=h₁
 have hS:=Ah (o:={ cls:=CM "list",data:=Data.seq #[] }) s.heap rfl
 refine⟨⟨_,hS,rfl⟩,F.args_list_init_2 _ _,?_⟩
 refine aMR (A:=A.in1) hh ?_ ?_ hne hn s.heap.objs.size (Ne.symm (Ae lI)) (Ne.symm (Ae ll)) hS fun h' tk acc' c' hk hS' hacc=>⟨rfl,?_⟩
 ·obtain⟨o,ho,r⟩:=hI
  exact⟨o,AJ _ ho,r⟩
 ·obtain⟨o,ho,r⟩:=hl
  exact⟨o,AJ _ ho,r⟩
 ·exact hQ h' tk acc' c' (fun b o h1 e=>hk b o (Ae (AV e)) h1 (AJ _ e)) hS' hacc
theorem xE:BN "reversed"=some (.type "reversed"):=by decide +kernel
section
variable{X:Cx}{e:Expr}{t:TA}{p1 p2:Pos}{pos1 pos2:Pos}
def aUM(K:AD):List V→Hp→VK→Prop:=fun xs H Q=>∃ p ys,xs=[.ref p]∧SqL K H p ys∧∀ l,H l=none→Q (.ref l) (upd H l (.lst ys.reverse))
theorem vS(hc:X.calm=true)(hg1:Gl X "list")(hm1:X.mg "list"=none)(hg2:Gl X "reversed")(hm2:X.mg "reversed"=none)(ha:PA X [e] t)
 (he1:Al [e] X.env=(false,eval e X.env) :: Al [] X.env:=by rfl)
 (he2:Al [.Call (.Name "reversed" p2) [e] [] pos2] X.env=(false,eval (.Call (.Name "reversed" p2) [e] [] pos2) X.env) :: Al [] X.env:=by rfl) :
  PE X (.Call (.Name "list" p1) [.Call (.Name "reversed" p2) [e] [] pos2] [] pos1) (tCB (aUM X.K) t):=by
 intro pins s σ H Q I h
 refine Bt (pH I hg1 hm1 dX ?_ (by decide) (by decide))
 refine CL ?_ he2 rfl
 rw[he2]
 show wpAny _ _ (spliced ((false,eval _ X.env) :: backTo pos1 (Al [] X.env))) _ _ s
 refine Calls.spliced_cons ?_
 refine Bt (pH I hg2 hm2 xE ?_ (by decide) (by decide))
 refine CL (thn (ha pos2 pins s σ H _ I h) fun us s1 ⟨vs,H1,I1,r1,q1⟩=>?_) he1 rfl
 obtain⟨p,ys,rfl,hq,q⟩:=q1
 obtain⟨u,rfl,ru⟩:=bF.one r1
 cases ru
 obtain⟨its,rv,pl,hz⟩:=I1.list hq
 have hl:=pl.isList
 have hlt:p<s1.heap.objs.size:=by obtain⟨_,e,_⟩:=hl;exact AV e
 refine call_reversed_list hl ?_
 refine Calls.spliced_nil ?_
 refine aDZ (l:=p) (items:=its.toArray) (I.ok.hd hc) ⟨_,Ah _ rfl,rfl,rfl⟩ ?_ (Ae hlt) (by rw[AM,← rv.length];exact hz) fun h' tk acc c hk hg hi=>?_
 ·obtain⟨o,ho,r⟩:=hl
  exact⟨o,AJ _ ho,r⟩
 have hk':∀ (b:Addr) (o:Obj),s1.heap.get? b=some o→h'.get? b=some o:=fun b o e=>hk b o (Ae (AV e)) (AJ _ e)
 have hge:s1.heap.objs.size≤(s1.heap.push (revObj p ((its.toArray.size:Int) - 1))).objs.size:=by
  rw[show (s1.heap.push (revObj p ((its.toArray.size:Int) - 1))).objs.size=s1.heap.objs.size+1 from Ep ..]
  exact Cc _
 refine⟨.ref _,_,I1.laid (t':=tk) hk' hge (show cE X.prog X.w _ h' _ (.lst ys.reverse) from⟨by rw[DE];exact hz,acc.toList,c,?_,by simpa using hg⟩),rfl,q _ (I1.hok.fresh hge)⟩
 have hlen:=rv.length
 have e0:acc.size=its.length:=by rw[hi.1,AM]
 refine uG (by rw[DE,Bf,e0,hlen]) fun j u x e1 e2=>?_
 have e3:=hi.2 j u (by rw[← CB];exact e1)
 have hj:j<ys.length:=by
  have:=(AB.mp e2).1
  rw[DE] at this
  exact this
 rw[List.getElem?_reverse hj] at e2
 have e4:its[ys.length - 1 - j]?=some u:=by
  have:its.toArray[its.toArray.size - 1 - j]?=some u:=e3
  rw[AM] at this
  rw[hlen]
  simpa using this
 obtain⟨u',e5,r5⟩:=rv.get e2
 rw[e4] at e5
 cases e5
 exact r5
end
end L2
namespace L2
open PySem PySem.Spec PyProof.Rows
theorem uR:∀ {ys:List Str} {us:List Value},bF (ys.map V.str) us→StrsAre us ys
 | [],us,r=>by
  rw[CO] at r
  cases r
  exact .nil
 | b :: bs,us,r=>by
  rw[AX] at r
  cases r with
  | cons r1 r2 =>
   obtain⟨t,rfl⟩:=r1
   exact .cons b t (uR r2)
section
variable{X:Cx}
theorem aPM:MtR X "str.join" (fun x vs H Q=>∃ z p ys,x=.str z∧vs=[.ref p]∧SqL X.K H p (ys.map V.str)∧(ys.map fun y=>y.length).sum+ys.length*z.length≤16777216∧Q (.str (Txt.join z ys)) H):=by
 intro pins s σ H x xs v us Q I rx r h
 obtain⟨z,p,ys,rfl,rfl,hq,hz,q⟩:=h
 obtain⟨t,rfl⟩:=rx
 obtain⟨u,rfl,ru⟩:=bF.one r
 cases ru
 obtain⟨its,rv,pl,hl⟩:=I.list hq
 exact join_list pl.isList (uR rv) hz fun t' k=>⟨.str _,H,I.tok k,⟨_,rfl⟩,q⟩
end
end L2
namespace L2
open PySem PySem.Spec PyProof.Rows
section
variable{X:Cx}
def tL(K:AD)(t:TE):TT:=fun σ H Q=>t σ H fun x H1=>∃ p xs,x=.ref p∧SqL K H1 p xs∧Q (!xs.isEmpty) H1
theorem aFN{e:Expr}{t:TE}(h:PE X e t)(he:∀ whole,isTrue e X.env whole=(do let v ← whole;standAt e.pos;holding [v] (truthy v)):=by intro _;rfl):PT X e (tL X.K t):=by
 intro pins s σ H Q I hw
 refine isTrue_plain (thn (h pins s σ H _ I hw) fun v s1 ⟨x,H1,I1,r1,q1⟩=>?_) (he _)
 obtain⟨p,xs,rfl,hq,q⟩:=q1
 cases r1
 obtain⟨its,rv,pl,hz⟩:=I1.list hq
 have hlen:=rv.length
 refine wpAny_truthy_list pl.isList ?_ ?_
 ·have:(Ak:Nat)<2 ^ 63:=by decide
  rw[AM]
  omega
 ·have e:its.toArray.isEmpty=xs.isEmpty:=by
   cases xs with
   | nil=>cases rv;rfl
   | cons x r=>cases rv;rfl
  rw[e]
  exact⟨H1,I1.tok _,q⟩
end
end L2
namespace L2
open PySem PySem.Spec PyProof.Rows
section
variable{prog:Program}{w:World}{A:Around}{R:Result→Shared→Prop}{I S:Addr}{fp wr:List Addr}{n:Nat}{P:Nat→Value→Prop}{St:Nat→Heap→Prop}
end
section
variable{prog:Program}{w:World}{A:Around}{E:Value→Shared→Prop}{s:Shared}
end
section
variable{X:Cx}
theorem aEA(f:Nat→Int):∀ k,argBest (fun i j=>decide (f i<f j)) k≤k∧∀ j≤k,f (argBest (fun i j=>decide (f i<f j)) k)≤f j
 | 0=>⟨AS _,fun j h=>by rw[Nat.le_zero.mp h];exact ED _⟩
 | k+1=>by
  obtain⟨a1,a2⟩:=aEA f k
  unfold argBest
  by_cases q:f (k+1)<f (argBest (fun i j=>decide (f i<f j)) k)
  ·rw[if_pos (decide_eq_true q)]
   exact⟨AS _,fun j m=>by
    by_cases e:j=k+1
    ·rw[e];exact ED _
    ·have:=a2 j (by omega)
     omega⟩
  ·rw[if_neg (by rw[decide_eq_true_eq];exact q)]
   exact⟨by omega,fun j m=>by
    by_cases e:j=k+1
    ·rw[e];omega
    ·exact a2 j (by omega)⟩
end
end L2
namespace L2
open PySem PySem.Spec PyProof.Rows
noncomputable def Itd(d:Addr)(o:Obj)(kvs:List (Key×V)):It :=
 ⟨fun i H=>H d=some (.frz o (.dK kvs))∧i<kvs.length,fun i H x H'=>H'=H∧∃ kv,kvs[i]?=some kv∧x=kV kv.1,fun i H=>H d=some (.frz o (.dK kvs))∧kvs.length≤i⟩
theorem xY{P:Program}{w:World}{K:AD}{tg:Expr}{d it:Addr}{o:Obj}{kvs:List (Key×V)}{vs:List (Key×Value)}{ep:Nat}{h0:Heap}(kv:KV kvs vs)(hd0:h0.get? d=some o)(hat:h0.DictAt (aX P w) d vs ep) :
  Turn P w K tg (Itd d o kvs) [it] it (fun i h=>h.IsKeyIter it d i vs.length ep) where
 mem:=by simp
 obj:=fun i h st b hb=>by
  have e:b=it:=by simpa using hb
  subst e
  obtain⟨ob,e,c,dd⟩:=st
  exact⟨ob,e,fun v z=>by rw[dd] at z;cases z⟩
 keep:=fun i h h' st k=>st.at fun ob e=>k it (by simp) ob e
 item:=by
  intro X hP hw hK hc i pins s σ H E I hf st hg
  subst hP hw hK
  obtain⟨hH,hi⟩:=hg
  obtain⟨f0,f1,f2,f3,f4,f5⟩:=hf it (by simp)
  have hget:s.heap.get? d=some o:=(show cE X.prog X.w H s.heap d (.frz o (.dK kvs)) from I.hok d _ hH).1
  have hat':=hat.at' (h':=s.heap) fun ob e=>by rw[hd0] at e;cases e;exact hget
  have hl:=KV.length kv
  obtain⟨⟨k,v⟩,hx⟩:∃ p,vs[i]?=some p:=⟨_,AC (by omega)⟩
  obtain⟨q,eq,e1,e2⟩:=KV.get kv hx
  refine wpAny_pyNext_dict_item st hat' hx fun key h' hkey st' sb=>?_
  have I1:Inv X pins σ H { s with heap:=h' }:=I.turned (t':=s.toks) (fun b ob hb e=>(sb.2 b hb).trans e) f0 f1 f3 f4 f5
  obtain⟨ob,e,c,dd⟩:=id st'
  refine⟨key,rfl,aIE (s:={ s with heap:=h' }) e c dd (by decide) ⟨kV q.1,H,I1,?_,⟨rfl,q,eq,rfl⟩,st',fun b hb=>(hf b hb).1⟩⟩
  rw[show q.1=k from e1]
  exact zK hkey
 done:=by
  intro X hP hw hK hc i pins s σ H E I hf st hg
  subst hP hw hK
  obtain⟨hH,hi⟩:=hg
  obtain⟨f0,f1,f2,f3,f4,f5⟩:=hf it (by simp)
  have hget:s.heap.get? d=some o:=(show cE X.prog X.w H s.heap d (.frz o (.dK kvs)) from I.hok d _ hH).1
  have hat':=hat.at' (h':=s.heap) fun ob e=>by rw[hd0] at e;cases e;exact hget
  have hl:=KV.length kv
  exact wpAny_pyNext_dict_end (I.ok.hd hc) st hat' (CU (by omega)) fun h' eb=>⟨rfl,I.turned (t':=s.toks) (fun b ob hb e=>eb b ob hb e) f0 f1 f3 f4 f5⟩
 self:=fun _ _ _ _ _ st h=>wpAny_pyIter_keyiter st h
section
variable{X:Cx}{tg:Expr}
def aVF(td:TE):TI:=fun σ H R=>td σ H fun x H1=>∃ d kvs,x=.ref d∧H1 d=some (.dK kvs)∧∀ o,R (Itd d o kvs) (upd H1 d (.frz o (.dK kvs)))
theorem aBF{l:Expr}{tl:TE}(hl:PE X l tl):PI X tg l (aVF tl):=by
 intro pins s σ H R I h
 refine thn (hl pins s σ H _ I h) fun v s1 ⟨x,H1,I1,r1,q1⟩=>?_
 obtain⟨d,kvs,e,hH,q⟩:=q1
 subst e
 cases r1
 have hok:=I1.hok d _ hH
 obtain⟨hz,lo,vs,kv,hD⟩:=id hok
 obtain⟨ep,hat⟩:=hD.dictAt
 obtain⟨o,es,ho,_⟩:=id hat
 refine wpAny_pyIter_dict lo hat ?_
 have I2:Inv X pins σ (upd H1 d (.frz o (.dK kvs))) s1:=I1.write (x:=d) (e:=d) (o:=.frz o (.dK kvs)) (h':=s1.heap) (t':=s1.toks) (by rw[hH];exact trivial) (.inl rfl) (fun _ _ _ q=>q) ⟨o,ho⟩ ⟨ho,hz,lo,vs,kv,hD⟩
 refine⟨s1.heap.objs.size,[s1.heap.objs.size],_,_,upd H1 d (.frz o (.dK kvs)),rfl,I2.kept (t':=s1.toks) fun b ob e=>AJ _ e,xY kv ho hat,⟨_,Ah _ rfl,rfl,rfl⟩,fun b hb=>?_,q o⟩
 have e:b=s1.heap.objs.size:=by simpa using hb
 subst e
 exact I2.fpOk (AS _) (I2.hok.fresh (AS _))
theorem sJ{d:Addr}{o:Obj}{kvs:List (Key×V)}{σb:St}{g:TG}{tt:TT}{te:TE}{fin:List V→Hp→Prop}{H:Hp}(hz:kvs.length≤Ak)(Pv:Nat→List V→Hp→Prop)(h0:Pv 0 [] H)
 (hl:∀ i ys H,i≤kvs.length→Pv i ys H→H d=some (.frz o (.dK kvs))∧ys.length≤i)
 (hs:∀ i kv ys H (K:VK) (K':Hp→Prop),kvs[i]?=some kv→Pv i ys H→(∀ y H4,Pv (i+1) (ys++[y]) H4→K y H4)→(∀ H3,Pv (i+1) ys H3→K' H3) →
   g (kV kv.1) σb H fun σ2 H2=>tt σ2 H2 fun b H3=>if b=true then te σ2 H3 K else K' H3)
 (hd:∀ ys H,Pv kvs.length ys H→fin ys H):∃ W:CW,(∃ m,W 0 m [] H)∧∀ i m ys H,W i m ys H→xZ σb (Itd d o kvs) g tt te W fin i m ys H:=by
 refine⟨fun i m ys H=>m=kvs.length - i∧i≤kvs.length∧Pv i ys H,⟨kvs.length,by simp,BK _,h0⟩,?_⟩
 rintro i m ys H ⟨rfl,hi,p⟩
 obtain⟨q,ql⟩:=hl i ys H hi p
 by_cases hlt:i<kvs.length
 ·refine .inr ⟨⟨q,hlt⟩,by omega,fun x H' y=>?_⟩
  obtain⟨e,kv,ek,ex⟩:=y
  subst e ex
  exact hs i kv ys _ _ _ ek p (fun y H4 q=>⟨kvs.length - (i+1),by omega,rfl,hlt,q⟩) fun H3 q=>⟨kvs.length - (i+1),by omega,rfl,hlt,q⟩
 ·have e:i=kvs.length:=by omega
  subst e
  exact .inl ⟨⟨q,AS _⟩,hd ys H p⟩
end
end L2
namespace L2
open PySem PySem.Spec PyProof.Rows
section
variable{X:Cx}
theorem aMX{d:Addr}{o:Obj}{kvs:List (Key×V)}{g:TG}{tb:TS}{D:Ends}{σ:St}{H:Hp}(Pv:Nat→St→Hp→Prop)(h0:Pv 0 σ H)(hl:∀ i σ H,i≤kvs.length→Pv i σ H→H d=some (.frz o (.dK kvs)))
 (hs:∀ i kv σ H,kvs[i]?=some kv→Pv i σ H→g (kV kv.1) σ H fun σ2 H2=>tb { D with nx:=Pv (i+1),ct:=Pv (i+1),bk:=D.nx } σ2 H2)(hd:∀ σ H,Pv kvs.length σ H→D.nx σ H) :
  ∃ W:Nat→Nat→St→Hp→Prop,(∃ m,W 0 m σ H)∧∀ i m σ H,W i m σ H →
   ((Itd d o kvs).stop i H∧D.nx σ H)∨((Itd d o kvs).go i H∧∃ N:St→Hp→Prop,(∀ σ' H',N σ' H'→∃ m',m'<m∧W (i+1) m' σ' H')∧∀ x H',(Itd d o kvs).yld i H x H'→g x σ H' fun σ2 H2=>tb { D with nx:=N,ct:=N,bk:=D.nx } σ2 H2):=by
 refine⟨fun i m σ H=>m+i=kvs.length∧Pv i σ H,⟨kvs.length,rfl,h0⟩,?_⟩
 intro i m σ H hw
 obtain⟨hm,pv⟩:=hw
 have at_:=hl i σ H (by omega) pv
 rcases Nat.lt_or_ge i kvs.length with lt | ge
 ·refine .inr ⟨⟨at_,lt⟩,Pv (i+1),(fun σ' H' p'=>⟨kvs.length - (i+1),by omega,by omega,p'⟩),fun x H' y=>?_⟩
  obtain⟨eH,kv,ek,ex⟩:=y
  subst eH ex
  exact hs i kv σ _ ek pv
 ·have ei:i=kvs.length:=by omega
  subst ei
  exact .inl ⟨⟨at_,AS _⟩,hd σ H pv⟩
end
end L2
namespace L2
open PySem PySem.Spec PyProof.Rows PySem.W
section
variable{P:Program}{w:World}{K:AD}{mg:Str→Option Value}{base:Heap}
theorem Fun.okC{x qual:Str}{st:Stmt}{f:Addr}{fd:Bb}{N ps:List Str}{k:Nat}{sp:Sp}{c:Addr}(F:Fun K x qual st f fd)(hc:fd.code=.ref c)(S:FnScope N ps (aF st))(len:∀ vs H Q E,sp vs H Q E→vs.length=ps.length)
 (hbody:∀ (A:Around) (outer:List Env) (s:Shared) (H:Hp) (vs:List V) (Q:VK) (E:XK),Room k (A.deeper (envOfC qual (aF st) s.heap.objs.size f (.ref c)))→sp vs H Q E →
   ∃ t,PSs (gZ CX0 P w K mg base N qual (aF st) f (.ref c) A outer s H E).nox (cQ st) t∧t { nx:=fun _ H'=>Q .non H',rt:=Q } (start N vs) H):FnOk P w K mg base CX0 (k+1) f fd ps sp:=by
 obtain⟨oc,od,kV,doc,pm,an,cdv,ct,osl,rfl,lk,hcd⟩:=F.ex
 obtain rfl:cdv=.ref c:=hc
 refine aMY lk hcd S len fun A outer s H vs Q E hr hsp=>?_
 obtain⟨t,h,q⟩:=hbody A outer s H vs Q E hr hsp
 exact⟨t,h.nox,q⟩
end
section
variable{X:Cx}{T:Addr}{qual:Str}{params:DT}{body e:Expr}{scope:Scope}{p pos lp kp:Pos}{te tb:TE}
def aRD(T:Addr)(lp:Pos)(qual:Str)(te:TE):TE:=fun σ H Q=>te σ H fun x H1=>∃ (l:Addr) (ps:List (Addr×List Int)) (π:Array Nat),x=.ref l∧H1 l=some (.lst (ps.map fun p=>V.ref p.1))∧jD H1 ps∧2≤ps.length∧ps.length≤1000 ∧
 sN (ps.map (·.2)) π∧(∀ i∈π.toList,i<ps.length)∧π.size=ps.length∧lU T lp qual H1 ∧
 ∀ (D:Addr) (H2:Hp),eC T H1 H2→lU T lp qual H2→H2 D=some (.lst (π.toList.map fun i=>(ps.map fun p=>V.ref p.1).getD i .non))→Q (.ref D) H2
def aTS(tb:TE):Prop:=∀ (a:Addr) (ns:List Int) (H:Hp) (Q:VK),H a=some (.lst (ns.map V.int))→(∀ (t:Addr) (H':Hp),aH H H'→H' t=some (.tup [.int ns.length,.ref a])→Q (.ref t) H')→tb [some (.ref a)] H Q
theorem aPP{k:Nat}{σ:List (Option V)}{f c':Addr}{y:Str}(hr:Room (k+3) X.A)(S:FnScope [y] [y] scope)(hbind:∀ (pm cdv ct u:Value),EV (kla_fn "<lambda>" qual params body scope [] pm cdv ct) ⟨[u],[]⟩=pure [(y,u)])
 (hbody:∀ (f:Addr) (cdv:Value) (A:Around) (outer:List Env) (s:Shared) (H:Hp),PE (gZ CX0 X.prog X.w X.K X.mg X.base [y] qual scope f cdv A outer s H E0).nox body tb)(kb:aTS tb) :
  aQJ X σ X.A.in1.in1 f (fun H=>H f=some (uE "<lambda>" qual params body scope c' f)∧H c'=some (oT qual c')):=by
 intro pins s H a ns I ⟨ef,ec⟩ ea
 obtain⟨⟨pm,ctv,gf⟩,_⟩:=I.hok f _ ef
 obtain⟨rc,_⟩:=I.hok c' _ ec
 refine DU (CY (aML (k:=k) (N:=[y]) (ps:=[y]) (us:=[.ref a]) (vs:=[.ref a]) (Q:=fun v H'=>∃ t,v=.ref t∧aH H H'∧H' t=some (.tup [.int ns.length,.ref a])) hr.in1.in1 I.env0.in1.in1 gf rfl rc S (.of_eq (hbind _ _ _ _)) (.cons rfl .nil) rfl
  fun _=>⟨tb,hbody _ _ _ _ _ _,kb a ns H _ ea fun t H' S' e'=>⟨t,rfl,S',e'⟩⟩) fun r s' hq=>?_)
 cases r with
 | error e=>exact hq.elim
 | ok fl =>
  cases fl with
  | ret u =>
   obtain⟨v,H',I',rv,t,rfl,S',e'⟩:=I.after hq
   cases rv
   exact⟨t,H',I',rfl,S',e'⟩
  | next=>exact BH hq
  | brk=>exact BH hq
  | cont=>exact BH hq
theorem aLU{k:Nat}{y:Str}(hr:Room (k+3) X.A)(hg:Gl X "sorted")(hm:X.mg "sorted"=none)(he:PE X e te)(hlam:PE X (.Lambda params body scope lp) (aUD T lp qual params body scope))(S:FnScope [y] [y] scope)
 (hbind:∀ (pm cdv ct u:Value),EV (kla_fn "<lambda>" qual params body scope [] pm cdv ct) ⟨[u],[]⟩=pure [(y,u)])
 (hbody:∀ (f:Addr) (cdv:Value) (A:Around) (outer:List Env) (s:Shared) (H:Hp),PE (gZ CX0 X.prog X.w X.K X.mg X.base [y] qual scope f cdv A outer s H E0).nox body tb)(kb:aTS tb)
 (hs:Al [e] X.env=(false,eval e X.env) :: Al [] X.env:=by rfl)(hpl:(backTo pos (Al [e] X.env)).any (·.1)=false:=by rfl) :
  PE X (.Call (.Name "sorted" p) [e] [⟨some "key",.Lambda params body scope lp,kp⟩] pos) (aRD T lp qual te):=by
 intro pins s σ H Q I h
 refine Bt (pH I hg hm aCF ?_ (by decide) (by decide))
 have hp2:((backTo pos (Al [e] X.env)).any (·.1) || (DJ pos (CS [⟨some "key",.Lambda params body scope lp,kp⟩] X.env)).any (·.1.isNone))=false:=by rw[hpl];rfl
 refine PySem.W.callWith_of (P:=fun _=>True) hp2 (fun h _=>⟨.machine,.inr (.inl rfl),Cw.of_pure rfl⟩) (evalArgs_kw2 rfl ?_ hs)
 refine thn (show wpAny _ _ _ _ _ s from BB (aA he aB hs pos pins s σ H (fun vs H1=>∃ x,vs=[x]∧∃ (l:Addr) (ps:List (Addr×List Int)) (π:Array Nat),x=.ref l∧H1 l=some (.lst (ps.map fun p=>V.ref p.1))∧jD H1 ps∧2≤ps.length∧ps.length≤1000 ∧
  sN (ps.map (·.2)) π∧(∀ i∈π.toList,i<ps.length)∧π.size=ps.length∧lU T lp qual H1 ∧
  ∀ (D:Addr) (H2:Hp),eC T H1 H2→lU T lp qual H2→H2 D=some (.lst (π.toList.map fun i=>(ps.map fun p=>V.ref p.1).getD i .non))→Q (.ref D) H2) I ?_) (fun _ _ z=>z) fun _ _ z=>z) fun us s1 ⟨vs,H1,I1,r,x,e1,l,ps,π,e2,hl,it,h2,h64,hπ,hb,hz,tb0,q⟩=>?_
 ·show te σ H fun x H1=>∃ x',[x]=[x']∧_
  have hmono:∀ (R1 R2:VK),(∀ x H1,R1 x H1→R2 x H1)→R1=R1→True:=fun _ _ _ _=>trivial
  have ee:(fun (x:V) (H1:Hp)=>∃ x',[x]=[x']∧∃ (l:Addr) (ps:List (Addr×List Int)) (π:Array Nat),x'=.ref l∧H1 l=some (.lst (ps.map fun p=>V.ref p.1))∧jD H1 ps∧2≤ps.length∧ps.length≤1000 ∧
   sN (ps.map (·.2)) π∧(∀ i∈π.toList,i<ps.length)∧π.size=ps.length∧lU T lp qual H1 ∧
   ∀ (D:Addr) (H2:Hp),eC T H1 H2→lU T lp qual H2→H2 D=some (.lst (π.toList.map fun i=>(ps.map fun p=>V.ref p.1).getD i .non))→Q (.ref D) H2) =
   (fun (x:V) (H1:Hp)=>∃ (l:Addr) (ps:List (Addr×List Int)) (π:Array Nat),x=.ref l∧H1 l=some (.lst (ps.map fun p=>V.ref p.1))∧jD H1 ps∧2≤ps.length∧ps.length≤1000 ∧
   sN (ps.map (·.2)) π∧(∀ i∈π.toList,i<ps.length)∧π.size=ps.length∧lU T lp qual H1 ∧
   ∀ (D:Addr) (H2:Hp),eC T H1 H2→lU T lp qual H2→H2 D=some (.lst (π.toList.map fun i=>(ps.map fun p=>V.ref p.1).getD i .non))→Q (.ref D) H2):=by
   funext x H1
   refine propext ⟨fun⟨x',a,b⟩=>?_,fun b=>⟨x,rfl,b⟩⟩
   cases a
   exact b
  rw[ee]
  exact h
 subst e1 e2
 obtain⟨u,rfl,ru⟩:=bF.one r
 cases ru
 have eT:l≠T:=fun z=>by
  obtain⟨qs,g,_⟩:=tb0
  rw[z,g] at hl
  cases hl
 have nT:∀ p∈ps,p.1≠T:=fun p m z=>by
  obtain⟨qs,g,_⟩:=tb0
  have:=it p m
  rw[z,g] at this
  cases this
 refine thn (aOY (nm:=some "key") (kpos:=kp) hlam aSC pos pins s1 σ H1 (fun vs H2=>∃ f c',vs=[.ref f]∧eC T H1 H2∧lU T lp qual H2∧H2 c'=some (oT qual c')∧H2 f=some (uE "<lambda>" qual params body scope c' f)) I1 ⟨tb0,fun f c' H' a b c d=>⟨f,c',rfl,a,b,c,d⟩⟩) fun ws s2 ⟨vs,H2,I2,r2,f,c',e1,K2,T2,ec,ef⟩=>⟨trivial,?_⟩
 subst e1
 obtain⟨ud,rfl,rd⟩:=bF.one r2
 cases rd
 show wpAny _ _ (call (.builtin "sorted") [.ref l] [("key",.ref f)]) _ _ s2
 refine aCX (P0:=fun H=>H f=some (uE "<lambda>" qual params body scope c' f)∧H c'=some (oT qual c')) (by have:=hr.un;omega) (fun _ _ Sm a=>⟨Sm _ _ a.1,Sm _ _ a.2⟩) (aPP hr S hbind hbody kb) I2 (SqL.of (K2 _ _ eT hl)) ⟨ef,ec⟩ (fun p m=>K2 _ _ (nT p m) (it p m)) h2 h64 hπ hb hz fun D H3 S3 _ eD=>?_
 exact q D H3 (K2.trans fun b o _ e=>S3 b o e) (T2.keep S3) eD
end
end L2
namespace L2
open PySem PySem.Spec PyProof.Rows PySem.W
def aAL(K:AD)(T:Addr):Sp:=fun vs H Q _=>∃ x,vs=[x]∧∃ (a:Addr) (ns:List Int),x=.ref a∧SqL K H a (ns.map V.int)∧ns.length≤63∧H T=some (.tbl #[])∧∀ H',Q (.bl true) H'
theorem aJQ{P:Program}{w:World}{K:AD}{mg mb:Str→Option Value}{k:Nat}{fa a c T:Addr}{fd:Bb}{x y:Str}{s₁:Shared}{vs:List Value}{ns:List Int}{p:Program}{loose:List Str}{mean:ExcName→Option Value}
 (KX:K.In s₁.heap)(G:Top p loose mean mg mb s₁.heap)(hg:s₁.gens=#[])
 (ha:s₁.heap.get? a=some { cls:=.type "list",data:=.seq vs.toArray })(hi:IntsAre vs ns)(hl:ns.length≤63)(hr:Room k callerA)
 (hT:s₁.heap.get? T=some (tabObj #[]))(hC:CodeHd s₁.heap c T)(hKT:K.lookup T=none)(ht:tabIn K y=some (c,T))
 (F:∀ base:Heap,K.In base→base.Ns Bv mg→TabB K mg base y c T→FnOk P w K mg base CX0 k fa fd [x] (aAL K T))(hbind:∀ (s:Shared) (u:Value),BindsTo s fd ⟨[u],[]⟩ [(x,u)]) :
  codeAny (model P w) callerA (.call (.ref fa) ⟨[.ref a],[]⟩) (fun r s'=>r=.ok (.ret (.bool true))∧OldK s₁.heap s'.heap∧s'.os=s₁.os∧AllBare s'.gens) s₁:=by
 have rv:=xW hi
 have lenV:=hi.length
 have naT:a≠T:=fun z=>by rw[z,hT] at ha;cases ha
 have core:∀ H:Hp,(∀ b,b≠T→H b=none∨∃ o xs,H b=some (.frz o (.lst xs)))→H T=some (.tbl #[])→SqL K H a (ns.map V.int)→HOk P w H s₁.heap→(∀ b,b≠T→H b≠none→b=a)→(H a≠none→K.lookup a=none) →
   codeAny (model P w) callerA (.call (.ref fa) ⟨[.ref a],[]⟩) (fun r s'=>r=.ok (.ret (.bool true))∧OldK s₁.heap s'.heap∧s'.os=s₁.os∧AllBare s'.gens) s₁:=by
  intro H hO eT hS hok hA hK
  have base_of:∀ {b:Addr} {o:Obj},s₁.heap.get? b=some o→H b=none→(xT s₁.heap H).get? b=some o:=fun e n=>aMT e n
  have none_of:∀ {b:Addr} {o:Obj},s₁.heap.get? b=some o→o≠tabObj #[]→o≠{ cls:=.type "list",data:=.seq vs.toArray }→H b=none:=fun {b o} e n1 n2=>by
   cases q:H b with
   | none=>rfl
   | some u =>
    by_cases z:b=T
    ·rw[z,hT] at e
     exact absurd (BA e).symm n1
    ·have e':b=a:=hA b z (by rw[q];simp)
     rw[e',ha] at e
     exact absurd (BA e).symm n2
  have noA:∀ {b:Addr} {o:Obj} {es:Array DictEntry} {ep:Nat},s₁.heap.get? b=some o→o.data=.dict es ep→H b=none:=fun {b o es ep} e d =>
   none_of e (fun z=>by rw[z] at d;cases d) (fun z=>by rw[z] at d;cases d)
  have nsK:∀ {b:Addr} {m:Str→Option Value},s₁.heap.Ns b m→(xT s₁.heap H).Ns b m:=fun {b m} ⟨o,es,ep,e,d,r⟩=>⟨o,es,ep,base_of e (noA e d),d,r⟩
  have hKb:K.In (xT s₁.heap H):=fun b o e=>base_of (KX b o e) (by
   cases q:H b with
   | none=>rfl
   | some u =>
    by_cases z:b=T
    ·rw[z,hKT] at e;cases e
    ·have e':b=a:=hA b z (by rw[q];simp)
     subst e'
     rw[hK (by rw[q];simp)] at e;cases e)
  have hM:Mod K mg (xT s₁.heap H):=⟨hKb,nsK G.g,⟨mb,nsK G.b,G.builtins⟩,let ⟨mc,h1,h2⟩:=G.nolimit;⟨mc,nsK h1,h2⟩⟩
  have e0:Env0 P w K mg (xT s₁.heap H) callerA [] s₁ H:=⟨rfl,hM,fun b o e=>aPH e,Dm (aJT _ _),trivial,fun b hb=>absurd (show b∈([]:List Addr) from hb) (by simp),hok,.of_eq hg⟩
  have TB:TabB K mg (xT s₁.heap H) y c T:=by
   refine⟨?_,?_,fun f o fd' h1 h2 h3=>law_code KX G.g ht h1 (KX _ _ h2) h3⟩
   ·obtain⟨bm,ob,b1,b2,b3,b4,b5,b6⟩:=G.bmain
    exact⟨bm,ob,b1,b2,base_of b3 (none_of b3 (fun z=>by rw[z] at b4;cases b4) (fun z=>by rw[z] at b4;have b4:CM "list"=CM "module":=b4;injection b4 with b4;exact absurd b4 (by decide))),b4,b5,b6⟩
   ·obtain⟨o,vs',file,tf,flags,tg,inF,text,tt,e1,r1,r⟩:=hC
    exact⟨o,vs',file,tf,flags,tg,inF,text,tt,base_of e1 (none_of e1 (fun z=>by rw[z] at r1;cases r1) (fun z=>by rw[z] at r1;have r1:CM "list"=CM "code":=r1;injection r1 with r1;exact absurd r1 (by decide))),r1,r⟩
  refine CY ((F _ hKb (nsK G.g) TB).run callerA [] s₁ H ⟨[.ref a],[]⟩ [.ref a] [.ref a] (fun v _=>v=.bl true) (fun _ _ _=>False) hr e0 (hbind s₁ (.ref a)) (.cons rfl .nil) ⟨_,rfl,a,ns,rfl,hS,hl,eT,fun _=>rfl⟩) fun r s' h=>?_
  cases r with
  | error e=>exact BH h
  | ok fl =>
   cases fl with
   | next=>exact BH h
   | brk=>exact BH h
   | cont=>exact BH h
   | ret u =>
    obtain⟨v,H',os,bare,un,hok',r',q⟩:=h
    have q':v=.bl true:=q
    subst q'
    obtain rfl:u=EL true:=r'
    have kp:∀ b o,b≠T→s₁.heap.get? b=some o→s'.heap.get? b=some o:=fun b o nb e=>by
     cases q:H b with
     | none=>exact un.keep b o e q (by intro z;exact absurd (show b∈([]:List Addr) from z) (by simp)) (by simp)
     | some u =>
      rcases hO b nb with z | ⟨ob,xs,z⟩
      ·rw[q] at z;cases z
      ·have z2:=un.frzs b ob _ z
       obtain⟨e1,_⟩:=hok b _ z
       obtain⟨e2,_⟩:=hok' b _ z2
       rw[e] at e1;cases e1
       exact e2
    obtain⟨more,eT'⟩:=un.tbls T _ eT
    have gT':s'.heap.get? T=some (tabObj (#[]++more)):=hok' T _ eT'
    refine⟨rfl,⟨fun b o e=>?_,fun b o e=>?_⟩,os,bare⟩
    ·by_cases z:b=T
     ·subst z
      rw[hT] at e
      cases e
      exact .inr (.inl ⟨(hC.tab hT).isCodeTable,rfl,#[],more,rfl,gT'⟩)
     ·exact .inl (kp b o z e)
    ·by_cases z:b=T
     ·exact⟨_,z▸gT'⟩
     ·exact⟨o,kp b o z e⟩
 cases hk:K.lookup a with
 | some o =>
  have e:=KX a o hk
  rw[ha] at e
  cases e
  refine core (fun b=>if b=T then some (.tbl #[]) else none) (fun b nb=>.inl (if_neg nb)) (if_pos rfl) (.inr ⟨_,vs.toArray,_,hk,rfl,rfl,rfl,by rw[AM,lenV];exact Az hl (by decide),by simpa using rv⟩) (fun b u z=>?_) (fun b nb z=>absurd (if_neg nb) z) fun z=>absurd (if_neg naT) z
  by_cases hb:b=T
  ·have z':=(if_pos hb).symm.trans z
   cases z'
   subst hb
   exact hT
  ·have z':=(if_neg hb).symm.trans z
   cases z'
 | none =>
  refine core (fun b=>if b=T then some (.tbl #[]) else if b=a then some (.frz { cls:=.type "list",data:=.seq vs.toArray } (.lst (ns.map V.int))) else none) (fun b nb=>?_) (if_pos rfl) (.inl (.inr ⟨{ cls:=.type "list",data:=.seq vs.toArray },by show (if a=T then _ else _)=_;rw[if_neg naT,if_pos rfl]⟩)) (fun b u z=>?_) (fun b nb z=>?_) fun _=>hk
  ·by_cases hb:b=a
   ·exact .inr ⟨_,_,by show (if b=T then _ else _)=_;rw[if_neg nb,if_pos hb]⟩
   ·exact .inl (by show (if b=T then _ else _)=_;rw[if_neg nb,if_neg hb])
  ·by_cases hT':b=T
   ·have z':=(if_pos hT').symm.trans z
    cases z'
    subst hT'
    exact hT
   ·have z0:=(if_neg hT').symm.trans z
    by_cases hb:b=a
    ·have z':=(if_pos hb).symm.trans z0
     cases z'
     subst hb
     exact⟨ha,by rw[AA];exact Az hl (by decide),vs,_,rv,ha⟩
    ·have z':=(if_neg hb).symm.trans z0
     cases z'
  ·by_cases hb:b=a
   ·exact hb
   ·exact absurd (by show (if b=T then _ else _)=_;rw[if_neg nb,if_neg hb]) z
theorem walk_lawT{l:PySem.W.OpenLaw}{q:Program}{loose:List Str}{XP:(Str→Option Value)→Heap→Prop}{YP:World→Heap→Prop}{d:DefRec}{K:Params→AD}(k:Nat)(y:Str)(c T:Addr)(hr:Room k callerA)(hn:l.most=some 63)(hdf:d.params.defaults=[])
 (hY:∀ (w:World) (h:Heap),YP w h→(K w.params).In h)(hT:∀ (w:World) (h:Heap),YP w h→h.get? T=some (tabObj #[]))(hC:∀ (w:World),codeHdIn (K w.params) c T=true)(hK:∀ w:World,(K w.params).lookup T=none)(ht:∀ w:World,tabIn (K w.params) y=some (c,T))
 (F:∀ (w:World) (mg:Str→Option Value) (fa:Addr) (h:Heap),(K w.params).In h→h.Ns Bv mg→mg d.name=some (.ref fa) →
   ∃ fd:Bb,(∀ (s:Shared) (u:Value),BindsTo s fd ⟨[u],[]⟩ [("_law_script",u)])∧∀ base:Heap,(K w.params).In base→base.Ns Bv mg→TabB (K w.params) mg base y c T→FnOk l.prog w (K w.params) mg base CX0 k fa fd ["_law_script"] (aAL (K w.params) T)) :
  PySem.W.WalkO q loose XP YP l.row.toRowW d [] (fun f vs=>PySem.call f vs):=by
 refine Att.attach_call hn hdf fun w s₀ s₁ mg mb fa o pm cd doc a vs ns G Y ho hd hcd hmg hobj hints hlen hg=>?_
 have KX:=hY w _ Y
 obtain⟨fd,hb,hF⟩:=F w mg fa _ KX G.T.g hmg
 exact aJQ KX G.T hg hobj hints hlen hr (hT w _ Y) (codeHd_of_K KX (hC w)) (hK w) (ht w) hF hb
end L2
namespace L2
open PySem PySem.Spec PyProof.Rows PySem.W
section
variable{prog:Program}{w:World}{A:Around}{E:Value→Shared→Prop}{s:Shared}{κ:SortKind}{it:Array Keyed}{n:Nat}{lt:Nat→Nat→Bool}
theorem aJF(hk:qX prog w A s κ it n lt){a:As}{ix sa na pw sb nb q k nb' x1 x2 y0:Nat}{c:Ml}{res:Array Nat}(hp0:a.pend[ix]?=some (sa,na,pw))(hp1:a.pend[ix+1]?=some (sb,nb,q))(e1:a.p[sb]?=some x1)(g1:aPV (bfR n lt a.p x1 sa) na 0=some k)(n1:(na - k == 0)=false)
 (e2:a.p[sa+k+(na - k) - 1]?=some x2)(g2:aPW (bfL n lt a.p x2 sb) nb (nb - 1)=some nb')(n2:(nb' == 0)=false)(le:na - k≤nb')(e3:(a.p.extract sb (sb+nb'))[0]?=some y0)(z1:(1 == (a.p.extract sb (sb+nb')).size)=false)(z2:(0+1 == (a.p.extract (sa+k) sb).size)=false)
 (h:dJ (aMG n lt (a.p.extract (sa+k) sb) (a.p.extract sb (sb+nb')) a.mg) ((a.p.extract (sa+k) sb).size+(a.p.extract sb (sb+nb')).size) ⟨none,#[y0],0,1,0,0⟩=some c)(hr:c.res=some res)(h1:1≤(a.p.extract (sa+k) sb).size+(a.p.extract sb (sb+nb')).size) :
  Rn prog w A E s (mergeAt' ix) (a.st κ it) true (As.st κ it ⟨aOU a.p (sa+k) res,(a.pend.setIfInBounds ix (sa,na+nb,pw)).eraseIdxIfInBounds (ix+1),a.mg⟩):=by
 refine aL gQ ?_
 show Rn prog w A E s (match ((pendingOf (a.st κ it))[ix]?,(pendingOf (a.st κ it))[ix+1]?) with | (some (sa,na,power),some (sb,nb,snd))=>_ | x=>_) _ _ _
 rw[show (pendingOf (a.st κ it))[ix]?=some (sa,na,pw) from hp0,show (pendingOf (a.st κ it))[ix+1]?=some (sb,nb,q) from hp1]
 dsimp only
 refine aL (a:=()) (st1:=As.st κ it ⟨a.p,(a.pend.setIfInBounds ix (sa,na+nb,pw)).eraseIdxIfInBounds (ix+1),a.mg⟩) (fun Q hQ=>Aa hQ) ?_
 generalize hb:(⟨a.p,(a.pend.setIfInBounds ix (sa,na+nb,pw)).eraseIdxIfInBounds (ix+1),a.mg⟩:As)=b
 have bR:∀ i r,bfR n lt a.p x1 sa i=some r→Rn prog w A E s (elem' (a.p.map (BL it)) (sa+i) >>= fun x=>lt' (BL it x1) x >>= fun y=>pure (Option.map (fun x=>!x) y)) (b.st κ it) (some r) (b.st κ it):=fun i r e=>by
  obtain⟨x,ex,hx,hy,rfl⟩:=aNS e
  exact aL (eE (fO ex)) (aL (aDK hk hy hx) aZ)
 have bL:∀ i r,bfL n lt a.p x2 sb i=some r→Rn prog w A E s (elem' (a.p.map (BL it)) (sb+i) >>= fun x=>lt' x (BL it x2)) (b.st κ it) (some r) (b.st κ it):=fun i r e=>by
  obtain⟨x,ex,hx,hy,rfl⟩:=aNT e
  exact aL (eE (fO ex)) (aDK hk hx hy)
 refine aL (eE (fO e1)) ?_
 refine aL (a:=some k) (st1:=b.st κ it) ?_ ?_
 ·unfold aPV at g1
  split at g1
  ·rename_i b0
   split at g1
   ·cases g1
   ·rename_i x hx
    obtain⟨y,hy,ey⟩:=AY.mp g1
    refine aL (bR 0 _ b0) ?_
    refine aL (a:=(none,x)) (st1:=b.st κ it) ?_ ?_
    ·exact aLJ bR hx (fun _ z hz=>if_pos hz) (fun _ z hz=>⟨_,if_neg hz,fun b hb'=>if_pos hb',fun b hb'=>if_neg (by rw[hb'];exact AR)⟩)
    ·refine aL (a:=(none,y)) (st1:=b.st κ it) (aQS bR hy (fun _ z hz=>if_pos hz) (fun _ z hz=>⟨_,if_neg hz,rfl,rfl⟩)) ?_
     rw[← ey]
     exact aZ
  ·cases g1
 show Rn prog w A E s (if (na - k == 0)=true then pure true else _) _ _ _
 rw[n1]
 refine aL (eE (fO e2)) ?_
 refine aL (a:=some nb') (st1:=b.st κ it) ?_ ?_
 ·unfold aPW at g2
  split at g2
  ·rename_i b0
   split at g2
   ·cases g2
   ·rename_i x hx
    obtain⟨y,hy,ey⟩:=AY.mp g2
    refine aL (bL (nb - 1) _ b0) ?_
    refine aL (a:=(none,x)) (st1:=b.st κ it) ?_ ?_
    ·exact aLJ bL hx (fun _ z hz=>if_pos hz) (fun _ z hz=>⟨_,if_neg hz,fun b hb'=>if_pos hb',fun b hb'=>if_neg (by rw[hb'];exact AR)⟩)
    ·refine aL (a:=(none,y)) (st1:=b.st κ it) (aQS bL hy (fun _ z hz=>if_pos hz) (fun _ z hz=>⟨_,if_neg hz,rfl,rfl⟩)) ?_
     rw[← ey]
     exact aZ
  ·cases g2
 show Rn prog w A E s (if (nb' == 0)=true then pure true else if na - k≤nb' then _ else _) _ _ _
 rw[n2,if_neg AR,if_pos le]
 have ex:∀ i j,(arrOf (a.st κ it)).extract i j=(a.p.extract i j).map (BL it):=fun i j=>by
  show (a.p.map (BL it)).extract i j=_
  simp
 rw[ex,ex]
 subst hb
 generalize a.p.extract (sa+k) sb=X at *
 generalize a.p.extract sb (sb+nb')=Y at *
 refine aL (a:=res.map (BL it)) (st1:=As.st κ it ⟨a.p,(a.pend.setIfInBounds ix (sa,na+nb,pw)).eraseIdxIfInBounds (ix+1),a.mg⟩) ?_ ?_
 ·refine aL aHS ?_
  refine aL (eE (fO e3)) ?_
  show Rn prog w A E s (if (1 == (Y.map (BL it)).size)=true then _ else if (0+1 == (X.map (BL it)).size)=true then _ else _) _ _ _
  rw[Eu,Eu,z1,z2,if_neg AR,if_neg AR]
  refine aL gQ ?_
  rw[show #[BL it y0]=(#[y0]:Array Nat).map (BL it) by simp]
  refine aL (a:=(some (res.map (BL it)),c.out.map (BL it),c.ia,c.ib,a.mg)) (st1:=As.st κ it ⟨a.p,(a.pend.setIfInBounds ix (sa,na+nb,pw)).eraseIdxIfInBounds (ix+1),a.mg⟩) ?_ aZ
  rw[BP]
  obtain⟨T,hT⟩:∃ T,[:X.size+Y.size].size=T+1:=⟨X.size+Y.size - 1,by simp[Bu];omega⟩
  rw[hT]
  refine qG (x:=0) (xs:=Ck 1 T) ?_
  refine aL (a:=(some (res.map (BL it)),c.out.map (BL it),c.ia,c.ib,c.ac,c.bc)) (st1:=As.st κ it ⟨a.p,(a.pend.setIfInBounds ix (sa,na+nb,pw)).eraseIdxIfInBounds (ix+1),a.mg⟩) ?_ aZ
  have ec:(some (res.map (BL it)),c.out.map (BL it),c.ia,c.ib,c.ac,c.bc)=((fun c:Ml=>(c.res.map (Array.map (BL it)),c.out.map (BL it),c.ia,c.ib,c.ac,c.bc)) c):=by show _=(c.res.map _,_);rw[hr];rfl
  rw[ec]
  refine vN (c:=⟨none,#[y0],0,1,0,0⟩) (fun c:Ml=>(c.res.map (Array.map (BL it)),c.out.map (BL it),c.ia,c.ib,c.ac,c.bc)) _ h (fun _ c c' e=>?_) (fun _ c c' e=>?_)
  ·unfold aMG at e
   split at e
   ·rename_i y x ey exx
    split at e
    ·rename_i hn
     refine aL (eE (fO ey)) (aL (eE (fO exx)) (aL (aDK hk hn.1 hn.2) ?_))
     cases hl:lt y x with
     | true =>
      rw[hl,if_pos rfl] at e
      refine aL (eE (fO ey)) ?_
      split at e
      ·rename_i hz
       cases e
       dsimp only
       rw[if_pos hz]
       exact aHR aZ (by simp)
      ·split at e <;> cases e
     | false =>
      rw[hl,if_neg AR] at e
      refine aL (eE (fO exx)) ?_
      split at e
      ·rename_i hz
       cases e
       dsimp only
       rw[if_pos hz]
       exact aHR aZ (by simp)
      ·split at e <;> cases e
    ·cases e
   ·cases e
  ·unfold aMG at e
   split at e
   ·rename_i y x ey exx
    split at e
    ·rename_i hn
     refine aL (eE (fO ey)) (aL (eE (fO exx)) (aL (aDK hk hn.1 hn.2) ?_))
     cases hl:lt y x with
     | true =>
      rw[hl,if_pos rfl] at e
      refine aL (eE (fO ey)) ?_
      split at e
      ·cases e
      ·rename_i hz
       split at e
       ·cases e
       ·rename_i hm
        cases e
        dsimp only
        rw[if_neg hz]
        exact aHR (yT hm aZ) (by simp)
     | false =>
      rw[hl,if_neg AR] at e
      refine aL (eE (fO exx)) ?_
      split at e
      ·cases e
      ·rename_i hz
       split at e
       ·cases e
       ·rename_i hm
        cases e
        dsimp only
        rw[if_neg hz]
        exact aHR (yT hm aZ) (by simp)
    ·cases e
   ·cases e
 ·refine aL (a:=()) (st1:=As.st κ it ⟨aOU a.p (sa+k) res,(a.pend.setIfInBounds ix (sa,na+nb,pw)).eraseIdxIfInBounds (ix+1),a.mg⟩) ?_ (aL gQ aZ)
  intro Q hQ
  refine Aa ?_
  have e:=aHU (it:=it) (sa+k) res.toList.zipIdx a.p
  unfold As.st aOU at hQ
  dsimp only at hQ
  rw[← e] at hQ
  have e':(res.map (BL it)).toList.zipIdx=res.toList.zipIdx.map fun x=>(BL it x.1,x.2):=by
   rw[Array.toList_map,List.zipIdx_map]
   rfl
  rw[e']
  exact hQ
noncomputable def aPN(n:Nat)(lt:Nat→Nat→Bool)(ix:Nat)(a:As):Option As:=match a.pend[ix]?,a.pend[ix+1]? with
 | some (sa,na,pw),some (sb,nb,_)=>match a.p[sb]? with
  | none=>none
  | some x1=>match aPV (bfR n lt a.p x1 sa) na 0 with
   | none=>none
   | some k=>if (na - k == 0)=false then match a.p[sa+k+(na - k) - 1]? with
     | none=>none
     | some x2=>match aPW (bfL n lt a.p x2 sb) nb (nb - 1) with
      | none=>none
      | some nb'=>if (nb' == 0)=false∧na - k≤nb'∧(1 == (a.p.extract sb (sb+nb')).size)=false∧(0+1 == (a.p.extract (sa+k) sb).size)=false∧1≤(a.p.extract (sa+k) sb).size+(a.p.extract sb (sb+nb')).size then match (a.p.extract sb (sb+nb'))[0]? with
        | none=>none
        | some y0=>match dJ (aMG n lt (a.p.extract (sa+k) sb) (a.p.extract sb (sb+nb')) a.mg) ((a.p.extract (sa+k) sb).size+(a.p.extract sb (sb+nb')).size) ⟨none,#[y0],0,1,0,0⟩ with
         | none=>none
         | some c=>match c.res with
          | none=>none
          | some res=>some ⟨aOU a.p (sa+k) res,(a.pend.setIfInBounds ix (sa,na+nb,pw)).eraseIdxIfInBounds (ix+1),a.mg⟩
       else none
    else none
 | _,_=>none
theorem aBC(hk:qX prog w A s κ it n lt){ix:Nat}{a a':As}(h:aPN n lt ix a=some a'):Rn prog w A E s (mergeAt' ix) (a.st κ it) true (a'.st κ it):=by
 unfold aPN at h
 split at h
 ·rename_i sa na pw sb nb q hp0 hp1
  split at h
  ·cases h
  ·rename_i x1 e1
   split at h
   ·cases h
   ·rename_i k g1
    split at h
    ·rename_i n1
     split at h
     ·cases h
     ·rename_i x2 e2
      split at h
      ·cases h
      ·rename_i nb' g2
       split at h
       ·rename_i hh
        split at h
        ·cases h
        ·rename_i y0 e3
         split at h
         ·cases h
         ·rename_i c hc
          split at h
          ·cases h
          ·rename_i res hr
           cases h
           exact aJF hk hp0 hp1 e1 g1 n1 e2 g2 hh.1 hh.2.1 e3 hh.2.2.1 hh.2.2.2.1 hc hr hh.2.2.2.2
       ·cases h
    ·cases h
 ·cases h
theorem nP{γ β:Type}(φ:γ→β)(ψ:γ→SortSt)(g:γ→Option (Bool×γ)){f:Nat→β→StateT SortSt Sem (ForInStep β)}{m:Nat}{c c':γ}(h:dJ g m c=some c')(hd:∀ x c c',g c=some (true,c')→Rn prog w A E s (f x (φ c)) (ψ c) (.done (φ c')) (ψ c'))(hy:∀ x c c',g c=some (false,c')→Rn prog w A E s (f x (φ c)) (ψ c) (.yield (φ c')) (ψ c')) :
  Rn prog w A E s (forIn [:m] (φ c) f) (ψ c) (φ c') (ψ c'):=by
 rw[BP,show [:m].size=m by simp[Bu]]
 have gen:∀ (xs:List Nat) (c c':γ),dJ g xs.length c=some c'→Rn prog w A E s (forIn xs (φ c) f) (ψ c) (φ c') (ψ c'):=by
  intro xs
  induction xs with
  | nil=>intro c c' e;cases e;exact aZ
  | cons x xs ih =>
   intro c c' e
   rw[Af] at e
   unfold dJ at e
   split at e
   ·cases e
   ·rename_i eb
    cases e
    exact qG (hd _ _ _ eb)
   ·rename_i eb
    exact jY (hy _ _ _ eb) (ih _ _ e)
 exact gen _ _ _ (by rw[DN];exact h)
noncomputable def aNM(n:Nat)(lt:Nat→Nat→Bool)(pw:Nat)(a:As):Option (Bool×As):=match (if a.pend.size>1 then a.pend[a.pend.size - 2]? else none) with
 | none=>some (true,a)
 | some x=>if x.2.2≤pw then some (true,a) else (aPN n lt (a.pend.size - 2) a).map fun b=>(false,b)
noncomputable def aHV(n:Nat)(lt:Nat→Nat→Bool)(size lo m:Nat)(a:As):Option As:=match a.pend.back? with
 | none=>some ⟨a.p,a.pend.push (lo,m,0),a.mg⟩
 | some x=>(dJ (aNM n lt (power' size (2*x.1+x.2.1) (2*x.1+x.2.1+x.2.1+m) size)) size a).map fun b=>⟨b.p,(b.pend.modify (b.pend.size - 1) fun y=>(y.1,y.2.1,power' size (2*x.1+x.2.1) (2*x.1+x.2.1+x.2.1+m) size)).push (lo,m,0),b.mg⟩
noncomputable def aBB(n:Nat)(lt:Nat→Nat→Bool)(size minrun:Nat)(c:Nat×As):Option (Bool×Nat×As):=if c.1≥size then some (true,c) else match aTK (ask n lt c.2.p) c.1 (size - c.1) with
 | none=>none
 | some m=>if m<minrun then
   match aNR n lt c.1 (Ck (max m 1) (min (size - c.1) minrun - max m 1)) c.2.p with
   | none=>none
   | some p'=>(aHV n lt size c.1 (min (size - c.1) minrun) ⟨p',c.2.pend,c.2.mg⟩).map fun b=>(false,c.1+min (size - c.1) minrun,b)
  else (aHV n lt size c.1 m c.2).map fun b=>(false,c.1+m,b)
noncomputable def aEF(n:Nat)(lt:Nat→Nat→Bool)(a:As):Option (Bool×As):=if a.pend.size≤1 then some (true,a) else
 (aPN n lt (if Option.any (fun x=>decide (x<a.pend[a.pend.size - 2+1]?.elim 0 fun x=>x.2.1)) (if a.pend.size - 2>0 then Option.map (fun x=>x.2.1) a.pend[a.pend.size - 2 - 1]? else none)=true then a.pend.size - 2 - 1 else a.pend.size - 2) a).map fun b=>(false,b)
theorem aON(hk:qX prog w A s κ it n lt){a b:As}{lo size minrun:Nat}(z:a.p.size=size)(hm:minRun' size size 0=minrun)(h1:dJ (aBB n lt size minrun) size (0,a)=some (lo,b)){c:As}(h2:dJ (aEF n lt) size b=some c):Rn prog w A E s sortRuns' (a.st κ it) () (c.st κ it):=by
 have hs:(arrOf (a.st κ it)).size=size:=by show (a.p.map (BL it)).size=size;rw[Eu,z]
 rw[sortRuns'_eq]
 refine aL gQ ?_
 dsimp only
 rw[hs,hm]
 refine aL (a:=(none,lo)) (st1:=b.st κ it) ?_ ?_
 ·refine nP (fun c:Nat×As=>((none:Option Unit),c.1)) (fun c=>c.2.st κ it) _ h1 (fun _ c c' e=>?_) (fun _ c c' e=>?_)
  ·unfold aBB at e
   split at e
   ·rename_i hg
    cases e
    dsimp only
    rw[if_pos hg]
    exact aZ
   ·split at e
    ·cases e
    ·split at e
     ·split at e
      ·cases e
      ·obtain⟨_,_,e⟩:=AY.mp e
       cases e
     ·obtain⟨_,_,e⟩:=AY.mp e
      cases e
  ·unfold aBB at e
   split at e
   ·cases e
   ·rename_i hg
    split at e
    ·cases e
    ·rename_i m hc
     dsimp only
     rw[if_neg hg]
     refine aL (aLK hk hc) ?_
     dsimp only
     split at e
     ·rename_i lm
      split at e
      ·cases e
      ·rename_i p' hp
       obtain⟨b1,hb,e⟩:=AY.mp e
       cases e
       rw[if_pos lm]
       refine aL aHS ?_
       refine aL (aRZ hk hp) ?_
       unfold aHV at hb
       refine aL gQ ?_
       split at hb
       ·rename_i eb
        cases hb
        show Rn prog w A E s (match (c.2.pend).back? with | some (s1,n1,snd)=>_ | x=>_) _ _ _
        rw[eb]
        exact aL (a:=()) (st1:=As.st κ it ⟨p',(c.2.pend).push (c.1,min (size - c.1) minrun,0),c.2.mg⟩) (fun Q hQ=>Aa hQ) aZ
       ·rename_i x eb
        obtain⟨b',hl,e2⟩:=AY.mp hb
        cases e2
        show Rn prog w A E s (match (c.2.pend).back? with | some (s1,n1,snd)=>_ | x=>_) _ _ _
        rw[eb]
        obtain⟨x1,x2,x3⟩:=x
        refine aL (a:=(none,())) (st1:=b'.st κ it) ?_ (aL (a:=()) (st1:=As.st κ it ⟨b'.p,b'.pend.modify (b'.pend.size - 1) fun y=>(y.1,y.2.1,power' size (2*x1+x2) (2*x1+x2+x2+min (size - c.1) minrun) size),b'.mg⟩) (fun Q hQ=>Aa hQ) (aL (a:=()) (st1:=As.st κ it ⟨b'.p,(b'.pend.modify (b'.pend.size - 1) fun y=>(y.1,y.2.1,power' size (2*x1+x2) (2*x1+x2+x2+min (size - c.1) minrun) size)).push (c.1,min (size - c.1) minrun,0),b'.mg⟩) (fun Q hQ=>Aa hQ) aZ))
        refine nP (fun _:As=>((none:Option Unit),())) (fun c=>c.st κ it) _ hl (fun _ c c' e=>?_) (fun _ c c' e=>?_)
        ·unfold aNM at e
         refine aL gQ ?_
         split at e
         ·rename_i en
          cases e
          show Rn prog w A E s (match (if c.pend.size>1 then c.pend[c.pend.size - 2]? else none) with | some (a1,a2,older)=>_ | x=>_) _ _ _
          rw[en]
          exact aZ
         ·rename_i y en
          split at e
          ·rename_i ho
           cases e
           obtain⟨y1,y2,y3⟩:=y
           show Rn prog w A E s (match (if c.pend.size>1 then c.pend[c.pend.size - 2]? else none) with | some (a1,a2,older)=>_ | x=>_) _ _ _
           rw[en]
           show Rn prog w A E s (if _ then _ else _) _ _ _
           rw[if_pos ho]
           exact aZ
          ·obtain⟨_,_,e⟩:=AY.mp e
           cases e
        ·unfold aNM at e
         refine aL gQ ?_
         split at e
         ·cases e
         ·rename_i y en
          split at e
          ·cases e
          ·rename_i ho
           obtain⟨b2,hb2,e⟩:=AY.mp e
           cases e
           obtain⟨y1,y2,y3⟩:=y
           show Rn prog w A E s (match (if c.pend.size>1 then c.pend[c.pend.size - 2]? else none) with | some (a1,a2,older)=>_ | x=>_) _ _ _
           rw[en]
           show Rn prog w A E s (if _ then _ else _) _ _ _
           rw[if_neg ho]
           exact aL (aBC hk hb2) aZ
     ·rename_i lm
      obtain⟨b1,hb,e⟩:=AY.mp e
      cases e
      rw[if_neg lm]
      unfold aHV at hb
      refine aL gQ ?_
      split at hb
      ·rename_i eb
       cases hb
       show Rn prog w A E s (match (c.2.pend).back? with | some (s1,n1,snd)=>_ | x=>_) _ _ _
       rw[eb]
       exact aL (a:=()) (st1:=As.st κ it ⟨c.2.p,(c.2.pend).push (c.1,m,0),c.2.mg⟩) (fun Q hQ=>Aa hQ) aZ
      ·rename_i x eb
       obtain⟨b',hl,e2⟩:=AY.mp hb
       cases e2
       show Rn prog w A E s (match (c.2.pend).back? with | some (s1,n1,snd)=>_ | x=>_) _ _ _
       rw[eb]
       obtain⟨x1,x2,x3⟩:=x
       refine aL (a:=(none,())) (st1:=b'.st κ it) ?_ (aL (a:=()) (st1:=As.st κ it ⟨b'.p,b'.pend.modify (b'.pend.size - 1) fun y=>(y.1,y.2.1,power' size (2*x1+x2) (2*x1+x2+x2+m) size),b'.mg⟩) (fun Q hQ=>Aa hQ) (aL (a:=()) (st1:=As.st κ it ⟨b'.p,(b'.pend.modify (b'.pend.size - 1) fun y=>(y.1,y.2.1,power' size (2*x1+x2) (2*x1+x2+x2+m) size)).push (c.1,m,0),b'.mg⟩) (fun Q hQ=>Aa hQ) aZ))
       refine nP (fun _:As=>((none:Option Unit),())) (fun c=>c.st κ it) _ hl (fun _ c c' e=>?_) (fun _ c c' e=>?_)
       ·unfold aNM at e
        refine aL gQ ?_
        split at e
        ·rename_i en
         cases e
         show Rn prog w A E s (match (if c.pend.size>1 then c.pend[c.pend.size - 2]? else none) with | some (a1,a2,older)=>_ | x=>_) _ _ _
         rw[en]
         exact aZ
        ·rename_i y en
         split at e
         ·rename_i ho
          cases e
          obtain⟨y1,y2,y3⟩:=y
          show Rn prog w A E s (match (if c.pend.size>1 then c.pend[c.pend.size - 2]? else none) with | some (a1,a2,older)=>_ | x=>_) _ _ _
          rw[en]
          show Rn prog w A E s (if _ then _ else _) _ _ _
          rw[if_pos ho]
          exact aZ
         ·obtain⟨_,_,e⟩:=AY.mp e
          cases e
       ·unfold aNM at e
        refine aL gQ ?_
        split at e
        ·cases e
        ·rename_i y en
         split at e
         ·cases e
         ·rename_i ho
          obtain⟨b2,hb2,e⟩:=AY.mp e
          cases e
          obtain⟨y1,y2,y3⟩:=y
          show Rn prog w A E s (match (if c.pend.size>1 then c.pend[c.pend.size - 2]? else none) with | some (a1,a2,older)=>_ | x=>_) _ _ _
          rw[en]
          show Rn prog w A E s (if _ then _ else _) _ _ _
          rw[if_neg ho]
          exact aL (aBC hk hb2) aZ
 ·refine aL (a:=(none,())) (st1:=c.st κ it) ?_ aZ
  refine nP (fun _:As=>((none:Option Unit),())) (fun c=>c.st κ it) _ h2 (fun _ c c' e=>?_) (fun _ c c' e=>?_)
  ·unfold aEF at e
   refine aL gQ ?_
   split at e
   ·rename_i hz
    cases e
    show Rn prog w A E s (if c.pend.size≤1 then _ else _) _ _ _
    rw[if_pos hz]
    exact aZ
   ·obtain⟨_,_,e⟩:=AY.mp e
    cases e
  ·unfold aEF at e
   refine aL gQ ?_
   split at e
   ·cases e
   ·rename_i hz
    obtain⟨b2,hb2,e⟩:=AY.mp e
    cases e
    show Rn prog w A E s (if c.pend.size≤1 then _ else _) _ _ _
    rw[if_neg hz]
    exact aL (aBC hk hb2) aZ
end
end L2
set_option maxRecDepth 1000000
namespace L2
open PySem PySem.Spec PyProof.Rows PySem.W
theorem jS:∀ k,(eX k).length=2 ^ k
 | 0=>rfl
 | k+1=>by unfold eX;rw[AW,AA,jS k];omega
noncomputable def aKF:Nat→Nat→List Int
 | 0,_=>[]
 | k+1,i=>if i<2 ^ k then aKF k i else aKF k (i - 2 ^ k)++[(k:Int)]
theorem pN:∀ n i,i<2 ^ n→(eX n).getD i []=aKF n i
 | 0,i,h=>by
  cases i with
  | zero=>rfl
  | succ i=>exact absurd h (by simp)
 | k+1,i,h=>by
  have e:=jS k
  have e2:2 ^ (k+1)=2 ^ k+2 ^ k:=by rw[Nat.pow_succ,Nat.mul_two]
  unfold eX aKF
  rw[Ad]
  by_cases l:i<2 ^ k
  ·rw[if_pos l,BQ (by omega),← Ad]
   exact pN k i l
  ·rw[if_neg l,Bo (by omega),AI,e,← pN k (i - 2 ^ k) (by omega),Ad,AC (show i - 2 ^ k<(eX k).length by omega)]
   rfl
noncomputable def ltK(k i j:Nat):Bool:=jP (aKF k i) (aKF k j)
noncomputable def qU(l:List Nat)(pd:List (Nat×Nat×Nat)):As:=⟨l.toArray,pd.toArray,7⟩
noncomputable def okS(a:As)(l:List Nat)(pd:List (Nat×Nat×Nat)):Bool:=decide (a.p.toList=l) && decide (a.pend.toList=pd) && decide (a.mg=7)
theorem aMC{a:As}{l:List Nat}{pd:List (Nat×Nat×Nat)}(h:okS a l pd=true):a=qU l pd:=by
 obtain⟨p,d,m⟩:=a
 unfold okS at h
 rw[AU,AU] at h
 cases of_decide_eq_true h.1.1
 cases of_decide_eq_true h.1.2
 cases of_decide_eq_true h.2
 rfl
noncomputable def fF(bs:List (List Nat×Nat))(lo z:Nat):List Nat:=(bs.flatMap fun b=>b.1.map (·+b.2))++Ck lo (z - lo)
noncomputable def stB{γ:Type}(g:γ→Option (Bool×γ))(ok:γ→Bool)(c:γ)(e:Bool):Bool:=match g c with
 | some (b,c')=>b == e && ok c'
 | none=>false
theorem aCS{γ:Type}{g:γ→Option (Bool×γ)}{ok:γ→Bool}{c:γ}{e:Bool}(h:stB g ok c e=true):∃ c',g c=some (e,c')∧ok c'=true:=by
 unfold stB at h
 split at h
 ·rename_i b c' hc
  rw[AU] at h
  cases eq_of_beq h.1
  exact⟨c',hc,h.2⟩
 ·cases h
noncomputable def oX(k lo:Nat)(l:List Nat)(pd:List (Nat×Nat×Nat))(lo':Nat)(l':List Nat)(pd':List (Nat×Nat×Nat)):Bool:=stB (aBB (2 ^ k) (ltK k) (2 ^ k) 32) (fun c=>decide (c.1=lo') && okS c.2 l' pd') (lo,qU l pd) false
theorem dQ{k lo lo' n:Nat}{l l':List Nat}{pd pd':List (Nat×Nat×Nat)}{r:Option (Nat×As)}(h:oX k lo l pd lo' l' pd'=true)(hr:dJ (aBB (2 ^ k) (ltK k) (2 ^ k) 32) n (lo',qU l' pd')=r):dJ (aBB (2 ^ k) (ltK k) (2 ^ k) 32) (n+1) (lo,qU l pd)=r:=by
 obtain⟨⟨o,a⟩,e,h⟩:=aCS h
 rw[AU] at h
 cases (show o=lo' from of_decide_eq_true h.1)
 cases aMC h.2
 unfold dJ
 rw[e]
 exact hr
theorem aBA{k n:Nat}{a:As}:dJ (aBB (2 ^ k) (ltK k) (2 ^ k) 32) (n+1) (2 ^ k,a)=some (2 ^ k,a):=by
 unfold dJ
 rw[show aBB (2 ^ k) (ltK k) (2 ^ k) 32 (2 ^ k,a)=some (true,(2 ^ k,a)) from if_pos (AS _)]
noncomputable def aGI(k:Nat)(l:List Nat)(pd:List (Nat×Nat×Nat))(l':List Nat)(pd':List (Nat×Nat×Nat)):Bool:=stB (aEF (2 ^ k) (ltK k)) (fun c=>okS c l' pd') (qU l pd) false
theorem kJ{k n:Nat}{l l':List Nat}{pd pd':List (Nat×Nat×Nat)}{r:Option As}(h:aGI k l pd l' pd'=true)(hr:dJ (aEF (2 ^ k) (ltK k)) n (qU l' pd')=r):dJ (aEF (2 ^ k) (ltK k)) (n+1) (qU l pd)=r:=by
 obtain⟨a,e,h⟩:=aCS h
 cases aMC h
 unfold dJ
 rw[e]
 exact hr
theorem aBX{k n:Nat}{l:List Nat}{x:Nat×Nat×Nat}:dJ (aEF (2 ^ k) (ltK k)) (n+1) (qU l [x])=some (qU l [x]):=rfl
theorem aAF{k:Nat}{l:List Nat}{pd:List (Nat×Nat×Nat)}{b:As}(hm:minRun' (2 ^ k) (2 ^ k) 0=32)(h1:dJ (aBB (2 ^ k) (ltK k) (2 ^ k) 32) (2 ^ k) (0,qU (Aj (2 ^ k)) [])=some (2 ^ k,b))(h2:dJ (aEF (2 ^ k) (ltK k)) (2 ^ k) b=some (qU l pd)):sN (eX k) l.toArray:=by
 intro prog w A E s κ ks vs e1 e2 hk
 rw[jS] at hk e1 e2
 have hk:qX prog w A s κ (ks.toArray.zip vs.toArray) (2 ^ k) (ltK k):=fun i j C hi hj c=>hk i j C hi hj (by
  unfold kLt
  rw[pN k i hi,pN k j hj]
  exact c)
 have sz:(ks.toArray.zip vs.toArray).size=2 ^ k:=by rw[Array.size_zip,AM,AM,e1,e2,Nat.min_self]
 have e0:=kas_range (ks.toArray.zip vs.toArray)
 rw[sz] at e0
 have hr:=aON (E:=E) hk (a:=qU (Aj (2 ^ k)) []) (by simp[qU]) hm h1 h2
 have h0:=hr (fun r s'=>s'=s∧arrOf r.2=l.toArray.map (BL (ks.toArray.zip vs.toArray))∧failedOf r.2=none) ⟨rfl,rfl,rfl⟩
 unfold As.st qU at h0
 dsimp only at h0
 rw[e0] at h0
 exact h0
noncomputable def bY:List Nat:=[0,1,2,4,8,16,3,5,9,17,6,10,18,12,20,24,7,11,19,13,21,25,14,22,26,28,15,23,27,29,30,31]
noncomputable def hZ:List Nat:=[0,1,2,4,8,16,32,64,3,5,9,17,33,65,6,10,18,34,66,12,20,36,68,24,40,72,48,80,96,7,11,19,35,67,13,21,37,69,25,41,73,49,81,97,14,22,38,70,26,42,74,50,82,98,28,44,76,52,84,100,56,88,104,112,15,23,39,71,27,43,75,51,83,99,29,45,77,53,85,101,57,89,105,113,30,46,78,54,86,102,58,90,106,114,60,92,108,116,120,31,47,79,55,87,103,59,91,107,115,61,93,109,117,121,62,94,110,118,122,124,63,95,111,119,123,125,126,127]
noncomputable def aLT:List Nat:=[0,1,2,4,8,16,32,64,128,3,5,9,17,33,65,129,6,10,18,34,66,130,12,20,36,68,132,24,40,72,136,48,80,144,96,160,192,7,11,19,35,67,131,13,21,37,69,133,25,41,73,137,49,81,145,97,161,193,14,22,38,70,134,26,42,74,138,50,82,146,98,162,194,28,44,76,140,52,84,148,100,164,196,56,88,152,104,168,200,112,176,208,224,15,23,39,71,135,27,43,75,139,51,83,147,99,163,195,29,45,77,141,53,85,149,101,165,197,57,89,153,105,169,201,113,177,209,225,30,46,78,142,54,86,150,102,166,198,58,90,154,106,170,202,114,178,210,226,60,92,156,108,172,204,116,180,212,228,120,184,216,232,240,31,47,79,143,55,87,151,103,167,199,59,91,155,107,171,203,115,179,211,227,61,93,157,109,173,205,117,181,213,229,121,185,217,233,241,62,94,158,110,174,206,118,182,214,230,122,186,218,234,242,124,188,220,236,244,248,63,95,159,111,175,207,119,183,215,231,123,187,219,235,243,125,189,221,237,245,249,126,190,222,238,246,250,252,127,191,223,239,247,251,253,254,255]
theorem aRY:oX 6 0 (Aj 64) [] 32 (fF [(bY,0)] 32 64) [(0,32,0)]=true:=by decide +kernel
theorem aRX:oX 6 32 (fF [(bY,0)] 32 64) [(0,32,0)] 64 (fF [(bY,0),(bY,32)] 64 64) [(0,32,1),(32,32,0)]=true:=by decide +kernel
theorem aTH:aGI 6 (fF [(bY,0),(bY,32)] 64 64) [(0,32,1),(32,32,0)] fB [(0,64,1)]=true:=by decide +kernel
theorem aUF:sN (eX 6) fB.toArray:=aAF (by decide +kernel) (dQ (n:=63) aRY (dQ (n:=62) aRX (aBA (n:=61)))) (kJ (n:=63) aTH (aBX (n:=62)))
theorem aRW:oX 7 0 (Aj 128) [] 32 (fF [(bY,0)] 32 128) [(0,32,0)]=true:=by decide +kernel
theorem aRV:oX 7 32 (fF [(bY,0)] 32 128) [(0,32,0)] 64 (fF [(bY,0),(bY,32)] 64 128) [(0,32,2),(32,32,0)]=true:=by decide +kernel
theorem aRU:oX 7 64 (fF [(bY,0),(bY,32)] 64 128) [(0,32,2),(32,32,0)] 96 (fF [(fB,0),(bY,64)] 96 128) [(0,64,1),(64,32,0)]=true:=by decide +kernel
theorem aRT:oX 7 96 (fF [(fB,0),(bY,64)] 96 128) [(0,64,1),(64,32,0)] 128 (fF [(fB,0),(bY,64),(bY,96)] 128 128) [(0,64,1),(64,32,2),(96,32,0)]=true:=by decide +kernel
theorem aTG:aGI 7 (fF [(fB,0),(bY,64),(bY,96)] 128 128) [(0,64,1),(64,32,2),(96,32,0)] (fF [(fB,0),(fB,64)] 128 128) [(0,64,1),(64,64,2)]=true:=by decide +kernel
theorem aTF:aGI 7 (fF [(fB,0),(fB,64)] 128 128) [(0,64,1),(64,64,2)] hZ [(0,128,1)]=true:=by decide +kernel
theorem aWB:sN (eX 7) hZ.toArray:=aAF (by decide +kernel) (dQ (n:=127) aRW (dQ (n:=126) aRV (dQ (n:=125) aRU (dQ (n:=124) aRT (aBA (n:=123)))))) (kJ (n:=127) aTG (kJ (n:=126) aTF (aBX (n:=125))))
theorem aRS:oX 8 0 (Aj 256) [] 32 (fF [(bY,0)] 32 256) [(0,32,0)]=true:=by decide +kernel
theorem aRR:oX 8 32 (fF [(bY,0)] 32 256) [(0,32,0)] 64 (fF [(bY,0),(bY,32)] 64 256) [(0,32,3),(32,32,0)]=true:=by decide +kernel
theorem aRQ:oX 8 64 (fF [(bY,0),(bY,32)] 64 256) [(0,32,3),(32,32,0)] 96 (fF [(fB,0),(bY,64)] 96 256) [(0,64,2),(64,32,0)]=true:=by decide +kernel
theorem aRP:oX 8 96 (fF [(fB,0),(bY,64)] 96 256) [(0,64,2),(64,32,0)] 128 (fF [(fB,0),(bY,64),(bY,96)] 128 256) [(0,64,2),(64,32,3),(96,32,0)]=true:=by decide +kernel
theorem aRO:oX 8 128 (fF [(fB,0),(bY,64),(bY,96)] 128 256) [(0,64,2),(64,32,3),(96,32,0)] 160 (fF [(hZ,0),(bY,128)] 160 256) [(0,128,1),(128,32,0)]=true:=by decide +kernel
theorem aRN:oX 8 160 (fF [(hZ,0),(bY,128)] 160 256) [(0,128,1),(128,32,0)] 192 (fF [(hZ,0),(bY,128),(bY,160)] 192 256) [(0,128,1),(128,32,3),(160,32,0)]=true:=by decide +kernel
theorem aRM:oX 8 192 (fF [(hZ,0),(bY,128),(bY,160)] 192 256) [(0,128,1),(128,32,3),(160,32,0)] 224 (fF [(hZ,0),(fB,128),(bY,192)] 224 256) [(0,128,1),(128,64,2),(192,32,0)]=true:=by decide +kernel
theorem aRL:oX 8 224 (fF [(hZ,0),(fB,128),(bY,192)] 224 256) [(0,128,1),(128,64,2),(192,32,0)] 256 (fF [(hZ,0),(fB,128),(bY,192),(bY,224)] 256 256) [(0,128,1),(128,64,2),(192,32,3),(224,32,0)]=true:=by decide +kernel
theorem aTE:aGI 8 (fF [(hZ,0),(fB,128),(bY,192),(bY,224)] 256 256) [(0,128,1),(128,64,2),(192,32,3),(224,32,0)] (fF [(hZ,0),(fB,128),(fB,192)] 256 256) [(0,128,1),(128,64,2),(192,64,3)]=true:=by decide +kernel
theorem aTD:aGI 8 (fF [(hZ,0),(fB,128),(fB,192)] 256 256) [(0,128,1),(128,64,2),(192,64,3)] (fF [(hZ,0),(hZ,128)] 256 256) [(0,128,1),(128,128,2)]=true:=by decide +kernel
theorem aTC:aGI 8 (fF [(hZ,0),(hZ,128)] 256 256) [(0,128,1),(128,128,2)] aLT [(0,256,1)]=true:=by decide +kernel
theorem aWA:sN (eX 8) aLT.toArray:=aAF (by decide +kernel) (dQ (n:=255) aRS (dQ (n:=254) aRR (dQ (n:=253) aRQ (dQ (n:=252) aRP (dQ (n:=251) aRO (dQ (n:=250) aRN (dQ (n:=249) aRM (dQ (n:=248) aRL (aBA (n:=247)))))))))) (kJ (n:=255) aTE (kJ (n:=254) aTD (kJ (n:=253) aTC (aBX (n:=252)))))
end L2
namespace L2
open PySem PySem.Spec PyProof.Rows PySem.W
theorem DefAt.fcC{P:Program}{w:World}{K:AD}{mg:Str→Option Value}{base:Heap}{x:Str}{st:Stmt}{N ps:List Str}{k:Nat}{sp:Sp}{c T:Addr}(D:DefAt K mg x st ps)(B:TabB K mg base x c T)(S:FnScope N ps (aF st))(len:∀ vs H Q E,sp vs H Q E→vs.length=ps.length)
 (hbody:∀ (f:Addr) (A:Around) (outer:List Env) (s:Shared) (H:Hp) (vs:List V) (Q:VK) (E:XK),Room k (A.deeper (envOfC x (aF st) s.heap.objs.size f (.ref c)))→sp vs H Q E →
   ∃ t,PSs (gZ CX0 P w K mg base N x (aF st) f (.ref c) A outer s H E).nox (cQ st) t∧t { nx:=fun _ H'=>Q .non H',rt:=Q } (start N vs) H):Fc P w K mg base (k+1) x ps sp:=by
 obtain⟨f,fd,F,b,m⟩:=D.ex
 have hc:fd.code=.ref c:=by
  obtain⟨oc,od,kV,doc,pm,an,cdv,ct,osl,rfl,lk,hcd⟩:=F.ex
  exact B.cd f _ _ m lk rfl
 exact⟨f,fd,F.okC hc S len fun A outer s H vs Q E hr h=>hbody f A outer s H vs Q E hr h,b,m,F.kp⟩
theorem aED{H:Hp}:∀ {nss:List (List Int)} {us:List V},IsL H (nss.map fun ns=>Dv.lst (ns.map Dv.int)) us→∃ ps:List (Addr×List Int),us=ps.map (fun p=>V.ref p.1)∧jD H ps∧ps.map (·.2)=nss
 | [],us,h=>⟨[],h,(fun p (m:p∈([]:List (Addr×List Int)))=>absurd m Bz),rfl⟩
 | ns :: nss,us,h=>by
  obtain⟨v,vs,rfl,⟨a,xs,rfl,ha,hx⟩,r⟩:=h
  obtain⟨ps,rfl,it,e⟩:=aED r
  have ex:xs=ns.map V.int:=by
   clear ha e it r
   induction ns generalizing xs with
   | nil=>exact hx
   | cons n ns ih =>
    obtain⟨v,vs,rfl,e,r⟩:=hx
    cases (show v=.int n from e)
    rw[ih vs r]
    rfl
  subst ex
  refine⟨(a,ns) :: ps,rfl,fun p m=>?_,by rw[AX,e]⟩
  rcases AZ.mp m with rfl | m
  ·exact ha
  ·exact it p m
theorem kO:∀ k,∀ ns∈eX k,ns.length≤k
 | 0,ns,m=>by rw[AL.mp m];exact AS _
 | k+1,ns,m=>by
  unfold eX at m
  rcases Ab.mp m with m | m
  ·exact Nat.le_succ_of_le (kO k ns m)
  ·obtain⟨ms,mm,rfl⟩:=AN.mp m
   rw[AW,Bq]
   exact Nat.succ_le_succ (kO k ms mm)
noncomputable def aDP:Nat→List Nat
 | 5=>bY
 | 6=>fB
 | 7=>hZ
 | 8=>aLT
 | n=>aDO n
theorem aOF:yF (eX 5)=some bY.toArray:=by decide +kernel
theorem aAP:∀ n,1≤n→n≤8→sN (eX n) (aDP n).toArray∧(∀ i∈aDP n,i<(eX n).length)∧(aDP n).length=(eX n).length∧∀ i<(eX n).length,i∈aDP n
 | 0,h,_=>by omega
 | 1,_,_=>⟨jU aOJ (by decide) (by decide),by decide,rfl,by decide⟩
 | 2,_,_=>⟨jU aOI (by decide) (by decide),by decide,rfl,by decide⟩
 | 3,_,_=>⟨jU aOH (by decide) (by decide),by decide,rfl,by decide⟩
 | 4,_,_=>⟨jU aOG (by decide) (by decide),by decide,rfl,by decide⟩
 | 5,_,_=>⟨jU aOF (by decide +kernel) (by decide +kernel),by decide +kernel,by decide +kernel,by decide +kernel⟩
 | 6,_,_=>⟨aUF,by decide +kernel,by decide +kernel,by decide +kernel⟩
 | 7,_,_=>⟨aWB,by decide +kernel,by decide +kernel,by decide +kernel⟩
 | 8,_,_=>⟨aWA,by decide +kernel,by decide +kernel,by decide +kernel⟩
 | n+9,_,h=>by omega
noncomputable def vQ(n:Nat):List (List Int):=(aDP n).map fun i=>(eX n).getD i []
theorem aDM{n:Nat}(h1:1≤n)(h4:n≤8){ns:List Int}:ns∈vQ n↔ns∈eX n:=by
 obtain⟨_,a,b,c⟩:=aAP n h1 h4
 unfold vQ
 rw[AN]
 constructor
 ·rintro⟨i,m,rfl⟩
  have hi:=a i m
  rw[Ad,AC hi]
  exact Db hi
 ·intro m
  obtain⟨i,hi,e⟩:=List.getElem_of_mem m
  exact⟨i,c i hi,by rw[Ad,AC hi];exact e⟩
end L2
namespace Mt74
open PySem L2 Mt22 Mt61
noncomputable def low(a b:Int):Int×Int:=(a / ((Int.gcd a b:Nat):Int),b / ((Int.gcd a b:Nat):Int))
open Classical in
noncomputable def bt(ms:List Nat)(j:Nat):Nat:=if j∈ms then 1 else 0
noncomputable def places(m:Nat):List Nat:=(Aj 8).filter fun i=>decide (m / 2 ^ i % 2=1)
noncomputable def ev(u:Nat→Int)(L:List (Int×Nat)):Int:=sm L fun p=>p.1*u p.2
noncomputable def aQZ:List Int→Nat→Int→List Int
 | [],_,_=>[]
 | x :: r,0,c=>(x+c) :: r
 | x :: r,k+1,c=>x :: aQZ r k c
noncomputable def dot(u:Nat→Int):List Int→Nat→Int
 | [],_=>0
 | x :: r,j=>x*u j+dot u r (j+1)
noncomputable def aTA(l:List Int):List (Int×Nat)→List Int
 | []=>l
 | p :: L=>aTA (aQZ l p.2 p.1) L
noncomputable def fac:Nat→Nat
 | 0=>1
 | n+1=>fac n*(n+1)
structure Fair (zs:List Str) (v:List Str→Int):Prop where
 cg:∀ a b:List Str,(∀ z,z∈a↔z∈b)→v a=v b
 none:v []=0
 mono:∀ a b:List Str,(∀ z∈a,z∈b)→(∀ z∈b,z∈zs)→v a≤v b
end Mt74
namespace Mt63
open PySem L2
noncomputable def eF{α:Type}:Nat→List α→List (List α)
 | 0,_=>[[]]
 | _+1,[]=>[]
 | m+1,x :: xs=>(eF m xs).map (x :: ·)++eF (m+1) xs
theorem kC{α:Type}:∀ xs:List α,eF 0 xs=[[]]
 | []=>rfl
 | _ :: _=>rfl
theorem vR{α β:Type}(f:α→β):∀ (m:Nat) (xs:List α),eF m (xs.map f)=(eF m xs).map (List.map f)
 | 0,_=>by rw[kC,kC];rfl
 | _+1,[]=>rfl
 | m+1,x :: xs=>by
  show (eF m (xs.map f)).map (f x :: ·)++eF (m+1) (xs.map f)=((eF m xs).map (x :: ·)++eF (m+1) xs).map (List.map f)
  rw[vR f m xs,vR f (m+1) xs,AF,Aq,Aq]
  rfl
theorem kD{α:Type}:∀ (m:Nat) (xs:List α),(eF m xs).length≤2 ^ xs.length
 | 0,xs=>by rw[kC];exact Nat.one_le_two_pow
 | _+1,[]=>BK _
 | m+1,x :: xs=>by
  have h1:=kD m xs
  have h2:=kD (m+1) xs
  show ((eF m xs).map (x :: ·)++eF (m+1) xs).length≤2 ^ (xs.length+1)
  rw[AW,AA,Nat.pow_succ]
  omega
theorem mL{α:Type}:∀ (m:Nat) (xs ys:List α),ys∈eF m xs→ys.Sublist xs
 | 0,xs,ys,h=>by rw[kC] at h;rw[AL.mp h];exact List.nil_sublist _
 | _+1,[],ys,h=>nomatch h
 | m+1,x :: xs,ys,h=>by
  rcases Ab.mp (show ys∈(eF m xs).map (x :: ·)++eF (m+1) xs from h) with h | h
  ·obtain⟨zs,mz,rfl⟩:=AN.mp h
   exact (mL m xs zs mz).cons₂ x
  ·exact (mL (m+1) xs ys h).cons x
theorem aJI:∀ n,1≤n→n≤8→vQ n=(Aj (n+1)).flatMap fun m=>eF m ((Aj n).map EJ):=by
 intro n n1 n8
 have:n=1∨n=2∨n=3∨n=4∨n=5∨n=6∨n=7∨n=8:=by omega
 rcases this with rfl | rfl | rfl | rfl | rfl | rfl | rfl | rfl <;> decide +kernel
theorem aIT{α:Type}(f:Int→α){zs:List α}(e:(Aj zs.length).map (fun i=>f (EJ i))=zs)(n1:1≤zs.length)(n8:zs.length≤8):(vQ zs.length).map (fun ns=>ns.map f)=(Aj (zs.length+1)).flatMap fun m=>eF m zs:=by
 rw[aJI _ n1 n8,List.map_flatMap]
 congr 1
 funext m
 have:=vR f m ((Aj zs.length).map EJ)
 rw[← this,Aq]
 congr 1
theorem aJJ{α:Type}{m i:Nat}{xs:List α}{x:α}(e:xs[i]?=some x):eF (m+1) (xs.drop i)=(eF m (xs.drop (i+1))).map (x :: ·)++eF (m+1) (xs.drop (i+1)):=by
 obtain⟨h,rfl⟩:=AB.mp e
 rw[Cf h]
 rfl
end Mt63
namespace Mt61
open PySem L2 Mt22 Mt31
structure CameG (zs:List Str) (S:List Mt22.St) (cm:Cm):Prop where
 nd:(keys cm).Nodup
 le:zs.length≤cm.length
 first:∀ (i:Nat) (z:Str),zs[i]?=some z→cm[i]?=some (z,none)
 prev:∀ (i:Nat) (z:Str) (o:Option Mt22.St),zs.length≤i→cm[i]?=some (z,o)→∃ s,o=some s∧s∈S∧s.far=z∧s.near∈keys (cm.take i)
theorem CameG.snoc{zs:List Str}{S:List Mt22.St}{cm:Cm}(h:CameG zs S cm){s:Mt22.St}(ms:s∈S)(hn:s.near∈keys cm)(hf:s.far∉keys cm):CameG zs S (cm++[(s.far,some s)]) where
 nd:=by
  rw[kF,Cp]
  refine⟨h.nd,by simp[keys],fun a ha b hb=>?_⟩
  have:b=s.far:=by simpa [keys] using hb
  rw[this]
  exact fun e=>hf (e▸ha)
 le:=by
  rw[AW]
  have:=h.le
  omega
 first i z e:=by
  have:=(AB.mp e).1
  have:=h.le
  rw[BQ (by omega)]
  exact h.first i z e
 prev i z o hi e:=by
  by_cases hl:i<cm.length
  ·rw[BQ hl] at e
   obtain⟨t,h1,h2,h3,h4⟩:=h.prev i z o hi e
   exact⟨t,h1,h2,h3,by rw[List.take_append_of_le_length (Ej hl)];exact h4⟩
  ·have hlen:=(AB.mp e).1
   rw[AW] at hlen
   have hi':i=cm.length:=by
    have:([(s.far,some s)]:Cm).length=1:=rfl
    omega
   subst hi'
   rw[Bo (AS _),Eh] at e
   cases e
   refine⟨s,rfl,ms,rfl,?_⟩
   rw[List.take_append_of_le_length (AS _),AE (AS _)]
   exact hn
theorem CameG.init{zs:List Str}(S:List Mt22.St)(nd:zs.Nodup):CameG zs S (zs.map fun z=>(z,none)) where
 nd:=by
  have:keys (zs.map fun z=>((z,none):Str×Option Mt22.St))=zs:=by unfold keys;rw[Aq];exact List.map_id _
  rw[this]
  exact nd
 le:=by rw[AA];exact AS _
 first i z e:=by rw[AI,e];rfl
 prev i z o hi e:=by
  have:=(AB.mp e).1
  rw[AA] at this
  omega
theorem CameG.came{S:List Mt22.St}{cm:Cm}(h:CameG [Mt22.sea] S cm):Came S cm:=⟨h.nd,h.first 0 _ rfl,fun i z o hi e=>h.prev i z o (by show 1≤i;omega) e⟩
theorem CameG.mem{zs:List Str}{S:List Mt22.St}{cm:Cm}(h:CameG zs S cm){z:Str}(m:z∈keys cm):z∈zs∨∃ s∈S,s.far=z:=by
 unfold keys at m
 obtain⟨x,mx,rfl⟩:=AN.mp m
 obtain⟨i,hi⟩:=BD.mp mx
 by_cases hl:i<zs.length
 ·obtain⟨z,ez⟩:∃ z,zs[i]?=some z:=⟨_,AC hl⟩
  have:=h.first i z ez
  rw[hi] at this
  cases this
  exact .inl (AG ez)
 ·obtain⟨s,_,ms,e,_⟩:=h.prev i x.1 x.2 (by omega) hi
  exact .inr ⟨s,ms,e⟩
theorem CameG.start{zs:List Str}{S:List Mt22.St}{cm:Cm}(h:CameG zs S cm){z:Str}(m:z∈zs):z∈keys cm:=by
 obtain⟨i,hi⟩:=BD.mp m
 exact AN.mpr ⟨_,AG (h.first i z hi),rfl⟩
theorem mO{S:List Mt22.St}{cm:Cm}(c:uD S cm cm.length):∀ s∈S,s.near∈keys cm→s.far∈keys cm:=fun s ms hn=>by
 obtain⟨i,hi⟩:=BD.mp hn
 have hl:=(AB.mp hi).1
 unfold keys at hl
 rw[AA] at hl
 exact c i _ hl hi s ms rfl
end Mt61
namespace Mt05
open PySem L2 Ld Mt02
def noS(z:Str):Prop:=¬ (115:Nat)∈z.cps.toList
structure NamesS (zs:List Str) (n:Nat):Prop where
 nm:Names zs n
 nos:∀ z∈zs,noS z
end Mt05
namespace Mt53
open PySem L2 Ld Mt02 Mt04
noncomputable def aLN:Dv→Int
 | .tup [_,_,_,_,.int r,_]=>r
 | _=>0
noncomputable def vO(ds:List Dv)(z:Str):Int:=(ds.find? fun d=>decide (aP d=z)).elim 0 aLN
theorem aHT{ds:List Dv}(nd:(ds.map aP).Nodup){d:Dv}(m:d∈ds):vO ds (aP d)=aLN d:=by
 have:(ds.find? fun e=>decide (aP e=aP d))=some d:=by
  induction ds with
  | nil=>cases m
  | cons e ds ih =>
   rw[AX,Ap] at nd
   rw[Bl]
   rcases AZ.mp m with rfl | m
   ·rw[decide_eq_true rfl]
   ·have hne:aP e≠aP d:=fun c=>nd.1 (c▸AN.mpr ⟨d,m,rfl⟩)
    rw[decide_eq_false hne]
    exact ih nd.2 m
 show (ds.find? fun e=>decide (aP e=aP d)).elim 0 aLN=_
 rw[this]
 rfl
noncomputable def aEN(ds:List Dv)(w:Dv):Int:=vO ds (aP w)*(hOf w - gI ds (aP w))
noncomputable def aBZ(ds ws:List Dv):Int:=(ws.map (aEN ds)).sum
end Mt53
namespace L2
open PySem PySem.Spec PyProof.Rows
section
variable{X:Cx}{tg:Expr}
def aSZ(td:TE):TI:=fun σ H R=>td σ H fun x H1=>∃ d o kvs,x=.ref d∧H1 d=some (.frz o (.dK kvs))∧R (Itd d o kvs) H1
theorem aLS{l:Expr}{tl:TE}(hl:PE X l tl):PI X tg l (aSZ tl):=by
 intro pins s σ H R I h
 refine thn (hl pins s σ H _ I h) fun v s1 ⟨x,H1,I1,r1,q1⟩=>?_
 obtain⟨d,o,kvs,e,hH,q⟩:=q1
 subst e
 cases r1
 have hok:=I1.hok d _ hH
 obtain⟨ho,hz,lo,vs,kv,hD⟩:=(show cE X.prog X.w H1 s1.heap d (.frz o (.dK kvs)) from hok)
 obtain⟨ep,hat⟩:=hD.dictAt
 refine wpAny_pyIter_dict lo hat ?_
 refine⟨s1.heap.objs.size,[s1.heap.objs.size],_,_,H1,rfl,I1.kept (t':=s1.toks) fun b ob e=>AJ _ e,xY kv ho hat,⟨_,Ah _ rfl,rfl,rfl⟩,fun b hb=>?_,q⟩
 have e:b=s1.heap.objs.size:=by simpa using hb
 subst e
 exact I1.fpOk (AS _) (I1.hok.fresh (AS _))
theorem zU(hc:X.calm=true):gK X (.builtin "min") (fun xs H Q=>∃ (p:Addr) (ns:List Int),xs=[.ref p]∧SqL X.K H p (ns.map V.int)∧0<ns.length∧∀ M,M∈ns→(∀ a∈ns,M≤a)→Q (.int M) H):=by
 intro pins s σ H xs us Q I r h
 obtain⟨p,ns,rfl,hq,h0,q⟩:=h
 obtain⟨u,rfl,ru⟩:=bF.one r
 cases ru
 obtain⟨its,rv,pl,hz⟩:=I.list hq
 have hi:=wN rv
 obtain⟨ys,ey⟩:=hi.allInts.items
 have en:ns=ys.toList.map fun x=>x.1:=by
  have h1:=nums_intItems ys
  rw[← ey] at h1
  rw[← h1]
  exact hi.numsOf.symm
 have hl:s.heap.IsList p (intItems ys):=by rw[← ey];exact pl.isList
 have hlen:ns.length=ys.size:=by rw[en,AA,Bf]
 refine min_intList (I.ok.hd hc) hl (by omega) fun v h' tk hv hk=>?_
 obtain⟨tv,rfl⟩:=intItems_at hv
 obtain⟨g1,g2⟩:=aEA (numAt ys) (ys.size - 1)
 refine⟨.int _,H,I.kept (t':=tk) hk,⟨_,rfl⟩,q _ ?_ fun a ma=>?_⟩
 ·rw[numAt_eq,← en,Ad,AC (show argBest (fun i j=>decide (numAt ys i<numAt ys j)) (ys.size - 1)<ns.length by omega)]
  exact Db _
 ·obtain⟨j,hj⟩:=BD.mp ma
  have hjl:=(AB.mp hj).1
  have:=g2 j (by omega)
  rw[numAt_eq ys j,← en,Ad,hj] at this
  exact this
end
end L2
namespace L2
open PySem PySem.Spec PyProof.Rows
def CX2(P:Program)(w:World):CXT:=fun outer H s E e s'=>∃ (ea:Addr) (cls a0:Value) (B:Heap) (H':Hp),e=.ref ea∧s'.os=s.os∧AllBare s'.gens∧Un (frs outer) [] H H' s.heap s'.heap∧HOk P w H' s'.heap ∧
 Dj B outer ea cls a0 s'.heap∧(∀ b o o',s.heap.get? b=some o→s'.heap.get? b=some o'→b∉frs outer→B.get? b=some o')∧(∀ b o',H' b≠none→s'.heap.get? b=some o'→B.get? b=some o')∧E cls none H'
section
variable{X:Cx}{pins:List (Addr×Obj)}{σ:St}{H H':Hp}{s s':Shared}{B h2:Heap}{ea:Addr}{cls a0:Value}
theorem aMZ(I:Inv X pins σ H s)(u:Un (frs X.stack) [] H H' s.heap s'.heap)(hB:∀ b o o',s.heap.get? b=some o→s'.heap.get? b=some o'→b∉frs X.stack→B.get? b=some o')
 (k:B.StaysIn h2)(us:s'.heap.UpToSlots h2):Un (frs X.stack) [] H H' s.heap h2 where
 keep:=fun b o e n hb hx=>k b o (hB b o o e (u.keep b o e n hb hx) hb)
 slot:=fun b o e n hb hx=>by
  obtain⟨sl,e1⟩:=u.slot b o e n hb hx
  obtain⟨_,o1,e2,hd⟩:=I.stack.mem hb
  rw[e] at e2
  cases e2
  obtain⟨sl',e3⟩:=us b _ e1 hd
  exact⟨sl',e3⟩
 free:=u.free
 there:=fun b o e hx=>by
  obtain⟨o',e1⟩:=u.there b o e hx
  by_cases hb:b∈frs X.stack
  ·obtain⟨_,o1,e2,hd⟩:=I.stack.mem hb
   rw[e] at e2
   cases e2
   obtain⟨sl,e3⟩:=u.slot b o e (I.stkFree b hb) hb hx
   obtain⟨sl',e4⟩:=us b _ e3 hd
   exact⟨_,e4⟩
  ·exact⟨o',k b o' (hB b o o' e e1 hb)⟩
 tups:=u.tups
 frzs:=u.frzs
 tbls:=u.tbls
theorem aII{P:Program}{w:World}(ok:HOk P w H' s'.heap)(hT:∀ b o',H' b≠none→s'.heap.get? b=some o'→B.get? b=some o')(k:B.StaysIn h2):HOk P w H' h2:=fun a o e =>
 (ok a o e).stay (fun b v hb q=>k b v (hT b v (by
  rcases hb with rfl | hb
  ·rw[e];simp
  ·rw[hb];simp) q)) (fun _ q=>q) fun _ _ q=>q
theorem aIH(I:Inv X pins σ H s)(os:s'.os=s.os)(bare:AllBare s'.gens)(u:Un (frs X.stack) [] H H' s.heap s'.heap)(ok:HOk X.prog X.w H' s'.heap)(hB:∀ b o o',s.heap.get? b=some o→s'.heap.get? b=some o'→b∉frs X.stack→B.get? b=some o')
 (hT:∀ b o',H' b≠none→s'.heap.get? b=some o'→B.get? b=some o')(k:B.StaysIn h2)(us:s'.heap.UpToSlots h2):Inv X pins σ H' { s' with heap:=h2 } :=
 I.call' (s':={ s' with heap:=h2 }) (ch:=[]) os (aMZ I u hB k us) (aII ok hT k) bare fun b z=>absurd z (by simp)
end
theorem cE.has{P:Program}{w:World}{H:Hp}{h:Heap}{a:Addr}{o:HO}(x:cE P w H h a o):∃ u,h.get? a=some u:=by
 cases o with
 | lst xs=>obtain⟨_,_,_,_,e⟩:=x;exact⟨_,e⟩
 | tup xs=>obtain⟨_,_,_,ob,e,_⟩:=x;exact⟨_,e⟩
 | dK kvs=>obtain⟨_,_,_,_,o,_,_,e,_⟩:=x;exact⟨_,e⟩
 | dT kvs=>obtain⟨_,_,_,_,o,_,_,e,_⟩:=x;exact⟨_,e⟩
 | set S n=>obtain⟨o,_,_,_,e,_⟩:=x;exact⟨_,e⟩
 | ins C dx fs=>obtain⟨_,_,_,e,_⟩:=x;exact⟨_,e⟩
 | own y=>obtain⟨_,e⟩:=x;exact⟨_,e⟩
 | xd fs=>obtain⟨_,⟨_,_,_,e,_⟩,_⟩:=x;exact⟨_,e⟩
 | rng lo hi=>obtain⟨_,_,_,e⟩:=x;exact⟨_,e⟩
 | frz ob u=>obtain⟨e,_⟩:=x;exact⟨_,e⟩
 | tbl ps=>exact⟨_,show h.get? a=some _ from x⟩
 | met f y=>exact⟨_,show h.get? a=some _ from x⟩
 | ext φ=>obtain⟨_,⟨_,e⟩,_⟩:=x;exact⟨_,e⟩
theorem HOk.has{P:Program}{w:World}{H:Hp}{h:Heap}{a:Addr}(x:HOk P w H h)(e:H a≠none):∃ u,h.get? a=some u:=by
 cases q:H a with
 | none=>exact absurd q e
 | some o=>exact (x a o q).has
section
variable{P:Program}{w:World}{K:AD}{mg:Str→Option Value}{base:Heap}{N:List Str}{qual:Str}{scope:Scope}{f:Addr}{cd:Value}{A:Around}{outer:List Env}{s:Shared}{H:Hp}{E:XK}
theorem aIG{pins:List (Addr×Obj)}{σ:St}{H1 H':Hp}{s1 s':Shared}{B h2:Heap}{ea:Addr}{cls a0:Value}(I:Inv (gZ (CX2 P w) P w K mg base N qual scope f cd A outer s H E) pins σ H1 s1)(os:s'.os=s1.os)(bare:AllBare s'.gens)
 (u:Un (frs (envOfC qual scope s.heap.objs.size f cd :: outer)) [] H1 H' s1.heap s'.heap)(ok:HOk P w H' s'.heap)(hB:∀ b o o',s1.heap.get? b=some o→s'.heap.get? b=some o'→b∉frs (envOfC qual scope s.heap.objs.size f cd :: outer)→B.get? b=some o')
 (hT:∀ b o',H' b≠none→s'.heap.get? b=some o'→B.get? b=some o')(fl:Dj B outer ea cls a0 h2)(us:s'.heap.UpToSlots h2)(q:E cls none H'):CX2 P w outer H s E (.ref ea) { s' with heap:=h2 }:=by
 have J:=aIH (h2:=h2) I os bare u ok hB hT fl.1 us
 refine⟨ea,cls,a0,B,H',rfl,J.os,J.bare,J.base,J.hok,fl,fun b o o' e e' nb=>?_,fun b o' n e'=>?_,q⟩
 ·obtain⟨o1,e1⟩:=I.base.there b o e (fun z=>absurd z (by simp[gZ]))
  obtain⟨o2,e2⟩:=u.there b o1 e1 (by simp)
  have hb:b∉frs (envOfC qual scope s.heap.objs.size f cd :: outer):=fun z=>by
   have lt:b<s.heap.objs.size:=AV e
   have z':b∈s.heap.objs.size :: frs outer:=z
   rcases AZ.mp z' with r | r
   ·exact absurd lt (by rw[r];exact CI _)
   ·exact nb r
  have e3:=hB b o1 o2 e1 e2 hb
  have e4:=fl.1 b o2 e3
  rw[show h2.get? b=some o' from e'] at e4
  cases e4
  exact e3
 ·obtain⟨o2,e2⟩:=ok.has n
  have e3:=hT b o2 n e2
  have e4:=fl.1 b o2 e3
  rw[show h2.get? b=some o' from e'] at e4
  cases e4
  exact e3
theorem aPE:lH (CX2 P w) (gZ (CX2 P w) P w K mg base N qual scope f cd A outer s H E) E:=fun pins σ H1 s1 e s' I h=>by
 obtain⟨ea,cls,a0,B,H',rfl,os,bare,u,ok,fl,hB,hT,q⟩:=h
 exact wpAny_leaves_onW (env:=envOfC qual scope s.heap.objs.size f cd) (outer:=outer) I.ok.frames rfl fl fun h2 fl2 us=>aIG I os bare u ok hB hT fl2 us q
theorem aOR{pins:List (Addr×Obj)}{σ:St}{H1:Hp}{s1:Shared}{h1:Heap}{e:Addr}{cls:Value}{args:List Value}(I:Inv (gZ (CX2 P w) P w K mg base N qual scope f cd A outer s H E) pins σ H1 s1)(hx:Heap.MadeExcOf s1.heap h1 e cls args)(q:E cls none H1) :
  (gZ (CX2 P w) P w K mg base N qual scope f cd A outer s H E).xe (.ref e) { s1 with heap:=h1 }:=by
 have S:s1.heap.FunFrames base (envOfC qual scope s.heap.objs.size f cd :: outer):=I.stack
 have hin:∀ v∈envOfC qual scope s.heap.objs.size f cd :: outer,∀ b,v.frame=some b→b∈frs (envOfC qual scope s.heap.objs.size f cd :: outer):=fun v hv b hb=>ES.mpr ⟨v,hv,hb⟩
 refine wpAny_leaves_madeW (base:=PySem.W.hideAll s1.heap (frs (envOfC qual scope s.heap.objs.size f cd :: outer))) (h:=s1.heap) (env:=envOfC qual scope s.heap.objs.size f cd) (outer:=outer) I.ok.frames rfl (fun b o z=>PySem.W.of_hideAll _ z) (PySem.W.funFrames_hide S hin) hx fun h2 t fl _ _ us=>?_
 refine aIG (s1:=s1) (s':={ s1 with heap:=h1 }) I rfl I.bare (Un.kept hx.keeps) (I.hok.kept hx.keeps) (fun b o o' e1 e2 nb=>?_) (fun b o' n e2=>?_) fl us q
 ·have e3:=hx.keeps b o e1
  rw[show h1.get? b=some o' from e2] at e3
  cases e3
  exact Dw _ e1 nb
 ·obtain⟨o,e1⟩:=I.hok.has n
  have e3:=hx.keeps b o e1
  rw[show h1.get? b=some o' from e2] at e3
  cases e3
  exact Dw _ e1 fun z=>n (I.stkFree b z)
end
end L2
namespace L2
open PySem PySem.Spec PyProof.Rows
abbrev aQK:List Value:=[.type "ValueError",.type "Exception",.type "BaseException",.type "object"]
structure ExcC (K:AD) (C:Addr):Prop where
 q:PySem.W.excIn K C aQK "ValueError.__new__"=true
theorem ExcC.own{K:AD}{C:Addr}{h:Heap}{x:Str}{mg:Str→Option Value}(E:ExcC K C)(X:K.In h)(hm:mg x=some (.ref C)):OwnCls x C aQK "ValueError.__new__" mg h:=by
 refine⟨hm,?_⟩
 have q:=E.q
 unfold PySem.W.excIn at q
 split at q
 ·rename_i d2 c2 l2 look
  split at q
  ·rename_i C2 tl a0 a1 a2 a3 id2 a5 em es
   have q1:=Ai.mp q
   have q2:=Ai.mp q1.1
   have q3:=Ai.mp q2.1
   have q4:=Ai.mp q3.1
   have q5:=Ai.mp q4.1
   obtain rfl:C2=C:=beq_iff_eq.mp q5.1
   obtain rfl:id2="ValueError.__new__":=beq_iff_eq.mp q5.2
   obtain⟨c_1,c_2,c_3,c_4,c_5,c_6,c_7,c_8,c_9,c_10,c_11⟩:=c2
   obtain rfl:c_3=.ref C2 :: tl:=em
   obtain rfl:c_11=false:=by simpa using q4.2
   obtain⟨ll⟩:=l2
   obtain rfl:ll=[a0,a1,a2,a3,some (.builtin "ValueError.__new__"),a5]:=es
   exact⟨tl,c_4,c_1,c_5,c_2,c_6,c_7,c_8,c_9,c_10,d2,a0,a1,a2,a3,a5,_,X _ _ look,.of_isNs (PySem.W.isNs_of_in X q2.2),PySem.W.nsMap_none_of_in X q2.2 (beq_iff_eq.mp q1.2),PySem.W.tail_of_in X q3.2⟩
  ·cases q
 ·cases q
def aNX(X:Cx)(E:XK):Prop:=∀ (pins:List (Addr×Obj)) (σ:St) (H:Hp) (s:Shared) (h1:Heap) (e:Addr) (cls:Value) (args:List Value),Inv X pins σ H s→Heap.MadeExcOf s.heap h1 e cls args→E cls none H→X.xe (.ref e) { s with heap:=h1 }
theorem yU{P:Program}{w:World}{K:AD}{mg:Str→Option Value}{base:Heap}{N:List Str}{qual:Str}{scope:Scope}{f:Addr}{cd:Value}{A:Around}{outer:List Env}{s:Shared}{H:Hp}{E:XK} :
  aNX (gZ (CX2 P w) P w K mg base N qual scope f cd A outer s H E) E:=fun _ _ _ _ _ _ _ _ I hx q=>aOR I hx q
section
variable{X:Cx}{C:Addr}{x:Str}{E:XK}{np cpos pos:Pos}{e:Expr}{es:List Expr}{t:TA}
def aRE(C:Addr)(E:XK)(t:TA):TS:=fun _ σ H=>t σ H fun vs H1=>vs.length≤Ak∧E (.ref C) none H1
theorem aDL(hm:X.mg x=some (.ref C))(EC:ExcC X.K C)(hc:X.calm=true)(R:aNX X E)(ha:PA X (e :: es) t)(hg:Gl X x:=by rfl)(hdb:(x == ("__debug__":Str))=false:=by decide)
 (he:Al (e :: es) X.env=(false,eval e X.env) :: Al es X.env:=by rfl)(hpl:(backTo cpos (Al es X.env)).any (·.1)=false:=by rfl) :
  PS X (.Raise (some (.Call (.Name x np) (e :: es) [] cpos)) none pos) (aRE C E t):=by
 intro pins s σ H D I h
 obtain⟨tl,N,nm,qn,bs,hdct,sn,sub,ab,col,dd,k0,k1,k2,k3,k5,mN,hC,hN,hni,T⟩:=(EC.own I.ok.mod.kin hm).obj
 refine wpAny_Raise_call_subT (C:=C) (N:=N) (nm:=nm) (q:=qn) (bs:=bs) (bm:=tl) (hdct:=hdct) (sn:=sn) (sub:=sub) (ab:=ab) (col:=col) (dd:=dd) (k0:=k0) (k1:=k1) (k2:=k2) (k3:=k3) (k5:=k5)
  PySem.F.excBase_ValueError (mN:=mN) (T.hasType PySem.F.excBase_ValueError.hasBase) (I.ok.hd hc) ?_ hni (nV I hg hm ⟨rfl,?_⟩ hdb)
 ·rw[he]
  show (false || (backTo cpos (Al es X.env)).any (·.1))=false
  rw[hpl]
  rfl
 ·have g:=ha cpos pins s σ H _ I h
  rw[he] at g ⊢
  refine Calls.evalArgs_plain (thn g fun us s2 ⟨vs,H2,I2,rv,hz,q⟩=>?_)
  exact⟨rfl,by rw[← rv.length];exact hz,I2.bk _ _ hC,hN.keeps I2.bk,T.keeps I2.bk,fun h1 ea hx=>R pins σ H2 s2 h1 ea _ _ I2 hx q⟩
end
def CAt(X:Cx)(pins:List (Addr×Obj))(σ:St)(E:XK)(e:Value)(s':Shared):Prop:=∃ s1 H1,Inv X pins σ H1 s1∧CX2 X.prog X.w X.stack H1 s1 E e s'
abbrev TX:=XK→TE
def PX(X:Cx)(e:Expr)(t:TX):Prop :=
 ∀ (pins:List (Addr×Obj)) (s:Shared) (σ:St) (H:Hp) (Q:VK) (E:XK),Inv X pins σ H s→t E σ H Q→wpAny (model X.prog X.w) X.A (eval e X.env) (EP X pins σ Q) (CAt X pins σ E) s
section
variable{X:Cx}{k:Nat}{f C:Addr}{fd:Bb}{ps:List Str}{sp:Sp}{E:XK}{x m:Str}{p pos apos:Pos}{e o:Expr}{es:List Expr}{ta:TE}{t:TA}
theorem aOM{pins:List (Addr×Obj)}{σ:St}{H:Hp}{s:Shared}{Q:VK}{us:List Value}{vs:List V}(F:FnOk X.prog X.w X.K X.mg X.base (CX2 X.prog X.w) k f fd ps sp)(hr:Room k X.A)(hb:gL X.K fd ps [])
 (I:Inv X pins σ H s)(r:bF vs us)(h:sp vs H Q E):wpAny (model X.prog X.w) X.A (call (.ref f) us) (EP X pins σ Q) (CAt X pins σ E) s:=by
 have I':Inv (X.wish (CAt X pins σ E)) pins σ H s:=I.wish _
 have hl:(us++[]).length=ps.length:=by rw[BO,← r.length];exact F.len _ _ _ _ h
 have hb':=hb s us I.kIn hl
 rw[BO] at hb'
 refine DU (CY (F.run X.A X.stack s H ⟨us,[]⟩ us vs Q E hr I.env0 hb' r h) fun z s' hq=>?_)
 cases z with
 | error e=>exact⟨s,H,I,hq⟩
 | ok fl =>
  cases fl with
  | ret u=>exact I.after hq
  | next=>exact BH hq
  | brk=>exact BH hq
  | cont=>exact BH hq
end
end L2
namespace L2
open PySem PySem.Spec PyProof.Rows
structure FcX (P:Program) (w:World) (K:AD) (mg:Str→Option Value) (base:Heap) (k:Nat) (x:Str) (ps:List Str) (sp:Sp):Prop where
 ex:∃ (f:Addr) (fd:Bb),FnOk P w K mg base (CX2 P w) k f fd ps sp∧gL K fd ps []∧mg x=some (.ref f)∧Bm K (.ref f)=true
structure McX (P:Program) (w:World) (K:AD) (mg:Str→Option Value) (base:Heap) (k:Nat) (C:Addr) (m:Str) (ps:List Str) (sp:Sp):Prop where
 ex:∃ (f:Addr) (fd:Bb),FnOk P w K mg base (CX2 P w) k f fd ps sp∧gL K fd ps []∧Meth K C m f
structure IcX (P:Program) (w:World) (K:AD) (mg:Str→Option Value) (base:Heap) (k:Nat) (C:Addr) (ps:List Str) (sp:Sp):Prop where
 ex:∃ (f:Addr) (fd:Bb),FnOk P w K mg base (CX2 P w) k f fd ps sp∧gL K fd ps []∧Mk K C f
section
variable{P:Program}{w:World}{K:AD}{mg:Str→Option Value}{base:Heap}{C:Addr}{x m qual:Str}{st:Stmt}{N ps:List Str}{k:Nat}{sp sp':Sp}
theorem Fun.okX{f:Addr}{fd:Bb}(F:Fun K x qual st f fd)(S:FnScope N ps (aF st))(len:∀ vs H Q E,sp vs H Q E→vs.length=ps.length)
 (hbody:∀ (cdv:Value) (A:Around) (outer:List Env) (s:Shared) (H:Hp) (vs:List V) (Q:VK) (E:XK),Room k (A.deeper (envOfC qual (aF st) s.heap.objs.size f cdv))→sp vs H Q E →
   ∃ t,PSs (gZ (CX2 P w) P w K mg base N qual (aF st) f cdv A outer s H E) (cQ st) t∧t { nx:=fun _ H'=>Q .non H',rt:=Q } (start N vs) H):FnOk P w K mg base (CX2 P w) (k+1) f fd ps sp:=by
 obtain⟨oc,od,kV,doc,pm,an,cdv,ct,osl,rfl,lk,hcd⟩:=F.ex
 exact aMY lk hcd S len fun A outer s H vs Q E hr hsp=>hbody cdv A outer s H vs Q E hr hsp
theorem DefAt.fcX(D:DefAt K mg x st ps)(S:FnScope N ps (aF st))(len:∀ vs H Q E,sp vs H Q E→vs.length=ps.length)
 (hbody:∀ (f:Addr) (cdv:Value) (A:Around) (outer:List Env) (s:Shared) (H:Hp) (vs:List V) (Q:VK) (E:XK),Room k (A.deeper (envOfC x (aF st) s.heap.objs.size f cdv))→sp vs H Q E →
   ∃ t,PSs (gZ (CX2 P w) P w K mg base N x (aF st) f cdv A outer s H E) (cQ st) t∧t { nx:=fun _ H'=>Q .non H',rt:=Q } (start N vs) H):FcX P w K mg base (k+1) x ps sp:=by
 obtain⟨f,fd,F,b,mm⟩:=D.ex
 exact⟨f,fd,F.okX S len fun cdv A outer s H vs Q E hr h=>hbody f cdv A outer s H vs Q E hr h,b,mm,F.kp⟩
end
section
variable{X:Cx}{k:Nat}{C:Addr}{ps:List Str}{sp:Sp}{E:XK}{x m:Str}{p pos apos:Pos}{e o:Expr}{es:List Expr}{ta:TE}{t:TA}
theorem PA.cat{pins:List (Addr×Obj)}{σ:St}{H:Hp}{s:Shared}{Q:List V→Hp→Prop}{F:Value→Shared→Prop}(ha:PA X.nox es t)(I:Inv X pins σ H s)(h:t σ H Q):wpAny (model X.prog X.w) X.A (spliced (backTo pos (Al es X.env))) (AP X pins σ Q) F s :=
 BB (ha pos pins s σ H Q (I.wish _) h) (fun _ _ ⟨vs,H',I',r,q⟩=>⟨vs,H',I'.unwish,r,q⟩) fun _ _ z=>BH z
theorem aWG(F:FcX X.prog X.w X.K X.mg X.base k x ps sp)(hr:Room k X.A)(ha:PA X.nox (e :: es) t)(hg:Gl X x:=by rfl)(hdb:(x == ("__debug__":Str))=false:=by decide)
 (he:Al (e :: es) X.env=(false,eval e X.env) :: Al es X.env:=by rfl)(hpl:(backTo pos (Al es X.env)).any (·.1)=false:=by rfl) :
  PX X (.Call (.Name x p) (e :: es) [] pos) (fun E=>yA sp [] E t):=by
 intro pins s σ H Q E I h
 obtain⟨f,fd,G,b,mm,kp⟩:=F.ex
 refine Bt (nV I hg mm ?_ hdb)
 refine DD (h₀:=X.base) I.ok.mod.kin kp (thn (ha.cat I h) fun us s1 ⟨vs,H1,I1,r,q⟩=>⟨I1.kIn,?_⟩) he hpl
 simp only[BO] at q
 exact aOM G hr b I1 r q
abbrev TB:=XK→TS
def PB(X:Cx)(body:List Stmt)(t:TB):Prop :=
 ∀ (pins:List (Addr×Obj)) (s:Shared) (σ:St) (H:Hp) (D:Ends) (E:XK),Inv X pins σ H s→t E D σ H→wpAny (model X.prog X.w) X.A (execs body X.env) (SP X pins D) (CAt X pins σ E) s
theorem aPD{t:TX}(he:PX X e t)(hs:EX e none pos.line X.env=pure false:=by rfl):PB X [.Expr e pos] (fun E=>aQM (t E)):=by
 intro pins s σ H D E I h
 refine Ev (wpAny_Expr_any (thn (he pins s σ H _ E I h) fun v s1 ⟨y,H1,I1,r1,q1⟩=>?_) I.quiet hs)
 exact Cn ⟨σ,H1,I1,q1⟩
end
end L2
namespace L2
open PySem PySem.Spec PyProof.Rows
abbrev Cx.held (X:Cx) (ea:Addr):Cx:={ X with A:=X.A.mark (some (.ref ea)),calm:=false,xe:=fun _ _=>False }
section
variable{X:Cx}{pins:List (Addr×Obj)}{σ:St}{H H':Hp}{s s':Shared}{ea:Addr}
theorem Cx.Ok.held(ok:X.Ok)(ea:Addr):(X.held ea).Ok :=
 ⟨ok.mod,ok.kind,ok.glob,ok.blt,ok.above,ok.inj,ok.has,ok.cab,fun z=>absurd z (by simp),ok.frames,ok.stk,ok.exf,ok.bs,ok.bsz,ok.noex,ok.exfs,ok.funs,ok.frf⟩
theorem Inv.held(I:Inv X pins σ H s)(ea:Addr):Inv (X.held ea) pins σ H s:=⟨I.ok.held ea,I.os,I.bare,I.base,I.loc,I.cell,I.free,I.freeC,I.pin,I.hok,I.len⟩
theorem Inv.unheld(ok:X.Ok)(I:Inv (X.held ea) pins σ H s):Inv X pins σ H s:=⟨ok,I.os,I.bare,I.base,I.loc,I.cell,I.free,I.freeC,I.pin,I.hok,I.len⟩
theorem SP.unheld(ok:X.Ok){D:Ends}{f:Flow}(h:SP (X.held ea) pins D f s'):SP X pins D f s':=by
 cases f with
 | next=>obtain⟨σ',H',I,q⟩:=h;exact⟨σ',H',I.unheld ok,q⟩
 | brk=>obtain⟨σ',H',I,q⟩:=h;exact⟨σ',H',I.unheld ok,q⟩
 | cont=>obtain⟨σ',H',I,q⟩:=h;exact⟨σ',H',I.unheld ok,q⟩
 | ret u=>obtain⟨v,σ',H',I,r,q⟩:=h;exact⟨v,σ',H',I.unheld ok,r,q⟩
end
theorem aJO{M:Model}{B h:Heap}{l:List Env}{ea:Addr}{cls a0:Value}(fl:Dj B l ea cls a0 h):Cw M h (typeOf (.ref ea)) cls:=by
 obtain⟨ob,hob,hc⟩:=fl.there
 subst hc
 exact (Dx hob).andThen .now
section
variable{X:Cx}{C:Addr}{x:Str}{np hpos pos:Pos}{body suite:List Stmt}{b₀:Stmt}{tb:TB}{ts:TS}
end
end L2
namespace L2
open PySem PySem.Spec PyProof.Rows
def aVI(a:Addr)(cls:Value)(h:Heap):Prop:=∃ o vs,h.get? a=some o∧o.cls=cls∧o.data=.fields vs
noncomputable def uA(a:Addr)(cls:Value):HO:=.ext (aVI a cls)
theorem Un.new{fs ex:List Addr}{H H':Hp}{h h':Heap}{a:Addr}{o:HO}(u:Un fs ex H H' h h')(n:H' a=none)(nn:h.get? a=none):Un fs ex H (upd H' a o) h h' where
 keep:=u.keep
 slot:=u.slot
 free:=fun b ob e nb hx=>by
  rw[aI (fun z=>by rw[z,nn] at e;cases e)]
  exact u.free b ob e nb hx
 there:=u.there
 tups:=fun b xs e=>by rw[aI (aJ (u.tups b xs e) n)];exact u.tups b xs e
 frzs:=fun b ob v e=>by rw[aI (aJ (u.frzs b ob v e) n)];exact u.frzs b ob v e
 tbls:=fun b ps e=>by
  obtain⟨m,q⟩:=u.tbls b ps e
  exact⟨m,by rw[aI (aJ q n)];exact q⟩
theorem HOk.new{P:Program}{w:World}{H:Hp}{h:Heap}{a:Addr}{o:HO}(ok:HOk P w H h)(n:H a=none)(new:cE P w (upd H a o) h a o):HOk P w (upd H a o) h:=fun b u e=>by
 by_cases hb:b=a
 ·subst hb
  rw[aC] at e
  cases e
  exact new
 ·rw[aI hb] at e
  exact (ok b u e).stay (fun _ _ _ q=>q) (fun c q=>by rw[aI (aJ q n)];exact q) fun c xs q=>by rw[aI (aJ q n)];exact q
section
variable{X:Cx}{pins:List (Addr×Obj)}{σ:St}{H H':Hp}{s s':Shared}{B h2:Heap}{ea:Addr}{cls a0:Value}
theorem aNA(I:Inv X pins σ H s)(os:s'.os=s.os)(bare:AllBare s'.gens)(u:Un (frs X.stack) [] H H' s.heap s'.heap)(ok:HOk X.prog X.w H' s'.heap)(hB:∀ b o o',s.heap.get? b=some o→s'.heap.get? b=some o'→b∉frs X.stack→B.get? b=some o')
 (hT:∀ b o',H' b≠none→s'.heap.get? b=some o'→B.get? b=some o')(fl:Dj B X.stack ea cls a0 h2)(us:s'.heap.UpToSlots h2):H' ea=none∧Inv X pins σ (upd H' ea (uA ea cls)) { s' with heap:=h2 }:=by
 obtain⟨oe,ws,he,hc,hd,_⟩:=fl.first
 have u2:=aMZ I u hB fl.1 us
 have k2:=aII (h2:=h2) ok hT fl.1
 have n:H' ea=none:=by
  cases q:H' ea with
  | none=>rfl
  | some o =>
   have q':H' ea≠none:=by rw[q];simp
   obtain⟨o2,e2⟩:=ok.has q'
   have:=hT ea o2 q' e2
   rw[fl.2.1] at this
   cases this
 have nn:s.heap.get? ea=none:=by
  cases q:s.heap.get? ea with
  | none=>rfl
  | some o =>
   obtain⟨o2,e2⟩:=u.there ea o q (by simp)
   by_cases hb:ea∈frs X.stack
   ·obtain⟨_,o1,e1,nd⟩:=fl.2.2.1.mem hb
    rw[he] at e1
    cases e1
    exact absurd hd (nd ws)
   ·have:=hB ea o o2 q e2 hb
    rw[fl.2.1] at this
    cases this
 refine⟨n,I.call' (s':={ s' with heap:=h2 }) (ch:=[]) os (u2.new n nn) (k2.new n ?_) bare fun b z=>absurd z (by simp)⟩
 exact⟨⟨oe,ws,he,hc,hd⟩,⟨oe,he⟩,fun h1 h3 ⟨o,vs,e1,e2,e3⟩ k=>⟨o,vs,k o e1,e2,e3⟩⟩
theorem nU{M:Model}{A:Around}{E:Value→Shared→Prop}{i:Nat}{n:Str}{pos:Pos}{Q:Unit→Shared→Prop}(I:Inv X pins σ H s)(hN:X.N.Nodup)(hi:X.N[i]?=some n)(hk:X.env.scope.names.lookup n=some .local)
 (h:∀ s',Inv X pins (σ.set i none) H s'→Q () s'):wpAny M A (do bindName X.env n .none;unbindBehindTheSuite X.env n pos) Q E s:=by
 obtain⟨m,hn,hl⟩:=id I.loc
 have hcls:(X.env.scope.kind == .class || (X.env.scope.kind == .module && X.env.locals != X.env.globals))=false:=by rw[I.ok.kind];rfl
 have hiσ:i<σ.length:=by rw[I.len];exact (AB.mp hi).1
 obtain⟨oL,_,_,hoL,_⟩:=id hn
 have neL:∀ b o,X.s₀.heap.get? b=some o→b≠X.env.locals:=fun b o e=>Ae (Ac (AV e) I.ok.above)
 refine PySem.wpAny_nameGoes_keeps hk hn hcls fun h' v hn' hs=>h _ ?_
 refine⟨I.ok,I.os,I.bare,⟨fun b o e nb hb hx=>?_,fun b o e nb hb hx=>?_,I.base.free,fun b o e hx=>?_,I.base.tups,I.base.frzs,I.base.tbls⟩,⟨_,hn',fun j y v' e1 e2 e3=>?_⟩,fun y c e=>?_,I.free,I.freeC,fun p hp=>?_,fun b ob e=>?_,by simpa using I.len⟩
 ·exact (hs.2 b (neL b o e)).trans (I.base.keep b o e nb hb hx)
 ·obtain⟨sl,e1⟩:=I.base.slot b o e nb hb hx
  exact⟨sl,(hs.2 b (neL b o e)).trans e1⟩
 ·obtain⟨o',e1⟩:=I.base.there b o e hx
  exact⟨o',(hs.2 b (neL b o e)).trans e1⟩
 ·have hj:j≠i:=fun z=>by
   subst z
   rw[Di hiσ] at e2
   cases e2
  rw[CH (Ne.symm hj)] at e2
  obtain⟨u',r',q⟩:=hl j y v' e1 e2 e3
  refine⟨u',r',?_⟩
  rcases q with ⟨k,e⟩ | ⟨k,c,e,z⟩
  ·refine .inl ⟨k,?_⟩
   have ny:y≠n:=fun z=>hj (qM hN e1 (z▸hi))
   show (if y=n then v else m y)=some u'
   rw[if_neg ny]
   exact e
  ·exact .inr ⟨k,c,e,z.sameBut hs (I.cne y c e)⟩
 ·obtain⟨w',z⟩:=I.cell y c e
  exact⟨w',z.sameBut hs (I.cne y c e)⟩
 ·obtain⟨e,nb,ne,nf,d⟩:=I.pin p hp
  exact⟨(hs.2 p.1 ne).trans e,nb,ne,nf,d⟩
 ·refine (I.hok b ob e).stay (fun c w' hc q=>(hs.2 c ?_).trans q) (fun _ q=>q) fun _ _ q=>q
  rintro rfl
  rcases hc with rfl | hc
  ·rw[I.free] at e;cases e
  ·rw[I.free] at hc;cases hc
end
section
variable{X:Cx}{C:Addr}{x n:Str}{np hpos pos:Pos}{body suite:List Stmt}{b₀:Stmt}{tb:TB}{ts:TS}{i:Nat}
noncomputable def Ends.gone(D:Ends)(i:Nat):Ends:={ nx:=fun σ H=>D.nx (σ.set i none) H,rt:=D.rt,bk:=fun σ H=>D.bk (σ.set i none) H,ct:=fun σ H=>D.ct (σ.set i none) H }
def aTX(K:AD)(C:Addr)(i:Nat)(tb:TB)(ts:TS):TS:=fun D σ H=>tb (fun cls _ H1=>DC K cls (.ref C)=some true∧∀ ea,H1 ea=none→ts (D.gone i) (σ.set i (some (.ref ea))) (upd H1 ea (uA ea cls))) D σ H
theorem aOV(hN:X.N.Nodup)(hi:X.N[i]?=some n)(hk:X.env.scope.names.lookup n=some .local)(hm:X.mg x=some (.ref C))(hb:PB X body tb)(hs:∀ ea,PSs (X.held ea) (b₀ :: suite) ts)(hg:Gl X x:=by rfl)(hdb:(x == ("__debug__":Str))=false:=by decide)
 (hst:X.stack=X.env :: X.outer:=by rfl)(hf:X.env.frame=some X.env.locals:=by rfl) :
  PS X (.Try body [.ExceptHandler (some (.Name x np)) (some n) (b₀ :: suite) hpos] [] [] pos) (aTX X.K C i tb ts):=by
 intro pins s σ H D I h
 refine wpAny_Try_except (BB (hb pins s σ H D _ I h) (fun f s1 q=>?_) fun e s1 q=>?_)
 ·cases f with
  | next=>exact Cn q
  | ret v=>exact q
  | brk=>exact q
  | cont=>exact q
 ·obtain⟨s0,H0,I0,ea,cls,a0,B,H',rfl,os,bare,u,ok,fl,hB,hT,em,q⟩:=q
  have hfr:X.A.frames=some (X.env :: X.outer):=hst▸I.ok.frames
  have fl':Dj B (X.env :: X.outer) ea cls a0 s1.heap:=hst▸fl
  refine wpAny_looks_onW hfr hf fl' fun h4 held us4=>?_
  refine wpAny_landsW held fun h5 fl5 us5=>?_
  have J5:=aIH I0 os bare u ok hB hT fl5.1 (us4.trans us5)
  refine wpAny_handleBy_cons (codeAny_handlers_test (nV (X:=X.held ea) (J5.held ea) hg hm ?_ hdb)) (by intro z;cases z)
  refine (PySem.W.exm_one J5.kIn (aJO fl5) em).here ?_
  refine codeAny_handlers_suite_as ?_
  refine lands_againW fl5 fun h6 fl6 us6=>?_
  obtain⟨n6,J6⟩:=aNA I0 os bare u ok hB hT (hst.symm▸fl6) ((us4.trans us5).trans us6)
  refine uS (X:=X.held ea) (i:=i) (v:=.ref ea) (J6.held ea) hN hi (.inl hk) rfl (fun s7 I7=>?_) (.inr hk)
  refine BB (hs ea pins s7 _ _ (D.gone i) I7 (q ea n6)) (fun f s8 z=>?_) fun _ _ z=>BH z
  have z':=z.unheld (X:=X) I.ok
  cases f with
  | next =>
   obtain⟨σ',H2,I2,q2⟩:=z'
   exact nU I2 hN hi hk fun s9 I9=>⟨_,H2,I9,q2⟩
  | brk =>
   obtain⟨σ',H2,I2,q2⟩:=z'
   exact nU I2 hN hi hk fun s9 I9=>⟨_,H2,I9,q2⟩
  | cont =>
   obtain⟨σ',H2,I2,q2⟩:=z'
   exact nU I2 hN hi hk fun s9 I9=>⟨_,H2,I9,q2⟩
  | ret v =>
   obtain⟨y,σ',H2,I2,r2,q2⟩:=z'
   exact nU I2 hN hi hk fun s9 I9=>⟨y,_,H2,I9,r2,q2⟩
end
end L2
namespace L2
open PySem PySem.Spec PyProof.Rows
section
open PySem.W PySem.Calls PySem.Builtin PySem.Builtin.ObjectAttr PySem.Builtin.Getset_descriptor
variable{prog:Program}{w:World}{A:Around}{E:Value→Shared→Prop}{s:Shared}{K:AD}{x C:Addr}
theorem aFZ{M:Model}{h:Heap}{a g:Value}{name:Str}(X:K.In h)(ha:findIn K (.ref C) name=some (some a))(hg:specialIn K a "__get__"=some (some g))(ht:takesIn K a=some true) :
  Looks M h (find (.ref x) (.ref C) name) (.bind g a) :=
 (looks_findIn (M:=M) X ha).andThen ((show Looks M h (getOf (some a)) (some g) from looks_specialIn X hg).andThen
  ((show Looks M h (dataDescriptor? (some a) (some g)) (some (g,a)) from (looks_takesIn (M:=M) X ht).andThen .now).andThen (Looks.tag .now)))
theorem aNO{R:Result→Shared→Prop}{tp:Value}(X:K.In s.heap)(L0:Looks (model prog w) s.heap (typeOf (.ref x)) (.ref C))(hm:mroIn K C (.type "object")=some true)(h:R (.ok (.ret (.ref C))) s) :
  codeAny (model prog w) A (.call (.builtin "getset_descriptor.__get__") ⟨[.builtin "object.__class__",.ref x,tp],[]⟩) R s:=by
 have L1:=looks_mroIn (M:=model prog w) X hm
 obtain⟨h2,g2,d2,t2,o2⟩:=s
 refine EU KF.slot_gs.plain KF.entry_gs (KF.slot_gs.check _ _ _ _ _ _ _ _ KF.type_class (KF.args_gs _ _ _) (?_))
 unfold Builtin.«getset_descriptor.__get__»
 unfold descrGet;rw[dga_obj];refine AK (Aa ?_)
 unfold descrGetter descrCheckInstance;unfold descrNameAndClass isInstance
 simp only[KF.owner_class]
 repeat lk
 refine⟨Code.quiet_builtin _ (by decide +kernel),(CJ KF.entry_class ?_)⟩
 unfold Builtin.«object.__class__»;unfold shownTypeOf
 repeat lk
 exact h
end
structure ExA (K:AD) (C:Addr):Prop where
 ex:ExcC K C
 em:DC K (.ref C) (.ref C)=some true
structure ExI (K:AD) (C:Addr):Prop extends ExA K C where
 pg:Ct K C "__class__"=true
 ic:InstC K C
end L2
namespace L2
open PySem PySem.Spec PyProof.Rows
section
open PySem.W PySem.Calls PySem.Builtin PySem.Builtin.ObjectAttr PySem.Builtin.Getset_descriptor
variable{prog:Program}{w:World}{A:Around}{E:Value→Shared→Prop}{s:Shared}{K:AD}{x C:Addr}
theorem aCA{Q:Option Value→Shared→Prop}(X:K.In s.heap)(L0:Looks (model prog w) s.heap (typeOf (.ref x)) (.ref C))(hga:findIn K (.ref C) "__getattribute__"=some (some (.builtin "BaseException.__getattribute__")))(hgt:findIn K (.ref C) "__getattr__"=some none)
 (hB:mroIn K C (.type "BaseException")=some true)(I:InstC K C)(h:Q (some (.ref C)) { s with toks:=s.toks+1 }):wpAny (model prog w) A (getAttr? (.ref x) "__class__") Q E s:=by
 have LG:=looks_findIn (M:=model prog w) X hga
 have LF:=aFZ (M:=model prog w) (x:=x) X I.ha I.hn I.htk
 have LH:=looks_findIn (M:=model prog w) X hgt
 have LB:=looks_mroIn (M:=model prog w) X hB
 have X':=X
 obtain⟨h2,g2,d2,t2,o2⟩:=s
 unfold getAttr?;unfold getAttrBy?;unfold getAttrBy
 refine AK (wpAny_mkText (AK (Ek (CC (AK (L0.at (AK (LG.at (?_)))))))))
 have hx2:(Value.builtin "BaseException.__getattribute__" == Value.builtin "object.__getattribute__")=false:=by decide +kernel
 dsimp only
 rw[hx2,EB,if_neg AR]
 unfold getAttrByItsOwn hookBefore
 refine AK (show wpAny _ _ (typeLookup (.ref C) "__getattr__") _ _ _ from LH.at ?_)
 refine AK (Ek (CC ?_))
 show wpAny _ _ (boundAndCalled _ _ _) _ _ _
 unfold boundAndCalled
 refine AK (wpAny_of_eq (PySem.F.attr_ValueError.ga.bind (.ref x)) ?_)
 show wpAny _ _ (call (.builtin "BaseException.__getattribute__") [.ref x,.str "__class__" t2]) _ _ _
 refine DU (EU PySem.F.attr_ValueError.ga.plain F.entry_bexc_ga ?_)
 have hk:builtinKind "BaseException.__getattribute__"=some .slot:=by decide +kernel
 have hsp:splitId "BaseException.__getattribute__"=some ("BaseException","__getattribute__"):=by decide +kernel
 have hargs:=F.args_bexc_ga (.ref x) (.str "__class__" t2)
 simp only[checkBuiltinCall,hk,hsp]
 refine AK ?_
 unfold isInstance
 refine AK (L0.at (LB.at ?_))
 rw[if_neg (by decide)]
 refine wpAny_of_eq hargs ?_
 unfold Builtin.«object.__getattribute__»
 refine AK (Aa ?_)
 refine AK (Aa ?_)
 refine AK (L0.at ?_)
 refine AK (LF.at ?_)
 dsimp only
 show wpAny _ _ (holding [.builtin "object.__class__"] (call (.builtin "getset_descriptor.__get__") [.builtin "object.__class__",.ref x,.ref C]) >>= ret) _ _ _
 refine AK (CC (DU (aNO (s:=⟨h2,g2,d2,t2+1,o2⟩) X' L0 I.hm (?_))))
 refine Aa ?_
 dsimp only
 exact handed_on rfl (Aa h)
end
structure ExJ (K:AD) (C:Addr):Prop extends ExA K C where
 ga:BR K (.ref C) "__getattribute__"=some (some (.builtin "BaseException.__getattribute__"))
 gt:BR K (.ref C) "__getattr__"=some none
 mb:PySem.W.mroIn K C (.type "BaseException")=some true
 ic:InstC K C
theorem aMM{K:AD}{a C:Addr}(e:ExJ K C):PySem.W.KitX K (.ref a) (.ref C) (aVI a (.ref C)) where
 ty:=fun M h X ⟨o,vs,q,c,d⟩=>c▸(Dx q).andThen .now
 it:=fun M h X _=>by
  have q:=e.em
  unfold DC at q
  split at q
  ·exact (PySem.W.kit_cls (M:=M) X q).2.1
  ·cases q
 ne:=fun h tp dd its n sl X htp=>by
  obtain⟨tl,N,nm,qn,bs,hdct,sn,sub,ab,col,d2,k0,k1,k2,k3,k5,mN,hC,_⟩:=(e.ex.own (x:="") (mg:=fun _=>some (.ref C)) X rfl).obj
  refine Bool.eq_false_iff.mpr fun q=>?_
  have z:C=tp:=Ao.inj (beq_iff_eq.mp q)
  rw[z,htp] at hC
  have w:=congrArg Obj.data (BA hC)
  exact absurd w (by intro w;cases w)
 ca:=fun X ⟨o,vs,q,c,d⟩ k=>aCA X (c▸(Dx q).andThen .now) e.ga e.gt e.mb e.ic k
theorem lG{X:Cx}{K:AD}(eK:X.K=K):gK X (.builtin "isinstance") (fun xs H Q=>∃ a y c C b,xs=[.ref a,y]∧aQB y=some c∧H a=some (uA a (.ref C))∧ExJ K C∧BF K (.ref C) c=some b∧Q (.bl b) H):=by
 subst eK
 intro pins s σ H xs us Q I r h
 obtain⟨a,y,c,C,b,rfl,hc,ha,e,k,q⟩:=h
 obtain⟨u,v,rfl,ru,rv⟩:=bF.two r
 obtain rfl:=aEP hc rv
 cases ru
 obtain⟨p,_,_⟩:=(show cE X.prog X.w H s.heap a (uA a (.ref C)) from I.hok a _ ha)
 exact Bi (aMM e) I.kIn p k (fun z=>nomatch z) fun tk=>⟨.bl b,H,I.tok tk,rfl,q⟩
end L2
namespace L2
open PySem PySem.Spec PyProof.Rows
section
variable{X:Cx}{k:Nat}{ps:List Str}{sp:Sp}{x:Str}{p pos:Pos}{e:Expr}{es:List Expr}{t:TA}{E:XK}
theorem aUP(F:FcX X.prog X.w X.K X.mg X.base k x ps sp)(hr:Room k X.A)(hx:lH (CX2 X.prog X.w) X E)(ha:PA X (e :: es) t)(hg:Gl X x:=by rfl)(hdb:(x == ("__debug__":Str))=false:=by decide)
 (he:Al (e :: es) X.env=(false,eval e X.env) :: Al es X.env:=by rfl)(hpl:(backTo pos (Al es X.env)).any (·.1)=false:=by rfl):PE X (.Call (.Name x p) (e :: es) [] pos) (yA sp [] E t):=by
 obtain⟨f,fd,G,b,m,kp⟩:=F.ex
 exact aHX G hr hg m kp b .nil hx ha hdb he hpl
end
end L2
namespace L2
open PySem PySem.Spec PyProof.Rows
section
variable{prog:Program}{w:World}{A:Around}{E:Value→Shared→Prop}{s:Shared}
end
section
variable{X:Cx}{tg:Expr}
end
end L2
namespace L2
open PySem PySem.Spec PyProof.Rows
section
variable{P:Program}{w:World}{A:Around}{R:Result→Shared→Prop}{I:Addr}{fp wr:List Addr}{G:Array DL→Array DL→Prop}{n:Nat}{Pv:Nat→Value→Prop}{Stt:Nat→Shared→Prop}
end
section
variable{P:Program}{w:World}{A:Around}{E:Value→Shared→Prop}{s:Shared}
end
section
variable{X:Cx}
end
end L2
namespace L2
open PySem PySem.Spec PyProof.Rows
section
variable{X:Cx}{K:AD}
theorem aLD{a1 a2 b:TS}{D:Ends}{σ:St}{H:Hp}(h:∀ u:TS,(∀ D' σ' H',b D' σ' H'→u D' σ' H')→uQ a1 (uQ a2 u) D σ H):uQ a1 (uQ a2 b) D σ H:=h b fun _ _ _ x=>x
theorem aDB{a1 a2 a3 b:TS}{D:Ends}{σ:St}{H:Hp}(h:∀ u:TS,(∀ D' σ' H',b D' σ' H'→u D' σ' H')→uQ a1 (uQ a2 (uQ a3 u)) D σ H):uQ a1 (uQ a2 (uQ a3 b)) D σ H:=h b fun _ _ _ x=>x
end
end L2
namespace L2
open PySem PySem.Spec PyProof.Rows
section
variable{X:Cx}{a b:Expr}{ta tb:TE}{oZ:List Expr}{pos:Pos}
def aVR(K:AD)(ta tb:TE):TE:=fun σ H Q=>ta σ H fun x H1=>∃ k,aVM K x H1 k∧if k=true then Q x H1 else tb σ H1 Q
theorem aSF(ha:PE X a ta)(hb:PE X (.BoolOp .Or (b :: oZ) pos) tb):PE X (.BoolOp .Or (a :: b :: oZ) pos) (aVR X.K ta tb):=by
 intro pins s σ H Q I h
 refine BoolOp_or (thn (ha pins s σ H _ I h) fun v s1 ⟨x,H1,I1,r1,q1⟩=>?_)
 obtain⟨k,tv,q1⟩:=q1
 refine thn (aRC pins s1 σ H1 x v (fun k' H'=>k'=k∧H'=H1) I1 r1 ⟨k,tv,rfl,rfl⟩) fun c s2 ⟨H2,I2,e,eH⟩=>?_
 subst e
 subst eH
 cases c with
 | false=>exact hb pins s2 σ H2 Q I2 q1
 | true=>exact⟨x,H2,I2,r1,q1⟩
end
end L2
namespace K63
open PySem L2
local macro_rules | `(tactic| trivial)=>`(tactic| first | exact .inl rfl | exact .inr rfl | assumption)
noncomputable def top(i:Nat):Stmt:=PySem.Challenge.pw_dykemoot_k63_all_companies.main.body.getD i (.Pass ⟨0,0,0,0⟩)
abbrev aLE:Stmt:=top 0
abbrev qA:Stmt:=top 15
theorem xI:FnScope ["thing"] ["thing"] (aF qA):=⟨rfl,rfl,rfl,by decide +kernel,rfl,by decide +kernel,by decide +kernel⟩
abbrev sW:Stmt:=top 16
theorem aAW:FnScope ["thing"] ["thing"] (aF sW):=⟨rfl,rfl,rfl,by decide +kernel,rfl,by decide +kernel,by decide +kernel⟩
abbrev oI:Stmt:=top 17
theorem uZ:FnScope ["thing"] ["thing"] (aF oI):=⟨rfl,rfl,rfl,by decide +kernel,rfl,by decide +kernel,by decide +kernel⟩
abbrev oJ:Stmt:=top 18
theorem vA:FnScope ["thing"] ["thing"] (aF oJ):=⟨rfl,rfl,rfl,by decide +kernel,rfl,by decide +kernel,by decide +kernel⟩
abbrev oH:Stmt:=top 19
theorem uY:FnScope ["thing","names"] ["thing","names"] (aF oH):=⟨rfl,rfl,rfl,by decide +kernel,rfl,by decide +kernel,by decide +kernel⟩
abbrev mF:Stmt:=top 20
theorem tR:FnScope ["thing","most"] ["thing","most"] (aF mF):=⟨rfl,rfl,rfl,by decide +kernel,rfl,by decide +kernel,by decide +kernel⟩
abbrev lL:Stmt:=top 21
theorem rD:FnScope ["thing","length"] ["thing","length"] (aF lL):=⟨rfl,rfl,rfl,by decide +kernel,rfl,by decide +kernel,by decide +kernel⟩
abbrev mE:Stmt:=top 22
theorem tQ:FnScope ["rows"] ["rows"] (aF mE):=⟨rfl,rfl,rfl,by decide +kernel,rfl,by decide +kernel,by decide +kernel⟩
abbrev qB:Stmt:=top 23
theorem xJ:FnScope ["thing"] ["thing"] (aF qB):=⟨rfl,rfl,rfl,by decide +kernel,rfl,by decide +kernel,by decide +kernel⟩
abbrev mH:Stmt:=top 24
theorem tS:FnScope ["thing"] ["thing"] (aF mH):=⟨rfl,rfl,rfl,by decide +kernel,rfl,by decide +kernel,by decide +kernel⟩
abbrev oO:Stmt:=top 25
theorem vD:FnScope ["one","other","sides"] ["one","other","sides"] (aF oO):=⟨rfl,rfl,rfl,by decide +kernel,rfl,by decide +kernel,by decide +kernel⟩
abbrev sU:Stmt:=top 26
theorem aAV:FnScope ["thing","crown"] ["thing","crown"] (aF sU):=⟨rfl,rfl,rfl,by decide +kernel,rfl,by decide +kernel,by decide +kernel⟩
abbrev sX:Stmt:=top 27
theorem aAX:FnScope ["thing","sides"] ["thing","sides"] (aF sX):=⟨rfl,rfl,rfl,by decide +kernel,rfl,by decide +kernel,by decide +kernel⟩
abbrev oP:Stmt:=top 28
theorem vE:FnScope ["thing","sides"] ["thing","sides"] (aF oP):=⟨rfl,rfl,rfl,by decide +kernel,rfl,by decide +kernel,by decide +kernel⟩
abbrev sT:Stmt:=top 29
theorem aAU:FnScope ["land","thing"] ["land","thing"] (aF sT):=⟨rfl,rfl,rfl,by decide +kernel,rfl,by decide +kernel,by decide +kernel⟩
abbrev oN:Stmt:=top 30
theorem vC:FnScope ["land","thing"] ["land","thing"] (aF oN):=⟨rfl,rfl,rfl,by decide +kernel,rfl,by decide +kernel,by decide +kernel⟩
abbrev iH:Stmt:=top 31
theorem dP:FnScope ["land","thing","names"] ["land","thing"] (aF iH):=⟨rfl,rfl,rfl,by decide +kernel,rfl,by decide +kernel,by decide +kernel⟩
abbrev qE:Stmt:=hE (top 32) 0
theorem xM:FnScope ["self","fields","dykes"] ["self","fields","dykes"] (aF qE):=⟨rfl,rfl,rfl,by decide +kernel,rfl,by decide +kernel,by decide +kernel⟩
abbrev tV:Stmt:=hE (top 32) 1
abbrev mI:Stmt:=hE (top 32) 2
theorem tT:FnScope ["self"] ["self"] (aF mI):=⟨rfl,rfl,rfl,by decide +kernel,rfl,by decide +kernel,by decide +kernel⟩
abbrev hW:Stmt:=hE (top 32) 3
theorem lO:FnScope ["self"] ["self"] (aF hW):=⟨rfl,rfl,rfl,by decide +kernel,rfl,by decide +kernel,by decide +kernel⟩
abbrev iI:Stmt:=hE (top 32) 4
theorem mC:FnScope ["self"] ["self"] (aF iI):=⟨rfl,rfl,rfl,by decide +kernel,rfl,by decide +kernel,by decide +kernel⟩
abbrev rF:Stmt:=hE (top 32) 5
abbrev lM:Stmt:=hE (top 32) 6
theorem rE:FnScope ["self","field"] ["self","field"] (aF lM):=⟨rfl,rfl,rfl,by decide +kernel,rfl,by decide +kernel,by decide +kernel⟩
abbrev xN:Stmt:=hE (top 32) 7
abbrev oQ:Stmt:=hE (top 32) 8
theorem vF:FnScope ["self","name"] ["self","name"] (aF oQ):=⟨rfl,rfl,rfl,by decide +kernel,rfl,by decide +kernel,by decide +kernel⟩
abbrev tU:Stmt:=hE (top 32) 9
abbrev vI:Stmt:=top 34
theorem hV:FnScope ["starts","steps","came","waiting","near","step"] ["starts","steps"] (aF vI):=⟨rfl,rfl,rfl,by decide +kernel,rfl,by decide +kernel,by decide +kernel⟩
abbrev sS:Stmt:=top 35
theorem iL:FnScope ["came","side","path","step"] ["came","side"] (aF sS):=⟨rfl,rfl,rfl,by decide +kernel,rfl,by decide +kernel,by decide +kernel⟩
abbrev mG:Stmt:=top 37
theorem lJ:FnScope ["land","fields","height"] ["land","fields","height"] (aF mG):=⟨rfl,rfl,rfl,by decide +kernel,rfl,by decide +kernel,by decide +kernel⟩
abbrev qC:Stmt:=top 38
theorem xK:FnScope ["dyke","height"] ["dyke","height"] (aF qC):=⟨rfl,rfl,rfl,by decide +kernel,rfl,by decide +kernel,by decide +kernel⟩
abbrev qD:Stmt:=top 39
theorem xL:FnScope ["land","works"] ["land","works"] (aF qD):=⟨rfl,rfl,rfl,by decide +kernel,rfl,by decide +kernel,by decide +kernel⟩
abbrev vJ:Stmt:=top 40
theorem aDC:FnScope ["land","side","height"] ["land","side","height"] (aF vJ):=⟨rfl,rfl,rfl,by decide +kernel,rfl,by decide +kernel,by decide +kernel⟩
abbrev vK:Stmt:=top 41
theorem aDD:FnScope ["land","dyke","height"] ["land","dyke","height"] (aF vK):=⟨rfl,rfl,rfl,by decide +kernel,rfl,by decide +kernel,by decide +kernel⟩
abbrev oK:Stmt:=top 42
theorem vB:FnScope ["land","height"] ["land","height"] (aF oK):=⟨rfl,rfl,rfl,by decide +kernel,rfl,by decide +kernel,by decide +kernel⟩
abbrev mD:Stmt:=top 43
theorem fJ:FnScope ["land","names","steps","name","dyke"] ["land","names"] (aF mD):=⟨rfl,rfl,rfl,by decide +kernel,rfl,by decide +kernel,by decide +kernel⟩
abbrev aDE:Stmt:=top 44
theorem aJB:FnScope ["step","most","stream"] ["step","most","stream"] (aF aDE):=⟨rfl,rfl,rfl,by decide +kernel,rfl,by decide +kernel,by decide +kernel⟩
abbrev sR:Stmt:=top 45
theorem aAT:FnScope ["steps","most","stream"] ["steps","most","stream"] (aF sR):=⟨rfl,rfl,rfl,by decide +kernel,rfl,by decide +kernel,by decide +kernel⟩
abbrev iU:Stmt:=top 46
theorem fG:FnScope ["steps","most","stream","fields","came","ends"] ["steps","most","stream","fields"] (aF iU):=⟨rfl,rfl,rfl,by decide +kernel,rfl,by decide +kernel,by decide +kernel⟩
abbrev iV:Stmt:=top 47
theorem cL:FnScope ["steps","most","fields","stream","path","amount","step"] ["steps","most","fields"] (aF iV):=⟨rfl,rfl,rfl,by decide +kernel,rfl,by decide +kernel,by decide +kernel⟩
abbrev lK:Stmt:=top 48
theorem jW:FnScope ["steps","flowed","fields","height","behind"] ["steps","flowed","fields","height"] (aF lK):=⟨rfl,rfl,rfl,by decide +kernel,rfl,by decide +kernel,by decide +kernel⟩
abbrev vL:Stmt:=top 49
theorem fQ:FnScope ["land","fields","height","most","steps","stream","works","amounts"] ["land","fields","height"] (aF vL):=⟨rfl,rfl,rfl,by decide +kernel,rfl,by decide +kernel,by decide +kernel⟩
abbrev jX:Stmt:=top 52
theorem pZ:FnScope ["height"] ["height"] (aF jX):=⟨rfl,rfl,rfl,by decide +kernel,rfl,by decide +kernel,by decide +kernel⟩
abbrev aDF:Stmt:=top 53
theorem aJC:FnScope ["land","fields","height"] ["land","fields","height"] (aF aDF):=⟨rfl,rfl,rfl,by decide +kernel,rfl,by decide +kernel,by decide +kernel⟩
abbrev iG:Stmt:=top 54
theorem dN:FnScope ["count","lists","place"] ["count"] (aF iG):=⟨rfl,rfl,rfl,by decide +kernel,rfl,by decide +kernel,by decide +kernel⟩
abbrev oM:Stmt:=top 55
theorem eY:FnScope ["land","fields","height","told","places","company"] ["land","fields","height"] (aF oM):=⟨rfl,rfl,rfl,by decide +kernel,rfl,by decide +kernel,by decide +kernel⟩
abbrev sZ:Stmt:=top 57
theorem aAY:FnScope ["_law_script","_law_k"] ["_law_script","_law_k"] (aF sZ):=⟨rfl,rfl,rfl,by decide +kernel,rfl,by decide +kernel,by decide +kernel⟩
abbrev yK:Stmt:=top 58
theorem vG:FnScope ["_law_cell","_law_k","_law_number"] ["_law_cell","_law_k"] (aF yK):=⟨rfl,rfl,rfl,by decide +kernel,rfl,by decide +kernel,by decide +kernel⟩
abbrev nO:Stmt:=top 59
theorem eZ:FnScope ["_law_cell","_law_many","_law_letters","_law_size","_law_base","_law_at","_law_words_here","_law_k","_law_inner"] ["_law_cell","_law_many"] (aF nO):=⟨rfl,rfl,rfl,by decide +kernel,rfl,by decide +kernel,by decide +kernel⟩
abbrev aDH:Stmt:=top 60
theorem aJD:FnScope ["_law_number"] ["_law_number"] (aF aDH):=⟨rfl,rfl,rfl,by decide +kernel,rfl,by decide +kernel,by decide +kernel⟩
abbrev aDG:Stmt:=top 61
theorem yI:FnScope ["_law_number","_law_most_here"] ["_law_number"] (aF aDG):=⟨rfl,rfl,rfl,by decide +kernel,rfl,by decide +kernel,by decide +kernel⟩
abbrev vM:Stmt:=top 62
theorem fR:FnScope ["_law_script","_law_many","_law_names","_law_found","_law_k","_law_number","_law_ground"] ["_law_script","_law_many"] (aF vM):=⟨rfl,rfl,rfl,by decide +kernel,rfl,by decide +kernel,by decide +kernel⟩
abbrev yP:Stmt:=top 63
theorem cJ:FnScope ["_law_script","_law_fields_here","_law_many","_law_names","_law_sides","_law_found","_law_k","_law_number","_law_one","_law_other","_law_crown","_law_rate","_law_sill"] ["_law_script","_law_fields_here","_law_many"] (aF yP):=⟨rfl,rfl,rfl,by decide +kernel,rfl,by decide +kernel,by decide +kernel⟩
abbrev yJ:Stmt:=top 64
theorem oW:FnScope ["_law_script","_law_cell","_law_fields_here"] ["_law_script"] (aF yJ):=⟨rfl,rfl,rfl,by decide +kernel,rfl,by decide +kernel,by decide +kernel⟩
abbrev yM:Stmt:=top 65
theorem cG:FnScope ["_law_fields_here","_law_dykes_here","_law_wish","_law_height","_law_low","_law_gaps","_law_name","_law_one","_law_other","_law_crown","_law_rate","_law_sill","_law_free","_law_choices","_law_sums","_law_inner"] ["_law_fields_here","_law_dykes_here","_law_wish","_law_height"] (aF yM):=⟨rfl,rfl,rfl,by decide +kernel,rfl,by decide +kernel,by decide +kernel⟩
abbrev sY:Stmt:=top 66
theorem iM:FnScope ["_law_names","_law_number","_law_found","_law_k"] ["_law_names","_law_number"] (aF sY):=⟨rfl,rfl,rfl,by decide +kernel,rfl,by decide +kernel,by decide +kernel⟩
abbrev yL:Stmt:=top 67
theorem iT:FnScope ["_law_some","_law_many","_law_found","_law_at"] ["_law_some","_law_many"] (aF yL):=⟨rfl,rfl,rfl,by decide +kernel,rfl,by decide +kernel,by decide +kernel⟩
abbrev yQ:Stmt:=top 68
theorem vH:FnScope ["_law_land","_law_wish","_law_height","e"] ["_law_land","_law_wish","_law_height"] (aF yQ):=⟨rfl,rfl,rfl,by decide +kernel,rfl,by decide +kernel,by decide +kernel⟩
abbrev yO:Stmt:=top 69
theorem fM:FnScope ["_law_script","_law_height","_law_fields_here","_law_dykes_here","_law_wish","_law_due","_law_many","_law_company_here"] ["_law_script","_law_height"] (aF yO):=⟨rfl,rfl,rfl,by decide +kernel,rfl,by decide +kernel,by decide +kernel⟩
abbrev yN:Stmt:=top 70
theorem gO:FnScope ["_law_script","_law_cell","_law_fields_here","_law_land","_law_names","_law_wish","_law_odd"] ["_law_script","_law_cell"] (aF yN):=⟨rfl,rfl,rfl,by decide +kernel,rfl,by decide +kernel,by decide +kernel⟩
abbrev aAZ:Stmt:=top 71
theorem dO:FnScope ["_law_script","_law_fields_here","_law_dykes_here","_law_land","_law_names","_law_number","_law_wish","_law_height","_law_due","_law_many","_law_company_here","_law_found","_law_one","_law_cell"] ["_law_script"] (aF aAZ):=⟨rfl,rfl,rfl,by decide +kernel,rfl,by decide +kernel,by decide +kernel⟩
structure Txt (K:AD) (mg:Str→Option Value) (C:Addr):Prop where
 cl_Land:Cls K C
 mg_Land:mg "Land"=some (.ref C)
 a_field_rows:nL K C "field_rows"
 a_dyke_rows:nL K C "dyke_rows"
 ci_Land:InstC K C
 i_Land:InitAt K C "Land.__init__" qE ["self","fields","dykes"]
 m_land_p_fields:MethAt K C "fields" "Land.fields" tV ["self"]
 m_land_p_dykes:MethAt K C "dykes" "Land.dykes" mI ["self"]
 m_land_p_field_names:MethAt K C "field_names" "Land.field_names" hW ["self"]
 m_land_p_dyke_names:MethAt K C "dyke_names" "Land.dyke_names" iI ["self"]
 m_land_p_sluices:MethAt K C "sluices" "Land.sluices" rF ["self"]
 m_land_p_ground:MethAt K C "ground" "Land.ground" lM ["self","field"]
 m_land_p_dues:MethAt K C "dues" "Land.dues" xN ["self","field"]
 m_land_p_dyke:MethAt K C "dyke" "Land.dyke" oQ ["self","name"]
 m_land_p_raised:MethAt K C "raised" "Land.raised" tU ["self","works"]
 xs:∃ c_NoWish c_TooMany c_DykeError:Addr,(ExJ K c_NoWish)∧(ExJ K c_TooMany)∧mg "NoWish"=some (.ref c_NoWish)∧mg "TooMany"=some (.ref c_TooMany)∧mg "DykeError"=some (.ref c_DykeError)∧BF K (.ref c_NoWish) (.ref c_DykeError)=some true∧BF K (.ref c_NoWish) (.type "ValueError")=some true∧BF K (.ref c_NoWish) (.ref c_NoWish)=some true∧BF K (.ref c_NoWish) (.ref c_TooMany)=some false∧BF K (.ref c_TooMany) (.ref c_DykeError)=some true∧BF K (.ref c_TooMany) (.type "ValueError")=some true∧BF K (.ref c_TooMany) (.ref c_NoWish)=some false∧BF K (.ref c_TooMany) (.ref c_TooMany)=some true∧DC K (.ref c_NoWish) (.ref c_DykeError)=some true∧DC K (.ref c_TooMany) (.ref c_DykeError)=some true
 d_p_wall:DefAt K mg "_wall" aLE ["k"]
 d_p_is_whole:DefAt K mg "is_whole" qA ["thing"]
 d_p_is_name:DefAt K mg "is_name" sW ["thing"]
 d_p_is_height:DefAt K mg "is_height" oI ["thing"]
 d_p_is_amount:DefAt K mg "is_amount" oJ ["thing"]
 d_p_is_one_of:DefAt K mg "is_one_of" oH ["thing","names"]
 d_p_is_list_of:DefAt K mg "is_list_of" mF ["thing","most"]
 d_p_is_tuple_of:DefAt K mg "is_tuple_of" lL ["thing","length"]
 d_p_none_twice:DefAt K mg "none_twice" mE ["rows"]
 d_p_is_field:DefAt K mg "is_field" qB ["thing"]
 d_p_are_fields:DefAt K mg "are_fields" mH ["thing"]
 d_p_are_sides:DefAt K mg "are_sides" oO ["one","other","sides"]
 d_p_is_sill:DefAt K mg "is_sill" sU ["thing","crown"]
 d_p_is_dyke:DefAt K mg "is_dyke" sX ["thing","sides"]
 d_p_are_dykes:DefAt K mg "are_dykes" oP ["thing","sides"]
 d_p_is_work:DefAt K mg "is_work" sT ["land","thing"]
 d_p_are_works:DefAt K mg "are_works" oN ["land","thing"]
 d_p_are_some_fields:DefAt K mg "are_some_fields" iH ["land","thing"]
 d_p_spread:DefAt K mg "spread" vI ["starts","steps"]
 d_p_path_to:DefAt K mg "path_to" sS ["came","side"]
 d_p_check_wish:DefAt K mg "check_wish" mG ["land","fields","height"]
 d_p_coins_to:DefAt K mg "coins_to" qC ["dyke","height"]
 d_p_coins_of:DefAt K mg "coins_of" qD ["land","works"]
 d_p_is_low:DefAt K mg "is_low" vJ ["land","side","height"]
 d_p_is_gap:DefAt K mg "is_gap" vK ["land","dyke","height"]
 d_p_gap_coins:DefAt K mg "gap_coins" oK ["land","height"]
 d_p_steps_over:DefAt K mg "steps_over" mD ["land","names"]
 d_p_room:DefAt K mg "room" aDE ["step","most","stream"]
 d_p_reached:DefAt K mg "reached" sR ["steps","most","stream"]
 d_p_path_with_room:DefAt K mg "path_with_room" iU ["steps","most","stream","fields"]
 d_p_fullest_stream:DefAt K mg "fullest_stream" iV ["steps","most","fields"]
 d_p_works_round:DefAt K mg "works_round" lK ["steps","flowed","fields","height"]
 d_p_fewest:DefAt K mg "fewest" vL ["land","fields","height"]
 d_p_cost_of_none:DefAt K mg "cost_of_none" jX ["height"]
 d_p_cost:DefAt K mg "cost" aDF ["land","fields","height"]
 d_p_lists_of_places:DefAt K mg "lists_of_places" iG ["count"]
 d_p_companies:DefAt K mg "companies" oM ["land","fields","height"]
 d_l_cell_at:DefAt K mg "_law_cell_at" sZ ["_law_script","_law_k"]
 d_l_mixed:DefAt K mg "_law_mixed" yK ["_law_cell","_law_k"]
 d_l_words:DefAt K mg "_law_words" nO ["_law_cell","_law_many"]
 d_l_high:DefAt K mg "_law_high" aDH ["_law_number"]
 d_l_most:DefAt K mg "_law_most" aDG ["_law_number"]
 d_l_fields:DefAt K mg "_law_fields" vM ["_law_script","_law_many"]
 d_l_dykes:DefAt K mg "_law_dykes" yP ["_law_script","_law_fields_here","_law_many"]
 d_l_small:DefAt K mg "_law_small" yJ ["_law_script"]
 d_l_least:DefAt K mg "_law_least" yM ["_law_fields_here","_law_dykes_here","_law_wish","_law_height"]
 d_l_company:DefAt K mg "_law_company" sY ["_law_names","_law_number"]
 d_l_lists:DefAt K mg "_law_lists" yL ["_law_some","_law_many"]
 d_l_class:DefAt K mg "_law_class" yQ ["_law_land","_law_wish","_law_height"]
 d_l_eight:DefAt K mg "_law_eight" yO ["_law_script","_law_height"]
 d_l_great:DefAt K mg "_law_great" yN ["_law_script","_law_cell"]
 d_p_law:DefAt K mg "law" aAZ ["_law_script"]
 g_SEA:jR mg "SEA" (.str "sea")
 g_LETTERS:jR mg "LETTERS" (.str "abcdefghijklmnopqrstuvwxyz")
 g_MOST_LETTERS:jR mg "MOST_LETTERS" (.int 8)
 g_MOST_HEIGHT:jR mg "MOST_HEIGHT" (.int 1000000)
 g_MOST_AMOUNT:jR mg "MOST_AMOUNT" (.int 1000000)
 g_MOST_FIELDS:jR mg "MOST_FIELDS" (.int 12)
 g_MOST_DYKES:jR mg "MOST_DYKES" (.int 40)
 g_MOST_IN_A_WISH:jR mg "MOST_IN_A_WISH" (.int 8)
 n_ValueError:mg "ValueError"=none
 n_all:mg "all"=none
 n_bool:mg "bool"=none
 n_dict:mg "dict"=none
 n_int:mg "int"=none
 n_isinstance:mg "isinstance"=none
 n_len:mg "len"=none
 n_list:mg "list"=none
 n_max:mg "max"=none
 n_min:mg "min"=none
 n_range:mg "range"=none
 n_reversed:mg "reversed"=none
 n_set:mg "set"=none
 n_sorted:mg "sorted"=none
 n_str:mg "str"=none
 n_sum:mg "sum"=none
 n_tuple:mg "tuple"=none
section
variable{P:Program}{w:World}{K:AD}{mg:Str→Option Value}{base:Heap}{C:Addr}
open Ld
theorem bU:(1000:Nat)≤Ak:=by decide
def aAH:Sp:=sp1 fun x H Q=>∃ d,Is H d x∧Q (.bl (isInt d)) H
theorem oR(T:Txt K mg C):Fc P w K mg base 1 "is_whole" ["thing"] aAH:=by
 refine T.d_p_is_whole.fc xI oE (fun f cdv A outer s H vs Q E hr h=>?_)
 obtain⟨x,rfl,d,hd,q⟩:=h
 obtain⟨t,ty,e1,e2,_⟩:=sO K hd
 refine⟨_,(@aG _ _ _ (@aQ _ _ _ _ (@dD _ _ _ _ _ _ _ (@aS _ _ _ _ _ _ _ _ _ (@cD _ (K) rfl) rfl T.n_isinstance bD (@aA _ _ _ _ _ (pv 0) (@aA _ _ _ _ _ (@kE _ _ _ _ T.n_int aKD (by rfl) (by decide) (by decide)) aB (by rfl)) (by rfl)) (by decide) (by decide) (by rfl) (by rfl)) (@dY _ _ _ _ _ (@aSG _ _ _ _ (@aS _ _ _ _ _ _ _ _ _ (@cD _ (K) rfl) rfl T.n_isinstance bD (@aA _ _ _ _ _ (pv 0) (@aA _ _ _ _ _ (@kE _ _ _ _ T.n_bool xF (by rfl) (by decide) (by decide)) aB (by rfl)) (by rfl)) (by decide) (by decide) (by rfl) (by rfl))))))),?_⟩
 refine⟨_,rfl,_,_,_,t,_,rfl,rfl,ty,e1,_,rfl,?_⟩
 refine iZ (fun h=>?_) (fun h=>?_)
 ·refine⟨_,rfl,_,_,_,t,_,rfl,rfl,ty,e2,_,rfl,?_⟩
  have e:(!aMP d)=isInt d:=by cases d <;> simp_all [isInt,aMP]
  rw[e]
  exact q
 ·have e:isInt d=false:=by cases d <;> simp_all [isInt,aMP]
  rw[e] at q
  exact q
def aFE:Sp:=sp1 fun x H Q=>∃ d,Is H d x∧cO d=true∧Q (.bl (pI d)) H
theorem qK(T:Txt K mg C):Fc P w K mg base 1 "is_name" ["thing"] aFE:=by
 refine T.d_p_is_name.fcD aAW oE (fun f cdv A outer s H vs Q E hr h=>?_)
 obtain⟨x,rfl,d,hd,hz,q⟩:=h
 obtain⟨t,ty,e1,e2,e3,_⟩:=sO K hd
 have big:=bU
 refine⟨_,(@aE _ _ _ _ _ (@dG _ _ _ _ _ _ _ _ (@PW.pt _ _ _ (@kA _ _ _ _ _ _ _ (@dA _ _ _ _ (@cR _ _ _ (@aS _ _ _ _ _ _ _ _ _ (@cD _ (K) rfl) rfl T.n_isinstance bD (@aA _ _ _ _ _ (pv 0) (@aA _ _ _ _ _ (@kE _ _ _ _ T.n_str zW (by rfl) (by decide) (by decide)) aB (by rfl)) (by rfl)) (by decide) (by decide) (by rfl) (by rfl)) (by intro _;rfl))) (@iW _ _ _ _ (@dA _ _ _ _ (@aLQ _ _ _ _ _ _ _ _ _ _ _ _ tF tF aD (@aS _ _ _ _ _ _ _ _ _ aCD rfl T.n_len bJ (@aA _ _ _ _ _ (pv 0) aB (by rfl)) (by decide) (by decide) (by rfl) (by rfl)) (@rK _ _ _ _ T.g_MOST_LETTERS (by rfl) (by decide)) (by with_unfolding_all rfl)))))) (@aG _ _ _ (@aQ _ _ _ _ fC)) bP) (@aG _ _ _ (@aQ _ _ _ _ (@dD _ _ _ _ _ _ _ (@dC _ _ _ _ _ _ _ _ yX (pv 0) (@rK _ _ _ _ T.g_SEA (by rfl) (by decide)) (@bI _ _ (by decide) (by decide))) (@dY _ _ _ _ _ (@aS _ _ _ _ _ _ _ _ _ (@kM _ rfl) rfl T.n_all iQ (@aA _ _ _ _ _ (@bZ _ _ _ _ _ _ _ _ _ _ _ ["sign"] 1 [] rfl (@aSD _ _ _ _ (pv 0)) (fun R=>@aN _ _ (0) _ (show Ar (["sign"]:List Str) by decide +kernel) rfl (Or.inl rfl) (by trivial)) (@aW _ _ (by decide)) (fun R=>bT) (fun R=>(@dC _ _ _ _ _ _ _ _ aJL (pv 0) (@rK _ _ _ _ T.g_LETTERS (by rfl) (by decide)) (by with_unfolding_all rfl))) (by rfl) (by rfl) (by rfl) (by rfl) (by rfl) (by rfl) (by rfl) (by intro _;rfl)) aB (by rfl)) (by decide) (by decide) (by rfl) (by rfl))))))),?_⟩
 refine⟨_,rfl,_,_,_,t,_,rfl,rfl,ty,e3,_,rfl,?_⟩
 cases d with
 | str z =>
  cases (show x=.str z from hd)
  have hz:z.length≤1000:=of_decide_eq_true hz
  have q:Q (.bl (eW z)) H:=q
  have hzs:z.length≤Ak:=by omega
  refine bO ?_
  refine⟨_,rfl,z,rfl,hzs,_,_,rfl,rfl,_,rfl,?_⟩
  refine iZ (fun h1=>?_) (fun h1=>?_)
  ·refine⟨_,_,rfl,rfl,_,rfl,?_⟩
   have h1':1≤z.length:=by
    have:=of_decide_eq_true h1
    omega
   refine iZ (fun h2=>?_) (fun h2=>?_)
   ·have e:eW z=false:=by
     have h2':¬ z.length≤8:=by
      intro h3
      have:((z.length:Nat):Int)≤8:=by omega
      simp[this] at h2
     simp[eW,h2']
    rw[e] at q
    exact cW.of (.refl _) q
   ·have h2':z.length≤8:=by
     have h3:decide (((z.length:Nat):Int)≤8)=true:=by
      cases h4:decide (((z.length:Nat):Int)≤8) with
      | true=>rfl
      | false=>exact absurd (by rw[h4];rfl) h2
     have:=of_decide_eq_true h3
     omega
    refine⟨_,rfl,rfl,_,rfl,?_⟩
    refine iZ (fun h3=>?_) (fun h3=>?_)
    ·have h3':¬ z="sea":=by
      intro h4
      subst h4
      simp at h3
     refine⟨_,rfl,z,rfl,?_⟩
     refine aNL (Az hz (by decide)) (fun i ys H'=>H'=H∧ys=(z.cps.toList.take i).map fun c=>V.bl (fH c)) ⟨rfl,rfl⟩ ?_ ?_ ?_
     ·rintro i ys H' ⟨_,rfl⟩
      rw[AA,AH]
      omega
     ·rintro i c ys H' K1 K2 hc ⟨rfl,rfl⟩ k1 k2
      refine⟨_,rfl,_,_,rfl,rfl,k1 _ _ ⟨rfl,?_⟩⟩
      have hc':z.cps.toList[i]?=some c:=by simpa using hc
      rw[AT,hc',aGE]
      simp
     ·rintro ys H' ⟨rfl,rfl⟩
      intro p hp'
      refine⟨p,z.cps.toList.map fH,rfl,SqL.of ?_,?_⟩
      ·rw[aC,AE (by simp),Aq]
       rfl
      ·refine⟨H',gJ.lst hp',?_⟩
       have e:eW z=(z.cps.toList.map fH).all id:=by
        rw[DH]
        simp[eW,h1',h2',h3']
       rw[← e]
       exact q
    ·have e:eW z=false:=by
      have h4:z="sea":=by
       apply DF
       intro h5
       exact h3 (by simp[h5])
      subst h4
      simp[eW]
     rw[e] at q
     exact cW.of (.refl _) q
  ·have e:eW z=false:=by
    have h1':¬ 1≤z.length:=by
     intro h3
     exact h1 (decide_eq_true (by omega))
    simp[eW,h1']
   rw[e] at q
   exact⟨_,rfl,cW.of (.refl _) q⟩
 | non=>exact cW.of (.refl _) q
 | bl b=>exact cW.of (.refl _) q
 | int i=>exact cW.of (.refl _) q
 | lst a=>exact cW.of (.refl _) q
 | tup a=>exact cW.of (.refl _) q
 | dct a b=>exact cW.of (.refl _) q
def hU:Sp:=sp1 fun x H Q=>∃ d,Is H d x∧Q (.bl (eA d)) H
theorem dI(T:Txt K mg C):Fc P w K mg base 2 "is_height" ["thing"] hU:=by
 have G_p_is_whole:Fc P w K mg base 1 "is_whole" ["thing"] aAH:=oR T
 refine T.d_p_is_height.fc uZ oE (fun f cdv A outer s H vs Q E hr h=>?_)
 obtain⟨x,rfl,d,hd,q⟩:=h
 refine⟨_,(@aG _ _ _ (@aQ _ _ _ _ (@dD _ _ _ _ _ _ _ (@bC _ _ _ _ _ _ _ _ _ _ G_p_is_whole (hr.mono (by decide)) (@aA _ _ _ _ _ (pv 0) aB (by rfl)) (by rfl) (by decide) (by rfl) (by rfl)) (@dY _ _ _ _ _ (@vU _ _ _ _ _ _ _ _ _ _ _ _ tF tF (@aQU _ _ _ _ _ _ aKK (@rK _ _ _ _ T.g_MOST_HEIGHT (by rfl) (by decide))) (pv 0) (@rK _ _ _ _ T.g_MOST_HEIGHT (by rfl) (by decide)) (by with_unfolding_all rfl)))))),?_⟩
 refine⟨_,rfl,_,rfl,d,hd,_,rfl,?_⟩
 cases d with
 | int i =>
  cases (show x=.int i from hd)
  refine cP ?_
  have q:Q (.bl (decide (-1000000≤i) && decide (i≤1000000))) H:=q
  refine⟨_,rfl,_,rfl,_,_,rfl,rfl,_,rfl,?_⟩
  refine iZ (fun h1=>?_) (fun h1=>?_)
  ·refine⟨_,_,rfl,rfl,?_⟩
   rw[decide_eq_true (show -1000000≤i from of_decide_eq_true h1),BT] at q
   exact q
  ·rw[show decide (-1000000≤i)=false from by simpa using h1,Cr] at q
   exact q
 | _=>exact bO q
def uV:Sp:=sp1 fun x H Q=>∃ d,Is H d x∧Q (.bl (kG d)) H
theorem mP(T:Txt K mg C):Fc P w K mg base 2 "is_amount" ["thing"] uV:=by
 have G_p_is_whole:Fc P w K mg base 1 "is_whole" ["thing"] aAH:=oR T
 refine T.d_p_is_amount.fc vA oE (fun f cdv A outer s H vs Q E hr h=>?_)
 obtain⟨x,rfl,d,hd,q⟩:=h
 refine⟨_,(@aG _ _ _ (@aQ _ _ _ _ (@dD _ _ _ _ _ _ _ (@bC _ _ _ _ _ _ _ _ _ _ G_p_is_whole (hr.mono (by decide)) (@aA _ _ _ _ _ (pv 0) aB (by rfl)) (by rfl) (by decide) (by rfl) (by rfl)) (@dY _ _ _ _ _ (@vU _ _ _ _ _ _ _ _ _ _ _ _ tF tF aD (pv 0) (@rK _ _ _ _ T.g_MOST_AMOUNT (by rfl) (by decide)) (by with_unfolding_all rfl)))))),?_⟩
 refine⟨_,rfl,_,rfl,d,hd,_,rfl,?_⟩
 cases d with
 | int i =>
  cases (show x=.int i from hd)
  refine cP ?_
  have q:Q (.bl (decide (0≤i) && decide (i≤1000000))) H:=q
  refine⟨_,rfl,_,_,rfl,rfl,_,rfl,?_⟩
  refine iZ (fun h1=>?_) (fun h1=>?_)
  ·refine⟨_,_,rfl,rfl,?_⟩
   rw[decide_eq_true (show 0≤i from of_decide_eq_true h1),BT] at q
   exact q
  ·rw[show decide (0≤i)=false from by simpa using h1,Cr] at q
   exact q
 | _=>exact bO q
def pU(K:AD):Sp:=sp2 fun x y H Q=>∃ (d:Dv) (p:Addr) (zs:List Str),Is H d x∧y=.ref p∧SqL K H p (zs.map V.str)∧Q (.bl (fS zs d)) H
theorem lC(z:Str)(zs:List Str):inV (.str z) (zs.map V.str)=decide (z∈zs):=by
 unfold inV
 rw[Bc,Df,decide_eq_true_iff]
 constructor
 ·rintro⟨y,hy,e⟩
  obtain⟨u,hu,rfl⟩:=AN.mp hy
  have e':(u == z)=true:=e
  rw[← beq_iff_eq.mp e']
  exact hu
 ·intro h
  exact⟨_,AN.mpr ⟨z,h,rfl⟩,beq_self_eq_true z⟩
theorem gX(zs:List Str):(zs.map V.str).all qR=true:=by
 rw[BS]
 intro y hy
 obtain⟨u,_,rfl⟩:=AN.mp hy
 rfl
theorem gE(T:Txt K mg C):Fc P w K mg base 1 "is_one_of" ["thing","names"] (pU K):=by
 refine T.d_p_is_one_of.fc uY gW (fun f cdv A outer s H vs Q E hr h=>?_)
 obtain⟨x,y,rfl,d,p,zs,hd,rfl,hp,q⟩:=h
 obtain⟨t,ty,e1,e2,e3,_⟩:=sO K hd
 refine⟨_,(@aG _ _ _ (@aQ _ _ _ _ (@dD _ _ _ _ _ _ _ (@aS _ _ _ _ _ _ _ _ _ (@cD _ (K) rfl) rfl T.n_isinstance bD (@aA _ _ _ _ _ (pv 0) (@aA _ _ _ _ _ (@kE _ _ _ _ T.n_str zW (by rfl) (by decide) (by decide)) aB (by rfl)) (by rfl)) (by decide) (by decide) (by rfl) (by rfl)) (@dY _ _ _ _ _ (@dC _ _ _ _ _ _ _ _ (@fN _ (K) rfl) (pv 0) (pv 1) (by with_unfolding_all rfl)))))),?_⟩
 refine⟨_,rfl,_,_,_,t,_,rfl,rfl,ty,e3,_,rfl,?_⟩
 cases d with
 | str z =>
  cases (show x=.str z from hd)
  refine cP ⟨_,rfl,_,rfl,p,_,rfl,.inl hp,rfl,gX zs,?_⟩
  show Q (.bl (inV (.str z) (zs.map V.str))) H
  rw[lC]
  exact q
 | _=>exact bO q
def mB:Sp:=sp2 fun x y H Q=>∃ (d:Dv) (n:Int),Is H d x∧y=.int n∧Q (.bl (zE n d)) H
theorem fK(T:Txt K mg C):Fc P w K mg base 1 "is_list_of" ["thing","most"] mB:=by
 refine T.d_p_is_list_of.fc tR gW (fun f cdv A outer s H vs Q E hr h=>?_)
 obtain⟨x,y,rfl,d,n,hd,rfl,q⟩:=h
 obtain⟨t,ty,e1,e2,e3,e4,_⟩:=sO K hd
 refine⟨_,(@aG _ _ _ (@aQ _ _ _ _ (@dD _ _ _ _ _ _ _ (@aS _ _ _ _ _ _ _ _ _ (@cD _ (K) rfl) rfl T.n_isinstance bD (@aA _ _ _ _ _ (pv 0) (@aA _ _ _ _ _ (@kE _ _ _ _ T.n_list dX (by rfl) (by decide) (by decide)) aB (by rfl)) (by rfl)) (by decide) (by decide) (by rfl) (by rfl)) (@dY _ _ _ _ _ (@vU _ _ _ _ _ _ _ _ _ _ _ _ tF tF aD (@aS _ _ _ _ _ _ _ _ _ (@bB _ (K) rfl) rfl T.n_len bJ (@aA _ _ _ _ _ (pv 0) aB (by rfl)) (by decide) (by decide) (by rfl) (by rfl)) (pv 1) (by with_unfolding_all rfl)))))),?_⟩
 refine⟨_,rfl,_,_,_,t,_,rfl,rfl,ty,e4,_,rfl,?_⟩
 cases d with
 | lst ds =>
  obtain⟨a,vs,rfl,o,hl⟩:=hd
  have hlen:=hl.length
  have q:Q (.bl (decide (1≤ds.length) && decide ((ds.length:Int)≤n))) H:=q
  refine cP ⟨_,rfl,a,vs,rfl,.inl (SqL.of o),_,_,rfl,rfl,_,rfl,?_⟩
  rw[hlen]
  refine iZ (fun h1=>?_) (fun h1=>?_)
  ·refine⟨_,rfl,_,_,rfl,rfl,?_⟩
   have h1':1≤ds.length:=by have:=of_decide_eq_true h1;omega
   rw[decide_eq_true h1',BT] at q
   exact q
  ·have h1':¬ 1≤ds.length:=fun c=>h1 (decide_eq_true (by omega))
   rw[decide_eq_false h1',Cr] at q
   exact q
 | _=>exact bO q
def uI:Sp:=sp2 fun x y H Q=>∃ (d:Dv) (n:Int),Is H d x∧y=.int n∧Q (.bl (aGU n d)) H
theorem gR(T:Txt K mg C):Fc P w K mg base 1 "is_tuple_of" ["thing","length"] uI:=by
 refine T.d_p_is_tuple_of.fc rD gW (fun f cdv A outer s H vs Q E hr h=>?_)
 obtain⟨x,y,rfl,d,n,hd,rfl,q⟩:=h
 obtain⟨t,ty,e1,e2,e3,e4,e5⟩:=sO K hd
 refine⟨_,(@aG _ _ _ (@aQ _ _ _ _ (@dD _ _ _ _ _ _ _ (@aS _ _ _ _ _ _ _ _ _ (@cD _ (K) rfl) rfl T.n_isinstance bD (@aA _ _ _ _ _ (pv 0) (@aA _ _ _ _ _ (@kE _ _ _ _ T.n_tuple tO (by rfl) (by decide) (by decide)) aB (by rfl)) (by rfl)) (by decide) (by decide) (by rfl) (by rfl)) (@dY _ _ _ _ _ (@dC _ _ _ _ _ _ _ _ iX (@aS _ _ _ _ _ _ _ _ _ (@bB _ (K) rfl) rfl T.n_len bJ (@aA _ _ _ _ _ (pv 0) aB (by rfl)) (by decide) (by decide) (by rfl) (by rfl)) (pv 1) (@bI _ _ (by decide) (by decide))))))),?_⟩
 refine⟨_,rfl,_,_,_,t,_,rfl,rfl,ty,e5,_,rfl,?_⟩
 cases d with
 | tup ds =>
  obtain⟨a,vs,rfl,o,hl⟩:=hd
  have hlen:=hl.length
  have q:Q (.bl (decide ((ds.length:Int)=n))) H:=q
  refine cP ⟨_,rfl,a,vs,rfl,.inr (SqT.of o),_,rfl,rfl,?_⟩
  rw[hlen]
  have e:decide (V.int (ds.length:Int)=V.int n)=decide ((ds.length:Int)=n):=by rw[jJ,Bc];simp
  rw[e]
  exact q
 | _=>exact bO q
def uH:Sp:=sp1 fun x H Q=>∃ (p:Addr) (vs:List V) (ds:List Dv) (zs:List Str),x=.ref p∧H p=some (.lst vs)∧IsL H ds vs∧ds.map cN=zs.map some∧zs.length≤1000∧Q (.bl (decide zs.Nodup)) H
theorem aJX{H:Hp}{d:Dv}{v:V}{z:Str}(h:Is H d v)(e:cN d=some z):∃ a r,v=.ref a∧H a=some (.tup (.str z :: r)):=by
 cases d with
 | tup ds =>
  cases ds with
  | nil=>cases e
  | cons d0 ds =>
   cases d0 with
   | str y =>
    cases e
    obtain⟨a,vs,rfl,o,v0,r,rfl,h0,_⟩:=h
    cases (show v0=.str z from h0)
    exact⟨a,r,rfl,o⟩
   | _=>cases e
 | _=>cases e
theorem fU(zs:List Str):(zs.map (Sum.inr:Str→Key)).Nodup↔zs.Nodup:=by
 induction zs with
 | nil=>simp
 | cons z zs ih =>
  rw[AX,Ap,Ap,ih]
  simp
theorem aBN(zs:List Str):(zs.map (Sum.inr:Str→Key)).map kV=zs.map V.str:=by
 rw[Aq];rfl
theorem iE(T:Txt K mg C):Fc P w K mg base 1 "none_twice" ["rows"] uH:=by
 refine T.d_p_none_twice.fcD tQ oE (fun f cdv A outer s H vs Q E hr h=>?_)
 obtain⟨x,rfl,p,us,ds,zs,rfl,hp,hi,hz,hn,q⟩:=h
 have big:=bU
 have l1:=hi.length
 have l2:ds.length=zs.length:=by have:=congrArg Bs hz;simpa using this
 refine⟨_,(@aG _ _ _ (@aQ _ _ _ _ (@dC _ _ _ _ _ _ _ _ iX (@aS _ _ _ _ _ _ _ _ _ call_len_set rfl T.n_len bJ (@aA _ _ _ _ _ (@dM _ _ _ _ _ _ _ _ _ (@jQ _ rfl) rfl T.n_set sM (@aA _ _ _ _ _ (@bZ _ _ _ _ _ _ _ _ _ _ _ ["row"] 1 [] rfl (@bG _ _ _ _ (pv 0)) (fun R=>@aN _ _ (0) _ (show Ar (["row"]:List Str) by decide +kernel) rfl (Or.inl rfl) (by trivial)) (@aW _ _ (by decide)) (fun R=>bT) (fun R=>(@bA _ _ _ _ _ _ _ (@aT _ (K) rfl) (pv 0) aD (fun _ _=>rfl))) (by rfl) (by rfl) (by rfl) (by rfl) (by rfl) (by rfl) (by rfl) (by intro _;rfl)) aB (by rfl)) (by decide) (by decide) (by rfl) (by rfl)) aB (by rfl)) (by decide) (by decide) (by rfl) (by rfl)) (@aS _ _ _ _ _ _ _ _ _ (@bB _ (K) rfl) rfl T.n_len bJ (@aA _ _ _ _ _ (pv 0) aB (by rfl)) (by decide) (by decide) (by rfl) (by rfl)) (@bI _ _ (by decide) (by decide))))),?_⟩
 refine⟨_,rfl,p,rfl,⟨_,SqL.of hp⟩,?_⟩
 refine bE (F:=K) (xs:=us) (by omega) (fun i ys H'=>H'=H∧ys=(zs.take i).map V.str) ⟨rfl,rfl⟩ ?_ ?_ ?_
 ·rintro i ys H' hi' ⟨rfl,rfl⟩
  exact⟨SqL.of hp,by rw[AA,AH];omega⟩
 ·rintro i x ys H' K1 K2 hx ⟨rfl,rfl⟩ k1 k2
  have hil:i<us.length:=(AB.mp hx).1
  obtain⟨d,ed⟩:∃ d,ds[i]?=some d:=⟨_,AC (by omega)⟩
  obtain⟨z,ez⟩:∃ z,zs[i]?=some z:=⟨_,AC (by omega)⟩
  obtain⟨v,ev,iv⟩:=hi.get ed
  rw[hx] at ev
  cases ev
  have ef:cN d=some z:=by
   have:=congrArg (fun l=>l[i]?) hz
   simpa [ed,ez] using this
  obtain⟨a,r,rfl,o⟩:=aJX iv ef
  refine⟨_,rfl,a,_,0,.str z,rfl,rfl,SqT.of o,aO (j:=0) rfl,k1 _ _ ⟨rfl,?_⟩⟩
  rw[AT,ez]
  simp
 ·rintro ys H' ⟨rfl,rfl⟩
  intro p1 hp1
  have hys:(zs.take us.length).map V.str=(zs.map (Sum.inr:Str→Key)).map kV:=by
   rw[AE (by omega),aBN]
  refine⟨p1,zs.map Sum.inr,rfl,SqL.of (by rw[aC,hys]),by rw[AA];exact hn,fun p2 hp2=>?_⟩
  have hle:=aBY (zs.map (Sum.inr:Str→Key))
  rw[AA] at hle
  have np:p≠p1:=aJ hp hp1
  have np2:p≠p2:=aJ (show upd H' p1 _ p=_ from (aI np).trans hp) hp2
  refine⟨p2,_,_,rfl,aC,by omega,_,rfl,p,us,rfl,.inl (SqL.of (by rw[aI np2,aI np];exact hp)),rfl,?_⟩
  have e:decide (V.int ((uC (zs.map (Sum.inr:Str→Key))).length:Int)=V.int (us.length:Int))=decide zs.Nodup:=by
   rw[jJ,Bc,decide_eq_true_iff,← fU,← sI,AA,beq_iff_eq]
   omega
  rw[e]
  exact cW.of ((gJ.new hp2 rfl).trans (gJ.lst hp1)) q
def aHH:Sp:=sp1 fun x H Q=>∃ d,Is H d x∧cO d=true∧Q (.bl (cC d)) H
theorem xP(T:Txt K mg C):Fc P w K mg base 3 "is_field" ["thing"] aHH:=by
 have G_p_is_tuple_of:Fc P w K mg base 1 "is_tuple_of" ["thing","length"] uI:=gR T
 have G_p_is_name:Fc P w K mg base 1 "is_name" ["thing"] aFE:=qK T
 have G_p_is_height:Fc P w K mg base 2 "is_height" ["thing"] hU:=dI T
 have G_p_is_amount:Fc P w K mg base 2 "is_amount" ["thing"] uV:=mP T
 refine T.d_p_is_field.fc xJ oE (fun f cdv A outer s H vs Q E hr h=>?_)
 obtain⟨x,rfl,d,hd,hs,q⟩:=h
 refine⟨_,(@aE _ _ _ _ _ (@dG _ _ _ _ _ _ _ _ (@dA _ _ _ _ (@cR _ _ _ (@bC _ _ _ _ _ _ _ _ _ _ G_p_is_tuple_of (hr.mono (by decide)) (@aA _ _ _ _ _ (pv 0) (@aA _ _ _ _ _ aD aB (by rfl)) (by rfl)) (by rfl) (by decide) (by rfl) (by rfl)) (by intro _;rfl))) (@aG _ _ _ (@aQ _ _ _ _ fC)) bP) (@aG _ _ _ (@aQ _ _ _ _ (@dD _ _ _ _ _ _ _ (@bC _ _ _ _ _ _ _ _ _ _ G_p_is_name (hr.mono (by decide)) (@aA _ _ _ _ _ (@bA _ _ _ _ _ _ _ (@aT _ (K) rfl) (pv 0) aD (fun _ _=>rfl)) aB (by rfl)) (by rfl) (by decide) (by rfl) (by rfl)) (@dD _ _ _ _ _ _ _ (@bC _ _ _ _ _ _ _ _ _ _ G_p_is_height (hr.mono (by decide)) (@aA _ _ _ _ _ (@bA _ _ _ _ _ _ _ (@aT _ (K) rfl) (pv 0) aD (fun _ _=>rfl)) aB (by rfl)) (by rfl) (by decide) (by rfl) (by rfl)) (@dY _ _ _ _ _ (@bC _ _ _ _ _ _ _ _ _ _ G_p_is_amount (hr.mono (by decide)) (@aA _ _ _ _ _ (@bA _ _ _ _ _ _ _ (@aT _ (K) rfl) (pv 0) aD (fun _ _=>rfl)) aB (by rfl)) (by rfl) (by decide) (by rfl) (by rfl)))))))),?_⟩
 refine⟨_,rfl,_,_,rfl,d,3,hd,rfl,_,rfl,?_⟩
 by_cases h3:∃ a b c,d=.tup [a,b,c]
 ·obtain⟨a,b,c,rfl⟩:=h3
  obtain⟨t,us,rfl,o,va,r1,rfl,ha,vb,r2,rfl,hb,vc,r3,rfl,hc,h0⟩:=hd
  cases (show r3=[] from h0)
  have sa:cO a=true:=by
   exact iS (yG hs) AQ
  have q:Q (.bl (pI a && (eA b && kG c))) H:=q
  refine bO ⟨_,rfl,t,_,0,va,rfl,rfl,SqT.of o,aO (j:=0) rfl,_,rfl,a,ha,sa,_,rfl,?_⟩
  cases ea:pI a with
  | false=>rw[ea] at q;exact bO q
  | true =>
   rw[ea,BT] at q
   refine cP ⟨_,rfl,t,_,1,vb,rfl,rfl,SqT.of o,aO (j:=1) rfl,_,rfl,b,hb,_,rfl,?_⟩
   cases eb:eA b with
   | false=>rw[eb] at q;exact bO q
   | true =>
    rw[eb,BT] at q
    exact cP ⟨_,rfl,t,_,2,vc,rfl,rfl,SqT.of o,aO (j:=2) rfl,_,rfl,c,hc,q⟩
 ·have e1:cC d=false:=by
   unfold cC
   split
   ·rename_i a b c
    exact absurd ⟨a,b,c,rfl⟩ h3
   ·rfl
  have e2:aGU 3 d=false:=by
   cases d with
   | tup ds =>
    refine decide_eq_false (fun e=>?_)
    have e':ds.length=3:=by omega
    match ds,e',h3 with
    | [a,b,c],_,h3=>exact h3 ⟨a,b,c,rfl⟩
   | _=>rfl
  dsimp only
  rw[e2]
  rw[e1] at q
  exact cP q
theorem nX{p:Dv→Bool}(hp:∀ d,p d=true→∃ z,cN d=some z):∀ {ds:List Dv},ds.all p=true→∃ zs:List Str,ds.map cN=zs.map some
 | [],_=>⟨[],rfl⟩
 | d :: ds,h=>by
  rw[Cg,AU] at h
  obtain⟨z,e⟩:=hp d h.1
  obtain⟨zs,e2⟩:=nX hp h.2
  exact⟨z :: zs,by rw[AX,AX,e,e2]⟩
theorem xS(d:Dv)(h:cC d=true):∃ z,cN d=some z:=by
 unfold cC at h
 split at h
 ·rename_i a b c
  rw[AU] at h
  cases a with
  | str z=>exact⟨z,rfl⟩
  | _=>cases h.1
 ·cases h
def aCV:Sp:=sp1 fun x H Q=>∃ d,Is H d x∧cO d=true∧Q (.bl (kN d)) H
theorem tY(T:Txt K mg C):Fc P w K mg base 4 "are_fields" ["thing"] aCV:=by
 have G_p_is_list_of:Fc P w K mg base 1 "is_list_of" ["thing","most"] mB:=fK T
 have G_p_is_field:Fc P w K mg base 3 "is_field" ["thing"] aHH:=xP T
 have G_p_none_twice:Fc P w K mg base 1 "none_twice" ["rows"] uH:=iE T
 refine T.d_p_are_fields.fcD tS oE (fun f cdv A outer s H vs Q E hr h=>?_)
 obtain⟨x,rfl,d,hd,hs,q⟩:=h
 have big:=bU
 refine⟨_,(@aG _ _ _ (@aQ _ _ _ _ (@dD _ _ _ _ _ _ _ (@bC _ _ _ _ _ _ _ _ _ _ G_p_is_list_of (hr.mono (by decide)) (@aA _ _ _ _ _ (pv 0) (@aA _ _ _ _ _ (@rK _ _ _ _ T.g_MOST_FIELDS (by rfl) (by decide)) aB (by rfl)) (by rfl)) (by rfl) (by decide) (by rfl) (by rfl)) (@dD _ _ _ _ _ _ _ (@aS _ _ _ _ _ _ _ _ _ (@kM _ rfl) rfl T.n_all iQ (@aA _ _ _ _ _ (@bZ _ _ _ _ _ _ _ _ _ _ _ ["row"] 1 [] rfl (@bG _ _ _ _ (pv 0)) (fun R=>@aN _ _ (0) _ (show Ar (["row"]:List Str) by decide +kernel) rfl (Or.inl rfl) (by trivial)) (@aW _ _ (by decide)) (fun R=>bT) (fun R=>(@bC _ _ _ _ _ _ _ _ _ _ G_p_is_field (hr.mono (by decide)) (@aA _ _ _ _ _ (pv 0) aB (by rfl)) (by rfl) (by decide) (by rfl) (by rfl))) (by rfl) (by rfl) (by rfl) (by rfl) (by rfl) (by rfl) (by rfl) (by intro _;rfl)) aB (by rfl)) (by decide) (by decide) (by rfl) (by rfl)) (@dY _ _ _ _ _ (@bC _ _ _ _ _ _ _ _ _ _ G_p_none_twice (hr.mono (by decide)) (@aA _ _ _ _ _ (pv 0) aB (by rfl)) (by rfl) (by decide) (by rfl) (by rfl))))))),?_⟩
 refine⟨_,rfl,_,_,rfl,d,12,hd,rfl,_,rfl,?_⟩
 cases d with
 | lst ds =>
  obtain⟨p,us,rfl,o,hi⟩:=hd
  have l1:=hi.length
  have hs':=Ai.mp (show (decide (ds.length≤1000) && dL ds)=true from hs)
  have l2:ds.length≤1000:=of_decide_eq_true hs'.1
  have q:Q (.bl ((decide (1≤ds.length) && decide (ds.length≤12)) && (ds.all cC && decide ((ds.map cN).Nodup)))) H:=q
  have e0:(decide (1≤ds.length) && decide ((ds.length:Int)≤12))=(decide (1≤ds.length) && decide (ds.length≤12)):=by
   congr 1
   rw[Bc,decide_eq_true_iff,decide_eq_true_iff]
   omega
  show if (decide (1≤ds.length) && decide ((ds.length:Int)≤12))=true then _ else _
  rw[e0]
  refine iZ (fun h1=>?_) (fun h1=>?_)
  ·rw[h1,BT] at q
   refine⟨_,rfl,p,rfl,⟨_,SqL.of o⟩,?_⟩
   refine bE (F:=K) (xs:=us) (by omega) (fun i ys H'=>H'=H∧ys=(ds.take i).map fun d=>V.bl (cC d)) ⟨rfl,rfl⟩ ?_ ?_ ?_
   ·rintro i ys H' hi' ⟨rfl,rfl⟩
    exact⟨SqL.of o,by rw[AA,AH];omega⟩
   ·rintro i x ys H' K1 K2 hx ⟨rfl,rfl⟩ k1 k2
    have hil:i<us.length:=(AB.mp hx).1
    obtain⟨d,ed⟩:∃ d,ds[i]?=some d:=⟨_,AC (by omega)⟩
    obtain⟨v,ev,iv⟩:=hi.get ed
    rw[hx] at ev
    cases ev
    refine⟨_,rfl,_,rfl,d,iv,iS hs'.2 (AG ed),k1 _ _ ⟨rfl,?_⟩⟩
    rw[AT,ed]
    simp
   ·rintro ys H' ⟨rfl,rfl⟩
    intro p1 hp1
    have np:p≠p1:=aJ o hp1
    refine⟨p1,ds.map cC,rfl,SqL.of ?_,_,rfl,?_⟩
    ·rw[aC,AE (by omega),Aq]
     rfl
    have e1:(ds.map cC).all id=ds.all cC:=by rw[DH];rfl
    rw[e1]
    refine iZ (fun h2=>?_) (fun h2=>?_)
    ·rw[h2,BT] at q
     obtain⟨zs,ez⟩:=nX xS h2
     have l3:zs.length=ds.length:=by have:=congrArg Bs ez;simpa using this.symm
     refine⟨_,rfl,_,rfl,p,us,ds,zs,rfl,by rw[aI np];exact o,IsL.same (aH.upd hp1) _ _ hi,ez,by omega,?_⟩
     have e2:decide zs.Nodup=decide (ds.map cN).Nodup:=by rw[ez,Bc,decide_eq_true_iff,decide_eq_true_iff,eI]
     rw[e2]
     exact cW.of (gJ.lst hp1) q
    ·have h2':ds.all cC=false:=by simpa using h2
     rw[h2'] at q
     exact cW.of (gJ.lst hp1) q
  ·have h1':(decide (1≤ds.length) && decide (ds.length≤12))=false:=by simpa using h1
   rw[h1'] at q
   exact cW.of (.refl _) q
 | _=>exact bO (cW.of (.refl _) q)
def aHE(K:AD):Sp:=sp3 fun x y u H Q=>∃ (a b:Dv) (p:Addr) (zs:List Str),Is H a x∧Is H b y∧u=.ref p∧SqL K H p (zs.map V.str)∧Q (.bl (nJ zs a b)) H
theorem vY(T:Txt K mg C):Fc P w K mg base 2 "are_sides" ["one","other","sides"] (aHE K):=by
 have G_p_is_one_of:Fc P w K mg base 1 "is_one_of" ["thing","names"] (pU K):=gE T
 refine T.d_p_are_sides.fc vD rS (fun f cdv A outer s H vs Q E hr h=>?_)
 obtain⟨x,y,u,rfl,a,b,p,zs,ha,hb,rfl,hp,q⟩:=h
 refine⟨_,(@aG _ _ _ (@aQ _ _ _ _ (@dD _ _ _ _ _ _ _ (@bC _ _ _ _ _ _ _ _ _ _ G_p_is_one_of (hr.mono (by decide)) (@aA _ _ _ _ _ (pv 0) (@aA _ _ _ _ _ (pv 2) aB (by rfl)) (by rfl)) (by rfl) (by decide) (by rfl) (by rfl)) (@dD _ _ _ _ _ _ _ (@bC _ _ _ _ _ _ _ _ _ _ G_p_is_one_of (hr.mono (by decide)) (@aA _ _ _ _ _ (pv 1) (@aA _ _ _ _ _ (pv 2) aB (by rfl)) (by rfl)) (by rfl) (by decide) (by rfl) (by rfl)) (@dY _ _ _ _ _ (@dC _ _ _ _ _ _ _ _ yX (pv 0) (pv 1) (@bI _ _ (by decide) (by decide)))))))),?_⟩
 have q:Q (.bl (fS zs a && (fS zs b && !deq a b))) H:=q
 refine⟨_,rfl,_,rfl,_,_,rfl,a,p,zs,ha,rfl,hp,_,rfl,?_⟩
 cases ea:fS zs a with
 | false=>rw[ea] at q;exact bO q
 | true =>
  rw[ea,BT] at q
  refine cP ⟨_,rfl,_,rfl,_,_,rfl,b,p,zs,hb,rfl,hp,_,rfl,?_⟩
  cases eb:fS zs b with
  | false=>rw[eb] at q;exact bO q
  | true =>
   rw[eb,BT] at q
   cases a with
   | str z =>
    cases b with
    | str z' =>
     cases (show x=.str z from ha)
     cases (show y=.str z' from hb)
     refine cP ⟨_,rfl,_,rfl,rfl,?_⟩
     have e:(!decide (V.str z=V.str z'))=!deq (.str z) (.str z'):=by rw[qS];rfl
     rw[e]
     exact q
    | _=>cases eb
   | _=>cases ea
def aKT:Sp:=sp2 fun x y H Q=>∃ (d:Dv) (j:Int),Is H d x∧y=.int j∧Q (.bl (lB (.int j) d)) H
theorem aBK(T:Txt K mg C):Fc P w K mg base 3 "is_sill" ["thing","crown"] aKT:=by
 have G_p_is_height:Fc P w K mg base 2 "is_height" ["thing"] hU:=dI T
 refine T.d_p_is_sill.fc aAV gW (fun f cdv A outer s H vs Q E hr h=>?_)
 obtain⟨x,y,rfl,d,j,hd,rfl,q⟩:=h
 refine⟨_,(@aG _ _ _ (@aQ _ _ _ _ (@aQV _ _ _ _ _ _ _ (@dC _ _ _ _ _ _ _ _ aSI (pv 0) rJ (@bI _ _ (by decide) (by decide))) (@dY _ _ _ _ _ (@dD _ _ _ _ _ _ _ (@bC _ _ _ _ _ _ _ _ _ _ G_p_is_height (hr.mono (by decide)) (@aA _ _ _ _ _ (pv 0) aB (by rfl)) (by rfl) (by decide) (by rfl) (by rfl)) (@dY _ _ _ _ _ (@dC _ _ _ _ _ _ _ _ tE (pv 0) (pv 1) (@bI _ _ (by decide) (by decide))))))))),?_⟩
 refine⟨_,rfl,rfl,_,rfl,?_⟩
 cases d with
 | non =>
  cases (show x=.non from hd)
  rw[decide_eq_true rfl]
  exact cP q
 | int i =>
  cases (show x=.int i from hd)
  rw[decide_eq_false (show ¬ V.int i=V.non by intro z;cases z)]
  refine bO ⟨_,rfl,_,rfl,.int i,rfl,_,rfl,?_⟩
  have q:Q (.bl (hgt i && decide (i<j))) H:=q
  show if hgt i=true then _ else _
  cases e:hgt i with
  | false=>rw[e] at q;exact bO q
  | true=>rw[e,BT] at q;exact cP ⟨_,rfl,_,rfl,_,_,rfl,rfl,q⟩
 | bl b =>
  cases (show x=.bl b from hd)
  rw[decide_eq_false (show ¬ V.bl b=V.non by intro z;cases z)]
  exact bO ⟨_,rfl,_,rfl,.bl b,rfl,_,rfl,bO q⟩
 | str b =>
  cases (show x=.str b from hd)
  rw[decide_eq_false (show ¬ V.str b=V.non by intro z;cases z)]
  exact bO ⟨_,rfl,_,rfl,.str b,rfl,_,rfl,bO q⟩
 | lst b =>
  obtain⟨a,us,rfl,o⟩:=id hd
  rw[decide_eq_false (show ¬ V.ref a=V.non by intro z;cases z)]
  exact bO ⟨_,rfl,_,rfl,.lst b,hd,_,rfl,bO q⟩
 | tup b =>
  obtain⟨a,us,rfl,o⟩:=id hd
  rw[decide_eq_false (show ¬ V.ref a=V.non by intro z;cases z)]
  exact bO ⟨_,rfl,_,rfl,.tup b,hd,_,rfl,bO q⟩
 | dct b c =>
  obtain⟨a,us,rfl,o⟩:=id hd
  rw[decide_eq_false (show ¬ V.ref a=V.non by intro z;cases z)]
  exact bO ⟨_,rfl,_,rfl,.dct b c,hd,_,rfl,bO q⟩
def aKY(K:AD):Sp:=sp2 fun x y H Q=>∃ (d:Dv) (p:Addr) (zs:List Str),Is H d x∧cO d=true∧y=.ref p∧SqL K H p (zs.map V.str)∧Q (.bl (cV zs d)) H
theorem aBL(T:Txt K mg C):Fc P w K mg base 4 "is_dyke" ["thing","sides"] (aKY K):=by
 have G_p_is_tuple_of:Fc P w K mg base 1 "is_tuple_of" ["thing","length"] uI:=gR T
 have G_p_is_name:Fc P w K mg base 1 "is_name" ["thing"] aFE:=qK T
 have G_p_are_sides:Fc P w K mg base 2 "are_sides" ["one","other","sides"] (aHE K):=vY T
 have G_p_is_height:Fc P w K mg base 2 "is_height" ["thing"] hU:=dI T
 have G_p_is_amount:Fc P w K mg base 2 "is_amount" ["thing"] uV:=mP T
 have G_p_is_sill:Fc P w K mg base 3 "is_sill" ["thing","crown"] aKT:=aBK T
 refine T.d_p_is_dyke.fc aAX gW (fun f cdv A outer s H vs Q E hr h=>?_)
 obtain⟨x,y,rfl,d,p,zs,hd,hs,rfl,hp,q⟩:=h
 refine⟨_,(@aE _ _ _ _ _ (@dG _ _ _ _ _ _ _ _ (@PW.pt _ _ _ (@kA _ _ _ _ _ _ _ (@dA _ _ _ _ (@cR _ _ _ (@bC _ _ _ _ _ _ _ _ _ _ G_p_is_tuple_of (hr.mono (by decide)) (@aA _ _ _ _ _ (pv 0) (@aA _ _ _ _ _ aD aB (by rfl)) (by rfl)) (by rfl) (by decide) (by rfl) (by rfl)) (by intro _;rfl))) (@kA _ _ _ _ _ _ _ (@dA _ _ _ _ (@cR _ _ _ (@bC _ _ _ _ _ _ _ _ _ _ G_p_is_name (hr.mono (by decide)) (@aA _ _ _ _ _ (@bA _ _ _ _ _ _ _ (@aT _ (K) rfl) (pv 0) aD (fun _ _=>rfl)) aB (by rfl)) (by rfl) (by decide) (by rfl) (by rfl)) (by intro _;rfl))) (@iW _ _ _ _ (@dA _ _ _ _ (@cR _ _ _ (@bC _ _ _ _ _ _ _ _ _ _ G_p_are_sides (hr.mono (by decide)) (@aA _ _ _ _ _ (@bA _ _ _ _ _ _ _ (@aT _ (K) rfl) (pv 0) aD (fun _ _=>rfl)) (@aA _ _ _ _ _ (@bA _ _ _ _ _ _ _ (@aT _ (K) rfl) (pv 0) aD (fun _ _=>rfl)) (@aA _ _ _ _ _ (pv 1) aB (by rfl)) (by rfl)) (by rfl)) (by rfl) (by decide) (by rfl) (by rfl)) (by intro _;rfl))))))) (@aG _ _ _ (@aQ _ _ _ _ fC)) bP) (@aG _ _ _ (@aQ _ _ _ _ (@dD _ _ _ _ _ _ _ (@bC _ _ _ _ _ _ _ _ _ _ G_p_is_height (hr.mono (by decide)) (@aA _ _ _ _ _ (@bA _ _ _ _ _ _ _ (@aT _ (K) rfl) (pv 0) aD (fun _ _=>rfl)) aB (by rfl)) (by rfl) (by decide) (by rfl) (by rfl)) (@dD _ _ _ _ _ _ _ (@bC _ _ _ _ _ _ _ _ _ _ G_p_is_amount (hr.mono (by decide)) (@aA _ _ _ _ _ (@bA _ _ _ _ _ _ _ (@aT _ (K) rfl) (pv 0) aD (fun _ _=>rfl)) aB (by rfl)) (by rfl) (by decide) (by rfl) (by rfl)) (@dY _ _ _ _ _ (@bC _ _ _ _ _ _ _ _ _ _ G_p_is_sill (hr.mono (by decide)) (@aA _ _ _ _ _ (@bA _ _ _ _ _ _ _ (@aT _ (K) rfl) (pv 0) aD (fun _ _=>rfl)) (@aA _ _ _ _ _ (@bA _ _ _ _ _ _ _ (@aT _ (K) rfl) (pv 0) aD (fun _ _=>rfl)) aB (by rfl)) (by rfl)) (by rfl) (by decide) (by rfl) (by rfl)))))))),?_⟩
 refine⟨_,rfl,_,_,rfl,d,6,hd,rfl,_,rfl,?_⟩
 by_cases h6:∃ n a b c r l,d=.tup [n,a,b,c,r,l]
 ·obtain⟨n,a,b,c,r,l,rfl⟩:=h6
  obtain⟨t,us,rfl,o,v0,r0,rfl,i0,v1,r1,rfl,i1,v2,r2,rfl,i2,v3,r3,rfl,i3,v4,r4,rfl,i4,v5,r5,rfl,i5,h0⟩:=hd
  cases (show r5=[] from h0)
  have sn:cO n=true:=by
   exact iS (yG hs) AQ
  have q:Q (.bl (pI n && nJ zs a b && (eA c && (kG r && lB c l)))) H:=q
  have at_:∀ (j:Nat) (v:V),([v0,v1,v2,v3,v4,v5]:List V)[j]?=some v→atI [v0,v1,v2,v3,v4,v5] (j:Int)=some v:=fun j v e=>aO e
  refine bO ⟨_,rfl,t,_,0,v0,rfl,rfl,SqT.of o,at_ 0 _ rfl,_,rfl,n,i0,sn,_,rfl,?_⟩
  cases en:pI n with
  | false=>rw[en] at q;exact cP q
  | true =>
   rw[en,BT] at q
   refine bO ⟨_,rfl,t,_,1,v1,rfl,rfl,SqT.of o,at_ 1 _ rfl,_,rfl,t,_,2,v2,rfl,rfl,SqT.of o,at_ 2 _ rfl,_,rfl,_,_,_,rfl,a,b,p,zs,i1,i2,rfl,hp,_,rfl,?_⟩
   cases es:nJ zs a b with
   | false=>rw[es] at q;exact cP q
   | true =>
    rw[es,BT] at q
    refine bO ⟨_,rfl,t,_,3,v3,rfl,rfl,SqT.of o,at_ 3 _ rfl,_,rfl,c,i3,_,rfl,?_⟩
    cases ec:eA c with
    | false=>rw[ec] at q;exact bO q
    | true =>
     rw[ec,BT] at q
     refine cP ⟨_,rfl,t,_,4,v4,rfl,rfl,SqT.of o,at_ 4 _ rfl,_,rfl,r,i4,_,rfl,?_⟩
     cases er:kG r with
     | false=>rw[er] at q;exact bO q
     | true =>
      rw[er,BT] at q
      cases c with
      | int j =>
       cases (show v3=.int j from i3)
       exact cP ⟨_,rfl,t,_,5,v5,rfl,rfl,SqT.of o,at_ 5 _ rfl,_,rfl,t,_,3,_,rfl,rfl,SqT.of o,at_ 3 _ rfl,_,_,rfl,l,j,i5,rfl,q⟩
      | _=>cases ec
 ·have e1:cV zs d=false:=by
   unfold cV
   split
   ·rename_i n a b c r l
    exact absurd ⟨n,a,b,c,r,l,rfl⟩ h6
   ·rfl
  have e2:aGU 6 d=false:=by
   cases d with
   | tup ds =>
    refine decide_eq_false (fun e=>?_)
    have e':ds.length=6:=by omega
    match ds,e',h6 with
    | [n,a,b,c,r,l],_,h6=>exact h6 ⟨n,a,b,c,r,l,rfl⟩
   | _=>rfl
  dsimp only
  rw[e2]
  rw[e1] at q
  exact cP q
theorem aBV{zs:List Str}(d:Dv)(h:cV zs d=true):∃ z,cN d=some z:=by
 unfold cV at h
 split at h
 ·rename_i n a b c r l
  rw[AU,AU] at h
  cases n with
  | str z=>exact⟨z,rfl⟩
  | _=>cases h.1.1
 ·cases h
def aHJ(K:AD):Sp:=sp2 fun x y H Q=>∃ (d:Dv) (p:Addr) (zs:List Str),Is H d x∧cO d=true∧y=.ref p∧H p=some (.lst (zs.map V.str))∧Q (.bl (nK zs d)) H
theorem vZ(T:Txt K mg C):Fc P w K mg base 5 "are_dykes" ["thing","sides"] (aHJ K):=by
 have G_p_is_list_of:Fc P w K mg base 1 "is_list_of" ["thing","most"] mB:=fK T
 have G_p_is_dyke:Fc P w K mg base 4 "is_dyke" ["thing","sides"] (aKY K):=aBL T
 have G_p_none_twice:Fc P w K mg base 1 "none_twice" ["rows"] uH:=iE T
 refine T.d_p_are_dykes.fcD vE gW (fun f cdv A outer s H vs Q E hr h=>?_)
 obtain⟨x,y,rfl,d,p0,zs0,hd,hs,rfl,hp0,q⟩:=h
 have big:=bU
 refine⟨_,(@aG _ _ _ (@aQ _ _ _ _ (@dD _ _ _ _ _ _ _ (@bC _ _ _ _ _ _ _ _ _ _ G_p_is_list_of (hr.mono (by decide)) (@aA _ _ _ _ _ (pv 0) (@aA _ _ _ _ _ (@rK _ _ _ _ T.g_MOST_DYKES (by rfl) (by decide)) aB (by rfl)) (by rfl)) (by rfl) (by decide) (by rfl) (by rfl)) (@dD _ _ _ _ _ _ _ (@aS _ _ _ _ _ _ _ _ _ (@kM _ rfl) rfl T.n_all iQ (@aA _ _ _ _ _ (@bZ _ _ _ _ _ _ _ _ _ _ _ ["row","sides"] 1 [1] rfl (@bG _ _ _ _ (pv 0)) (fun R=>@aN _ _ (0) _ (show Ar (["row","sides"]:List Str) by decide +kernel) rfl (Or.inl rfl) (by trivial)) (@aW _ _ (by decide)) (fun R=>bT) (fun R=>(@bC _ _ _ _ _ _ _ _ _ _ G_p_is_dyke (hr.mono (by decide)) (@aA _ _ _ _ _ (pv 0) (@aA _ _ _ _ _ (pv 1) aB (by rfl)) (by rfl)) (by rfl) (by decide) (by rfl) (by rfl))) (by rfl) (by rfl) (by rfl) (by rfl) (by rfl) (by rfl) (by rfl) (by intro _;rfl)) aB (by rfl)) (by decide) (by decide) (by rfl) (by rfl)) (@dY _ _ _ _ _ (@bC _ _ _ _ _ _ _ _ _ _ G_p_none_twice (hr.mono (by decide)) (@aA _ _ _ _ _ (pv 0) aB (by rfl)) (by rfl) (by decide) (by rfl) (by rfl))))))),?_⟩
 refine⟨_,rfl,_,_,rfl,d,40,hd,rfl,_,rfl,?_⟩
 cases d with
 | lst ds =>
  obtain⟨p,us,rfl,o,hi⟩:=hd
  have l1:=hi.length
  have hs':=Ai.mp (show (decide (ds.length≤1000) && dL ds)=true from hs)
  have l2:ds.length≤1000:=of_decide_eq_true hs'.1
  have q:Q (.bl ((decide (1≤ds.length) && decide (ds.length≤40)) && (ds.all (cV zs0) && decide ((ds.map cN).Nodup)))) H:=q
  have e0:(decide (1≤ds.length) && decide ((ds.length:Int)≤40))=(decide (1≤ds.length) && decide (ds.length≤40)):=by
   congr 1
   rw[Bc,decide_eq_true_iff,decide_eq_true_iff]
   omega
  show if (decide (1≤ds.length) && decide ((ds.length:Int)≤40))=true then _ else _
  rw[e0]
  refine iZ (fun h1=>?_) (fun h1=>?_)
  ·rw[h1,BT] at q
   refine⟨_,rfl,p,rfl,⟨_,SqL.of o⟩,?_⟩
   refine bE (F:=K) (xs:=us) (by omega) (fun i ys H'=>H'=H∧ys=(ds.take i).map fun d=>V.bl (cV zs0 d)) ⟨rfl,rfl⟩ ?_ ?_ ?_
   ·rintro i ys H' hi' ⟨rfl,rfl⟩
    exact⟨SqL.of o,by rw[AA,AH];omega⟩
   ·rintro i x ys H' K1 K2 hx ⟨rfl,rfl⟩ k1 k2
    have hil:i<us.length:=(AB.mp hx).1
    obtain⟨d,ed⟩:∃ d,ds[i]?=some d:=⟨_,AC (by omega)⟩
    obtain⟨v,ev,iv⟩:=hi.get ed
    rw[hx] at ev
    cases ev
    refine⟨_,rfl,_,rfl,_,_,rfl,d,p0,zs0,iv,iS hs'.2 (AG ed),rfl,SqL.of hp0,k1 _ _ ⟨rfl,?_⟩⟩
    rw[AT,ed]
    simp
   ·rintro ys H' ⟨rfl,rfl⟩
    intro p1 hp1
    have np:p≠p1:=aJ o hp1
    refine⟨p1,ds.map (cV zs0),rfl,SqL.of ?_,_,rfl,?_⟩
    ·rw[aC,AE (by omega),Aq]
     rfl
    have e1:(ds.map (cV zs0)).all id=ds.all (cV zs0):=by rw[DH];rfl
    rw[e1]
    refine iZ (fun h2=>?_) (fun h2=>?_)
    ·rw[h2,BT] at q
     obtain⟨zs,ez⟩:=nX aBV h2
     have l3:zs.length=ds.length:=by have:=congrArg Bs ez;simpa using this.symm
     refine⟨_,rfl,_,rfl,p,us,ds,zs,rfl,by rw[aI np];exact o,IsL.same (aH.upd hp1) _ _ hi,ez,by omega,?_⟩
     have e2:decide zs.Nodup=decide (ds.map cN).Nodup:=by rw[ez,Bc,decide_eq_true_iff,decide_eq_true_iff,eI]
     rw[e2]
     exact cW.of (gJ.lst hp1) q
    ·have h2':ds.all (cV zs0)=false:=by simpa using h2
     rw[h2'] at q
     exact cW.of (gJ.lst hp1) q
  ·have h1':(decide (1≤ds.length) && decide (ds.length≤40))=false:=by simpa using h1
   rw[h1'] at q
   exact cW.of (.refl _) q
 | _=>exact bO (cW.of (.refl _) q)
def aAM(C:Addr):Sp:=sp3 fun x v1 v2 H Q=>∃ (p dx:Addr) (fs ds:List Dv),x=.ref p∧H p=some (.ins C dx [])∧Is H (.lst fs) v1∧Is H (.lst ds) v2∧cO (.lst fs)=true∧cO (.lst ds)=true ∧
 kN (.lst fs)=true∧nK ("sea" :: fs.map aP) (.lst ds)=true∧∀ H',LandAt C H' p fs ds→(∀ b o,H b=some o→b≠p→H' b=some o)→Q .non H'
def aAJ(C:Addr)(sel:List Dv→List Dv→List Dv):Sp:=sp1 fun x H Q=>∃ (p:Addr) (fs ds:List Dv),x=.ref p∧LandAt C H p fs ds∧∀ (l:Addr) (vs:List V) (H':Hp),aH H H'→H l=none→H' l=some (.lst vs)→IsL H' (sel fs ds) vs→Q (.ref l) H'
def aAI(C:Addr)(sel:List Dv→List Dv→List Str):Sp:=sp1 fun x H Q=>∃ (p:Addr) (fs ds:List Dv),x=.ref p∧LandAt C H p fs ds∧∀ (l:Addr) (H':Hp),aH H H'→H l=none→H' l=some (.lst ((sel fs ds).map V.str))→Q (.ref l) H'
def aHF(C:Addr)(sel:List Dv→List Dv→List Dv):Sp:=sp1 fun x H Q=>∃ (p:Addr) (fs ds:List Dv),x=.ref p∧LandAt C H p fs ds∧∀ (l:Addr) (vs:List V),H l=none→IsL H (sel fs ds) vs→Q (.ref l) (upd H l (.lst vs))
def uJ(C:Addr)(sel:List Dv→List Dv→List Str):Sp:=sp1 fun x H Q=>∃ (p:Addr) (fs ds:List Dv),x=.ref p∧LandAt C H p fs ds∧∀ (l:Addr),H l=none→Q (.ref l) (upd H l (.lst ((sel fs ds).map V.str)))
theorem aLG{C:Addr}{sel:List Dv→List Dv→List Dv}:∀ vs H Q E,aAJ C sel vs H Q E→aHF C sel vs H Q E:=by
 rintro vs H Q E ⟨x,rfl,p,fs,ds,rfl,L,q⟩
 exact⟨_,rfl,p,fs,ds,rfl,L,fun l us hl hi=>q l us _ (aH.upd hl) hl aC (IsL.same (aH.upd hl) _ _ hi)⟩
theorem aKP{C:Addr}{sel:List Dv→List Dv→List Str}:∀ vs H Q E,aAI C sel vs H Q E→uJ C sel vs H Q E:=by
 rintro vs H Q E ⟨x,rfl,p,fs,ds,rfl,L,q⟩
 exact⟨_,rfl,p,fs,ds,rfl,L,fun l hl=>q l _ (aH.upd hl) hl aC⟩
theorem rO(T:Txt K mg C):Mc P w K mg base 1 C "dykes" ["self"] (aHF C fun _ ds=>ds):=by
 refine T.m_land_p_dykes.mcD tT oE (fun f cdv A outer s H vs Q E hr h=>?_)
 obtain⟨x,rfl,p,fs,ds,rfl,L,q⟩:=h
 obtain⟨dx,d1,d2,hx,t1,⟨k1,h1,e1,i1⟩⟩:=L.ex
 refine⟨_,(@aG _ _ _ (@aQ _ _ _ _ (@dM _ _ _ _ _ _ _ _ _ (@sL _ rfl) rfl T.n_list dX (@aA _ _ _ _ _ (@aLY _ _ _ _ _ _ _ _ _ PySem.F.plainAttrs_dict PySem.F.slot_dict_values PySem.F.type_dict_values aJN (@vT _ _ _ _ _ (pv 0) rfl) (by rfl) (by rfl)) aB (by rfl)) (by decide) (by decide) (by rfl) (by rfl)))),?_⟩
 refine⟨_,rfl,p,C,dx,_,_,rfl,hx,T.cl_Land,T.a_dyke_rows,aBT _ _,.inr (.inr (.inl ⟨rfl,.inl ⟨_,h1⟩⟩)),d2,k1,rfl,rfl,.inl h1,fun v hv=>?_⟩
 have nv:d2≠v:=aJ h1 hv
 refine⟨v,d2,k1,rfl,aC,.inl (by rw[aI nv];exact h1),fun l hl=>?_⟩
 exact cW.of (gJ.under hv rfl hl) (q l _ ((aH.upd hv).free hl) i1)
theorem lN(T:Txt K mg C):Mc P w K mg base 1 C "dykes" ["self"] (aAJ C fun _ ds=>ds):=(rO T).imp aLG
theorem wI{kvs:List (Key×V)}{ds:List Dv}(e:kvs.map (·.1)=ds.map mX):(kvs.map fun kv=>kV kv.1)=(ds.map aP).map V.str:=by
 have h:(kvs.map fun kv=>kV kv.1)=(kvs.map (·.1)).map kV:=by rw[Aq];rfl
 rw[h,e,Aq,Aq]
 rfl
theorem kX(T:Txt K mg C):Mc P w K mg base 1 C "field_names" ["self"] (uJ C fun fs _=>fs.map aP):=by
 refine T.m_land_p_field_names.mc lO oE (fun f cdv A outer s H vs Q E hr h=>?_)
 obtain⟨x,rfl,p,fs,ds,rfl,L,q⟩:=h
 obtain⟨dx,d1,d2,hx,⟨k1,h1,e1,i1⟩,t2⟩:=L.ex
 refine⟨_,(@aG _ _ _ (@aQ _ _ _ _ (@dM _ _ _ _ _ _ _ _ _ (@nG _ rfl) rfl T.n_list dX (@aA _ _ _ _ _ (@vT _ _ _ _ _ (pv 0) rfl) aB (by rfl)) (by decide) (by decide) (by rfl) (by rfl)))),?_⟩
 refine⟨_,rfl,p,C,dx,_,_,rfl,hx,T.cl_Land,T.a_field_rows,aIC _ _,d1,k1,rfl,.inl h1,fun l hl=>?_⟩
 have:=q l hl
 rw[wI e1]
 exact this
theorem lQ(T:Txt K mg C):Mc P w K mg base 1 C "dyke_names" ["self"] (uJ C fun _ ds=>ds.map aP):=by
 refine T.m_land_p_dyke_names.mc mC oE (fun f cdv A outer s H vs Q E hr h=>?_)
 obtain⟨x,rfl,p,fs,ds,rfl,L,q⟩:=h
 obtain⟨dx,d1,d2,hx,t1,⟨k1,h1,e1,i1⟩⟩:=L.ex
 refine⟨_,(@aG _ _ _ (@aQ _ _ _ _ (@dM _ _ _ _ _ _ _ _ _ (@nG _ rfl) rfl T.n_list dX (@aA _ _ _ _ _ (@vT _ _ _ _ _ (pv 0) rfl) aB (by rfl)) (by decide) (by decide) (by rfl) (by rfl)))),?_⟩
 refine⟨_,rfl,p,C,dx,_,_,rfl,hx,T.cl_Land,T.a_dyke_rows,aBT _ _,d2,k1,rfl,.inl h1,fun l hl=>?_⟩
 have:=q l hl
 rw[wI e1]
 exact this
theorem gM(T:Txt K mg C):Mc P w K mg base 1 C "field_names" ["self"] (aAI C fun fs _=>fs.map aP):=(kX T).imp aKP
theorem jB{H:Hp}{n a b:Str}{c r:Int}{s:Dv}{v:V}(h:Is H (.tup [.str n,.str a,.str b,.int c,.int r,s]) v):∃ t vs,v=.ref t∧H t=some (.tup [.str n,.str a,.str b,.int c,.int r,vs])∧Is H s vs:=by
 obtain⟨t,us,rfl,o,v0,r0,rfl,i0,v1,r1,rfl,i1,v2,r2,rfl,i2,v3,r3,rfl,i3,v4,r4,rfl,i4,v5,r5,rfl,i5,h0⟩:=h
 cases (show r5=[] from h0)
 cases (show v0=_ from i0)
 cases (show v1=_ from i1)
 cases (show v2=_ from i2)
 cases (show v3=_ from i3)
 cases (show v4=_ from i4)
 exact⟨t,v5,rfl,o,i5⟩
theorem fY{H:Hp}{n:Str}{g e:Int}{v:V}(h:Is H (.tup [.str n,.int g,.int e]) v):∃ t,v=.ref t∧H t=some (.tup [.str n,.int g,.int e]):=by
 obtain⟨t,us,rfl,o,v0,r0,rfl,i0,v1,r1,rfl,i1,v2,r2,rfl,i2,h0⟩:=h
 cases (show r2=[] from h0)
 cases (show v0=_ from i0)
 cases (show v1=_ from i1)
 cases (show v2=_ from i2)
 exact⟨t,rfl,o⟩
theorem cK{C:Addr}{H:Hp}{p:Addr}{fs ds:List Dv}(L:LandAt C H p fs ds):GoodF fs∧GoodD ("sea" :: fs.map aP) ds:=⟨(rZ _).mp L.okf,(sA _ _).mp L.okd⟩
def aCU(C:Addr):Sp:=sp2 fun x y H Q=>∃ (p:Addr) (fs ds:List Dv) (z:Str) (g e:Int),x=.ref p∧y=.str z∧LandAt C H p fs ds∧Dv.tup [.str z,.int g,.int e]∈fs∧Q (.int g) H
theorem rN(T:Txt K mg C):Mc P w K mg base 1 C "ground" ["self","field"] (aCU C):=by
 refine T.m_land_p_ground.mc rE gW (fun f cdv A outer s H vs Q E hr h=>?_)
 obtain⟨x,y,rfl,p,fs,ds,z,g,e,rfl,rfl,L,m,q⟩:=h
 have hu:=qP hr
 obtain⟨dx,d1,d2,hx,⟨k1,h1,e1,i1⟩,t2⟩:=L.ex
 obtain⟨v,ev,iv⟩:=aAD e1 i1 (cK L).1.nd m
 obtain⟨t,rfl,o⟩:=fY iv
 refine⟨_,(@aG _ _ _ (@aQ _ _ _ _ (@bA _ _ _ _ _ _ _ (@aT _ (K) rfl) (@jI _ _ _ _ _ _ hu (@vT _ _ _ _ _ (pv 0) rfl) (pv 1) (fun _ _=>rfl)) aD (fun _ _=>rfl)))),?_⟩
 refine⟨_,rfl,p,C,dx,_,_,rfl,hx,T.cl_Land,T.a_field_rows,aIC _ _,_,rfl,d1,.ref t,rfl,?_,t,_,1,.int g,rfl,rfl,SqT.of o,aO (j:=1) rfl,q⟩
 rw[← ev]
 exact uF.k (k:=Sum.inr z) h1
def uK(C:Addr):Sp:=sp2 fun x y H Q=>∃ (p:Addr) (fs ds:List Dv) (d:Dv),x=.ref p∧y=.str (aP d)∧LandAt C H p fs ds∧d∈ds∧∀ v,Is H d v→Q v H
theorem iY(T:Txt K mg C):Mc P w K mg base 1 C "dyke" ["self","name"] (uK C):=by
 refine T.m_land_p_dyke.mc vF gW (fun f cdv A outer s H vs Q E hr h=>?_)
 obtain⟨x,y,rfl,p,fs,ds,d,rfl,rfl,L,m,q⟩:=h
 have hu:=qP hr
 obtain⟨dx,d1,d2,hx,t1,⟨k1,h1,e1,i1⟩⟩:=L.ex
 obtain⟨v,ev,iv⟩:=aAD e1 i1 (cK L).2.nd m
 refine⟨_,(@aG _ _ _ (@aQ _ _ _ _ (@jI _ _ _ _ _ _ hu (@vT _ _ _ _ _ (pv 0) rfl) (pv 1) (fun _ _=>rfl)))),?_⟩
 refine⟨_,rfl,p,C,dx,_,_,rfl,hx,T.cl_Land,T.a_dyke_rows,aBT _ _,_,rfl,d2,v,rfl,?_,q v iv⟩
 rw[← ev]
 exact uF.k (k:=Sum.inr (aP d)) h1
theorem aGT{α β:Type}:∀ {xs:List α} {ys:List β},xs.length=ys.length→(xs.zip ys).map (·.1)=xs
 | [],[],_=>rfl
 | x :: xs,y :: ys,h=>by rw[List.zip_cons_cons,AX,aGT (by simpa using h)]
 | [],_ :: _,h=>by simp at h
 | _ :: _,[],h=>by simp at h
theorem aGS{α β:Type}:∀ {xs:List α} {ys:List β},xs.length=ys.length→(xs.zip ys).map (·.2)=ys
 | [],[],_=>rfl
 | x :: xs,y :: ys,h=>by rw[List.zip_cons_cons,AX,aGS (by simpa using h)]
 | [],_ :: _,h=>by simp at h
 | _ :: _,[],h=>by simp at h
noncomputable def dE(ds:List Dv)(us:List V):List (Key×V):=(ds.map mX).zip us
theorem kU{ds:List Dv}{us:List V}(h:us.length=ds.length):(dE ds us).map (·.1)=ds.map mX:=aGT (by rw[AA];exact h.symm)
theorem vV{ds:List Dv}{us:List V}(h:us.length=ds.length):(dE ds us).map (·.2)=us:=aGS (by rw[AA];exact h.symm)
theorem nQ{ds:List Dv}{us:List V}(h:us.length=ds.length):(dE ds us).length=us.length:=by
 unfold dE
 rw[List.length_zip,AA]
 omega
theorem aDQ{ds:List Dv}{us:List V}{i:Nat}{d:Dv}{v:V}(e1:ds[i]?=some d)(e2:us[i]?=some v):(dE ds us)[i]?=some (mX d,v):=by
 unfold dE
 rw[List.getElem?_zip_eq_some]
 exact⟨by rw[AI,e1];rfl,e2⟩
theorem zJ{ds:List Dv}(h:(ds.map aP).Nodup):(ds.map mX).Nodup:=by
 have e:ds.map mX=(ds.map aP).map Sum.inr:=by rw[Aq];rfl
 rw[e,fU]
 exact h
theorem jO(T:Txt K mg C):Ic P w K mg base 6 C ["self","fields","dykes"] (aAM C):=by
 have G_p_are_fields:Fc P w K mg base 4 "are_fields" ["thing"] aCV:=tY T
 have G_p_are_dykes:Fc P w K mg base 5 "are_dykes" ["thing","sides"] (aHJ K):=vZ T
 refine T.i_Land.ic xM rS (fun f cdv A outer s H vs Q E hr h=>?_)
 obtain⟨x,v1,v2,rfl,p,dx,fs,ds,rfl,hx,hf,hd,sf,sd,okf,okd,q⟩:=h
 have big:=bU
 have gf:=(rZ _).mp okf
 have gd:=(sA _ _).mp okd
 have lf:=gf.l2
 have ld:=gd.l2
 obtain⟨a1,us,rfl,o1,i1⟩:=id hf
 obtain⟨a2,ws,rfl,o2,i2⟩:=id hd
 have l1:=i1.length
 have l2:=i2.length
 refine⟨_,(@aE _ _ _ _ _ (@dG _ _ _ _ _ _ _ _ (@dA _ _ _ _ (@cR _ _ _ (@bC _ _ _ _ _ _ _ _ _ _ G_p_are_fields (hr.mono (by decide)) (@aA _ _ _ _ _ (pv 1) aB (by rfl)) (by rfl) (by decide) (by rfl) (by rfl)) (by intro _;rfl))) (@aG _ _ _ kB) bP) (@aE _ _ _ _ _ (@dG _ _ _ _ _ _ _ _ (@dA _ _ _ _ (@cR _ _ _ (@bC _ _ _ _ _ _ _ _ _ _ G_p_are_dykes (hr.mono (by decide)) (@aA _ _ _ _ _ (pv 2) (@aA _ _ _ _ _ (@aK _ _ _ _ _ _ _ _ iD (@bS _ _ _ _ (@aA _ _ _ _ _ (@rK _ _ _ _ T.g_SEA (by rfl) (by decide)) aB (by rfl))) (@bZ _ _ _ _ _ _ _ _ _ _ _ ["field"] 1 [] rfl (@bG _ _ _ _ (pv 1)) (fun R=>@aN _ _ (0) _ (show Ar (["field"]:List Str) by decide +kernel) rfl (Or.inl rfl) (by trivial)) (@aW _ _ (by decide)) (fun R=>bT) (fun R=>(@bA _ _ _ _ _ _ _ (@aT _ (K) rfl) (pv 0) aD (fun _ _=>rfl))) (by rfl) (by rfl) (by rfl) (by rfl) (by rfl) (by rfl) (by rfl) (by intro _;rfl))) aB (by rfl)) (by rfl)) (by rfl) (by decide) (by rfl) (by rfl)) (by intro _;rfl))) (@aG _ _ _ kB) bP) (@aE _ _ _ _ _ (@aLR _ _ _ _ _ _ _ _ (pv 0) (@dM _ _ _ _ _ _ _ _ _ (@eP _ rfl) rfl T.n_dict jC (@aA _ _ _ _ _ (@bZ _ _ _ _ _ _ _ _ _ _ _ ["field"] 1 [] rfl (@bG _ _ _ _ (pv 1)) (fun R=>@aN _ _ (0) _ (show Ar (["field"]:List Str) by decide +kernel) rfl (Or.inl rfl) (by trivial)) (@aW _ _ (by decide)) (fun R=>bT) (fun R=>(@dW _ _ _ _ _ (@aA _ _ _ _ _ (@bA _ _ _ _ _ _ _ (@aT _ (K) rfl) (pv 0) aD (fun _ _=>rfl)) (@aA _ _ _ _ _ (pv 0) aB (by rfl)) (by rfl)))) (by rfl) (by rfl) (by rfl) (by rfl) (by rfl) (by rfl) (by rfl) (by intro _;rfl)) aB (by rfl)) (by decide) (by decide) (by rfl) (by rfl)) rfl) (@aG _ _ _ (@aLR _ _ _ _ _ _ _ _ (pv 0) (@dM _ _ _ _ _ _ _ _ _ (@eP _ rfl) rfl T.n_dict jC (@aA _ _ _ _ _ (@bZ _ _ _ _ _ _ _ _ _ _ _ ["dyke"] 1 [] rfl (@bG _ _ _ _ (pv 2)) (fun R=>@aN _ _ (0) _ (show Ar (["dyke"]:List Str) by decide +kernel) rfl (Or.inl rfl) (by trivial)) (@aW _ _ (by decide)) (fun R=>bT) (fun R=>(@dW _ _ _ _ _ (@aA _ _ _ _ _ (@bA _ _ _ _ _ _ _ (@aT _ (K) rfl) (pv 0) aD (fun _ _=>rfl)) (@aA _ _ _ _ _ (pv 0) aB (by rfl)) (by rfl)))) (by rfl) (by rfl) (by rfl) (by rfl) (by rfl) (by rfl) (by rfl) (by intro _;rfl)) aB (by rfl)) (by decide) (by decide) (by rfl) (by rfl)) rfl))))),?_⟩
 refine⟨_,rfl,_,rfl,.lst fs,hf,sf,_,rfl,?_⟩
 rw[okf]
 refine bO ?_
 refine⟨_,rfl,aM rfl,fun p1 hp1=>?_⟩
 have S1:=aH.upd (o:=.lst [.str "sea"]) hp1
 refine⟨_,rfl,a1,rfl,⟨_,SqL.of (S1 _ _ o1)⟩,?_⟩
 refine bE (F:=K) (xs:=us) (by omega) (fun i ys H'=>H'=upd H p1 (.lst [.str "sea"])∧ys=((fs.take i).map aP).map V.str) ⟨rfl,rfl⟩ ?_ ?_ ?_
 ·rintro i ys H' hi' ⟨rfl,rfl⟩
  exact⟨SqL.of (S1 _ _ o1),by rw[AA,AA,AH];omega⟩
 ·rintro i x ys H' K1 K2 hx' ⟨rfl,rfl⟩ k1 k2
  have hil:i<us.length:=(AB.mp hx').1
  obtain⟨d,ed⟩:∃ d,fs[i]?=some d:=⟨_,AC (by omega)⟩
  obtain⟨v,ev,iv⟩:=i1.get ed
  rw[hx'] at ev
  cases ev
  obtain⟨z,g,e,rfl,_⟩:=bH (gf.all d (AG ed))
  obtain⟨t,rfl,o⟩:=fY iv
  refine⟨_,rfl,t,_,0,.str z,rfl,rfl,SqT.of (S1 _ _ o),aO (j:=0) rfl,k1 _ _ ⟨rfl,?_⟩⟩
  rw[AT,ed]
  simp[aP,cN]
 ·rintro ys H' ⟨rfl,rfl⟩
  intro p2 hp2
  rw[AE (by omega)]
  have S2:=aH.upd (o:=.lst ((fs.map aP).map V.str)) hp2
  refine⟨p1,p2,_,_,rfl,rfl,S2 _ _ aC,aC,by simp only[AA,Af,Dp];omega,fun p3 hp3=>?_⟩
  have S3:=aH.upd (o:=.lst ([.str "sea"]++(fs.map aP).map V.str)) hp3
  have S:=S1.trans (S2.trans S3)
  generalize hH3:upd (upd (upd H p1 (.lst [.str "sea"])) p2 (.lst ((fs.map aP).map V.str))) p3 (.lst ([.str "sea"]++(fs.map aP).map V.str))=H3 at S
  have hp3':H3 p3=some (.lst ((("sea":Str) :: fs.map aP).map V.str)):=by rw[← hH3,aC];rfl
  refine⟨_,_,rfl,.lst ds,p3,_,Is.same S _ _ hd,sd,rfl,hp3',_,rfl,?_⟩
  rw[okd]
  refine bO ?_
  refine⟨_,rfl,a1,rfl,⟨_,SqL.of (S _ _ o1)⟩,?_⟩
  refine bE (F:=K) (xs:=us) (by omega) (fun i ys H'=>aH H3 H'∧cA H' ys ((dE fs us).take i)) ⟨aH.refl _,cA.nil _⟩ ?_ ?_ ?_
  ·rintro i ys H' hi' ⟨S4,pr⟩
   exact⟨SqL.of (S4 _ _ (S _ _ o1)),by have:=pr.len;rw[AH] at this;omega⟩
  ·rintro i x ys H' K1 K2 hx' ⟨S4,pr⟩ k1 k2
   have hil:i<us.length:=(AB.mp hx').1
   obtain⟨d,ed⟩:∃ d,fs[i]?=some d:=⟨_,AC (by omega)⟩
   obtain⟨v,ev,iv⟩:=i1.get ed
   rw[hx'] at ev
   cases ev
   obtain⟨z,g,e,rfl,_⟩:=bH (gf.all d (AG ed))
   obtain⟨t,rfl,o⟩:=fY iv
   have ot:=S4 _ _ (S _ _ o)
   refine⟨_,rfl,t,_,0,.str z,rfl,rfl,SqT.of ot,aO (j:=0) rfl,_,rfl,aM rfl,fun pt hpt=>k1 _ _ ⟨S4.trans (aH.upd hpt),?_⟩⟩
   rw[AT,aDQ ed hx']
   exact pr.snoc (k:=Sum.inr z) hpt
  ·rintro ys H4 ⟨S4,pr⟩
   rw[AE (by rw[nQ l1];omega)] at pr
   intro p4 hp4
   have S5:=aH.upd (o:=.lst ys) hp4
   refine⟨p4,ys,dE fs us,rfl,SqL.of aC,pr.same S5,by rw[nQ l1];omega,by rw[kU l1];exact zJ gf.nd,fun d1 hd1=>?_⟩
   have S6:=aH.upd (o:=.dK (dE fs us)) hd1
   have SA:=S.trans (S4.trans (S5.trans S6))
   have hd1':upd (upd H4 p4 (.lst ys)) d1 (.dK (dE fs us)) d1=some (.dK (dE fs us)):=aC
   generalize upd (upd H4 p4 (.lst ys)) d1 (.dK (dE fs us))=H6 at SA hd1'
   refine⟨_,rfl,p,C,dx,[],rfl,SA _ _ hx,T.cl_Land,T.a_field_rows,(by show 0<1000;decide),?_⟩
   have SB:∀ b o,H b=some o→b≠p→upd H6 p (.ins C dx (iN "field_rows" (.ref d1) [])) b=some o:=fun b o e hb=>by rw[aI hb];exact SA _ _ e
   have nd1:d1≠p:=zC hd1' (SA _ _ hx) (by intro z;cases z)
   have SD:aEY H (upd H6 p (.ins C dx (iN "field_rows" (.ref d1) []))):=fun b o e dt=>SB b o e (fun z=>by subst z;rw[hx] at e;cases e;cases dt)
   have hp7:upd H6 p (.ins C dx (iN "field_rows" (.ref d1) [])) p=some (.ins C dx (iN "field_rows" (.ref d1) [])):=aC
   have hd7:upd H6 p (.ins C dx (iN "field_rows" (.ref d1) [])) d1=some (.dK (dE fs us)):=by rw[aI nd1];exact hd1'
   generalize upd H6 p (.ins C dx (iN "field_rows" (.ref d1) []))=H7 at SB SD hp7 hd7
   refine⟨_,rfl,a2,rfl,⟨_,SqL.of (SD _ _ o2 rfl)⟩,?_⟩
   refine bE (F:=K) (xs:=ws) (by omega) (fun i ys H'=>aH H7 H'∧cA H' ys ((dE ds ws).take i)) ⟨aH.refl _,cA.nil _⟩ ?_ ?_ ?_
   ·rintro i ys H' hi' ⟨S8,pr⟩
    exact⟨SqL.of (S8 _ _ (SD _ _ o2 rfl)),by have:=pr.len;rw[AH] at this;omega⟩
   ·rintro i x ys H' K1 K2 hx' ⟨S8,pr⟩ k1 k2
    have hil:i<ws.length:=(AB.mp hx').1
    obtain⟨d,ed⟩:∃ d,ds[i]?=some d:=⟨_,AC (by omega)⟩
    obtain⟨v,ev,iv⟩:=i2.get ed
    rw[hx'] at ev
    cases ev
    obtain⟨n,a,b,c,r,sl,rfl,_⟩:=bQ (gd.all d (AG ed))
    obtain⟨t,vs,rfl,o,_⟩:=jB iv
    have ot:=S8 _ _ (SD _ _ o rfl)
    refine⟨_,rfl,t,_,0,.str n,rfl,rfl,SqT.of ot,aO (j:=0) rfl,_,rfl,aM rfl,fun pt hpt=>k1 _ _ ⟨S8.trans (aH.upd hpt),?_⟩⟩
    rw[AT,aDQ ed hx']
    exact pr.snoc (k:=Sum.inr n) hpt
   ·rintro ys H8 ⟨S8,pr⟩
    rw[AE (by rw[nQ l2];omega)] at pr
    intro p9 hp9
    have S9:=aH.upd (o:=.lst ys) hp9
    refine⟨p9,ys,dE ds ws,rfl,SqL.of aC,pr.same S9,by rw[nQ l2];omega,by rw[kU l2];exact zJ gd.nd,fun d2 hd2=>?_⟩
    have S10:=aH.upd (o:=.dK (dE ds ws)) hd2
    have SC:=S8.trans (S9.trans S10)
    have hd2':upd (upd H8 p9 (.lst ys)) d2 (.dK (dE ds ws)) d2=some (.dK (dE ds ws)):=aC
    generalize upd (upd H8 p9 (.lst ys)) d2 (.dK (dE ds ws))=H10 at SC hd2'
    refine⟨_,rfl,p,C,dx,_,rfl,SC _ _ hp7,T.cl_Land,T.a_dyke_rows,(by show 1<1000;decide),?_⟩
    have nd2:d2≠p:=zC hd2' (SC _ _ hp7) (by intro z;cases z)
    have SE:aEY H (upd H10 p (.ins C dx (mW d1 d2))):=fun b o e dt=>by
     have hb:b≠p:=fun z=>by subst z;rw[hx] at e;cases e;cases dt
     rw[aI hb]
     exact SC _ _ (SB _ _ e hb)
    refine q _ ⟨⟨dx,d1,d2,aC,⟨_,(aI nd1).trans (SC _ _ hd7),kU l1,?_⟩,⟨_,(aI nd2).trans hd2',kU l2,?_⟩⟩,okf,okd⟩ fun b o e hb=>?_
    ·rw[vV l1]
     exact IsL.sameD SE _ _ i1
    ·rw[vV l2]
     exact IsL.sameD SE _ _ i2
    ·show upd H10 p (.ins C dx (mW d1 d2)) b=some o
     rw[aI hb]
     exact SC _ _ (SB _ _ e hb)
open Mt02
def uU(K:AD):Sp:=sp2 fun x y H Q=>∃ (a:Addr) (ns:List Int) (k:Int),x=.ref a∧y=.int k∧SqL K H a (ns.map V.int)∧ns.length≤63∧0≤k∧Q (.int (ns.getD k.toNat 0)) H
theorem iO(T:Txt K mg C):Fc P w K mg base 1 "_law_cell_at" ["_law_script","_law_k"] (uU K):=by
 refine T.d_l_cell_at.fc aAY gW (fun f cdv A outer s H vs Q E hr h=>?_)
 obtain⟨x,y,rfl,a,ns,k,rfl,rfl,hS,hl,hk,q⟩:=h
 refine⟨_,(@aE _ _ _ _ _ (@dG _ _ _ _ _ _ _ _ (@bK _ _ _ _ _ _ _ _ tE (pv 1) (@aS _ _ _ _ _ _ _ _ _ (@bB _ (K) rfl) rfl T.n_len bJ (@aA _ _ _ _ _ (pv 0) aB (by rfl)) (by decide) (by decide) (by rfl) (by rfl)) (@bI _ _ (by decide) (by decide))) (@aG _ _ _ (@aQ _ _ _ _ (@bA _ _ _ _ _ _ _ (@cZ _ (K) rfl) (pv 0) (pv 1) (fun _ _=>rfl)))) bP) (@aG _ _ _ (@aQ _ _ _ _ aD))),?_⟩
 refine⟨_,rfl,_,rfl,a,_,rfl,.inl hS,_,_,rfl,rfl,_,rfl,?_⟩
 obtain⟨j,rfl⟩:=BC hk
 rw[AA]
 refine iZ (fun h1=>?_) (fun h1=>?_)
 ·have h1':j<ns.length:=by
   have:=of_decide_eq_true h1
   omega
  refine⟨_,rfl,_,rfl,a,_,_,.int (ns.getD j 0),rfl,rfl,hS,aO ?_,?_⟩
  ·rw[AI,AC h1',Ad,AC h1']
   rfl
  ·simpa using q
 ·have h1':¬ j<ns.length:=by
   intro h2
   exact h1 (decide_eq_true (by omega))
  have e:ns.getD j 0=0:=by
   rw[Ad,CU (by omega)]
   rfl
  have q':Q (.int (ns.getD j 0)) H:=by simpa using q
  rw[e] at q'
  exact q'
def Scr(K:AD)(H:Hp)(x:V):Prop:=∃ (a:Addr) (ns:List Int),x=.ref a∧SqL K H a (ns.map V.int)∧ns.length≤63
theorem Scr.same{K:AD}{H H':Hp}{x:V}(S:aH H H')(h:Scr K H x):Scr K H' x:=by
 obtain⟨a,ns,e,q,l⟩:=h
 exact⟨a,ns,e,S.seq q,l⟩
theorem p6:(10:Int) ^ (6:Int).toNat=1000000:=by decide
structure Fds (fs:List Dv) (n:Nat):Prop where
 l1:1≤fs.length
 l2:fs.length≤n
 all:∀ d∈fs,cC d=true
 nd:(fs.map aP).Nodup
theorem aGJ{d:Dv}(h:cC d=true):aBW d=true:=by
 obtain⟨z,g,e,rfl,_⟩:=bH h
 rfl
theorem aNG{z:Str}{g e:Int}(hz:eW z=true)(g0:-1000000≤g)(g1:g≤1000000)(e0:0≤e)(e1:e≤1000000):cC (.tup [.str z,.int g,.int e])=true:=by
 show (eW z && (hgt g && amt e))=true
 unfold hgt amt
 rw[hz,decide_eq_true g0,decide_eq_true g1,decide_eq_true e0,decide_eq_true e1]
 rfl
structure Dks (zs:List Str) (ds:List Dv) (n:Nat):Prop where
 l1:1≤ds.length
 l2:ds.length≤n
 all:∀ d∈ds,cV zs d=true
 nd:(ds.map aP).Nodup
theorem aIY{c s:Dv}(h:lB c s=true):aBW s=true:=by
 cases s with
 | non=>rfl
 | int i=>rfl
 | _=>cases h
theorem aJY{zs:List Str}{d:Dv}(h:cV zs d=true):aBW d=true:=by
 obtain⟨n,a,b,c,r,s,rfl,_,_,_,_,_,_,hs⟩:=bQ h
 have:=aIY hs
 show (true && (true && (true && (true && (true && (aBW s && true))))))=true
 rw[this]
 rfl
theorem aPZ{zs:List Str}{n a b:Str}{c r:Int}{s:Dv}(hn:eW n=true)(ha:a∈zs)(hb:b∈zs)(hab:a≠b)(hc:hgt c=true)(hr:amt r=true)(hs:lB (.int c) s=true):cV zs (.tup [.str n,.str a,.str b,.int c,.int r,s])=true:=by
 show (eW n && (decide (a∈zs) && (decide (b∈zs) && !(a == b))) && (hgt c && (amt r && lB (.int c) s)))=true
 rw[hn,decide_eq_true ha,decide_eq_true hb,hc,hr,hs,beq_eq_false_iff_ne.mpr hab]
 rfl
theorem aMU{i:Int}(h0:-1000000≤i)(h1:i≤1000000):hgt i=true:=by
 unfold hgt
 rw[decide_eq_true h0,decide_eq_true h1]
 rfl
theorem aTO{i:Int}(h0:0≤i)(h1:i≤1000000):amt i=true:=by
 unfold amt
 rw[decide_eq_true h0,decide_eq_true h1]
 rfl
theorem pY{z:Str}(h:eW z=true):z≠"sea":=by
 intro e
 subst e
 simp[eW] at h
theorem aLB{fs:List Dv}{n:Nat}(h:Fds fs n):("sea" :: fs.map aP:List Str).Nodup:=by
 rw[Ap]
 refine⟨fun m=>?_,h.nd⟩
 obtain⟨d,md,e⟩:=AN.mp m
 obtain⟨z,g,e',rfl,hz,_⟩:=bH (h.all d md)
 exact pY hz e
theorem aUT{zs:List Str}(h:zs.Nodup){i j:Nat}{a b:Str}(ha:zs[i]?=some a)(hb:zs[j]?=some b)(hij:i≠j):a≠b:=by
 intro e
 subst e
 obtain⟨h1,e1⟩:=AB.mp ha
 obtain⟨h2,e2⟩:=AB.mp hb
 exact hij ((Cd h).mp (e1.trans e2.symm))
theorem aIZ{c f L s r:Int}(hL:2≤L)(hf0:0≤f)(hf1:f<L)(hr:r=c % (L - 1))(hs:s=(f+1+r) % L):0≤s∧s<L∧f≠s:=by
 have r0:0≤r:=by rw[hr];exact BJ _ (by omega)
 have r1:r<L - 1:=by rw[hr];exact BE _ (by omega)
 have s0:0≤s:=by rw[hs];exact BJ _ (by omega)
 have s1:s<L:=by rw[hs];exact BE _ (by omega)
 refine⟨s0,s1,?_⟩
 intro e
 by_cases hlt:f+1+r<L
 ·rw[Int.emod_eq_of_lt (by omega) hlt] at hs
  omega
 ·have e2:(f+1+r) % L=f+1+r - L:=by
   rw[← Int.sub_emod_right,Int.emod_eq_of_lt (by omega) (by omega)]
  omega
theorem at2{a b i:Int}(h0:0≤i)(h1:i<2):∃ m:Int,atI ([.int a,.int b]:List V) i=some (.int m)∧(m=a∨m=b):=by
 obtain⟨k,rfl⟩:=BC h0
 have hk:k<2:=by omega
 match k,hk with
 | 0,_=>exact⟨a,aO rfl,.inl rfl⟩
 | 1,_=>exact⟨b,aO rfl,.inr rfl⟩
theorem sE{fs:List Dv}{n:Nat}(h:Fds fs n)(hn:n≤12):kN (.lst fs)=true:=(rZ fs).mpr ⟨h.l1,Az h.l2 hn,h.all,h.nd⟩
theorem wT{zs:List Str}{ds:List Dv}{n:Nat}(h:Dks zs ds n)(hn:n≤40):nK zs (.lst ds)=true:=(sA zs ds).mpr ⟨h.l1,Az h.l2 hn,h.all,h.nd⟩
theorem kY{z:Str}(h:eW z=true):z.length≤1000:=by
 unfold eW at h
 rw[AU,AU,AU] at h
 have:=of_decide_eq_true h.1.1.2
 omega
theorem nE{d:Dv}(h:cC d=true):cO d=true:=by
 obtain⟨z,g,e,rfl,hz,_⟩:=bH h
 show (decide (3≤1000) && (decide (z.length≤1000) && (true && (true && true))))=true
 rw[decide_eq_true (kY hz)]
 rfl
theorem uX{fs:List Dv}(hf:∀ d∈fs,cC d=true){a:Str}(h:a∈("sea" :: fs.map aP:List Str)):a.length≤1000:=by
 rcases AZ.mp h with rfl | h
 ·decide +kernel
 ·obtain⟨d,m,rfl⟩:=AN.mp h
  obtain⟨z,g,e,rfl,hz,_⟩:=bH (hf d m)
  exact kY hz
theorem pK{fs:List Dv}(hf:∀ d∈fs,cC d=true){d:Dv}(h:cV ("sea" :: fs.map aP) d=true):cO d=true:=by
 obtain⟨n,a,b,c,r,s,rfl,hn,ha,hb,_,_,_,hs⟩:=bQ h
 have e:cO s=true:=by
  cases s with
  | non=>rfl
  | int i=>rfl
  | _=>cases hs
 show (decide (6≤1000) && (decide (n.length≤1000) && (decide (a.length≤1000) && (decide (b.length≤1000) && (true && (true && (cO s && true)))))))=true
 rw[decide_eq_true (kY hn),decide_eq_true (uX hf ha),decide_eq_true (uX hf hb),e]
 rfl
theorem gT{ds:List Dv}(h:∀ d∈ds,cO d=true)(hl:ds.length≤1000):cO (.lst ds)=true:=by
 show (decide (ds.length≤1000) && dL ds)=true
 rw[decide_eq_true hl,yH h]
 rfl
theorem aNB{ds:List Dv}(h:∀ d∈ds,aY 29 d=true):aY 30 (.lst ds)=true:=by
 have:=pJ h
 simpa [aY] using this
theorem wD{d:Dv}{x y:V}{H:Hp}{Q:VK}(hx:Is H d x)(hy:Is H d y)(f:aY 30 d=true)(q:Q (.bl false) H):aOS true x y H Q:=⟨d,d,hx,hy,f,f,by rw[kK 30 d f];exact q⟩
theorem wY(xs:List V)(k:Nat):lR xs (some (k:Int)) none=xs.drop k:=by
 unfold lR
 rw[HT.sIx_nat,HT.sIx_none]
 by_cases h:k≤xs.length
 ·rw[Dr h,AE (by rw[Bd];exact AS _)]
 ·rw[Nat.min_eq_right (by omega),Eh,Dy,CP (by omega)]
theorem aOE{H:Hp}{l:Addr}{zs:List Str}(h:H l=some (.lst (zs.map V.str))):Is H (.lst (zs.map Dv.str)) (.ref l):=⟨l,_,rfl,h,IsL.strs H zs⟩
open Mt04
def aKR(C:Addr):Sp:=sp2 fun x y H Q=>∃ (p:Addr) (fs ds:List Dv) (d:Dv),x=.ref p∧LandAt C H p fs ds∧Is H d y∧Q (.bl (dZ ds d)) H
theorem aBJ(T:Txt K mg C):Fc P w K mg base 3 "is_work" ["land","thing"] (aKR C):=by
 have G_p_is_tuple_of:Fc P w K mg base 1 "is_tuple_of" ["thing","length"] uI:=gR T
 have G_p_is_one_of:Fc P w K mg base 1 "is_one_of" ["thing","names"] (pU K):=gE T
 have G_p_is_height:Fc P w K mg base 2 "is_height" ["thing"] hU:=dI T
 have G_land_p_dyke_names:Mc P w K mg base 1 C "dyke_names" ["self"] (uJ C fun _ ds=>ds.map aP):=lQ T
 have G_land_p_dyke:Mc P w K mg base 1 C "dyke" ["self","name"] (uK C):=iY T
 refine T.d_p_is_work.fcD aAU gW (fun f cdv A outer s H vs Q E hr h=>?_)
 obtain⟨x,y,rfl,p,fs,ds,d,rfl,L,hd,q⟩:=h
 obtain⟨dx,e1,e2,hx,_⟩:=L.ex
 have no:∀ m:Str,¬ m="dyke_rows"→¬ m="field_rows"→(mW e1 e2).lookup m=none:=fun m h1 h2=>gF _ _ h1 h2
 refine⟨_,(@aE _ _ _ _ _ (@dG _ _ _ _ _ _ _ _ (@PW.pt _ _ _ (@kA _ _ _ _ _ _ _ (@dA _ _ _ _ (@cR _ _ _ (@bC _ _ _ _ _ _ _ _ _ _ G_p_is_tuple_of (hr.mono (by decide)) (@aA _ _ _ _ _ (pv 1) (@aA _ _ _ _ _ aD aB (by rfl)) (by rfl)) (by rfl) (by decide) (by rfl) (by rfl)) (by intro _;rfl))) (@iW _ _ _ _ (@dA _ _ _ _ (@cR _ _ _ (@bC _ _ _ _ _ _ _ _ _ _ G_p_is_one_of (hr.mono (by decide)) (@aA _ _ _ _ _ (@bA _ _ _ _ _ _ _ (@aT _ (K) rfl) (pv 1) aD (fun _ _=>rfl)) (@aA _ _ _ _ _ (@yV _ _ _ _ _ _ _ _ _ _ _ T.cl_Land G_land_p_dyke_names (hr.mono (by decide)) (pv 0) (by rfl)) aB (by rfl)) (by rfl)) (by rfl) (by decide) (by rfl) (by rfl)) (by intro _;rfl)))))) (@aG _ _ _ (@aQ _ _ _ _ fC)) bP) (@aG _ _ _ (@aQ _ _ _ _ (@dD _ _ _ _ _ _ _ (@bC _ _ _ _ _ _ _ _ _ _ G_p_is_height (hr.mono (by decide)) (@aA _ _ _ _ _ (@bA _ _ _ _ _ _ _ (@aT _ (K) rfl) (pv 1) aD (fun _ _=>rfl)) aB (by rfl)) (by rfl) (by decide) (by rfl) (by rfl)) (@dY _ _ _ _ _ (@dC _ _ _ _ _ _ _ _ aUQ (@bA _ _ _ _ _ _ _ (@aT _ (K) rfl) (pv 1) aD (fun _ _=>rfl)) (@bA _ _ _ _ _ _ _ (@aT _ (K) rfl) (@aPB _ _ _ _ _ _ _ _ _ _ _ _ _ _ T.cl_Land G_land_p_dyke (hr.mono (by decide)) (pv 0) (@aA _ _ _ _ _ (@bA _ _ _ _ _ _ _ (@aT _ (K) rfl) (pv 1) aD (fun _ _=>rfl)) aB (by rfl)) (by rfl) (by rfl) (by rfl)) aD (fun _ _=>rfl)) (@bI _ _ (by decide) (by decide)))))))),?_⟩
 refine⟨_,rfl,_,_,rfl,d,2,hd,rfl,_,rfl,?_⟩
 by_cases h2:∃ a b,d=.tup [a,b]
 ·obtain⟨a,b,rfl⟩:=h2
  obtain⟨t,us,rfl,o,va,r1,rfl,ha,vb,r2,rfl,hb,h0⟩:=hd
  cases (show r2=[] from h0)
  refine bO ⟨_,rfl,t,_,0,va,rfl,rfl,SqT.of o,aO (j:=0) rfl,_,rfl,p,dx,_,rfl,hx,no _ (by decide +kernel) (by decide +kernel),_,rfl,p,fs,ds,rfl,L,fun l hl=>?_⟩
  have S:=aH.upd (o:=.lst ((ds.map aP).map V.str)) hl
  refine⟨_,_,rfl,a,l,ds.map aP,Is.same S _ _ ha,rfl,SqL.of aC,_,rfl,?_⟩
  have dr:=gJ.lst (xs:=(ds.map aP).map V.str) hl
  cases ea:fS (ds.map aP) a with
  | false =>
   have e:dZ ds (.tup [a,b])=false:=by
    unfold dZ
    split
    ·rename_i z v hq
     cases hq
     have:decide (z∈ds.map aP)=false:=ea
     rw[this]
     rfl
    ·rfl
   rw[e] at q
   exact cP (cW.of dr q)
  | true =>
   refine bO ⟨_,rfl,t,_,1,vb,rfl,rfl,SqT.of (S _ _ o),aO (j:=1) rfl,_,rfl,b,Is.same S _ _ hb,_,rfl,?_⟩
   cases eb:eA b with
   | false =>
    have e:dZ ds (.tup [a,b])=false:=by
     unfold dZ
     split
     ·rename_i z v hq
      cases hq
      have:hgt v=false:=eb
      rw[this]
      simp
     ·rfl
    rw[e] at q
    exact bO (cW.of dr q)
   | true =>
    cases a with
    | str z =>
     cases b with
     | int v =>
      have mz:z∈ds.map aP:=of_decide_eq_true ea
      obtain⟨d',md,rfl⟩:=AN.mp mz
      cases (show va=.str (aP d') from ha)
      cases (show vb=.int v from hb)
      have gd:=(cK L).2
      refine cP ⟨_,rfl,t,_,1,_,rfl,rfl,SqT.of (S _ _ o),aO (j:=1) rfl,_,rfl,p,dx,_,rfl,S _ _ hx,no _ (by decide +kernel) (by decide +kernel),_,rfl,t,_,0,_,rfl,rfl,SqT.of (S _ _ o),aO (j:=0) rfl,_,_,rfl,p,fs,ds,d',rfl,rfl,L.same S,md,fun v1 iv1=>?_⟩
      have ec:=wZ gd.nd md
      obtain⟨n,a',b',c,r,sl,rfl,_⟩:=bQ (gd.all d' md)
      obtain⟨t',sv,rfl,o',_⟩:=jB iv1
      refine⟨t',_,3,.int c,rfl,rfl,SqT.of o',aO (j:=3) rfl,_,_,rfl,rfl,cW.of dr ?_⟩
      have e:dZ ds (.tup [.str (aP (.tup [.str n,.str a',.str b',.int c,.int r,sl])),.int v])=decide (c≤v):=by
       show (decide (_∈ds.map aP) && (hgt v && decide (gI ds _≤v)))=_
       rw[decide_eq_true mz,show hgt v=true from eb,ec]
       rfl
      rw[e] at q
      exact q
     | _=>cases eb
    | _=>cases ea
 ·have e1':dZ ds d=false:=by
   unfold dZ
   split
   ·rename_i z v
    exact absurd ⟨_,_,rfl⟩ h2
   ·rfl
  have e2':aGU 2 d=false:=by
   cases d with
   | tup ds' =>
    refine decide_eq_false (fun e=>?_)
    have e':ds'.length=2:=by omega
    match ds',e',h2 with
    | [a,b],_,h2=>exact h2 ⟨a,b,rfl⟩
   | _=>rfl
  dsimp only
  rw[e2']
  rw[e1'] at q
  exact cP (cW.of (.refl _) q)
def aHA(C:Addr):Sp:=sp2 fun x y H Q=>∃ (p:Addr) (fs ds:List Dv) (d:Dv),x=.ref p∧LandAt C H p fs ds∧Is H d y∧cO d=true∧Q (.bl (aEU ds d)) H
theorem vX(T:Txt K mg C):Fc P w K mg base 4 "are_works" ["land","thing"] (aHA C):=by
 have G_p_is_work:Fc P w K mg base 3 "is_work" ["land","thing"] (aKR C):=aBJ T
 have G_p_none_twice:Fc P w K mg base 1 "none_twice" ["rows"] uH:=iE T
 refine T.d_p_are_works.fcD vC gW (fun f cdv A outer s H vs Q E hr h=>?_)
 obtain⟨x,y,rfl,p0,fs,ds0,d,rfl,L,hd,hs,q⟩:=h
 have big:=bU
 obtain⟨t,ty,e1,e2,e3,e4,_⟩:=sO K hd
 refine⟨_,(@aG _ _ _ (@aQ _ _ _ _ (@dD _ _ _ _ _ _ _ (@aS _ _ _ _ _ _ _ _ _ (@cD _ (K) rfl) rfl T.n_isinstance bD (@aA _ _ _ _ _ (pv 1) (@aA _ _ _ _ _ (@kE _ _ _ _ T.n_list dX (by rfl) (by decide) (by decide)) aB (by rfl)) (by rfl)) (by decide) (by decide) (by rfl) (by rfl)) (@dD _ _ _ _ _ _ _ (@aS _ _ _ _ _ _ _ _ _ (@kM _ rfl) rfl T.n_all iQ (@aA _ _ _ _ _ (@bZ _ _ _ _ _ _ _ _ _ _ _ ["row","land"] 1 [0] rfl (@bG _ _ _ _ (pv 1)) (fun R=>@aN _ _ (0) _ (show Ar (["row","land"]:List Str) by decide +kernel) rfl (Or.inl rfl) (by trivial)) (@aW _ _ (by decide)) (fun R=>bT) (fun R=>(@bC _ _ _ _ _ _ _ _ _ _ G_p_is_work (hr.mono (by decide)) (@aA _ _ _ _ _ (pv 1) (@aA _ _ _ _ _ (pv 0) aB (by rfl)) (by rfl)) (by rfl) (by decide) (by rfl) (by rfl))) (by rfl) (by rfl) (by rfl) (by rfl) (by rfl) (by rfl) (by rfl) (by intro _;rfl)) aB (by rfl)) (by decide) (by decide) (by rfl) (by rfl)) (@dY _ _ _ _ _ (@bC _ _ _ _ _ _ _ _ _ _ G_p_none_twice (hr.mono (by decide)) (@aA _ _ _ _ _ (pv 1) aB (by rfl)) (by rfl) (by decide) (by rfl) (by rfl))))))),?_⟩
 refine⟨_,rfl,_,_,_,t,_,rfl,rfl,ty,e4,_,rfl,?_⟩
 cases d with
 | lst ds =>
  obtain⟨p,us,rfl,o,hi⟩:=hd
  have l1:=hi.length
  have hs':=Ai.mp (show (decide (ds.length≤1000) && dL ds)=true from hs)
  have l2:ds.length≤1000:=of_decide_eq_true hs'.1
  have q:Q (.bl (ds.all (dZ ds0) && decide ((ds.map cN).Nodup))) H:=q
  refine cP ⟨_,rfl,p,rfl,⟨_,SqL.of o⟩,?_⟩
  refine bE (F:=K) (xs:=us) (by omega) (fun i ys H'=>H'=H∧ys=(ds.take i).map fun d=>V.bl (dZ ds0 d)) ⟨rfl,rfl⟩ ?_ ?_ ?_
  ·rintro i ys H' hi' ⟨rfl,rfl⟩
   exact⟨SqL.of o,by rw[AA,AH];omega⟩
  ·rintro i x ys H' K1 K2 hx ⟨rfl,rfl⟩ k1 k2
   have hil:i<us.length:=(AB.mp hx).1
   obtain⟨d,ed⟩:∃ d,ds[i]?=some d:=⟨_,AC (by omega)⟩
   obtain⟨v,ev,iv⟩:=hi.get ed
   rw[hx] at ev
   cases ev
   refine⟨_,rfl,_,rfl,_,_,rfl,p0,fs,ds0,d,rfl,L,iv,k1 _ _ ⟨rfl,?_⟩⟩
   rw[AT,ed]
   simp
  ·rintro ys H' ⟨rfl,rfl⟩
   intro p1 hp1
   have np:p≠p1:=aJ o hp1
   refine⟨p1,ds.map (dZ ds0),rfl,SqL.of ?_,_,rfl,?_⟩
   ·rw[aC,AE (by omega),Aq]
    rfl
   have e1:(ds.map (dZ ds0)).all id=ds.all (dZ ds0):=by rw[DH];rfl
   rw[e1]
   refine iZ (fun h2=>?_) (fun h2=>?_)
   ·rw[h2,BT] at q
    obtain⟨zs,ez⟩:=nX oV h2
    have l3:zs.length=ds.length:=by have:=congrArg Bs ez;simpa using this.symm
    refine⟨_,rfl,_,rfl,p,us,ds,zs,rfl,by rw[aI np];exact o,IsL.same (aH.upd hp1) _ _ hi,ez,by omega,?_⟩
    have e2:decide zs.Nodup=decide (ds.map cN).Nodup:=by rw[ez,Bc,decide_eq_true_iff,decide_eq_true_iff,eI]
    rw[e2]
    exact cW.of (gJ.lst hp1) q
   ·have h2':ds.all (dZ ds0)=false:=by simpa using h2
    rw[h2'] at q
    exact cW.of (gJ.lst hp1) q
 | _=>exact bO (cW.of (.refl _) q)
theorem aKH{H:Hp}{z:Str}{v:Int}{x:V}(h:Is H (.tup [.str z,.int v]) x):∃ t,x=.ref t∧H t=some (.tup [.str z,.int v]):=by
 obtain⟨t,us,rfl,o,v0,r0,rfl,i0,v1,r1,rfl,i1,h0⟩:=h
 cases (show r1=[] from h0)
 cases (show v0=_ from i0)
 cases (show v1=_ from i1)
 exact⟨t,rfl,o⟩
open Mt21
def pV:Sp:=sp2 fun x y H Q=>∃ c k:Int,x=.int c∧y=.int k∧0≤k∧k≤1000∧∀ m:Int,Q (.int m) H
theorem pE(T:Txt K mg C):Fc P w K mg base 1 "_law_mixed" ["_law_cell","_law_k"] pV:=by
 refine T.d_l_mixed.fc vG gW (fun f cdv A outer s H vs Q E hr h=>?_)
 obtain⟨x,y,rfl,c,k,rfl,rfl,k0,k1,q⟩:=h
 refine⟨_,(@aE _ _ _ _ _ (@dG _ _ _ _ _ _ _ _ (@bK _ _ _ _ _ _ _ _ iX (@aK _ _ _ _ _ _ _ _ cB (pv 0) aD) aD (@bI _ _ (by decide) (by decide))) (@aG _ _ _ (@aQ _ _ _ _ (@aK _ _ _ _ _ _ _ _ bN (pv 0) aD))) bP) (@aE _ _ _ _ _ (@aV _ _ (2) _ _ _ _ vG.nd rfl (Or.inl rfl) (@aK _ _ _ _ _ _ _ _ cB (@aK _ _ _ _ _ _ _ _ gC (@aK _ _ _ _ _ _ _ _ cY (@aK _ _ _ _ _ _ _ _ cB (@aK _ _ _ _ _ _ _ _ bN (pv 0) aD) (@aK _ _ _ _ _ _ _ _ kW aD aD)) aD) (@aK _ _ _ _ _ _ _ _ cY aD (@aK _ _ _ _ _ _ _ _ gC (@aK _ _ _ _ _ _ _ _ gC aD (pv 1)) (pv 1)))) aD) (by rfl) (by trivial)) (@aG _ _ _ (@aQ _ _ _ _ (@aK _ _ _ _ _ _ _ _ cY (@aK _ _ _ _ _ _ _ _ gC (@aK _ _ _ _ _ _ _ _ cB (@aK _ _ _ _ _ _ _ _ gC (pv 2) (pv 2)) aD) aD) (pv 2)))))),?_⟩
 refine⟨_,rfl,_,_,rfl,rfl,(gB rfl),rfl,_,rfl,?_⟩
 refine iZ (fun _=>?_) (fun _=>?_)
 ·exact⟨_,rfl,_,_,rfl,rfl,⟨by decide,by decide⟩,q _⟩
 ·have kk:0≤7919*k*k∧7919*k*k≤7919000000:=by
   have h1:0≤k*k:=Int.mul_nonneg k0 k0
   have h2:k*k≤1000*1000:=Int.mul_le_mul k1 k1 k0 (by decide)
   rw[Int.mul_assoc]
   omega
  have m0:∀ a:Int,0≤a % 2147483629∧a % 2147483629<2147483629:=fun a=>⟨BJ _ (by decide),BE _ (by decide)⟩
  refine⟨_,rfl,_,_,rfl,rfl,⟨by decide,by decide⟩,_,_,rfl,rfl,⟨by decide,by decide,by decide⟩,_,_,rfl,rfl,(gB rfl),_,_,rfl,rfl,_,rfl,_,_,rfl,rfl,.inl ⟨by decide,by decide⟩,_,rfl,_,_,rfl,rfl,.inr ⟨by omega,by omega⟩,_,_,rfl,rfl,_,_,rfl,rfl,.inr ⟨by omega,by omega⟩,_,_,rfl,rfl,(gB rfl),?_⟩
  generalize hm:(c / 2 % 10 ^ (30:Int).toNat+1)*(48271+7919*k*k) % 2147483629=m
  have hm0:=m0 ((c / 2 % 10 ^ (30:Int).toNat+1)*(48271+7919*k*k))
  rw[hm] at hm0
  exact⟨_,rfl,_,rfl,_,_,rfl,rfl,.inl ⟨by omega,by omega⟩,_,_,rfl,rfl,(gB rfl),_,_,rfl,rfl,.inr ⟨by decide,by decide⟩,_,rfl,_,_,rfl,rfl,q _⟩
def uT:Sp:=sp2 fun x y H Q=>∃ (c:Int) (n:Nat),x=.int c∧y=.int n∧n≤40∧∀ (zs:List Str) (l:Addr) (H':Hp),Mt02.Names zs n→aH H H'→H l=none→H' l=some (.lst (zs.map V.str))→Q (.ref l) H'
theorem aUX:("abcdefghijklmnopqrstuvwxyz":Str).length=26:=by decide +kernel
theorem wA(T:Txt K mg C):Fc P w K mg base 1 "_law_words" ["_law_cell","_law_many"] uT:=by
 refine T.d_l_words.fc eZ gW (fun f cdv A outer s H vs Q E hr h=>?_)
 obtain⟨x,y,rfl,c,n,rfl,rfl,hn,q⟩:=h
 have big:=bU
 have l26:=aUX
 have hss:("abcdefghijklmnopqrstuvwxyz":Str).length≤Ak:=by rw[l26];omega
 obtain⟨u2,pu2,hu2⟩:∃ u,PSs (gZ CX0 P w K mg base ["_law_cell","_law_many","_law_letters","_law_size","_law_base","_law_at","_law_words_here","_law_k","_law_inner"] "_law_words" (aF nO) f cdv A outer s H E).nox ((cQ nO).drop 2) u ∧
   u { nx:=fun _ H'=>Q .non H',rt:=Q } [some (.int c),some (.int n),some (.str "abcdefghijklmnopqrstuvwxyz"),none,none,none,none,none,none] H:=by
  refine⟨_,(@aE _ _ _ _ _ (@aV _ _ (3) _ _ _ _ eZ.nd rfl (Or.inl rfl) (@aK _ _ _ _ _ _ _ _ cY aD (@aK _ _ _ _ _ _ _ _ cB (@aK _ _ _ _ _ _ _ _ bN (pv 0) aD) aD)) (by rfl) (by trivial)) (@aE _ _ _ _ _ (@aV _ _ (4) _ _ _ _ eZ.nd rfl (Or.inl rfl) (@iJ _ _ _ _ _ _ _ _ _ _ _ _ PySem.F.plainAttrs_str PySem.F.slot_str_join PySem.F.type_str_join aPM kT (@aA _ _ _ _ _ (@bZ _ _ _ _ _ _ _ _ _ _ _ ["_law_j","_law_cell","_law_letters"] 1 [0,2] rfl (@eQ _ _ _ _ _ _ rfl T.n_range (@aA _ _ _ _ _ (pv 3) aB (by rfl)) (by rfl)) (fun R=>@aN _ _ (0) _ (show Ar (["_law_j","_law_cell","_law_letters"]:List Str) by decide +kernel) rfl (Or.inl rfl) (by trivial)) (@aW _ _ (by decide)) (fun R=>bT) (fun R=>(@bA _ _ _ _ _ _ _ aBU (pv 2) (@aK _ _ _ _ _ _ _ _ cB (@aK _ _ _ _ _ _ _ _ cY (@aK _ _ _ _ _ _ _ _ bN (pv 1) aD) (@aK _ _ _ _ _ _ _ _ gC (pv 0) (pv 0))) aD) (fun _ _=>rfl))) (by rfl) (by rfl) (by rfl) (by rfl) (by rfl) (by rfl) (by rfl) (by intro _;rfl)) aB (by rfl)) (by rfl) (by rfl) (by rfl) (by rfl) (by rfl)) (by rfl) (by trivial)) (@aE _ _ _ _ _ (@aV _ _ (5) _ _ _ _ eZ.nd rfl (Or.inl rfl) (@aK _ _ _ _ _ _ _ _ cB (@aK _ _ _ _ _ _ _ _ bN (pv 0) aD) (@aK _ _ _ _ _ _ _ _ cY (pv 3) aD)) (by rfl) (by trivial)) (@aE _ _ _ _ _ (@aV _ _ (6) _ _ _ _ eZ.nd rfl (Or.inl rfl) (@bS _ _ _ _ aB) (by rfl) (by trivial)) (@aE _ _ _ _ _ (@eS _ _ _ _ _ _ _ _ Ax rfl (@eQ _ _ _ _ _ _ rfl T.n_range (@aA _ _ _ _ _ (pv 1) aB (by rfl)) (by rfl)) (@aN _ _ (7) _ eZ.nd rfl (Or.inl rfl) (by trivial)) (@aE _ _ _ _ _ (@aV _ _ (8) _ _ _ _ eZ.nd rfl (Or.inl rfl) (@aK _ _ _ _ _ _ _ _ pA (@bA _ _ _ _ _ _ _ aBU (pv 2) (@aK _ _ _ _ _ _ _ _ cB (@aK _ _ _ _ _ _ _ _ cY (pv 7) (@aK _ _ _ _ _ _ _ _ bN (pv 0) aD)) aD) (fun _ _=>rfl)) (@bA _ _ _ _ _ _ _ aBU (pv 2) (@aK _ _ _ _ _ _ _ _ cB (@aK _ _ _ _ _ _ _ _ cY (@aK _ _ _ _ _ _ _ _ bN (pv 7) aD) (@aK _ _ _ _ _ _ _ _ bN (pv 0) aD)) aD) (fun _ _=>rfl))) (by rfl) (by trivial)) (@aG _ _ _ (@dB _ _ _ _ (@iJ _ _ _ _ _ _ _ _ _ _ _ _ An Au At cX (pv 6) (@aA _ _ _ _ _ (@aK _ _ _ _ _ _ _ _ pA (@aK _ _ _ _ _ _ _ _ pA (@dR _ _ _ _ _ _ _ _ _ _ aLA (pv 4) eV (@eU _ _ _ (pv 5))) (pv 8)) (@dR _ _ _ _ _ _ _ _ _ _ aLA (pv 4) (@eU _ _ _ (pv 5)) eV)) aB (by rfl)) (by rfl) (by rfl) (by rfl) (by rfl) (by rfl)) (by rfl)))) (by intro _;rfl)) (@aG _ _ _ (@aQ _ _ _ _ (pv 6)))))))),?_⟩
  have z0:0≤c / 4 % 5:=BJ _ (by decide)
  have z1:c / 4 % 5<5:=BE _ (by decide)
  obtain⟨sz,hsz⟩:=BC (show 0≤2+c / 4 % 5 by omega)
  refine⟨_,rfl,_,_,rfl,rfl,⟨by decide,by decide⟩,_,_,rfl,rfl,(gB rfl),_,_,rfl,rfl,?_⟩
  dsimp only
  rw[hsz]
  obtain⟨H0,hH0⟩:∃ H0,H0=H:=⟨H,rfl⟩
  have ixs:∀ (x:Int),∃ v,(V.str (jN x))=v:=fun x=>⟨_,rfl⟩
  refine⟨rfl,_,rfl,_,rfl,by omega,by omega,?_⟩
  refine xA (lo:=0) (n:=sz) (by omega) (fun i ys H'=>H'=H∧ys=((Aj i).map fun (j:Nat)=>jN (c / 20+(j:Int)*(j:Int))).map V.str) ⟨rfl,rfl⟩ ?_ ?_ ?_
  ·rintro i ys H' ⟨rfl,rfl⟩
   simp
  ·rintro i ys H' K1 K2 hi ⟨rfl,rfl⟩ k1 k2
   refine⟨_,rfl,_,rfl,_,_,rfl,rfl,⟨by decide,by decide⟩,_,rfl,_,rfl,_,_,rfl,rfl,.inl ⟨by omega,by omega⟩,_,_,rfl,rfl,_,_,rfl,rfl,(gB rfl),_,_,ab (c / 20+(0+(i:Int))*(0+(i:Int))),rfl,rfl,hss,aIO _,k1 _ _ ⟨rfl,?_⟩⟩
   rw[Ch,AF,AF]
   show _++[V.str (jN _)]=_++[V.str (jN _)]
   rw[By]
  rintro ys H' ⟨e0,rfl⟩
  subst e0
  intro p1 hp1
  have S1:=aH.upd (o:=.lst (((Aj sz).map fun (j:Nat)=>jN (c / 20+(j:Int)*(j:Int))).map V.str)) hp1
  have lsum:((((Aj sz).map fun (j:Nat)=>jN (c / 20+(j:Int)*(j:Int)))).map fun y=>y.length).sum=sz:=by
   rw[Aq]
   show ((Aj sz).map fun _=>1).sum=sz
   have e:∀ m:Nat,((Aj m).map fun _=>1).sum=m:=fun m=>by
    induction m with
    | zero=>rfl
    | succ m ih=>rw[Ch,AF,List.sum_append,ih];rfl
   exact e sz
  refine⟨"",p1,(Aj sz).map fun (j:Nat)=>jN (c / 20+(j:Int)*(j:Int)),rfl,rfl,SqL.of aC,by rw[lsum,AA,DP,show ("":Str).length=0 by decide +kernel];omega,?_⟩
  generalize hb:Txt.join "" ((Aj sz).map fun (j:Nat)=>jN (c / 20+(j:Int)*(j:Int)))=b
  have bc:b.cps.toList=(Aj sz).map fun (j:Nat)=>ab (c / 20+(j:Int)*(j:Int)):=by
   rw[← hb,aGB,Aq]
   show (((Aj sz).map fun j=>[ab _]).flatten)=_
   induction (Aj sz) with
   | nil=>rfl
   | cons x r ih=>rw[AX,List.flatten_cons,ih,AX];rfl
  have bl:b.length=sz:=by rw[gU,bc,AA,DP]
  have ball:b.cps.toList.all fH=true:=by
   rw[bc,BS]
   intro x hx
   obtain⟨j,_,rfl⟩:=AN.mp hx
   exact nY _
  have bs:b.length≤Ak:=by omega
  have a0:0≤c / 520 % ((sz:Int)+1):=BJ _ (by omega)
  have a1:c / 520 % ((sz:Int)+1)<(sz:Int)+1:=BE _ (by omega)
  obtain⟨at',hat⟩:=BC a0
  refine⟨_,rfl,_,_,rfl,rfl,⟨by decide,by decide⟩,_,rfl,_,_,rfl,rfl,_,_,rfl,rfl,(by show (0:Int)<(sz:Int)+1;omega),?_⟩
  dsimp only
  rw[hat]
  refine⟨aM rfl,fun l hl=>?_⟩
  have S2:=aH.upd (o:=.lst []) hl
  have hl0:=S1.free hl
  subst hH0
  refine⟨_,rfl,_,rfl,by omega,by omega,?_⟩
  refine fW (lo:=0) (n:=n) (fun i σ H'=>∃ (v7 v8:Option V) (g:Nat→Str),σ=[some (.int c),some (.int n),some (.str "abcdefghijklmnopqrstuvwxyz"),some (.int sz),some (.str b),some (.int at'),some (.ref l),v7,v8]∧aH H0 H'∧H' l=some (.lst (((Aj i).map g).map V.str))∧∀ k,k<i→Put (g k) b at' ((k:Int)+c / 7) ((k:Int) / 26+c / 11))
   ⟨_,_,fun _=>"",rfl,S1.trans S2,aC,(fun k hk=>absurd hk (by omega))⟩ ?_ ?_
  ·rintro i σ H3 hi ⟨v7,v8,g,rfl,S3,hl3,pu⟩
   have sh1:∀ x y:Int,(jN x++jN y).cps.toList=[ab x,ab y]:=fun x y=>by rw[Tx.app_codes];rfl
   have sl1:∀ x:Int,(jN x).length=1:=fun _=>rfl
   refine⟨_,rfl,_,rfl,_,rfl,_,_,rfl,rfl,⟨by decide,by decide⟩,_,_,rfl,rfl,_,_,rfl,rfl,(gB rfl),_,_,ab (0+(i:Int)+c / 7),rfl,rfl,hss,aIO _,?_⟩
   refine⟨_,rfl,_,rfl,_,_,rfl,rfl,⟨by decide,by decide⟩,_,rfl,_,_,rfl,rfl,⟨by decide,by decide⟩,_,_,rfl,rfl,_,_,rfl,rfl,(gB rfl),_,_,ab ((0+(i:Int)) / 26+c / 11),rfl,rfl,hss,aIO _,_,_,rfl,rfl,(by show 1+1≤Ak;omega),?_⟩
   have ia:(jN (0+(i:Int)+c / 7)++jN ((0+(i:Int)) / 26+c / 11)).length=2:=by rw[Tx.app_len];rfl
   have tl:(CT b none (some (at':Int))).length≤8:=by
    rw[gU,uO b at' (by omega),AH]
    omega
   have dl:(CT b (some (at':Int)) none).length≤8:=by
    rw[gU,wV b at' (by omega),Bd,← gU]
    omega
   refine⟨_,rfl,.inl ⟨rfl,_,SqL.of hl3⟩,_,rfl,_,rfl,_,rfl,b,rfl,bs,_,rfl,_,_,rfl,rfl,?_,_,rfl,_,rfl,_,rfl,b,rfl,bs,_,_,rfl,rfl,?_,l,_,_,rfl,rfl,hl3,by rw[AA,AA,DP];omega,?_⟩
   ·refine Az (Ew tl (Dm ia)) (by omega)
   ·rw[Tx.app_len]
    refine Az (Ew (Ew tl (Dm ia)) dl) (by omega)
   ·refine⟨_,_,fun k=>if k=i then CT b none (some (at':Int))++(jN (0+(i:Int)+c / 7)++jN ((0+(i:Int)) / 26+c / 11))++CT b (some (at':Int)) none else g k,rfl,S3.over hl0,?_,fun k hk=>?_⟩
    ·rw[aC,Ch,AF,AF]
     have e1:(Aj i).map (fun k=>if k=i then CT b none (some (at':Int))++(jN (0+(i:Int)+c / 7)++jN ((0+(i:Int)) / 26+c / 11))++CT b (some (at':Int)) none else g k)=(Aj i).map g:=CK fun k m=>by
      rw[if_neg (by have:=DM.mp m;omega)]
     rw[e1]
     show _=some (HO.lst (_++[V.str (if i=i then _ else _)]))
     rw[if_pos rfl]
     rfl
    ·by_cases hki:k=i
     ·subst hki
      dsimp only
      rw[if_pos rfl]
      refine⟨?_⟩
      rw[Tx.app_codes,Tx.app_codes,uO b at' (by omega),wV b at' (by omega),sh1,By]
     ·dsimp only
      rw[if_neg hki]
      exact pu k (by omega)
  ·rintro σ H3 ⟨v7,v8,g,rfl,S3,hl3,pu⟩
   exact⟨_,rfl,q _ l H3 (aJG ball bl (by omega) (by omega) (by omega) (by omega) pu) S3 (S1.free hl) hl3⟩
 refine⟨_,(@aE _ _ _ _ _ (@aV _ _ (2) _ _ _ _ eZ.nd rfl (Or.inr rfl) kT (by rfl) (by trivial)) (@aE _ _ _ _ _ (@dG _ _ _ _ _ _ _ _ (@PW.pt _ _ _ (@mJ _ _ _ _ _ _ _ (@bK _ _ _ _ _ _ _ _ iX (@aK _ _ _ _ _ _ _ _ cB (pv 0) aD) aD (@bI _ _ (by decide) (by decide))) (@kQ _ _ _ _ (@bK _ _ _ _ _ _ _ _ tE (pv 1) aD (@bI _ _ (by decide) (by decide)))))) (@aG _ _ _ (@aQ _ _ _ _ (@bZ _ _ _ _ _ _ _ _ _ _ _ ["_law_k","_law_cell","_law_letters"] 1 [0,2] rfl (@eQ _ _ _ _ _ _ rfl T.n_range (@aA _ _ _ _ _ (pv 1) aB (by rfl)) (by rfl)) (fun R=>@aN _ _ (0) _ (show Ar (["_law_k","_law_cell","_law_letters"]:List Str) by decide +kernel) rfl (Or.inl rfl) (by trivial)) (@aW _ _ (by decide)) (fun R=>bT) (fun R=>(@bA _ _ _ _ _ _ _ aBU (pv 2) (@aK _ _ _ _ _ _ _ _ cB (@aK _ _ _ _ _ _ _ _ cY (@aK _ _ _ _ _ _ _ _ bN (pv 1) aD) (@aK _ _ _ _ _ _ _ _ gC aD (pv 0))) aD) (fun _ _=>rfl))) (by rfl) (by rfl) (by rfl) (by rfl) (by rfl) (by rfl) (by rfl) (by intro _;rfl)))) bP) pu2)),?_⟩
 refine⟨_,rfl,_,_,rfl,rfl,(gB rfl),rfl,_,rfl,?_⟩
 refine iZ (fun c1=>?_) (fun c1=>hu2)
 refine⟨_,rfl,_,_,rfl,rfl,_,rfl,?_⟩
 refine iZ (fun c2=>?_) (fun c2=>hu2)
 have hn26:n≤26:=by
  have:=of_decide_eq_true c2
  omega
 refine⟨_,rfl,_,rfl,by omega,by omega,?_⟩
 refine xA (lo:=0) (n:=n) (by omega) (fun i ys H'=>H'=H∧ys=((Aj i).map fun (j:Nat)=>jN (c / 4+5*(j:Int))).map V.str) ⟨rfl,rfl⟩ ?_ ?_ ?_
 ·rintro i ys H' ⟨rfl,rfl⟩
  simp
 ·rintro i ys H' K1 K2 hi ⟨rfl,rfl⟩ k1 k2
  refine⟨_,rfl,_,rfl,_,_,rfl,rfl,⟨by decide,by decide⟩,_,rfl,_,_,rfl,rfl,.inl ⟨by decide,by decide⟩,_,_,rfl,rfl,_,_,rfl,rfl,(gB rfl),_,_,ab (c / 4+5*(0+(i:Int))),rfl,rfl,hss,aIO _,k1 _ _ ⟨rfl,?_⟩⟩
  rw[Ch,AF,AF]
  show _++[V.str (jN _)]=_++[V.str (jN _)]
  rw[By]
 rintro ys H' ⟨rfl,rfl⟩
 intro p1 hp1
 exact q _ p1 _ (aFQ hn26) (aH.upd hp1) hp1 aC
open Mt21
def Tw(H:Hp)(v:V)(a b:Int):Prop:=∃ t,v=.ref t∧H t=some (.tup [.int a,.int b])
def aAN:Sp:=sp1 fun x H Q=>∃ n:Int,x=.int n∧∀ (a b:Int) (v:V) (H':Hp),aH H H'→Tw H' v a b→-1000000≤b→b≤1000000→Q v H'
theorem rP(T:Txt K mg C):Fc P w K mg base 1 "_law_high" ["_law_number"] aAN:=by
 refine T.d_l_high.fc aJD oE (fun f cdv A outer s H vs Q E hr h=>?_)
 obtain⟨x,rfl,n,rfl,q⟩:=h
 refine⟨_,(@aE _ _ _ _ _ (@dG _ _ _ _ _ _ _ _ (@bK _ _ _ _ _ _ _ _ tE (@aK _ _ _ _ _ _ _ _ cB (pv 0) aD) aD (@bI _ _ (by decide) (by decide))) (@aG _ _ _ (@aQ _ _ _ _ (@dW _ _ _ _ _ (@aA _ _ _ _ _ (@aK _ _ _ _ _ _ _ _ bN (pv 0) aD) (@aA _ _ _ _ _ (@aK _ _ _ _ _ _ _ _ jM (@aK _ _ _ _ _ _ _ _ cB (@aK _ _ _ _ _ _ _ _ bN (pv 0) aD) aD) aD) aB (by rfl)) (by rfl))))) bP) (@aG _ _ _ (@aQ _ _ _ _ (@dW _ _ _ _ _ (@aA _ _ _ _ _ (@aK _ _ _ _ _ _ _ _ bN (@aK _ _ _ _ _ _ _ _ bN (pv 0) aD) (@aK _ _ _ _ _ _ _ _ cY (@aK _ _ _ _ _ _ _ _ gC aD (@aK _ _ _ _ _ _ _ _ kW aD aD)) aD)) (@aA _ _ _ _ _ (@aK _ _ _ _ _ _ _ _ jM (@aK _ _ _ _ _ _ _ _ cB (@aK _ _ _ _ _ _ _ _ bN (pv 0) aD) (@aK _ _ _ _ _ _ _ _ cY (@aK _ _ _ _ _ _ _ _ gC aD (@aK _ _ _ _ _ _ _ _ kW aD aD)) aD)) (@aK _ _ _ _ _ _ _ _ kW aD aD)) aB (by rfl)) (by rfl)))))),?_⟩
 refine⟨_,rfl,_,_,rfl,rfl,(gB rfl),_,_,rfl,rfl,_,rfl,?_⟩
 refine iZ (fun _=>?_) (fun _=>?_)
 ·refine⟨_,rfl,_,_,rfl,rfl,⟨by decide,by decide⟩,_,rfl,_,_,rfl,rfl,⟨by decide,by decide⟩,_,_,rfl,rfl,(gB rfl),_,_,rfl,rfl,aM rfl,fun p hp=>q _ _ _ _ (aH.upd hp) ⟨p,rfl,aC⟩ ?_ ?_⟩
  ·show -1000000≤n / 3 % 16 - 3
   omega
  ·show n / 3 % 16 - 3≤1000000
   omega
 ·have e6:=p6
  refine⟨_,rfl,_,_,rfl,rfl,⟨by decide,by decide⟩,_,_,rfl,rfl,⟨by decide,by decide,by decide⟩,_,_,rfl,rfl,.inl ⟨by decide,by decide⟩,_,_,rfl,rfl,_,_,rfl,rfl,⟨gB rfl,by decide +kernel⟩,_,rfl,_,_,rfl,rfl,⟨by decide,by decide⟩,_,_,rfl,rfl,⟨by decide,by decide,by decide⟩,_,_,rfl,rfl,.inl ⟨by decide,by decide⟩,_,_,rfl,rfl,_,_,rfl,rfl,(gB rfl),_,_,rfl,rfl,⟨by decide,by decide,by decide⟩,_,_,rfl,rfl,aM rfl,fun p hp=>q _ _ _ _ (aH.upd hp) ⟨p,rfl,aC⟩ ?_ ?_⟩
  ·show -1000000≤n / 3 % (2*10 ^ (6:Int).toNat+1) - 10 ^ (6:Int).toNat
   rw[e6];omega
  ·show n / 3 % (2*10 ^ (6:Int).toNat+1) - 10 ^ (6:Int).toNat≤1000000
   rw[e6];omega
def aFF:Sp:=sp1 fun x H Q=>∃ n:Int,x=.int n∧∀ (a b:Int) (v:V) (H':Hp),aH H H'→Tw H' v a b→0≤b→b≤1000000→Q v H'
theorem zA(T:Txt K mg C):Fc P w K mg base 1 "_law_most" ["_law_number"] aFF:=by
 refine T.d_l_most.fc yI oE (fun f cdv A outer s H vs Q E hr h=>?_)
 obtain⟨x,rfl,n,rfl,q⟩:=h
 have e6:=p6
 refine⟨_,(@aE _ _ _ _ _ (@aV _ _ (1) _ _ _ _ yI.nd rfl (Or.inl rfl) (@bA _ _ _ _ _ _ _ (@cZ _ (K) rfl) (@bS _ _ _ _ (@aA _ _ _ _ _ aD (@aA _ _ _ _ _ (@aK _ _ _ _ _ _ _ _ cY (@aK _ _ _ _ _ _ _ _ kW aD aD) aD) aB (by rfl)) (by rfl))) (@aK _ _ _ _ _ _ _ _ cB (pv 0) aD) (fun _ _=>rfl)) (by rfl) (by trivial)) (@aG _ _ _ (@aQ _ _ _ _ (@dW _ _ _ _ _ (@aA _ _ _ _ _ (@aK _ _ _ _ _ _ _ _ bN (@aK _ _ _ _ _ _ _ _ bN (pv 0) aD) (pv 1)) (@aA _ _ _ _ _ (@aK _ _ _ _ _ _ _ _ cB (@aK _ _ _ _ _ _ _ _ bN (pv 0) aD) (pv 1)) aB (by rfl)) (by rfl)))))),?_⟩
 obtain⟨m,em,hm⟩:=at2 (a:=8) (b:=10 ^ (6:Int).toNat+1) (i:=n % 2) (BJ _ (by decide)) (BE _ (gB rfl))
 rw[e6] at hm
 have m0:0<m∧m≤1000001:=by omega
 have ml:m.natAbs.log2<9000:=by
  have hb:m.natAbs<2 ^ 60:=by omega
  exact DK ((Nat.log2_lt (by omega)).mpr hb) (by decide)
 have r0:0≤n / 2 % m:=BJ _ (by omega)
 have r1:n / 2 % m<m:=BE _ m0.1
 refine⟨_,_,rfl,rfl,⟨by decide,by decide,by decide⟩,_,_,rfl,rfl,aM rfl,fun p hp=>?_⟩
 refine⟨_,rfl,_,_,rfl,rfl,(gB rfl),p,_,_,.int m,rfl,rfl,SqL.of aC,em,?_⟩
 refine⟨_,rfl,_,_,rfl,rfl,⟨by decide,by decide⟩,_,rfl,_,_,rfl,rfl,⟨m0.1,ml⟩,_,rfl,_,_,rfl,rfl,⟨by decide,by decide⟩,_,rfl,_,_,rfl,rfl,m0.1,aM rfl,fun p2 hp2=>?_⟩
 exact q _ _ _ _ ((aH.upd hp).trans (aH.upd hp2)) ⟨p2,rfl,aC⟩ r0 (by omega)
def nN(K:AD):Sp:=sp2 fun x y H Q=>∃ n:Nat,Scr K H x∧y=.int n∧1≤n∧n≤12∧∀ (l:Addr) (vs:List V) (fs:List Dv) (H':Hp),aH H H'→H l=none→H' l=some (.lst vs)→IsL H' fs vs→Fds fs n→fs.length=n→Q (.ref l) H'
theorem mT(T:Txt K mg C):Fc P w K mg base 2 "_law_fields" ["_law_script","_law_many"] (nN K):=by
 have G_l_cell_at:Fc P w K mg base 1 "_law_cell_at" ["_law_script","_law_k"] (uU K):=iO T
 have G_l_words:Fc P w K mg base 1 "_law_words" ["_law_cell","_law_many"] uT:=wA T
 have G_l_mixed:Fc P w K mg base 1 "_law_mixed" ["_law_cell","_law_k"] pV:=pE T
 have G_l_high:Fc P w K mg base 1 "_law_high" ["_law_number"] aAN:=rP T
 have G_l_most:Fc P w K mg base 1 "_law_most" ["_law_number"] aFF:=zA T
 refine T.d_l_fields.fc fR gW (fun f cdv A outer s H vs Q E hr h=>?_)
 obtain⟨x,y,rfl,n,⟨a,ns,rfl,hS,hsl⟩,rfl,n1,n12,q⟩:=h
 have big:=bU
 refine⟨_,(@aE _ _ _ _ _ (@aV _ _ (2) _ _ _ _ fR.nd rfl (Or.inl rfl) (@bC _ _ _ _ _ _ _ _ _ _ G_l_words (hr.mono (by decide)) (@aA _ _ _ _ _ (@bC _ _ _ _ _ _ _ _ _ _ G_l_cell_at (hr.mono (by decide)) (@aA _ _ _ _ _ (pv 0) (@aA _ _ _ _ _ aD aB (by rfl)) (by rfl)) (by rfl) (by decide) (by rfl) (by rfl)) (@aA _ _ _ _ _ (pv 1) aB (by rfl)) (by rfl)) (by rfl) (by decide) (by rfl) (by rfl)) (by rfl) (by trivial)) (@aE _ _ _ _ _ (@aV _ _ (3) _ _ _ _ fR.nd rfl (Or.inl rfl) (@bS _ _ _ _ aB) (by rfl) (by trivial)) (@aE _ _ _ _ _ (@eS _ _ _ _ _ _ _ _ Ax rfl (@eQ _ _ _ _ _ _ rfl T.n_range (@aA _ _ _ _ _ (pv 1) aB (by rfl)) (by rfl)) (@aN _ _ (4) _ fR.nd rfl (Or.inl rfl) (by trivial)) (@aE _ _ _ _ _ (@aBE _ _ _ _ _ _ (@bC _ _ _ _ _ _ _ _ _ _ G_l_high (hr.mono (by decide)) (@aA _ _ _ _ _ (@bC _ _ _ _ _ _ _ _ _ _ G_l_mixed (hr.mono (by decide)) (@aA _ _ _ _ _ (@bC _ _ _ _ _ _ _ _ _ _ G_l_cell_at (hr.mono (by decide)) (@aA _ _ _ _ _ (pv 0) (@aA _ _ _ _ _ (@aK _ _ _ _ _ _ _ _ cY aD (pv 4)) aB (by rfl)) (by rfl)) (by rfl) (by decide) (by rfl) (by rfl)) (@aA _ _ _ _ _ (@aK _ _ _ _ _ _ _ _ cY (pv 4) aD) aB (by rfl)) (by rfl)) (by rfl) (by decide) (by rfl) (by rfl)) aB (by rfl)) (by rfl) (by decide) (by rfl) (by rfl)) (@rH _ _ _ _ _ _ rfl (@cH _ _ _ _ _ (@aN _ _ (5) _ fR.nd rfl (Or.inl rfl) (by trivial)) (@cH _ _ _ _ _ (@aN _ _ (6) _ fR.nd rfl (Or.inl rfl) (by trivial)) kR (by rfl)) (by rfl)) (by rfl) (by rfl)) (by rfl) (by rfl) (by rfl)) (@aG _ _ _ (@dB _ _ _ _ (@iJ _ _ _ _ _ _ _ _ _ _ _ _ An Au At cX (pv 3) (@aA _ _ _ _ _ (@dW _ _ _ _ _ (@aA _ _ _ _ _ (@bA _ _ _ _ _ _ _ (@cZ _ (K) rfl) (pv 2) (pv 4) (fun _ _=>rfl)) (@aA _ _ _ _ _ (pv 6) (@aA _ _ _ _ _ (@bA _ _ _ _ _ _ _ (@aT _ (K) rfl) (@bC _ _ _ _ _ _ _ _ _ _ G_l_most (hr.mono (by decide)) (@aA _ _ _ _ _ (pv 5) aB (by rfl)) (by rfl) (by decide) (by rfl) (by rfl)) aD (fun _ _=>rfl)) aB (by rfl)) (by rfl)) (by rfl))) aB (by rfl)) (by rfl) (by rfl) (by rfl) (by rfl) (by rfl)) (by rfl)))) (by intro _;rfl)) (@aG _ _ _ (@aQ _ _ _ _ (pv 3)))))),?_⟩
 refine⟨_,rfl,_,_,rfl,a,ns,1,rfl,rfl,hS,hsl,by decide,_,rfl,_,_,rfl,_,n,rfl,rfl,by omega,fun zs ln H1 nm S1 fln hln=>?_⟩
 have zl:=nm.len
 refine⟨aM rfl,fun l hl=>?_⟩
 have S2:=aH.upd (o:=.lst []) hl
 have T2:=S1.trans S2
 have hl0:=S1.free hl
 have hln2:=S2 _ _ hln
 refine⟨_,rfl,_,rfl,by omega,by omega,?_⟩
 refine fW (lo:=0) (n:=n) (fun i σ H'=>∃ (v4 v5 v6:Option V) (us:List V) (fs:List Dv),σ=[some (.ref a),some (.int n),some (.ref ln),some (.ref l),v4,v5,v6]∧aH H H'∧H' ln=some (.lst (zs.map V.str))∧H' l=some (.lst us)∧IsL H' fs us∧fs.map aP=zs.take i∧∀ d∈fs,cC d=true)
  ⟨_,_,_,[],[],rfl,T2,hln2,aC,rfl,rfl,(fun d m=>by cases m)⟩ ?_ ?_
 ·rintro i σ H3 hi ⟨v4,v5,v6,us,fs,rfl,S3,hln3,hl3,ius,enm,all⟩
  obtain⟨z,ez⟩:∃ z,zs[i]?=some z:=⟨_,AC (by omega)⟩
  have ezv:(zs.map V.str)[i]?=some (V.str z):=by rw[AI,ez];rfl
  have gz:=nm.good z (AG ez)
  have lus:=ius.length
  have lfs:fs.length≤i:=by
   have:=congrArg Bs enm
   rw[AA,AH] at this
   omega
  refine⟨_,rfl,_,rfl,_,_,rfl,rfl,_,_,rfl,a,ns,_,rfl,rfl,S3.seq hS,hsl,(by omega),_,rfl,_,_,rfl,rfl,_,_,rfl,_,_,rfl,rfl,by omega,by omega,fun m=>?_⟩
  refine⟨_,rfl,m,rfl,fun a1 b1 v H4 S4 tw g0 g1=>?_⟩
  obtain⟨t,rfl,et⟩:=tw
  refine⟨t,_,rfl,SqT.of et,rfl,_,_,rfl,_,_,rfl,rfl,?_⟩
  have hl4:=S4 _ _ hl3
  have hln4:=S4 _ _ hln3
  refine⟨_,rfl,.inl ⟨rfl,_,SqL.of hl4⟩,_,rfl,_,rfl,ln,_,_,.str z,rfl,rfl,SqL.of hln4,(by rw[By];exact aO ezv),_,rfl,_,rfl,_,rfl,a1,rfl,fun a2 b2 v2 H5 S5 tw2 e0 e1=>?_⟩
  obtain⟨t2,rfl,et2⟩:=tw2
  refine⟨t2,_,1,.int b2,rfl,rfl,SqT.of et2,aO (j:=1) rfl,aM rfl,fun pt hpt=>?_⟩
  have S6:=aH.upd (o:=.tup [.str z,.int b1,.int b2]) hpt
  have T6:=S4.trans (S5.trans S6)
  have hl6:=T6 _ _ hl3
  have KT:=gN.lst (o:=.lst (us++[.ref pt])) hl6
  refine⟨l,us,.ref pt,rfl,rfl,hl6,by omega,?_⟩
  have nll:l≠ln:=fun e=>by rw[e,hln] at hl;cases hl
  have all':∀ d∈fs++[Dv.tup [.str z,.int b1,.int b2]],cC d=true:=fun d m=>by
   rcases Ab.mp m with m | m
   ·exact all d m
   ·rw[AL.mp m];exact aNG gz g0 g1 e0 e1
  refine⟨_,_,_,us++[.ref pt],fs++[.tup [.str z,.int b1,.int b2]],rfl,(S3.trans T6).over hl0,?_,aC,IsL.keep KT _ _ (fE fun d m=>aGJ (all' d m)) ?_,?_,all'⟩
  ·rw[aI (Ne.symm nll)];exact T6 _ _ hln3
  ·exact IsL.snoc (d:=.tup [.str z,.int b1,.int b2]) (v:=.ref pt) ⟨pt,_,rfl,aC,_,_,rfl,rfl,_,_,rfl,rfl,_,_,rfl,rfl,rfl⟩ (IsL.same T6 _ _ ius)
  ·rw[AF,enm,AT,ez];rfl
 ·rintro σ H3 ⟨v4,v5,v6,us,fs,rfl,S3,hln3,hl3,ius,enm,all⟩
  rw[AE (by omega)] at enm
  have lfs:fs.length=n:=by
   have:=congrArg Bs enm
   rw[AA] at this
   omega
  exact⟨_,rfl,q l us fs H3 S3 hl0 hl3 ius ⟨by omega,by omega,all,by rw[enm];exact nm.nd⟩ lfs⟩
open Mt21
def pX(K:AD):Sp:=sp3 fun x y u H Q=>∃ (n:Nat) (a:Addr) (vs:List V) (fs:List Dv) (k:Nat),Scr K H x∧y=.ref a∧H a=some (.lst vs)∧IsL H fs vs∧Fds fs k∧k≤12∧u=.int n∧1≤n∧n≤40 ∧
 ∀ (l:Addr) (us:List V) (ds:List Dv) (H':Hp),aH H H'→H l=none→H' l=some (.lst us)→IsL H' ds us→Dks ("sea" :: fs.map aP) ds n→Q (.ref l) H'
theorem pG(T:Txt K mg C):Fc P w K mg base 2 "_law_dykes" ["_law_script","_law_fields_here","_law_many"] (pX K):=by
 have G_l_cell_at:Fc P w K mg base 1 "_law_cell_at" ["_law_script","_law_k"] (uU K):=iO T
 have G_l_words:Fc P w K mg base 1 "_law_words" ["_law_cell","_law_many"] uT:=wA T
 have G_l_mixed:Fc P w K mg base 1 "_law_mixed" ["_law_cell","_law_k"] pV:=pE T
 have G_l_high:Fc P w K mg base 1 "_law_high" ["_law_number"] aAN:=rP T
 have G_l_most:Fc P w K mg base 1 "_law_most" ["_law_number"] aFF:=zA T
 refine T.d_l_dykes.fc cJ rS (fun f cdv A outer s H vs Q E hr h=>?_)
 obtain⟨x,y,u,rfl,n,a,ws,fs,kf,⟨sa,ns,rfl,hS,hsl⟩,rfl,ha,hi,gf,hkf,rfl,n0,n1,q⟩:=h
 have big:=bU
 have lw:=hi.length
 have f1:=gf.l1
 have f2:=gf.l2
 refine⟨_,(@aE _ _ _ _ _ (@aV _ _ (3) _ _ _ _ cJ.nd rfl (Or.inl rfl) (@bC _ _ _ _ _ _ _ _ _ _ G_l_words (hr.mono (by decide)) (@aA _ _ _ _ _ (@bC _ _ _ _ _ _ _ _ _ _ G_l_cell_at (hr.mono (by decide)) (@aA _ _ _ _ _ (pv 0) (@aA _ _ _ _ _ aD aB (by rfl)) (by rfl)) (by rfl) (by decide) (by rfl) (by rfl)) (@aA _ _ _ _ _ (pv 2) aB (by rfl)) (by rfl)) (by rfl) (by decide) (by rfl) (by rfl)) (by rfl) (by trivial)) (@aE _ _ _ _ _ (@aV _ _ (4) _ _ _ _ cJ.nd rfl (Or.inl rfl) (@aK _ _ _ _ _ _ _ _ iD (@bS _ _ _ _ (@aA _ _ _ _ _ kT aB (by rfl))) (@bZ _ _ _ _ _ _ _ _ _ _ _ ["_law_field"] 1 [] rfl (@bG _ _ _ _ (pv 1)) (fun R=>@aN _ _ (0) _ (show Ar (["_law_field"]:List Str) by decide +kernel) rfl (Or.inl rfl) (by trivial)) (@aW _ _ (by decide)) (fun R=>bT) (fun R=>(@bA _ _ _ _ _ _ _ (@aT _ (K) rfl) (pv 0) aD (fun _ _=>rfl))) (by rfl) (by rfl) (by rfl) (by rfl) (by rfl) (by rfl) (by rfl) (by intro _;rfl))) (by rfl) (by trivial)) (@aE _ _ _ _ _ (@aV _ _ (5) _ _ _ _ cJ.nd rfl (Or.inl rfl) (@bS _ _ _ _ aB) (by rfl) (by trivial)) (@aE _ _ _ _ _ (@eS _ _ _ _ _ _ _ _ Ax rfl (@eQ _ _ _ _ _ _ rfl T.n_range (@aA _ _ _ _ _ (pv 2) aB (by rfl)) (by rfl)) (@aN _ _ (6) _ cJ.nd rfl (Or.inl rfl) (by trivial)) (@aE _ _ _ _ _ (@aV _ _ (7) _ _ _ _ cJ.nd rfl (Or.inl rfl) (@bC _ _ _ _ _ _ _ _ _ _ G_l_mixed (hr.mono (by decide)) (@aA _ _ _ _ _ (@bC _ _ _ _ _ _ _ _ _ _ G_l_cell_at (hr.mono (by decide)) (@aA _ _ _ _ _ (pv 0) (@aA _ _ _ _ _ (@aK _ _ _ _ _ _ _ _ cY (@aK _ _ _ _ _ _ _ _ cY aD (@aS _ _ _ _ _ _ _ _ _ (@bB _ (K) rfl) rfl T.n_len bJ (@aA _ _ _ _ _ (pv 1) aB (by rfl)) (by decide) (by decide) (by rfl) (by rfl))) (pv 6)) aB (by rfl)) (by rfl)) (by rfl) (by decide) (by rfl) (by rfl)) (@aA _ _ _ _ _ (@aK _ _ _ _ _ _ _ _ cY (pv 6) aD) aB (by rfl)) (by rfl)) (by rfl) (by decide) (by rfl) (by rfl)) (by rfl) (by trivial)) (@aE _ _ _ _ _ (@aV _ _ (8) _ _ _ _ cJ.nd rfl (Or.inl rfl) (@aK _ _ _ _ _ _ _ _ cB (pv 7) (@aS _ _ _ _ _ _ _ _ _ (@bB _ (K) rfl) rfl T.n_len bJ (@aA _ _ _ _ _ (pv 4) aB (by rfl)) (by decide) (by decide) (by rfl) (by rfl))) (by rfl) (by trivial)) (@aE _ _ _ _ _ (@aV _ _ (9) _ _ _ _ cJ.nd rfl (Or.inl rfl) (@aK _ _ _ _ _ _ _ _ cB (@aK _ _ _ _ _ _ _ _ cY (@aK _ _ _ _ _ _ _ _ cY (pv 8) aD) (@aK _ _ _ _ _ _ _ _ cB (@aK _ _ _ _ _ _ _ _ bN (pv 7) aD) (@aS _ _ _ _ _ _ _ _ _ (@bB _ (K) rfl) rfl T.n_len bJ (@aA _ _ _ _ _ (pv 1) aB (by rfl)) (by decide) (by decide) (by rfl) (by rfl)))) (@aS _ _ _ _ _ _ _ _ _ (@bB _ (K) rfl) rfl T.n_len bJ (@aA _ _ _ _ _ (pv 4) aB (by rfl)) (by decide) (by decide) (by rfl) (by rfl))) (by rfl) (by trivial)) (@aE _ _ _ _ _ (@aBE _ _ _ _ _ _ (@bC _ _ _ _ _ _ _ _ _ _ G_l_high (hr.mono (by decide)) (@aA _ _ _ _ _ (@aK _ _ _ _ _ _ _ _ bN (pv 7) aD) aB (by rfl)) (by rfl) (by decide) (by rfl) (by rfl)) (@rH _ _ _ _ _ _ rfl (@cH _ _ _ _ _ (@aN _ _ (7) _ cJ.nd rfl (Or.inl rfl) (by trivial)) (@cH _ _ _ _ _ (@aN _ _ (10) _ cJ.nd rfl (Or.inl rfl) (by trivial)) kR (by rfl)) (by rfl)) (by rfl) (by rfl)) (by rfl) (by rfl) (by rfl)) (@aE _ _ _ _ _ (@aBE _ _ _ _ _ _ (@bC _ _ _ _ _ _ _ _ _ _ G_l_most (hr.mono (by decide)) (@aA _ _ _ _ _ (pv 7) aB (by rfl)) (by rfl) (by decide) (by rfl) (by rfl)) (@rH _ _ _ _ _ _ rfl (@cH _ _ _ _ _ (@aN _ _ (7) _ cJ.nd rfl (Or.inl rfl) (by trivial)) (@cH _ _ _ _ _ (@aN _ _ (11) _ cJ.nd rfl (Or.inl rfl) (by trivial)) kR (by rfl)) (by rfl)) (by rfl) (by rfl)) (by rfl) (by rfl) (by rfl)) (@aE _ _ _ _ _ (@aV _ _ (12) _ _ _ _ cJ.nd rfl (Or.inl rfl) rJ (by rfl) (by trivial)) (@aE _ _ _ _ _ (@dG _ _ _ _ _ _ _ _ (@PW.pt _ _ _ (@mJ _ _ _ _ _ _ _ (@bK _ _ _ _ _ _ _ _ aDR (@aK _ _ _ _ _ _ _ _ cB (pv 7) aD) aD (@bI _ _ (by decide) (by decide))) (@kQ _ _ _ _ (@bK _ _ _ _ _ _ _ _ aDR (pv 10) (@aK _ _ _ _ _ _ _ _ jM aD (@aK _ _ _ _ _ _ _ _ kW aD aD)) (@bI _ _ (by decide) (by decide)))))) (@aG _ _ _ (@aV _ _ (12) _ _ _ _ cJ.nd rfl (Or.inl rfl) (@aS _ _ _ _ _ _ _ _ _ (@aKB _ rfl) rfl T.n_max aKC (@aA _ _ _ _ _ (@aK _ _ _ _ _ _ _ _ jM aD (@aK _ _ _ _ _ _ _ _ kW aD aD)) (@aA _ _ _ _ _ (@aK _ _ _ _ _ _ _ _ jM (@aK _ _ _ _ _ _ _ _ jM (pv 10) aD) (@aK _ _ _ _ _ _ _ _ cB (@aK _ _ _ _ _ _ _ _ bN (pv 7) aD) (@bA _ _ _ _ _ _ _ (@cZ _ (K) rfl) (@bS _ _ _ _ (@aA _ _ _ _ _ aD (@aA _ _ _ _ _ (@aK _ _ _ _ _ _ _ _ gC aD (@aK _ _ _ _ _ _ _ _ kW aD aD)) aB (by rfl)) (by rfl))) (@aK _ _ _ _ _ _ _ _ cB (pv 7) aD) (fun _ _=>rfl)))) aB (by rfl)) (by rfl)) (by decide) (by decide) (by rfl) (by rfl)) (by rfl) (by trivial))) bP) (@aG _ _ _ (@dB _ _ _ _ (@iJ _ _ _ _ _ _ _ _ _ _ _ _ An Au At cX (pv 5) (@aA _ _ _ _ _ (@dW _ _ _ _ _ (@aA _ _ _ _ _ (@bA _ _ _ _ _ _ _ (@cZ _ (K) rfl) (pv 3) (pv 6) (fun _ _=>rfl)) (@aA _ _ _ _ _ (@bA _ _ _ _ _ _ _ (@cZ _ (K) rfl) (pv 4) (pv 8) (fun _ _=>rfl)) (@aA _ _ _ _ _ (@bA _ _ _ _ _ _ _ (@cZ _ (K) rfl) (pv 4) (pv 9) (fun _ _=>rfl)) (@aA _ _ _ _ _ (pv 10) (@aA _ _ _ _ _ (pv 11) (@aA _ _ _ _ _ (pv 12) aB (by rfl)) (by rfl)) (by rfl)) (by rfl)) (by rfl)) (by rfl))) aB (by rfl)) (by rfl) (by rfl) (by rfl) (by rfl) (by rfl)) (by rfl)))))))))) (by intro _;rfl)) (@aG _ _ _ (@aQ _ _ _ _ (pv 5))))))),?_⟩
 refine⟨_,rfl,_,_,rfl,sa,ns,2,rfl,rfl,hS,hsl,by decide,_,rfl,_,_,rfl,_,n,rfl,rfl,by omega,fun zs pz H0 hz S1 fpz hpz=>?_⟩
 have lz:=hz.len
 refine⟨aM rfl,fun p1 hp1=>?_⟩
 have S2:=aH.upd (o:=.lst [.str "sea"]) hp1
 have S12:=S1.trans S2
 refine⟨_,rfl,a,rfl,⟨_,SqL.of (S12 _ _ ha)⟩,?_⟩
 refine bE (F:=K) (xs:=ws) (by omega) (fun i ys H'=>H'=upd H0 p1 (.lst [.str "sea"])∧ys=((fs.take i).map aP).map V.str) ⟨rfl,rfl⟩ ?_ ?_ ?_
 ·rintro i ys H' hi' ⟨rfl,rfl⟩
  exact⟨SqL.of (S12 _ _ ha),by rw[AA,AA,AH];omega⟩
 ·rintro i x ys H' K1 K2 hx' ⟨rfl,rfl⟩ k1 k2
  have hil:i<ws.length:=(AB.mp hx').1
  obtain⟨d,ed⟩:∃ d,fs[i]?=some d:=⟨_,AC (by omega)⟩
  obtain⟨v,ev,iv⟩:=hi.get ed
  rw[hx'] at ev
  cases ev
  obtain⟨z,g,e,rfl,_⟩:=bH (gf.all d (AG ed))
  obtain⟨t,rfl,o⟩:=fY iv
  refine⟨_,rfl,t,_,0,.str z,rfl,rfl,SqT.of (S12 _ _ o),aO (j:=0) rfl,k1 _ _ ⟨rfl,?_⟩⟩
  rw[AT,ed]
  simp[aP,cN]
 ·rintro ys H' ⟨rfl,rfl⟩
  intro p2 hp2
  rw[AE (by omega)]
  have S3:=aH.upd (o:=.lst ((fs.map aP).map V.str)) hp2
  refine⟨p1,p2,_,_,rfl,rfl,S3 _ _ aC,aC,by simp only[AA,Af,Dp];omega,fun p3 hp3=>?_⟩
  have S4:=aH.upd (o:=.lst ([.str "sea"]++(fs.map aP).map V.str)) hp3
  have S14:=S12.trans (S3.trans S4)
  have hpz4:=(S2.trans (S3.trans S4)) pz _ hpz
  have hp34:upd (upd (upd H0 p1 (.lst [.str "sea"])) p2 (.lst ((fs.map aP).map V.str))) p3 (.lst ([.str "sea"]++(fs.map aP).map V.str)) p3=some (.lst ((("sea":Str) :: fs.map aP).map V.str)):=aC
  generalize upd (upd (upd H0 p1 (.lst [.str "sea"])) p2 (.lst ((fs.map aP).map V.str))) p3 (.lst ([.str "sea"]++(fs.map aP).map V.str))=H4 at S14 hpz4 hp34
  refine⟨aM rfl,fun l hl=>?_⟩
  have S5:=aH.upd (o:=.lst []) hl
  have fl:H l=none:=S14.free hl
  have npz:pz≠l:=aJ hpz4 hl
  have np3:p3≠l:=aJ hp34 hl
  have sl:((("sea":Str) :: fs.map aP).length)=fs.length+1:=by simp
  have snd:=aLB gf
  generalize hsd:("sea" :: fs.map aP:List Str)=sd at *
  have sl2:(sd.map V.str).length=fs.length+1:=by rw[AA,sl]
  refine⟨_,rfl,_,rfl,by omega,by omega,?_⟩
  refine fW (lo:=0) (n:=n) (fun i σ H'=>∃ (v6 v7 v8 v9 v10 v11 v12:Option V) (us:List V) (ds:List Dv),σ=[some (.ref sa),some (.ref a),some (.int n),some (.ref pz),some (.ref p3),some (.ref l),v6,v7,v8,v9,v10,v11,v12]∧aH H H'∧H' pz=some (.lst (zs.map V.str))∧H' p3=some (.lst (sd.map V.str))∧H' l=some (.lst us)∧IsL H' ds us∧ds.map aP=zs.take i∧(∀ d∈ds,cV sd d=true))
   ⟨_,_,_,_,_,_,_,[],[],rfl,S14.trans S5,S5 _ _ hpz4,S5 _ _ hp34,aC,rfl,rfl,fun d m=>by cases m⟩ ?_ ?_
  ·rintro i σ H' hi2 ⟨v6,v7,v8,v9,v10,v11,v12,us,ds,rfl,S,hz',hsd',hl',hi',en,af⟩
   have lf:ds.length=i:=by
    have:=congrArg Bs en
    rw[AA,AH] at this
    omega
   have lu:=hi'.length
   obtain⟨z,ez⟩:∃ z,zs[i]?=some z:=⟨_,AC (by omega)⟩
   have gz:=hz.good z (AG ez)
   refine⟨_,rfl,_,rfl,a,ws,rfl,.inl (SqL.of (S _ _ ha)),_,_,rfl,rfl,_,rfl,_,_,rfl,rfl,_,_,rfl,sa,ns,_,rfl,rfl,S.seq hS,hsl,(by omega),_,rfl,_,_,rfl,rfl,_,_,rfl,_,_,rfl,rfl,by omega,by omega,fun c2=>?_⟩
   have L0:(0:Int)<((sd.map V.str).length:Int):=by omega
   refine⟨_,rfl,_,rfl,p3,_,rfl,.inl (SqL.of hsd'),_,_,rfl,rfl,L0,?_⟩
   have f0:0≤c2 % ((sd.map V.str).length:Int):=BJ _ (by omega)
   have f1':c2 % ((sd.map V.str).length:Int)<((sd.map V.str).length:Int):=BE _ L0
   have ews:(ws.length:Int)=((sd.map V.str).length:Int) - 1:=by omega
   refine⟨_,rfl,_,_,rfl,rfl,_,rfl,_,_,rfl,rfl,⟨by decide,by decide⟩,_,rfl,a,ws,rfl,.inl (SqL.of (S _ _ ha)),_,_,rfl,rfl,(by omega),_,_,rfl,rfl,_,rfl,p3,_,rfl,.inl (SqL.of hsd'),_,_,rfl,rfl,L0,?_⟩
   dsimp only
   rw[ews]
   obtain⟨se0,se1,fne⟩:=aIZ (c:=c2 / 13) (f:=c2 % ((sd.map V.str).length:Int)) (L:=((sd.map V.str).length:Int)) (by omega) f0 f1' rfl rfl
   obtain⟨fj,hfj⟩:=BC f0
   obtain⟨sj,hsj⟩:=BC se0
   rw[hfj] at f1'
   rw[hsj] at se1
   rw[hfj,← hfj,hsj] at fne
   obtain⟨za,eza⟩:∃ z,sd[fj]?=some z:=⟨_,AC (by omega)⟩
   obtain⟨zb,ezb⟩:∃ z,sd[sj]?=some z:=⟨_,AC (by omega)⟩
   have atA:(sd.map V.str)[fj]?=some (V.str za):=by rw[AI,eza];rfl
   have atB:(sd.map V.str)[sj]?=some (V.str zb):=by rw[AI,ezb];rfl
   have iA:atI (sd.map V.str) (c2 % ((sd.map V.str).length:Int))=some (V.str za):=by rw[hfj];exact aO atA
   have iB:atI (sd.map V.str) ((c2 % ((sd.map V.str).length:Int)+1+c2 / 13 % (((sd.map V.str).length:Int) - 1)) % ((sd.map V.str).length:Int))=some (V.str zb):=by rw[hsj];exact aO atB
   have zab:za≠zb:=aUT snd eza ezb (by omega)
   refine⟨_,rfl,_,_,rfl,rfl,⟨by decide,by decide⟩,_,rfl,_,rfl,fun n3 cr tv H5 S5' tw cr0 cr1=>?_⟩
   obtain⟨t5,rfl,et5⟩:=tw
   refine⟨t5,_,rfl,SqT.of et5,rfl,_,_,rfl,_,_,rfl,rfl,?_⟩
   refine⟨_,rfl,_,rfl,n3,rfl,fun n4 rt tv6 H6 S6 tw6 rt0 rt1=>?_⟩
   obtain⟨t6,rfl,et6⟩:=tw6
   refine⟨t6,_,rfl,SqT.of et6,rfl,_,_,rfl,_,_,rfl,rfl,?_⟩
   have U6:=S5'.trans S6
   have S7:=S.trans U6
   have hz7:=U6 _ _ hz'
   have hsd7:=U6 _ _ hsd'
   have hl7:=U6 _ _ hl'
   have hi7:=IsL.same U6 _ _ hi'
   have fin:∀ (sv:V) (sdv:Dv) (H2:Hp),aH H H2→H2 pz=some (.lst (zs.map V.str))→H2 p3=some (.lst (sd.map V.str))→H2 l=some (.lst us)→IsL H2 ds us→(∀ H3,Is H3 sdv sv)→lB (.int cr) sdv=true →
     ∀ t,H2 t=none→∃ us' ds',aH H (upd (upd H2 t (.tup [.str z,.str za,.str zb,.int cr,.int rt,sv])) l (.lst us'))∧us'=us++[.ref t]∧upd (upd H2 t (.tup [.str z,.str za,.str zb,.int cr,.int rt,sv])) l (.lst us') pz=some (.lst (zs.map V.str)) ∧
      upd (upd H2 t (.tup [.str z,.str za,.str zb,.int cr,.int rt,sv])) l (.lst us') p3=some (.lst (sd.map V.str))∧IsL (upd (upd H2 t (.tup [.str z,.str za,.str zb,.int cr,.int rt,sv])) l (.lst us')) ds' us'∧ds'.map aP=zs.take (i+1)∧(∀ d∈ds',cV sd d=true):=by
    intro sv sdv H2 S' hz2 hs2 hl2 hi2' his hsl t ht
    have S3':=aH.upd (o:=.tup [.str z,.str za,.str zb,.int cr,.int rt,sv]) ht
    have hl3:=S3' _ _ hl2
    have ok:cV sd (.tup [.str z,.str za,.str zb,.int cr,.int rt,sdv])=true:=aPZ gz (AG eza) (AG ezb) zab (aMU cr0 cr1) (aTO rt0 rt1) hsl
    refine⟨us++[.ref t],ds++[.tup [.str z,.str za,.str zb,.int cr,.int rt,sdv]],(S'.trans S3').over fl,rfl,?_,?_,?_,?_,?_⟩
    ·rw[aI npz]
     exact S3' _ _ hz2
    ·rw[aI np3]
     exact S3' _ _ hs2
    ·refine IsL.keep (gN.lst hl3) _ _ (fE fun d m=>aJY (zs:=sd) ?_) (IsL.snoc ?_ (IsL.same S3' _ _ hi2'))
     ·rcases Ab.mp m with m | m
      ·exact af d m
      ·rw[AL.mp m]
       exact ok
     ·exact⟨t,_,rfl,aC,.str z,_,rfl,rfl,.str za,_,rfl,rfl,.str zb,_,rfl,rfl,.int cr,_,rfl,rfl,.int rt,_,rfl,rfl,sv,_,rfl,his _,rfl⟩
    ·rw[AF,en,AT,ez]
     rfl
    ·intro d m
     rcases Ab.mp m with m | m
     ·exact af d m
     ·rw[AL.mp m]
      exact ok
   refine⟨_,rfl,_,_,rfl,rfl,(gB rfl),_,_,rfl,rfl,_,rfl,?_⟩
   have iz:atI (zs.map V.str) (0+(i:Int))=some (V.str z):=by rw[By];exact aO (by rw[AI,ez];rfl)
   refine iZ (fun t1=>?_) (fun t1=>?_)
   ·refine⟨_,rfl,_,_,rfl,rfl,⟨by decide,by decide,by decide⟩,_,_,rfl,rfl,_,_,rfl,rfl,_,rfl,?_⟩
    refine iZ (fun t2=>?_) (fun t2=>?_)
    ·have t2':0 - (10:Int) ^ (6:Int).toNat<cr:=of_decide_eq_true t2
     rw[p6] at t2'
     refine⟨_,_,rfl,rfl,⟨by decide,by decide,by decide⟩,_,_,rfl,rfl,?_⟩
     refine⟨_,rfl,_,_,rfl,rfl,_,rfl,_,_,rfl,rfl,⟨by decide,by decide⟩,_,_,rfl,rfl,⟨by decide,by decide,by decide⟩,_,_,rfl,rfl,.inl ⟨by decide,by decide⟩,aM rfl,fun pl hpl=>?_⟩
     obtain⟨md,emd,hmd⟩:=at2 (a:=9) (b:=2*10 ^ (6:Int).toNat) (i:=n4 % 2) (BJ _ (by decide)) (BE _ (gB rfl))
     rw[p6] at hmd
     refine⟨_,rfl,_,_,rfl,rfl,(gB rfl),pl,_,_,.int md,rfl,rfl,SqL.of aC,emd,_,_,rfl,rfl,(by show 0<md;omega),_,_,rfl,rfl,_,_,rfl,?_⟩
     have q0:0≤n4 / 4 % md:=BJ _ (by omega)
     generalize n4 / 4 % md=qq at *
     generalize hsi:(if cr - 1 - qq>0 - (10:Int) ^ (6:Int).toNat then cr - 1 - qq else 0 - (10:Int) ^ (6:Int).toNat)=si
     rw[p6] at hsi
     have s2:-1000000≤si∧si<cr:=by
      rw[← hsi]
      split <;> omega
     have hss:lB (.int cr) (.int si)=true:=by
      show (hgt si && decide (si<cr))=true
      rw[aMU s2.1 (by omega),decide_eq_true s2.2]
      rfl
     have R:=aH.upd (o:=.lst [.int 9,.int (2*10 ^ (6:Int).toNat)]) hpl
     refine⟨_,rfl,.inl ⟨rfl,_,SqL.of (R _ _ hl7)⟩,_,rfl,_,rfl,pz,_,0+(i:Int),.str z,rfl,rfl,SqL.of (R _ _ hz7),iz,?_⟩
     refine⟨_,rfl,_,rfl,p3,_,_,.str za,rfl,rfl,SqL.of (R _ _ hsd7),iA,_,rfl,_,rfl,p3,_,_,.str zb,rfl,rfl,SqL.of (R _ _ hsd7),iB,_,rfl,_,rfl,?_⟩
     refine⟨_,rfl,aM rfl,fun t ht=>?_⟩
     obtain⟨us',ds',g1,rfl,g2,g3,g4,g5,g6⟩:=fin (.int si) (.int si) _ (S7.trans R) (R _ _ hz7) (R _ _ hsd7) (R _ _ hl7) (IsL.same R _ _ hi7) (fun _=>rfl) hss t ht
     exact⟨l,us,.ref t,rfl,rfl,(aH.upd ht) _ _ (R _ _ hl7),by omega,_,_,_,_,_,_,_,_,ds',rfl,g1,g2,g3,aC,g4,g5,g6⟩
    ·refine⟨_,rfl,.inl ⟨rfl,_,SqL.of hl7⟩,_,rfl,_,rfl,pz,_,0+(i:Int),.str z,rfl,rfl,SqL.of hz7,iz,?_⟩
     refine⟨_,rfl,_,rfl,p3,_,_,.str za,rfl,rfl,SqL.of hsd7,iA,_,rfl,_,rfl,p3,_,_,.str zb,rfl,rfl,SqL.of hsd7,iB,_,rfl,_,rfl,?_⟩
     refine⟨_,rfl,aM rfl,fun t ht=>?_⟩
     obtain⟨us',ds',g1,rfl,g2,g3,g4,g5,g6⟩:=fin .non .non _ S7 hz7 hsd7 hl7 hi7 (fun _=>rfl) rfl t ht
     exact⟨l,us,.ref t,rfl,rfl,(aH.upd ht) _ _ hl7,by omega,_,_,_,_,_,_,_,_,ds',rfl,g1,g2,g3,aC,g4,g5,g6⟩
   ·refine⟨_,rfl,.inl ⟨rfl,_,SqL.of hl7⟩,_,rfl,_,rfl,pz,_,0+(i:Int),.str z,rfl,rfl,SqL.of hz7,iz,?_⟩
    refine⟨_,rfl,_,rfl,p3,_,_,.str za,rfl,rfl,SqL.of hsd7,iA,_,rfl,_,rfl,p3,_,_,.str zb,rfl,rfl,SqL.of hsd7,iB,_,rfl,_,rfl,?_⟩
    refine⟨_,rfl,aM rfl,fun t ht=>?_⟩
    obtain⟨us',ds',g1,rfl,g2,g3,g4,g5,g6⟩:=fin .non .non _ S7 hz7 hsd7 hl7 hi7 (fun _=>rfl) rfl t ht
    exact⟨l,us,.ref t,rfl,rfl,(aH.upd ht) _ _ hl7,by omega,_,_,_,_,_,_,_,_,ds',rfl,g1,g2,g3,aC,g4,g5,g6⟩
  ·rintro σ H' ⟨v6,v7,v8,v9,v10,v11,v12,us,ds,rfl,S,hz',hsd',hl',hi',en,af⟩
   rw[AE (by omega)] at en
   have lf:ds.length=zs.length:=by
    have:=congrArg Bs en
    rwa [AA] at this
   refine⟨_,rfl,q l us ds H' S fl hl' hi' ⟨by omega,by omega,af,by rw[en];exact hz.nd⟩⟩
open Mt53
theorem jJ(a b:Int):decide (V.int a=V.int b)=decide (a=b):=by
 by_cases h:a=b
 ·subst h;simp
 ·rw[decide_eq_false h,decide_eq_false (fun c=>h (by cases c;rfl))]
def rC:Sp:=sp2 fun x y H Q=>∃ (t:Addr) (n a b:Str) (c r h:Int) (sv:V),x=.ref t∧y=.int h∧H t=some (.tup [.str n,.str a,.str b,.int c,.int r,sv])∧0≤r∧r≤1000000∧Q (.int (r*(h - c))) H
theorem oS(T:Txt K mg C):Fc P w K mg base 1 "coins_to" ["dyke","height"] rC:=by
 refine T.d_p_coins_to.fc xK gW (fun f cdv A outer s H vs Q E hr h=>?_)
 obtain⟨x,y,rfl,t,n,a,b,c,r,h,sv,rfl,rfl,o,r0,r1,q⟩:=h
 refine⟨_,(@aG _ _ _ (@aQ _ _ _ _ (@aK _ _ _ _ _ _ _ _ gC (@bA _ _ _ _ _ _ _ (@aT _ (K) rfl) (pv 0) aD (fun _ _=>rfl)) (@aK _ _ _ _ _ _ _ _ jM (pv 1) (@bA _ _ _ _ _ _ _ (@aT _ (K) rfl) (pv 0) aD (fun _ _=>rfl)))))),?_⟩
 exact⟨_,rfl,t,_,4,.int r,rfl,rfl,SqT.of o,aO (j:=4) rfl,_,rfl,_,rfl,t,_,3,.int c,rfl,rfl,SqT.of o,aO (j:=3) rfl,_,_,rfl,rfl,_,_,rfl,rfl,.inl ⟨by omega,by omega⟩,q⟩
theorem aTP{r:Int}(h:amt r=true):0≤r∧r≤1000000:=by
 have:=Ai.mp h
 exact⟨of_decide_eq_true this.1,of_decide_eq_true this.2⟩
theorem aCK{zs:List Str}{ds ws:List Dv}(gd:GoodD zs ds)(gw:GoodW ds ws)(lw:ws.length≤1000):cO (.lst ws)=true:=gT (fun d m=>by
  obtain⟨z,v,rfl,hz,_⟩:=oU (gw.all d m)
  obtain⟨d',md,rfl⟩:=AN.mp hz
  obtain⟨n,a,b,c,r,sl,rfl,hn,_⟩:=bQ (gd.all d' md)
  have e:=kY hn
  show (decide (2≤1000) && (decide (n.length≤1000) && (true && true)))=true
  rw[decide_eq_true e]
  rfl) lw
def yE(C:Addr):Sp:=sp2 fun x y H Q=>∃ (p:Addr) (fs ds ws:List Dv),x=.ref p∧LandAt C H p fs ds∧Is H (.lst ws) y∧ws.length≤1000∧GoodW ds ws∧Q (.int (aBZ ds ws)) H
theorem xQ(T:Txt K mg C):Fc P w K mg base 5 "coins_of" ["land","works"] (yE C):=by
 have G_p_are_works:Fc P w K mg base 4 "are_works" ["land","thing"] (aHA C):=vX T
 have G_p_coins_to:Fc P w K mg base 1 "coins_to" ["dyke","height"] rC:=oS T
 have G_land_p_dyke:Mc P w K mg base 1 C "dyke" ["self","name"] (uK C):=iY T
 refine T.d_p_coins_of.fcD xL gW (fun f cdv A outer s H vs Q E hr h=>?_)
 obtain⟨x,y,rfl,p,fs,ds,ws,rfl,L,hw,lw,gw,q⟩:=h
 have big:=bU
 obtain⟨dx,e1,e2,hx,_⟩:=L.ex
 have no:∀ m:Str,¬ m="dyke_rows"→¬ m="field_rows"→(mW e1 e2).lookup m=none:=fun m h1 h2=>gF _ _ h1 h2
 have gd:=(cK L).2
 refine⟨_,(@aE _ _ _ _ _ (@dG _ _ _ _ _ _ _ _ (@dA _ _ _ _ (@cR _ _ _ (@bC _ _ _ _ _ _ _ _ _ _ G_p_are_works (hr.mono (by decide)) (@aA _ _ _ _ _ (pv 0) (@aA _ _ _ _ _ (pv 1) aB (by rfl)) (by rfl)) (by rfl) (by decide) (by rfl) (by rfl)) (by intro _;rfl))) (@aG _ _ _ kB) bP) (@aG _ _ _ (@aQ _ _ _ _ (@aS _ _ _ _ _ _ _ _ _ (@aES _ rfl) rfl T.n_sum zV (@aA _ _ _ _ _ (@bZ _ _ _ _ _ _ _ _ _ _ _ ["work","land"] 1 [0] rfl (@bG _ _ _ _ (pv 1)) (fun R=>@aN _ _ (0) _ (show Ar (["work","land"]:List Str) by decide +kernel) rfl (Or.inl rfl) (by trivial)) (@aW _ _ (by decide)) (fun R=>bT) (fun R=>(@bC _ _ _ _ _ _ _ _ _ _ G_p_coins_to (hr.mono (by decide)) (@aA _ _ _ _ _ (@aPB _ _ _ _ _ _ _ _ _ _ _ _ _ _ T.cl_Land G_land_p_dyke (hr.mono (by decide)) (pv 1) (@aA _ _ _ _ _ (@bA _ _ _ _ _ _ _ (@aT _ (K) rfl) (pv 0) aD (fun _ _=>rfl)) aB (by rfl)) (by rfl) (by rfl) (by rfl)) (@aA _ _ _ _ _ (@bA _ _ _ _ _ _ _ (@aT _ (K) rfl) (pv 0) aD (fun _ _=>rfl)) aB (by rfl)) (by rfl)) (by rfl) (by decide) (by rfl) (by rfl))) (by rfl) (by rfl) (by rfl) (by rfl) (by rfl) (by rfl) (by rfl) (by intro _;rfl)) aB (by rfl)) (by decide) (by decide) (by rfl) (by rfl))))),?_⟩
 refine⟨_,rfl,_,rfl,_,_,rfl,p,fs,ds,.lst ws,rfl,L,hw,aCK gd gw lw,_,rfl,?_⟩
 rw[(aJV ds ws).mpr gw]
 refine bO ?_
 obtain⟨a,us,rfl,ho,hi⟩:=hw
 have lu:=hi.length
 refine⟨_,rfl,a,rfl,⟨_,SqL.of ho⟩,?_⟩
 refine bE (F:=K) (xs:=us) (by omega) (fun i ys H'=>H'=H∧ys=((ws.take i).map (aEN ds)).map V.int) ⟨rfl,rfl⟩ ?_ ?_ ?_
 ·rintro i ys H' hi' ⟨rfl,rfl⟩
  exact⟨SqL.of ho,by rw[AA,AA,AH];omega⟩
 ·rintro i x ys H' K1 K2 hx' ⟨rfl,rfl⟩ k1 k2
  have hil:i<us.length:=(AB.mp hx').1
  obtain⟨d,ed⟩:∃ d,ws[i]?=some d:=⟨_,AC (by omega)⟩
  obtain⟨v,ev,iv⟩:=hi.get ed
  rw[hx'] at ev
  cases ev
  obtain⟨z,h,rfl,mz,_⟩:=oU (gw.all d (AG ed))
  obtain⟨d',md,rfl⟩:=AN.mp mz
  obtain⟨t,rfl,o⟩:=aKH iv
  have ec:=wZ gd.nd md
  have er:=aHT gd.nd md
  refine⟨_,rfl,p,dx,_,rfl,hx,no _ (by decide +kernel) (by decide +kernel),_,rfl,t,_,0,_,rfl,rfl,SqT.of o,aO (j:=0) rfl,_,_,rfl,p,fs,ds,d',rfl,rfl,L,md,fun v1 iv1=>?_⟩
  obtain⟨n,a',b',c,r,sl,rfl,_,_,_,_,_,hr',_⟩:=bQ (gd.all d' md)
  obtain⟨t',sv,rfl,o',_⟩:=jB iv1
  obtain⟨r0,r1⟩:=aTP hr'
  refine⟨_,rfl,t,_,1,.int h,rfl,rfl,SqT.of o,aO (j:=1) rfl,_,_,rfl,t',n,a',b',c,r,h,sv,rfl,rfl,o',r0,r1,k1 _ _ ⟨rfl,?_⟩⟩
  rw[AT,ed,AF,AF]
  have e:aEN ds (.tup [.str n,.int h])=r*(h - c):=by
   show vO ds n*(h - gI ds n)=_
   rw[show gI ds n=c from ec,show vO ds n=r from er]
  show _++[V.int _]=_++[V.int (aEN ds (.tup [.str n,.int h]))]
  rw[e]
 ·rintro ys H' ⟨rfl,rfl⟩
  intro p1 hp1
  rw[AE (by omega)] at *
  exact⟨p1,_,rfl,SqL.of aC,cW.of (gJ.lst hp1) q⟩
open Mt22 MtF
theorem aSM{zs:List Str}{n:Int}(h1:1≤zs.length)(h2:(zs.length:Int)≤n):zE n (.lst (zs.map Dv.str))=true:=by
 unfold zE
 simp only[AA]
 rw[decide_eq_true (by omega),decide_eq_true (by omega)]
 rfl
def aKS(C:Addr):Sp:=sp2 fun x y H Q=>∃ (p l:Addr) (fs ds:List Dv) (zs:List Str),x=.ref p∧LandAt C H p fs ds∧y=.ref l∧H l=some (.lst (zs.map V.str))∧1≤zs.length∧zs.Nodup∧(∀ z∈zs,z∈fs.map aP)∧∀ H',aH H H'→Q (.bl true) H'
theorem mR(T:Txt K mg C):Fc P w K mg base 2 "are_some_fields" ["land","thing"] (aKS C):=by
 have G_land_p_field_names:Mc P w K mg base 1 C "field_names" ["self"] (aAI C fun fs _=>fs.map aP):=gM T
 have G_p_is_list_of:Fc P w K mg base 1 "is_list_of" ["thing","most"] mB:=fK T
 have G_p_is_one_of:Fc P w K mg base 1 "is_one_of" ["thing","names"] (pU K):=gE T
 refine T.d_p_are_some_fields.fc dP gW (fun f cdv A outer s H vs Q E hr h=>?_)
 obtain⟨x,y,rfl,p,l,fs,ds,zs,rfl,L,rfl,hl,l1,nd,sub,q⟩:=h
 have big:=bU
 have gf:=(cK L).1
 have f2:=gf.l2
 have lz:zs.length≤fs.length:=by
  have:=wH nd sub
  rw[AA] at this
  exact this
 obtain⟨dx,d1,d2,hx,_⟩:=L.ex
 refine⟨_,(@aE _ _ _ _ _ (@aV _ _ (2) _ _ _ _ dP.nd rfl (Or.inr rfl) (@yV _ _ _ _ _ _ _ _ _ _ _ T.cl_Land G_land_p_field_names (hr.mono (by decide)) (pv 0) (by rfl)) (by rfl) (by trivial)) (@aE _ _ _ _ _ (@dG _ _ _ _ _ _ _ _ (@PW.pt _ _ _ (@kA _ _ _ _ _ _ _ (@dA _ _ _ _ (@cR _ _ _ (@bC _ _ _ _ _ _ _ _ _ _ G_p_is_list_of (hr.mono (by decide)) (@aA _ _ _ _ _ (pv 1) (@aA _ _ _ _ _ (@aS _ _ _ _ _ _ _ _ _ (@bB _ (K) rfl) rfl T.n_len bJ (@aA _ _ _ _ _ (pv 2) aB (by rfl)) (by decide) (by decide) (by rfl) (by rfl)) aB (by rfl)) (by rfl)) (by rfl) (by decide) (by rfl) (by rfl)) (by intro _;rfl))) (@iW _ _ _ _ (@dA _ _ _ _ (@cR _ _ _ (@aS _ _ _ _ _ _ _ _ _ (@kM _ rfl) rfl T.n_all iQ (@aA _ _ _ _ _ (@bZ _ _ _ _ _ _ _ _ _ _ _ ["name","names"] 1 [2] rfl (@bG _ _ _ _ (pv 1)) (fun R=>@aN _ _ (0) _ (show Ar (["name","names"]:List Str) by decide +kernel) rfl (Or.inl rfl) (by trivial)) (@aW _ _ (by decide)) (fun R=>bT) (fun R=>(@bC _ _ _ _ _ _ _ _ _ _ G_p_is_one_of (hr.mono (by decide)) (@aA _ _ _ _ _ (pv 0) (@aA _ _ _ _ _ (pv 1) aB (by rfl)) (by rfl)) (by rfl) (by decide) (by rfl) (by rfl))) (by rfl) (by rfl) (by rfl) (by rfl) (by rfl) (by rfl) (by rfl) (by intro _;rfl)) aB (by rfl)) (by decide) (by decide) (by rfl) (by rfl)) (by intro _;rfl)))))) (@aG _ _ _ (@aQ _ _ _ _ fC)) bP) (@aG _ _ _ (@aQ _ _ _ _ (@dC _ _ _ _ _ _ _ _ iX (@aS _ _ _ _ _ _ _ _ _ call_len_set rfl T.n_len bJ (@aA _ _ _ _ _ (@dM _ _ _ _ _ _ _ _ _ (@jQ _ rfl) rfl T.n_set sM (@aA _ _ _ _ _ (pv 1) aB (by rfl)) (by decide) (by decide) (by rfl) (by rfl)) aB (by rfl)) (by decide) (by decide) (by rfl) (by rfl)) (@aS _ _ _ _ _ _ _ _ _ (@bB _ (K) rfl) rfl T.n_len bJ (@aA _ _ _ _ _ (pv 1) aB (by rfl)) (by decide) (by decide) (by rfl) (by rfl)) (@bI _ _ (by decide) (by decide))))))),?_⟩
 refine⟨_,rfl,p,dx,_,rfl,hx,gF _ _ (by decide +kernel) (by decide +kernel),_,rfl,p,fs,ds,rfl,L,fun ln H1 S1 fln hln=>?_⟩
 have hl1:=S1 _ _ hl
 refine⟨_,rfl,_,rfl,ln,_,rfl,.inl (SqL.of hln),_,_,rfl,.lst (zs.map Dv.str),_,aOE hl1,rfl,_,rfl,?_⟩
 rw[aSM l1 (by rw[AA,AA];omega)]
 refine bO ?_
 refine⟨_,rfl,l,rfl,⟨_,SqL.of hl1⟩,?_⟩
 refine bE (F:=K) (xs:=zs.map V.str) (by rw[AA];omega) (fun i ys H'=>H1=H'∧ys=(zs.take i).map fun z=>V.bl true) ⟨rfl,rfl⟩ ?_ ?_ ?_
 ·rintro i ys H' hi' ⟨rfl,rfl⟩
  exact⟨SqL.of hl1,by rw[AA,AH];omega⟩
 ·rintro i xv ys H' K1 K2 hx ⟨rfl,rfl⟩ k1 k2
  obtain⟨z,ez⟩:∃ z,zs[i]?=some z:=by
   have:=(AB.mp hx).1
   rw[AA] at this
   exact⟨_,AC this⟩
  rw[AI,ez] at hx
  cases hx
  refine⟨_,rfl,_,rfl,_,_,rfl,.str z,ln,_,rfl,rfl,SqL.of hln,?_⟩
  rw[show fS (fs.map aP) (.str z)=true from decide_eq_true (sub z (AG ez))]
  refine k1 _ _ ⟨rfl,?_⟩
  rw[AT,ez,AF]
  rfl
 rintro ys H' ⟨rfl,rfl⟩
 rw[AA,AE (AS _)]
 intro p4 hp4
 have S4:=aH.upd (o:=.lst (zs.map fun z=>V.bl true)) hp4
 refine⟨p4,zs.map fun _=>true,rfl,SqL.of ?_,_,rfl,?_⟩
 ·rw[aC,Aq]
  rfl
 rw[show (zs.map fun _=>true).all id=true from BS.mpr fun b m=>by obtain⟨z,_,rfl⟩:=AN.mp m;rfl]
 refine bO ?_
 have hl4:=S4 _ _ hl1
 refine⟨_,rfl,l,zs.map Sum.inr,rfl,SqL.of (by rw[hl4,aBN]),by rw[AA];omega,fun p5 hp5=>?_⟩
 have hle:=aBY (zs.map (Sum.inr:Str→Key))
 rw[AA] at hle
 refine⟨p5,_,_,rfl,aC,by omega,_,rfl,l,zs.map V.str,rfl,.inl (SqL.of (by rw[aI (aJ hl4 hp5)];exact hl4)),rfl,?_⟩
 have e:decide (V.int ((uC (zs.map (Sum.inr:Str→Key))).length:Int)=V.int ((zs.map V.str).length:Int))=true:=by
  rw[jJ,AA,(sI _).mpr ((fU zs).mpr nd),AA]
  first | exact decide_eq_true rfl | exact beq_self_eq_true _
 rw[e]
 exact q _ (S1.trans (S4.trans (aH.upd hp5)))
def pT(C:Addr):Sp:=sp3 fun x y u H Q=>∃ (p l:Addr) (fs ds:List Dv) (zs:List Str) (L:Int),x=.ref p∧LandAt C H p fs ds∧y=.ref l∧H l=some (.lst (zs.map V.str))∧1≤zs.length∧zs.Nodup∧(∀ z∈zs,z∈fs.map aP)∧u=.int L∧hgt L=true∧∀ H',aH H H'→Q .non H'
theorem iF(T:Txt K mg C):Fc P w K mg base 3 "check_wish" ["land","fields","height"] (pT C):=by
 have G_p_are_some_fields:Fc P w K mg base 2 "are_some_fields" ["land","thing"] (aKS C):=mR T
 have G_p_is_height:Fc P w K mg base 2 "is_height" ["thing"] hU:=dI T
 refine T.d_p_check_wish.fc lJ rS (fun f cdv A outer s H vs Q E hr h=>?_)
 obtain⟨x,y,u,rfl,p,l,fs,ds,zs,lv,rfl,L,rfl,hl,l1,nd,sub,rfl,hL,q⟩:=h
 refine⟨_,(@aG _ _ _ (@dG _ _ _ _ _ _ _ _ (@PW.pt _ _ _ (@kA _ _ _ _ _ _ _ (@dA _ _ _ _ (@cR _ _ _ (@bC _ _ _ _ _ _ _ _ _ _ G_p_are_some_fields (hr.mono (by decide)) (@aA _ _ _ _ _ (pv 0) (@aA _ _ _ _ _ (pv 1) aB (by rfl)) (by rfl)) (by rfl) (by decide) (by rfl) (by rfl)) (by intro _;rfl))) (@iW _ _ _ _ (@dA _ _ _ _ (@cR _ _ _ (@bC _ _ _ _ _ _ _ _ _ _ G_p_is_height (hr.mono (by decide)) (@aA _ _ _ _ _ (pv 2) aB (by rfl)) (by rfl) (by decide) (by rfl) (by rfl)) (by intro _;rfl)))))) (@aG _ _ _ kB) bP)),?_⟩
 refine⟨_,rfl,_,rfl,_,_,rfl,p,l,fs,ds,zs,rfl,L,rfl,hl,l1,nd,sub,fun H1 S1=>⟨_,rfl,bO ?_⟩⟩
 refine⟨_,rfl,_,rfl,.int lv,rfl,_,rfl,?_⟩
 rw[show eA (.int lv)=true from hL]
 exact bO (q H1 S1)
open Mt53 Mt22 MtF Mt31 Mt61
noncomputable def iC(fs:List Dv)(L:Int)(z:Str):Bool:=decide (z="sea") || decide (mZ fs z<L)
noncomputable def gOf(L:Int):Dv→Gap
 | .tup [.str n,.str a,.str b,.int c,.int r,_]=>⟨n,a,b,r*(L - c)⟩
 | _=>⟨"","","",0⟩
noncomputable def isG(fs:List Dv)(L:Int):Dv→Bool
 | .tup [.str _,.str a,.str b,.int c,.int _,_]=>decide (c<L) && (iC fs L a && iC fs L b)
 | _=>false
noncomputable def aU(fs ds:List Dv)(L:Int):List Gap:=(ds.filter (isG fs L)).map (gOf L)
noncomputable def dU(G:List Gap):List (Key×V):=G.map fun g=>(Sum.inr g.nm,V.int g.cap)
theorem aMW{zs:List Str}{d:Dv}(h:cV zs d=true)(L:Int):(gOf L d).nm=aP d:=by
 obtain⟨n,a,b,c,r,s,rfl,_⟩:=bQ h
 rfl
theorem qQ{fs ds:List Dv}(gf:GoodF fs)(gd:GoodD ("sea" :: fs.map aP) ds)(L:Int):Gaps ("sea" :: fs.map aP) (aU fs ds L):=by
 have mem:∀ g∈aU fs ds L,∃ d∈ds,isG fs L d=true∧g=gOf L d:=fun g m=>by
  obtain⟨d,md,rfl⟩:=AN.mp m
  rw[Am] at md
  exact⟨d,md.1,md.2,rfl⟩
 refine⟨?_,fun g m=>?_,fun g m=>?_,?_,AQ⟩
 ·have e:(aU fs ds L).map (·.nm)=(ds.filter (isG fs L)).map aP:=by
   unfold aU
   rw[Aq]
   refine CK fun d md=>?_
   exact aMW (gd.all d (Am.mp md).1) L
  rw[e]
  exact Ar.sublist (List.Sublist.map _ List.filter_sublist) gd.nd
 ·obtain⟨d,md,_,rfl⟩:=mem g m
  obtain⟨n,a,b,c,r,s,rfl,_,ha,hb,hab,_⟩:=bQ (gd.all d md)
  exact⟨ha,hb,hab⟩
 ·obtain⟨d,md,hg,rfl⟩:=mem g m
  obtain⟨n,a,b,c,r,s,rfl,_,ha,hb,hab,hc,hr,_⟩:=bQ (gd.all d md)
  have h1:c<L:=of_decide_eq_true (Ai.mp (show (decide (c<L) && (iC fs L a && iC fs L b))=true from hg)).1
  have h2:0≤r:=by
   have:=Ai.mp (show (decide (0≤r) && decide (r≤1000000))=true from hr)
   exact of_decide_eq_true this.1
  show 0≤r*(L - c)
  exact Int.mul_nonneg h2 (by omega)
 ·rw[Ap]
  refine⟨fun m=>?_,gf.nd⟩
  obtain⟨d,md,e⟩:=AN.mp m
  obtain⟨z,g,u,rfl,hz,_⟩:=bH (gf.all d md)
  exact pY hz e
def aQP(C:Addr):Sp:=sp3 fun x y u H Q=>∃ (p:Addr) (fs ds:List Dv) (z:Str) (L:Int),x=.ref p∧LandAt C H p fs ds∧y=.str z∧z∈(("sea":Str) :: fs.map aP)∧u=.int L∧Q (.bl (iC fs L z)) H
theorem aDS(T:Txt K mg C):Fc P w K mg base 2 "is_low" ["land","side","height"] (aQP C):=by
 have G_land_p_ground:Mc P w K mg base 1 C "ground" ["self","field"] (aCU C):=rN T
 refine T.d_p_is_low.fc aDC rS (fun f cdv A outer s H vs Q E hr h=>?_)
 obtain⟨x,y,u,rfl,p,fs,ds,z,lv,rfl,L,rfl,mz,rfl,q⟩:=h
 obtain⟨dx,d1,d2,hx,_⟩:=L.ex
 have gf:=(cK L).1
 refine⟨_,(@aG _ _ _ (@aQ _ _ _ _ (@aQV _ _ _ _ _ _ _ (@dC _ _ _ _ _ _ _ _ iX (pv 1) (@rK _ _ _ _ T.g_SEA (by rfl) (by decide)) (@bI _ _ (by decide) (by decide))) (@dY _ _ _ _ _ (@dC _ _ _ _ _ _ _ _ tE (@aPB _ _ _ _ _ _ _ _ _ _ _ _ _ _ T.cl_Land G_land_p_ground (hr.mono (by decide)) (pv 0) (@aA _ _ _ _ _ (pv 1) aB (by rfl)) (by rfl) (by rfl) (by rfl)) (pv 2) (@bI _ _ (by decide) (by decide))))))),?_⟩
 refine⟨_,rfl,rfl,?_⟩
 by_cases hz:z="sea"
 ·subst hz
  rw[decide_eq_true rfl]
  exact⟨_,rfl,cP q⟩
 ·rw[decide_eq_false (fun c=>hz (V.str.inj c))]
  have mf:z∈fs.map aP:=by
   rcases AZ.mp mz with h | h
   ·exact absurd h hz
   ·exact h
  obtain⟨d,md,e⟩:=AN.mp mf
  obtain⟨z',g,u,rfl,hz',_⟩:=bH (gf.all d md)
  have e':z'=z:=e
  subst e'
  have eg:mZ fs z'=g:=nW gf.nd md
  refine⟨_,rfl,bO ?_⟩
  refine⟨_,rfl,p,dx,_,rfl,hx,gF _ _ (by decide +kernel) (by decide +kernel),_,rfl,_,_,rfl,p,fs,ds,z',g,u,rfl,rfl,L,md,_,rfl,_,_,rfl,rfl,?_⟩
  have:iC fs lv z'=decide (g<lv):=by
   unfold iC
   rw[decide_eq_false hz,eg]
   rfl
  show Q (V.bl (decide (g<lv))) H
  rw[← this]
  exact q
def aQQ(C:Addr):Sp:=sp3 fun x y u H Q=>∃ (p:Addr) (fs ds:List Dv) (d:Dv) (L:Int),x=.ref p∧LandAt C H p fs ds∧Is H d y∧d∈ds∧u=.int L∧Q (.bl (isG fs L d)) H
theorem aDT(T:Txt K mg C):Fc P w K mg base 3 "is_gap" ["land","dyke","height"] (aQQ C):=by
 have G_p_is_low:Fc P w K mg base 2 "is_low" ["land","side","height"] (aQP C):=aDS T
 refine T.d_p_is_gap.fc aDD rS (fun f cdv A outer s H vs Q E hr h=>?_)
 obtain⟨x,y,u,rfl,p,fs,ds,d,lv,rfl,L,hd,md,rfl,q⟩:=h
 have gd:=(cK L).2
 obtain⟨n,a,b,c,r,sl,rfl,_,ha,hb,hab,hc,hr',_⟩:=bQ (gd.all d md)
 obtain⟨t,sv,rfl,o,isv⟩:=jB hd
 refine⟨_,(@aG _ _ _ (@aQ _ _ _ _ (@dD _ _ _ _ _ _ _ (@dC _ _ _ _ _ _ _ _ tE (@bA _ _ _ _ _ _ _ (@aT _ (K) rfl) (pv 1) aD (fun _ _=>rfl)) (pv 2) (@bI _ _ (by decide) (by decide))) (@dD _ _ _ _ _ _ _ (@bC _ _ _ _ _ _ _ _ _ _ G_p_is_low (hr.mono (by decide)) (@aA _ _ _ _ _ (pv 0) (@aA _ _ _ _ _ (@bA _ _ _ _ _ _ _ (@aT _ (K) rfl) (pv 1) aD (fun _ _=>rfl)) (@aA _ _ _ _ _ (pv 2) aB (by rfl)) (by rfl)) (by rfl)) (by rfl) (by decide) (by rfl) (by rfl)) (@dY _ _ _ _ _ (@bC _ _ _ _ _ _ _ _ _ _ G_p_is_low (hr.mono (by decide)) (@aA _ _ _ _ _ (pv 0) (@aA _ _ _ _ _ (@bA _ _ _ _ _ _ _ (@aT _ (K) rfl) (pv 1) aD (fun _ _=>rfl)) (@aA _ _ _ _ _ (pv 2) aB (by rfl)) (by rfl)) (by rfl)) (by rfl) (by decide) (by rfl) (by rfl))))))),?_⟩
 refine⟨_,rfl,t,_,3,.int c,rfl,rfl,SqT.of o,aO (j:=3) rfl,_,rfl,_,_,rfl,rfl,?_⟩
 have q:Q (.bl (decide (c<lv) && (iC fs lv a && iC fs lv b))) H:=q
 refine⟨_,rfl,?_⟩
 cases h1:decide (c<lv) with
 | false =>
  rw[h1] at q
  exact bO q
 | true =>
  rw[h1] at q
  refine cP ?_
  refine⟨_,rfl,_,rfl,t,_,1,.str a,rfl,rfl,SqT.of o,aO (j:=1) rfl,_,rfl,_,_,_,rfl,p,fs,ds,a,lv,rfl,L,rfl,ha,rfl,?_⟩
  refine⟨_,rfl,?_⟩
  cases h2:iC fs lv a with
  | false =>
   rw[h2] at q
   exact bO q
  | true =>
   rw[h2] at q
   refine cP ?_
   exact⟨_,rfl,_,rfl,t,_,2,.str b,rfl,rfl,SqT.of o,aO (j:=2) rfl,_,rfl,_,_,_,rfl,p,fs,ds,b,lv,rfl,L,rfl,hb,rfl,q⟩
theorem kI(G:List Gap):(dU G).length=G.length:=AA _
theorem aGG(G:List Gap):(dU G).map (·.1)=(G.map (·.nm)).map Sum.inr:=by
 unfold dU
 rw[Aq,Aq]
 rfl
theorem kH(fs ds:List Dv)(L:Int):(aU fs ds L).length≤ds.length:=by
 unfold aU
 rw[AA]
 exact Av _ _
def aKW(C:Addr):Sp:=sp2 fun x y H Q=>∃ (p:Addr) (fs ds:List Dv) (L:Int),x=.ref p∧LandAt C H p fs ds∧y=.int L∧∀ (cd:Addr) (H':Hp),aH H H'→H cd=none→H' cd=some (.dK (dU (aU fs ds L)))→Q (.ref cd) H'
theorem vW(T:Txt K mg C):Fc P w K mg base 4 "gap_coins" ["land","height"] (aKW C):=by
 have G_p_is_gap:Fc P w K mg base 3 "is_gap" ["land","dyke","height"] (aQQ C):=aDT T
 have G_p_coins_to:Fc P w K mg base 1 "coins_to" ["dyke","height"] rC:=oS T
 have G_land_p_dykes:Mc P w K mg base 1 C "dykes" ["self"] (aAJ C fun _ ds=>ds):=lN T
 refine T.d_p_gap_coins.fc vB gW (fun f cdv A outer s H vs Q E hr h=>?_)
 obtain⟨x,y,rfl,p,fs,ds,lv,rfl,L,rfl,q⟩:=h
 have big:=bU
 have gf:=(cK L).1
 have gd:=(cK L).2
 have d2:=gd.l2
 have GG:=qQ gf gd lv
 have gl:=kH fs ds lv
 obtain⟨dx,d1,d2',hx,_⟩:=L.ex
 refine⟨_,(@aG _ _ _ (@aQ _ _ _ _ (@dM _ _ _ _ _ _ _ _ _ (@eP _ rfl) rfl T.n_dict jC (@aA _ _ _ _ _ (@bZ _ _ _ _ _ _ _ _ _ _ _ ["dyke","land","height"] 1 [0,1] rfl (@bG _ _ _ _ (@yV _ _ _ _ _ _ _ _ _ _ _ T.cl_Land G_land_p_dykes (hr.mono (by decide)) (pv 0) (by rfl))) (fun R=>@aN _ _ (0) _ (show Ar (["dyke","land","height"]:List Str) by decide +kernel) rfl (Or.inl rfl) (by trivial)) (@aW _ _ (by decide)) (fun R=>@fI _ _ _ (@cR _ _ _ (@bC _ _ _ _ _ _ _ _ _ _ G_p_is_gap (hr.mono (by decide)) (@aA _ _ _ _ _ (pv 1) (@aA _ _ _ _ _ (pv 0) (@aA _ _ _ _ _ (pv 2) aB (by rfl)) (by rfl)) (by rfl)) (by rfl) (by decide) (by rfl) (by rfl)) (by intro _;rfl))) (fun R=>(@dW _ _ _ _ _ (@aA _ _ _ _ _ (@bA _ _ _ _ _ _ _ (@aT _ (K) rfl) (pv 0) aD (fun _ _=>rfl)) (@aA _ _ _ _ _ (@bC _ _ _ _ _ _ _ _ _ _ G_p_coins_to (hr.mono (by decide)) (@aA _ _ _ _ _ (pv 0) (@aA _ _ _ _ _ (pv 2) aB (by rfl)) (by rfl)) (by rfl) (by decide) (by rfl) (by rfl)) aB (by rfl)) (by rfl)))) (by rfl) (by rfl) (by rfl) (by rfl) (by rfl) (by rfl) (by rfl) (by intro _;rfl)) aB (by rfl)) (by decide) (by decide) (by rfl) (by rfl)))),?_⟩
 refine⟨_,rfl,p,dx,_,rfl,hx,gF _ _ (by decide +kernel) (by decide +kernel),_,rfl,p,fs,ds,rfl,L,fun lb vb H2 S2 flb hlb hib=>?_⟩
 have lvb:vb.length=ds.length:=hib.length
 refine⟨lb,rfl,⟨_,SqL.of hlb⟩,?_⟩
 refine bE (F:=K) (xs:=vb) (by omega) (fun i ys H'=>aH H2 H'∧cA H' ys (dU (aU fs (ds.take i) lv))) ⟨aH.refl _,cA.nil _⟩ ?_ ?_ ?_
 ·rintro i ys H' hi' ⟨S',pa⟩
  have:=pa.len
  have:=kH fs (ds.take i) lv
  rw[kI] at *
  rw[AH] at this
  exact⟨SqL.of (S' _ _ hlb),by omega⟩
 ·rintro i xv ys H' K1 K2 hx' ⟨S',pa⟩ k1 k2
  have hil:i<vb.length:=(AB.mp hx').1
  obtain⟨d,ed⟩:∃ d,ds[i]?=some d:=⟨_,AC (by omega)⟩
  obtain⟨v,ev,iv⟩:=hib.get ed
  rw[hx'] at ev
  cases ev
  have md:=AG ed
  have iv':=Is.same S' _ _ iv
  refine⟨_,rfl,_,rfl,_,rfl,_,_,_,rfl,p,fs,ds,d,lv,rfl,L.same (S2.trans S'),iv',md,rfl,_,rfl,?_⟩
  have et:aU fs (ds.take (i+1)) lv=aU fs (ds.take i) lv++(if isG fs lv d=true then [gOf lv d] else []):=by
   unfold aU
   rw[AT,ed,Ci,AF]
   cases h:isG fs lv d <;> simp[h]
  cases hg:isG fs lv d with
  | false =>
   rw[hg] at et
   refine bO (k2 _ ⟨S',?_⟩)
   rw[et]
   simpa using pa
  | true =>
   rw[hg] at et
   refine cP ?_
   obtain⟨n,a,b,c,r,sl,rfl,_,ha,hb,hab,hc,hr',_⟩:=bQ (gd.all d md)
   obtain⟨t,sv,rfl,o,isv⟩:=jB iv'
   have h2:=Ai.mp (show (decide (0≤r) && decide (r≤1000000))=true from hr')
   refine⟨_,rfl,t,_,0,.str n,rfl,rfl,SqT.of o,aO (j:=0) rfl,_,rfl,_,rfl,_,_,rfl,t,n,a,b,c,r,lv,sv,rfl,rfl,o,of_decide_eq_true h2.1,of_decide_eq_true h2.2,aM rfl,fun p3 hp3=>k1 _ _ ⟨S'.trans (aH.upd hp3),?_⟩⟩
   rw[et]
   have e2:dU (aU fs (ds.take i) lv++[gOf lv (.tup [.str n,.str a,.str b,.int c,.int r,sl])])=dU (aU fs (ds.take i) lv)++[(Sum.inr n,V.int (r*(lv - c)))]:=by
    unfold dU
    rw[AF]
    rfl
   rw[if_pos rfl,e2]
   exact cA.snoc (k:=Sum.inr n) pa hp3
 rintro ys H3 ⟨S3,pa⟩
 rw[AE (by omega)] at pa
 intro p4 hp4
 have S4:=aH.upd (o:=.lst ys) hp4
 refine⟨p4,ys,dU (aU fs ds lv),rfl,SqL.of aC,pa.same S4,by rw[kI];omega,by rw[aGG];exact (fU _).mpr GG.nd,fun cd hcd=>?_⟩
 have T4:=S2.trans (S3.trans S4)
 exact q cd _ (T4.trans (aH.upd hcd)) (T4.free hcd) aC
open Mt22 MtF
theorem aGM{zs:List Str}{d:Dv}(h:cV zs d=true):aBW d=true:=by
 obtain⟨n,a,b,c,r,s,rfl,_,_,_,_,_,_,hs⟩:=bQ h
 cases s with
 | non=>rfl
 | int i=>rfl
 | _=>cases hs
theorem fP(s:Mt22.St):aBW (bV s)=true:=rfl
open Mt22 MtF
theorem aGW{H:Hp}{d d1:Addr}{fs:List Dv}{kvs:List (Key×V)}{o:Obj}(h:qW H d1 fs)(hd:H d=some (.dK kvs))(nr:∀ v∈kvs.map (·.2),∀ a,v≠.ref a)(l1:1≤fs.length)(ht:∀ f∈fs,∃ us,f=.tup us)(hh:zN fs=true):qW (upd H d (.frz o (.dK kvs))) d1 fs:=by
 obtain⟨kv1,e,k,i⟩:=h
 have nd:d1≠d:=fun c=>by
  rw[c,hd] at e
  cases e
  cases fs with
  | nil=>exact absurd l1 (by decide)
  | cons f fs =>
   obtain⟨us,rfl⟩:=ht f AQ
   obtain⟨v,r,ev,⟨a,w,ea,_⟩,_⟩:=i
   exact nr v (by rw[ev];exact AQ) a ea
 refine⟨kv1,by rw[aI nd];exact e,k,IsL.keep (fun b xs hb=>?_) fs _ hh i⟩
 rw[aI (fun c=>by rw[c,hd] at hb;cases hb)]
 exact hb
theorem aMK{H:Hp}{x d:Addr}{fs ds:List Dv}{kvs:List (Key×V)}{o:Obj}(L:LandAt C H x fs ds)(hd:H d=some (.dK kvs))(nr:∀ v∈kvs.map (·.2),∀ a,v≠.ref a):LandAt C (upd H d (.frz o (.dK kvs))) x fs ds:=by
 obtain⟨gf,gd⟩:=cK L
 obtain⟨⟨dx,d1,d2,e,t1,t2⟩,a,b⟩:=L
 refine⟨⟨dx,d1,d2,by rw[aI (fun c=>by rw[c,hd] at e;cases e)];exact e,aGW t1 hd nr gf.l1 (fun f m=>?_) (fE fun f m=>?_),aGW t2 hd nr gd.l1 (fun f m=>?_) (fE fun d m=>aGM (gd.all d m))⟩,a,b⟩
 ·obtain⟨z,g,e,rfl,_⟩:=bH (gf.all f m)
  exact⟨_,rfl⟩
 ·obtain⟨z,g,e,rfl,_⟩:=bH (gf.all f m)
  rfl
 ·obtain⟨n,a,b,c,r,s,rfl,_⟩:=bQ (gd.all f m)
  exact⟨_,rfl⟩
open Mt53 Mt22 MtF Mt31 Mt61
theorem aEE{fs ds:List Dv}{L:Int}{zs:List Str}(gd:GoodD zs ds){g:Gap}(m:g∈aU fs ds L):∃ d∈ds,isG fs L d=true∧g=gOf L d∧aP d=g.nm:=by
 obtain⟨d,md,rfl⟩:=AN.mp m
 rw[Am] at md
 exact⟨d,md.1,md.2,rfl,(aMW (gd.all d md.1) L).symm⟩
theorem nM(G:List Gap):(Mt61.stepsOf G).length=2*G.length:=by
 unfold Mt61.stepsOf
 induction G with
 | nil=>rfl
 | cons g G ih =>
  rw[Ec,AW,ih]
  show 2+2*G.length=2*(G.length+1)
  omega
theorem yB{H:Hp}{t:Addr}{s:Mt22.St}(h:H t=some (.tup [.str s.nm,.str s.near,.str s.far,.int s.h])):Is H (bV s) (.ref t):=⟨t,_,rfl,h,_,_,rfl,rfl,_,_,rfl,rfl,_,_,rfl,rfl,_,_,rfl,rfl,rfl⟩
def aCT(C:Addr):Sp:=sp2 fun x y H Q=>∃ (p d:Addr) (fs ds:List Dv) (L:Int),x=.ref p∧LandAt C H p fs ds∧y=.ref d∧H d=some (.dK (dU (aU fs ds L)))∧∀ (o:Obj) (l:Addr) (us:List V) (H':Hp),aH (upd H d (.frz o (.dK (dU (aU fs ds L))))) H'→H l=none→H' l=some (.lst us)→IsL H' ((Mt61.stepsOf (aU fs ds L)).map bV) us→Q (.ref l) H'
theorem tW(T:Txt K mg C):Fc P w K mg base 2 "steps_over" ["land","names"] (aCT C):=by
 have G_land_p_dyke:Mc P w K mg base 1 C "dyke" ["self","name"] (uK C):=iY T
 refine T.d_p_steps_over.fc fJ gW (fun f cdv A outer s H vs Q E hr h=>?_)
 obtain⟨x,y,rfl,p,d,fs,ds,lv,rfl,L,rfl,hd,q⟩:=h
 have big:=bU
 have gf:=(cK L).1
 have gd:=(cK L).2
 have d2:=gd.l2
 have GG:=qQ gf gd lv
 have gl:=kH fs ds lv
 refine⟨_,(@aE _ _ _ _ _ (@aV _ _ (2) _ _ _ _ fJ.nd rfl (Or.inl rfl) (@bS _ _ _ _ aB) (by rfl) (by trivial)) (@aE _ _ _ _ _ (@eS _ _ _ _ _ _ _ _ Ax rfl (@aBF _ _ _ _ (pv 1)) (@aN _ _ (3) _ fJ.nd rfl (Or.inl rfl) (by trivial)) (@aE _ _ _ _ _ (@aV _ _ (4) _ _ _ _ fJ.nd rfl (Or.inl rfl) (@aPB _ _ _ _ _ _ _ _ _ _ _ _ _ _ T.cl_Land G_land_p_dyke (hr.mono (by decide)) (pv 0) (@aA _ _ _ _ _ (pv 3) aB (by rfl)) (by rfl) (by rfl) (by rfl)) (by rfl) (by trivial)) (@aE _ _ _ _ _ (@dB _ _ _ _ (@iJ _ _ _ _ _ _ _ _ _ _ _ _ An Au At cX (pv 2) (@aA _ _ _ _ _ (@dW _ _ _ _ _ (@aA _ _ _ _ _ (pv 3) (@aA _ _ _ _ _ (@bA _ _ _ _ _ _ _ (@aT _ (K) rfl) (pv 4) aD (fun _ _=>rfl)) (@aA _ _ _ _ _ (@bA _ _ _ _ _ _ _ (@aT _ (K) rfl) (pv 4) aD (fun _ _=>rfl)) (@aA _ _ _ _ _ aD aB (by rfl)) (by rfl)) (by rfl)) (by rfl))) aB (by rfl)) (by rfl) (by rfl) (by rfl) (by rfl) (by rfl)) (by rfl)) (@aG _ _ _ (@dB _ _ _ _ (@iJ _ _ _ _ _ _ _ _ _ _ _ _ An Au At cX (pv 2) (@aA _ _ _ _ _ (@dW _ _ _ _ _ (@aA _ _ _ _ _ (pv 3) (@aA _ _ _ _ _ (@bA _ _ _ _ _ _ _ (@aT _ (K) rfl) (pv 4) aD (fun _ _=>rfl)) (@aA _ _ _ _ _ (@bA _ _ _ _ _ _ _ (@aT _ (K) rfl) (pv 4) aD (fun _ _=>rfl)) (@aA _ _ _ _ _ (@aQU _ _ _ _ _ _ aKK aD) aB (by rfl)) (by rfl)) (by rfl)) (by rfl))) aB (by rfl)) (by rfl) (by rfl) (by rfl) (by rfl) (by rfl)) (by rfl))))) (by intro _;rfl)) (@aG _ _ _ (@aQ _ _ _ _ (pv 2))))),?_⟩
 refine⟨aM rfl,fun l hl=>?_⟩
 have S1:=aH.upd (o:=.lst []) hl
 have nld:d≠l:=aJ hd hl
 refine⟨_,rfl,d,_,rfl,by rw[aI nld];exact hd,fun o=>?_⟩
 have nr:∀ v∈(dU (aU fs ds lv)).map (·.2),∀ a,v≠.ref a:=fun v m a e=>by
  obtain⟨kv,mk,rfl⟩:=AN.mp m
  obtain⟨g,_,rfl⟩:=AN.mp mk
  cases e
 have L0:LandAt C (upd H d (.frz o (.dK (dU (aU fs ds lv))))) p fs ds:=aMK L hd nr
 have hl0:upd H d (.frz o (.dK (dU (aU fs ds lv)))) l=none:=by rw[aI (Ne.symm nld)];exact hl
 have SS:aH (upd H d (.frz o (.dK (dU (aU fs ds lv))))) (upd (upd H l (.lst [])) d (.frz o (.dK (dU (aU fs ds lv))))):=fun b u e=>by
  by_cases hb:b=d
  ·subst hb
   rw[aC] at e ⊢
   exact e
  ·rw[aI hb] at e ⊢
   exact S1 _ _ e
 have r1:upd (upd H l (.lst [])) d (.frz o (.dK (dU (aU fs ds lv)))) l=some (.lst []):=by rw[aI (Ne.symm nld),aC]
 have qq:=fun us H'=>q o l us H'
 have dF:upd H d (.frz o (.dK (dU (aU fs ds lv)))) d=some (.frz o (.dK (dU (aU fs ds lv)))):=aC
 generalize upd (upd H l (.lst [])) d (.frz o (.dK (dU (aU fs ds lv))))=H2 at SS r1
 generalize upd H d (.frz o (.dK (dU (aU fs ds lv))))=H0 at L0 hl0 SS qq dF
 refine aMX (fun i σ H'=>∃ (v3 v4:Option V) (us:List V),σ=[some (.ref p),some (.ref d),some (.ref l),v3,v4]∧aH H0 H'∧H' l=some (.lst us)∧IsL H' ((Mt61.stepsOf ((aU fs ds lv).take i)).map bV) us) ⟨_,_,[],rfl,SS,r1,rfl⟩ (fun i σ H' _ ⟨_,_,_,_,S',_⟩=>S' _ _ dF) ?_ ?_
 ·rintro i kv σ H' hk ⟨v3,v4,us,rfl,S',hl',ius⟩
  unfold dU at hk
  rw[AI] at hk
  obtain⟨g,eg,ekv⟩:=AY.mp hk
  have hil:=(AB.mp eg).1
  have mg':=AG eg
  obtain⟨dk,mdk,hg,rfl,en⟩:=aEE gd mg'
  have L':=L0.same S'
  obtain⟨dx,d1,d2',hx,_⟩:=L'.ex
  have lus:=ius.length
  rw[AA,nM,AH] at lus
  have et:Mt61.stepsOf ((aU fs ds lv).take (i+1))=Mt61.stepsOf ((aU fs ds lv).take i)++[up (gOf lv dk),dn (gOf lv dk)]:=by
   unfold Mt61.stepsOf
   rw[AT,eg,EH]
   rfl
  obtain⟨n,a,b,c,r,sl,rfl,_⟩:=bQ (gd.all dk mdk)
  have ek:kV kv.1=V.str n:=by rw[← ekv];rfl
  rw[ek]
  refine⟨_,rfl,p,dx,_,rfl,hx,gF _ _ (by decide +kernel) (by decide +kernel),_,rfl,_,_,rfl,p,fs,ds,_,rfl,rfl,L',mdk,fun v iv=>?_⟩
  obtain⟨t,sv,rfl,ot,isv⟩:=jB iv
  refine⟨_,rfl,.inl ⟨rfl,_,SqL.of hl'⟩,_,rfl,_,rfl,t,_,1,.str a,rfl,rfl,SqT.of ot,aO (j:=1) rfl,_,rfl,t,_,2,.str b,rfl,rfl,SqT.of ot,aO (j:=2) rfl,aM rfl,fun ta hta=>?_⟩
  have Sa:=aH.upd (o:=.tup [.str n,.str a,.str b,.int 1]) hta
  have ra:upd H' ta (.tup [.str n,.str a,.str b,.int 1]) ta=_:=aC
  generalize upd H' ta (.tup [.str n,.str a,.str b,.int 1])=Ha at Sa ra
  have hla:=Sa _ _ hl'
  refine⟨l,us,.ref ta,rfl,rfl,hla,by omega,?_⟩
  have KT:=gN.lst (o:=.lst (us++[.ref ta])) hla
  have Sb:aH H0 (upd Ha l (.lst (us++[.ref ta]))):=(S'.trans Sa).over hl0
  have rb:upd Ha l (.lst (us++[.ref ta])) l=some (.lst (us++[.ref ta])):=aC
  have ib:IsL (upd Ha l (.lst (us++[.ref ta]))) ((Mt61.stepsOf ((aU fs ds lv).take i)).map bV++[bV (up ⟨n,a,b,r*(lv - c)⟩)]) (us++[.ref ta]):=by
   refine IsL.keep KT _ _ (fE fun d m=>?_) (IsL.snoc (yB ra) (IsL.same Sa _ _ ius))
   rcases Ab.mp m with m | m
   ·obtain⟨s,_,rfl⟩:=AN.mp m
    exact fP s
   ·rw[AL.mp m]
    exact fP _
  have ob:=KT _ _ (Sa _ _ ot)
  generalize upd Ha l (.lst (us++[.ref ta]))=Hb at Sb rb ib ob
  refine⟨_,rfl,.inl ⟨rfl,_,SqL.of rb⟩,_,rfl,_,rfl,t,_,2,.str b,rfl,rfl,SqT.of ob,aO (j:=2) rfl,_,rfl,t,_,1,.str a,rfl,rfl,SqT.of ob,aO (j:=1) rfl,_,rfl,aM rfl,fun tb htb=>?_⟩
  have Sc:=aH.upd (o:=.tup [.str n,.str b,.str a,.int (-1)]) htb
  have rc:upd Hb tb (.tup [.str n,.str b,.str a,.int (-1)]) tb=_:=aC
  generalize upd Hb tb (.tup [.str n,.str b,.str a,.int (-1)])=Hc at Sc rc
  have hlc:=Sc _ _ rb
  refine⟨l,us++[.ref ta],.ref tb,rfl,rfl,hlc,by rw[AW];show _+1<_;omega,?_⟩
  have KT2:=gN.lst (o:=.lst (us++[.ref ta]++[.ref tb])) hlc
  refine⟨_,_,us++[.ref ta]++[.ref tb],rfl,(Sb.trans Sc).over hl0,aC,?_⟩
  rw[et,AF]
  show IsL _ (_++[bV (up ⟨n,a,b,r*(lv - c)⟩),bV (dn ⟨n,a,b,r*(lv - c)⟩)]) _
  rw[show ∀ (xs:List Dv) (p q:Dv),xs++[p,q]=xs++[p]++[q] from fun xs p q=>by simp]
  refine IsL.keep KT2 _ _ (fE fun d m=>?_) (IsL.snoc (yB (s:=dn ⟨n,a,b,r*(lv - c)⟩) rc) (IsL.same Sc _ _ ib))
  rcases Ab.mp m with m | m
  ·rcases Ab.mp m with m | m
   ·obtain⟨s,_,rfl⟩:=AN.mp m
    exact fP s
   ·rw[AL.mp m]
    exact fP _
  ·rw[AL.mp m]
   exact fP _
 ·rintro σ H' ⟨v3,v4,us,rfl,S',hl',ius⟩
  rw[kI,AE (AS _)] at ius
  exact⟨_,rfl,qq us H' S' hl hl' ius⟩
open Mt22 MtF Mt31 Mt61
def CV(H:Hp)(o:Option Mt22.St)(v:V):Prop:=match o with
 | none=>v=.non
 | some s=>Is H (bV s) v
theorem CV.same{H H':Hp}(S:aH H H'){o:Option Mt22.St}{v:V}(h:CV H o v):CV H' o v:=by
 cases o with
 | none=>exact h
 | some s=>exact Is.same S _ _ h
theorem CV.keep{H H':Hp}(S:gN H H'){o:Option Mt22.St}{v:V}(h:CV H o v):CV H' o v:=by
 cases o with
 | none=>exact h
 | some s=>exact Is.keep S _ _ (fP s) h
structure CamKV (H:Hp) (kvs:List (Key×V)) (cm:Cm):Prop where
 len:kvs.length=cm.length
 at':∀ (i:Nat) (z:Str) (o:Option Mt22.St),cm[i]?=some (z,o)→∃ v,kvs[i]?=some (Sum.inr z,v)∧CV H o v
theorem CamKV.keys{H:Hp}{kvs:List (Key×V)}{cm:Cm}(h:CamKV H kvs cm):kvs.map (·.1)=(Mt31.keys cm).map Sum.inr:=by
 apply List.ext_getElem?
 intro i
 unfold Mt31.keys
 rw[AI,AI,AI]
 cases e:cm[i]? with
 | none =>
  rw[List.getElem?_eq_none_iff] at e
  rw[CU (by rw[h.len];exact e)]
  rfl
 | some x =>
  obtain⟨z,o⟩:=x
  obtain⟨v,ev,_⟩:=h.at' i z o e
  rw[ev]
  rfl
theorem CamKV.same{H H':Hp}(S:aH H H'){kvs:List (Key×V)}{cm:Cm}(h:CamKV H kvs cm):CamKV H' kvs cm :=
 ⟨h.len,fun i z o e=>by obtain⟨v,e1,c⟩:=h.at' i z o e;exact⟨v,e1,c.same S⟩⟩
theorem CamKV.keep{H H':Hp}(S:gN H H'){kvs:List (Key×V)}{cm:Cm}(h:CamKV H kvs cm):CamKV H' kvs cm :=
 ⟨h.len,fun i z o e=>by obtain⟨v,e1,c⟩:=h.at' i z o e;exact⟨v,e1,c.keep S⟩⟩
theorem aCM{κ:Type}[DecidableEq κ]:∀ {kvs:List (κ×V)} {i:Nat} {k:κ} {v:V},(kvs.map (·.1)).Nodup→kvs[i]?=some (k,v)→fL kvs k=some v
 | p :: r,0,k,v,nd,e=>by cases e;exact lW rfl
 | p :: r,i+1,k,v,nd,e=>by
  rw[AX,Ap] at nd
  have e':r[i]?=some (k,v):=e
  rw[lX (fun c=>nd.1 (by rw[c];exact AN.mpr ⟨_,AG e',rfl⟩))]
  exact aCM nd.2 e'
theorem aFW{zs:List Str}(h:zs.Nodup):(zs.map (Sum.inr:Str→Key)).Nodup:=(fU zs).mpr h
theorem CamKV.val{H:Hp}{S:List Mt22.St}{kvs:List (Key×V)}{cm:Cm}(h:CamKV H kvs cm)(c:Came S cm){i:Nat}{z:Str}{o:Option Mt22.St}(e:cm[i]?=some (z,o)):∃ v,fL kvs (Sum.inr z)=some v∧CV H o v:=by
 obtain⟨v,ev,cv⟩:=h.at' i z o e
 exact⟨v,aCM (by rw[h.keys];exact aFW c.nd) ev,cv⟩
theorem CamKV.none{H:Hp}{kvs:List (Key×V)}{cm:Cm}(h:CamKV H kvs cm){z:Str}(n:¬ z∈Mt31.keys cm):fL kvs (Sum.inr z)=none:=by
 cases e:fL kvs (Sum.inr z) with
 | none=>rfl
 | some v =>
  have:=aOA e
  rw[h.keys] at this
  obtain⟨y,my,ey⟩:=AN.mp this
  cases ey
  exact absurd my n
theorem CamKV.some{H:Hp}{kvs:List (Key×V)}{cm:Cm}(h:CamKV H kvs cm){z:Str}(n:z∈Mt31.keys cm):(fL kvs (Sum.inr z)).isSome=true:=by
 cases e:fL kvs (Sum.inr z) with
 | some v=>rfl
 | none =>
  have:=aKJ e
  rw[h.keys] at this
  exact absurd (AN.mpr ⟨z,n,rfl⟩) this
theorem aWL(x:V)(r:List V):seqIndex? 0 (x :: r).length=some 0:=by
 rw[Af]
 unfold seqIndex?
 simp
 try omega
theorem jT{H:Hp}{s:Mt22.St}{v:V}(h:Is H (bV s) v):∃ t,v=.ref t∧H t=some (.tup [.str s.nm,.str s.near,.str s.far,.int s.h]):=by
 obtain⟨t,us,rfl,o,v0,r0,rfl,i0,v1,r1,rfl,i1,v2,r2,rfl,i2,v3,r3,rfl,i3,h0⟩:=h
 cases (show r3=[] from h0)
 cases (show v0=_ from i0)
 cases (show v1=_ from i1)
 cases (show v2=_ from i2)
 cases (show v3=_ from i3)
 exact⟨t,rfl,o⟩
theorem qS(a b:Str):decide (V.str a=V.str b)=decide (a=b):=by
 by_cases h:a=b
 ·subst h;simp
 ·rw[decide_eq_false h,decide_eq_false (fun c=>h (by cases c;rfl))]
def rA:Sp:=sp2 fun x y H Q=>∃ (ls lt:Addr) (us:List V) (S:List Mt22.St) (zs V0:List Str),x=.ref ls∧y=.ref lt∧zs.Nodup∧(∀ z∈zs,z∈V0)∧H ls=some (.lst (zs.map V.str))∧H lt=some (.lst us)∧IsL H (S.map bV) us∧S.length≤80∧V0.length≤13∧(∀ s∈S,s.far∈V0) ∧
 ∀ (d:Addr) (cm:Cm) (kvs:List (Key×V)) (H':Hp),aH H H'→H d=none→H' d=some (.dK kvs)→CamKV H' kvs cm→CameG zs S cm→uD S cm cm.length→cm.length≤13→Q (.ref d) H'
theorem tG(T:Txt K mg C):Fc P w K mg base 1 "spread" ["starts","steps"] rA:=by
 refine T.d_p_spread.fc hV gW (fun f cdv A outer s H vs Q E hr h=>?_)
 obtain⟨x,y,rfl,ls,lt,us,S,zs,V0,rfl,rfl,ndz,sV,hls,hlt,ius,lS,lV,farV,q⟩:=h
 have lz:zs.length≤13:=by have:=wH ndz sV;omega
 have big:=bU
 have hu:=qP hr
 have lus:=ius.length
 rw[AA] at lus
 have lcm:∀ cm:Cm,CameG zs S cm→(∀ z∈keys cm,z∈V0)→cm.length≤13:=fun cm c sub=>by
  have:=wH c.nd sub
  unfold keys at this
  rw[AA] at this
  omega
 refine⟨_,(@aE _ _ _ _ _ (@aV _ _ (2) _ _ _ _ hV.nd rfl (Or.inl rfl) (@dM _ _ _ _ _ _ _ _ _ (@eP _ rfl) rfl T.n_dict jC (@aA _ _ _ _ _ (@bZ _ _ _ _ _ _ _ _ _ _ _ ["side"] 1 [] rfl (@bG _ _ _ _ (pv 0)) (fun R=>@aN _ _ (0) _ (show Ar (["side"]:List Str) by decide +kernel) rfl (Or.inl rfl) (by trivial)) (@aW _ _ (by decide)) (fun R=>bT) (fun R=>(@dW _ _ _ _ _ (@aA _ _ _ _ _ (pv 0) (@aA _ _ _ _ _ rJ aB (by rfl)) (by rfl)))) (by rfl) (by rfl) (by rfl) (by rfl) (by rfl) (by rfl) (by rfl) (by intro _;rfl)) aB (by rfl)) (by decide) (by decide) (by rfl) (by rfl)) (by rfl) (by trivial)) (@aE _ _ _ _ _ (@aV _ _ (3) _ _ _ _ hV.nd rfl (Or.inl rfl) (@dM _ _ _ _ _ _ _ _ _ (@xV _ (K) rfl) rfl T.n_list dX (@aA _ _ _ _ _ (pv 0) aB (by rfl)) (by decide) (by decide) (by rfl) (by rfl)) (by rfl) (by trivial)) (@aE _ _ _ _ _ (@vP _ _ _ _ _ _ Ax (@aFN _ _ _ (pv 3) (by intro _;rfl)) (@aE _ _ _ _ _ (@aV _ _ (4) _ _ _ _ hV.nd rfl (Or.inl rfl) (@iJ _ _ _ _ _ _ _ _ _ _ _ _ An PySem.F.slot_list_pop PySem.F.type_list_pop aME (pv 3) (@aA _ _ _ _ _ aD aB (by rfl)) (by rfl) (by rfl) (by rfl) (by rfl) (by rfl)) (by rfl) (by trivial)) (@aG _ _ _ (@eS _ _ _ _ _ _ _ _ Ax rfl (@bG _ _ _ _ (pv 1)) (@aN _ _ (5) _ hV.nd rfl (Or.inl rfl) (by trivial)) (@aG _ _ _ (@dG _ _ _ _ _ _ _ _ (@PW.pt _ _ _ (@mJ _ _ _ _ _ _ _ (@bK _ _ _ _ _ _ _ _ iX (@bA _ _ _ _ _ _ _ (@aT _ (K) rfl) (pv 5) aD (fun _ _=>rfl)) (pv 4) (@bI _ _ (by decide) (by decide))) (@kQ _ _ _ _ (@aBD _ _ _ _ _ _ (@yW _ _ _ _ _ hu (@bA _ _ _ _ _ _ _ (@aT _ (K) rfl) (pv 5) aD (fun _ _=>rfl)) (pv 2)) (by first | exact nobehind _ (by decide) (by decide) | rfl))))) (@aE _ _ _ _ _ (@aOW _ _ _ _ _ _ _ _ _ hu (pv 2) (@bA _ _ _ _ _ _ _ (@aT _ (K) rfl) (pv 5) aD (fun _ _=>rfl)) (pv 5) rfl) (@aG _ _ _ (@dB _ _ _ _ (@iJ _ _ _ _ _ _ _ _ _ _ _ _ An Au At cX (pv 3) (@aA _ _ _ _ _ (@bA _ _ _ _ _ _ _ (@aT _ (K) rfl) (pv 5) aD (fun _ _=>rfl)) aB (by rfl)) (by rfl) (by rfl) (by rfl) (by rfl) (by rfl)) (by rfl)))) bP)) (by intro _;rfl))))) (@aG _ _ _ (@aQ _ _ _ _ (pv 2)))))),?_⟩
 refine⟨_,rfl,ls,rfl,⟨_,SqL.of hls⟩,?_⟩
 refine bE (F:=K) (xs:=zs.map V.str) (by rw[AA];omega) (fun i ys H'=>aH H H'∧cA H' ys ((zs.take i).map fun z=>((Sum.inr z,.non):Key×V))) ⟨aH.refl _,cA.nil _⟩ ?_ ?_ ?_
 ·rintro i ys H' hi' ⟨S',pa⟩
  have:=pa.len
  rw[AA,AH] at this
  exact⟨SqL.of (S' _ _ hls),by omega⟩
 ·rintro i xv ys H' K1 K2 hx' ⟨S',pa⟩ k1 k2
  rw[AI] at hx'
  obtain⟨z,ez,rfl⟩:=AY.mp hx'
  refine⟨_,rfl,aM rfl,fun p3 hp3=>k1 _ _ ⟨S'.trans (aH.upd hp3),?_⟩⟩
  rw[AT,ez,AF]
  exact cA.snoc (k:=Sum.inr z) pa hp3
 rintro ys H1 ⟨S1,pa⟩
 rw[AA,AE (AS _)] at pa
 intro p4 hp4
 have S2:=aH.upd (o:=.lst ys) hp4
 have kz:(zs.map fun z=>((Sum.inr z,.non):Key×V)).map (·.1)=zs.map Sum.inr:=by rw[Aq];rfl
 refine⟨p4,ys,zs.map fun z=>((Sum.inr z,.non):Key×V),rfl,SqL.of aC,pa.same S2,by rw[AA];omega,by rw[kz];exact (fU zs).mpr ndz,fun d hd=>?_⟩
 have S3:=aH.upd (o:=.dK (zs.map fun z=>((Sum.inr z,.non):Key×V))) hd
 have T3:=S1.trans (S2.trans S3)
 have hd0:=(S1.trans S2).free hd
 refine⟨_,rfl,ls,_,rfl,.inl (SqL.of (T3 _ _ hls)),fun lw hlw=>?_⟩
 have S4:=aH.upd (o:=.lst (zs.map V.str)) hlw
 have T4:=T3.trans S4
 have hd4:upd (upd (upd H1 p4 (.lst ys)) d (.dK (zs.map fun z=>((Sum.inr z,.non):Key×V)))) lw (.lst (zs.map V.str)) d=some (.dK (zs.map fun z=>((Sum.inr z,.non):Key×V))):=S4 _ _ aC
 have hw4:upd (upd (upd H1 p4 (.lst ys)) d (.dK (zs.map fun z=>((Sum.inr z,.non):Key×V)))) lw (.lst (zs.map V.str)) lw=some (.lst (zs.map V.str)):=aC
 have hlw0:=T3.free hlw
 have ndw:d≠lw:=aJ (show upd (upd H1 p4 (.lst ys)) d (.dK (zs.map fun z=>((Sum.inr z,.non):Key×V))) d=some _ from aC) hlw
 generalize upd (upd (upd H1 p4 (.lst ys)) d (.dK (zs.map fun z=>((Sum.inr z,.non):Key×V)))) lw (.lst (zs.map V.str))=H4 at T4 hd4 hw4
 have c0:CameG zs S (zs.map fun z=>(z,none)):=CameG.init S ndz
 have k00:keys (zs.map fun z=>((z,none):Str×Option Mt22.St))=zs:=by unfold keys;rw[Aq];exact List.map_id _
 have k0:CamKV H4 (zs.map fun z=>((Sum.inr z,.non):Key×V)) (zs.map fun z=>(z,none)):=⟨by rw[AA,AA],fun i z o e=>by
  rw[AI] at e
  obtain⟨z',ez,e'⟩:=AY.mp e
  cases e'
  exact⟨.non,by rw[AI,ez];rfl,rfl⟩⟩
 refine uN (fun σ H'=>∃ (v4 v5:Option V) (p:Nat) (cm:Cm) (kvs:List (Key×V)),σ=[some (.ref ls),some (.ref lt),some (.ref d),some (.ref lw),v4,v5]∧aH H H'∧H' d=some (.dK kvs)∧CamKV H' kvs cm∧CameG zs S cm∧(∀ z∈keys cm,z∈V0)∧p≤cm.length∧H' lw=some (.lst (((keys cm).drop p).map V.str))∧uD S cm p)
  (fun _ H'=>match H' d,H' lw with | some (.dK kvs),some (.lst ws)=>14 - (kvs.length - ws.length) | _,_=>0) ⟨_,_,0,zs.map fun z=>(z,none),_,rfl,T4,hd4,k0,c0,(fun z m=>by rw[k00] at m;exact sV z m),BK _,by rw[k00,EA];exact hw4,(fun i u hi=>absurd hi (by omega))⟩ ?_ ?_
 ·rintro σ H5 ⟨v4,v5,p,cm,kvs,rfl,S5,hd5,ck,c,sub,hp,hw5,op⟩
  have l13:=lcm cm c sub
  refine⟨_,rfl,lw,_,rfl,SqL.of hw5,?_⟩
  have kl:(keys cm).length=cm.length:=by unfold keys;rw[AA]
  by_cases hpl:p<cm.length
  ·obtain⟨u,eu⟩:∃ u,(keys cm)[p]?=some u:=⟨_,AC (by omega)⟩
   have ed:(keys cm).drop p=u :: (keys cm).drop (p+1):=by
    obtain⟨h1,h2⟩:=AB.mp eu
    rw[← h2]
    exact (List.getElem_cons_drop h1).symm
   rw[ed] at hw5 ⊢
   refine cP ?_
   refine⟨_,rfl,.inl ⟨rfl,_,SqL.of hw5⟩,lw,_,0,0,.str u,rfl,rfl,hw5,by decide,by decide,aWL _ _,rfl,?_⟩
   have hw6:upd H5 lw (.lst (((u :: (keys cm).drop (p+1)).map V.str).eraseIdx 0)) lw=some (.lst (((keys cm).drop (p+1)).map V.str)):=aC
   have hd6:upd H5 lw (.lst (((u :: (keys cm).drop (p+1)).map V.str).eraseIdx 0)) d=some (.dK kvs):=by rw[aI ndw];exact hd5
   have ck6:=ck.keep (gN.lst (o:=.lst (((u :: (keys cm).drop (p+1)).map V.str).eraseIdx 0)) hw5)
   have S6:aH H (upd H5 lw (.lst (((u :: (keys cm).drop (p+1)).map V.str).eraseIdx 0))):=S5.over hlw0
   generalize upd H5 lw (.lst (((u :: (keys cm).drop (p+1)).map V.str).eraseIdx 0))=H6 at hw6 hd6 ck6 S6
   refine⟨_,rfl,lt,rfl,⟨_,SqL.of (S6 _ _ hlt)⟩,gH (K:=K) (a:=lt) (xs:=us)
    (fun j σ H'=>∃ (v5:Option V) (more:Cm) (kvs:List (Key×V)),σ=[some (.ref ls),some (.ref lt),some (.ref d),some (.ref lw),some (.str u),v5]∧aH H H'∧H' d=some (.dK kvs)∧CamKV H' kvs (cm++more)∧CameG zs S (cm++more)∧(∀ z∈keys (cm++more),z∈V0)∧H' lw=some (.lst (((keys (cm++more)).drop (p+1)).map V.str))∧uD S (cm++more) p∧∀ s∈S.take j,s.near=u→s.far∈keys (cm++more))
    ⟨_,[],kvs,rfl,S6,hd6,by rw[BO];exact ck6,by rw[BO];exact c,by rw[BO];exact sub,by rw[BO];exact hw6,by rw[BO];exact op,(fun s m=>by cases m)⟩ (fun j σ H' _ ⟨_,_,_,_,S',_⟩=>SqL.of (S' _ _ hlt)) ?_ ?_⟩
   ·rintro j xv σ H7 hj ⟨w5,more,kvs7,rfl,S7,hd7,ck7,c7,sub7,hw7,op7,cl7⟩
    have hjl:j<us.length:=(AB.mp hj).1
    obtain⟨st,es⟩:∃ st,S[j]?=some st:=⟨_,AC (by omega)⟩
    obtain⟨v,ev,iv⟩:=ius.get (show (S.map bV)[j]?=some (bV st) by rw[AI,es];rfl)
    rw[hj] at ev
    cases ev
    have ms:=AG es
    obtain⟨t,rfl,o⟩:=jT iv
    have o7:=S7 _ _ o
    have et:S.take (j+1)=S.take j++[st]:=by rw[AT,es];rfl
    have l7:=lcm _ c7 sub7
    have kl7:(keys (cm++more)).length=(cm++more).length:=by unfold keys;rw[AA]
    have lw7:(((keys (cm++more)).drop (p+1)).map V.str).length≤13:=by rw[AA,Bd];omega
    have uk:u∈keys (cm++more):=by rw[kF];exact BX _ (AG eu)
    refine⟨_,rfl,t,_,1,.str st.near,rfl,rfl,SqT.of o7,aO (j:=1) rfl,_,rfl,rfl,_,rfl,?_⟩
    rw[qS]
    refine iZ (fun c1=>?_) (fun c1=>?_)
    ·have e1:st.near=u:=of_decide_eq_true c1
     refine⟨_,rfl,t,_,2,.str st.far,rfl,rfl,SqT.of o7,aO (j:=2) rfl,_,rfl,d,_,rfl,.inl ⟨kvs7,Sum.inr st.far,.inl hd7,rfl,rfl⟩,_,rfl,?_⟩
     by_cases hk:st.far∈keys (cm++more)
     ·rw[ck7.some hk]
      refine bO ⟨_,more,kvs7,rfl,S7,hd7,ck7,c7,sub7,hw7,op7,fun s m en=>?_⟩
      rw[et] at m
      rcases Ab.mp m with m | m
      ·exact cl7 s m en
      ·rw[AL.mp m];exact hk
     ·have hno:=ck7.none hk
      rw[hno]
      refine cP ?_
      have lkv:kvs7.length<Ak:=by rw[ck7.len];omega
      refine⟨_,rfl,_,rfl,_,rfl,t,_,2,.str st.far,rfl,rfl,SqT.of o7,aO (j:=2) rfl,d,_,rfl,.inl ⟨kvs7,Sum.inr st.far,hd7,rfl,lkv,rfl⟩,?_⟩
      rw[aLP _ hno]
      have KT1:gN H7 (upd H7 d (.dK (kvs7++[(Sum.inr st.far,.ref t)]))):=fun b ys e=>by
       rw[aI (fun eb=>by rw[eb,hd7] at e;cases e)]
       exact e
      have hw8:upd H7 d (.dK (kvs7++[(Sum.inr st.far,.ref t)])) lw=some (.lst (((keys (cm++more)).drop (p+1)).map V.str)):=by rw[aI (Ne.symm ndw)];exact hw7
      have o8:upd H7 d (.dK (kvs7++[(Sum.inr st.far,.ref t)])) t=some (.tup [.str st.nm,.str st.near,.str st.far,.int st.h]):=KT1 _ _ o7
      have hd8:upd H7 d (.dK (kvs7++[(Sum.inr st.far,.ref t)])) d=some (.dK (kvs7++[(Sum.inr st.far,.ref t)])):=aC
      have S8:aH H (upd H7 d (.dK (kvs7++[(Sum.inr st.far,.ref t)]))):=S7.over hd0
      have ck8:=ck7.keep KT1
      generalize upd H7 d (.dK (kvs7++[(Sum.inr st.far,.ref t)]))=H8 at hw8 o8 hd8 S8 ck8
      refine⟨_,rfl,.inl ⟨rfl,_,SqL.of hw8⟩,_,rfl,t,_,2,.str st.far,rfl,rfl,SqT.of o8,aO (j:=2) rfl,lw,_,.str st.far,rfl,rfl,hw8,by omega,?_⟩
      have KT2:=gN.lst (o:=.lst (((keys (cm++more)).drop (p+1)).map V.str++[.str st.far])) hw8
      have c9:=c7.snoc ms (by rw[e1];exact uk) hk
      rw[Bg] at c9
      have kk:keys (cm++(more++[(st.far,some st)]))=keys (cm++more)++[st.far]:=by rw[← Bg,kF];rfl
      refine⟨_,more++[(st.far,some st)],kvs7++[(Sum.inr st.far,.ref t)],rfl,S8.over hlw0,by rw[aI ndw];exact hd8,?_,c9,?_,?_,?_,?_⟩
      ·rw[← Bg]
       have ck9:=ck8.keep KT2
       refine⟨by rw[AW,AW,ck9.len];rfl,fun i z o' e=>?_⟩
       by_cases hi:i<(cm++more).length
       ·rw[BQ hi] at e
        obtain⟨v,ev,cv⟩:=ck9.at' i z o' e
        exact⟨v,by rw[BQ (by rw[ck9.len];exact hi)];exact ev,cv⟩
       ·have hle:=(AB.mp e).1
        rw[AW] at hle
        have h1':([(st.far,some st)]:Cm).length=1:=rfl
        have hie:i=(cm++more).length:=by omega
        subst hie
        rw[Bo (AS _),Eh] at e
        cases e
        refine⟨.ref t,by rw[Bo (by rw[ck9.len];exact AS _),ck9.len,Eh];rfl,?_⟩
        exact⟨t,_,rfl,KT2 _ _ o8,_,_,rfl,rfl,_,_,rfl,rfl,_,_,rfl,rfl,_,_,rfl,rfl,rfl⟩
      ·intro z m
       rw[kk] at m
       rcases Ab.mp m with m | m
       ·exact sub7 z m
       ·rw[AL.mp m];exact farV st ms
      ·rw[aC,kk,List.drop_append_of_le_length (by rw[kl7,AW];omega),AF]
       rfl
      ·rw[← Bg]
       exact op7.snoc (by rw[AW];omega) _
      ·intro s m en
       rw[kk]
       rw[et] at m
       rcases Ab.mp m with m | m
       ·exact BX _ (cl7 s m en)
       ·rw[AL.mp m];exact Ag _ (AL.mpr rfl)
    ·refine⟨_,more,kvs7,rfl,S7,hd7,ck7,c7,sub7,hw7,op7,fun s m en=>?_⟩
     rw[et] at m
     rcases Ab.mp m with m | m
     ·exact cl7 s m en
     ·rw[AL.mp m] at en
      exact absurd (decide_eq_true en) c1
   ·rintro σ H7 ⟨w5,more,kvs7,rfl,S7,hd7,ck7,c7,sub7,hw7,op7,cl7⟩
    rw[AE (by omega)] at cl7
    have l7:=lcm _ c7 sub7
    have kl7:(keys (cm++more)).length=(cm++more).length:=by unfold keys;rw[AA]
    have ca:(cm++more).length=cm.length+more.length:=AW
    refine⟨⟨_,_,p+1,cm++more,kvs7,rfl,S7,hd7,ck7,c7,sub7,by omega,hw7,fun i u' hi e s ms en=>?_⟩,?_⟩
    ·by_cases hip:i<p
     ·exact op7 i u' hip e s ms en
     ·have hie:i=p:=by omega
      subst hie
      rw[kF,BQ (by omega),eu] at e
      cases e
      exact cl7 s ms en
    ·rw[hd7,hw7,hd5,hw5]
     dsimp only
     rw[ck7.len,ck.len,AA,AA,Bd,Af,Bd]
     omega
  ·have hpe:p=cm.length:=by omega
   subst hpe
   rw[show (keys cm).drop cm.length=[] from CP (by omega)]
   refine bO ⟨_,rfl,q d cm kvs H5 S5 hd0 hd5 ck c op l13⟩
 ·intro σ H Q Q' h hc
  obtain⟨v,e,p,xs,e2,hq,q⟩:=hc
  exact⟨v,e,p,xs,e2,hq,h _ _ q⟩
open Mt53 Mt22 MtF Mt31 Mt61
theorem zG{f:Gap→V}:∀ {G:List Gap} {g:Gap},(G.map (·.nm)).Nodup→g∈G→fL (G.map fun g=>((Sum.inr g.nm:Key),f g)) (Sum.inr g.nm)=some (f g)
 | e :: G,g,nd,m=>by
  rw[AX] at nd ⊢
  rw[Ap] at nd
  rcases AZ.mp m with rfl | m
  ·exact lW rfl
  ·rw[lX (fun c=>nd.1 (by rw[EZ c];exact AN.mpr ⟨g,m,rfl⟩))]
   exact zG nd.2 m
noncomputable def eB(G:List Gap)(f:Fl):List (Key×V):=G.map fun g=>(Sum.inr g.nm,V.int (f g.nm))
theorem qH{H H':Hp}{a:Addr}{u:HO}(r:Rd H a u)(S:aH H H'):Rd H' a u:=by
 rcases r with h | ⟨o,h⟩
 ·exact .inl (S _ _ h)
 ·exact .inr ⟨o,S _ _ h⟩
theorem pQ{G:List Gap}{s:Mt22.St}(m:s∈Mt61.stepsOf G):∃ g∈G,g.nm=s.nm∧(s.h=1∨s.h=-1):=by
 obtain⟨g,mg,e⟩:=iP.mp m
 rcases e with rfl | rfl
 ·exact⟨g,mg,rfl,.inl rfl⟩
 ·exact⟨g,mg,rfl,.inr rfl⟩
def aFD:Sp:=sp3 fun x y u H Q=>∃ (dm de:Addr) (V0:List Str) (G:List Gap) (f:Fl) (s:Mt22.St),Is H (bV s) x∧s∈Mt61.stepsOf G∧Gaps V0 G∧y=.ref dm∧Rd H dm (.dK (dU G))∧u=.ref de∧Rd H de (.dK (eB G f))∧Q (.int (Mt61.room G f s)) H
theorem yY(T:Txt K mg C):Fc P w K mg base 1 "room" ["step","most","stream"] aFD:=by
 refine T.d_p_room.fc aJB rS (fun f cdv A outer s H vs Q E hr h=>?_)
 obtain⟨x,y,u,rfl,dm,de,V0,G,fl,st,hx,ms,GG,rfl,hm,rfl,he,q⟩:=h
 have hu:=qP hr
 obtain⟨t,rfl,o⟩:=jT hx
 obtain⟨g,mg',en,hh⟩:=pQ ms
 have v1:fL (dU G) (Sum.inr st.nm)=some (.int g.cap):=by rw[← en];exact zG (f:=fun g=>V.int g.cap) GG.nd mg'
 have v2:fL (eB G fl) (Sum.inr st.nm)=some (.int (fl st.nm)):=by rw[← en];exact zG (f:=fun g=>V.int (fl g.nm)) GG.nd mg'
 refine⟨_,(@aG _ _ _ (@aQ _ _ _ _ (@aK _ _ _ _ _ _ _ _ jM (@jI _ _ _ _ _ _ hu (pv 1) (@bA _ _ _ _ _ _ _ (@aT _ (K) rfl) (pv 0) aD (fun _ _=>rfl)) (fun _ _=>rfl)) (@aK _ _ _ _ _ _ _ _ gC (@bA _ _ _ _ _ _ _ (@aT _ (K) rfl) (pv 0) aD (fun _ _=>rfl)) (@jI _ _ _ _ _ _ hu (pv 2) (@bA _ _ _ _ _ _ _ (@aT _ (K) rfl) (pv 0) aD (fun _ _=>rfl)) (fun _ _=>rfl)))))),?_⟩
 refine⟨_,rfl,_,rfl,t,_,0,.str st.nm,rfl,rfl,SqT.of o,aO (j:=0) rfl,dm,_,rfl,.inl ⟨_,Sum.inr st.nm,hm,rfl,v1.symm⟩,?_⟩
 refine⟨_,rfl,t,_,3,.int st.h,rfl,rfl,SqT.of o,aO (j:=3) rfl,_,rfl,_,rfl,t,_,0,.str st.nm,rfl,rfl,SqT.of o,aO (j:=0) rfl,de,_,rfl,.inl ⟨_,Sum.inr st.nm,he,rfl,v2.symm⟩,?_⟩
 refine⟨_,_,rfl,rfl,.inl (by rcases hh with h | h <;> rw[h] <;> exact⟨by decide,by decide⟩),_,_,rfl,rfl,?_⟩
 have e:Mt61.room G fl st=g.cap - st.h*fl st.nm:=by
  unfold Mt61.room
  rw[← en,nF GG mg']
 rw[e] at q
 exact q
noncomputable def wS(G:List Gap)(f:Fl):List Mt22.St:=(Mt61.stepsOf G).filter fun s=>decide (0<Mt61.room G f s)
theorem aIL{V0:List Str}{G:List Gap}(GG:Gaps V0 G){s:Mt22.St}(m:s∈Mt61.stepsOf G):s.near∈V0∧s.far∈V0:=by
 obtain⟨g,mg,e⟩:=iP.mp m
 obtain⟨ha,hb,_⟩:=GG.ends g mg
 rcases e with rfl | rfl
 ·exact⟨ha,hb⟩
 ·exact⟨hb,ha⟩
def rB:Sp:=sp3 fun x y u H Q=>∃ (l dm de:Addr) (us:List V) (V0:List Str) (G:List Gap) (f:Fl),x=.ref l∧H l=some (.lst us)∧IsL H ((Mt61.stepsOf G).map bV) us∧G.length≤40∧V0.length≤13∧Gaps V0 G∧y=.ref dm∧Rd H dm (.dK (dU G))∧u=.ref de∧Rd H de (.dK (eB G f)) ∧
 ∀ (d:Addr) (cm:Cm) (kvs:List (Key×V)) (H':Hp),aH H H'→H d=none→H' d=some (.dK kvs)→CamKV H' kvs cm→CameG [Mt22.sea] (wS G f) cm→uD (wS G f) cm cm.length→cm.length≤13→Q (.ref d) H'
theorem qJ(T:Txt K mg C):Fc P w K mg base 2 "reached" ["steps","most","stream"] rB:=by
 have G_p_room:Fc P w K mg base 1 "room" ["step","most","stream"] aFD:=yY T
 have G_p_spread:Fc P w K mg base 1 "spread" ["starts","steps"] rA:=tG T
 refine T.d_p_reached.fc aAT rS (fun f cdv A outer s H vs Q E hr h=>?_)
 obtain⟨x,y,u,rfl,l,dm,de,us,V0,G,fl,rfl,hl,ius,g40,v13,GG,rfl,hm,rfl,he,q⟩:=h
 have big:=bU
 have lus:=ius.length
 have sl:=nM G
 rw[AA,sl] at lus
 refine⟨_,(@aG _ _ _ (@aQ _ _ _ _ (@bC _ _ _ _ _ _ _ _ _ _ G_p_spread (hr.mono (by decide)) (@aA _ _ _ _ _ (@bS _ _ _ _ (@aA _ _ _ _ _ (@rK _ _ _ _ T.g_SEA (by rfl) (by decide)) aB (by rfl))) (@aA _ _ _ _ _ (@bZ _ _ _ _ _ _ _ _ _ _ _ ["step","most","stream"] 1 [1,2] rfl (@bG _ _ _ _ (pv 0)) (fun R=>@aN _ _ (0) _ (show Ar (["step","most","stream"]:List Str) by decide +kernel) rfl (Or.inl rfl) (by trivial)) (@aW _ _ (by decide)) (fun R=>@fI _ _ _ (@bK _ _ _ _ _ _ _ _ aDR (@bC _ _ _ _ _ _ _ _ _ _ G_p_room (hr.mono (by decide)) (@aA _ _ _ _ _ (pv 0) (@aA _ _ _ _ _ (pv 1) (@aA _ _ _ _ _ (pv 2) aB (by rfl)) (by rfl)) (by rfl)) (by rfl) (by decide) (by rfl) (by rfl)) aD (@bI _ _ (by decide) (by decide)))) (fun R=>(pv 0)) (by rfl) (by rfl) (by rfl) (by rfl) (by rfl) (by rfl) (by rfl) (by intro _;rfl)) aB (by rfl)) (by rfl)) (by rfl) (by decide) (by rfl) (by rfl)))),?_⟩
 refine⟨aM rfl,fun l1 h1=>?_⟩
 have S1:=aH.upd (o:=.lst [.str "sea"]) h1
 have r1:upd H l1 (.lst [.str "sea"]) l1=some (.lst (([Mt22.sea]:List Str).map V.str)):=aC
 generalize upd H l1 (.lst [.str "sea"])=H1 at S1 r1
 refine⟨_,rfl,l,rfl,⟨_,SqL.of (S1 _ _ hl)⟩,?_⟩
 refine bE (F:=K) (xs:=us) (by omega) (fun i ys H'=>H1=H'∧IsL H' ((((Mt61.stepsOf G).take i).filter fun s=>decide (0<Mt61.room G fl s)).map bV) ys) ⟨rfl,rfl⟩ ?_ ?_ ?_
 ·rintro i ys H' hi ⟨rfl,iy⟩
  refine⟨SqL.of (S1 _ _ hl),?_⟩
  have:=iy.length
  have:=Av (fun s=>decide (0<Mt61.room G fl s)) ((Mt61.stepsOf G).take i)
  rw[AH] at this
  rw[AA] at *
  omega
 ·rintro i xv ys H' K1 K2 hx' ⟨rfl,iy⟩ k1 k2
  have hil:i<us.length:=(AB.mp hx').1
  obtain⟨st,es⟩:∃ st,(Mt61.stepsOf G)[i]?=some st:=⟨_,AC (by omega)⟩
  obtain⟨v,ev,iv⟩:=(IsL.same S1 _ _ ius).get (show ((Mt61.stepsOf G).map bV)[i]?=some (bV st) by rw[AI,es];rfl)
  rw[hx'] at ev
  cases ev
  refine⟨_,rfl,_,rfl,_,rfl,_,_,_,rfl,dm,de,V0,G,fl,st,iv,AG es,GG,rfl,qH hm S1,rfl,qH he S1,_,_,rfl,rfl,_,rfl,?_⟩
  have et:((Mt61.stepsOf G).take (i+1)).filter (fun s=>decide (0<Mt61.room G fl s))=((Mt61.stepsOf G).take i).filter (fun s=>decide (0<Mt61.room G fl s))++(if decide (0<Mt61.room G fl st)=true then [st] else []):=by
   rw[AT,es,Ci]
   cases h:decide (0<Mt61.room G fl st) <;> simp[h]
   all_goals simpa using h
  cases hg:decide (0<Mt61.room G fl st) with
  | false =>
   rw[hg] at et
   refine bO (k2 _ ⟨rfl,?_⟩)
   rw[et]
   simpa using iy
  | true =>
   rw[hg] at et
   refine cP ⟨_,rfl,k1 _ _ ⟨rfl,?_⟩⟩
   rw[et,if_pos rfl,AF]
   exact IsL.snoc iv iy
 rintro ys H2 ⟨rfl,iy⟩
 rw[AE (by omega)] at iy
 intro l2 h2
 have S2:=aH.upd (o:=.lst ys) h2
 refine⟨_,_,rfl,l1,l2,ys,wS G fl,[Mt22.sea],V0,rfl,rfl,by simp,(fun z m=>by rw[AL.mp m];exact GG.sea),S2 _ _ r1,aC,IsL.same S2 _ _ iy,?_,v13,fun s m=>(aIL GG (Am.mp m).1).2,fun d cm kvs H' S3 nd hd ck cg op l13=>?_⟩
 ·have:=Av (fun s=>decide (0<Mt61.room G fl s)) (Mt61.stepsOf G)
  unfold wS
  omega
 ·exact q d cm kvs H' (S1.trans (S2.trans S3)) ((S1.trans S2).free nd) hd ck cg op l13
open Mt53 Mt22 MtF Mt31 Mt61
def aKV:Sp:=sp2 fun x y H Q=>∃ (d:Addr) (kvs:List (Key×V)) (cm:Cm) (S:List Mt22.St) (side:Str),x=.ref d∧y=.str side∧Rd H d (.dK kvs)∧CamKV H kvs cm∧Came S cm∧cm.length≤13∧side∈keys cm ∧
 ∀ (l:Addr) (us:List V) (ss:List Mt22.St) (H':Hp),aH H H'→H l=none→H' l=some (.lst us)→IsL H' (ss.map bV) us→Chain S ss side→ss.length≤13→Q (.ref l) H'
theorem aMO{cm:Cm}{z:Str}(m:z∈keys cm):∃ (i:Nat) (o:Option Mt22.St),cm[i]?=some (z,o):=by
 obtain⟨i,hi⟩:=BD.mp m
 unfold keys at hi
 rw[AI] at hi
 cases e:cm[i]? with
 | none=>rw[e] at hi;cases hi
 | some x =>
  rw[e] at hi
  obtain⟨a,o⟩:=x
  cases hi
  exact⟨i,o,e⟩
theorem aBI(T:Txt K mg C):Fc P w K mg base 1 "path_to" ["came","side"] aKV:=by
 refine T.d_p_path_to.fc iL gW (fun f cdv A outer s H vs Q E hr h=>?_)
 obtain⟨x,y,rfl,d,kvs,cm,S,side,rfl,rfl,hd,ck,c,l13,ms,q⟩:=h
 have big:=bU
 have hu:=qP hr
 obtain⟨j0,o0,e0⟩:=aMO ms
 obtain⟨v0,ev0,cv0⟩:=ck.val c e0
 have hj0:=(AB.mp e0).1
 refine⟨_,(@aE _ _ _ _ _ (@aV _ _ (2) _ _ _ _ iL.nd rfl (Or.inl rfl) (@bS _ _ _ _ aB) (by rfl) (by trivial)) (@aE _ _ _ _ _ (@aV _ _ (3) _ _ _ _ iL.nd rfl (Or.inl rfl) (@jI _ _ _ _ _ _ hu (pv 0) (pv 1) (fun _ _=>rfl)) (by rfl) (by trivial)) (@aE _ _ _ _ _ (@vP _ _ _ _ _ _ Ax (@bK _ _ _ _ _ _ _ _ aPF (pv 3) rJ (@bI _ _ (by decide) (by decide))) (@aE _ _ _ _ _ (@dB _ _ _ _ (@iJ _ _ _ _ _ _ _ _ _ _ _ _ An Au At cX (pv 2) (@aA _ _ _ _ _ (pv 3) aB (by rfl)) (by rfl) (by rfl) (by rfl) (by rfl) (by rfl)) (by rfl)) (@aG _ _ _ (@aV _ _ (3) _ _ _ _ iL.nd rfl (Or.inl rfl) (@jI _ _ _ _ _ _ hu (pv 0) (@bA _ _ _ _ _ _ _ (@aT _ (K) rfl) (pv 3) aD (fun _ _=>rfl)) (fun _ _=>rfl)) (by rfl) (by trivial))))) (@aG _ _ _ (@aQ _ _ _ _ (@vS _ _ _ _ _ _ _ rfl rfl T.n_list rfl T.n_reversed (@aA _ _ _ _ _ (pv 2) aB (by rfl)) (by rfl) (by rfl))))))),?_⟩
 refine⟨aM rfl,fun lp hlp=>?_⟩
 have S1:=aH.upd (o:=.lst []) hlp
 have h1:upd H lp (.lst []) lp=some (.lst []):=aC
 generalize upd H lp (.lst [])=H1 at S1 h1
 refine⟨_,rfl,_,rfl,d,v0,rfl,.inl ⟨kvs,Sum.inr side,qH hd S1,rfl,ev0.symm⟩,?_⟩
 refine uN (fun σ H'=>∃ (j:Nat) (z:Str) (o:Option Mt22.St) (v:V) (ps:List Mt22.St) (us:List V),σ=[some (.ref d),some (.str side),some (.ref lp),some v]∧aH H H'∧H' lp=some (.lst us)∧IsL H' (ps.map bV) us∧cm[j]?=some (z,o)∧CV H' o v∧aTQ S cm j z ps.reverse side∧ps.length+j<cm.length)
  (fun _ H'=>match H' lp with | some (.lst us)=>14 - us.length | _=>0) ⟨j0,side,o0,v0,[],[],rfl,S1,h1,rfl,e0,cv0.same S1,(fun ss ch _=>by rw[List.reverse_nil,BO];exact ch),by show 0+j0<_;omega⟩ ?_ ?_
 ·rintro σ H2 ⟨j,z,o,v,ps,us,rfl,S2,h2,ius,ej,cv,tl,lj⟩
  have lus:=ius.length
  rw[AA] at lus
  refine⟨_,rfl,rfl,_,rfl,?_⟩
  cases o with
  | none =>
   have hv:v=.non:=cv
   subst hv
   have hj:j=0:=by
    cases j with
    | zero=>rfl
    | succ j =>
     obtain⟨s',h',_⟩:=c.prev (j+1) z none (by omega) ej
     cases h'
   subst hj
   have hz:z=Mt22.sea:=by
    have:=c.first
    rw[ej] at this
    cases this
    rfl
   subst hz
   have ch:=tl [] .nil (fun y m=>by cases m)
   rw[Do] at ch
   rw[decide_eq_true rfl]
   refine bO ⟨_,rfl,lp,us,rfl,SqL.of h2,fun l hl=>?_⟩
   refine q l us.reverse ps.reverse _ (S2.trans (aH.upd hl)) (S2.free hl) aC ?_ ch (by rw[DE];omega)
   rw[List.map_reverse]
   exact IsL.rev (IsL.same (aH.upd hl) _ _ ius)
  | some s =>
   obtain⟨t,rfl,ot⟩:=jT cv
   have hj:0<j:=by
    cases j with
    | zero =>
     have:=c.first
     rw[ej] at this
     cases this
    | succ j=>omega
   obtain⟨s',es',mS,hf,hn⟩:=c.prev j z (some s) hj ej
   cases es'
   obtain⟨i,oi,ei⟩:=aMO hn
   have hil:=(AB.mp ei).1
   rw[AH] at hil
   have hij:i<j:=by omega
   rw[Be hij] at ei
   obtain⟨v',ev',cv'⟩:=ck.val c ei
   have ki:(keys cm)[i]?=some s.near:=by unfold keys;rw[AI,ei];rfl
   have hne:(!decide (V.ref t=V.non))=true:=by rw[decide_eq_false (by intro c;cases c)];rfl
   rw[hne]
   refine cP ?_
   refine⟨_,rfl,.inl ⟨rfl,_,SqL.of h2⟩,_,rfl,lp,us,.ref t,rfl,rfl,h2,by omega,?_⟩
   have KT:=gN.lst (o:=.lst (us++[.ref t])) h2
   have S3:aH H (upd H2 lp (.lst (us++[.ref t]))):=S2.over hlp
   refine⟨_,rfl,_,rfl,t,_,1,.str s.near,rfl,rfl,SqT.of (KT _ _ ot),aO (j:=1) rfl,d,v',rfl,.inl ⟨kvs,Sum.inr s.near,qH hd S3,rfl,ev'.symm⟩,?_⟩
   refine⟨⟨i,s.near,oi,v',ps++[s],us++[.ref t],rfl,S3,aC,?_,ei,cv'.same S3,?_,by rw[AW];show _+1+_<_;omega⟩,?_⟩
   ·refine IsL.keep KT _ _ (fE fun d m=>?_) ?_
    ·obtain⟨s,_,rfl⟩:=AN.mp m
     exact fP s
    ·rw[AF]
     exact IsL.snoc (d:=bV s) (v:=.ref t) cv ius
   ·rw[List.reverse_append]
    exact aIU c ej mS hf hij ki tl
   ·rw[h2,aC]
    dsimp only
    rw[AW]
    show 14 - (us.length+1)<14 - us.length
    omega
 ·intro σ H Q Q' h hc
  obtain⟨v,e,hq,k,e2,q⟩:=hc
  exact⟨v,e,hq,k,e2,h _ _ q⟩
theorem aKA{S ss:List Mt22.St}{z:Str}(c:Chain S ss z):ss=[]→z=Mt22.sea:=by
 induction c with
 | nil=>intro _;rfl
 | snoc c m n ih=>intro e;simp at e
def aNZ(G:List Gap)(f:Fl)(ws:List Str):Prop:=∃ cm:Cm,CameG [Mt22.sea] (wS G f) cm∧uD (wS G f) cm cm.length∧∀ z∈ws,z∉keys cm
def aVP(G:List Gap)(f:Fl)(ws:List Str)(ss:List Mt22.St):Prop:=(ss=[]∧aNZ G f ws)∨∃ z,Chain (wS G f) ss z∧z∈ws∧ss≠[]∧ss.length≤13
def aAK:Sp:=fun vs H Q _=>∃ (x y u v:V) (l dm de lw:Addr) (us:List V) (V0:List Str) (G:List Gap) (f:Fl) (ws:List Str),vs=[x,y,u,v]∧x=.ref l∧H l=some (.lst us)∧IsL H ((Mt61.stepsOf G).map bV) us∧G.length≤40∧V0.length≤13∧Gaps V0 G∧y=.ref dm∧Rd H dm (.dK (dU G))∧u=.ref de∧Rd H de (.dK (eB G f))∧v=.ref lw∧H lw=some (.lst (ws.map V.str))∧Mt22.sea∉ws ∧
 ∀ (lp:Addr) (us:List V) (ss:List Mt22.St) (H':Hp),aH H H'→H lp=none→H' lp=some (.lst us)→IsL H' (ss.map bV) us→aVP G f ws ss→Q (.ref lp) H'
theorem aUW:∀ vs H Q E,aAK vs H Q E→vs.length=4:=fun vs H Q E ⟨x,y,u,v,l,dm,de,lw,us,V0,G,f,ws,e,_⟩=>by rw[e];rfl
theorem oA(T:Txt K mg C):Fc P w K mg base 3 "path_with_room" ["steps","most","stream","fields"] aAK:=by
 have G_p_reached:Fc P w K mg base 2 "reached" ["steps","most","stream"] rB:=qJ T
 have G_p_path_to:Fc P w K mg base 1 "path_to" ["came","side"] aKV:=aBI T
 refine T.d_p_path_with_room.fc fG aUW (fun f cdv A outer s H vs Q E hr h=>?_)
 obtain⟨x,y,u,v,l,dm,de,lw,us,V0,G,fl,ws,rfl,rfl,hl,ius,g40,v13,GG,rfl,hm,rfl,he,rfl,hlw,ns,q⟩:=h
 have big:=bU
 have hu:=qP hr
 refine⟨_,(@aE _ _ _ _ _ (@aV _ _ (4) _ _ _ _ fG.nd rfl (Or.inl rfl) (@bC _ _ _ _ _ _ _ _ _ _ G_p_reached (hr.mono (by decide)) (@aA _ _ _ _ _ (pv 0) (@aA _ _ _ _ _ (pv 1) (@aA _ _ _ _ _ (pv 2) aB (by rfl)) (by rfl)) (by rfl)) (by rfl) (by decide) (by rfl) (by rfl)) (by rfl) (by trivial)) (@aE _ _ _ _ _ (@fA _ (5) _ _ _ _ _ _ _ _ _ _ _ _ _ fG.nd rfl ["side","fields"] 1 [3] rfl (@aBF _ _ _ _ (pv 4)) (fun R=>@aN _ _ (0) _ (show Ar (["side","fields"]:List Str) by decide +kernel) rfl (Or.inl rfl) (by trivial)) (@aW _ _ (by decide)) (fun R=>@fI _ _ _ (@bK _ _ _ _ _ _ _ _ (@fN _ (K) rfl) (pv 0) (pv 1) (by with_unfolding_all rfl))) (fun R=>(pv 0)) (by exact Or.inl rfl) (by trivial) (by rfl) (by rfl) (by rfl) (by rfl) (by rfl) (by rfl) (by rfl) (by rfl) (by intro _;rfl)) (@aG _ _ _ (@aQ _ _ _ _ (@aLX _ _ _ _ _ _ _ _ (@aFN _ _ _ (pv 5) (by intro _;rfl)) (@bC _ _ _ _ _ _ _ _ _ _ G_p_path_to (hr.mono (by decide)) (@aA _ _ _ _ _ (pv 4) (@aA _ _ _ _ _ (@bA _ _ _ _ _ _ _ (@cZ _ (K) rfl) (pv 5) aD (fun _ _=>rfl)) aB (by rfl)) (by rfl)) (by rfl) (by decide) (by rfl) (by rfl)) (@bS _ _ _ _ aB)))))),?_⟩
 refine⟨_,rfl,_,rfl,_,rfl,_,_,_,rfl,l,dm,de,us,V0,G,fl,rfl,hl,ius,g40,v13,GG,rfl,hm,rfl,he,fun d cm kvs H1 S1 nd hd ck cg op l13=>?_⟩
 refine⟨_,rfl,d,kvs,rfl,hd,fun o=>?_⟩
 have SF:aH H (upd H1 d (.frz o (.dK kvs))):=S1.over nd
 have KF:gN H1 (upd H1 d (.frz o (.dK kvs))):=fun b ys e=>by
  rw[aI (fun c=>by rw[c,hd] at e;cases e)]
  exact e
 have ckF:=ck.keep KF
 have dF:upd H1 d (.frz o (.dK kvs)) d=some (.frz o (.dK kvs)):=aC
 generalize upd H1 d (.frz o (.dK kvs))=H2 at SF ckF dF
 have lk:kvs.length=cm.length:=ck.len
 have hlw2:=SF _ _ hlw
 refine sJ (by omega) (fun i ys H'=>H2=H'∧ys=(((keys cm).take i).filter fun z=>decide (z∈ws)).map V.str) ⟨rfl,rfl⟩ ?_ ?_ ?_
 ·rintro i ys H' hi ⟨rfl,rfl⟩
  refine⟨dF,?_⟩
  have:=Av (fun z=>decide (z∈ws)) ((keys cm).take i)
  rw[AH] at this
  rw[AA]
  omega
 ·rintro i kv ys H' K1 K2 hk ⟨rfl,rfl⟩ k1 k2
  have hil:=(AB.mp hk).1
  obtain⟨⟨z,oo⟩,ez⟩:∃ x,cm[i]?=some x:=⟨_,AC (by omega)⟩
  obtain⟨vv,ev,_⟩:=ckF.at' i z oo ez
  rw[hk] at ev
  cases ev
  have kz:(keys cm)[i]?=some z:=by unfold keys;rw[AI,ez];rfl
  refine⟨_,rfl,_,rfl,lw,_,rfl,.inl (SqL.of hlw2),rfl,gX ws,_,rfl,?_⟩
  show (if inV (V.str z) (ws.map V.str)=true then _ else _)
  rw[lC]
  have et:((keys cm).take (i+1)).filter (fun z=>decide (z∈ws))=((keys cm).take i).filter (fun z=>decide (z∈ws))++(if decide (z∈ws)=true then [z] else []):=by
   rw[AT,kz,Ci]
   cases h:decide (z∈ws) <;> simp[h]
   all_goals simpa using h
  cases hg:decide (z∈ws) with
  | false =>
   rw[hg] at et
   refine bO (k2 _ ⟨rfl,?_⟩)
   rw[et]
   simp
  | true =>
   rw[hg] at et
   refine cP ⟨_,rfl,k1 _ _ ⟨rfl,?_⟩⟩
   rw[et,if_pos rfl,AF]
   rfl
 rintro ys H3 ⟨rfl,rfl⟩
 rw[AE (by unfold keys;rw[AA];omega)]
 intro le hle
 have S3:=aH.upd (o:=.lst (((keys cm).filter fun z=>decide (z∈ws)).map V.str)) hle
 have r3:upd H2 le (.lst (((keys cm).filter fun z=>decide (z∈ws)).map V.str)) le=some (.lst (((keys cm).filter fun z=>decide (z∈ws)).map V.str)):=aC
 have T3:=SF.trans S3
 have ck3:=ckF.same S3
 have d3:=S3 _ _ dF
 generalize upd H2 le (.lst (((keys cm).filter fun z=>decide (z∈ws)).map V.str))=H3 at S3 r3 T3 ck3 d3
 refine⟨_,rfl,le,_,rfl,SqL.of r3,?_⟩
 cases ef:(keys cm).filter fun z=>decide (z∈ws) with
 | nil =>
  refine bO ⟨aM rfl,fun lp hlp=>?_⟩
  refine q lp [] [] _ (T3.trans (aH.upd hlp)) (T3.free hlp) aC rfl (.inl ⟨rfl,cm,cg,op,fun z mz mk=>?_⟩)
  have:z∈(keys cm).filter fun z=>decide (z∈ws):=Am.mpr ⟨mk,decide_eq_true mz⟩
  rw[ef] at this
  cases this
 | cons z zr =>
  have mz:z∈(keys cm).filter fun z=>decide (z∈ws):=by rw[ef];exact AQ
  rw[Am] at mz
  have zw:z∈ws:=of_decide_eq_true mz.2
  rw[ef] at r3
  refine cP ?_
  refine⟨_,rfl,_,rfl,le,_,0,.str z,rfl,rfl,SqL.of r3,aO (j:=0) rfl,_,_,rfl,d,kvs,cm,wS G fl,z,rfl,rfl,.inr ⟨o,d3⟩,ck3,cg.came,l13,mz.1,fun lp us' ss H4 S4 nlp hlp iss ch s13=>?_⟩
  refine q lp us' ss H4 (T3.trans S4) (T3.free nlp) hlp iss (.inr ⟨z,ch,zw,fun e=>?_,s13⟩)
  have:=aKA ch e
  rw[this] at zw
  exact ns zw
open Mt53 Mt22 MtF Mt31 Mt61
noncomputable def aNE(kvs:List (Key×V)):Fl:=fun n=>match fL kvs (Sum.inr n) with
 | some (.int i)=>i
 | _=>0
theorem dS{H:Hp}{ds:List Dv}{us:List V}(h:IsL H ds us):ds.length=us.length:=by have:=h.length;omega
theorem aIJ{G:List Gap}(nd:(G.map (·.nm)).Nodup)(f:Fl){g:Gap}(m:g∈G):aNE (eB G f) g.nm=f g.nm:=by
 unfold aNE
 rw[show fL (eB G f) (Sum.inr g.nm)=some (.int (f g.nm)) from zG (f:=fun g=>V.int (f g.nm)) nd m]
theorem xX{G:List Gap}{f f':Fl}(h:∀ g∈G,f g.nm=f' g.nm):val G f=val G f':=by
 unfold val net
 rw[eN fun g m=>show aDV f Mt22.sea g=aDV f' Mt22.sea g by unfold aDV;rw[h g m]]
theorem aNC{G:List Gap}{f:Fl}{n:Str}{x:Int}(m:n∈G.map (·.nm)):nZ (eB G f) (Sum.inr n) (.int x)=eB G (fun k=>if k=n then x else f k):=by
 unfold nZ
 have ha:((eB G f).any fun kv=>decide (kv.1=(Sum.inr n:Key)))=true:=by
  obtain⟨g,mg,e⟩:=AN.mp m
  refine Df.mpr ⟨_,AN.mpr ⟨g,mg,rfl⟩,?_⟩
  rw[← e]
  exact decide_eq_true rfl
 rw[if_pos ha]
 unfold eB
 rw[Aq]
 refine CK fun g _=>?_
 show (if (Sum.inr g.nm:Key)=Sum.inr n then ((Sum.inr g.nm:Key),V.int x) else (Sum.inr g.nm,V.int (f g.nm)))=(Sum.inr g.nm,V.int (if g.nm=n then x else f g.nm))
 by_cases e:g.nm=n
 ·rw[if_pos (by rw[e]),if_pos e]
 ·rw[if_neg (fun c=>e (EZ c)),if_neg e]
theorem aND{G:List Gap}{f:Fl}{s:Mt22.St}{m:Int}(ms:s∈Mt61.stepsOf G):nZ (eB G f) (Sum.inr s.nm) (.int (f s.nm+s.h*m))=eB G (jE m f s):=by
 obtain⟨g,mg,en,_⟩:=pQ ms
 rw[aNC (by rw[← en];exact AN.mpr ⟨g,mg,rfl⟩)]
 unfold eB
 refine CK fun g _=>?_
 show (Sum.inr g.nm,V.int (if g.nm=s.nm then f s.nm+s.h*m else f g.nm))=(Sum.inr g.nm,V.int (if g.nm=s.nm then f g.nm+s.h*m else f g.nm))
 by_cases e:g.nm=s.nm
 ·rw[if_pos e,if_pos e,e]
 ·rw[if_neg e,if_neg e]
theorem nC(G:List Gap)(f:Fl):(eB G f).length=G.length:=AA _
theorem aJW(G:List Gap)(f:Fl):(eB G f).map (·.1)=(G.map (·.nm)).map Sum.inr:=by
 unfold eB
 rw[Aq,Aq]
 rfl
theorem wR{G:List Gap}{f:Fl}:∀ s∈wS G f,s∈Mt61.stepsOf G:=fun s m=>(Am.mp m).1
def aKX:Sp:=sp3 fun x y u H Q=>∃ (l dm lw:Addr) (o:Obj) (us:List V) (V0:List Str) (G:List Gap) (ws:List Str),x=.ref l∧H l=some (.lst us)∧IsL H ((Mt61.stepsOf G).map bV) us∧G.length≤40∧V0.length≤13∧Gaps V0 G∧y=.ref dm∧H dm=some (.frz o (.dK (dU G)))∧u=.ref lw∧H lw=some (.lst (ws.map V.str))∧Mt22.sea∉ws ∧
 ∀ (de:Addr) (f:Fl) (H':Hp),aH H H'→H de=none→H' de=some (.dK (eB G f))→Stream V0 G ws f→aNZ G f ws→Q (.ref de) H'
theorem oB(T:Txt K mg C):Fc P w K mg base 4 "fullest_stream" ["steps","most","fields"] aKX:=by
 have G_p_path_with_room:Fc P w K mg base 3 "path_with_room" ["steps","most","stream","fields"] aAK:=oA T
 have G_p_room:Fc P w K mg base 1 "room" ["step","most","stream"] aFD:=yY T
 refine T.d_p_fullest_stream.fc cL rS (fun f cdv A outer s H vs Q E hr h=>?_)
 obtain⟨x,y,u,rfl,l,dm,lw,o,us,V0,G,ws,rfl,hl,ius,g40,v13,GG,rfl,hm,rfl,hlw,ns,q⟩:=h
 have big:=bU
 have hu:=qP hr
 refine⟨_,(@aE _ _ _ _ _ (@aV _ _ (3) _ _ _ _ cL.nd rfl (Or.inr rfl) (@dM _ _ _ _ _ _ _ _ _ (@eP _ rfl) rfl T.n_dict jC (@aA _ _ _ _ _ (@bZ _ _ _ _ _ _ _ _ _ _ _ ["name"] 1 [] rfl (@aLS _ _ _ _ (pv 1)) (fun R=>@aN _ _ (0) _ (show Ar (["name"]:List Str) by decide +kernel) rfl (Or.inl rfl) (by trivial)) (@aW _ _ (by decide)) (fun R=>bT) (fun R=>(@dW _ _ _ _ _ (@aA _ _ _ _ _ (pv 0) (@aA _ _ _ _ _ aD aB (by rfl)) (by rfl)))) (by rfl) (by rfl) (by rfl) (by rfl) (by rfl) (by rfl) (by rfl) (by intro _;rfl)) aB (by rfl)) (by decide) (by decide) (by rfl) (by rfl)) (by rfl) (by trivial)) (@aE _ _ _ _ _ (@aV _ _ (4) _ _ _ _ cL.nd rfl (Or.inl rfl) (@bC _ _ _ _ _ _ _ _ _ _ G_p_path_with_room (hr.mono (by decide)) (@aA _ _ _ _ _ (pv 0) (@aA _ _ _ _ _ (pv 1) (@aA _ _ _ _ _ (pv 3) (@aA _ _ _ _ _ (pv 2) aB (by rfl)) (by rfl)) (by rfl)) (by rfl)) (by rfl) (by decide) (by rfl) (by rfl)) (by rfl) (by trivial)) (@aE _ _ _ _ _ (@vP _ _ _ _ _ _ Ax (@aFN _ _ _ (pv 4) (by intro _;rfl)) (@aE _ _ _ _ _ (@aV _ _ (5) _ _ _ _ cL.nd rfl (Or.inl rfl) (@aS _ _ _ _ _ _ _ _ _ (@zU _ rfl) rfl T.n_min zX (@aA _ _ _ _ _ (@bZ _ _ _ _ _ _ _ _ _ _ _ ["step","most","stream"] 1 [1,3] rfl (@bG _ _ _ _ (pv 4)) (fun R=>@aN _ _ (0) _ (show Ar (["step","most","stream"]:List Str) by decide +kernel) rfl (Or.inl rfl) (by trivial)) (@aW _ _ (by decide)) (fun R=>bT) (fun R=>(@bC _ _ _ _ _ _ _ _ _ _ G_p_room (hr.mono (by decide)) (@aA _ _ _ _ _ (pv 0) (@aA _ _ _ _ _ (pv 1) (@aA _ _ _ _ _ (pv 2) aB (by rfl)) (by rfl)) (by rfl)) (by rfl) (by decide) (by rfl) (by rfl))) (by rfl) (by rfl) (by rfl) (by rfl) (by rfl) (by rfl) (by rfl) (by intro _;rfl)) aB (by rfl)) (by decide) (by decide) (by rfl) (by rfl)) (by rfl) (by trivial)) (@aE _ _ _ _ _ (@eS _ _ _ _ _ _ _ _ Ax rfl (@bG _ _ _ _ (pv 4)) (@aN _ _ (6) _ cL.nd rfl (Or.inl rfl) (by trivial)) (@aG _ _ _ (@aOX _ _ _ _ _ _ _ _ _ _ _ hu (pv 3) (@bA _ _ _ _ _ _ _ (@aT _ (K) rfl) (pv 6) aD (fun _ _=>rfl)) (@aK _ _ _ _ _ _ _ _ gC (@bA _ _ _ _ _ _ _ (@aT _ (K) rfl) (pv 6) aD (fun _ _=>rfl)) (pv 5)) aSY (fun _ _ _=>rfl))) (by intro _;rfl)) (@aG _ _ _ (@aV _ _ (4) _ _ _ _ cL.nd rfl (Or.inl rfl) (@bC _ _ _ _ _ _ _ _ _ _ G_p_path_with_room (hr.mono (by decide)) (@aA _ _ _ _ _ (pv 0) (@aA _ _ _ _ _ (pv 1) (@aA _ _ _ _ _ (pv 3) (@aA _ _ _ _ _ (pv 2) aB (by rfl)) (by rfl)) (by rfl)) (by rfl)) (by rfl) (by decide) (by rfl) (by rfl)) (by rfl) (by trivial)))))) (@aG _ _ _ (@aQ _ _ _ _ (pv 3)))))),?_⟩
 refine⟨_,rfl,dm,o,_,rfl,hm,?_⟩
 refine sJ (by rw[kI];omega) (fun i ys H'=>aH H H'∧cA H' ys (eB (G.take i) fun _=>0)) ⟨aH.refl _,cA.nil _⟩ ?_ ?_ ?_
 ·rintro i ys H' hi ⟨S',pa⟩
  have:=pa.len
  rw[nC,AH] at this
  exact⟨S' _ _ hm,by omega⟩
 ·rintro i kv ys H' K1 K2 hk ⟨S',pa⟩ k1 k2
  unfold dU at hk
  rw[AI] at hk
  obtain⟨g,eg,ekv⟩:=AY.mp hk
  have ek:kV kv.1=V.str g.nm:=by rw[← ekv];rfl
  rw[ek]
  refine⟨_,rfl,aM rfl,fun p3 hp3=>k1 _ _ ⟨S'.trans (aH.upd hp3),?_⟩⟩
  have e2:eB (G.take (i+1)) (fun _=>0)=eB (G.take i) (fun _=>0)++[(Sum.inr g.nm,V.int 0)]:=by
   unfold eB
   rw[AT,eg,AF]
   rfl
  rw[e2]
  exact cA.snoc (k:=Sum.inr g.nm) pa hp3
 rintro ys H1 ⟨S1,pa⟩
 rw[kI,AE (AS _)] at pa
 intro p4 hp4
 have S2:=aH.upd (o:=.lst ys) hp4
 refine⟨p4,ys,eB G fun _=>0,rfl,SqL.of aC,pa.same S2,by rw[nC];omega,by rw[aJW];exact (fU _).mpr GG.nd,fun de hde=>?_⟩
 have S3:=aH.upd (o:=.dK (eB G fun _=>0)) hde
 have T3:=S1.trans (S2.trans S3)
 have nde:=(S1.trans S2).free hde
 have he3:upd (upd H1 p4 (.lst ys)) de (.dK (eB G fun _=>0)) de=some (.dK (eB G fun _=>0)):=aC
 generalize upd (upd H1 p4 (.lst ys)) de (.dK (eB G fun _=>0))=H3 at S3 T3 he3
 have st0:Stream V0 G ws (fun _=>0):=Stream.none GG ws fun _ _=>rfl
 refine⟨_,rfl,_,rfl,_,rfl,_,rfl,_,_,_,_,l,dm,de,lw,us,V0,G,fun _=>0,ws,rfl,rfl,T3 _ _ hl,IsL.same T3 _ _ ius,g40,v13,GG,rfl,.inr ⟨o,T3 _ _ hm⟩,rfl,.inl he3,rfl,T3 _ _ hlw,ns,fun lp us4 ss H4 S4 nlp hlp iss go=>?_⟩
 refine uN (fun σ H'=>∃ (f5:Fl) (lp:Addr) (us5:List V) (ss:List Mt22.St) (v5 v6:Option V),σ=[some (.ref l),some (.ref dm),some (.ref lw),some (.ref de),some (.ref lp),v5,v6]∧aH H H'∧H' de=some (.dK (eB G f5))∧Stream V0 G ws f5∧H' lp=some (.lst us5)∧IsL H' (ss.map bV) us5∧aVP G f5 ws ss)
  (fun _ H'=>match H' de with | some (.dK kvs)=>(aCO G - val G (aNE kvs)).toNat | _=>0) ⟨fun _=>0,lp,us4,ss,_,_,rfl,T3.trans S4,S4 _ _ he3,st0,hlp,iss,go⟩ ?_ ?_
 ·rintro σ H5 ⟨f5,lp,us5,ss,v5,v6,rfl,S5,he5,st5,hlp5,iss5,go5⟩
  have lss:=dS iss5
  rw[AA] at lss
  refine⟨_,rfl,lp,us5,rfl,SqL.of hlp5,?_⟩
  rcases go5 with ⟨rfl,en⟩ | ⟨z,ch,mz,ne,s13⟩
  ·have:us5=[]:=List.eq_nil_of_length_eq_zero lss.symm
   subst this
   exact bO ⟨_,rfl,q de f5 H5 S5 nde he5 st5 en⟩
  have une:us5.isEmpty=false:=by
   cases us5 with
   | nil=>exact absurd (List.eq_nil_of_length_eq_zero lss) ne
   | cons a b=>rfl
  rw[une]
  refine cP ?_
  obtain⟨csub,cnd⟩:=zT ch
  have rpos:∀ s∈ss,0<Mt61.room G f5 s:=fun s m=>of_decide_eq_true (Am.mp (csub s m)).2
  have hm5:=S5 _ _ hm
  refine⟨_,rfl,lp,rfl,⟨_,SqL.of hlp5⟩,?_⟩
  refine bE (F:=K) (xs:=us5) (by omega) (fun i ys H'=>H5=H'∧ys=((ss.take i).map (Mt61.room G f5)).map V.int) ⟨rfl,rfl⟩ ?_ ?_ ?_
  ·rintro i ys H' hi ⟨rfl,rfl⟩
   exact⟨SqL.of hlp5,by rw[AA,AA,AH];omega⟩
  ·rintro i xv ys H' K1 K2 hx' ⟨rfl,rfl⟩ k1 k2
   have hil:i<us5.length:=(AB.mp hx').1
   obtain⟨st,es⟩:∃ st,ss[i]?=some st:=⟨_,AC (by omega)⟩
   obtain⟨v,ev,iv⟩:=iss5.get (show (ss.map bV)[i]?=some (bV st) by rw[AI,es];rfl)
   rw[hx'] at ev
   cases ev
   have ms:=AG es
   refine⟨_,rfl,_,rfl,_,rfl,_,_,_,rfl,dm,de,V0,G,f5,st,iv,wR _ (csub st ms),GG,rfl,.inr ⟨o,hm5⟩,rfl,.inl he5,k1 _ _ ⟨rfl,?_⟩⟩
   rw[AT,es,AF,AF]
   rfl
  rintro ys H6 ⟨rfl,rfl⟩
  rw[AE (by omega)]
  intro la hla
  have S6:=aH.upd (o:=.lst ((ss.map (Mt61.room G f5)).map V.int)) hla
  have r6:upd H5 la (.lst ((ss.map (Mt61.room G f5)).map V.int)) la=some (.lst ((ss.map (Mt61.room G f5)).map V.int)):=aC
  generalize upd H5 la (.lst ((ss.map (Mt61.room G f5)).map V.int))=H6 at S6 r6
  have T6:=S5.trans S6
  refine⟨la,ss.map (Mt61.room G f5),rfl,SqL.of r6,by rw[AA];exact List.length_pos_iff.mpr ne,fun M mM least=>?_⟩
  have M0:0<M:=by
   obtain⟨s,ms,rfl⟩:=AN.mp mM
   exact rpos s ms
  have hM:∀ s∈ss,M≤Mt61.room G f5 s:=fun s m=>least _ (AN.mpr ⟨s,m,rfl⟩)
  have he6:=S6 _ _ he5
  have hlp6:=S6 _ _ hlp5
  have iss6:=IsL.same S6 _ _ iss5
  refine⟨_,rfl,lp,rfl,⟨_,SqL.of hlp6⟩,gH (K:=K) (a:=lp) (xs:=us5) (fun i σ H'=>∃ v6,σ=[some (.ref l),some (.ref dm),some (.ref lw),some (.ref de),some (.ref lp),some (.int M),v6]∧aH H H'∧H' de=some (.dK (eB G ((ss.take i).foldl (jE M) f5)))∧H' lp=some (.lst us5)∧IsL H' (ss.map bV) us5) ⟨_,rfl,T6,he6,hlp6,iss6⟩ ?_ ?_ ?_⟩
  ·rintro i σ H' hi ⟨v6,rfl,S',he',hl',is'⟩
   exact SqL.of hl'
  ·rintro i xv σ H' hx ⟨v6,rfl,S',he',hl',is'⟩
   have hil:i<us5.length:=(AB.mp hx).1
   obtain⟨st,es⟩:∃ st,ss[i]?=some st:=⟨_,AC (by omega)⟩
   obtain⟨v,ev,iv⟩:=is'.get (show (ss.map bV)[i]?=some (bV st) by rw[AI,es];rfl)
   rw[hx] at ev
   cases ev
   have ms:=wR _ (csub st (AG es))
   obtain⟨t,rfl,ot⟩:=jT iv
   obtain⟨g,mg',en,hh⟩:=pQ ms
   have v2:fL (eB G ((ss.take i).foldl (jE M) f5)) (Sum.inr st.nm)=some (.int (((ss.take i).foldl (jE M) f5) st.nm)):=by rw[← en];exact zG (f:=fun g=>V.int (((ss.take i).foldl (jE M) f5) g.nm)) GG.nd mg'
   refine⟨_,rfl,_,rfl,t,_,0,.str st.nm,rfl,rfl,SqT.of ot,aO (j:=0) rfl,de,_,rfl,.inl ⟨_,Sum.inr st.nm,.inl he',rfl,v2.symm⟩,?_⟩
   refine⟨_,rfl,t,_,3,.int st.h,rfl,rfl,SqT.of ot,aO (j:=3) rfl,_,rfl,_,_,rfl,rfl,.inl (by rcases hh with h | h <;> rw[h] <;> exact⟨by decide,by decide⟩),_,_,rfl,rfl,_,.inl ⟨_,Sum.inr st.nm,he',rfl,by rw[nC];omega,rfl⟩,?_⟩
   rw[aND ms]
   have nlp':lp≠de:=zC hl' he' (by intro c;cases c)
   have KT:gN H' (upd H' de (.dK (eB G (jE M ((ss.take i).foldl (jE M) f5) st)))):=fun b ys e=>by
    rw[aI (fun c=>by rw[c,he'] at e;cases e)]
    exact e
   refine⟨_,rfl,S'.over nde,?_,by rw[aI nlp'];exact hl',IsL.keep KT _ _ (fE fun d m=>?_) is'⟩
   ·rw[aC,AT,es,Eb]
    rfl
   ·obtain⟨s,_,rfl⟩:=AN.mp m
    exact fP s
  ·rintro σ H7 ⟨v6,rfl,S7,he7,hl7,is7⟩
   rw[← lss,AE (AS _)] at he7
   obtain⟨st7,va7⟩:=st5.more GG ch wR (Int.le_of_lt M0) hM mz ns
   refine⟨_,rfl,_,rfl,_,rfl,_,rfl,_,_,_,_,l,dm,de,lw,us,V0,G,ss.foldl (jE M) f5,ws,rfl,rfl,S7 _ _ hl,IsL.same S7 _ _ ius,g40,v13,GG,rfl,.inr ⟨o,S7 _ _ hm⟩,rfl,.inl he7,rfl,S7 _ _ hlw,ns,fun lp8 us8 ss8 H8 S8 nlp8 hlp8 iss8 go8=>?_⟩
   refine⟨⟨_,lp8,us8,ss8,_,_,rfl,S7.trans S8,S8 _ _ he7,st7,hlp8,iss8,go8⟩,?_⟩
   rw[he5,S8 _ _ he7]
   show (aCO G - val G (aNE (eB G (ss.foldl (jE M) f5)))).toNat<(aCO G - val G (aNE (eB G f5))).toNat
   rw[xX fun g m=>aIJ GG.nd _ m,xX fun g m=>aIJ GG.nd f5 m,va7]
   have:=aIR GG st7.fits
   omega
 ·intro σ H Q Q' h hc
  obtain⟨v,e,p,xs,e2,hq,q⟩:=hc
  exact⟨v,e,p,xs,e2,hq,h _ _ q⟩
open Mt53 Mt22 MtF Mt31 Mt61
theorem aGP{H:Hp}{kvs:List (Key×V)}{cm:Cm}(h:CamKV H kvs cm)(z:Str):(fL kvs (Sum.inr z)).isSome=decide (z∈keys cm):=by
 by_cases m:z∈keys cm
 ·rw[h.some m,decide_eq_true m]
 ·rw[h.none m,decide_eq_false m]
  rfl
noncomputable def aJK(G:List Gap)(R:List Str):List Mt22.St:=(Mt61.stepsOf G).filter fun s=>!decide (s.far∈R)
noncomputable def jL(L:Int)(s:Mt22.St):Dv:=.tup [.str s.nm,.int L]
theorem fX{α:Type}{P:α→Bool}{xs:List α}{i:Nat}{x:α}(e:xs[i]?=some x):(xs.take (i+1)).filter P=(xs.take i).filter P++(if P x=true then [x] else []):=by
 rw[AT,e,Ci]
 cases h:P x <;> simp[h]
def aKU:Sp:=fun vs H Q _=>∃ (x y u v:V) (l df lw:Addr) (us:List V) (V0:List Str) (G:List Gap) (kvs:List (Key×V)) (cm:Cm) (ws:List Str) (L:Int),vs=[x,y,u,v]∧x=.ref l∧H l=some (.lst us)∧IsL H ((Mt61.stepsOf G).map bV) us∧G.length≤40∧V0.length≤13∧Gaps V0 G∧y=.ref df∧Rd H df (.dK kvs)∧CamKV H kvs cm∧u=.ref lw∧H lw=some (.lst (ws.map V.str))∧ws.Nodup∧(∀ z∈ws,z∈V0)∧v=.int L ∧
 ∀ (cmB:Cm) (lr:Addr) (us':List V) (H':Hp),aH H H'→H lr=none→H' lr=some (.lst us')→IsL H' ((eR G (keys cm) (keys cmB)).map (jL L)) us'→CameG ws (aJK G (keys cm)) cmB→uD (aJK G (keys cm)) cmB cmB.length→Q (.ref lr) H'
theorem aSO:∀ vs H Q E,aKU vs H Q E→vs.length=4:=fun vs H Q E ⟨x,y,u,v,l,df,lw,us,V0,G,kvs,cm,ws,L,e,_⟩=>by rw[e];rfl
theorem rL(T:Txt K mg C):Fc P w K mg base 2 "works_round" ["steps","flowed","fields","height"] aKU:=by
 have G_p_spread:Fc P w K mg base 1 "spread" ["starts","steps"] rA:=tG T
 refine T.d_p_works_round.fc jW aSO (fun f cdv A outer s H vs Q E hr h=>?_)
 obtain⟨x,y,u,v,l,df,lw,us,V0,G,kvs,cm,ws,lv,rfl,rfl,hl,ius,g40,v13,GG,rfl,hf,ck,rfl,hlw,ndw,subw,rfl,q⟩:=h
 have big:=bU
 have hu:=qP hr
 have lus:=dS ius
 have sl:=nM G
 rw[AA,sl] at lus
 refine⟨_,(@aE _ _ _ _ _ (@aV _ _ (4) _ _ _ _ jW.nd rfl (Or.inr rfl) (@bC _ _ _ _ _ _ _ _ _ _ G_p_spread (hr.mono (by decide)) (@aA _ _ _ _ _ (pv 2) (@aA _ _ _ _ _ (@bZ _ _ _ _ _ _ _ _ _ _ _ ["step","flowed"] 1 [1] rfl (@bG _ _ _ _ (pv 0)) (fun R=>@aN _ _ (0) _ (show Ar (["step","flowed"]:List Str) by decide +kernel) rfl (Or.inl rfl) (by trivial)) (@aW _ _ (by decide)) (fun R=>@fI _ _ _ (@aBD _ _ _ _ _ _ (@yW _ _ _ _ _ hu (@bA _ _ _ _ _ _ _ (@aT _ (K) rfl) (pv 0) aD (fun _ _=>rfl)) (pv 1)) (by first | exact nobehind _ (by decide) (by decide) | rfl))) (fun R=>(pv 0)) (by rfl) (by rfl) (by rfl) (by rfl) (by rfl) (by rfl) (by rfl) (by intro _;rfl)) aB (by rfl)) (by rfl)) (by rfl) (by decide) (by rfl) (by rfl)) (by rfl) (by trivial)) (@aG _ _ _ (@aQ _ _ _ _ (@bZ _ _ _ _ _ _ _ _ _ _ _ ["step","flowed","height","behind"] 1 [1,3,4] rfl (@bG _ _ _ _ (pv 0)) (fun R=>@aN _ _ (0) _ (show Ar (["step","flowed","height","behind"]:List Str) by decide +kernel) rfl (Or.inl rfl) (by trivial)) (@aW _ _ (by decide)) (fun R=>@fI _ _ _ (@PW.pt _ _ _ (@mJ _ _ _ _ _ _ _ (@aBD _ _ _ _ _ _ (@aLZ _ _ _ _ _ hu (@bA _ _ _ _ _ _ _ (@aT _ (K) rfl) (pv 0) aD (fun _ _=>rfl)) (pv 1)) (by first | exact nobehind _ (by decide) (by decide) | rfl)) (@kQ _ _ _ _ (@aBD _ _ _ _ _ _ (@aLZ _ _ _ _ _ hu (@bA _ _ _ _ _ _ _ (@aT _ (K) rfl) (pv 0) aD (fun _ _=>rfl)) (pv 3)) (by first | exact nobehind _ (by decide) (by decide) | rfl)))))) (fun R=>(@dW _ _ _ _ _ (@aA _ _ _ _ _ (@bA _ _ _ _ _ _ _ (@aT _ (K) rfl) (pv 0) aD (fun _ _=>rfl)) (@aA _ _ _ _ _ (pv 2) aB (by rfl)) (by rfl)))) (by rfl) (by rfl) (by rfl) (by rfl) (by rfl) (by rfl) (by rfl) (by intro _;rfl))))),?_⟩
 refine⟨_,rfl,_,rfl,l,rfl,⟨_,SqL.of hl⟩,?_⟩
 refine bE (F:=K) (xs:=us) (by omega) (fun i ys H'=>H=H'∧IsL H' ((((Mt61.stepsOf G).take i).filter fun s=>!decide (s.far∈keys cm)).map bV) ys) ⟨rfl,rfl⟩ ?_ ?_ ?_
 ·rintro i ys H' hi ⟨rfl,iy⟩
  refine⟨SqL.of hl,?_⟩
  have:=iy.length
  have:=Av (fun s:Mt22.St=>!decide (s.far∈keys cm)) ((Mt61.stepsOf G).take i)
  rw[AH] at this
  rw[AA] at *
  omega
 ·rintro i xv ys H' K1 K2 hx' ⟨rfl,iy⟩ k1 k2
  have hil:i<us.length:=(AB.mp hx').1
  obtain⟨st,es⟩:∃ st,(Mt61.stepsOf G)[i]?=some st:=⟨_,AC (by omega)⟩
  obtain⟨v,ev,iv⟩:=ius.get (show ((Mt61.stepsOf G).map bV)[i]?=some (bV st) by rw[AI,es];rfl)
  rw[hx'] at ev
  cases ev
  obtain⟨t,rfl,o⟩:=jT iv
  have et:=fX (P:=fun s:Mt22.St=>!decide (s.far∈keys cm)) es
  refine⟨_,rfl,t,_,2,.str st.far,rfl,rfl,SqT.of o,aO (j:=2) rfl,_,rfl,df,_,rfl,.inl ⟨kvs,Sum.inr st.far,hf,rfl,rfl⟩,_,rfl,?_⟩
  rw[aGP ck]
  cases hg:(!decide (st.far∈keys cm)) with
  | false =>
   rw[hg] at et
   refine bO (k2 _ ⟨rfl,?_⟩)
   rw[et]
   simpa using iy
  | true =>
   rw[hg] at et
   refine cP ⟨_,rfl,k1 _ _ ⟨rfl,?_⟩⟩
   rw[et,if_pos rfl,AF]
   exact IsL.snoc iv iy
 rintro ys H2 ⟨rfl,iy⟩
 rw[AE (by omega)] at iy
 intro l2 h2
 have S2:=aH.upd (o:=.lst ys) h2
 refine⟨_,_,rfl,lw,l2,ys,aJK G (keys cm),ws,V0,rfl,rfl,ndw,subw,S2 _ _ hlw,aC,IsL.same S2 _ _ iy,?_,v13,fun s m=>(aIL GG (Am.mp m).1).2,fun db cmB kvB H3 S3 ndb hdb ckB cgB opB l13=>?_⟩
 ·have:=Av (fun s:Mt22.St=>!decide (s.far∈keys cm)) (Mt61.stepsOf G)
  unfold aJK
  omega
 have T3:=S2.trans S3
 have ius3:=IsL.same T3 _ _ ius
 refine⟨_,rfl,l,rfl,⟨_,SqL.of (T3 _ _ hl)⟩,?_⟩
 refine bE (F:=K) (xs:=us) (by omega) (fun i ys H'=>aH H3 H'∧IsL H' ((((Mt61.stepsOf G).take i).filter fun s=>decide (s.near∈keys cm) && decide (s.far∈keys cmB)).map (jL lv)) ys) ⟨aH.refl _,rfl⟩ ?_ ?_ ?_
 ·rintro i ys H' hi ⟨S',iy⟩
  refine⟨SqL.of (S' _ _ (T3 _ _ hl)),?_⟩
  have:=iy.length
  have:=Av (fun s:Mt22.St=>decide (s.near∈keys cm) && decide (s.far∈keys cmB)) ((Mt61.stepsOf G).take i)
  rw[AH] at this
  rw[AA] at *
  omega
 ·rintro i xv ys H' K1 K2 hx' ⟨S',iy⟩ k1 k2
  have hil:i<us.length:=(AB.mp hx').1
  obtain⟨st,es⟩:∃ st,(Mt61.stepsOf G)[i]?=some st:=⟨_,AC (by omega)⟩
  obtain⟨v,ev,iv⟩:=(IsL.same S' _ _ ius3).get (show ((Mt61.stepsOf G).map bV)[i]?=some (bV st) by rw[AI,es];rfl)
  rw[hx'] at ev
  cases ev
  obtain⟨t,rfl,o⟩:=jT iv
  have et:=fX (P:=fun s:Mt22.St=>decide (s.near∈keys cm) && decide (s.far∈keys cmB)) es
  have no:(decide (st.near∈keys cm) && decide (st.far∈keys cmB))=false→K2 H':=fun hg=>by
   refine k2 _ ⟨S',?_⟩
   rw[et,hg]
   simpa using iy
  refine⟨_,rfl,t,_,1,.str st.near,rfl,rfl,SqT.of o,aO (j:=1) rfl,_,rfl,df,_,rfl,.inl ⟨kvs,Sum.inr st.near,qH hf (T3.trans S'),rfl,rfl⟩,_,rfl,?_⟩
  rw[aGP ck]
  cases h1:decide (st.near∈keys cm) with
  | false=>exact bO (no (by rw[h1];rfl))
  | true =>
   refine cP ?_
   refine⟨_,rfl,t,_,2,.str st.far,rfl,rfl,SqT.of o,aO (j:=2) rfl,_,rfl,db,_,rfl,.inl ⟨kvB,Sum.inr st.far,.inl (S' _ _ hdb),rfl,rfl⟩,_,rfl,?_⟩
   rw[aGP ckB]
   cases h2:decide (st.far∈keys cmB) with
   | false=>exact bO (no (by rw[h1,h2];rfl))
   | true =>
    refine cP ⟨_,rfl,t,_,0,.str st.nm,rfl,rfl,SqT.of o,aO (j:=0) rfl,_,rfl,aM rfl,fun ta hta=>k1 _ _ ⟨S'.trans (aH.upd hta),?_⟩⟩
    rw[h1,h2] at et
    rw[et,AF]
    exact IsL.snoc (show Is _ (jL lv st) (.ref ta) from⟨ta,_,rfl,aC,_,_,rfl,rfl,_,_,rfl,rfl,rfl⟩) (IsL.same (aH.upd hta) _ _ iy)
 rintro ys4 H4 ⟨S4,iy4⟩
 rw[AE (by omega)] at iy4
 intro lr hlr
 have S5:=aH.upd (o:=.lst ys4) hlr
 exact q cmB lr ys4 _ (T3.trans (S4.trans S5)) ((T3.trans S4).free hlr) aC (IsL.same S5 _ _ iy4) cgB opB
open Mt53 Mt22 MtF Mt31 Mt61
theorem aNQ{zs:List Str}{S:List Mt22.St}{cm:Cm}(h:CameG zs S cm){R:List Str}(hz:∀ z∈zs,z∈R)(cl:∀ s∈S,s.near∈R→s.far∈R):∀ z∈keys cm,z∈R:=by
 have:∀ (n i:Nat) (z:Str),i<n→(keys cm)[i]?=some z→z∈R:=by
  intro n
  induction n with
  | zero=>intro i z hi;omega
  | succ n ih =>
   intro i z hi e
   unfold keys at e
   rw[AI] at e
   obtain⟨⟨z',o⟩,e',rfl⟩:=AY.mp e
   by_cases hl:i<zs.length
   ·obtain⟨y,ey⟩:∃ y,zs[i]?=some y:=⟨_,AC hl⟩
    have:=h.first i y ey
    rw[e'] at this
    cases this
    exact hz _ (AG ey)
   ·obtain⟨s,_,ms,ef,hn⟩:=h.prev i z' o (by omega) e'
    obtain⟨j,hj⟩:=BD.mp hn
    have hjl:=(AB.mp hj).1
    unfold keys at hjl
    rw[AA,AH] at hjl
    have hj':(keys cm)[j]?=some s.near:=by
     unfold keys at hj ⊢
     rw[AI,Be (by omega)] at hj
     rw[AI]
     exact hj
    show z'∈R
    rw[← ef]
    exact cl s ms (ih j _ (by omega) hj')
 intro z m
 obtain⟨i,hi⟩:=BD.mp m
 exact this (i+1) i z (by omega) hi
theorem aLI{V0:List Str}{G:List Gap}(GG:Gaps V0 G){f:Fl}{ws:List Str}(en:aNZ G f ws){cm cmB:Cm}(cg:CameG [Mt22.sea] (wS G f) cm)(op:uD (wS G f) cm cm.length)(cgB:CameG ws (aJK G (keys cm)) cmB)(opB:uD (aJK G (keys cm)) cmB cmB.length):Round G f ws (keys cm) (keys cmB):=by
 obtain⟨cm1,cg1,op1,out⟩:=en
 have sub:=aNQ cg (R:=keys cm1) (fun z m=>by rw[AL.mp m];exact cg1.start (AL.mpr rfl)) (mO op1)
 have wout:∀ z∈ws,z∉keys cm:=fun z m k=>out z m (sub z k)
 refine⟨cg.start (AL.mpr rfl),fun s ms hr hn=>?_,wout,fun z m=>cgB.start m,fun z m=>?_,fun s ms hf hn=>?_⟩
 ·exact mO op s (Am.mpr ⟨ms,decide_eq_true hr⟩) hn
 ·rcases cgB.mem m with m | ⟨s,ms,rfl⟩
  ·exact wout z m
  ·have:=(Am.mp ms).2
   simpa using this
 ·exact mO opB s (Am.mpr ⟨ms,by simpa using hf⟩) hn
theorem aDI{R B:List Str}(out:∀ z∈B,z∉R):∀ {G:List Gap},(G.map (·.nm)).Nodup→((eR G R B).map (·.nm)).Nodup∧∀ n∈(eR G R B).map (·.nm),n∈G.map (·.nm)
 | [],_=>⟨by simp[eR,Mt61.stepsOf],fun n m=>by simp[eR,Mt61.stepsOf] at m⟩
 | g :: G,nd=>by
  rw[AX,Ap] at nd
  obtain⟨h1,h2⟩:=aDI out nd.2
  have e:eR (g :: G) R B=([up g,dn g].filter fun s=>decide (s.near∈R) && decide (s.far∈B))++eR G R B:=by
   unfold eR Mt61.stepsOf
   rw[Ec,Ci]
  have hf:([up g,dn g].filter fun s=>decide (s.near∈R) && decide (s.far∈B))=[]∨∃ s,s.nm=g.nm∧([up g,dn g].filter fun s=>decide (s.near∈R) && decide (s.far∈B))=[s]:=by
   rw[Em]
   cases hu:(decide ((up g).near∈R) && decide ((up g).far∈B)) with
   | true =>
    rw[AU] at hu
    have ub:g.b∈B:=of_decide_eq_true hu.2
    have:(decide ((dn g).near∈R) && decide ((dn g).far∈B))=false:=by
     have:(dn g).near∉R:=out _ ub
     rw[decide_eq_false this]
     rfl
    rw[Em,this]
    exact .inr ⟨up g,rfl,rfl⟩
   | false =>
    rw[Em]
    cases hd:(decide ((dn g).near∈R) && decide ((dn g).far∈B)) with
    | true=>exact .inr ⟨dn g,rfl,rfl⟩
    | false=>exact .inl rfl
  rw[e]
  rcases hf with hf | ⟨s,en,hf⟩
  ·rw[hf,Do]
   exact⟨h1,fun n m=>AO _ (h2 n m)⟩
  ·rw[hf]
   refine⟨?_,fun n m=>?_⟩
   ·rw[AF,AX,CO,List.singleton_append,Ap,en]
    exact⟨fun m=>nd.1 (h2 _ m),h1⟩
   ·rw[AF] at m
    rcases Ab.mp m with m | m
    ·rw[AX,CO,AL,en] at m
     rw[m]
     exact AQ
    ·exact AO _ (h2 n m)
theorem yS{G:List Gap}{R B:List Str}:∀ s∈eR G R B,s∈Mt61.stepsOf G:=fun s m=>(Am.mp m).1
theorem aEM{fs ds:List Dv}{zs:List Str}(gd:GoodD zs ds){L:Int}{V0:List Str}(GG:Gaps V0 (aU fs ds L)){s:Mt22.St}(m:s∈Mt61.stepsOf (aU fs ds L)):aEN ds (jL L s)=qT (aU fs ds L) s.nm∧s.nm∈ds.map aP∧gI ds s.nm≤L:=by
 obtain⟨g,mg,en,_⟩:=pQ m
 obtain⟨d,md,hg,rfl,ed⟩:=aEE gd mg
 have ec:=wZ gd.nd md
 have er:=aHT gd.nd md
 have cap:=nF GG mg
 rw[← en,← ed]
 rw[← ed] at cap
 refine⟨?_,AN.mpr ⟨d,md,rfl⟩,?_⟩
 ·show vO ds s.nm*(L - gI ds s.nm)=_
  rw[← en,← ed,cap,ec,er]
  obtain⟨n,a,b,c,r,sl,rfl,_⟩:=bQ (gd.all d md)
  rfl
 ·rw[ec]
  obtain⟨n,a,b,c,r,sl,rfl,_⟩:=bQ (gd.all d md)
  have h1:c<L:=of_decide_eq_true (Ai.mp (show (decide (c<L) && (iC fs L a && iC fs L b))=true from hg)).1
  show c≤L
  omega
theorem aFA{fs ds:List Dv}{zs:List Str}(gd:GoodD zs ds){L:Int}(hL:hgt L=true){V0:List Str}(GG:Gaps V0 (aU fs ds L)){R B:List Str}(out:∀ z∈B,z∉R):GoodW ds ((eR (aU fs ds L) R B).map (jL L)):=by
 refine⟨fun d m=>?_,?_⟩
 ·obtain⟨s,ms,rfl⟩:=AN.mp m
  obtain⟨_,h2,h3⟩:=aEM gd GG (yS s ms)
  show (decide (s.nm∈ds.map aP) && (hgt L && decide (gI ds s.nm≤L)))=true
  rw[decide_eq_true h2,hL,decide_eq_true h3]
  rfl
 ·rw[Aq]
  exact (aDI out GG.nd).1
theorem aFB{fs ds:List Dv}{zs:List Str}(gd:GoodD zs ds){L:Int}{V0:List Str}(GG:Gaps V0 (aU fs ds L)){f:Fl}{ws R B:List Str}(st:Stream V0 (aU fs ds L) ws f)(r:Round (aU fs ds L) f ws R B):aBZ ds ((eR (aU fs ds L) R B).map (jL L))=val (aU fs ds L) f:=by
 rw[← aFM GG st r]
 unfold aBZ
 rw[Aq]
 show sm _ _=_
 exact eN fun s m=>(aEM gd GG (yS s m)).1
theorem aJE{G:List Gap}{R B:List Str}:(eR G R B).length≤2*G.length:=by
 rw[← nM]
 exact Av _ _
noncomputable def aQY(f:Fl)(g:Gap):Dv:=.tup [.str g.nm,.int (f g.nm)]
noncomputable def aNW(G:List Gap)(f:Fl):List Dv:=(G.filter fun g=>!decide (f g.nm=0)).map (aQY f)
def aCW(C:Addr):Sp:=sp3 fun x y u H Q=>∃ (p l:Addr) (fs ds:List Dv) (zs:List Str) (L:Int),x=.ref p∧LandAt C H p fs ds∧y=.ref l∧H l=some (.lst (zs.map V.str))∧1≤zs.length∧zs.Nodup∧(∀ z∈zs,z∈fs.map aP)∧u=.int L∧hgt L=true ∧
 ∀ (t lk la:Addr) (uk ua:List V) (f:Fl) (R B:List Str) (H':Hp),aH H H'→H t=none→H lk=none→H la=none→lk≠la→H' t=some (.tup [.int (val (aU fs ds L) f),.ref lk,.ref la])→H' lk=some (.lst uk)→IsL H' ((eR (aU fs ds L) R B).map (jL L)) uk→H' la=some (.lst ua)→IsL H' (aNW (aU fs ds L) f) ua→Stream ("sea" :: fs.map aP) (aU fs ds L) zs f→Round (aU fs ds L) f zs R B→Q (.ref t) H'
theorem aDU(T:Txt K mg C):Fc P w K mg base 6 "fewest" ["land","fields","height"] (aCW C):=by
 have G_p_check_wish:Fc P w K mg base 3 "check_wish" ["land","fields","height"] (pT C):=iF T
 have G_p_gap_coins:Fc P w K mg base 4 "gap_coins" ["land","height"] (aKW C):=vW T
 have G_p_steps_over:Fc P w K mg base 2 "steps_over" ["land","names"] (aCT C):=tW T
 have G_p_fullest_stream:Fc P w K mg base 4 "fullest_stream" ["steps","most","fields"] aKX:=oB T
 have G_p_reached:Fc P w K mg base 2 "reached" ["steps","most","stream"] rB:=qJ T
 have G_p_works_round:Fc P w K mg base 2 "works_round" ["steps","flowed","fields","height"] aKU:=rL T
 have G_p_coins_of:Fc P w K mg base 5 "coins_of" ["land","works"] (yE C):=xQ T
 refine T.d_p_fewest.fc fQ rS (fun f cdv A outer s H vs Q E hr h=>?_)
 obtain⟨x,y,u,rfl,p,l,fs,ds,zs,lv,rfl,L,rfl,hl,l1,nd,sub,rfl,hL,q⟩:=h
 have big:=bU
 have hu:=qP hr
 have gf:=(cK L).1
 have gd:=(cK L).2
 have d2:=gd.l2
 have f2:=gf.l2
 have GG:=qQ gf gd lv
 have gl:=kH fs ds lv
 have v13:(("sea":Str) :: fs.map aP).length≤13:=by rw[Af,AA];omega
 have ns:Mt22.sea∉zs:=fun m=>by
  obtain⟨d,md,e⟩:=AN.mp (sub _ m)
  obtain⟨z,g,u,rfl,hz,_⟩:=bH (gf.all d md)
  exact pY hz e
 refine⟨_,(@aE _ _ _ _ _ (@dB _ _ _ _ (@bC _ _ _ _ _ _ _ _ _ _ G_p_check_wish (hr.mono (by decide)) (@aA _ _ _ _ _ (pv 0) (@aA _ _ _ _ _ (pv 1) (@aA _ _ _ _ _ (pv 2) aB (by rfl)) (by rfl)) (by rfl)) (by rfl) (by decide) (by rfl) (by rfl)) (by rfl)) (@aE _ _ _ _ _ (@aV _ _ (3) _ _ _ _ fQ.nd rfl (Or.inl rfl) (@bC _ _ _ _ _ _ _ _ _ _ G_p_gap_coins (hr.mono (by decide)) (@aA _ _ _ _ _ (pv 0) (@aA _ _ _ _ _ (pv 2) aB (by rfl)) (by rfl)) (by rfl) (by decide) (by rfl) (by rfl)) (by rfl) (by trivial)) (@aE _ _ _ _ _ (@aV _ _ (4) _ _ _ _ fQ.nd rfl (Or.inl rfl) (@bC _ _ _ _ _ _ _ _ _ _ G_p_steps_over (hr.mono (by decide)) (@aA _ _ _ _ _ (pv 0) (@aA _ _ _ _ _ (pv 3) aB (by rfl)) (by rfl)) (by rfl) (by decide) (by rfl) (by rfl)) (by rfl) (by trivial)) (@aE _ _ _ _ _ (@aV _ _ (5) _ _ _ _ fQ.nd rfl (Or.inr rfl) (@bC _ _ _ _ _ _ _ _ _ _ G_p_fullest_stream (hr.mono (by decide)) (@aA _ _ _ _ _ (pv 4) (@aA _ _ _ _ _ (pv 3) (@aA _ _ _ _ _ (pv 1) aB (by rfl)) (by rfl)) (by rfl)) (by rfl) (by decide) (by rfl) (by rfl)) (by rfl) (by trivial)) (@aE _ _ _ _ _ (@aV _ _ (6) _ _ _ _ fQ.nd rfl (Or.inl rfl) (@bC _ _ _ _ _ _ _ _ _ _ G_p_works_round (hr.mono (by decide)) (@aA _ _ _ _ _ (pv 4) (@aA _ _ _ _ _ (@bC _ _ _ _ _ _ _ _ _ _ G_p_reached (hr.mono (by decide)) (@aA _ _ _ _ _ (pv 4) (@aA _ _ _ _ _ (pv 3) (@aA _ _ _ _ _ (pv 5) aB (by rfl)) (by rfl)) (by rfl)) (by rfl) (by decide) (by rfl) (by rfl)) (@aA _ _ _ _ _ (pv 1) (@aA _ _ _ _ _ (pv 2) aB (by rfl)) (by rfl)) (by rfl)) (by rfl)) (by rfl) (by decide) (by rfl) (by rfl)) (by rfl) (by trivial)) (@aE _ _ _ _ _ (@fA _ (7) _ _ _ _ _ _ _ _ _ _ _ _ _ fQ.nd rfl ["name","stream"] 1 [5] rfl (@aBF _ _ _ _ (pv 5)) (fun R=>@aN _ _ (0) _ (show Ar (["name","stream"]:List Str) by decide +kernel) rfl (Or.inl rfl) (by trivial)) (@aW _ _ (by decide)) (fun R=>@fI _ _ _ (@bK _ _ _ _ _ _ _ _ yX (@jI _ _ _ _ _ _ hu (pv 1) (pv 0) (fun _ _=>rfl)) aD (@bI _ _ (by decide) (by decide)))) (fun R=>(@dW _ _ _ _ _ (@aA _ _ _ _ _ (pv 0) (@aA _ _ _ _ _ (@jI _ _ _ _ _ _ hu (pv 1) (pv 0) (fun _ _=>rfl)) aB (by rfl)) (by rfl)))) (by exact Or.inl rfl) (by trivial) (by rfl) (by rfl) (by rfl) (by rfl) (by rfl) (by rfl) (by rfl) (by rfl) (by intro _;rfl)) (@aG _ _ _ (@aQ _ _ _ _ (@dW _ _ _ _ _ (@aA _ _ _ _ _ (@bC _ _ _ _ _ _ _ _ _ _ G_p_coins_of (hr.mono (by decide)) (@aA _ _ _ _ _ (pv 0) (@aA _ _ _ _ _ (pv 6) aB (by rfl)) (by rfl)) (by rfl) (by decide) (by rfl) (by rfl)) (@aA _ _ _ _ _ (pv 6) (@aA _ _ _ _ _ (pv 7) aB (by rfl)) (by rfl)) (by rfl))))))))))),?_⟩
 refine⟨_,rfl,_,rfl,_,rfl,_,_,_,rfl,p,l,fs,ds,zs,lv,rfl,L,rfl,hl,l1,nd,sub,rfl,hL,fun H1 S1=>?_⟩
 refine⟨_,rfl,_,rfl,_,_,rfl,p,fs,ds,lv,rfl,L.same S1,rfl,fun dm H2 S2 nm2 hm2=>?_⟩
 have T2:=S1.trans S2
 refine⟨_,rfl,_,rfl,_,_,rfl,p,dm,fs,ds,lv,rfl,L.same T2,rfl,hm2,fun o ls us H3 S3 nls hls ius=>?_⟩
 have nmH:H dm=none:=S1.free nm2
 have T3:aH H H3:=fun b u e=>S3 _ _ (by rw[aI (fun c=>by rw[c,nmH] at e;cases e)];exact T2 _ _ e)
 have hm3:H3 dm=some (.frz o (.dK (dU (aU fs ds lv)))):=S3 _ _ aC
 refine⟨_,rfl,_,rfl,_,rfl,_,_,_,rfl,ls,dm,l,o,us,"sea" :: fs.map aP,aU fs ds lv,zs,rfl,hls,ius,by omega,v13,GG,rfl,hm3,rfl,T3 _ _ hl,ns,fun de fl H4 S4 nde hde st en=>?_⟩
 have T4:=T3.trans S4
 have ius4:=IsL.same S4 _ _ ius
 refine⟨_,rfl,_,rfl,_,rfl,_,rfl,_,_,_,rfl,ls,dm,de,us,"sea" :: fs.map aP,aU fs ds lv,fl,rfl,S4 _ _ hls,ius4,by omega,v13,GG,rfl,.inr ⟨o,S4 _ _ hm3⟩,rfl,.inl hde,fun df cm kvs H5 S5 ndf hdf ck cg op l13=>?_⟩
 have T5:=T4.trans S5
 refine⟨_,rfl,_,rfl,_,_,_,_,ls,df,l,us,"sea" :: fs.map aP,aU fs ds lv,kvs,cm,zs,lv,rfl,rfl,(S4.trans S5) _ _ hls,IsL.same S5 _ _ ius4,by omega,v13,GG,rfl,.inl hdf,ck,rfl,T5 _ _ hl,nd,fun z m=>AO _ (sub z m),rfl,fun cmB lk uk H6 S6 nlk hlk iuk cgB opB=>?_⟩
 have rd:=aLI GG en cg op cgB opB
 have T6:=T5.trans S6
 have hde6:=(S5.trans S6) _ _ hde
 have ndeH:H de=none:=T3.free nde
 refine⟨_,rfl,de,_,rfl,hde6,fun o2=>?_⟩
 have T7:aH H (upd H6 de (.frz o2 (.dK (eB (aU fs ds lv) fl)))):=T6.over ndeH
 have K7:gN H6 (upd H6 de (.frz o2 (.dK (eB (aU fs ds lv) fl)))):=fun b ys e=>by
  rw[aI (fun c=>by rw[c,hde6] at e;cases e)]
  exact e
 have iuk7:IsL (upd H6 de (.frz o2 (.dK (eB (aU fs ds lv) fl)))) ((eR (aU fs ds lv) (keys cm) (keys cmB)).map (jL lv)) uk:=IsL.keep K7 _ _ (fE fun d m=>by obtain⟨s,_,rfl⟩:=AN.mp m;rfl) iuk
 have hlk7:upd H6 de (.frz o2 (.dK (eB (aU fs ds lv) fl))) lk=some (.lst uk):=by rw[aI (zC hlk hde6 (by intro c;cases c))];exact hlk
 have dF:upd H6 de (.frz o2 (.dK (eB (aU fs ds lv) fl))) de=some (.frz o2 (.dK (eB (aU fs ds lv) fl))):=aC
 generalize upd H6 de (.frz o2 (.dK (eB (aU fs ds lv) fl)))=H7 at T7 iuk7 hlk7 dF
 refine sJ (by rw[nC];omega) (fun i ys H'=>aH H7 H'∧IsL H' (aNW ((aU fs ds lv).take i) fl) ys) ⟨aH.refl _,rfl⟩ ?_ ?_ ?_
 ·rintro i ys H' hi ⟨S',iy⟩
  refine⟨S' _ _ dF,?_⟩
  have:=iy.length
  unfold aNW at this
  have:=Av (fun g:Gap=>!decide (fl g.nm=0)) ((aU fs ds lv).take i)
  rw[AH] at this
  rw[AA] at *
  omega
 ·rintro i kv ys H' K1 K2 hk ⟨S',iy⟩ k1 k2
  unfold eB at hk
  rw[AI] at hk
  obtain⟨g,eg,ekv⟩:=AY.mp hk
  have mg':=AG eg
  have ek:kV kv.1=V.str g.nm:=by rw[← ekv];rfl
  rw[ek]
  have v2:fL (eB (aU fs ds lv) fl) (Sum.inr g.nm)=some (.int (fl g.nm)):=zG (f:=fun g=>V.int (fl g.nm)) GG.nd mg'
  have et:=fX (P:=fun g:Gap=>!decide (fl g.nm=0)) eg
  refine⟨_,rfl,_,rfl,de,_,rfl,.inl ⟨_,Sum.inr g.nm,.inr ⟨o2,S' _ _ dF⟩,rfl,v2.symm⟩,rfl,_,rfl,?_⟩
  rw[jJ]
  cases hg:(!decide (fl g.nm=0)) with
  | false =>
   rw[hg] at et
   refine bO (k2 _ ⟨S',?_⟩)
   unfold aNW at iy ⊢
   rw[et]
   simpa using iy
  | true =>
   rw[hg] at et
   refine cP ⟨_,rfl,_,rfl,_,rfl,de,_,rfl,.inl ⟨_,Sum.inr g.nm,.inr ⟨o2,S' _ _ dF⟩,rfl,v2.symm⟩,aM rfl,fun ta hta=>k1 _ _ ⟨S'.trans (aH.upd hta),?_⟩⟩
   unfold aNW
   rw[et,if_pos rfl,AF]
   exact IsL.snoc (show Is _ (aQY fl g) (.ref ta) from⟨ta,_,rfl,aC,_,_,rfl,rfl,_,_,rfl,rfl,rfl⟩) (IsL.same (aH.upd hta) _ _ iy)
 rintro ua H8 ⟨S8,iua⟩
 rw[nC,AE (AS _)] at iua
 intro la hla
 have S9:=aH.upd (o:=.lst ua) hla
 have r9:upd H8 la (.lst ua) la=some (.lst ua):=aC
 have T9:=T7.trans (S8.trans S9)
 have nla:=(T7.trans S8).free hla
 have U9:=S8.trans S9
 have iua9:=IsL.same S9 _ _ iua
 have nlka:lk≠la:=aJ (S8 _ _ hlk7) hla
 generalize upd H8 la (.lst ua)=H9 at S9 r9 T9 U9 iua9
 have iuk9:=IsL.same U9 _ _ iuk7
 have hlk9:=U9 _ _ hlk7
 have rl:=aJE (G:=aU fs ds lv) (R:=keys cm) (B:=keys cmB)
 refine⟨_,rfl,_,rfl,_,_,rfl,p,fs,ds,(eR (aU fs ds lv) (keys cm) (keys cmB)).map (jL lv),rfl,L.same T9,⟨lk,uk,rfl,hlk9,iuk9⟩,by rw[AA];omega,aFA gd hL GG rd.bout,_,rfl,_,rfl,aM rfl,fun t ht=>?_⟩
 have S10:=aH.upd (o:=.tup [.int (aBZ ds ((eR (aU fs ds lv) (keys cm) (keys cmB)).map (jL lv))),.ref lk,.ref la]) ht
 refine q t lk la uk ua fl (keys cm) (keys cmB) _ (T9.trans S10) (T9.free ht) (T5.free nlk) nla nlka ?_ (S10 _ _ hlk9) (IsL.same S10 _ _ iuk9) (S10 _ _ r9) (IsL.same S10 _ _ iua9) st rd
 rw[aC,aFB gd GG st rd]
open Mt53 Mt22 MtF Mt31 Mt61
theorem aGA{V0:List Str}{G:List Gap}(GG:Gaps V0 G):fZ G [] 0:=by
 refine⟨⟨fun _=>false,rfl,fun z m=>(nomatch m),jH fun g _=>if_pos rfl⟩,fun X _ _=>?_⟩
 have:sm G (fun _=>(0:Int))≤sm G (tN X):=aHN fun g m=>by
  have:=GG.cap g m
  unfold tN
  split <;> omega
 rw[jH fun _ _=>rfl] at this
 exact this
def aHK:Sp:=sp1 fun x H Q=>∃ L:Int,x=.int L∧hgt L=true∧Q (.int 0) H
theorem qL(T:Txt K mg C):Fc P w K mg base 3 "cost_of_none" ["height"] aHK:=by
 have G_p_is_height:Fc P w K mg base 2 "is_height" ["thing"] hU:=dI T
 refine T.d_p_cost_of_none.fc pZ oE (fun f cdv A outer s H vs Q E hr h=>?_)
 obtain⟨x,rfl,lv,rfl,hL,q⟩:=h
 refine⟨_,(@aE _ _ _ _ _ (@dG _ _ _ _ _ _ _ _ (@dA _ _ _ _ (@cR _ _ _ (@bC _ _ _ _ _ _ _ _ _ _ G_p_is_height (hr.mono (by decide)) (@aA _ _ _ _ _ (pv 0) aB (by rfl)) (by rfl) (by decide) (by rfl) (by rfl)) (by intro _;rfl))) (@aG _ _ _ kB) bP) (@aG _ _ _ (@aQ _ _ _ _ aD))),?_⟩
 refine⟨_,rfl,_,rfl,.int lv,rfl,_,rfl,?_⟩
 rw[show eA (.int lv)=true from hL]
 exact bO q
def aFG(C:Addr):Sp:=sp3 fun x y u H Q=>∃ (p l:Addr) (fs ds:List Dv) (zs:List Str) (L:Int),x=.ref p∧LandAt C H p fs ds∧y=.ref l∧H l=some (.lst (zs.map V.str))∧zs.Nodup∧(∀ z∈zs,z∈fs.map aP)∧u=.int L∧hgt L=true ∧
 ∀ (c:Int) (H':Hp),aH H H'→fZ (aU fs ds L) zs c→Q (.int c) H'
theorem yZ(T:Txt K mg C):Fc P w K mg base 7 "cost" ["land","fields","height"] (aFG C):=by
 have G_p_cost_of_none:Fc P w K mg base 3 "cost_of_none" ["height"] aHK:=qL T
 have G_p_fewest:Fc P w K mg base 6 "fewest" ["land","fields","height"] (aCW C):=aDU T
 refine T.d_p_cost.fc aJC rS (fun f cdv A outer s H vs Q E hr h=>?_)
 obtain⟨x,y,u,rfl,p,l,fs,ds,zs,lv,rfl,L,rfl,hl,nd,sub,rfl,hL,q⟩:=h
 have gf:=(cK L).1
 have gd:=(cK L).2
 have GG:=qQ gf gd lv
 refine⟨_,(@aE _ _ _ _ _ (@dG _ _ _ _ _ _ _ _ (@PW.pt _ _ _ (@mJ _ _ _ _ _ _ _ (@cR _ _ _ (@aS _ _ _ _ _ _ _ _ _ (@cD _ (K) rfl) rfl T.n_isinstance bD (@aA _ _ _ _ _ (pv 1) (@aA _ _ _ _ _ (@kE _ _ _ _ T.n_list dX (by rfl) (by decide) (by decide)) aB (by rfl)) (by rfl)) (by decide) (by decide) (by rfl) (by rfl)) (by intro _;rfl)) (@kQ _ _ _ _ (@bK _ _ _ _ _ _ _ _ iX (@aS _ _ _ _ _ _ _ _ _ (@bB _ (K) rfl) rfl T.n_len bJ (@aA _ _ _ _ _ (pv 1) aB (by rfl)) (by decide) (by decide) (by rfl) (by rfl)) aD (@bI _ _ (by decide) (by decide)))))) (@aG _ _ _ (@aQ _ _ _ _ (@bC _ _ _ _ _ _ _ _ _ _ G_p_cost_of_none (hr.mono (by decide)) (@aA _ _ _ _ _ (pv 2) aB (by rfl)) (by rfl) (by decide) (by rfl) (by rfl)))) bP) (@aG _ _ _ (@aQ _ _ _ _ (@bA _ _ _ _ _ _ _ (@aT _ (K) rfl) (@bC _ _ _ _ _ _ _ _ _ _ G_p_fewest (hr.mono (by decide)) (@aA _ _ _ _ _ (pv 0) (@aA _ _ _ _ _ (pv 1) (@aA _ _ _ _ _ (pv 2) aB (by rfl)) (by rfl)) (by rfl)) (by rfl) (by decide) (by rfl) (by rfl)) aD (fun _ _=>rfl))))),?_⟩
 refine⟨_,rfl,_,_,_,_,_,rfl,rfl,TyOf.lst hl,gG _ _,_,rfl,?_⟩
 refine cP ?_
 refine⟨_,rfl,l,_,rfl,.inl (SqL.of hl),rfl,_,rfl,?_⟩
 cases zs with
 | nil =>
  show (if true=true then _ else _)
  exact cP ⟨_,rfl,_,rfl,lv,rfl,hL,q 0 H (aH.refl _) (aGA GG)⟩
 | cons z zr =>
  rw[decide_eq_false (fun e=>by have:=V.int.inj e;rw[AA,Af] at this;omega)]
  refine bO ?_
  refine⟨_,rfl,_,rfl,_,rfl,_,_,_,rfl,p,l,fs,ds,z :: zr,lv,rfl,L,rfl,hl,by rw[Af];omega,nd,sub,rfl,hL,fun t lk la uk ua f' R B H' S' nt nlk nla nka ht hk ik ha ia st rd=>?_⟩
  exact⟨t,_,0,_,rfl,rfl,SqT.of ht,aO (j:=0) rfl,q _ H' S' (aDJ GG st rd)⟩
open Mt53 Mt22 MtF Mt31 Mt61
noncomputable def aWJ:Str:=("lists_of_places":Str)++".<locals>."++"<lambda>"
abbrev lT (Tb:Addr) (H:Hp):Prop:=lU Tb ⟨187,29,187,59⟩ aWJ H
def aHG(Tb:Addr):Sp:=sp1 fun x H Q=>∃ n:Nat,x=.int n∧1≤n∧n≤8∧lT Tb H ∧
 ∀ (D:Addr) (ps:List (Addr×List Int)) (H':Hp),eC Tb H H'→lT Tb H'→H' D=some (.lst (ps.map fun p=>V.ref p.1))→jD H' ps→(∀ p∈ps,H p.1=none)→ps.map (·.2)=vQ n→Q (.ref D) H'
theorem gσ{i:Nat}{v:V}{σ σ':L2.St}{H:Hp}{Q:L2.St→Hp→Prop}(e:σ.set i (some v)=σ')(h:Q σ' H):wQ i v σ H Q:=by
 unfold wQ
 rw[e]
 exact h
theorem tK{H:Hp}:∀ {ns:List Int} {xs:List V},IsL H (ns.map Dv.int) xs→xs=ns.map V.int
 | [],xs,h=>h
 | n :: ns,xs,h=>by
  obtain⟨v,vs,rfl,e,r⟩:=h
  cases (show v=.int n from e)
  rw[tK r]
  rfl
theorem aFR(T:Txt K mg C){c Tb:Addr}(B:TabB K mg base "lists_of_places" c Tb):Fc P w K mg base 5 "lists_of_places" ["count"] (aHG Tb):=by
 refine T.d_p_lists_of_places.fcC B dN oE (fun f A outer s H vs Q E hr h=>?_)
 obtain⟨x,rfl,n,rfl,n1,n4,tab,q⟩:=h
 have big:=bU
 have KB:aTS (aTW (oG (tCB (fun xs H Q=>∃ a ys,xs=[.ref a]∧(SqL K H a ys∨SqT K H a ys)∧Q (.int ys.length) H) (oG (qZ 0) aCP)) (oG (qZ 0) aCP))):=fun a ns H Q ea q=>⟨_,rfl,a,_,rfl,.inl (SqL.of ea),_,rfl,aM rfl,fun t nt=>q t _ (aH.upd nt) (by rw[aC,AA])⟩
 refine⟨_,(@aE _ _ _ _ _ (@aV _ _ (1) _ _ _ _ dN.nd rfl (Or.inl rfl) (@bS _ _ _ _ (@aA _ _ _ _ _ (@bS _ _ _ _ aB) aB (by rfl))) (by rfl) (by trivial)) (@aE _ _ _ _ _ (@eS _ _ _ _ _ _ _ _ Ax rfl (@eQ _ _ _ _ _ _ rfl T.n_range (@aA _ _ _ _ _ (pv 0) aB (by rfl)) (by rfl)) (@aN _ _ (2) _ dN.nd rfl (Or.inr rfl) (by trivial)) (@aG _ _ _ (@aV _ _ (1) _ _ _ _ dN.nd rfl (Or.inl rfl) (@aK _ _ _ _ _ _ _ _ iD (pv 1) (@bZ _ _ _ _ _ _ _ _ _ _ _ ["some","place"] 1 [2] rfl (@bG _ _ _ _ (pv 1)) (fun R=>@aN _ _ (0) _ (show Ar (["some","place"]:List Str) by decide +kernel) rfl (Or.inl rfl) (by trivial)) (@aW _ _ (by decide)) (fun R=>bT) (fun R=>(@aK _ _ _ _ _ _ _ _ iD (pv 0) (@bS _ _ _ _ (@aA _ _ _ _ _ (pv 1) aB (by rfl))))) (by rfl) (by rfl) (by rfl) (by rfl) (by rfl) (by rfl) (by rfl) (by intro _;rfl))) (by rfl) (by trivial))) (by intro _;rfl)) (@aG _ _ _ (@aQ _ _ _ _ (@aLU _ _ _ _ _ _ _ _ _ _ _ _ _ (0) _ (hr.mono (by decide)) rfl T.n_sorted (pv 1) (@aSH _ _ _ _ _ _ _ _ _ B rfl rfl rfl rfl) ⟨rfl,rfl,rfl,by decide +kernel,rfl,by decide +kernel,by decide +kernel⟩ (fun _ _ _ _=>rfl) (fun _ _ _ _ _ _=>(dW (aA (aS (bB (K:=K) rfl) rfl T.n_len bJ (aA (pv 0) aB)) (aA (pv 0) aB)))) KB (by rfl) (by rfl)))))),?_⟩
 refine⟨aM rfl,fun a0 m0=>?_⟩
 have S0:=aH.upd (o:=.lst []) m0
 have r0:upd H a0 (.lst []) a0=some (.lst []):=aC
 generalize upd H a0 (.lst [])=H0 at S0 r0
 refine⟨aM rfl,fun l0 m1=>?_⟩
 have S1:=aH.upd (o:=.lst [.ref a0]) m1
 have r1:upd H0 l0 (.lst [.ref a0]) l0=some (.lst [.ref a0]):=aC
 have i1:IsL (upd H0 l0 (.lst [.ref a0])) ((eX 0).map fun ns=>Dv.lst (ns.map Dv.int)) [.ref a0]:=⟨_,_,rfl,⟨a0,_,rfl,S1 _ _ r0,rfl⟩,rfl⟩
 generalize upd H0 l0 (.lst [.ref a0])=H1 at S1 r1 i1
 have T1:=S0.trans S1
 refine gσ (σ':=[some (.int n),some (.ref l0),none]) rfl ?_
 refine⟨_,rfl,n,rfl,by omega,by omega,fW (n:=n) (fun i σ H'=>∃ (l:Addr) (us:List V) (v2:Option V),σ=[some (.int n),some (.ref l),v2]∧aH H1 H'∧H' l=some (.lst us)∧IsL H' ((eX i).map fun ns=>Dv.lst (ns.map Dv.int)) us∧∀ v∈us,∃ a,v=.ref a∧H a=none) ⟨l0,[.ref a0],_,rfl,aH.refl _,r1,i1,fun v m=>⟨a0,AL.mp m,m0⟩⟩ ?_ ?_⟩
 ·rintro i σ H' hi ⟨l,us,v2,rfl,S',hl,ic,fr⟩
  have cl:(eX i).length≤256:=by
   rw[jS]
   have:2 ^ i≤2 ^ 8:=BM (by decide) (by omega)
   omega
  have il:∀ ns∈eX i,ns.length≤8:=fun ns m=>by have:=kO i ns m;omega
  have es:eX (i+1)=eX i++(eX i).map (·++[(i:Int)]):=rfl
  rw[es]
  generalize eX i=cs at ic cl il
  have luc:=ic.length
  rw[AA] at luc
  refine⟨_,rfl,_,rfl,l,rfl,⟨_,SqL.of hl⟩,?_⟩
  refine bE (F:=K) (xs:=us) (by omega) (fun j ys H''=>aH H' H''∧IsL H'' ((cs.take j).map fun ns=>Dv.lst ((ns++[(i:Int)]).map Dv.int)) ys∧∀ v∈ys,∃ a,v=.ref a∧H a=none) ⟨aH.refl _,rfl,fun _ m=>nomatch m⟩ ?_ ?_ ?_
  ·rintro j ys H'' hj ⟨S2,iy,_⟩
   refine⟨SqL.of (S2 _ _ hl),?_⟩
   have:=iy.length
   rw[AA,AH] at this
   omega
  ·rintro j xv ys H'' K1 K2 hx2 ⟨S2,iy,fy⟩ k1 k2
   have hjl:j<us.length:=(AB.mp hx2).1
   obtain⟨ns,ec⟩:∃ c,cs[j]?=some c:=⟨_,AC (by omega)⟩
   obtain⟨v,ev,iv⟩:=(IsL.same S2 _ _ ic).get (show (cs.map fun ns=>Dv.lst (ns.map Dv.int))[j]?=some (Dv.lst (ns.map Dv.int)) by rw[AI,ec];rfl)
   rw[hx2] at ev
   cases ev
   obtain⟨li,xs,rfl,oi,hx⟩:=iv
   have ex:xs=ns.map V.int:=tK hx
   subst ex
   have:=il ns (AG ec)
   refine⟨_,rfl,_,rfl,aM rfl,fun l1 h1=>?_⟩
   have S3:=aH.upd (o:=.lst [.int (0+(i:Int))]) h1
   refine⟨li,l1,_,_,rfl,rfl,S3 _ _ oi,aC,by rw[AA];show _+1≤_;omega,fun l2 h2=>k1 _ _ ⟨S2.trans (S3.trans (aH.upd h2)),?_,fun v m=>?_⟩⟩
   rotate_left
   ·rcases Ab.mp m with m | m
    ·exact fy v m
    ·exact⟨l2,AL.mp m,(T1.trans (S'.trans (S2.trans S3))).free h2⟩
   rw[AT,ec,AF]
   refine IsL.snoc (show Is _ (Dv.lst ((ns++[(i:Int)]).map Dv.int)) (.ref l2) from⟨l2,_,rfl,aC,?_⟩) (IsL.same (S3.trans (aH.upd h2)) _ _ iy)
   rw[show ns.map V.int++[V.int (0+(i:Int))]=(ns++[(i:Int)]).map V.int by rw[AF,By];rfl]
   exact qO _
  rintro ys H2' ⟨S2,iy,fy⟩
  rw[AE (by omega)] at iy
  intro l3 h3
  have S3:=aH.upd (o:=.lst ys) h3
  have ly:=iy.length
  rw[AA] at ly
  refine⟨l,l3,_,_,rfl,rfl,(S2.trans S3) _ _ hl,aC,by omega,fun l4 h4=>?_⟩
  have S4':=aH.upd (o:=.lst (us++ys)) h4
  refine⟨l4,us++ys,_,rfl,S'.trans (S2.trans (S3.trans S4')),aC,?_,fun v m=>(Ab.mp m).elim (fr v) (fy v)⟩
  rw[AF,Aq]
  exact IsL.app (IsL.same (S3.trans S4') _ _ iy) (IsL.same (S2.trans (S3.trans S4')) _ _ ic)
 ·rintro σ H2 ⟨l,us,v2,rfl,S2,hl,ic,fr⟩
  obtain⟨ps,rfl,it,ep⟩:=aED ic
  obtain⟨o1,o2,o3,_⟩:=aAP n n1 n4
  have lp:ps.length=(eX n).length:=by rw[← ep,AA]
  have l2:2≤ps.length∧ps.length≤256:=by
   rw[lp,jS]
   have:2 ^ 1≤2 ^ n:=BM (by decide) n1
   have:2 ^ n≤2 ^ 8:=BM (by decide) n4
   omega
  have T2:=T1.trans S2
  refine⟨_,rfl,l,ps,(aDP n).toArray,rfl,hl,it,l2.1,by omega,by rw[ep];exact o1,fun i m=>by rw[lp];exact o2 i (by simpa using m),by rw[lp,AM];exact o3,tab.keep T2,fun D H3 K3 t3 eD=>?_⟩
  have eps:(aDP n).toArray.toList.map (fun i=>(ps.map fun p=>V.ref p.1).getD i .non)=((aDP n).map fun i=>ps.getD i (0,[])).map fun p=>V.ref p.1:=by
   rw[Aq]
   refine CK fun i m=>?_
   have hi:=o2 i m
   rw[← lp] at hi
   show (ps.map fun p=>V.ref p.1).getD i .non=V.ref (ps.getD i (0,[])).1
   rw[jA,Ad,AC hi]
   rfl
  rw[eps] at eD
  obtain⟨qs,eT,_⟩:=tab.keep T2
  refine q D _ H3 (fun b o nb e=>K3 b o nb (T2 _ _ e)) t3 eD (fun p m=>?_) (fun p m=>?_) ?_
  ·obtain⟨i,mi,rfl⟩:=AN.mp m
   have hi:=o2 i mi
   rw[← lp] at hi
   have mm:ps.getD i (0,[])∈ps:=by
    rw[Ad,AC hi]
    exact Db hi
   refine K3 _ _ (fun z=>?_) (it _ mm)
   have e2:=it _ mm
   rw[z,eT] at e2
   cases e2
  ·obtain⟨i,mi,rfl⟩:=AN.mp m
   have hi:=o2 i mi
   rw[← lp] at hi
   have mm:ps.getD i (0,[])∈ps:=by
    rw[Ad,AC hi]
    exact Db hi
   obtain⟨a,ea,na⟩:=fr _ (AN.mpr ⟨_,mm,rfl⟩)
   cases ea
   exact na
  ·unfold vQ
   rw[Aq]
   refine CK fun i m=>?_
   have hi:=o2 i m
   rw[← ep]
   rw[← lp] at hi
   show (ps.getD i (0,[])).2=(ps.map (·.2)).getD i []
   rw[jA,Ad,AC hi]
   rfl
open Mt53 Mt22 MtF Mt31 Mt61
theorem aEB{Tb:Addr}{H H':Hp}(k:eC Tb H H')(t:lT Tb H):aEY H H':=fun b o e d=>k b o (fun z=>by
 obtain⟨ps,eT,_⟩:=t
 rw[z,eT] at e
 cases e
 cases d) e
theorem rT{Tb:Addr}{H H':Hp}(k:eC Tb H H')(t:lT Tb H){x:Addr}{fs ds:List Dv}(h:LandAt C H x fs ds):LandAt C H' x fs ds:=by
 have D:=aEB k t
 have tb:∀ {a:Addr} {ds:List Dv},qW H a ds→qW H' a ds:=fun⟨kvs,e,k1,i⟩=>⟨kvs,D _ _ e rfl,k1,IsL.sameD D _ _ i⟩
 obtain⟨⟨dx,d1,d2,e,t1,t2⟩,a,b⟩:=h
 refine⟨⟨dx,d1,d2,k _ _ (fun z=>?_) e,tb t1,tb t2⟩,a,b⟩
 obtain⟨ps,eT,_⟩:=t
 rw[z,eT] at e
 cases e
theorem aAE:∀ k,∀ ns∈eX k,ns.Nodup∧∀ i∈ns,0≤i∧i<(k:Int)
 | 0,ns,m=>by rw[AL.mp m];exact⟨.nil,fun _ m=>nomatch m⟩
 | k+1,ns,m=>by
  unfold eX at m
  rcases Ab.mp m with m | m
  ·obtain⟨a,b⟩:=aAE k ns m
   exact⟨a,fun i mi=>by have:=b i mi;omega⟩
  ·obtain⟨ms,mm,rfl⟩:=AN.mp m
   obtain⟨a,b⟩:=aAE k ms mm
   refine⟨Cp.mpr ⟨a,List.pairwise_singleton _ _,fun x hx y hy e=>?_⟩,fun i mi=>?_⟩
   ·have:=b x hx
    rw[e,AL.mp hy] at this
    omega
   ·rcases Ab.mp mi with mi | mi
    ·have:=b i mi
     omega
    ·rw[AL.mp mi]
     omega
noncomputable def atZ(zs:List Str)(i:Int):Str:=zs.getD i.toNat ""
theorem xG{zs:List Str}{i:Int}(h0:0≤i)(h1:i<zs.length):atI (zs.map V.str) i=some (.str (atZ zs i))∧zs[i.toNat]?=some (atZ zs i):=by
 obtain⟨k,rfl⟩:=BC h0
 have hk:k<zs.length:=by omega
 have e:zs[k]?=some (atZ zs (k:Int)):=by
  unfold atZ
  rw[Cu,Ad,AC hk]
  rfl
 exact⟨aO (by rw[AI,e];rfl),by rw[Cu];exact e⟩
theorem aVL{zs:List Str}(nd:zs.Nodup):∀ {ns:List Int},ns.Nodup→(∀ i∈ns,0≤i∧i<(zs.length:Int))→(ns.map (atZ zs)).Nodup∧∀ z∈ns.map (atZ zs),z∈zs:=fun {ns} h1 h2=>by
 refine⟨?_,fun z m=>?_⟩
 ·induction ns with
  | nil=>exact .nil
  | cons i ns ih =>
   rw[AX]
   refine Ap.mpr ⟨fun m=>?_,ih (Ap.mp h1).2 fun j mj=>h2 j (AO _ mj)⟩
   obtain⟨j,mj,e⟩:=AN.mp m
   have a:=(xG (h2 i AQ).1 (h2 i AQ).2).2
   have b:=(xG (h2 j (AO _ mj)).1 (h2 j (AO _ mj)).2).2
   rw[e] at b
   have:=qM nd a b
   have:=h2 i AQ
   have:=h2 j (AO _ mj)
   have ij:i=j:=by omega
   exact (Ap.mp h1).1 (ij▸mj)
 ·obtain⟨i,mi,rfl⟩:=AN.mp m
  exact AG (xG (h2 i mi).1 (h2 i mi).2).2
noncomputable def del(X:Addr)(H:Hp):Hp:=fun b=>if b=X then none else H b
theorem wX(X:Addr)(H:Hp):aH (del X H) H:=fun b o e=>by
 unfold del at e
 by_cases h:b=X
 ·rw[if_pos h] at e;cases e
 ·rw[if_neg h] at e;exact e
theorem sH{X:Addr}{H:Hp}{b:Addr}{o:HO}(n:b≠X)(e:H b=some o):del X H b=some o:=by
 unfold del
 rw[if_neg n]
 exact e
theorem aEH{X:Addr}{H H':Hp}(S:aH H H'):aH (del X H) (del X H'):=fun b o e=>by
 unfold del at e ⊢
 by_cases h:b=X
 ·rw[if_pos h] at e;cases e
 ·rw[if_neg h] at e ⊢;exact S _ _ e
theorem aTJ{X:Addr}{H:Hp}{o:HO}:aH (del X H) (del X (upd H X o)):=fun b o' e=>by
 unfold del at e ⊢
 by_cases h:b=X
 ·rw[if_pos h] at e;cases e
 ·rw[if_neg h] at e ⊢;rw[aI h];exact e
theorem uP{T lt:Addr}{pos:Pos}{qual:Str}{H:Hp}{us vs:List V}(x:lU T pos qual H)(h:H lt=some (.lst us)):lU T pos qual (upd H lt (.lst vs)):=by
 obtain⟨ps,e,t,r⟩:=x
 refine⟨ps,by rw[aI (fun z=>by rw[z,h] at e;cases e)];exact e,t,r.imp id fun⟨c,e1,e2⟩=>⟨c,e1,by rw[aI (fun z=>by rw[z,h] at e2;cases e2)];exact e2⟩⟩
noncomputable def pM(r:List Str×Int):Dv:=.tup [.lst (r.1.map Dv.str),.int r.2]
structure Told (G:List Gap) (zs:List Str) (rs:List (List Str×Int)):Prop where
 cos:rs.map (·.1)=(vQ zs.length).map fun ns=>ns.map (atZ zs)
 lst:∀ r∈rs,fZ G r.1 r.2
def Fre(n:Nat)(D:Addr)(H H':Hp)(us:List V):Prop:=∀ v∈us,∃ (t lc:Addr) (c:Int) (ys:List V),v=.ref t∧H' t=some (.tup [.ref lc,.int c])∧H' lc=some (.lst ys)∧ys.length≤n∧H lc=none∧t≠D∧lc≠D
def jF(C Tb:Addr):Sp:=sp3 fun x y u H Q=>∃ (p l:Addr) (fs ds:List Dv) (zs:List Str) (L:Int),x=.ref p∧LandAt C H p fs ds∧y=.ref l∧H l=some (.lst (zs.map V.str))∧1≤zs.length∧zs.length≤8∧zs.Nodup∧(∀ z∈zs,z∈fs.map aP)∧u=.int L∧hgt L=true∧lT Tb H ∧
 ∀ (D:Addr) (us:List V) (rs:List (List Str×Int)) (H':Hp),eC Tb H H'→lT Tb H'→H' D=some (.lst us)→IsL H' (rs.map pM) us→Told (aU fs ds L) zs rs→H D=none→Fre 8 D H H' us→Q (.ref D) H'
theorem mQ(T:Txt K mg C){c Tb:Addr}(B:TabB K mg base "lists_of_places" c Tb):Fc P w K mg base 8 "companies" ["land","fields","height"] (jF C Tb):=by
 have G_p_check_wish:Fc P w K mg base 3 "check_wish" ["land","fields","height"] (pT C):=iF T
 have G_p_lists_of_places:Fc P w K mg base 5 "lists_of_places" ["count"] (aHG Tb):=aFR T B
 have G_p_cost:Fc P w K mg base 7 "cost" ["land","fields","height"] (aFG C):=yZ T
 refine T.d_p_companies.fc eY rS (fun f cdv A outer s H vs Q E hr h=>?_)
 obtain⟨x,y,u,rfl,p,l,fs,ds,zs,lv,rfl,L,rfl,hl,l1,l4,nd,sub,rfl,hL,tab,q⟩:=h
 have big:=bU
 refine⟨_,(@aE _ _ _ _ _ (@dB _ _ _ _ (@bC _ _ _ _ _ _ _ _ _ _ G_p_check_wish (hr.mono (by decide)) (@aA _ _ _ _ _ (pv 0) (@aA _ _ _ _ _ (pv 1) (@aA _ _ _ _ _ (pv 2) aB (by rfl)) (by rfl)) (by rfl)) (by rfl) (by decide) (by rfl) (by rfl)) (by rfl)) (@aE _ _ _ _ _ (@dG _ _ _ _ _ _ _ _ (@bK _ _ _ _ _ _ _ _ aDR (@aS _ _ _ _ _ _ _ _ _ (@bB _ (K) rfl) rfl T.n_len bJ (@aA _ _ _ _ _ (pv 1) aB (by rfl)) (by decide) (by decide) (by rfl) (by rfl)) (@rK _ _ _ _ T.g_MOST_IN_A_WISH (by rfl) (by decide)) (@bI _ _ (by decide) (by decide))) (@aG _ _ _ kB) bP) (@aE _ _ _ _ _ (@aV _ _ (3) _ _ _ _ eY.nd rfl (Or.inl rfl) (@bS _ _ _ _ aB) (by rfl) (by trivial)) (@aE _ _ _ _ _ (@eS _ _ _ _ _ _ _ _ Ax rfl (@bG _ _ _ _ (@bC _ _ _ _ _ _ _ _ _ _ G_p_lists_of_places (hr.mono (by decide)) (@aA _ _ _ _ _ (@aS _ _ _ _ _ _ _ _ _ (@bB _ (K) rfl) rfl T.n_len bJ (@aA _ _ _ _ _ (pv 1) aB (by rfl)) (by decide) (by decide) (by rfl) (by rfl)) aB (by rfl)) (by rfl) (by decide) (by rfl) (by rfl))) (@aN _ _ (4) _ eY.nd rfl (Or.inl rfl) (by trivial)) (@aE _ _ _ _ _ (@fA _ (5) _ _ _ _ _ _ _ _ _ _ _ _ _ eY.nd rfl ["place","fields"] 1 [1] rfl (@bG _ _ _ _ (pv 4)) (fun R=>@aN _ _ (0) _ (show Ar (["place","fields"]:List Str) by decide +kernel) rfl (Or.inl rfl) (by trivial)) (@aW _ _ (by decide)) (fun R=>bT) (fun R=>(@bA _ _ _ _ _ _ _ (@cZ _ (K) rfl) (pv 1) (pv 0) (fun _ _=>rfl))) (by exact Or.inl rfl) (by trivial) (by rfl) (by rfl) (by rfl) (by rfl) (by rfl) (by rfl) (by rfl) (by rfl) (by intro _;rfl)) (@aG _ _ _ (@dB _ _ _ _ (@iJ _ _ _ _ _ _ _ _ _ _ _ _ An Au At cX (pv 3) (@aA _ _ _ _ _ (@dW _ _ _ _ _ (@aA _ _ _ _ _ (pv 5) (@aA _ _ _ _ _ (@bC _ _ _ _ _ _ _ _ _ _ G_p_cost (hr.mono (by decide)) (@aA _ _ _ _ _ (pv 0) (@aA _ _ _ _ _ (pv 5) (@aA _ _ _ _ _ (pv 2) aB (by rfl)) (by rfl)) (by rfl)) (by rfl) (by decide) (by rfl) (by rfl)) aB (by rfl)) (by rfl))) aB (by rfl)) (by rfl) (by rfl) (by rfl) (by rfl) (by rfl)) (by rfl)))) (by intro _;rfl)) (@aG _ _ _ (@aQ _ _ _ _ (pv 3))))))),?_⟩
 refine⟨_,rfl,_,rfl,_,rfl,_,_,_,rfl,p,l,fs,ds,zs,lv,rfl,L,rfl,hl,l1,nd,sub,rfl,hL,fun H1 S1=>?_⟩
 refine⟨_,rfl,l,_,rfl,.inl (SqL.of (S1 _ _ hl)),_,_,rfl,rfl,_,rfl,?_⟩
 have e8:decide ((8:Int)<((zs.map V.str).length:Int))=false:=decide_eq_false (by rw[AA];omega)
 rw[e8]
 refine bO ?_
 refine⟨aM rfl,fun lt m1=>?_⟩
 have S2:=aH.upd (o:=.lst []) m1
 have r2:upd H1 lt (.lst []) lt=some (.lst []):=aC
 have nlt:∀ b o,H1 b=some o→b≠lt:=fun b o e=>aJ e m1
 generalize upd H1 lt (.lst [])=H2 at S2 r2
 refine gσ (σ':=[some (.ref p),some (.ref l),some (.int lv),some (.ref lt),none,none]) rfl ?_
 have T2:=S1.trans S2
 refine⟨_,rfl,l,_,rfl,.inl (SqL.of (T2 _ _ hl)),_,rfl,zs.length,by rw[AA],l1,l4,tab.keep T2,fun D ps H3 K3 tab3 hD it fr ep=>?_⟩
 have tab2:lT Tb H2:=tab.keep T2
 have eTb:∀ b (ys:List V),H2 b=some (.lst ys)→b≠Tb:=fun b ys e z=>by
  obtain⟨qs,eT,_⟩:=tab2
  rw[z,eT] at e
  cases e
 have hl3:=K3 _ _ (eTb _ _ (T2 _ _ hl)) (T2 _ _ hl)
 have ht3:=K3 _ _ (eTb _ _ r2) r2
 have L3:=rT K3 tab2 (L.same T2)
 have psz:ps.length≤256∧1≤ps.length:=by
  have:=congrArg Bs ep
  rw[AA] at this
  unfold vQ at this
  rw[AA] at this
  obtain⟨_,_,o3,_⟩:=aAP zs.length l1 l4
  rw[o3,jS] at this
  have:2 ^ 1≤2 ^ zs.length:=BM (by decide) l1
  have:2 ^ zs.length≤2 ^ 8:=BM (by decide) l4
  omega
 have nDt:D≠lt:=fun z=>by
  rw[z,ht3] at hD
  have:=congrArg Bs (HO.lst.inj (BA hD))
  rw[AA] at this
  simp at this
  omega
 have KH:∀ (H':Hp),eC Tb H2 H'→eC Tb H H':=fun H' k b o n e=>k b o n (T2 _ _ e)
 have K1:eC Tb H1 H3:=fun b o n e=>K3 b o n (S2 _ _ e)
 have tab1:lT Tb H1:=tab.keep S1
 have ipt:∀ q∈ps,q.1≠lt:=fun q m z=>by
  have:=fr q m
  rw[z,r2] at this
  cases this
 have iok:∀ q∈ps,q.2.Nodup∧∀ i∈q.2,0≤i∧i<(zs.length:Int):=fun q m=>by
  have:q.2∈vQ zs.length:=by rw[← ep];exact AN.mpr ⟨q,m,rfl⟩
  exact aAE _ _ ((aDM l1 l4).mp this)
 refine⟨D,rfl,⟨_,SqL.of hD⟩,gH (K:=K) (a:=D) (xs:=ps.map fun q=>V.ref q.1) (fun i σ H'=>∃ (v4 v5:Option V) (us:List V) (rs:List (List Str×Int)),σ=[some (.ref p),some (.ref l),some (.int lv),some (.ref lt),v4,v5]∧eC Tb H1 H'∧lT Tb H'∧H' D=some (.lst (ps.map fun q=>V.ref q.1))∧jD H' ps∧H' lt=some (.lst us)∧IsL (del lt H') (rs.map pM) us∧rs.map (·.1)=(ps.take i).map (fun q=>q.2.map (atZ zs))∧(∀ r∈rs,fZ (aU fs ds lv) r.1 r.2)∧Fre 8 lt H H' us)
  ⟨_,_,[],[],rfl,K1,tab3,hD,it,ht3,rfl,rfl,(fun _ m=>nomatch m),fun _ m=>nomatch m⟩ ?_ ?_ ?_⟩
 ·rintro i σ H' hi ⟨v4,v5,us,rs,rfl,k',tb',d',it',t',ir,er,lr,fre⟩
  exact SqL.of d'
 ·rintro i xv σ H' hx ⟨v4,v5,us,rs,rfl,k',tb',d',it',t',ir,er,lr,fre⟩
  rw[AI] at hx
  obtain⟨⟨pa,ns⟩,ez,rfl⟩:=AY.mp hx
  have mp:(pa,ns)∈ps:=AG ez
  have hpa:H' pa=some (.lst (ns.map V.int)):=it' _ mp
  obtain⟨nnd,nin⟩:=iok _ mp
  have hns:ns.length≤8:=by
   have:ns∈vQ zs.length:=by rw[← ep];exact AN.mpr ⟨_,mp,rfl⟩
   have:=kO _ _ ((aDM l1 l4).mp this)
   omega
  have eTl:l≠Tb:=fun z=>by
   obtain⟨qs,eT,_⟩:=tab1
   have:=S1 _ _ hl
   rw[z,eT] at this
   cases this
  have hl':H' l=some (.lst (zs.map V.str)):=k' _ _ eTl (S1 _ _ hl)
  refine gσ (σ':=[some (.ref p),some (.ref l),some (.int lv),some (.ref lt),some (.ref pa),v5]) rfl ?_
  refine⟨_,rfl,pa,rfl,⟨_,SqL.of hpa⟩,?_⟩
  refine bE (F:=K) (xs:=ns.map V.int) (by rw[AA];omega) (fun j ys H''=>H'=H''∧ys=((ns.take j).map (atZ zs)).map V.str) ⟨rfl,rfl⟩ ?_ ?_ ?_
  ·rintro j ys H'' hj ⟨rfl,rfl⟩
   exact⟨SqL.of hpa,by rw[AA,AA,AH];omega⟩
  ·rintro j yv ys H'' K1' K2' hx2 ⟨rfl,rfl⟩ k1 k2
   rw[AI] at hx2
   obtain⟨iz,ei,rfl⟩:=AY.mp hx2
   have hz:=nin iz (AG ei)
   refine⟨_,rfl,_,rfl,l,_,iz,_,rfl,rfl,SqL.of hl',(xG hz.1 hz.2).1,k1 _ _ ⟨rfl,?_⟩⟩
   rw[AT,ei,AF,AF]
   rfl
  rintro ys H'' ⟨rfl,rfl⟩
  rw[AA,AE (AS _)]
  intro lc mc
  obtain⟨cnd,csub⟩:=aVL nd nnd nin
  have S4:=aH.upd (o:=.lst ((ns.map (atZ zs)).map V.str)) mc
  have r4:upd H' lc (.lst ((ns.map (atZ zs)).map V.str)) lc=some (.lst ((ns.map (atZ zs)).map V.str)):=aC
  have nlc:lc≠lt:=fun z=>by rw[z,t'] at mc;cases mc
  generalize upd H' lc (.lst ((ns.map (atZ zs)).map V.str))=H4 at S4 r4
  refine gσ (σ':=[some (.ref p),some (.ref l),some (.int lv),some (.ref lt),some (.ref pa),some (.ref lc)]) rfl ?_
  have L4:LandAt C H4 p fs ds:=(rT k' tab1 (L.same S1)).same S4
  refine⟨_,rfl,.inl ⟨rfl,_,SqL.of (S4 _ _ t')⟩,_,rfl,_,rfl,_,rfl,_,rfl,_,_,_,rfl,p,lc,fs,ds,_,lv,rfl,L4,rfl,r4,cnd,(fun z m=>sub z (csub z m)),rfl,hL,fun cst H5 S5 lst5=>?_⟩
  refine⟨aM rfl,fun tt mt=>?_⟩
  have S6:=aH.upd (o:=.tup [.ref lc,.int cst]) mt
  have r6:upd H5 tt (.tup [.ref lc,.int cst]) tt=some (.tup [.ref lc,.int cst]):=aC
  have T5:=S4.trans S5
  have ntt:tt≠lt:=fun z=>by have:=T5 _ _ t';rw[z,this] at mt;cases mt
  generalize upd H5 tt (.tup [.ref lc,.int cst])=H6 at S6 r6
  have T6:=T5.trans S6
  have lus:=ir.length
  rw[AA] at lus
  have lrs:=congrArg Bs er
  rw[AA,AA,AH] at lrs
  refine⟨lt,us,.ref tt,rfl,rfl,T6 _ _ t',by omega,?_⟩
  refine⟨_,_,us++[.ref tt],rs++[(ns.map (atZ zs),cst)],rfl,(fun b o n e=>by rw[aI (nlt b o e)];exact T6 _ _ (k' b o n e)),uP (tb'.keep T6) (T6 _ _ t'),by rw[aI nDt];exact T6 _ _ d',(fun r m=>by rw[aI (ipt r m)];exact T6 _ _ (it' r m)),aC,?_,?_,?_,?_⟩
  ·rw[AF]
   refine IsL.same aTJ _ _ (IsL.snoc (show Is _ (pM (ns.map (atZ zs),cst)) (.ref tt) from⟨tt,_,rfl,sH ntt r6,_,_,rfl,⟨lc,_,rfl,sH nlc ((S5.trans S6) _ _ r4),IsL.strs _ _⟩,_,_,rfl,rfl,rfl⟩) (IsL.same (aEH T6) _ _ ir))
  ·rw[AF,er,AT,ez,AF]
   rfl
  ·intro r m
   rcases Ab.mp m with m | m
   ·exact lr r m
   ·rw[AL.mp m]
    exact lst5
  ·intro v m
   rcases Ab.mp m with m | m
   ·obtain⟨t,b,c,ys,rfl,h1,h2,h3,h4,h5,h6⟩:=fre v m
    exact⟨t,b,c,ys,rfl,by rw[aI h5];exact T6 _ _ h1,by rw[aI h6];exact T6 _ _ h2,h3,h4,h5,h6⟩
   ·rw[AL.mp m]
    refine⟨tt,lc,cst,_,rfl,by rw[aI ntt];exact r6,by rw[aI nlc];exact (S5.trans S6) _ _ r4,by rw[AA,AA];exact hns,?_,ntt,nlc⟩
    cases e:H lc with
    | none=>rfl
    | some o =>
     have:=k' lc o (fun z=>by obtain⟨qs,eT,_⟩:=tb';rw[z,eT] at mc;cases mc) (S1 _ _ e)
     rw[mc] at this
     cases this
 ·rintro σ H' ⟨v4,v5,us,rs,rfl,k',tb',d',it',t',ir,er,lr,fre⟩
  rw[AA,AE (AS _)] at er
  refine⟨_,rfl,q lt us rs H' (fun b o n e=>k' b o n (S1 _ _ e)) tb' t' (IsL.same (wX _ _) _ _ ir) ⟨?_,lr⟩ (S1.free m1) fre⟩
  rw[er,← ep,Aq]
  rfl
open Mt53 Mt22 MtF Mt31 Mt61
def aHD(K:AD):Sp:=sp1 fun x H Q=>Scr K H x∧∀ (t lf ld:Addr) (vf vd:List V) (fs ds:List Dv) (H':Hp),aH H H'→H' t=some (.tup [.ref lf,.ref ld])→H' lf=some (.lst vf)→IsL H' fs vf→H' ld=some (.lst vd)→IsL H' ds vd→Fds fs 5→Dks ("sea" :: fs.map aP) ds 10→Q (.ref t) H'
theorem aFS(T:Txt K mg C):Fc P w K mg base 3 "_law_small" ["_law_script"] (aHD K):=by
 have G_l_cell_at:Fc P w K mg base 1 "_law_cell_at" ["_law_script","_law_k"] (uU K):=iO T
 have G_l_fields:Fc P w K mg base 2 "_law_fields" ["_law_script","_law_many"] (nN K):=mT T
 have G_l_dykes:Fc P w K mg base 2 "_law_dykes" ["_law_script","_law_fields_here","_law_many"] (pX K):=pG T
 refine T.d_l_small.fc oW oE (fun f cdv A outer s H vs Q E hr h=>?_)
 obtain⟨x,rfl,scr,q⟩:=h
 obtain⟨a,ns,rfl,hS,hl⟩:=id scr
 refine⟨_,(@aE _ _ _ _ _ (@aV _ _ (1) _ _ _ _ oW.nd rfl (Or.inl rfl) (@bC _ _ _ _ _ _ _ _ _ _ G_l_cell_at (hr.mono (by decide)) (@aA _ _ _ _ _ (pv 0) (@aA _ _ _ _ _ aD aB (by rfl)) (by rfl)) (by rfl) (by decide) (by rfl) (by rfl)) (by rfl) (by trivial)) (@aE _ _ _ _ _ (@aV _ _ (2) _ _ _ _ oW.nd rfl (Or.inl rfl) (@bC _ _ _ _ _ _ _ _ _ _ G_l_fields (hr.mono (by decide)) (@aA _ _ _ _ _ (pv 0) (@aA _ _ _ _ _ (@aK _ _ _ _ _ _ _ _ cY aD (@aK _ _ _ _ _ _ _ _ cB (pv 1) aD)) aB (by rfl)) (by rfl)) (by rfl) (by decide) (by rfl) (by rfl)) (by rfl) (by trivial)) (@aG _ _ _ (@aQ _ _ _ _ (@dW _ _ _ _ _ (@aA _ _ _ _ _ (pv 2) (@aA _ _ _ _ _ (@bC _ _ _ _ _ _ _ _ _ _ G_l_dykes (hr.mono (by decide)) (@aA _ _ _ _ _ (pv 0) (@aA _ _ _ _ _ (pv 2) (@aA _ _ _ _ _ (@aK _ _ _ _ _ _ _ _ cY aD (@aK _ _ _ _ _ _ _ _ cB (@aK _ _ _ _ _ _ _ _ bN (pv 1) aD) aD)) aB (by rfl)) (by rfl)) (by rfl)) (by rfl) (by decide) (by rfl) (by rfl)) aB (by rfl)) (by rfl))))))),?_⟩
 refine⟨_,rfl,_,_,rfl,a,ns,0,rfl,rfl,hS,hl,ED _,?_⟩
 generalize ns.getD (0:Int).toNat 0=c
 have m1:=BJ c (show (5:Int)≠0 by decide)
 have m2:=BE c (show (0:Int)<5 by decide)
 have m3:=BJ (c / 5) (show (10:Int)≠0 by decide)
 have m4:=BE (c / 5) (show (0:Int)<10 by decide)
 obtain⟨k,hk⟩:=BC (show 0≤1+c % 5 by omega)
 obtain⟨n,hn⟩:=BC (show 0≤1+c / 5 % 10 by omega)
 refine⟨_,rfl,_,rfl,_,_,rfl,rfl,(gB rfl),_,_,rfl,rfl,?_⟩
 refine⟨_,_,rfl,k,scr,by rw[← hk],by omega,by omega,fun lf vf fs H2 S2 flf hlf hif gf _=>?_⟩
 refine⟨_,rfl,_,rfl,_,rfl,_,rfl,_,_,rfl,rfl,⟨by decide,by decide⟩,_,_,rfl,rfl,(gB rfl),_,_,rfl,rfl,?_⟩
 refine⟨_,_,_,rfl,n,lf,vf,fs,k,scr.same S2,rfl,hlf,hif,gf,by omega,by rw[← hn],by omega,by omega,fun ld vd ds H3 S3 fld hld hid gd=>?_⟩
 refine⟨aM rfl,fun p hp=>?_⟩
 have S4:=aH.upd (o:=.tup [.ref lf,.ref ld]) hp
 have f2:=gf.l2
 have d2:=gd.l2
 exact q p lf ld vf vd fs ds _ (S2.trans (S3.trans S4)) aC ((S3.trans S4) _ _ hlf) (IsL.same (S3.trans S4) _ _ hif) (S4 _ _ hld) (IsL.same S4 _ _ hid) ⟨gf.l1,by omega,gf.all,gf.nd⟩ ⟨gd.l1,by omega,gd.all,gd.nd⟩
def yD(K:AD):Sp:=sp2 fun x y H Q=>∃ (l:Addr) (zs:List Str) (n:Int),x=.ref l∧H l=some (.lst (zs.map V.str))∧zs.length≤5∧zs.Nodup∧y=.int n∧∀ (lr:Addr) (ys:List Str) (H':Hp),aH H H'→H lr=none→H' lr=some (.lst (ys.map V.str))→ys.Nodup→(∀ y∈ys,y∈zs)→Q (.ref lr) H'
theorem aWH:∀ i<5,∃ d:Int,0<d∧d≤16∧([V.int 1,V.int 2,V.int 4,V.int 8,V.int 16]:List V)[i]?=some (.int d):=by
 intro i hi
 match i,hi with
 | 0,_=>exact⟨1,by decide,by decide,rfl⟩
 | 1,_=>exact⟨2,by decide,by decide,rfl⟩
 | 2,_=>exact⟨4,by decide,by decide,rfl⟩
 | 3,_=>exact⟨8,by decide,by decide,rfl⟩
 | 4,_=>exact⟨16,by decide,by decide,rfl⟩
theorem aUV{d:Int}(h0:0<d)(h1:d≤16):d.natAbs.log2<9000:=by
 have:d.natAbs<2 ^ 9000:=Nat.lt_of_le_of_lt (show d.natAbs≤16 by omega) (Ac (show 16<2 ^ 5 by decide) (BM (by decide) (by decide)))
 exact (Nat.log2_lt (by omega)).mpr this
theorem aBM(T:Txt K mg C):Fc P w K mg base 1 "_law_company" ["_law_names","_law_number"] (yD K):=by
 refine T.d_l_company.fc iM gW (fun f cdv A outer s H vs Q E hr h=>?_)
 obtain⟨x,y,rfl,l,zs,n,rfl,hl,l5,nd,rfl,q⟩:=h
 have big:=bU
 refine⟨_,(@aE _ _ _ _ _ (@aV _ _ (2) _ _ _ _ iM.nd rfl (Or.inl rfl) (@bS _ _ _ _ aB) (by rfl) (by trivial)) (@aE _ _ _ _ _ (@eS _ _ _ _ _ _ _ _ Ax rfl (@eQ _ _ _ _ _ _ rfl T.n_range (@aA _ _ _ _ _ (@aS _ _ _ _ _ _ _ _ _ (@bB _ (K) rfl) rfl T.n_len bJ (@aA _ _ _ _ _ (pv 0) aB (by rfl)) (by decide) (by decide) (by rfl) (by rfl)) aB (by rfl)) (by rfl)) (@aN _ _ (3) _ iM.nd rfl (Or.inl rfl) (by trivial)) (@aG _ _ _ (@dG _ _ _ _ _ _ _ _ (@bK _ _ _ _ _ _ _ _ iX (@aK _ _ _ _ _ _ _ _ cB (@aK _ _ _ _ _ _ _ _ bN (pv 1) (@bA _ _ _ _ _ _ _ (@cZ _ (K) rfl) (@bS _ _ _ _ (@aA _ _ _ _ _ aD (@aA _ _ _ _ _ aD (@aA _ _ _ _ _ aD (@aA _ _ _ _ _ aD (@aA _ _ _ _ _ aD aB (by rfl)) (by rfl)) (by rfl)) (by rfl)) (by rfl))) (pv 3) (fun _ _=>rfl))) aD) aD (@bI _ _ (by decide) (by decide))) (@aG _ _ _ (@dB _ _ _ _ (@iJ _ _ _ _ _ _ _ _ _ _ _ _ An Au At cX (pv 2) (@aA _ _ _ _ _ (@bA _ _ _ _ _ _ _ (@cZ _ (K) rfl) (pv 0) (pv 3) (fun _ _=>rfl)) aB (by rfl)) (by rfl) (by rfl) (by rfl) (by rfl) (by rfl)) (by rfl))) bP)) (by intro _;rfl)) (@aE _ _ _ _ _ (@dG _ _ _ _ _ _ _ _ (@bK _ _ _ _ _ _ _ _ iX (@aK _ _ _ _ _ _ _ _ cB (@aK _ _ _ _ _ _ _ _ bN (pv 1) aD) aD) aD (@bI _ _ (by decide) (by decide))) (@aG _ _ _ (@aV _ _ (2) _ _ _ _ iM.nd rfl (Or.inl rfl) (@vS _ _ _ _ _ _ _ rfl rfl T.n_list rfl T.n_reversed (@aA _ _ _ _ _ (pv 2) aB (by rfl)) (by rfl) (by rfl)) (by rfl) (by trivial))) bP) (@aG _ _ _ (@aQ _ _ _ _ (pv 2)))))),?_⟩
 refine⟨aM rfl,fun lr hlr=>?_⟩
 have S1:=aH.upd (o:=.lst []) hlr
 have r1:upd H lr (.lst []) lr=some (.lst (([]:List Str).map V.str)):=aC
 generalize upd H lr (.lst [])=H1 at S1 r1
 refine⟨_,rfl,l,_,rfl,.inl (SqL.of (S1 _ _ hl)),_,rfl,by rw[AA];omega,by rw[AA];omega,?_⟩
 rw[AA,Cu]
 refine fW (lo:=0) (n:=zs.length) (fun i σ H'=>∃ (v3:Option V) (ys:List Str),σ=[some (.ref l),some (.int n),some (.ref lr),v3]∧aH H H'∧H' lr=some (.lst (ys.map V.str))∧ys.Nodup∧(∀ y∈ys,y∈zs.take i)∧ys.length≤i) ⟨_,[],rfl,S1,r1,by simp,(fun y m=>nomatch m),AS _⟩ ?_ ?_
 ·rintro i σ H' hi ⟨v3,ys,rfl,S',hr',ndy,suby,ly⟩
  obtain⟨z,ez⟩:∃ z,zs[i]?=some z:=⟨_,AC hi⟩
  obtain⟨d,d0,d16,ed⟩:=aWH i (by omega)
  have ad:atI ([V.int 1,V.int 2,V.int 4,V.int 8,V.int 16]:List V) (0+(i:Int))=some (.int d):=by rw[By];exact aO ed
  have az:atI (zs.map V.str) (0+(i:Int))=some (.str z):=by rw[By];exact aO (by rw[AI,ez];rfl)
  have ez':zs.take (i+1)=zs.take i++[z]:=by rw[AT,ez];rfl
  refine⟨_,rfl,aM rfl,fun la hla=>?_⟩
  have Sa:=aH.upd (o:=.lst [.int 1,.int 2,.int 4,.int 8,.int 16]) hla
  have ra:upd H' la (.lst [.int 1,.int 2,.int 4,.int 8,.int 16]) la=_:=aC
  generalize upd H' la (.lst [.int 1,.int 2,.int 4,.int 8,.int 16])=Ha at Sa ra
  refine⟨_,rfl,la,_,_,.int d,rfl,rfl,SqL.of ra,ad,_,_,rfl,rfl,⟨d0,aUV d0 d16⟩,_,_,rfl,rfl,(gB rfl),rfl,_,rfl,?_⟩
  have Ta:=S'.trans Sa
  have hra:=Sa _ _ hr'
  refine iZ (fun _=>?_) (fun _=>?_)
  ·refine⟨_,rfl,.inl ⟨rfl,_,SqL.of hra⟩,_,rfl,_,rfl,l,_,_,.str z,rfl,rfl,SqL.of (Ta _ _ hl),az,lr,_,.str z,rfl,rfl,hra,by rw[AA];omega,?_⟩
   refine⟨_,ys++[z],rfl,Ta.over hlr,by rw[aC,AF];rfl,?_,fun y m=>?_,by rw[AW];show _+1≤_;omega⟩
   ·rw[Cp]
    refine⟨ndy,by simp,fun a ha b hb=>?_⟩
    rw[AL.mp hb]
    intro e
    have mz:=suby a ha
    rw[e] at mz
    obtain⟨j,hj⟩:=BD.mp mz
    have hjl:=(AB.mp hj).1
    rw[AH] at hjl
    rw[Be (by omega)] at hj
    obtain⟨h1,e1⟩:=AB.mp hj
    obtain⟨h2,e2⟩:=AB.mp ez
    have:=(Cd nd).mp (e1.trans e2.symm)
    omega
   ·rw[ez']
    rcases Ab.mp m with m | m
    ·exact BX _ (suby y m)
    ·exact Ag _ m
  ·exact⟨_,ys,rfl,Ta,hra,ndy,fun y m=>by rw[ez'];exact BX _ (suby y m),by omega⟩
 ·rintro σ H' ⟨v3,ys,rfl,S',hr',ndy,suby,ly⟩
  rw[AE (AS _)] at suby
  refine⟨_,rfl,_,_,rfl,rfl,⟨by decide,by decide⟩,_,_,rfl,rfl,(gB rfl),rfl,_,rfl,?_⟩
  refine iZ (fun _=>?_) (fun _=>?_)
  ·refine⟨_,rfl,lr,_,rfl,SqL.of hr',fun l2 h2=>?_⟩
   refine⟨_,rfl,q l2 ys.reverse _ (S'.trans (aH.upd h2)) (S'.free h2) (by rw[aC,List.map_reverse]) ?_ fun y m=>suby y (List.mem_reverse.mp m)⟩
   exact List.pairwise_reverse.mpr (List.Pairwise.imp (fun h=>Ne.symm h) ndy)
  ·exact⟨_,rfl,q lr ys H' S' hlr hr' ndy suby⟩
open Mt53 Mt22 MtF Mt31 Mt61
noncomputable def aEL(G:List Gap)(inner:List Str):Int:=sm G fun g=>if decide (g.a∈inner)=decide (g.b∈inner) then 0 else g.cap
noncomputable def dH(cs:List (List Str))(z:Str):List (List Str):=cs++cs.map fun c=>c++[z]
theorem aNP{base:List Str}:∀ (fr:List Str) (cs:List (List Str)) (dn:List Str),(∀ c∈cs,(∀ z∈base,z∈c)∧∀ z∈c,z∈base∨z∈dn)→∀ inner∈fr.foldl dH cs,(∀ z∈base,z∈inner)∧∀ z∈inner,z∈base∨z∈dn∨z∈fr
 | [],cs,dn,h,inner,m=>⟨(h inner m).1,fun z mz=>((h inner m).2 z mz).imp id .inl⟩
 | y :: fr,cs,dn,h,inner,m=>by
  have m':inner∈fr.foldl dH (dH cs y):=m
  have:=aNP fr (dH cs y) (y :: dn) (fun c mc=>by
   unfold dH at mc
   rcases Ab.mp mc with mc | mc
   ·exact⟨(h c mc).1,fun z mz=>((h c mc).2 z mz).imp id (AO _)⟩
   ·obtain⟨c',mc',rfl⟩:=AN.mp mc
    refine⟨fun z mz=>BX _ ((h c' mc').1 z mz),fun z mz=>?_⟩
    rcases Ab.mp mz with mz | mz
    ·exact ((h c' mc').2 z mz).imp id (AO _)
    ·exact .inr (by rw[AL.mp mz];exact AQ)) inner m'
  refine⟨this.1,fun z mz=>?_⟩
  rcases this.2 z mz with q | q | q
  ·exact .inl q
  ·rcases AZ.mp q with rfl | q
   ·exact .inr (.inr AQ)
   ·exact .inr (.inl q)
  ·exact .inr (.inr (AO _ q))
theorem aGO(X:Str→Bool):∀ (fr:List Str) (cs:List (List Str)) (c:List Str),c∈cs→∃ inner∈fr.foldl dH cs,∀ z,z∈inner↔z∈c∨(z∈fr∧X z=true)
 | [],cs,c,m=>⟨c,m,fun z=>⟨.inl,fun h=>by
  rcases h with h | h
  ·exact h
  ·exact absurd h.1 (by simp)⟩⟩
 | y :: fr,cs,c,m=>by
  cases hx:X y with
  | true =>
   obtain⟨inner,mi,h⟩:=aGO X fr (dH cs y) (c++[y]) (Ag _ (AN.mpr ⟨c,m,rfl⟩))
   refine⟨inner,mi,fun z=>?_⟩
   rw[h z,Ab,AL,AZ]
   constructor
   ·rintro ((q | q) | ⟨q,r⟩)
    ·exact .inl q
    ·exact .inr ⟨.inl q,by rw[q];exact hx⟩
    ·exact .inr ⟨.inr q,r⟩
   ·rintro (q | ⟨q | q,r⟩)
    ·exact .inl (.inl q)
    ·exact .inl (.inr q)
    ·exact .inr ⟨q,r⟩
  | false =>
   obtain⟨inner,mi,h⟩:=aGO X fr (dH cs y) c (BX _ m)
   refine⟨inner,mi,fun z=>?_⟩
   rw[h z,AZ]
   constructor
   ·rintro (q | ⟨q,r⟩)
    ·exact .inl q
    ·exact .inr ⟨.inr q,r⟩
   ·rintro (q | ⟨q | q,r⟩)
    ·exact .inl q
    ·rw[q,hx] at r
     cases r
    ·exact .inr ⟨q,r⟩
theorem aCB:∀ (fr:List Str) (cs:List (List Str)),(fr.foldl dH cs).length=cs.length*2 ^ fr.length
 | [],cs=>by simp
 | y :: fr,cs=>by
  show (fr.foldl dH (dH cs y)).length=_
  rw[aCB fr,Af,Nat.pow_succ]
  unfold dH
  rw[AW,AA,← Nat.two_mul,Nat.mul_comm 2,Nat.mul_assoc,Nat.mul_comm 2]
theorem aMJ{G:List Gap}{low ws:List Str}(hG:∀ g∈G,(g.a=Mt22.sea∨g.a∈low)∧(g.b=Mt22.sea∨g.b∈low))(sl:Mt22.sea∉low)(sw:Mt22.sea∉ws){c:Int}
 (mc:c∈((low.filter fun z=>!decide (z∈ws)).foldl dH [low.filter fun z=>decide (z∈ws)]).map (aEL G))(lc:∀ a∈((low.filter fun z=>!decide (z∈ws)).foldl dH [low.filter fun z=>decide (z∈ws)]).map (aEL G),c≤a):fZ G ws c:=by
 have inn:=aNP (base:=low.filter fun z=>decide (z∈ws)) (low.filter fun z=>!decide (z∈ws)) [low.filter fun z=>decide (z∈ws)] [] (fun c mc=>by rw[AL.mp mc];exact⟨fun z m=>m,fun z m=>.inl m⟩)
 have lowIn:∀ inner∈(low.filter fun z=>!decide (z∈ws)).foldl dH [low.filter fun z=>decide (z∈ws)],∀ z∈inner,z∈low:=fun inner m z mz=>by
  rcases (inn inner m).2 z mz with q | q | q
  ·exact (Am.mp q).1
  ·cases q
  ·exact (Am.mp q).1
 refine⟨?_,fun X hs hw=>?_⟩
 ·obtain⟨inner,mi,rfl⟩:=AN.mp mc
  refine⟨fun z=>decide (z∈inner∨z∈ws),decide_eq_false (fun h=>?_),fun z m=>decide_eq_true (.inr m),?_⟩
  ·rcases h with h | h
   ·exact sl (lowIn inner mi _ h)
   ·exact sw h
  ·have side:∀ z,z=Mt22.sea∨z∈low→decide (z∈inner∨z∈ws)=decide (z∈inner):=fun z h=>by
    rcases h with rfl | h
    ·rw[decide_eq_false (fun h=>by rcases h with h | h;exact sl (lowIn inner mi _ h);exact sw h),decide_eq_false (fun h=>sl (lowIn inner mi _ h))]
    ·by_cases hz:z∈ws
     ·have:z∈inner:=(inn inner mi).1 z (Am.mpr ⟨h,decide_eq_true hz⟩)
      rw[decide_eq_true (.inl this),decide_eq_true this]
     ·by_cases hi:z∈inner
      ·rw[decide_eq_true (.inl hi),decide_eq_true hi]
      ·rw[decide_eq_false (fun h=>by rcases h with h | h;exact hi h;exact hz h),decide_eq_false hi]
   refine eN fun g m=>?_
   show (if decide (g.a∈inner∨g.a∈ws)=decide (g.b∈inner∨g.b∈ws) then 0 else g.cap)=_
   rw[side g.a (hG g m).1,side g.b (hG g m).2]
 ·obtain⟨inner,mi,h⟩:=aGO X (low.filter fun z=>!decide (z∈ws)) [low.filter fun z=>decide (z∈ws)] _ (AL.mpr rfl)
  have e:cut G X=aEL G inner:=by
   have side:∀ z,z=Mt22.sea∨z∈low→X z=decide (z∈inner):=fun z hz=>by
    rcases hz with rfl | hz
    ·rw[hs,decide_eq_false (fun h=>sl (lowIn inner mi _ h))]
    ·by_cases hw':z∈ws
     ·rw[hw z hw',decide_eq_true ((h z).mpr (.inl (Am.mpr ⟨hz,decide_eq_true hw'⟩)))]
     ·cases hx:X z with
      | true=>rw[decide_eq_true ((h z).mpr (.inr ⟨Am.mpr ⟨hz,by simp[hw']⟩,hx⟩))]
      | false =>
       rw[decide_eq_false fun m=>?_]
       rcases (h z).mp m with q | ⟨_,q⟩
       ·exact hw' (of_decide_eq_true (Am.mp q).2)
       ·rw[hx] at q
        cases q
   refine eN fun g m=>?_
   unfold tN
   rw[side g.a (hG g m).1,side g.b (hG g m).2]
  rw[e]
  exact lc _ (AN.mpr ⟨inner,mi,rfl⟩)
open Mt53 Mt22 MtF Mt31 Mt61
noncomputable def cM(fs:List Dv)(L:Int):List Str:=(fs.filter fun d=>decide (lD d<L)).map aP
noncomputable def gDv(g:Gap):Dv:=.tup [.str g.a,.str g.b,.int g.cap]
noncomputable def kP(zs:List Str):Dv:=.lst (zs.map Dv.str)
theorem aBO{fs:List Dv}(nd:(fs.map aP).Nodup){L:Int}{z:Str}(m:z∈fs.map aP):z∈cM fs L↔mZ fs z<L:=by
 obtain⟨d,md,rfl⟩:=AN.mp m
 rw[nW nd md]
 unfold cM
 constructor
 ·intro h
  obtain⟨e,me,ee⟩:=AN.mp h
  rw[Am] at me
  have:=of_decide_eq_true me.2
  have e1:=nW nd md
  have e2:=nW nd me.1
  rw[ee,e1] at e2
  rw[e2]
  exact this
 ·intro h
  exact AN.mpr ⟨d,Am.mpr ⟨md,decide_eq_true h⟩,rfl⟩
theorem aPO{fs:List Dv}{L:Int}:∀ z∈cM fs L,z∈fs.map aP:=fun z m=>by
 obtain⟨d,md,rfl⟩:=AN.mp m
 exact AN.mpr ⟨d,(Am.mp md).1,rfl⟩
theorem aIB(fs:List Dv)(L:Int):(cM fs L).length≤fs.length:=by
 unfold cM
 rw[AA]
 exact Av _ _
theorem aMB{K:AD}{H:Hp}{σ:L2.St}{j:Nat}{z:Str}{la:Addr}{low:List Str}{R:Bool→Hp→Prop}(hz:σ[j]?=some (some (.str z)))(hl:σ[4]?=some (some (.ref la)))(hla:H la=some (.lst (low.map V.str)))(q:R (decide (z="sea") || decide (z∈low)) H) :
  tOr (aGX (tOp rEq (qZ j) (tC (V.str "sea")))) (aGX (tOp (rIn K false) (qZ j) (qZ 4))) σ H R:=by
 refine⟨_,hz,rfl,_,rfl,?_⟩
 by_cases e:z="sea"
 ·subst e
  rw[decide_eq_true rfl]
  exact cP q
 ·rw[decide_eq_false (fun c=>e (V.str.inj c))]
  refine bO ⟨_,hz,_,hl,la,_,rfl,.inl (SqL.of hla),rfl,gX low,_,rfl,?_⟩
  rw[decide_eq_false e,EQ] at q
  rw[if_neg AR,lC]
  exact q
theorem aEQ:∀ (fr:List Str) (cs:List (List Str)) (k:Nat),(∀ c∈cs,c.length≤k)→∀ inner∈fr.foldl dH cs,inner.length≤k+fr.length
 | [],cs,k,h,inner,m=>h inner m
 | y :: fr,cs,k,h,inner,m=>by
  have:=aEQ fr (dH cs y) (k+1) (fun c mc=>by
   unfold dH at mc
   rcases Ab.mp mc with mc | mc
   ·have:=h c mc
    omega
   ·obtain⟨c',mc',rfl⟩:=AN.mp mc
    have:=h c' mc'
    rw[AW]
    show c'.length+1≤_
    omega) inner m
  rw[Af]
  omega
theorem pP{H:Hp}{zs:List Str}{v:V}(h:Is H (kP zs) v):∃ l,v=.ref l∧H l=some (.lst (zs.map V.str)):=by
 obtain⟨l,us,rfl,o,i⟩:=h
 have:∀ {zs:List Str} {us:List V},IsL H (zs.map Dv.str) us→us=zs.map V.str:=by
  intro zs
  induction zs with
  | nil=>intro us e;exact e
  | cons z zs ih =>
   intro us e
   obtain⟨v,r,rfl,e1,e2⟩:=e
   rw[ih e2]
   cases (show v=.str z from e1)
   rfl
 rw[this i] at o
 exact⟨l,rfl,o⟩
def pW:Sp:=fun vs H Q _=>∃ (x y u v:V) (lf ld lw:Addr) (vf vd:List V) (fs ds:List Dv) (ws:List Str) (L:Int),vs=[x,y,u,v]∧x=.ref lf∧H lf=some (.lst vf)∧IsL H fs vf∧y=.ref ld∧H ld=some (.lst vd)∧IsL H ds vd∧u=.ref lw∧H lw=some (.lst (ws.map V.str))∧v=.int L∧Fds fs 12∧Dks ("sea" :: fs.map aP) ds 10∧(∀ z∈ws,z∈fs.map aP)∧∀ (c:Int) (H':Hp),aH H H'→fZ (aU fs ds L) ws c→Q (.int c) H'
theorem aSP:∀ vs H Q E,pW vs H Q E→vs.length=4:=fun vs H Q E ⟨x,y,u,v,lf,ld,lw,vf,vd,fs,ds,ws,L,e,_⟩=>by rw[e];rfl
theorem pF(T:Txt K mg C):Fc P w K mg base 1 "_law_least" ["_law_fields_here","_law_dykes_here","_law_wish","_law_height"] pW:=by
 refine T.d_l_least.fc cG aSP (fun f cdv A outer s H vs Q E hr h=>?_)
 obtain⟨x,y,u,v,lf,ld,lw,vf,vd,fs,ds,ws,lv,rfl,rfl,hlf,hif,rfl,hld,hid,rfl,hlw,rfl,gf,gd,subw,q⟩:=h
 have big:=bU
 have big9:(10000:Nat)≤Ak:=by decide
 have f5:=gf.l2
 have d10:=gd.l2
 have lvf:=dS hif
 have lvd:=dS hid
 have seaF:Mt22.sea∉fs.map aP:=fun m=>by
  obtain⟨d,md,e⟩:=AN.mp m
  obtain⟨z,g,u,rfl,hz,_⟩:=bH (gf.all d md)
  exact pY hz e
 have ll:=aIB fs lv
 refine⟨_,(@aE _ _ _ _ _ (@fA _ (4) _ _ _ _ _ _ _ _ _ _ _ _ _ cG.nd rfl ["_law_name","_law_ground","_law_dues","_law_height"] 3 [3] rfl (@bG _ _ _ _ (pv 0)) (fun R=>@aHW _ _ _ _ _ (3) (K) rfl rfl (@cH _ _ _ _ _ (@aN _ _ (0) _ (show Ar (["_law_name","_law_ground","_law_dues","_law_height"]:List Str) by decide +kernel) rfl (Or.inl rfl) (by trivial)) (@cH _ _ _ _ _ (@aN _ _ (1) _ (show Ar (["_law_name","_law_ground","_law_dues","_law_height"]:List Str) by decide +kernel) rfl (Or.inl rfl) (by trivial)) (@cH _ _ _ _ _ (@aN _ _ (2) _ (show Ar (["_law_name","_law_ground","_law_dues","_law_height"]:List Str) by decide +kernel) rfl (Or.inl rfl) (by trivial)) kR (by rfl)) (by rfl)) (by rfl)) (by rfl) (by rfl)) (@zO _ _ _ _ (@fV _ _ _ (by decide) (@fV _ _ _ (by decide) (@fV _ _ _ (by decide) wO)))) (fun R=>@fI _ _ _ (@bK _ _ _ _ _ _ _ _ tE (pv 1) (pv 3) (@bI _ _ (by decide) (by decide)))) (fun R=>(pv 0)) (by exact Or.inl rfl) (by trivial) (by rfl) (by rfl) (by rfl) (by rfl) (by rfl) (by rfl) (by rfl) (by rfl) (by intro _;rfl)) (@aE _ _ _ _ _ (@aV _ _ (5) _ _ _ _ cG.nd rfl (Or.inl rfl) (@bS _ _ _ _ aB) (by rfl) (by trivial)) (@aE _ _ _ _ _ (@eS _ _ _ _ _ _ _ _ Ax rfl (@bG _ _ _ _ (pv 1)) (@rH _ _ _ _ _ _ rfl (@cH _ _ _ _ _ (@aN _ _ (6) _ cG.nd rfl (Or.inr rfl) (by trivial)) (@cH _ _ _ _ _ (@aN _ _ (7) _ cG.nd rfl (Or.inl rfl) (by trivial)) (@cH _ _ _ _ _ (@aN _ _ (8) _ cG.nd rfl (Or.inl rfl) (by trivial)) (@cH _ _ _ _ _ (@aN _ _ (9) _ cG.nd rfl (Or.inl rfl) (by trivial)) (@cH _ _ _ _ _ (@aN _ _ (10) _ cG.nd rfl (Or.inl rfl) (by trivial)) (@cH _ _ _ _ _ (@aN _ _ (11) _ cG.nd rfl (Or.inl rfl) (by trivial)) kR (by rfl)) (by rfl)) (by rfl)) (by rfl)) (by rfl)) (by rfl)) (by rfl) (by rfl)) (@aG _ _ _ (@dG _ _ _ _ _ _ _ _ (@PW.pt _ _ _ (@mJ _ _ _ _ _ _ _ (@bK _ _ _ _ _ _ _ _ tE (pv 9) (pv 3) (@bI _ _ (by decide) (by decide))) (@mJ _ _ _ _ _ _ _ (@PW.pt _ _ _ (@kA _ _ _ _ _ _ _ (@bK _ _ _ _ _ _ _ _ iX (pv 7) kT (@bI _ _ (by decide) (by decide))) (@iW _ _ _ _ (@bK _ _ _ _ _ _ _ _ (@fN _ (K) rfl) (pv 7) (pv 4) (by with_unfolding_all rfl))))) (@kQ _ _ _ _ (@PW.pt _ _ _ (@kA _ _ _ _ _ _ _ (@bK _ _ _ _ _ _ _ _ iX (pv 8) kT (@bI _ _ (by decide) (by decide))) (@iW _ _ _ _ (@bK _ _ _ _ _ _ _ _ (@fN _ (K) rfl) (pv 8) (pv 4) (by with_unfolding_all rfl))))))))) (@aG _ _ _ (@dB _ _ _ _ (@iJ _ _ _ _ _ _ _ _ _ _ _ _ An Au At cX (pv 5) (@aA _ _ _ _ _ (@dW _ _ _ _ _ (@aA _ _ _ _ _ (pv 7) (@aA _ _ _ _ _ (pv 8) (@aA _ _ _ _ _ (@aK _ _ _ _ _ _ _ _ gC (pv 10) (@aK _ _ _ _ _ _ _ _ jM (pv 3) (pv 9))) aB (by rfl)) (by rfl)) (by rfl))) aB (by rfl)) (by rfl) (by rfl) (by rfl) (by rfl) (by rfl)) (by rfl))) bP)) (by intro _;rfl)) (@aE _ _ _ _ _ (@fA _ (12) _ _ _ _ _ _ _ _ _ _ _ _ _ cG.nd rfl ["_law_name","_law_wish"] 1 [2] rfl (@bG _ _ _ _ (pv 4)) (fun R=>@aN _ _ (0) _ (show Ar (["_law_name","_law_wish"]:List Str) by decide +kernel) rfl (Or.inl rfl) (by trivial)) (@aW _ _ (by decide)) (fun R=>@fI _ _ _ (@bK _ _ _ _ _ _ _ _ (@xO _ (K) rfl) (pv 0) (pv 1) (by with_unfolding_all rfl))) (fun R=>(pv 0)) (by exact Or.inl rfl) (by trivial) (by rfl) (by rfl) (by rfl) (by rfl) (by rfl) (by rfl) (by rfl) (by rfl) (by intro _;rfl)) (@aE _ _ _ _ _ (@aV _ _ (13) _ _ _ _ cG.nd rfl (Or.inl rfl) (@bS _ _ _ _ (@aA _ _ _ _ _ (@bZ _ _ _ _ _ _ _ _ _ _ _ ["_law_name","_law_wish"] 1 [2] rfl (@bG _ _ _ _ (pv 4)) (fun R=>@aN _ _ (0) _ (show Ar (["_law_name","_law_wish"]:List Str) by decide +kernel) rfl (Or.inl rfl) (by trivial)) (@aW _ _ (by decide)) (fun R=>@fI _ _ _ (@bK _ _ _ _ _ _ _ _ (@fN _ (K) rfl) (pv 0) (pv 1) (by with_unfolding_all rfl))) (fun R=>(pv 0)) (by rfl) (by rfl) (by rfl) (by rfl) (by rfl) (by rfl) (by rfl) (by intro _;rfl)) aB (by rfl))) (by rfl) (by trivial)) (@aE _ _ _ _ _ (@eS _ _ _ _ _ _ _ _ Ax rfl (@bG _ _ _ _ (pv 12)) (@aN _ _ (6) _ cG.nd rfl (Or.inr rfl) (by trivial)) (@aG _ _ _ (@aV _ _ (13) _ _ _ _ cG.nd rfl (Or.inl rfl) (@aK _ _ _ _ _ _ _ _ iD (pv 13) (@bZ _ _ _ _ _ _ _ _ _ _ _ ["_law_inner","_law_name"] 1 [6] rfl (@bG _ _ _ _ (pv 13)) (fun R=>@aN _ _ (0) _ (show Ar (["_law_inner","_law_name"]:List Str) by decide +kernel) rfl (Or.inl rfl) (by trivial)) (@aW _ _ (by decide)) (fun R=>bT) (fun R=>(@aK _ _ _ _ _ _ _ _ iD (pv 0) (@bS _ _ _ _ (@aA _ _ _ _ _ (pv 1) aB (by rfl))))) (by rfl) (by rfl) (by rfl) (by rfl) (by rfl) (by rfl) (by rfl) (by intro _;rfl))) (by rfl) (by trivial))) (by intro _;rfl)) (@aE _ _ _ _ _ (@aV _ _ (14) _ _ _ _ cG.nd rfl (Or.inl rfl) (@bS _ _ _ _ aB) (by rfl) (by trivial)) (@aE _ _ _ _ _ (@eS _ _ _ _ _ _ _ _ Ax rfl (@bG _ _ _ _ (pv 13)) (@aN _ _ (15) _ cG.nd rfl (Or.inr rfl) (by trivial)) (@aG _ _ _ (@dB _ _ _ _ (@iJ _ _ _ _ _ _ _ _ _ _ _ _ An Au At cX (pv 14) (@aA _ _ _ _ _ (@aS _ _ _ _ _ _ _ _ _ (@aES _ rfl) rfl T.n_sum zV (@aA _ _ _ _ _ (@bZ _ _ _ _ _ _ _ _ _ _ _ ["_law_one","_law_other","_law_price","_law_inner"] 3 [15] rfl (@bG _ _ _ _ (pv 5)) (fun R=>@aHW _ _ _ _ _ (3) (K) rfl rfl (@cH _ _ _ _ _ (@aN _ _ (0) _ (show Ar (["_law_one","_law_other","_law_price","_law_inner"]:List Str) by decide +kernel) rfl (Or.inl rfl) (by trivial)) (@cH _ _ _ _ _ (@aN _ _ (1) _ (show Ar (["_law_one","_law_other","_law_price","_law_inner"]:List Str) by decide +kernel) rfl (Or.inl rfl) (by trivial)) (@cH _ _ _ _ _ (@aN _ _ (2) _ (show Ar (["_law_one","_law_other","_law_price","_law_inner"]:List Str) by decide +kernel) rfl (Or.inl rfl) (by trivial)) kR (by rfl)) (by rfl)) (by rfl)) (by rfl) (by rfl)) (@zO _ _ _ _ (@fV _ _ _ (by decide) (@fV _ _ _ (by decide) (@fV _ _ _ (by decide) wO)))) (fun R=>@fI _ _ _ (@bK _ _ _ _ _ _ _ _ yX (@dC _ _ _ _ _ _ _ _ (@fN _ (K) rfl) (pv 0) (pv 3) (by with_unfolding_all rfl)) (@dC _ _ _ _ _ _ _ _ (@fN _ (K) rfl) (pv 1) (pv 3) (by with_unfolding_all rfl)) (@bI _ _ (by decide) (by decide)))) (fun R=>(pv 2)) (by rfl) (by rfl) (by rfl) (by rfl) (by rfl) (by rfl) (by rfl) (by intro _;rfl)) aB (by rfl)) (by decide) (by decide) (by rfl) (by rfl)) aB (by rfl)) (by rfl) (by rfl) (by rfl) (by rfl) (by rfl)) (by rfl))) (by intro _;rfl)) (@aG _ _ _ (@aQ _ _ _ _ (@aS _ _ _ _ _ _ _ _ _ (@zU _ rfl) rfl T.n_min zX (@aA _ _ _ _ _ (pv 14) aB (by rfl)) (by decide) (by decide) (by rfl) (by rfl)))))))))))),?_⟩
 refine⟨_,rfl,lf,rfl,⟨_,SqL.of hlf⟩,?_⟩
 refine bE (F:=K) (xs:=vf) (by omega) (fun i ys H'=>H=H'∧ys=(cM (fs.take i) lv).map V.str) ⟨rfl,rfl⟩ ?_ ?_ ?_
 ·rintro i ys H' hi ⟨rfl,rfl⟩
  have:=aIB (fs.take i) lv
  rw[AH] at this
  exact⟨SqL.of hlf,by rw[AA];omega⟩
 ·rintro i xv ys H' K1 K2 hx' ⟨rfl,rfl⟩ k1 k2
  have hil:i<vf.length:=(AB.mp hx').1
  obtain⟨d,ed⟩:∃ d,fs[i]?=some d:=⟨_,AC (by omega)⟩
  obtain⟨v,ev,iv⟩:=hif.get ed
  rw[hx'] at ev
  cases ev
  obtain⟨z,g,u,rfl,hz,_⟩:=bH (gf.all d (AG ed))
  obtain⟨t,rfl,o⟩:=fY iv
  have et:=fX (P:=fun d:Dv=>decide (lD d<lv)) ed
  refine⟨t,_,rfl,SqT.of o,rfl,_,_,rfl,_,_,rfl,_,_,rfl,rfl,?_⟩
  refine⟨_,rfl,_,rfl,_,_,rfl,rfl,_,rfl,?_⟩
  cases hg:decide (g<lv) with
  | false =>
   refine bO (k2 _ ⟨rfl,?_⟩)
   unfold cM
   rw[et,show decide (lD (.tup [.str z,.int g,.int u])<lv)=false from hg]
   simp
  | true =>
   refine cP ⟨_,rfl,k1 _ _ ⟨rfl,?_⟩⟩
   unfold cM
   rw[et,show decide (lD (.tup [.str z,.int g,.int u])<lv)=true from hg,if_pos rfl,AF,AF]
   rfl
 rintro ys H1 ⟨rfl,rfl⟩
 rw[AE (by omega)]
 intro la hla
 have S1:=aH.upd (o:=.lst ((cM fs lv).map V.str)) hla
 have r1:upd H la (.lst ((cM fs lv).map V.str)) la=some (.lst ((cM fs lv).map V.str)):=aC
 generalize upd H la (.lst ((cM fs lv).map V.str))=H1 at S1 r1
 refine⟨aM rfl,fun lg hlg=>?_⟩
 have S2:=aH.upd (o:=.lst []) hlg
 have r2:upd H1 lg (.lst []) lg=some (.lst []):=aC
 have T2:=S1.trans S2
 generalize upd H1 lg (.lst [])=H2 at S2 r2 T2
 have hlgH:H lg=none:=S1.free hlg
 refine⟨_,rfl,ld,rfl,⟨_,SqL.of (T2 _ _ hld)⟩,gH (K:=K) (a:=ld) (xs:=vd) (fun i σ H'=>∃ (v6 v7 v8 v9 v10 v11:Option V) (us:List V),σ=[some (.ref lf),some (.ref ld),some (.ref lw),some (.int lv),some (.ref la),some (.ref lg),v6,v7,v8,v9,v10,v11,none,none,none,none]∧aH H1 H'∧H' lg=some (.lst us)∧IsL H' ((aU fs (ds.take i) lv).map gDv) us) ⟨_,_,_,_,_,_,[],rfl,S2,r2,rfl⟩ ?_ ?_ ?_⟩
 ·rintro i σ H' hi ⟨v6,v7,v8,v9,v10,v11,us,rfl,S',hg',ig⟩
  exact SqL.of ((S1.trans S') _ _ hld)
 ·rintro i xv σ H' hx ⟨v6,v7,v8,v9,v10,v11,us,rfl,S',hg',ig⟩
  have hil:i<vd.length:=(AB.mp hx).1
  obtain⟨d,ed⟩:∃ d,ds[i]?=some d:=⟨_,AC (by omega)⟩
  obtain⟨v,ev,iv⟩:=(IsL.same (S1.trans S') _ _ hid).get ed
  rw[hx] at ev
  cases ev
  obtain⟨n,a,b,c,r,sl,rfl,_,ha,hb,hab,hc,hr',_⟩:=bQ (gd.all d (AG ed))
  obtain⟨t,sv,rfl,o,isv⟩:=jB iv
  have et:aU fs (ds.take (i+1)) lv=aU fs (ds.take i) lv++(if isG fs lv (.tup [.str n,.str a,.str b,.int c,.int r,sl])=true then [gOf lv (.tup [.str n,.str a,.str b,.int c,.int r,sl])] else []):=by
   unfold aU
   rw[fX (P:=isG fs lv) ed,AF]
   cases h:isG fs lv (.tup [.str n,.str a,.str b,.int c,.int r,sl]) <;> rfl
  have eG:isG fs lv (.tup [.str n,.str a,.str b,.int c,.int r,sl])=(decide (c<lv) && (iC fs lv a && iC fs lv b)):=rfl
  have no:(decide (c<lv) && (iC fs lv a && iC fs lv b))=false→IsL H' ((aU fs (ds.take (i+1)) lv).map gDv) us:=fun h=>by
   rw[et,eG,h]
   simpa using ig
  have lus:=ig.length
  have gl:=kH fs (ds.take i) lv
  rw[AH] at gl
  rw[AA] at lus
  have lowE:∀ z:Str,z∈(("sea":Str) :: fs.map aP)→(decide (z="sea") || decide (z∈cM fs lv))=iC fs lv z:=fun z mz=>by
   unfold iC
   by_cases hz:z="sea"
   ·rw[decide_eq_true hz]
    rfl
   ·have mf:z∈fs.map aP:=by
     rcases AZ.mp mz with h | h
     ·exact absurd h hz
     ·exact h
    rw[decide_eq_false hz,EQ,EQ]
    by_cases hm:z∈cM fs lv
    ·rw[decide_eq_true hm,decide_eq_true ((aBO gf.nd mf).mp hm)]
    ·rw[decide_eq_false hm,decide_eq_false fun h=>hm ((aBO gf.nd mf).mpr h)]
  have hla':=S' _ _ r1
  refine⟨t,_,rfl,SqT.of o,rfl,_,_,rfl,_,_,rfl,_,_,rfl,_,_,rfl,_,_,rfl,_,_,rfl,rfl,?_⟩
  refine⟨_,rfl,_,rfl,_,_,rfl,rfl,_,rfl,?_⟩
  cases h1:decide (c<lv) with
  | false=>exact bO ⟨_,_,_,_,_,_,us,rfl,S',hg',no (by rw[h1];rfl)⟩
  | true =>
   refine cP ?_
   have yes:iC fs lv a=true→iC fs lv b=true→∀ tb,H' tb=none→IsL (upd (upd H' tb (.tup [.str a,.str b,.int (r*(lv - c))])) lg (.lst (us++[.ref tb]))) ((aU fs (ds.take (i+1)) lv).map gDv) (us++[.ref tb]):=fun h2 h3 tb htb=>by
    have Sb:=aH.upd (o:=.tup [.str a,.str b,.int (r*(lv - c))]) htb
    rw[et,eG,h1,h2,h3]
    show IsL _ ((aU fs (ds.take i) lv++[gOf lv (.tup [.str n,.str a,.str b,.int c,.int r,sl])]).map gDv) _
    rw[AF]
    refine IsL.keep (gN.lst (Sb _ _ hg')) _ _ (fE fun d m=>?_) (IsL.snoc (show Is _ (gDv ⟨n,a,b,r*(lv - c)⟩) (.ref tb) from⟨tb,_,rfl,aC,_,_,rfl,rfl,_,_,rfl,rfl,_,_,rfl,rfl,rfl⟩) (IsL.same Sb _ _ ig))
    rcases Ab.mp m with m | m
    ·obtain⟨g,_,rfl⟩:=AN.mp m
     rfl
    ·rw[AL.mp m]
     rfl
   have h2':=Ai.mp (show (decide (0≤r) && decide (r≤1000000))=true from hr')
   have r0:=of_decide_eq_true h2'.1
   have r6:=of_decide_eq_true h2'.2
   refine aMB rfl rfl hla' ?_
   rw[lowE a ha]
   cases h2:iC fs lv a with
   | false=>exact bO ⟨_,_,_,_,_,_,us,rfl,S',hg',no (by rw[h1,h2];rfl)⟩
   | true =>
    refine cP ?_
    refine aMB rfl rfl hla' ?_
    rw[lowE b hb]
    cases h3:iC fs lv b with
    | false=>exact bO ⟨_,_,_,_,_,_,us,rfl,S',hg',no (by rw[h1,h2,h3];rfl)⟩
    | true =>
     refine cP ?_
     refine⟨_,rfl,.inl ⟨rfl,_,SqL.of hg'⟩,_,rfl,_,rfl,_,rfl,_,rfl,_,rfl,_,_,rfl,rfl,_,_,rfl,rfl,.inl ⟨by omega,by omega⟩,aM rfl,fun tb htb=>?_⟩
     have Sb:=aH.upd (o:=.tup [.str a,.str b,.int (r*(lv - c))]) htb
     refine⟨lg,us,.ref tb,rfl,rfl,Sb _ _ hg',by omega,?_⟩
     exact⟨_,_,_,_,_,_,us++[.ref tb],rfl,(S'.trans Sb).over hlg,aC,yes h2 h3 tb htb⟩
 ·rintro σ H3 ⟨v6,v7,v8,v9,v10,v11,ug,rfl,S3,hg3,ig3⟩
  rw[← lvd,List.take_length] at ig3
  have T3:=S1.trans S3
  have r3:=S3 _ _ r1
  have w3:=T3 _ _ hlw
  have lug:=dS ig3
  have gl:=kH fs ds lv
  rw[AA] at lug
  refine⟨_,rfl,la,rfl,⟨_,SqL.of r3⟩,?_⟩
  refine bE (F:=K) (xs:=(cM fs lv).map V.str) (by rw[AA];omega) (fun i ys H'=>H3=H'∧ys=(((cM fs lv).take i).filter fun z=>!decide (z∈ws)).map V.str) ⟨rfl,rfl⟩ ?_ ?_ ?_
  ·rintro i ys H' hi ⟨rfl,rfl⟩
   have:=Av (fun z:Str=>!decide (z∈ws)) ((cM fs lv).take i)
   rw[AH] at this
   exact⟨SqL.of r3,by rw[AA];omega⟩
  ·rintro i xv ys H' K1 K2 hx' ⟨rfl,rfl⟩ k1 k2
   rw[AI] at hx'
   obtain⟨z,ez,rfl⟩:=AY.mp hx'
   have et:=fX (P:=fun z:Str=>!decide (z∈ws)) ez
   refine⟨_,rfl,_,rfl,lw,_,rfl,.inl (SqL.of w3),rfl,gX ws,_,rfl,?_⟩
   rw[if_pos rfl,lC]
   cases hg:(!decide (z∈ws)) with
   | false =>
    rw[hg] at et
    exact bO (k2 _ ⟨rfl,by rw[et];simp⟩)
   | true =>
    rw[hg] at et
    exact cP ⟨_,rfl,k1 _ _ ⟨rfl,by rw[et,if_pos rfl,AF];rfl⟩⟩
  rintro ys H4 ⟨rfl,rfl⟩
  rw[AA,AE (AS _)]
  intro lr hlr
  have S4:=aH.upd (o:=.lst (((cM fs lv).filter fun z=>!decide (z∈ws)).map V.str)) hlr
  have r4:upd H3 lr (.lst (((cM fs lv).filter fun z=>!decide (z∈ws)).map V.str)) lr=some (.lst (((cM fs lv).filter fun z=>!decide (z∈ws)).map V.str)):=aC
  generalize upd H3 lr (.lst (((cM fs lv).filter fun z=>!decide (z∈ws)).map V.str))=H4 at S4 r4
  have T4:=T3.trans S4
  refine⟨_,rfl,la,rfl,⟨_,SqL.of (S4 _ _ r3)⟩,?_⟩
  refine bE (F:=K) (xs:=(cM fs lv).map V.str) (by rw[AA];omega) (fun i ys H'=>H4=H'∧ys=(((cM fs lv).take i).filter fun z=>decide (z∈ws)).map V.str) ⟨rfl,rfl⟩ ?_ ?_ ?_
  ·rintro i ys H' hi ⟨rfl,rfl⟩
   have:=Av (fun z:Str=>decide (z∈ws)) ((cM fs lv).take i)
   rw[AH] at this
   exact⟨SqL.of (S4 _ _ r3),by rw[AA];omega⟩
  ·rintro i xv ys H' K1 K2 hx' ⟨rfl,rfl⟩ k1 k2
   rw[AI] at hx'
   obtain⟨z,ez,rfl⟩:=AY.mp hx'
   have et:=fX (P:=fun z:Str=>decide (z∈ws)) ez
   refine⟨_,rfl,_,rfl,lw,_,rfl,.inl (SqL.of (S4 _ _ w3)),rfl,gX ws,_,rfl,?_⟩
   rw[if_neg AR,lC]
   cases hg:decide (z∈ws) with
   | false =>
    rw[hg] at et
    exact bO (k2 _ ⟨rfl,by rw[et];simp⟩)
   | true =>
    rw[hg] at et
    exact cP ⟨_,rfl,k1 _ _ ⟨rfl,by rw[et,if_pos rfl,AF];rfl⟩⟩
  rintro ys H5 ⟨rfl,rfl⟩
  rw[AA,AE (AS _)]
  intro lb hlb
  have S5:=aH.upd (o:=.lst (((cM fs lv).filter fun z=>decide (z∈ws)).map V.str)) hlb
  have r5:upd H4 lb (.lst (((cM fs lv).filter fun z=>decide (z∈ws)).map V.str)) lb=some (.lst (((cM fs lv).filter fun z=>decide (z∈ws)).map V.str)):=aC
  generalize upd H4 lb (.lst (((cM fs lv).filter fun z=>decide (z∈ws)).map V.str))=H5 at S5 r5
  refine⟨aM rfl,fun lc hlc=>?_⟩
  have S6:=aH.upd (o:=.lst [.ref lb]) hlc
  have r6:upd H5 lc (.lst [.ref lb]) lc=some (.lst [.ref lb]):=aC
  have i6:IsL (upd H5 lc (.lst [.ref lb])) ([(cM fs lv).filter fun z=>decide (z∈ws)].map kP) [.ref lb]:=⟨_,_,rfl,⟨lb,_,rfl,S6 _ _ r5,IsL.strs _ _⟩,rfl⟩
  generalize upd H5 lc (.lst [.ref lb])=H6 at S6 r6 i6
  have T6:=T4.trans (S5.trans S6)
  have U6:=S4.trans (S5.trans S6)
  have r46:=(S5.trans S6) _ _ r4
  refine⟨_,rfl,lr,rfl,⟨_,SqL.of r46⟩,gH (K:=K) (a:=lr) (xs:=((cM fs lv).filter fun z=>!decide (z∈ws)).map V.str) (fun i σ H'=>∃ (v6:Option V) (lc:Addr) (uc:List V),σ=[some (.ref lf),some (.ref ld),some (.ref lw),some (.int lv),some (.ref la),some (.ref lg),v6,v7,v8,v9,v10,v11,some (.ref lr),some (.ref lc),none,none]∧aH H6 H'∧H' lc=some (.lst uc)∧IsL H' (((((cM fs lv).filter fun z=>!decide (z∈ws)).take i).foldl dH [(cM fs lv).filter fun z=>decide (z∈ws)]).map kP) uc) ⟨_,lc,[.ref lb],rfl,aH.refl _,r6,i6⟩ ?_ ?_ ?_⟩
  ·rintro i σ H' hi ⟨v6,lc,uc,rfl,S',hc',ic⟩
   exact SqL.of (S' _ _ r46)
  ·rintro i xv σ H' hx ⟨v6,lc,uc,rfl,S',hc',ic⟩
   have hil:=(AB.mp hx).1
   rw[AA] at hil
   rw[AI] at hx
   obtain⟨z,ez,rfl⟩:=AY.mp hx
   have ee:(((cM fs lv).filter fun z=>!decide (z∈ws)).take (i+1)).foldl dH [(cM fs lv).filter fun z=>decide (z∈ws)]=dH ((((cM fs lv).filter fun z=>!decide (z∈ws)).take i).foldl dH [(cM fs lv).filter fun z=>decide (z∈ws)]) z:=by
    rw[AT,ez,Eb]
    rfl
   have fl1:=Av (fun z:Str=>!decide (z∈ws)) (cM fs lv)
   have fl2:=Av (fun z:Str=>decide (z∈ws)) (cM fs lv)
   have cl:((((cM fs lv).filter fun z=>!decide (z∈ws)).take i).foldl dH [(cM fs lv).filter fun z=>decide (z∈ws)]).length≤4096:=by
    rw[aCB,AH,Bq,Nat.one_mul]
    have:2 ^ min i ((cM fs lv).filter fun z=>!decide (z∈ws)).length≤2 ^ 12:=BM (by decide) (by omega)
    omega
   have il:∀ inner∈((((cM fs lv).filter fun z=>!decide (z∈ws)).take i).foldl dH [(cM fs lv).filter fun z=>decide (z∈ws)]),inner.length≤24:=fun inner m=>by
    have:=aEQ _ _ 12 (fun c mc=>by rw[AL.mp mc];omega) inner m
    rw[AH] at this
    omega
   rw[ee]
   generalize (((cM fs lv).filter fun z=>!decide (z∈ws)).take i).foldl dH [(cM fs lv).filter fun z=>decide (z∈ws)]=cs at ic cl il
   have luc:=dS ic
   rw[AA] at luc
   refine⟨_,rfl,_,rfl,lc,rfl,⟨_,SqL.of hc'⟩,?_⟩
   refine bE (F:=K) (xs:=uc) (by omega) (fun j ys H''=>aH H' H''∧IsL H'' ((cs.take j).map fun c=>kP (c++[z])) ys) ⟨aH.refl _,rfl⟩ ?_ ?_ ?_
   ·rintro j ys H'' hj ⟨S2,iy⟩
    refine⟨SqL.of (S2 _ _ hc'),?_⟩
    have:=iy.length
    rw[AA,AH] at this
    omega
   ·rintro j xv ys H'' K1 K2 hx2 ⟨S2,iy⟩ k1 k2
    have hjl:j<uc.length:=(AB.mp hx2).1
    obtain⟨c,ec⟩:∃ c,cs[j]?=some c:=⟨_,AC (by omega)⟩
    obtain⟨v,ev,iv⟩:=(IsL.same S2 _ _ ic).get (show (cs.map kP)[j]?=some (kP c) by rw[AI,ec];rfl)
    rw[hx2] at ev
    cases ev
    obtain⟨li,rfl,oi⟩:=pP iv
    have:=il c (AG ec)
    refine⟨_,rfl,_,rfl,aM rfl,fun l1 h1=>?_⟩
    have S3:=aH.upd (o:=.lst [.str z]) h1
    refine⟨li,l1,_,_,rfl,rfl,S3 _ _ oi,aC,by rw[AA];show _+1≤_;omega,fun l2 h2=>k1 _ _ ⟨S2.trans (S3.trans (aH.upd h2)),?_⟩⟩
    rw[AT,ec,AF]
    refine IsL.snoc (show Is _ (kP (c++[z])) (.ref l2) from⟨l2,_,rfl,aC,?_⟩) (IsL.same (S3.trans (aH.upd h2)) _ _ iy)
    rw[show c.map V.str++[V.str z]=(c++[z]).map V.str by rw[AF];rfl]
    exact IsL.strs _ _
   rintro ys H2' ⟨S2,iy⟩
   rw[AE (by omega)] at iy
   intro l3 h3
   have S3:=aH.upd (o:=.lst ys) h3
   have ly:=dS iy
   rw[AA] at ly
   refine⟨lc,l3,_,_,rfl,rfl,(S2.trans S3) _ _ hc',aC,by omega,fun l4 h4=>?_⟩
   have S4':=aH.upd (o:=.lst (uc++ys)) h4
   refine⟨_,l4,uc++ys,rfl,S'.trans (S2.trans (S3.trans S4')),aC,?_⟩
   unfold dH
   rw[AF,Aq]
   exact IsL.app (IsL.same (S3.trans S4') _ _ iy) (IsL.same (S2.trans (S3.trans S4')) _ _ ic)
  ·rintro σ H7 ⟨v6,lc,uc,rfl,S7,hc7,ic7⟩
   rw[AA,AE (AS _)] at ic7
   have fl1:=Av (fun z:Str=>!decide (z∈ws)) (cM fs lv)
   have cl:((((cM fs lv).filter fun z=>!decide (z∈ws))).foldl dH [(cM fs lv).filter fun z=>decide (z∈ws)]).length≤4096∧0<((((cM fs lv).filter fun z=>!decide (z∈ws))).foldl dH [(cM fs lv).filter fun z=>decide (z∈ws)]).length:=by
    rw[aCB,Bq,Nat.one_mul]
    have:2 ^ ((cM fs lv).filter fun z=>!decide (z∈ws)).length≤2 ^ 12:=BM (by decide) (by omega)
    exact⟨by omega,Nat.pos_of_ne_zero (by simp)⟩
   have fin:∀ c∈(((cM fs lv).filter fun z=>!decide (z∈ws)).foldl dH [(cM fs lv).filter fun z=>decide (z∈ws)]).map (aEL (aU fs ds lv)),(∀ a∈(((cM fs lv).filter fun z=>!decide (z∈ws)).foldl dH [(cM fs lv).filter fun z=>decide (z∈ws)]).map (aEL (aU fs ds lv)),c≤a)→fZ (aU fs ds lv) ws c:=fun c mc lc=>by
    refine aMJ (fun g mg=>?_) (fun m=>seaF (aPO _ m)) (fun m=>seaF (subw _ m)) mc lc
    obtain⟨d,md,rfl⟩:=AN.mp mg
    rw[Am] at md
    obtain⟨n,a,b,c,r,sl,rfl,_,ha,hb,_⟩:=bQ (gd.all d md.1)
    have h:=Ai.mp (Ai.mp (show (decide (c<lv) && (iC fs lv a && iC fs lv b))=true from md.2)).2
    have side:∀ z:Str,z∈(("sea":Str) :: fs.map aP)→iC fs lv z=true→z=Mt22.sea∨z∈cM fs lv:=fun z mz hz=>by
     unfold iC at hz
     rcases EK.mp hz with hz | hz
     ·exact .inl (of_decide_eq_true hz)
     ·rcases AZ.mp mz with e | mf
      ·exact .inl e
      ·exact .inr ((aBO gf.nd mf).mpr (of_decide_eq_true hz))
    exact⟨side a ha h.1,side b hb h.2⟩
   generalize ((cM fs lv).filter fun z=>!decide (z∈ws)).foldl dH [(cM fs lv).filter fun z=>decide (z∈ws)]=cs at ic7 cl fin
   have luc:=dS ic7
   rw[AA] at luc
   refine⟨aM rfl,fun lq hlq=>?_⟩
   have S8:=aH.upd (o:=.lst []) hlq
   have r8:upd H7 lq (.lst []) lq=some (.lst []):=aC
   generalize upd H7 lq (.lst [])=H8 at S8 r8
   have T7:=T6.trans S7
   have g7:H7 lg=some (.lst ug):=(U6.trans S7) _ _ hg3
   have ig7:=IsL.same (U6.trans S7) _ _ ig3
   refine⟨_,rfl,lc,rfl,⟨_,SqL.of (S8 _ _ hc7)⟩,gH (K:=K) (a:=lc) (xs:=uc) (fun i σ H'=>∃ (v15:Option V),σ=[some (.ref lf),some (.ref ld),some (.ref lw),some (.int lv),some (.ref la),some (.ref lg),v6,v7,v8,v9,v10,v11,some (.ref lr),some (.ref lc),some (.ref lq),v15]∧aH H7 H'∧H' lq=some (.lst (((cs.take i).map (aEL (aU fs ds lv))).map V.int))) ⟨_,rfl,S8,r8⟩ ?_ ?_ ?_⟩
   ·rintro i σ H' hi ⟨v15,rfl,S',hq'⟩
    exact SqL.of (S' _ _ hc7)
   ·rintro i xv σ H' hx ⟨v15,rfl,S',hq'⟩
    have hil:i<uc.length:=(AB.mp hx).1
    obtain⟨c,ec⟩:∃ c,cs[i]?=some c:=⟨_,AC (by omega)⟩
    obtain⟨v,ev,iv⟩:=(IsL.same S' _ _ ic7).get (show (cs.map kP)[i]?=some (kP c) by rw[AI,ec];rfl)
    rw[hx] at ev
    cases ev
    obtain⟨li,rfl,oi⟩:=pP iv
    refine⟨_,rfl,.inl ⟨rfl,_,SqL.of hq'⟩,?_⟩
    refine⟨_,rfl,lg,rfl,⟨_,SqL.of (S' _ _ g7)⟩,?_⟩
    have ig':=IsL.same S' _ _ ig7
    refine bE (F:=K) (xs:=ug) (by omega) (fun j ys H''=>H'=H''∧ys=((((aU fs ds lv).take j).filter fun g=>!(decide (g.a∈c) == decide (g.b∈c))).map (·.cap)).map V.int) ⟨rfl,rfl⟩ ?_ ?_ ?_
    ·rintro j ys H'' hj ⟨rfl,rfl⟩
     have:=Av (fun g:Gap=>!(decide (g.a∈c) == decide (g.b∈c))) ((aU fs ds lv).take j)
     rw[AH] at this
     exact⟨SqL.of (S' _ _ g7),by rw[AA,AA];omega⟩
    ·rintro j xv ys H'' K1 K2 hx2 ⟨rfl,rfl⟩ k1 k2
     have hjl:j<ug.length:=(AB.mp hx2).1
     obtain⟨g,eg⟩:∃ g,(aU fs ds lv)[j]?=some g:=⟨_,AC (by omega)⟩
     obtain⟨v,ev,iv⟩:=ig'.get (show ((aU fs ds lv).map gDv)[j]?=some (gDv g) by rw[AI,eg];rfl)
     rw[hx2] at ev
     cases ev
     obtain⟨tg,us',rfl,og,u0,w0,rfl,e0,u1,w1,rfl,e1,u2,w2,rfl,e2,hn⟩:=iv
     cases (show w2=[] from hn)
     cases (show u0=.str g.a from e0)
     cases (show u1=.str g.b from e1)
     cases (show u2=.int g.cap from e2)
     have et:=fX (P:=fun g:Gap=>!(decide (g.a∈c) == decide (g.b∈c))) eg
     refine⟨tg,_,rfl,SqT.of og,rfl,_,_,rfl,_,_,rfl,_,_,rfl,rfl,?_⟩
     refine⟨_,rfl,_,rfl,li,_,rfl,.inl (SqL.of oi),rfl,gX c,?_⟩
     refine⟨_,rfl,_,rfl,li,_,rfl,.inl (SqL.of oi),rfl,gX c,?_⟩
     rw[if_neg AR,if_neg AR,lC,lC]
     refine⟨rfl,_,rfl,?_⟩
     have eb:decide (V.bl (decide (g.a∈c))=V.bl (decide (g.b∈c)))=(decide (g.a∈c) == decide (g.b∈c)):=by
      cases decide (g.a∈c) <;> cases decide (g.b∈c) <;> rfl
     rw[eb]
     cases hg:(!(decide (g.a∈c) == decide (g.b∈c))) with
     | false =>
      rw[hg] at et
      exact bO (k2 _ ⟨rfl,by rw[et];simp⟩)
     | true =>
      rw[hg] at et
      exact cP ⟨_,rfl,k1 _ _ ⟨rfl,by rw[et,if_pos rfl,AF,AF];rfl⟩⟩
    rintro ys H'' ⟨rfl,rfl⟩
    rw[show (aU fs ds lv).take ug.length=aU fs ds lv from AE (by omega)]
    intro l5 h5
    have S5':=aH.upd (o:=.lst ((((aU fs ds lv).filter fun g=>!(decide (g.a∈c) == decide (g.b∈c))).map (·.cap)).map V.int)) h5
    refine⟨l5,_,rfl,SqL.of aC,?_⟩
    have es:(((aU fs ds lv).filter fun g=>!(decide (g.a∈c) == decide (g.b∈c))).map (·.cap)).sum=aEL (aU fs ds lv) c:=by
     show sm _ _=_
     rw[jV]
     refine eN fun g _=>?_
     cases decide (g.a∈c) <;> cases decide (g.b∈c) <;> rfl
    rw[es]
    refine⟨lq,_,.int _,rfl,rfl,S5' _ _ hq',by rw[AA,AA,AH];omega,?_⟩
    refine⟨_,rfl,(S'.trans S5').over hlq,?_⟩
    rw[aC,AT,ec,AF,AF]
    rfl
   ·rintro σ H' ⟨v15,rfl,S',hq'⟩
    rw[AE (by omega)] at hq'
    exact⟨_,rfl,lq,cs.map (aEL (aU fs ds lv)),rfl,SqL.of hq',by rw[AA];exact cl.2,fun M mM least=>q M H' (T7.trans S') (fin M mM least)⟩
open Mt22 MtF
noncomputable def aEW(zs:List Str):Dv→Bool
 | .lst ds=>ds.all (fS zs)
 | _=>false
noncomputable def iR:List Dv→List Str
 | []=>[]
 | .str z :: ds=>z :: iR ds
 | _ :: ds=>iR ds
noncomputable def jG(zs:List Str)(d:Dv):Bool:=zE (zs.length:Int) d && aEW zs d && (match d with | .lst ds=>decide ((iR ds).Nodup) | _=>false)
theorem aEV{zs:List Str}:∀ {ds:List Dv},ds.all (fS zs)=true→ds=(iR ds).map Dv.str∧∀ z∈iR ds,z∈zs
 | [],_=>⟨rfl,fun z m=>by cases m⟩
 | d :: ds,h=>by
  rw[Cg,AU] at h
  obtain⟨e,s⟩:=aEV h.2
  cases d with
  | str z =>
   refine⟨?_,fun y m=>?_⟩
   ·show Dv.str z :: ds=Dv.str z :: (iR ds).map Dv.str
    rw[← e]
   ·rcases AZ.mp m with rfl | m
    ·exact of_decide_eq_true h.1
    ·exact s y m
  | _=>cases h.1
theorem aGZ{H:Hp}:∀ {zs:List Str} {us:List V},IsL H (zs.map Dv.str) us→us=zs.map V.str
 | [],us,h=>h
 | z :: zs,us,⟨v,r,e,hv,t⟩=>by
  rw[e,show v=.str z from hv,aGZ t]
  rfl
def aHC(C:Addr):Sp:=sp2 fun x y H Q=>∃ (p:Addr) (fs ds:List Dv) (d:Dv),x=.ref p∧LandAt C H p fs ds∧Is H d y∧cO d=true∧∀ H',aH H H'→Q (.bl (jG (fs.map aP) d)) H'
theorem lP(T:Txt K mg C):Fc P w K mg base 2 "are_some_fields" ["land","thing"] (aHC C):=by
 have G_land_p_field_names:Mc P w K mg base 1 C "field_names" ["self"] (aAI C fun fs _=>fs.map aP):=gM T
 have G_p_is_list_of:Fc P w K mg base 1 "is_list_of" ["thing","most"] mB:=fK T
 have G_p_is_one_of:Fc P w K mg base 1 "is_one_of" ["thing","names"] (pU K):=gE T
 refine T.d_p_are_some_fields.fc dP gW (fun f cdv A outer s H vs Q E hr h=>?_)
 obtain⟨x,y,rfl,p,fs,ds,d,rfl,L,hd,sm,q⟩:=h
 have big:=bU
 have gf:=(cK L).1
 have f2:=gf.l2
 obtain⟨dx,d1,d2,hx,_⟩:=L.ex
 refine⟨_,(@aE _ _ _ _ _ (@aV _ _ (2) _ _ _ _ dP.nd rfl (Or.inr rfl) (@yV _ _ _ _ _ _ _ _ _ _ _ T.cl_Land G_land_p_field_names (hr.mono (by decide)) (pv 0) (by rfl)) (by rfl) (by trivial)) (@aE _ _ _ _ _ (@dG _ _ _ _ _ _ _ _ (@PW.pt _ _ _ (@kA _ _ _ _ _ _ _ (@dA _ _ _ _ (@cR _ _ _ (@bC _ _ _ _ _ _ _ _ _ _ G_p_is_list_of (hr.mono (by decide)) (@aA _ _ _ _ _ (pv 1) (@aA _ _ _ _ _ (@aS _ _ _ _ _ _ _ _ _ (@bB _ (K) rfl) rfl T.n_len bJ (@aA _ _ _ _ _ (pv 2) aB (by rfl)) (by decide) (by decide) (by rfl) (by rfl)) aB (by rfl)) (by rfl)) (by rfl) (by decide) (by rfl) (by rfl)) (by intro _;rfl))) (@iW _ _ _ _ (@dA _ _ _ _ (@cR _ _ _ (@aS _ _ _ _ _ _ _ _ _ (@kM _ rfl) rfl T.n_all iQ (@aA _ _ _ _ _ (@bZ _ _ _ _ _ _ _ _ _ _ _ ["name","names"] 1 [2] rfl (@bG _ _ _ _ (pv 1)) (fun R=>@aN _ _ (0) _ (show Ar (["name","names"]:List Str) by decide +kernel) rfl (Or.inl rfl) (by trivial)) (@aW _ _ (by decide)) (fun R=>bT) (fun R=>(@bC _ _ _ _ _ _ _ _ _ _ G_p_is_one_of (hr.mono (by decide)) (@aA _ _ _ _ _ (pv 0) (@aA _ _ _ _ _ (pv 1) aB (by rfl)) (by rfl)) (by rfl) (by decide) (by rfl) (by rfl))) (by rfl) (by rfl) (by rfl) (by rfl) (by rfl) (by rfl) (by rfl) (by intro _;rfl)) aB (by rfl)) (by decide) (by decide) (by rfl) (by rfl)) (by intro _;rfl)))))) (@aG _ _ _ (@aQ _ _ _ _ fC)) bP) (@aG _ _ _ (@aQ _ _ _ _ (@dC _ _ _ _ _ _ _ _ iX (@aS _ _ _ _ _ _ _ _ _ call_len_set rfl T.n_len bJ (@aA _ _ _ _ _ (@dM _ _ _ _ _ _ _ _ _ (@jQ _ rfl) rfl T.n_set sM (@aA _ _ _ _ _ (pv 1) aB (by rfl)) (by decide) (by decide) (by rfl) (by rfl)) aB (by rfl)) (by decide) (by decide) (by rfl) (by rfl)) (@aS _ _ _ _ _ _ _ _ _ (@bB _ (K) rfl) rfl T.n_len bJ (@aA _ _ _ _ _ (pv 1) aB (by rfl)) (by decide) (by decide) (by rfl) (by rfl)) (@bI _ _ (by decide) (by decide))))))),?_⟩
 refine⟨_,rfl,p,dx,_,rfl,hx,gF _ _ (by decide +kernel) (by decide +kernel),_,rfl,p,fs,ds,rfl,L,fun ln H1 S1 fln hln=>?_⟩
 have hd1:=Is.same S1 _ _ hd
 have ln0:((fs.map aP).map V.str).length=(fs.map aP).length:=AA ..
 refine⟨_,rfl,_,rfl,ln,_,rfl,.inl (SqL.of hln),_,_,rfl,d,_,hd1,rfl,_,rfl,?_⟩
 rw[ln0]
 cases hb:zE ((fs.map aP).length:Int) d with
 | false =>
  refine cP (cP ?_)
  have e:jG (fs.map aP) d=false:=by unfold jG;rw[hb];rfl
  rw[e] at q
  exact q _ S1
 | true =>
  refine bO ?_
  cases d with
  | lst es =>
   obtain⟨l,us,rfl,ol,iu⟩:=hd1
   have lu:=iu.length
   have les:es.length≤1000:=of_decide_eq_true (Ai.mp sm).1
   refine⟨_,rfl,l,rfl,⟨_,SqL.of ol⟩,?_⟩
   refine bE (F:=K) (xs:=us) (by omega) (fun i ys H'=>H1=H'∧ys=((es.take i).map (fS (fs.map aP))).map V.bl) ⟨rfl,rfl⟩ ?_ ?_ ?_
   ·rintro i ys H' hi' ⟨rfl,rfl⟩
    exact⟨SqL.of ol,by rw[AA,AA,AH];omega⟩
   ·rintro i xv ys H' K1 K2 hx ⟨rfl,rfl⟩ k1 k2
    have hil:i<us.length:=(AB.mp hx).1
    obtain⟨e,ee⟩:∃ e,es[i]?=some e:=⟨_,AC (by omega)⟩
    obtain⟨v,ev,iv⟩:=(show IsL H1 es us from iu).get ee
    rw[hx] at ev
    cases ev
    refine⟨_,rfl,_,rfl,_,_,rfl,e,ln,_,iv,rfl,SqL.of hln,?_⟩
    refine k1 _ _ ⟨rfl,?_⟩
    rw[AT,ee,AF,AF]
    rfl
   rintro ys H' ⟨rfl,rfl⟩
   rw[lu,AE (AS _)]
   intro p4 hp4
   have S4:=aH.upd (o:=.lst ((es.map (fS (fs.map aP))).map V.bl)) hp4
   refine⟨p4,es.map (fS (fs.map aP)),rfl,SqL.of aC,_,rfl,?_⟩
   have eall:(es.map (fS (fs.map aP))).all id=es.all (fS (fs.map aP)):=by rw[DH];rfl
   rw[eall]
   cases ha:es.all (fS (fs.map aP)) with
   | false =>
    refine cP ?_
    have e:jG (fs.map aP) (.lst es)=false:=by unfold jG;rw[show aEW (fs.map aP) (.lst es)=false from ha];simp
    rw[e] at q
    exact q _ (S1.trans S4)
   | true =>
    refine bO ?_
    obtain⟨ees,sub⟩:=aEV ha
    generalize hz:iR es=zs at ees sub
    have e:jG (fs.map aP) (.lst es)=decide (zs.Nodup):=by
     show (zE ((fs.map aP).length:Int) (.lst es) && aEW (fs.map aP) (.lst es) && decide ((iR es).Nodup))=_
     rw[hb,show aEW (fs.map aP) (.lst es)=true from ha,hz]
     rfl
    rw[e] at q
    have eus:us=zs.map V.str:=by
     rw[ees] at iu
     exact aGZ iu
    have lz:zs.length≤1000:=by rw[eus,AA] at lu;omega
    rw[eus] at ol
    have hl4:=S4 _ _ ol
    refine⟨_,rfl,l,zs.map Sum.inr,rfl,SqL.of (by rw[hl4,aBN]),by rw[AA];omega,fun p5 hp5=>?_⟩
    have hle:=aBY (zs.map (Sum.inr:Str→Key))
    rw[AA] at hle
    refine⟨p5,_,_,rfl,aC,by omega,_,rfl,l,zs.map V.str,rfl,.inl (SqL.of (by rw[aI (aJ hl4 hp5)];exact hl4)),rfl,?_⟩
    have e:decide (V.int ((uC (zs.map (Sum.inr:Str→Key))).length:Int)=V.int ((zs.map V.str).length:Int))=decide zs.Nodup:=by
     rw[jJ,AA,Bc,decide_eq_true_eq,decide_eq_true_eq,← fU,← sI,AA]
     omega
    rw[e]
    exact q _ (S1.trans (S4.trans (aH.upd hp5)))
  | _=>cases hb
open Mt53 Mt22 MtF Mt31 Mt61
def aHB(mg:Str→Option Value)(C:Addr):Sp:=fun vs H Q E=>∃ (x y u:V) (p:Addr) (fs ds:List Dv) (d e:Dv) (c:Addr),vs=[x,y,u]∧x=.ref p∧LandAt C H p fs ds∧Is H d y∧cO d=true∧Is H e u∧(jG (fs.map aP) d=false∨eA e=false)∧mg "NoWish"=some (.ref c)∧∀ H',aH H H'→E (.ref c) none H'
theorem rM(T:Txt K mg C):FcX P w K mg base 3 "check_wish" ["land","fields","height"] (aHB mg C):=by
 obtain⟨c_NoWish,c_TooMany,c_DykeError,ex_NoWish,ex_TooMany,hm_NoWish,hm_TooMany,hm_DykeError,kx_NoWish_DykeError,kx_NoWish_ValueError,kx_NoWish_NoWish,kx_NoWish_TooMany,kx_TooMany_DykeError,kx_TooMany_ValueError,kx_TooMany_NoWish,kx_TooMany_TooMany,xc_NoWish_DykeError,xc_TooMany_DykeError⟩:=T.xs
 have G_p_are_some_fields:Fc P w K mg base 2 "are_some_fields" ["land","thing"] (aHC C):=lP T
 have G_p_is_height:Fc P w K mg base 2 "is_height" ["thing"] hU:=dI T
 refine T.d_p_check_wish.fcX lJ (fun vs H Q E h=>?_) (fun f cdv A outer s H vs Q E hr h=>?_)
 ·obtain⟨x,y,u,p,fs,ds,d,e,c,rfl,_⟩:=h
  rfl
 obtain⟨x,y,u,p,fs,ds,d,e,c,rfl,rfl,L,hd,sm,he,bad,hc,q⟩:=h
 rw[hm_NoWish] at hc
 cases hc
 refine⟨_,(@aE _ _ _ _ _ (@dG _ _ _ _ _ _ _ _ (@PW.pt _ _ _ (@kA _ _ _ _ _ _ _ (@dA _ _ _ _ (@cR _ _ _ (@bC _ _ _ _ _ _ _ _ _ _ G_p_are_some_fields (hr.mono (by decide)) (@aA _ _ _ _ _ (pv 0) (@aA _ _ _ _ _ (pv 1) aB (by rfl)) (by rfl)) (by rfl) (by decide) (by rfl) (by rfl)) (by intro _;rfl))) (@iW _ _ _ _ (@dA _ _ _ _ (@cR _ _ _ (@bC _ _ _ _ _ _ _ _ _ _ G_p_is_height (hr.mono (by decide)) (@aA _ _ _ _ _ (pv 2) aB (by rfl)) (by rfl) (by decide) (by rfl) (by rfl)) (by intro _;rfl)))))) (@aG _ _ _ (@aDL _ _ _ _ _ _ _ _ _ _ hm_NoWish ex_NoWish.ex rfl yU (@aA _ _ _ _ _ kT aB (by rfl)) (by rfl) (by decide) (by rfl) (by rfl))) bP) rG),?_⟩
 refine⟨_,rfl,_,rfl,_,_,rfl,p,fs,ds,d,rfl,L,hd,sm,fun H1 S1=>⟨_,rfl,?_⟩⟩
 cases hq:jG (fs.map aP) d with
 | false=>exact cP (cP ⟨aM rfl,q _ S1⟩)
 | true =>
  refine bO ?_
  rcases bad with b | b
  ·rw[hq] at b
   cases b
  ·refine⟨_,rfl,_,rfl,e,Is.same S1 _ _ he,_,rfl,?_⟩
   rw[b]
   exact cP ⟨aM rfl,q _ S1⟩
open Mt53 Mt22 MtF Mt31 Mt61 Mt74
theorem sQ{H:Hp}:∀ {zs:List Str} {vs:List V},IsL H (zs.map Dv.str) vs→vs=zs.map V.str
 | [],_,h=>h
 | z :: zs,_,h=>by
  obtain⟨v,r,rfl,e,t⟩:=h
  cases (show v=.str z from e)
  rw[sQ t]
  rfl
def aIP(zs:List Str)(d e:Dv)(x:Str):Prop:=(x="NoWish"∧(jG zs d=false∨eA e=false))∨(x="TooMany"∧∃ (ws:List Str) (L:Int),d=.lst (ws.map Dv.str)∧ws.Nodup∧(∀ z∈ws,z∈zs)∧8<ws.length∧e=.int L∧hgt L=true)
def aQR(mg:Str→Option Value)(C:Addr):Sp:=fun vs H Q E=>∃ (x y u:V) (p:Addr) (fs ds:List Dv) (d e:Dv) (nm:Str) (c:Addr),vs=[x,y,u]∧x=.ref p∧LandAt C H p fs ds∧Is H d y∧cO d=true∧Is H e u∧aIP (fs.map aP) d e nm∧mg nm=some (.ref c)∧∀ H',aH H H'→E (.ref c) none H'
theorem tX(T:Txt K mg C):FcX P w K mg base 8 "companies" ["land","fields","height"] (aQR mg C):=by
 obtain⟨c_NoWish,c_TooMany,c_DykeError,ex_NoWish,ex_TooMany,hm_NoWish,hm_TooMany,hm_DykeError,kx_NoWish_DykeError,kx_NoWish_ValueError,kx_NoWish_NoWish,kx_NoWish_TooMany,kx_TooMany_DykeError,kx_TooMany_ValueError,kx_TooMany_NoWish,kx_TooMany_TooMany,xc_NoWish_DykeError,xc_TooMany_DykeError⟩:=T.xs
 refine T.d_p_companies.fcX eY (fun vs H Q E h=>?_) (fun f cdv A outer s H vs Q E hr h=>?_)
 ·obtain⟨x,y,u,p,fs,ds,d,e,nm,c,rfl,_⟩:=h
  rfl
 obtain⟨x,y,u,p,fs,ds,d,e,nm,c,rfl,rfl,L,hd,sm,he,bad,hc,q⟩:=h
 rcases bad with ⟨rfl,bad⟩ | ⟨rfl,ws,lv,rfl,nd,sub,l8,rfl,hL⟩
 ·have G_p_check_wish:FcX P w K mg base 3 "check_wish" ["land","fields","height"] (aHB mg C):=rM T
  refine⟨_,(@aE _ _ _ _ _ (@dB _ _ _ _ (aUP G_p_check_wish (hr.mono (by decide)) aPE (@aA _ _ _ _ _ (pv 0) (@aA _ _ _ _ _ (pv 1) (@aA _ _ _ _ _ (pv 2) aB (by rfl)) (by rfl)) (by rfl))) (by rfl)) rG),?_⟩
  exact⟨_,rfl,_,rfl,_,rfl,_,_,_,p,fs,ds,d,e,c,rfl,rfl,L,hd,sm,he,bad,hc,q⟩
 ·have G_p_check_wish:Fc P w K mg base 3 "check_wish" ["land","fields","height"] (pT C):=iF T
  rw[hm_TooMany] at hc
  cases hc
  obtain⟨l,us,rfl,hl,hi⟩:=hd
  have eu:=sQ hi
  subst eu
  have eh:u=.int lv:=he
  subst eh
  refine⟨_,(@aE _ _ _ _ _ (@dB _ _ _ _ (@bC _ _ _ _ _ _ _ _ _ _ G_p_check_wish (hr.mono (by decide)) (@aA _ _ _ _ _ (pv 0) (@aA _ _ _ _ _ (pv 1) (@aA _ _ _ _ _ (pv 2) aB (by rfl)) (by rfl)) (by rfl)) (by rfl) (by decide) (by rfl) (by rfl)) (by rfl)) (@aE _ _ _ _ _ (@dG _ _ _ _ _ _ _ _ (@bK _ _ _ _ _ _ _ _ aDR (@aS _ _ _ _ _ _ _ _ _ (@bB _ (K) rfl) rfl T.n_len bJ (@aA _ _ _ _ _ (pv 1) aB (by rfl)) (by decide) (by decide) (by rfl) (by rfl)) (@rK _ _ _ _ T.g_MOST_IN_A_WISH (by rfl) (by decide)) (@bI _ _ (by decide) (by decide))) (@aG _ _ _ (@aDL _ _ _ _ _ _ _ _ _ _ hm_TooMany ex_TooMany.ex rfl yU (@aA _ _ _ _ _ kT aB (by rfl)) (by rfl) (by decide) (by rfl) (by rfl))) bP) rG)),?_⟩
  refine⟨_,rfl,_,rfl,_,rfl,_,_,_,rfl,p,l,fs,ds,ws,lv,rfl,L,rfl,hl,by omega,nd,sub,rfl,hL,fun H1 S1=>?_⟩
  refine⟨_,rfl,l,_,rfl,.inl (SqL.of (S1 _ _ hl)),_,_,rfl,rfl,_,rfl,?_⟩
  have e8:decide ((8:Int)<((ws.map V.str).length:Int))=true:=decide_eq_true (by rw[AA];omega)
  rw[e8]
  exact cP ⟨aM rfl,q _ S1⟩
open Mt53 Mt22 MtF Mt31 Mt61 Mt63
def aTR(H:Hp)(us:List V):Prop:=∀ v∈us,∃ a:Addr,v=.ref a∧H a=none
def yC(k:Nat):Sp:=sp2 fun x y H Q=>∃ (l:Addr) (zs:List Str) (m:Nat),x=.ref l∧H l=some (.lst (zs.map V.str))∧zs.length≤8∧y=.int m∧m<k ∧
 ∀ (lo:Addr) (us:List V) (H':Hp),aH H H'→H' lo=some (.lst us)→H lo=none→IsL H' ((eF m zs).map kP) us→aTR H us→Q (.ref lo) H'
theorem aMI(T:Txt K mg C):Fc P w K mg base 1 "_law_lists" ["_law_some","_law_many"] (yC 0):=by
 exact T.d_l_lists.fc iT gW (fun f cdv A outer s H vs Q E hr h=>by obtain⟨x,y,rfl,l,zs,m,_,_,_,_,h,_⟩:=h;exact absurd h (Nat.not_lt_zero _))
theorem eL(T:Txt K mg C){k n:Nat}(G_l_lists:Fc P w K mg base k "_law_lists" ["_law_some","_law_many"] (yC n)):Fc P w K mg base (k+1) "_law_lists" ["_law_some","_law_many"] (yC (n+1)):=by
 refine T.d_l_lists.fc iT gW (fun f cdv A outer s H vs Q E hr h=>?_)
 obtain⟨x,y,rfl,l,zs,m,rfl,hl,l8,rfl,hm,q⟩:=h
 have big:=bU
 refine⟨_,(@aE _ _ _ _ _ (@dG _ _ _ _ _ _ _ _ (@bK _ _ _ _ _ _ _ _ iX (pv 1) aD (@bI _ _ (by decide) (by decide))) (@aG _ _ _ (@aQ _ _ _ _ (@bS _ _ _ _ (@aA _ _ _ _ _ (@bS _ _ _ _ aB) aB (by rfl))))) bP) (@aE _ _ _ _ _ (@aV _ _ (2) _ _ _ _ iT.nd rfl (Or.inl rfl) (@bS _ _ _ _ aB) (by rfl) (by trivial)) (@aE _ _ _ _ _ (@eS _ _ _ _ _ _ _ _ Ax rfl (@eQ _ _ _ _ _ _ rfl T.n_range (@aA _ _ _ _ _ (@aS _ _ _ _ _ _ _ _ _ (@bB _ (K) rfl) rfl T.n_len bJ (@aA _ _ _ _ _ (pv 0) aB (by rfl)) (by decide) (by decide) (by rfl) (by rfl)) aB (by rfl)) (by rfl)) (@aN _ _ (3) _ iT.nd rfl (Or.inr rfl) (by trivial)) (@aG _ _ _ (@aV _ _ (2) _ _ _ _ iT.nd rfl (Or.inl rfl) (@aK _ _ _ _ _ _ _ _ iD (pv 2) (@bZ _ _ _ _ _ _ _ _ _ _ _ ["_law_more","_law_some","_law_at"] 1 [0,3] rfl (@bG _ _ _ _ (@bC _ _ _ _ _ _ _ _ _ _ G_l_lists (hr.mono (by omega)) (@aA _ _ _ _ _ (@dR _ _ _ _ _ _ _ _ _ _ (@eO _ (K) rfl) (pv 0) (@eU _ _ _ (@aK _ _ _ _ _ _ _ _ cY (pv 3) aD)) eV) (@aA _ _ _ _ _ (@aK _ _ _ _ _ _ _ _ jM (pv 1) aD) aB (by rfl)) (by rfl)) (by rfl) (by decide) (by rfl) (by rfl))) (fun R=>@aN _ _ (0) _ (show Ar (["_law_more","_law_some","_law_at"]:List Str) by decide +kernel) rfl (Or.inl rfl) (by trivial)) (@aW _ _ (by decide)) (fun R=>bT) (fun R=>(@aK _ _ _ _ _ _ _ _ iD (@bS _ _ _ _ (@aA _ _ _ _ _ (@bA _ _ _ _ _ _ _ (@cZ _ (K) rfl) (pv 1) (pv 2) (fun _ _=>rfl)) aB (by rfl))) (pv 0))) (by rfl) (by rfl) (by rfl) (by rfl) (by rfl) (by rfl) (by rfl) (by intro _;rfl))) (by rfl) (by trivial))) (by intro _;rfl)) (@aG _ _ _ (@aQ _ _ _ _ (pv 2)))))),?_⟩
 refine⟨_,rfl,rfl,_,rfl,?_⟩
 cases m with
 | zero =>
  refine cP ?_
  refine⟨aM rfl,fun a1 m1=>?_⟩
  have S1:=aH.upd (o:=.lst []) m1
  have r1:upd H a1 (.lst []) a1=some (.lst []):=aC
  generalize upd H a1 (.lst [])=H1 at S1 r1
  refine⟨aM rfl,fun a2 m2=>?_⟩
  have S2:=aH.upd (o:=.lst [.ref a1]) m2
  refine q a2 [.ref a1] _ (S1.trans S2) aC (S1.free m2) ?_ ?_
  rw[kC]
  exact⟨_,_,rfl,⟨a1,_,rfl,S2 _ _ r1,rfl⟩,rfl⟩
  exact fun v mv=>⟨a1,AL.mp mv,m1⟩
 | succ m =>
  have e0:decide (V.int ((m+1:Nat):Int)=V.int 0)=false:=decide_eq_false fun h=>by cases h
  rw[e0]
  refine bO ?_
  refine⟨aM rfl,fun lo mo=>?_⟩
  have S1:=aH.upd (o:=.lst []) mo
  have r1:upd H lo (.lst []) lo=some (.lst []):=aC
  generalize upd H lo (.lst [])=H1 at S1 r1
  refine gσ (σ':=[some (.ref l),some (.int ((m+1:Nat):Int)),some (.ref lo),none]) rfl ?_
  refine⟨_,rfl,l,_,rfl,.inl (SqL.of (S1 _ _ hl)),_,rfl,by rw[AA];omega,by rw[AA];omega,?_⟩
  rw[show (((zs.map V.str).length:Nat):Int).toNat=zs.length by rw[AA];rfl]
  refine fW (lo:=0) (n:=zs.length) (fun i σ H'=>∃ (v3:Option V) (lo:Addr) (us:List V) (dn:List (List Str)),σ=[some (.ref l),some (.int ((m+1:Nat):Int)),some (.ref lo),v3]∧aH H H'∧H' lo=some (.lst us)∧H lo=none∧IsL H' (dn.map kP) us∧aTR H us∧dn++eF (m+1) (zs.drop i)=eF (m+1) zs) ⟨_,lo,[],[],rfl,S1,r1,mo,rfl,(fun _ m=>nomatch m),rfl⟩ ?_ ?_
  ·rintro i σ H' hi ⟨v3,lo,us,dn,rfl,S',h1,h2,h3,nw,h4⟩
   refine gσ (σ':=[some (.ref l),some (.int ((m+1:Nat):Int)),some (.ref lo),some (.int (0+(i:Int)))]) rfl ?_
   obtain⟨z,ez⟩:∃ z,zs[i]?=some z:=⟨_,AC (by omega)⟩
   have zi:(0:Int)+(i:Int)=(i:Int):=By _
   have es:=aJJ (m:=m) ez
   have pl:=kD m (zs.drop (i+1))
   have al:=kD (m+1) zs
   have p8:2 ^ (zs.drop (i+1)).length≤2 ^ 8:=BM (by decide) (by rw[Bd];omega)
   have q8:2 ^ zs.length≤2 ^ 8:=BM (by decide) l8
   have dl:dn.length≤256:=by
    have:=congrArg Bs h4
    rw[AW] at this
    omega
   have lus:=dS h3
   rw[AA] at lus
   refine⟨_,rfl,_,rfl,_,rfl,_,_,rfl,rfl,_,rfl,l,_,rfl,SqL.of (S' _ _ hl),fun p mp=>?_⟩
   have ec:lR (zs.map V.str) (some (0+(i:Int)+1)) none=(zs.drop (i+1)).map V.str:=by
    rw[zi,List.map_drop]
    exact wY _ (i+1)
   rw[ec]
   have S2:=aH.upd (o:=.lst ((zs.drop (i+1)).map V.str)) mp
   have r2:upd H' p (.lst ((zs.drop (i+1)).map V.str)) p=some (.lst ((zs.drop (i+1)).map V.str)):=aC
   generalize upd H' p (.lst ((zs.drop (i+1)).map V.str))=H2 at S2 r2
   have l2:(zs.drop (i+1)).length≤8:=by rw[Bd];omega
   refine⟨_,rfl,_,_,rfl,rfl,_,_,rfl,p,zs.drop (i+1),m,rfl,r2,l2,congrArg V.int (show ((m+1:Nat):Int) - 1=m by omega),by omega,fun lo2 us2 H3 S3 h5 h6 h7 _=>?_⟩
   have lu2:=dS h7
   rw[AA] at lu2
   have T3:=S'.trans (S2.trans S3)
   have hl3:=T3 _ _ hl
   refine⟨lo2,rfl,⟨_,SqL.of h5⟩,?_⟩
   refine bE (F:=K) (xs:=us2) (by omega) (fun j ys H''=>aH H3 H''∧IsL H'' (((eF m (zs.drop (i+1))).take j).map fun c=>kP (z :: c)) ys∧aTR H ys) ⟨aH.refl _,rfl,fun _ m=>nomatch m⟩ ?_ ?_ ?_
   ·rintro j ys H'' hj ⟨S4,iy,ny⟩
    refine⟨SqL.of (S4 _ _ h5),?_⟩
    have:=iy.length
    rw[AA,AH] at this
    omega
   ·rintro j xv ys H'' K1 K2 hx2 ⟨S4,iy,ny⟩ k1 k2
    have hjl:j<us2.length:=(AB.mp hx2).1
    obtain⟨c,ec⟩:∃ c,(eF m (zs.drop (i+1)))[j]?=some c:=⟨_,AC (by omega)⟩
    obtain⟨v,ev,iv⟩:=(IsL.same S4 _ _ h7).get (show ((eF m (zs.drop (i+1))).map kP)[j]?=some (kP c) by rw[AI,ec];rfl)
    rw[hx2] at ev
    cases ev
    obtain⟨li,rfl,oi⟩:=pP iv
    have lc:=(mL _ _ _ (AG ec)).length_le
    refine⟨_,rfl,_,rfl,l,_,_,.str z,rfl,rfl,SqL.of (S4 _ _ hl3),(by rw[zi];exact aO (by rw[AI,ez];rfl)),aM rfl,fun l1 m1=>?_⟩
    have S5:=aH.upd (o:=.lst [.str z]) m1
    refine⟨_,rfl,l1,li,_,_,rfl,rfl,aC,S5 _ _ oi,by rw[AA];show 1+_≤_;omega,fun l2 m2=>k1 _ _ ⟨S4.trans (S5.trans (aH.upd m2)),?_,fun v mv=>(Ab.mp mv).elim (ny v) fun mv=>⟨l2,AL.mp mv,((T3.trans S4).trans S5).free m2⟩⟩⟩
    rw[AT,ec,AF]
    exact IsL.snoc (show Is _ (kP (z :: c)) (.ref l2) from⟨l2,_,rfl,aC,IsL.strs _ (z :: c)⟩) (IsL.same (S5.trans (aH.upd m2)) _ _ iy)
   rintro ys H4 ⟨S4,iy,ny⟩
   rw[AE (by omega)] at iy
   intro l3 m3
   have S5:=aH.upd (o:=.lst ys) m3
   have ly:=dS iy
   rw[AA] at ly
   have T4:=(S2.trans S3).trans S4
   refine⟨lo,l3,_,_,rfl,rfl,(T4.trans S5) _ _ h1,aC,by omega,fun l4 m4=>?_⟩
   have S6:=aH.upd (o:=.lst (us++ys)) m4
   refine⟨_,l4,us++ys,dn++(eF m (zs.drop (i+1))).map (z :: ·),rfl,S'.trans (T4.trans (S5.trans S6)),aC,(S'.trans (T4.trans S5)).free m4,?_,(fun v mv=>(Ab.mp mv).elim (nw v) (ny v)),?_⟩
   ·rw[AF,Aq]
    exact IsL.app (IsL.same (S5.trans S6) _ _ iy) (IsL.same (T4.trans (S5.trans S6)) _ _ h3)
   ·rw[Bg,← es]
    exact h4
  ·rintro σ H' ⟨v3,lo,us,dn,rfl,S',h1,h2,h3,nw,h4⟩
   rw[List.drop_length,show eF (m+1) ([]:List Str)=[] from rfl,BO] at h4
   rw[h4] at h3
   exact⟨_,rfl,q lo us H' S' h1 h2 h3 nw⟩
theorem wB(T:Txt K mg C):Fc P w K mg base 10 "_law_lists" ["_law_some","_law_many"] (yC 9) :=
 eL T (eL T (eL T (eL T (eL T (eL T (eL T (eL T (eL T (aMI T)))))))))
open Mt53 Mt22 MtF Mt31 Mt61 Mt63
noncomputable def zS(nm:Str):List V:=[.bl true,.bl (decide (nm="NoWish")),.bl (decide (nm="TooMany"))]
def aHL(C:Addr):Sp:=sp3 fun x y u H Q=>∃ (p:Addr) (fs ds:List Dv) (d e:Dv) (nm:Str),x=.ref p∧LandAt C H p fs ds∧Is H d y∧cO d=true∧Is H e u∧aIP (fs.map aP) d e nm∧∀ (l:Addr) (H':Hp),aH H H'→H' l=some (.lst (zS nm))→Q (.ref l) H'
theorem aFV(T:Txt K mg C):Fc P w K mg base 9 "_law_class" ["_law_land","_law_wish","_law_height"] (aHL C):=by
 obtain⟨c_NoWish,c_TooMany,c_DykeError,ex_NoWish,ex_TooMany,hm_NoWish,hm_TooMany,hm_DykeError,kx_NoWish_DykeError,kx_NoWish_ValueError,kx_NoWish_NoWish,kx_NoWish_TooMany,kx_TooMany_DykeError,kx_TooMany_ValueError,kx_TooMany_NoWish,kx_TooMany_TooMany,xc_NoWish_DykeError,xc_TooMany_DykeError⟩:=T.xs
 have G_p_companies:FcX P w K mg base 8 "companies" ["land","fields","height"] (aQR mg C):=tX T
 refine T.d_l_class.fc vH rS (fun f cdv A outer s H vs Q E hr h=>?_)
 obtain⟨x,y,u,rfl,p,fs,ds,d,e,nm,rfl,L,hd,sm,he,bad,q⟩:=h
 refine⟨_,(@aE _ _ _ _ _ (@aOV _ _ _ _ _ _ _ _ _ _ _ _ (3) vH.nd rfl rfl hm_DykeError (@aPD _ _ _ _ (@aWG _ _ _ _ _ _ _ _ _ _ G_p_companies (hr.mono (by decide)) (@aA _ _ _ _ _ (pv 0) (@aA _ _ _ _ _ (pv 1) (@aA _ _ _ _ _ (pv 2) aB (by rfl)) (by rfl)) (by rfl)) (by rfl) (by decide) (by rfl) (by rfl)) (by rfl)) (fun ea=>(@aG _ _ _ (@aQ _ _ _ _ (@bS _ _ _ _ (@aA _ _ _ _ _ (@aS _ _ _ _ _ _ _ _ _ (@lG _ (K) rfl) rfl T.n_isinstance bD (@aA _ _ _ _ _ (pv 3) (@aA _ _ _ _ _ (@kE _ _ _ _ T.n_ValueError PyProof.Rows.Boot.«ValueError» (by rfl) (by decide) (by decide)) aB (by rfl)) (by rfl)) (by decide) (by decide) (by rfl) (by rfl)) (@aA _ _ _ _ _ (@aS _ _ _ _ _ _ _ _ _ (@lG _ (K) rfl) rfl T.n_isinstance bD (@aA _ _ _ _ _ (pv 3) (@aA _ _ _ _ _ (@aBG _ _ (.ref c_NoWish) _ _ rfl hm_NoWish rfl (by decide)) aB (by rfl)) (by rfl)) (by decide) (by decide) (by rfl) (by rfl)) (@aA _ _ _ _ _ (@aS _ _ _ _ _ _ _ _ _ (@lG _ (K) rfl) rfl T.n_isinstance bD (@aA _ _ _ _ _ (pv 3) (@aA _ _ _ _ _ (@aBG _ _ (.ref c_TooMany) _ _ rfl hm_TooMany rfl (by decide)) aB (by rfl)) (by rfl)) (by decide) (by decide) (by rfl) (by rfl)) aB (by rfl)) (by rfl)) (by rfl)))))) (by rfl) (by decide) (by rfl) (by rfl)) (@aG _ _ _ (@aQ _ _ _ _ (@bS _ _ _ _ aB)))),?_⟩
 rcases bad with ⟨rfl,b⟩ | ⟨rfl,b⟩
 ·have bad:aIP (fs.map aP) d e "NoWish":=.inl ⟨rfl,b⟩
  refine⟨_,rfl,_,rfl,_,rfl,_,_,_,p,fs,ds,d,e,_,c_NoWish,rfl,rfl,L,hd,sm,he,bad,hm_NoWish,fun H1 S1=>⟨xc_NoWish_DykeError,fun ea hea=>?_⟩⟩
  have S2:=aH.upd (o:=uA ea (.ref c_NoWish)) hea
  have hee:upd H1 ea (uA ea (.ref c_NoWish)) ea=some (uA ea (.ref c_NoWish)):=aC
  generalize upd H1 ea (uA ea (.ref c_NoWish))=H2 at hee S2
  refine⟨_,rfl,ea,_,_,c_NoWish,true,rfl,rfl,hee,ex_NoWish,kx_NoWish_ValueError,?_⟩
  refine⟨_,rfl,ea,_,_,c_NoWish,true,rfl,rfl,hee,ex_NoWish,kx_NoWish_NoWish,?_⟩
  refine⟨_,rfl,ea,_,_,c_NoWish,false,rfl,rfl,hee,ex_NoWish,kx_NoWish_TooMany,?_⟩
  exact⟨aM rfl,fun l hl=>q l _ ((S1.trans S2).trans (aH.upd hl)) aC⟩
 ·have bad:aIP (fs.map aP) d e "TooMany":=.inr ⟨rfl,b⟩
  refine⟨_,rfl,_,rfl,_,rfl,_,_,_,p,fs,ds,d,e,_,c_TooMany,rfl,rfl,L,hd,sm,he,bad,hm_TooMany,fun H1 S1=>⟨xc_TooMany_DykeError,fun ea hea=>?_⟩⟩
  have S2:=aH.upd (o:=uA ea (.ref c_TooMany)) hea
  have hee:upd H1 ea (uA ea (.ref c_TooMany)) ea=some (uA ea (.ref c_TooMany)):=aC
  generalize upd H1 ea (uA ea (.ref c_TooMany))=H2 at hee S2
  refine⟨_,rfl,ea,_,_,c_TooMany,true,rfl,rfl,hee,ex_TooMany,kx_TooMany_ValueError,?_⟩
  refine⟨_,rfl,ea,_,_,c_TooMany,false,rfl,rfl,hee,ex_TooMany,kx_TooMany_NoWish,?_⟩
  refine⟨_,rfl,ea,_,_,c_TooMany,true,rfl,rfl,hee,ex_TooMany,kx_TooMany_TooMany,?_⟩
  exact⟨aM rfl,fun l hl=>q l _ ((S1.trans S2).trans (aH.upd hl)) aC⟩
open Mt53 Mt22 MtF Mt31 Mt61 Mt63
theorem kL(xs:List V)(k:Nat):lR xs none (some (k:Int))=xs.take k:=by
 unfold lR
 rw[HT.sIx_nat,HT.sIx_none,EA,Nat.sub_zero]
 by_cases h:k≤xs.length
 ·rw[Dr h]
 ·rw[Nat.min_eq_right (by omega),AE (AS _),AE (by omega)]
theorem aGV{G:List Gap}:∀ {rs rs':List (List Str×Int)},rs.map (·.1)=rs'.map (·.1)→(∀ r∈rs,fZ G r.1 r.2)→(∀ r∈rs',fZ G r.1 r.2)→rs=rs'
 | [],[],_,_,_=>rfl
 | [],_ :: _,e,_,_=>nomatch e
 | _ :: _,[],e,_,_=>nomatch e
 | (a,x) :: rs,(b,y) :: rs',e,h,h'=>by
  rw[AX,AX] at e
  obtain⟨e1,e2⟩:=List.cons.inj e
  cases (show a=b from e1)
  have u:x=y:=fZ.uniq (h _ AQ) (h' _ AQ)
  rw[u,aGV e2 (fun r m=>h r (AO _ m)) fun r m=>h' r (AO _ m)]
theorem lF(rs:List (List Str×Int)):aY 30 (.lst (rs.map pM))=true:=aNB fun d m=>by
 obtain⟨r,_,rfl⟩:=AN.mp m
 have:cI 27 (r.1.map Dv.str)=true:=pJ fun d m=>by
  obtain⟨z,_,rfl⟩:=AN.mp m
  rfl
 show (cI 27 (r.1.map Dv.str) && _)=true
 rw[this]
 rfl
theorem aQD{zs:List Str}:(Aj zs.length).map (fun i=>atZ zs (EJ i))=zs:=by
 refine List.ext_getElem? fun i=>?_
 rw[AI]
 by_cases h:i<zs.length
 ·rw[List.getElem?_range h,AC h]
  have:=(xG (zs:=zs) (i:=EJ i) (Int.natCast_nonneg i) (by show (i:Int)<_;omega)).2
  rw[show (EJ i).toNat=i from rfl,AC h] at this
  rw[this]
  rfl
 ·rw[CU (l:=Aj zs.length) (by rw[DP];omega),CU (by omega)]
  rfl
theorem qY{G:List Gap}{zs:List Str}{rs rs':List (List Str×Int)}(n1:1≤zs.length)(n8:zs.length≤8)(t:Told G zs rs)(e:rs'.map (·.1)=(Aj (zs.length+1)).flatMap (fun m=>eF m zs))(h:∀ r∈rs',fZ G r.1 r.2):rs'=rs :=
 aGV (e.trans ((aIT (atZ zs) aQD n1 n8).symm.trans t.cos.symm)) h t.lst
theorem aGK{fs:List Dv}{n:Nat}(h:Fds fs n){m:Nat}(k:n≤m):Fds fs m:=⟨h.l1,Az h.l2 k,h.all,h.nd⟩
theorem aNJ{zs:List Str}{ds:List Dv}{n:Nat}(h:Dks zs ds n){m:Nat}(k:n≤m):Dks zs ds m:=⟨h.l1,Az h.l2 k,h.all,h.nd⟩
def aHI(K:AD)(C Tb:Addr):Sp:=sp2 fun x y H Q=>∃ (L:Int),Scr K H x∧y=.int L∧hgt L=true∧lT Tb H∧∀ H',eC Tb H H'→lT Tb H'→Q (.bl true) H'
theorem aFU(T:Txt K mg C){c Tb:Addr}(B:TabB K mg base "lists_of_places" c Tb):Fc P w K mg base 11 "_law_eight" ["_law_script","_law_height"] (aHI K C Tb):=by
 have G_l_fields:Fc P w K mg base 2 "_law_fields" ["_law_script","_law_many"] (nN K):=mT T
 have G_l_dykes:Fc P w K mg base 2 "_law_dykes" ["_law_script","_law_fields_here","_law_many"] (pX K):=pG T
 have G_l_lists:Fc P w K mg base 10 "_law_lists" ["_law_some","_law_many"] (yC 9):=wB T
 have G_l_least:Fc P w K mg base 1 "_law_least" ["_law_fields_here","_law_dykes_here","_law_wish","_law_height"] pW:=pF T
 have G_land_pinit:Ic P w K mg base 6 C ["self","fields","dykes"] (aAM C):=jO T
 have G_p_companies:Fc P w K mg base 8 "companies" ["land","fields","height"] (jF C Tb):=mQ T B
 refine T.d_l_eight.fc fM gW (fun f cdv A outer s H vs Q E hr h=>?_)
 obtain⟨x,y,rfl,lv,scr,rfl,hL,tab,q⟩:=h
 have big:=bU
 have big9:(10000:Nat)≤Ak:=by decide
 refine⟨_,(@aE _ _ _ _ _ (@aV _ _ (2) _ _ _ _ fM.nd rfl (Or.inl rfl) (@bC _ _ _ _ _ _ _ _ _ _ G_l_fields (hr.mono (by decide)) (@aA _ _ _ _ _ (pv 0) (@aA _ _ _ _ _ aD aB (by rfl)) (by rfl)) (by rfl) (by decide) (by rfl) (by rfl)) (by rfl) (by trivial)) (@aE _ _ _ _ _ (@aV _ _ (3) _ _ _ _ fM.nd rfl (Or.inl rfl) (@bC _ _ _ _ _ _ _ _ _ _ G_l_dykes (hr.mono (by decide)) (@aA _ _ _ _ _ (pv 0) (@aA _ _ _ _ _ (pv 2) (@aA _ _ _ _ _ aD aB (by rfl)) (by rfl)) (by rfl)) (by rfl) (by decide) (by rfl) (by rfl)) (by rfl) (by trivial)) (@aE _ _ _ _ _ (@fA _ (4) _ _ _ _ _ _ _ _ _ _ _ _ _ fM.nd rfl ["_law_field"] 1 [] rfl (@bG _ _ _ _ (@aK _ _ _ _ _ _ _ _ iD (@dR _ _ _ _ _ _ _ _ _ _ (@eO _ (K) rfl) (pv 2) (@eU _ _ _ aD) eV) (@dR _ _ _ _ _ _ _ _ _ _ (@eO _ (K) rfl) (pv 2) eV (@eU _ _ _ aD)))) (fun R=>@aN _ _ (0) _ (show Ar (["_law_field"]:List Str) by decide +kernel) rfl (Or.inl rfl) (by trivial)) (@aW _ _ (by decide)) (fun R=>bT) (fun R=>(@bA _ _ _ _ _ _ _ (@aT _ (K) rfl) (pv 0) aD (fun _ _=>rfl))) (by exact Or.inl rfl) (by trivial) (by rfl) (by rfl) (by rfl) (by rfl) (by rfl) (by rfl) (by rfl) (by rfl) (by intro _;rfl)) (@aE _ _ _ _ _ (@aV _ _ (5) _ _ _ _ fM.nd rfl (Or.inl rfl) (@bS _ _ _ _ aB) (by rfl) (by trivial)) (@aE _ _ _ _ _ (@eS _ _ _ _ _ _ _ _ Ax rfl (@eQ _ _ _ _ _ _ rfl T.n_range (@aA _ _ _ _ _ aD aB (by rfl)) (by rfl)) (@aN _ _ (6) _ fM.nd rfl (Or.inl rfl) (by trivial)) (@aG _ _ _ (@eS _ _ _ _ _ _ _ _ Ax rfl (@bG _ _ _ _ (@bC _ _ _ _ _ _ _ _ _ _ G_l_lists (hr.mono (by decide)) (@aA _ _ _ _ _ (pv 4) (@aA _ _ _ _ _ (pv 6) aB (by rfl)) (by rfl)) (by rfl) (by decide) (by rfl) (by rfl))) (@aN _ _ (7) _ fM.nd rfl (Or.inl rfl) (by trivial)) (@aG _ _ _ (@dB _ _ _ _ (@iJ _ _ _ _ _ _ _ _ _ _ _ _ An Au At cX (pv 5) (@aA _ _ _ _ _ (@dW _ _ _ _ _ (@aA _ _ _ _ _ (pv 7) (@aA _ _ _ _ _ (@bC _ _ _ _ _ _ _ _ _ _ G_l_least (hr.mono (by decide)) (@aA _ _ _ _ _ (pv 2) (@aA _ _ _ _ _ (pv 3) (@aA _ _ _ _ _ (pv 7) (@aA _ _ _ _ _ (pv 1) aB (by rfl)) (by rfl)) (by rfl)) (by rfl)) (by rfl) (by decide) (by rfl) (by rfl)) aB (by rfl)) (by rfl))) aB (by rfl)) (by rfl) (by rfl) (by rfl) (by rfl) (by rfl)) (by rfl))) (by intro _;rfl))) (by intro _;rfl)) (@aG _ _ _ (@aQ _ _ _ _ (@dC _ _ _ _ _ _ _ _ (@aFP _ hr.units) (@bC _ _ _ _ _ _ _ _ _ _ G_p_companies (hr.mono (by decide)) (@aA _ _ _ _ _ (@aLV _ _ _ _ _ _ _ _ _ _ _ T.mg_Land G_land_pinit (hr.mono (by decide)) (@aA _ _ _ _ _ (pv 2) (@aA _ _ _ _ _ (pv 3) aB (by rfl)) (by rfl)) (by rfl) (by decide) (by rfl) (by rfl)) (@aA _ _ _ _ _ (pv 4) (@aA _ _ _ _ _ (pv 1) aB (by rfl)) (by rfl)) (by rfl)) (by rfl) (by decide) (by rfl) (by rfl)) (pv 5) (@bI _ _ (by decide) (by decide)))))))))),?_⟩
 refine⟨_,rfl,_,_,rfl,8,scr,rfl,by decide,by decide,fun lf vf fs H1 S1 nlf hf1 hif1 gf f8=>?_⟩
 refine⟨_,rfl,_,rfl,_,_,_,rfl,3,lf,vf,fs,8,scr.same S1,rfl,hf1,hif1,gf,by decide,rfl,by decide,by decide,fun ld vd ds H2 S2 nld hd2 hid2 gd=>?_⟩
 refine gσ (σ':=[some x,some (.int lv),some (.ref lf),some (.ref ld),none,none,none,none]) rfl ?_
 have hf2:=S2 _ _ hf1
 have hif2:=IsL.same S2 _ _ hif1
 have T2:=S1.trans S2
 refine⟨_,rfl,3,rfl,lf,_,rfl,SqL.of hf2,fun l3 m3=>?_⟩
 rw[show lR vf (some 3) none=vf.drop 3 from wY vf 3]
 have S3:=aH.upd (o:=.lst (vf.drop 3)) m3
 have r3:upd H2 l3 (.lst (vf.drop 3)) l3=some (.lst (vf.drop 3)):=aC
 generalize upd H2 l3 (.lst (vf.drop 3))=H3 at S3 r3
 refine⟨_,rfl,3,rfl,lf,_,rfl,SqL.of (S3 _ _ hf2),fun l4 m4=>?_⟩
 rw[show lR vf none (some 3)=vf.take 3 from kL vf 3]
 have S4:=aH.upd (o:=.lst (vf.take 3)) m4
 have r4:upd H3 l4 (.lst (vf.take 3)) l4=some (.lst (vf.take 3)):=aC
 generalize upd H3 l4 (.lst (vf.take 3))=H4 at S4 r4
 have lvf:=dS hif2
 have igs:IsL H4 (fs.drop 3++fs.take 3) (vf.drop 3++vf.take 3):=IsL.app ((IsL.same (S3.trans S4) _ _ hif2).take 3) ((IsL.same (S3.trans S4) _ _ hif2).drop 3)
 have pm:(fs.drop 3++fs.take 3).Perm fs:=List.perm_append_comm.trans (by rw[List.take_append_drop])
 generalize fs.drop 3++fs.take 3=gs at igs pm
 refine⟨l3,l4,_,_,rfl,rfl,S4 _ _ r3,r4,by rw[Bd,AH];omega,fun l5 m5=>?_⟩
 generalize vf.drop 3++vf.take 3=vg at igs
 have S5:=aH.upd (o:=.lst vg) m5
 have r5:upd H4 l5 (.lst vg) l5=some (.lst vg):=aC
 generalize upd H4 l5 (.lst vg)=H5 at S5 r5
 have ig5:=IsL.same S5 _ _ igs
 have lvg:=dS ig5
 have lgs:=pm.length_eq
 refine⟨l5,rfl,⟨_,SqL.of r5⟩,?_⟩
 refine bE (F:=K) (xs:=vg) (by omega) (fun i ys H'=>H5=H'∧ys=((gs.take i).map aP).map V.str) ⟨rfl,rfl⟩ ?_ ?_ ?_
 ·rintro i ys H' hi ⟨rfl,rfl⟩
  exact⟨SqL.of r5,by rw[AA,AA,AH];omega⟩
 ·rintro i xv ys H' K1 K2 hx' ⟨rfl,rfl⟩ k1 k2
  have hil:i<vg.length:=(AB.mp hx').1
  obtain⟨d,ed⟩:∃ d,gs[i]?=some d:=⟨_,AC (by omega)⟩
  obtain⟨v,ev,iv⟩:=ig5.get ed
  rw[hx'] at ev
  cases ev
  obtain⟨z,g,u,rfl,hz,_⟩:=bH (gf.all d (pm.mem_iff.mp (AG ed)))
  obtain⟨t,rfl,o⟩:=fY iv
  refine⟨_,rfl,t,_,0,.str z,rfl,rfl,SqT.of o,aO (j:=0) rfl,k1 _ _ ⟨rfl,?_⟩⟩
  rw[AT,ed,AF,AF]
  rfl
 rintro ys H' ⟨rfl,rfl⟩
 rw[AE (by omega)]
 intro lw mw
 obtain⟨zs,ezs⟩:∃ zs,zs=gs.map aP:=⟨_,rfl⟩
 rw[← ezs]
 have S6:=aH.upd (o:=.lst (zs.map V.str)) mw
 have hwb:upd H5 lw (.lst (zs.map V.str)) lw=some (.lst (zs.map V.str)):=aC
 generalize upd H5 lw (.lst (zs.map V.str))=Hb at S6 hwb
 refine gσ (σ':=[some x,some (.int lv),some (.ref lf),some (.ref ld),some (.ref lw),none,none,none]) rfl ?_
 have T6:=S3.trans (S4.trans (S5.trans S6))
 have hfb:=T6 _ _ hf2
 have hifb:=IsL.same T6 _ _ hif2
 have hdb:=T6 _ _ hd2
 have hidb:=IsL.same T6 _ _ hid2
 have lz:zs.length=8:=by rw[ezs,AA];omega
 have l8:zs.length≤8:=by omega
 have gf12:=aGK gf (m:=12) (by decide)
 have gd10:=aNJ gd (m:=10) (by decide)
 have ndz:zs.Nodup:=by rw[ezs];exact (pm.map aP).nodup_iff.mpr gf.nd
 have subz:∀ z∈zs,z∈fs.map aP:=fun z m=>by rw[ezs] at m;exact (pm.map aP).mem_iff.mp m
 refine⟨aM rfl,fun lt mt=>?_⟩
 have Sa:=aH.upd (o:=.lst []) mt
 have ra:upd Hb lt (.lst []) lt=some (.lst []):=aC
 generalize upd Hb lt (.lst [])=Ha at Sa ra
 refine gσ (σ':=[some x,some (.int lv),some (.ref lf),some (.ref ld),some (.ref lw),some (.ref lt),none,none]) rfl ?_
 refine⟨_,rfl,by decide,by decide,?_⟩
 refine fW (lo:=0) (n:=9) (fun i σ H'=>∃ (v6 v7:Option V) (us:List V) (rs:List (List Str×Int)),σ=[some x,some (.int lv),some (.ref lf),some (.ref ld),some (.ref lw),some (.ref lt),v6,v7]∧aH Hb H'∧H' lt=some (.lst us)∧IsL (del lt H') (rs.map pM) us∧rs.length≤256*i∧rs.map (·.1)=(Aj i).flatMap (fun m=>eF m zs)∧∀ r∈rs,fZ (aU fs ds lv) r.1 r.2) ⟨_,_,[],[],rfl,Sa,ra,rfl,AS _,rfl,fun _ m=>nomatch m⟩ ?_ ?_
 ·rintro i σ H' hi ⟨v6,v7,us,rs,rfl,S',h1,h2,h3,h4,h5⟩
  refine gσ (σ':=[some x,some (.int lv),some (.ref lf),some (.ref ld),some (.ref lw),some (.ref lt),some (.int (0+(i:Int))),v7]) rfl ?_
  have pl:=kD i zs
  have q8:2 ^ zs.length≤2 ^ 8:=BM (by decide) l8
  refine⟨_,rfl,_,rfl,_,_,rfl,lw,zs,i,rfl,S' _ _ hwb,l8,congrArg V.int (By _),by omega,fun lo ul H7 S7 e1 e2 e3 e4=>?_⟩
  have nlo:lo≠lt:=fun z=>by rw[z,h1] at e2;cases e2
  have T7:=S'.trans S7
  have lul:=dS e3
  rw[AA] at lul
  refine⟨lo,rfl,⟨_,SqL.of e1⟩,gH (K:=K) (a:=lo) (xs:=ul) (fun j σ H''=>∃ (v7:Option V) (us:List V) (rs:List (List Str×Int)),σ=[some x,some (.int lv),some (.ref lf),some (.ref ld),some (.ref lw),some (.ref lt),some (.int (0+(i:Int))),v7]∧eC lt H7 H''∧H'' lt=some (.lst us)∧IsL (del lt H'') (rs.map pM) us∧rs.length≤256*i+j∧rs.map (·.1)=(Aj i).flatMap (fun m=>eF m zs)++(eF i zs).take j∧∀ r∈rs,fZ (aU fs ds lv) r.1 r.2) ⟨_,us,rs,rfl,(fun _ _ _ e=>e),S7 _ _ h1,IsL.same (aEH S7) _ _ h2,h3,by rw[Dy,BO];exact h4,h5⟩ ?_ ?_ ?_⟩
  ·rintro j σ H'' hj ⟨v7,us,rs,rfl,k',f1,f2,f3,f4,f5⟩
   exact SqL.of (k' _ _ nlo e1)
  ·rintro j xv σ H'' hx ⟨v7,us,rs,rfl,k',f1,f2,f3,f4,f5⟩
   have hjl:=(AB.mp hx).1
   obtain⟨co,ec⟩:∃ co,(eF i zs)[j]?=some co:=⟨_,AC (by omega)⟩
   obtain⟨v,ev,iv⟩:=e3.get (show ((eF i zs).map kP)[j]?=some (kP co) by rw[AI,ec];rfl)
   rw[hx] at ev
   cases ev
   obtain⟨li,rfl,oi⟩:=pP iv
   have nli:li≠lt:=fun z=>by
    obtain⟨a,ea,na⟩:=e4 _ (AG hx)
    cases ea
    rw[z,h1] at na
    cases na
   have SB:aH Hb H'':=fun b o e=>k' _ _ (aJ e mt) (T7 _ _ e)
   have oi':=k' _ _ nli oi
   refine gσ (σ':=[some x,some (.int lv),some (.ref lf),some (.ref ld),some (.ref lw),some (.ref lt),some (.int (0+(i:Int))),some (.ref li)]) rfl ?_
   refine⟨_,rfl,.inl ⟨rfl,_,SqL.of f1⟩,_,rfl,_,rfl,_,rfl,_,rfl,_,rfl,_,_,_,_,lf,ld,li,vf,vd,fs,ds,co,lv,rfl,rfl,SB _ _ hfb,IsL.same SB _ _ hifb,rfl,SB _ _ hdb,IsL.same SB _ _ hidb,rfl,oi',rfl,gf12,gd10,(fun z m=>subz z ((mL _ _ _ (AG ec)).subset m)),fun cst H8 S8 lst=>?_⟩
   refine⟨aM rfl,fun tt mtt=>?_⟩
   have S9:=aH.upd (o:=.tup [.ref li,.int cst]) mtt
   have r9:upd H8 tt (.tup [.ref li,.int cst]) tt=some (.tup [.ref li,.int cst]):=aC
   have ntt:tt≠lt:=fun z=>by have:=S8 _ _ f1;rw[z,this] at mtt;cases mtt
   generalize upd H8 tt (.tup [.ref li,.int cst])=H9 at S9 r9
   have T9:=S8.trans S9
   have lus:=f2.length
   rw[AA] at lus
   refine⟨lt,us,.ref tt,rfl,rfl,T9 _ _ f1,by omega,?_⟩
   refine⟨_,us++[.ref tt],rs++[(co,cst)],rfl,(fun b o n e=>by rw[aI n];exact T9 _ _ (k' b o n e)),aC,?_,by rw[AW];show _+1≤_;omega,by rw[AF,f4,AT,ec,Bg];rfl,fun r m=>?_⟩
   ·rw[AF]
    exact IsL.same aTJ _ _ (IsL.snoc (show Is _ (pM (co,cst)) (.ref tt) from⟨tt,_,rfl,sH ntt r9,_,_,rfl,⟨li,_,rfl,sH nli (T9 _ _ oi'),IsL.strs _ _⟩,_,_,rfl,rfl,rfl⟩) (IsL.same (aEH T9) _ _ f2))
   ·rcases Ab.mp m with m | m
    ·exact f5 r m
    ·rw[AL.mp m]
     exact lst
  ·rintro σ H'' ⟨v7,us,rs,rfl,k',f1,f2,f3,f4,f5⟩
   rw[AE (by omega)] at f4
   refine⟨_,_,us,rs,rfl,(fun b o e=>k' _ _ (aJ e mt) (T7 _ _ e)),f1,f2,by omega,?_,f5⟩
   rw[f4,Ch,EH]
   show _=_++(_++[])
   rw[BO]
 ·rintro σ H7 ⟨v6,v7,us,rs,rfl,S7,h1,h2,h3,h4,h5⟩
  refine⟨_,rfl,_,rfl,fun p dx np ndx nex=>?_⟩
  have S8':aH H7 (upd (upd H7 dx (.own p)) p (.ins C dx [])):=fun b o e=>by
   rw[aI (aJ e np),aI (aJ e ndx)]
   exact e
  have f2:=gf.l2
  have d2:=gd.l2
  have smf:cO (.lst fs)=true:=gT (fun d m=>nE (gf.all d m)) (by omega)
  have smd:cO (.lst ds)=true:=gT (fun d m=>pK gf.all (gd.all d m)) (by omega)
  have T8:=S7.trans S8'
  refine⟨_,_,_,rfl,p,dx,fs,ds,rfl,aC,⟨lf,vf,rfl,T8 _ _ hfb,IsL.same T8 _ _ hifb⟩,⟨ld,vd,rfl,T8 _ _ hdb,IsL.same T8 _ _ hidb⟩,smf,smd,sE gf (by decide),wT gd (by decide),fun H8 L8 fr=>⟨rfl,?_⟩⟩
  have Z8:aH H7 H8:=fun b o e=>fr b o (S8' _ _ e) (aJ e np)
  have tab8:lT Tb H8:=tab.keep (T2.trans (T6.trans (S7.trans Z8)))
  refine⟨_,rfl,_,rfl,_,_,_,rfl,p,lw,fs,ds,zs,lv,rfl,L8,rfl,(S7.trans Z8) _ _ hwb,by omega,l8,ndz,subz,rfl,hL,tab8,fun D us' rs' H9 K9 tab9 hD ir told _ _=>?_⟩
  have er:=qY (by omega) l8 told (by rw[lz];exact h4) h5
  subst er
  have D9:=aEB K9 tab8
  have nlt:lt≠Tb:=fun z=>by obtain⟨qs,eT,_⟩:=tab8;have:=Z8 _ _ h1;rw[z,eT] at this;cases this
  refine⟨_,rfl,.lst (rs.map pM),.lst (rs.map pM),⟨D,_,rfl,hD,ir⟩,⟨lt,_,rfl,K9 _ _ nlt (Z8 _ _ h1),IsL.sameD D9 _ _ (IsL.same Z8 _ _ (IsL.same (wX _ _) _ _ h2))⟩,lF _,lF _,?_⟩
  rw[if_neg AR,kK 30 _ (lF _)]
  exact q _ (fun b o n e=>K9 b o n ((T2.trans (T6.trans (S7.trans Z8))) _ _ e)) tab9
open Mt53 Mt22 MtF Mt31 Mt61 Mt63
theorem aCQ{ws:List Str}(h:∀ z∈ws,z.length≤8):dL (ws.map Dv.str)=true:=by
 induction ws with
 | nil=>rfl
 | cons z r ih =>
  rw[AX,dL,ih fun y m=>h y (AO _ m),cO,decide_eq_true (by have:=h z AQ;omega)]
  rfl
theorem uW{a b:List Dv}(ha:dL a=true)(hb:dL b=true):dL (a++b)=true:=by
 induction a with
 | nil=>exact hb
 | cons x r ih =>
  rw[dL,AU] at ha
  rw[List.cons_append,dL,ha.1,ih ha.2]
  rfl
theorem aCR(ws:List Str):iR (ws.map Dv.str)=ws:=by
 induction ws with
 | nil=>rfl
 | cons z r ih=>rw[AX];show z :: iR (r.map Dv.str)=_;rw[ih]
theorem aQF{zs:List Str}{a:List Dv}{x:Dv}(hx:fS zs x=false):(a++[x]).all (fS zs)=false:=by
 rw[Es,Cg,hx,Cr,EB]
theorem aSL{zs:List Str}{ds:List Dv}(h:ds.all (fS zs)=false):jG zs (.lst ds)=false:=by
 unfold jG
 rw[show aEW zs (.lst ds)=false from h,EB,Cr]
theorem aSK{zs:List Str}{ds:List Dv}(h:(iR ds).Nodup→False):jG zs (.lst ds)=false:=by
 unfold jG
 show (_ && decide _)=false
 rw[decide_eq_false h,EB]
theorem aSN{ds:List Dv}(h:dL ds=true)(hl:ds.length≤1000):cO (.lst ds)=true:=by
 rw[cO,h,decide_eq_true hl]
 rfl
noncomputable def aPI(zs:List Str)(z0:Str):List Dv:=[.lst ((zs.take 9++zs.take 1).map Dv.str),.lst ((zs.take 8).map Dv.str++[.str "sea"]),.lst [],.non,.str z0]
theorem aPJ{zs:List Str}{z0:Str}(l8:∀ z∈zs,z.length≤8)(h0:zs[0]?=some z0)(ns:Mt22.sea∉zs):∀ d∈aPI zs z0,jG zs d=false∧cO d=true:=by
 obtain⟨r,rfl⟩:∃ r,zs=z0 :: r:=by
  cases zs with
  | nil=>cases h0
  | cons y r=>cases h0;exact⟨r,rfl⟩
 have s9:∀ k,dL (((z0 :: r).take k).map Dv.str)=true:=fun k=>aCQ fun z m=>l8 z (Cb m)
 have w0:=l8 z0 AQ
 intro d m
 unfold aPI at m
 simp only[AZ,Bz,or_false] at m
 rcases m with rfl | rfl | rfl | rfl | rfl
 ·refine⟨aSK ?_,aSN (by rw[AF];exact uW (s9 9) (s9 1)) (by rw[AA,AW,AH,AH];omega)⟩
  rw[aCR]
  exact fun nd=>(Cp.mp nd).2.2 z0 AQ z0 AQ rfl
 ·exact⟨aSL (aQF (decide_eq_false ns)),aSN (uW (s9 8) rfl) (by rw[AW,AA,AH];show _+1≤_;omega)⟩
 ·exact⟨rfl,rfl⟩
 ·exact⟨rfl,rfl⟩
 ·refine⟨rfl,?_⟩
  rw[cO,decide_eq_true (by omega)]
noncomputable def aTN:List Dv:=[.non,.int (10 ^ 6+1),.bl true]
theorem aNU:∀ d∈aTN,eA d=false:=by decide +kernel
noncomputable def aTL(nm:Str):Dv:=.lst [.bl true,.bl (decide (nm="NoWish")),.bl (decide (nm="TooMany"))]
theorem sK{H:Hp}{l:Addr}{nm:Str}(h:H l=some (.lst (zS nm))):Is H (aTL nm) (.ref l):=⟨l,_,rfl,h,_,_,rfl,rfl,_,_,rfl,rfl,_,_,rfl,rfl,rfl⟩
theorem aEO:zS "NoWish"=[.bl true,.bl true,.bl false]:=by
 unfold zS
 rw[decide_eq_true rfl,decide_eq_false (by decide)]
theorem aNN:zS "TooMany"=[.bl true,.bl false,.bl true]:=by
 unfold zS
 rw[decide_eq_true rfl,decide_eq_false (by decide)]
def aAO(K:AD):Sp:=sp2 fun x y H Q=>∃ (n:Int),Scr K H x∧y=.int n∧∀ H',aH H H'→Q (.bl true) H'
theorem aFT(T:Txt K mg C):Fc P w K mg base 10 "_law_great" ["_law_script","_law_cell"] (aAO K):=by
 have G_l_fields:Fc P w K mg base 2 "_law_fields" ["_law_script","_law_many"] (nN K):=mT T
 have G_l_dykes:Fc P w K mg base 2 "_law_dykes" ["_law_script","_law_fields_here","_law_many"] (pX K):=pG T
 have G_l_least:Fc P w K mg base 1 "_law_least" ["_law_fields_here","_law_dykes_here","_law_wish","_law_height"] pW:=pF T
 have G_land_pinit:Ic P w K mg base 6 C ["self","fields","dykes"] (aAM C):=jO T
 have G_land_p_dykes:Mc P w K mg base 1 C "dykes" ["self"] (aAJ C fun _ ds=>ds):=lN T
 have G_p_cost:Fc P w K mg base 7 "cost" ["land","fields","height"] (aFG C):=yZ T
 have G_l_class:Fc P w K mg base 9 "_law_class" ["_law_land","_law_wish","_law_height"] (aHL C):=aFV T
 refine T.d_l_great.fc gO gW (fun f cdv A outer s H vs Q E hr h=>?_)
 obtain⟨x,y,rfl,n,scr,rfl,q⟩:=h
 have big:=bU
 have h5:hgt 5=true:=by decide
 refine⟨_,(@aE _ _ _ _ _ (@aV _ _ (2) _ _ _ _ gO.nd rfl (Or.inl rfl) (@bC _ _ _ _ _ _ _ _ _ _ G_l_fields (hr.mono (by decide)) (@aA _ _ _ _ _ (pv 0) (@aA _ _ _ _ _ (@aK _ _ _ _ _ _ _ _ cY aD (@aK _ _ _ _ _ _ _ _ cB (pv 1) aD)) aB (by rfl)) (by rfl)) (by rfl) (by decide) (by rfl) (by rfl)) (by rfl) (by trivial)) (@aE _ _ _ _ _ (@aV _ _ (3) _ _ _ _ gO.nd rfl (Or.inl rfl) (@aLV _ _ _ _ _ _ _ _ _ _ _ T.mg_Land G_land_pinit (hr.mono (by decide)) (@aA _ _ _ _ _ (pv 2) (@aA _ _ _ _ _ (@bC _ _ _ _ _ _ _ _ _ _ G_l_dykes (hr.mono (by decide)) (@aA _ _ _ _ _ (pv 0) (@aA _ _ _ _ _ (pv 2) (@aA _ _ _ _ _ aD aB (by rfl)) (by rfl)) (by rfl)) (by rfl) (by decide) (by rfl) (by rfl)) aB (by rfl)) (by rfl)) (by rfl) (by decide) (by rfl) (by rfl)) (by rfl) (by trivial)) (@aE _ _ _ _ _ (@fA _ (4) _ _ _ _ _ _ _ _ _ _ _ _ _ gO.nd rfl ["_law_field"] 1 [] rfl (@bG _ _ _ _ (pv 2)) (fun R=>@aN _ _ (0) _ (show Ar (["_law_field"]:List Str) by decide +kernel) rfl (Or.inl rfl) (by trivial)) (@aW _ _ (by decide)) (fun R=>bT) (fun R=>(@bA _ _ _ _ _ _ _ (@aT _ (K) rfl) (pv 0) aD (fun _ _=>rfl))) (by exact Or.inl rfl) (by trivial) (by rfl) (by rfl) (by rfl) (by rfl) (by rfl) (by rfl) (by rfl) (by rfl) (by intro _;rfl)) (@aE _ _ _ _ _ (@dG _ _ _ _ _ _ _ _ (@bK _ _ _ _ _ _ _ _ (@aFO _ hr.units) (@bC _ _ _ _ _ _ _ _ _ _ G_l_class (hr.mono (by decide)) (@aA _ _ _ _ _ (pv 3) (@aA _ _ _ _ _ (@dR _ _ _ _ _ _ _ _ _ _ (@eO _ (K) rfl) (pv 4) eV (@eU _ _ _ aD)) (@aA _ _ _ _ _ aD aB (by rfl)) (by rfl)) (by rfl)) (by rfl) (by decide) (by rfl) (by rfl)) (@bS _ _ _ _ (@aA _ _ _ _ _ fC (@aA _ _ _ _ _ fC (@aA _ _ _ _ _ fC aB (by rfl)) (by rfl)) (by rfl))) (@bI _ _ (by decide) (by decide))) (@aG _ _ _ (@aQ _ _ _ _ fC)) bP) (@aE _ _ _ _ _ (@aV _ _ (5) _ _ _ _ gO.nd rfl (Or.inl rfl) (@aK _ _ _ _ _ _ _ _ iD (@dR _ _ _ _ _ _ _ _ _ _ (@eO _ (K) rfl) (pv 4) (@eU _ _ _ (@aK _ _ _ _ _ _ _ _ cB (pv 1) aD)) eV) (@dR _ _ _ _ _ _ _ _ _ _ (@eO _ (K) rfl) (pv 4) eV (@eU _ _ _ (@aK _ _ _ _ _ _ _ _ cB (pv 1) aD)))) (by rfl) (by trivial)) (@aE _ _ _ _ _ (@dG _ _ _ _ _ _ _ _ (@bK _ _ _ _ _ _ _ _ yX (@bC _ _ _ _ _ _ _ _ _ _ G_p_cost (hr.mono (by decide)) (@aA _ _ _ _ _ (pv 3) (@aA _ _ _ _ _ (pv 5) (@aA _ _ _ _ _ aD aB (by rfl)) (by rfl)) (by rfl)) (by rfl) (by decide) (by rfl) (by rfl)) (@bC _ _ _ _ _ _ _ _ _ _ G_l_least (hr.mono (by decide)) (@aA _ _ _ _ _ (pv 2) (@aA _ _ _ _ _ (@yV _ _ _ _ _ _ _ _ _ _ _ T.cl_Land G_land_p_dykes (hr.mono (by decide)) (pv 3) (by rfl)) (@aA _ _ _ _ _ (pv 5) (@aA _ _ _ _ _ aD aB (by rfl)) (by rfl)) (by rfl)) (by rfl)) (by rfl) (by decide) (by rfl) (by rfl)) (@bI _ _ (by decide) (by decide))) (@aG _ _ _ (@aQ _ _ _ _ fC)) bP) (@aE _ _ _ _ _ (@dG _ _ _ _ _ _ _ _ (@bK _ _ _ _ _ _ _ _ yX (@bC _ _ _ _ _ _ _ _ _ _ G_p_cost (hr.mono (by decide)) (@aA _ _ _ _ _ (pv 3) (@aA _ _ _ _ _ (@dR _ _ _ _ _ _ _ _ _ _ (@eO _ (K) rfl) (pv 5) eV (@eU _ _ _ aD)) (@aA _ _ _ _ _ aD aB (by rfl)) (by rfl)) (by rfl)) (by rfl) (by decide) (by rfl) (by rfl)) (@bC _ _ _ _ _ _ _ _ _ _ G_l_least (hr.mono (by decide)) (@aA _ _ _ _ _ (pv 2) (@aA _ _ _ _ _ (@yV _ _ _ _ _ _ _ _ _ _ _ T.cl_Land G_land_p_dykes (hr.mono (by decide)) (pv 3) (by rfl)) (@aA _ _ _ _ _ (@dR _ _ _ _ _ _ _ _ _ _ (@eO _ (K) rfl) (pv 5) eV (@eU _ _ _ aD)) (@aA _ _ _ _ _ aD aB (by rfl)) (by rfl)) (by rfl)) (by rfl)) (by rfl) (by decide) (by rfl) (by rfl)) (@bI _ _ (by decide) (by decide))) (@aG _ _ _ (@aQ _ _ _ _ fC)) bP) (@aE _ _ _ _ _ (@aV _ _ (6) _ _ _ _ gO.nd rfl (Or.inl rfl) (@bA _ _ _ _ _ _ _ (@cZ _ (K) rfl) (@bS _ _ _ _ (@aA _ _ _ _ _ (@aK _ _ _ _ _ _ _ _ iD (@dR _ _ _ _ _ _ _ _ _ _ (@eO _ (K) rfl) (pv 4) eV (@eU _ _ _ aD)) (@dR _ _ _ _ _ _ _ _ _ _ (@eO _ (K) rfl) (pv 4) eV (@eU _ _ _ aD))) (@aA _ _ _ _ _ (@aK _ _ _ _ _ _ _ _ iD (@dR _ _ _ _ _ _ _ _ _ _ (@eO _ (K) rfl) (pv 4) eV (@eU _ _ _ aD)) (@bS _ _ _ _ (@aA _ _ _ _ _ kT aB (by rfl)))) (@aA _ _ _ _ _ (@bS _ _ _ _ aB) (@aA _ _ _ _ _ rJ (@aA _ _ _ _ _ (@bA _ _ _ _ _ _ _ (@cZ _ (K) rfl) (pv 4) aD (fun _ _=>rfl)) aB (by rfl)) (by rfl)) (by rfl)) (by rfl)) (by rfl))) (@aK _ _ _ _ _ _ _ _ cB (@aK _ _ _ _ _ _ _ _ bN (pv 1) aD) aD) (fun _ _=>rfl)) (by rfl) (by trivial)) (@aE _ _ _ _ _ (@dG _ _ _ _ _ _ _ _ (@bK _ _ _ _ _ _ _ _ (@aFO _ hr.units) (@bC _ _ _ _ _ _ _ _ _ _ G_l_class (hr.mono (by decide)) (@aA _ _ _ _ _ (pv 3) (@aA _ _ _ _ _ (pv 6) (@aA _ _ _ _ _ aD aB (by rfl)) (by rfl)) (by rfl)) (by rfl) (by decide) (by rfl) (by rfl)) (@bS _ _ _ _ (@aA _ _ _ _ _ fC (@aA _ _ _ _ _ fC (@aA _ _ _ _ _ fC aB (by rfl)) (by rfl)) (by rfl))) (@bI _ _ (by decide) (by decide))) (@aG _ _ _ (@aQ _ _ _ _ fC)) bP) (@aG _ _ _ (@aQ _ _ _ _ (@dC _ _ _ _ _ _ _ _ (@aFP _ hr.units) (@bC _ _ _ _ _ _ _ _ _ _ G_l_class (hr.mono (by decide)) (@aA _ _ _ _ _ (pv 3) (@aA _ _ _ _ _ (@dR _ _ _ _ _ _ _ _ _ _ (@eO _ (K) rfl) (pv 4) eV (@eU _ _ _ aD)) (@aA _ _ _ _ _ (@bA _ _ _ _ _ _ _ (@cZ _ (K) rfl) (@bS _ _ _ _ (@aA _ _ _ _ _ rJ (@aA _ _ _ _ _ (@aK _ _ _ _ _ _ _ _ cY (@aK _ _ _ _ _ _ _ _ kW aD aD) aD) (@aA _ _ _ _ _ fC aB (by rfl)) (by rfl)) (by rfl))) (@aK _ _ _ _ _ _ _ _ cB (@aK _ _ _ _ _ _ _ _ bN (pv 1) aD) aD) (fun _ _=>rfl)) aB (by rfl)) (by rfl)) (by rfl)) (by rfl) (by decide) (by rfl) (by rfl)) (@bS _ _ _ _ (@aA _ _ _ _ _ fC (@aA _ _ _ _ _ fC (@aA _ _ _ _ _ fC aB (by rfl)) (by rfl)) (by rfl))) (@bI _ _ (by decide) (by decide)))))))))))))),?_⟩
 have r0:0≤n % 4:=BJ _ (by decide)
 have r1:n % 4<4:=BE _ (by decide)
 obtain⟨k,hk⟩:=BC r0
 refine aDB fun u0 hu0=>?_
 refine⟨_,rfl,_,rfl,_,_,rfl,rfl,(gB rfl),_,_,rfl,rfl,_,_,rfl,9+k,scr,congrArg V.int (show 9+n % 4=((9+k:Nat):Int) by omega),by omega,by omega,fun lf vf fs H1 S1 nlf hf1 hif1 gf f9=>?_⟩
 refine⟨_,rfl,_,rfl,_,rfl,_,_,_,rfl,3,lf,vf,fs,9+k,scr.same S1,rfl,hf1,hif1,gf,by omega,rfl,by decide,by decide,fun ld vd ds H2 S2 nld hd2 hid2 gd=>?_⟩
 intro p dx np ndx nex
 have S3':aH H2 (upd (upd H2 dx (.own p)) p (.ins C dx [])):=fun b o e=>by
  rw[aI (aJ e np),aI (aJ e ndx)]
  exact e
 have f2:=gf.l2
 have d2:=gd.l2
 have smf:cO (.lst fs)=true:=gT (fun d m=>nE (gf.all d m)) (by omega)
 have smd:cO (.lst ds)=true:=gT (fun d m=>pK gf.all (gd.all d m)) (by omega)
 have T2:=S2.trans S3'
 refine⟨_,_,_,rfl,p,dx,fs,ds,rfl,aC,⟨lf,vf,rfl,T2 _ _ hf1,IsL.same T2 _ _ hif1⟩,⟨ld,vd,rfl,S3' _ _ hd2,IsL.same S3' _ _ hid2⟩,smf,smd,sE gf (by omega),wT gd (by decide),fun H3 L3 fr=>⟨rfl,?_⟩⟩
 have Z3:aH H2 H3:=fun b o e=>fr b o (S3' _ _ e) (aJ e np)
 have hf3:=(S2.trans Z3) _ _ hf1
 have hif3:=IsL.same (S2.trans Z3) _ _ hif1
 have T3:=S1.trans (S2.trans Z3)
 have lvf:=dS hif3
 refine gσ (σ':=[some x,some (.int n),some (.ref lf),some (.ref p),none,none,none]) rfl ?_
 refine⟨_,rfl,lf,rfl,⟨_,SqL.of hf3⟩,?_⟩
 refine bE (F:=K) (xs:=vf) (by omega) (fun i ys H'=>H3=H'∧ys=((fs.take i).map aP).map V.str) ⟨rfl,rfl⟩ ?_ ?_ ?_
 ·rintro i ys H' hi ⟨rfl,rfl⟩
  exact⟨SqL.of hf3,by rw[AA,AA,AH];omega⟩
 ·rintro i xv ys H' K1 K2 hx' ⟨rfl,rfl⟩ k1 k2
  have hil:i<vf.length:=(AB.mp hx').1
  obtain⟨d,ed⟩:∃ d,fs[i]?=some d:=⟨_,AC (by omega)⟩
  obtain⟨v,ev,iv⟩:=hif3.get ed
  rw[hx'] at ev
  cases ev
  obtain⟨z,g,u,rfl,hz,_⟩:=bH (gf.all d (AG ed))
  obtain⟨t,rfl,o⟩:=fY iv
  refine⟨_,rfl,t,_,0,.str z,rfl,rfl,SqT.of o,aO (j:=0) rfl,k1 _ _ ⟨rfl,?_⟩⟩
  rw[AT,ed,AF,AF]
  rfl
 rintro ys H' ⟨rfl,rfl⟩
 rw[AE (by omega)]
 intro ln mn
 obtain⟨zs,ezs⟩:∃ zs,zs=fs.map aP:=⟨_,rfl⟩
 rw[← ezs]
 have S4:=aH.upd (o:=.lst (zs.map V.str)) mn
 have r4:upd H3 ln (.lst (zs.map V.str)) ln=some (.lst (zs.map V.str)):=aC
 generalize upd H3 ln (.lst (zs.map V.str))=H4 at S4 r4
 have T4:=T3.trans S4
 refine gσ (σ':=[some x,some (.int n),some (.ref lf),some (.ref p),some (.ref ln),none,none]) rfl ?_
 refine hu0 _ _ _ ?_
 have L4:=L3.same S4
 have hf4:=S4 _ _ hf3
 have hif4:=IsL.same S4 _ _ hif3
 clear S3' T2 fr np ndx nex hf1 hif1 hf3 hif3 hd2 hid2 smf smd mn
 have ndz:zs.Nodup:=by rw[ezs];exact gf.nd
 have lz:zs.length=9+k:=by rw[ezs,AA];exact f9
 have gf12:=aGK gf (m:=12) (by omega)
 have gd10:=aNJ gd (m:=10) (by decide)
 have n8:∀ z∈zs,z.length≤8:=fun z m=>by
  rw[ezs] at m
  obtain⟨d,md,rfl⟩:=AN.mp m
  obtain⟨y,g,e,rfl,hn,_⟩:=bH (gf.all d md)
  unfold eW at hn
  simp only[AU,decide_eq_true_eq] at hn
  exact hn.1.1.2
 have seaZ:Mt22.sea∉zs:=fun m=>by
  rw[ezs] at m
  obtain⟨d,md,e⟩:=AN.mp m
  obtain⟨z,g,u,rfl,hz,_⟩:=bH (gf.all d md)
  exact pY hz e
 have sm9:∀ j,cO (.lst ((zs.take j).map Dv.str))=true:=fun j=>aSN (aCQ fun z m=>n8 z (Cb m)) (by rw[AA,AH];omega)
 have t9:lR (zs.map V.str) none (some 9)=(zs.take 9).map V.str:=by rw[DR];exact kL _ 9
 refine⟨_,rfl,_,rfl,9,rfl,ln,_,rfl,SqL.of r4,fun l5 m5=>?_⟩
 rw[t9]
 have S5:=aH.upd (o:=.lst ((zs.take 9).map V.str)) m5
 have r5:upd H4 l5 (.lst ((zs.take 9).map V.str)) l5=some (.lst ((zs.take 9).map V.str)):=aC
 generalize upd H4 l5 (.lst ((zs.take 9).map V.str))=H5 at S5 r5
 have nd9:(zs.take 9).Nodup:=ndz.sublist (Ea _ _)
 refine⟨_,_,_,rfl,p,fs,ds,.lst ((zs.take 9).map Dv.str),.int 5,"TooMany",rfl,L4.same S5,⟨l5,_,rfl,r5,IsL.strs _ _⟩,sm9 9,rfl,.inr ⟨rfl,zs.take 9,5,rfl,nd9,(fun z m=>by rw[← ezs];exact Cb m),by rw[AH];omega,rfl,h5⟩,fun lr H6 S6 hr6=>?_⟩
 refine⟨aM rfl,fun la ma=>?_⟩
 have S7:=aH.upd (o:=.lst [.bl true,.bl false,.bl true]) ma
 refine wD (sK (S7 _ _ hr6)) (sK (by rw[aC,aNN])) rfl ⟨_,rfl,bO ?_⟩
 have T7:=S5.trans (S6.trans S7)
 generalize upd H6 la (.lst [.bl true,.bl false,.bl true])=H7 at S7 T7
 refine⟨_,rfl,_,rfl,_,_,rfl,rfl,(gB rfl),_,rfl,ln,_,rfl,SqL.of (T7 _ _ r4),fun l8 m8=>?_⟩
 rw[show lR (zs.map V.str) (some (n % 4)) none=(zs.drop k).map V.str by rw[hk,List.map_drop];exact wY _ k]
 have S8:=aH.upd (o:=.lst ((zs.drop k).map V.str)) m8
 have r8:upd H7 l8 (.lst ((zs.drop k).map V.str)) l8=some (.lst ((zs.drop k).map V.str)):=aC
 generalize upd H7 l8 (.lst ((zs.drop k).map V.str))=H8 at S8 r8
 refine⟨_,rfl,_,rfl,_,_,rfl,rfl,(gB rfl),_,rfl,ln,_,rfl,SqL.of (S8 _ _ (T7 _ _ r4)),fun l9 m9=>?_⟩
 rw[show lR (zs.map V.str) none (some (n % 4))=(zs.take k).map V.str by rw[hk,DR];exact kL _ k]
 have S9:=aH.upd (o:=.lst ((zs.take k).map V.str)) m9
 have r9:upd H8 l9 (.lst ((zs.take k).map V.str)) l9=some (.lst ((zs.take k).map V.str)):=aC
 generalize upd H8 l9 (.lst ((zs.take k).map V.str))=H9 at S9 r9
 refine⟨l8,l9,_,_,rfl,rfl,S9 _ _ r8,r9,by rw[AA,AA,Bd,AH];omega,fun lw mw=>?_⟩
 rw[← AF]
 have pm:(zs.drop k++zs.take k).Perm zs:=List.perm_append_comm.trans (by rw[List.take_append_drop])
 generalize zs.drop k++zs.take k=ws at pm
 have Sw:=aH.upd (o:=.lst (ws.map V.str)) mw
 have rw':upd H9 lw (.lst (ws.map V.str)) lw=some (.lst (ws.map V.str)):=aC
 have Tw:=T7.trans (S8.trans (S9.trans Sw))
 generalize upd H9 lw (.lst (ws.map V.str))=Hw at Sw rw' Tw
 refine gσ (σ':=[some x,some (.int n),some (.ref lf),some (.ref p),some (.ref ln),some (.ref lw),none]) rfl ?_
 have ndw:ws.Nodup:=pm.nodup_iff.mpr ndz
 have subw:∀ z∈ws,z∈fs.map aP:=fun z m=>by rw[← ezs];exact pm.mem_iff.mp m
 have lws:=pm.length_eq
 clear m5 r5 ma hr6 m8 m9 mw r8 r9 S8 S9 Sw S5 S6 S7 T7
 refine⟨_,rfl,_,rfl,_,_,_,rfl,p,lw,fs,ds,ws,5,rfl,L4.same Tw,rfl,rw',ndw,subw,rfl,h5,fun c1 Ha Sa lsta=>?_⟩
 have Ta:=Tw.trans Sa
 obtain⟨dy,d1,d2',hdy,_⟩:=L4.ex
 refine⟨_,rfl,_,rfl,p,dy,_,rfl,Ta _ _ hdy,gF _ _ (by decide +kernel) (by decide +kernel),_,rfl,p,fs,ds,rfl,L4.same Ta,fun l1 v1 Hc Sc n1 hc1 ic1=>?_⟩
 have Tc:=Ta.trans Sc
 refine⟨_,rfl,_,_,_,_,lf,l1,lw,vf,v1,fs,ds,ws,5,rfl,rfl,Tc _ _ hf4,IsL.same Tc _ _ hif4,rfl,hc1,ic1,rfl,(Sa.trans Sc) _ _ rw',rfl,gf12,gd10,subw,fun c2 Hd Sd lstd=>?_⟩
 cases lsta.uniq lstd
 refine⟨rfl,_,rfl,?_⟩
 rw[decide_eq_true rfl]
 refine bO ?_
 have Td:=Tc.trans Sd
 have rwd:=(Sa.trans (Sc.trans Sd)) _ _ rw'
 clear hc1 ic1 lsta lstd n1 Tc Ta
 have t9w:lR (ws.map V.str) none (some 9)=(ws.take 9).map V.str:=by rw[DR];exact kL _ 9
 have nd9w:(ws.take 9).Nodup:=ndw.sublist (Ea _ _)
 have sub9:∀ z∈ws.take 9,z∈fs.map aP:=fun z m=>subw z (Cb m)
 refine⟨_,rfl,_,rfl,9,rfl,lw,_,rfl,SqL.of rwd,fun l2 m2=>?_⟩
 rw[t9w]
 have Se:=aH.upd (o:=.lst ((ws.take 9).map V.str)) m2
 have re:upd Hd l2 (.lst ((ws.take 9).map V.str)) l2=some (.lst ((ws.take 9).map V.str)):=aC
 generalize upd Hd l2 (.lst ((ws.take 9).map V.str))=He at Se re
 have Te:=Td.trans Se
 refine⟨_,_,_,rfl,p,l2,fs,ds,ws.take 9,5,rfl,L4.same Te,rfl,re,nd9w,sub9,rfl,h5,fun c3 Hf Sf lstf=>?_⟩
 have Tf:=Te.trans Sf
 refine⟨_,rfl,_,rfl,p,dy,_,rfl,Tf _ _ hdy,gF _ _ (by decide +kernel) (by decide +kernel),_,rfl,p,fs,ds,rfl,L4.same Tf,fun l3 v3 Hg Sg n3 hg3 ig3=>?_⟩
 have Tg:=Tf.trans Sg
 refine⟨_,rfl,9,rfl,lw,_,rfl,SqL.of ((Se.trans (Sf.trans Sg)) _ _ rwd),fun l4 m4=>?_⟩
 rw[t9w]
 have Sh:=aH.upd (o:=.lst ((ws.take 9).map V.str)) m4
 have rh:upd Hg l4 (.lst ((ws.take 9).map V.str)) l4=some (.lst ((ws.take 9).map V.str)):=aC
 generalize upd Hg l4 (.lst ((ws.take 9).map V.str))=Hh at Sh rh
 have Th:=Tg.trans Sh
 refine⟨_,_,_,_,lf,l3,l4,vf,v3,fs,ds,ws.take 9,5,rfl,rfl,Th _ _ hf4,IsL.same Th _ _ hif4,rfl,Sh _ _ hg3,IsL.same Sh _ _ ig3,rfl,rh,rfl,gf12,gd10,sub9,fun c4 Hi Si lsti=>?_⟩
 cases lstf.uniq lsti
 refine⟨rfl,_,rfl,?_⟩
 rw[decide_eq_true rfl]
 refine bO ?_
 have Ti:=Th.trans Si
 have ri:=Ti _ _ r4
 have Li:=L4.same Ti
 have Tall:=T4.trans Ti
 clear hg3 ig3 lstf lsti n3 re rh m2 m4 Tg Th Tf Te Td hif4 hf4 Tw rwd rw' Se Sf Sg Sh Si Sa Sc Sd
 obtain⟨z0,ez0⟩:∃ z,zs[0]?=some z:=⟨_,AC (by omega)⟩
 have OA:=aPJ n8 ez0 seaZ
 have tk:∀ j:Nat,lR (zs.map V.str) none (some (j:Int))=(zs.take j).map V.str:=fun j=>by rw[DR];exact kL _ j
 refine⟨_,rfl,9,rfl,ln,_,rfl,SqL.of ri,fun b1 k1=>?_⟩
 rw[t9]
 have A1:=aH.upd (o:=.lst ((zs.take 9).map V.str)) k1
 have g1:upd Hi b1 (.lst ((zs.take 9).map V.str)) b1=some (.lst ((zs.take 9).map V.str)):=aC
 generalize upd Hi b1 (.lst ((zs.take 9).map V.str))=I1 at A1 g1
 refine⟨_,rfl,1,rfl,ln,_,rfl,SqL.of (A1 _ _ ri),fun b2 k2=>?_⟩
 rw[show lR (zs.map V.str) none (some 1)=(zs.take 1).map V.str from tk 1]
 have A2:=aH.upd (o:=.lst ((zs.take 1).map V.str)) k2
 have g2:upd I1 b2 (.lst ((zs.take 1).map V.str)) b2=some (.lst ((zs.take 1).map V.str)):=aC
 generalize upd I1 b2 (.lst ((zs.take 1).map V.str))=I2 at A2 g2
 refine⟨b1,b2,_,_,rfl,rfl,A2 _ _ g1,g2,by rw[AA,AA,AH,AH];omega,fun b3 k3=>?_⟩
 rw[← AF]
 have A3:=aH.upd (o:=.lst ((zs.take 9++zs.take 1).map V.str)) k3
 have g3:upd I2 b3 (.lst ((zs.take 9++zs.take 1).map V.str)) b3=some (.lst ((zs.take 9++zs.take 1).map V.str)):=aC
 generalize upd I2 b3 (.lst ((zs.take 9++zs.take 1).map V.str))=I3 at A3 g3
 have B3:=A1.trans (A2.trans A3)
 refine⟨_,rfl,8,rfl,ln,_,rfl,SqL.of (B3 _ _ ri),fun b4 k4=>?_⟩
 rw[show lR (zs.map V.str) none (some 8)=(zs.take 8).map V.str from tk 8]
 have A4:=aH.upd (o:=.lst ((zs.take 8).map V.str)) k4
 have g4:upd I3 b4 (.lst ((zs.take 8).map V.str)) b4=some (.lst ((zs.take 8).map V.str)):=aC
 generalize upd I3 b4 (.lst ((zs.take 8).map V.str))=I4 at A4 g4
 refine⟨aM rfl,fun b5 k5=>?_⟩
 have A5:=aH.upd (o:=.lst [.str "sea"]) k5
 have g5:upd I4 b5 (.lst [.str "sea"]) b5=some (.lst [.str "sea"]):=aC
 generalize upd I4 b5 (.lst [.str "sea"])=I5 at A5 g5
 refine⟨b4,b5,_,_,rfl,rfl,A5 _ _ g4,g5,by rw[AA,AH];show _+1≤_;omega,fun b6 k6=>?_⟩
 have A6:=aH.upd (o:=.lst ((zs.take 8).map V.str++[.str "sea"])) k6
 have g6:upd I5 b6 (.lst ((zs.take 8).map V.str++[.str "sea"])) b6=some (.lst ((zs.take 8).map V.str++[.str "sea"])):=aC
 generalize upd I5 b6 (.lst ((zs.take 8).map V.str++[.str "sea"]))=I6 at A6 g6
 refine⟨aM rfl,fun b7 k7=>?_⟩
 have A7:=aH.upd (o:=.lst []) k7
 have g7:upd I6 b7 (.lst []) b7=some (.lst []):=aC
 generalize upd I6 b7 (.lst [])=I7 at A7 g7
 have B7:=B3.trans (A4.trans (A5.trans (A6.trans A7)))
 refine⟨_,rfl,ln,_,0,.str z0,rfl,rfl,SqL.of (B7 _ _ ri),aO (j:=0) (by rw[AI,ez0];rfl),aM rfl,fun lo ko=>?_⟩
 have A8:=aH.upd (o:=.lst [.ref b3,.ref b6,.ref b7,.non,.str z0]) ko
 have g8:upd I7 lo (.lst [.ref b3,.ref b6,.ref b7,.non,.str z0]) lo=some (.lst [.ref b3,.ref b6,.ref b7,.non,.str z0]):=aC
 generalize upd I7 lo (.lst [.ref b3,.ref b6,.ref b7,.non,.str z0])=I8 at A8 g8
 have isO:IsL I8 (aPI zs z0) [.ref b3,.ref b6,.ref b7,.non,.str z0]:=⟨_,_,rfl,⟨b3,_,rfl,(A4.trans (A5.trans (A6.trans (A7.trans A8)))) _ _ g3,IsL.strs _ _⟩,_,_,rfl,⟨b6,_,rfl,(A7.trans A8) _ _ g6,IsL.snoc (show Is I8 (Dv.str "sea") (V.str "sea") from rfl) (IsL.strs _ _)⟩,_,_,rfl,⟨b7,_,rfl,A8 _ _ g7,rfl⟩,_,_,rfl,rfl,_,_,rfl,rfl,rfl⟩
 obtain⟨i5,e5⟩:=BC (BJ (n / 4) (show (5:Int)≠0 by decide))
 have i5l:i5<5:=by have:=BE (n / 4) (show (0:Int)<5 by decide);omega
 obtain⟨db,edb⟩:∃ d,(aPI zs z0)[i5]?=some d:=⟨_,AC i5l⟩
 obtain⟨vb,evb,ivb⟩:=isO.get edb
 obtain⟨bf,bs⟩:=OA db (AG edb)
 refine⟨_,rfl,_,_,rfl,rfl,⟨by decide,by decide⟩,_,_,rfl,rfl,(gB rfl),lo,_,_,vb,rfl,rfl,SqL.of g8,(by rw[e5];exact aO evb),?_⟩
 refine gσ (σ':=[some x,some (.int n),some (.ref lf),some (.ref p),some (.ref ln),some (.ref lw),some vb]) rfl ?_
 have B8:=B7.trans A8
 clear g1 g2 g3 g4 g5 g6 g7 g8 k1 k2 k3 k4 k5 k6 k7 ko A1 A2 A3 A4 A5 A6 A7 A8 B3 B7 isO evb edb
 rw[ezs] at bf
 refine⟨_,rfl,_,rfl,_,_,_,rfl,p,fs,ds,db,.int 5,"NoWish",rfl,Li.same B8,ivb,bs,rfl,.inl ⟨rfl,.inl bf⟩,fun lr H6 S6 hr6=>?_⟩
 refine⟨aM rfl,fun la ma=>?_⟩
 have S7:=aH.upd (o:=.lst [.bl true,.bl true,.bl false]) ma
 refine wD (sK (S7 _ _ hr6)) (sK (by rw[aC,aEO])) rfl ⟨_,rfl,bO ?_⟩
 have C7:=B8.trans (S6.trans S7)
 generalize upd H6 la (.lst [.bl true,.bl true,.bl false])=H7 at S7 C7
 clear hr6 ma S6 S7 ivb
 refine⟨_,rfl,_,rfl,9,rfl,ln,_,rfl,SqL.of (C7 _ _ ri),fun l5 m5=>?_⟩
 rw[t9]
 have S5:=aH.upd (o:=.lst ((zs.take 9).map V.str)) m5
 have r5:upd H7 l5 (.lst ((zs.take 9).map V.str)) l5=some (.lst ((zs.take 9).map V.str)):=aC
 generalize upd H7 l5 (.lst ((zs.take 9).map V.str))=H8 at S5 r5
 refine⟨_,_,rfl,rfl,⟨by decide,by decide,by decide⟩,_,_,rfl,rfl,aM rfl,fun lh kh=>?_⟩
 have A8:=aH.upd (o:=.lst [.non,.int (10 ^ (6:Int).toNat+1),.bl true]) kh
 have g8:upd H8 lh (.lst [.non,.int (10 ^ (6:Int).toNat+1),.bl true]) lh=some (.lst [.non,.int (10 ^ (6:Int).toNat+1),.bl true]):=aC
 generalize upd H8 lh (.lst [.non,.int (10 ^ (6:Int).toNat+1),.bl true])=H9 at A8 g8
 have isH:IsL H9 aTN [.non,.int (10 ^ (6:Int).toNat+1),.bl true]:=⟨_,_,rfl,rfl,_,_,rfl,rfl,_,_,rfl,rfl,rfl⟩
 obtain⟨i3,e3⟩:=BC (BJ (n / 20) (show (3:Int)≠0 by decide))
 have i3l:i3<3:=by have:=BE (n / 20) (show (0:Int)<3 by decide);omega
 obtain⟨dh,edh⟩:∃ d,aTN[i3]?=some d:=⟨_,AC i3l⟩
 obtain⟨vh,evh,ivh⟩:=isH.get edh
 have bh:=aNU dh (AG edh)
 refine⟨_,rfl,_,_,rfl,rfl,⟨by decide,by decide⟩,_,_,rfl,rfl,(gB rfl),lh,_,_,vh,rfl,rfl,SqL.of g8,(by rw[e3];exact aO evh),?_⟩
 have C9:=C7.trans (S5.trans A8)
 refine⟨_,_,_,rfl,p,fs,ds,.lst ((zs.take 9).map Dv.str),dh,"NoWish",rfl,Li.same C9,⟨l5,_,rfl,A8 _ _ r5,IsL.strs _ _⟩,sm9 9,ivh,.inl ⟨rfl,.inr bh⟩,fun lr H6 S6 hr6=>?_⟩
 refine⟨aM rfl,fun la ma=>?_⟩
 have S7:=aH.upd (o:=.lst [.bl true,.bl true,.bl false]) ma
 refine⟨aTL "NoWish",aTL "NoWish",sK (S7 _ _ hr6),sK (by rw[aC,aEO]),rfl,rfl,?_⟩
 rw[if_neg AR,kK 30 _ rfl]
 exact q _ (Tall.trans (C9.trans (S6.trans S7)))
open Mt53 Mt22 MtF Mt31 Mt61 Mt63
theorem aAG{Tb:Addr}{H H':Hp}(k:eC Tb H H')(t:lT Tb H){a:Addr}{xs:List V}(h:SqL K H a xs):SqL K H' a xs:=by
 obtain⟨ps,eT,_⟩:=t
 rcases h with h | h
 ·refine .inl (h.imp (fun e=>k _ _ (fun z=>?_) e) fun⟨o,e⟩=>⟨o,k _ _ (fun z=>?_) e⟩)
  ·rw[z,eT] at e;cases e
  ·rw[z,eT] at e;cases e
 ·exact .inr h
theorem aSJ{f:Addr}{fd:Bb}(T:Txt K mg C){c Tb:Addr}(B:TabB K mg base "lists_of_places" c Tb)(F:Fun K "law" "law" aAZ f fd):FnOk P w K mg base CX0 12 f fd ["_law_script"] (aAL K Tb):=by
 have G_l_small:Fc P w K mg base 3 "_law_small" ["_law_script"] (aHD K):=aFS T
 have G_l_cell_at:Fc P w K mg base 1 "_law_cell_at" ["_law_script","_law_k"] (uU K):=iO T
 have G_l_mixed:Fc P w K mg base 1 "_law_mixed" ["_law_cell","_law_k"] pV:=pE T
 have G_l_high:Fc P w K mg base 1 "_law_high" ["_law_number"] aAN:=rP T
 have G_l_company:Fc P w K mg base 1 "_law_company" ["_law_names","_law_number"] (yD K):=aBM T
 have G_l_lists:Fc P w K mg base 10 "_law_lists" ["_law_some","_law_many"] (yC 9):=wB T
 have G_l_least:Fc P w K mg base 1 "_law_least" ["_law_fields_here","_law_dykes_here","_law_wish","_law_height"] pW:=pF T
 have G_land_pinit:Ic P w K mg base 6 C ["self","fields","dykes"] (aAM C):=jO T
 have G_p_companies:Fc P w K mg base 8 "companies" ["land","fields","height"] (jF C Tb):=mQ T B
 have G_l_eight:Fc P w K mg base 11 "_law_eight" ["_law_script","_law_height"] (aHI K C Tb):=aFU T B
 have G_l_great:Fc P w K mg base 10 "_law_great" ["_law_script","_law_cell"] (aAO K):=aFT T
 refine F.ok dO oE (fun cdv A outer s H vs Q E hr h=>?_)
 obtain⟨x,rfl,a,ns,rfl,hS,hl,eT,q⟩:=h
 have big:=bU
 have big9:(10000:Nat)≤Ak:=by decide
 have scr:Scr K H (.ref a):=⟨a,ns,rfl,hS,hl⟩
 refine⟨_,(@aE _ _ _ _ _ (@aBE _ _ _ _ _ _ (@bC _ _ _ _ _ _ _ _ _ _ G_l_small (hr.mono (by decide)) (@aA _ _ _ _ _ (pv 0) aB (by rfl)) (by rfl) (by decide) (by rfl) (by rfl)) (@rH _ _ _ _ _ _ rfl (@cH _ _ _ _ _ (@aN _ _ (1) _ dO.nd rfl (Or.inl rfl) (by trivial)) (@cH _ _ _ _ _ (@aN _ _ (2) _ dO.nd rfl (Or.inl rfl) (by trivial)) kR (by rfl)) (by rfl)) (by rfl) (by rfl)) (by rfl) (by rfl) (by rfl)) (@aE _ _ _ _ _ (@aV _ _ (3) _ _ _ _ dO.nd rfl (Or.inl rfl) (@aLV _ _ _ _ _ _ _ _ _ _ _ T.mg_Land G_land_pinit (hr.mono (by decide)) (@aA _ _ _ _ _ (pv 1) (@aA _ _ _ _ _ (pv 2) aB (by rfl)) (by rfl)) (by rfl) (by decide) (by rfl) (by rfl)) (by rfl) (by trivial)) (@aE _ _ _ _ _ (@fA _ (4) _ _ _ _ _ _ _ _ _ _ _ _ _ dO.nd rfl ["_law_field"] 1 [] rfl (@bG _ _ _ _ (pv 1)) (fun R=>@aN _ _ (0) _ (show Ar (["_law_field"]:List Str) by decide +kernel) rfl (Or.inl rfl) (by trivial)) (@aW _ _ (by decide)) (fun R=>bT) (fun R=>(@bA _ _ _ _ _ _ _ (@aT _ (K) rfl) (pv 0) aD (fun _ _=>rfl))) (by exact Or.inl rfl) (by trivial) (by rfl) (by rfl) (by rfl) (by rfl) (by rfl) (by rfl) (by rfl) (by rfl) (by intro _;rfl)) (@aE _ _ _ _ _ (@aV _ _ (5) _ _ _ _ dO.nd rfl (Or.inl rfl) (@bC _ _ _ _ _ _ _ _ _ _ G_l_mixed (hr.mono (by decide)) (@aA _ _ _ _ _ (@bC _ _ _ _ _ _ _ _ _ _ G_l_cell_at (hr.mono (by decide)) (@aA _ _ _ _ _ (pv 0) (@aA _ _ _ _ _ aD aB (by rfl)) (by rfl)) (by rfl) (by decide) (by rfl) (by rfl)) (@aA _ _ _ _ _ aD aB (by rfl)) (by rfl)) (by rfl) (by decide) (by rfl) (by rfl)) (by rfl) (by trivial)) (@aE _ _ _ _ _ (@aV _ _ (6) _ _ _ _ dO.nd rfl (Or.inl rfl) (aSF (@bC _ _ _ _ _ _ _ _ _ _ G_l_company (hr.mono (by decide)) (@aA _ _ _ _ _ (pv 4) (@aA _ _ _ _ _ (pv 5) aB (by rfl)) (by rfl)) (by rfl) (by decide) (by rfl) (by rfl)) (@dY _ _ _ _ _ (@bS _ _ _ _ (@aA _ _ _ _ _ (@bA _ _ _ _ _ _ _ (@cZ _ (K) rfl) (pv 4) aD (fun _ _=>rfl)) aB (by rfl))))) (by rfl) (by trivial)) (@aE _ _ _ _ _ (@aV _ _ (7) _ _ _ _ dO.nd rfl (Or.inl rfl) (@bA _ _ _ _ _ _ _ (@aT _ (K) rfl) (@bC _ _ _ _ _ _ _ _ _ _ G_l_high (hr.mono (by decide)) (@aA _ _ _ _ _ (@aK _ _ _ _ _ _ _ _ bN (pv 5) aD) aB (by rfl)) (by rfl) (by decide) (by rfl) (by rfl)) aD (fun _ _=>rfl)) (by rfl) (by trivial)) (@aE _ _ _ _ _ (@aV _ _ (8) _ _ _ _ dO.nd rfl (Or.inl rfl) (@bS _ _ _ _ aB) (by rfl) (by trivial)) (@aE _ _ _ _ _ (@eS _ _ _ _ _ _ _ _ Ax rfl (@eQ _ _ _ _ _ _ rfl T.n_range (@aA _ _ _ _ _ (@aK _ _ _ _ _ _ _ _ cY (@aS _ _ _ _ _ _ _ _ _ (@bB _ (K) rfl) rfl T.n_len bJ (@aA _ _ _ _ _ (pv 6) aB (by rfl)) (by decide) (by decide) (by rfl) (by rfl)) aD) aB (by rfl)) (by rfl)) (@aN _ _ (9) _ dO.nd rfl (Or.inl rfl) (by trivial)) (@aG _ _ _ (@eS _ _ _ _ _ _ _ _ Ax rfl (@bG _ _ _ _ (@bC _ _ _ _ _ _ _ _ _ _ G_l_lists (hr.mono (by decide)) (@aA _ _ _ _ _ (pv 6) (@aA _ _ _ _ _ (pv 9) aB (by rfl)) (by rfl)) (by rfl) (by decide) (by rfl) (by rfl))) (@aN _ _ (10) _ dO.nd rfl (Or.inl rfl) (by trivial)) (@aG _ _ _ (@dB _ _ _ _ (@iJ _ _ _ _ _ _ _ _ _ _ _ _ An Au At cX (pv 8) (@aA _ _ _ _ _ (@dW _ _ _ _ _ (@aA _ _ _ _ _ (pv 10) (@aA _ _ _ _ _ (@bC _ _ _ _ _ _ _ _ _ _ G_l_least (hr.mono (by decide)) (@aA _ _ _ _ _ (pv 1) (@aA _ _ _ _ _ (pv 2) (@aA _ _ _ _ _ (pv 10) (@aA _ _ _ _ _ (pv 7) aB (by rfl)) (by rfl)) (by rfl)) (by rfl)) (by rfl) (by decide) (by rfl) (by rfl)) aB (by rfl)) (by rfl))) aB (by rfl)) (by rfl) (by rfl) (by rfl) (by rfl) (by rfl)) (by rfl))) (by intro _;rfl))) (by intro _;rfl)) (@aE _ _ _ _ _ (@aV _ _ (11) _ _ _ _ dO.nd rfl (Or.inl rfl) (@bC _ _ _ _ _ _ _ _ _ _ G_p_companies (hr.mono (by decide)) (@aA _ _ _ _ _ (pv 3) (@aA _ _ _ _ _ (pv 6) (@aA _ _ _ _ _ (pv 7) aB (by rfl)) (by rfl)) (by rfl)) (by rfl) (by decide) (by rfl) (by rfl)) (by rfl) (by trivial)) (@aE _ _ _ _ _ (@dG _ _ _ _ _ _ _ _ (@PW.pt _ _ _ (@kA _ _ _ _ _ _ _ (@dA _ _ _ _ (@cR _ _ _ (@aS _ _ _ _ _ _ _ _ _ (@cD _ (K) rfl) rfl T.n_isinstance bD (@aA _ _ _ _ _ (pv 11) (@aA _ _ _ _ _ (@kE _ _ _ _ T.n_list dX (by rfl) (by decide) (by decide)) aB (by rfl)) (by rfl)) (by decide) (by decide) (by rfl) (by rfl)) (by intro _;rfl))) (@iW _ _ _ _ (@bK _ _ _ _ _ _ _ _ (@aFO _ hr.units) (pv 11) (pv 8) (@bI _ _ (by decide) (by decide)))))) (@aG _ _ _ (@aQ _ _ _ _ fC)) bP) (@aE _ _ _ _ _ (@eS _ _ _ _ _ _ _ _ Ax rfl (@bG _ _ _ _ (pv 11)) (@aN _ _ (12) _ dO.nd rfl (Or.inl rfl) (by trivial)) (@aE _ _ _ _ _ (@dG _ _ _ _ _ _ _ _ (@PW.pt _ _ _ (@kA _ _ _ _ _ _ _ (@dA _ _ _ _ (@cR _ _ _ (@aS _ _ _ _ _ _ _ _ _ (@cD _ (K) rfl) rfl T.n_isinstance bD (@aA _ _ _ _ _ (pv 12) (@aA _ _ _ _ _ (@kE _ _ _ _ T.n_tuple tO (by rfl) (by decide) (by decide)) aB (by rfl)) (by rfl)) (by decide) (by decide) (by rfl) (by rfl)) (by intro _;rfl))) (@kA _ _ _ _ _ _ _ (@dA _ _ _ _ (@cR _ _ _ (@aS _ _ _ _ _ _ _ _ _ (@cD _ (K) rfl) rfl T.n_isinstance bD (@aA _ _ _ _ _ (@bA _ _ _ _ _ _ _ (@aT _ (K) rfl) (pv 12) aD (fun _ _=>rfl)) (@aA _ _ _ _ _ (@kE _ _ _ _ T.n_list dX (by rfl) (by decide) (by decide)) aB (by rfl)) (by rfl)) (by decide) (by decide) (by rfl) (by rfl)) (by intro _;rfl))) (@iW _ _ _ _ (@cR _ _ _ (@aS _ _ _ _ _ _ _ _ _ (@cD _ (K) rfl) rfl T.n_isinstance bD (@aA _ _ _ _ _ (@bA _ _ _ _ _ _ _ (@aT _ (K) rfl) (pv 12) aD (fun _ _=>rfl)) (@aA _ _ _ _ _ (@kE _ _ _ _ T.n_bool xF (by rfl) (by decide) (by decide)) aB (by rfl)) (by rfl)) (by decide) (by decide) (by rfl) (by rfl)) (by intro _;rfl)))))) (@aG _ _ _ (@aQ _ _ _ _ fC)) bP) (@aG _ _ _ (@dB _ _ _ _ (@iJ _ _ _ _ _ _ _ _ _ _ _ _ An Au At cX (@bA _ _ _ _ _ _ _ (@aT _ (K) rfl) (pv 12) aD (fun _ _=>rfl)) (@aA _ _ _ _ _ kT aB (by rfl)) (by rfl) (by rfl) (by rfl) (by rfl) (by rfl)) (by rfl)))) (by intro _;rfl)) (@aE _ _ _ _ _ (@dB _ _ _ _ (@aLY _ _ _ _ _ _ _ _ _ An PySem.F.slot_list_clear PySem.F.type_list_clear aMF (pv 11) (by rfl) (by rfl)) (by rfl)) (@aE _ _ _ _ _ (@aV _ _ (13) _ _ _ _ dO.nd rfl (Or.inl rfl) (@bC _ _ _ _ _ _ _ _ _ _ G_l_cell_at (hr.mono (by decide)) (@aA _ _ _ _ _ (pv 0) (@aA _ _ _ _ _ aD aB (by rfl)) (by rfl)) (by rfl) (by decide) (by rfl) (by rfl)) (by rfl) (by trivial)) (@aE _ _ _ _ _ (@dG _ _ _ _ _ _ _ _ (@PW.pt _ _ _ (@mJ _ _ _ _ _ _ _ (@bK _ _ _ _ _ _ _ _ iX (@aK _ _ _ _ _ _ _ _ cB (@aK _ _ _ _ _ _ _ _ bN (pv 13) aD) aD) aD (@bI _ _ (by decide) (by decide))) (@kQ _ _ _ _ (@dA _ _ _ _ (@cR _ _ _ (@bC _ _ _ _ _ _ _ _ _ _ G_l_eight (hr.mono (by decide)) (@aA _ _ _ _ _ (pv 0) (@aA _ _ _ _ _ (pv 7) aB (by rfl)) (by rfl)) (by rfl) (by decide) (by rfl) (by rfl)) (by intro _;rfl)))))) (@aG _ _ _ (@aQ _ _ _ _ fC)) bP) (@aG _ _ _ (@aQ _ _ _ _ (@dD _ _ _ _ _ _ _ (@dC _ _ _ _ _ _ _ _ (@aFP _ hr.units) (@bC _ _ _ _ _ _ _ _ _ _ G_p_companies (hr.mono (by decide)) (@aA _ _ _ _ _ (pv 3) (@aA _ _ _ _ _ (pv 6) (@aA _ _ _ _ _ (pv 7) aB (by rfl)) (by rfl)) (by rfl)) (by rfl) (by decide) (by rfl) (by rfl)) (pv 8) (@bI _ _ (by decide) (by decide))) (@dY _ _ _ _ _ (@bC _ _ _ _ _ _ _ _ _ _ G_l_great (hr.mono (by decide)) (@aA _ _ _ _ _ (pv 0) (@aA _ _ _ _ _ (pv 13) aB (by rfl)) (by rfl)) (by rfl) (by decide) (by rfl) (by rfl)))))))))))))))))))),?_⟩
 refine aDB fun u0 hu0=>?_
 refine⟨_,rfl,_,rfl,scr,fun t lf ld vf vd fs ds H1 S1 ht hf1 hif1 hd1 hid1 gf gd=>?_⟩
 refine⟨t,_,rfl,SqT.of ht,rfl,_,_,rfl,_,_,rfl,rfl,?_⟩
 refine⟨_,rfl,_,rfl,?_⟩
 intro p dx np ndx nex
 have S3':aH H1 (upd (upd H1 dx (.own p)) p (.ins C dx [])):=fun b o e=>by
  rw[aI (aJ e np),aI (aJ e ndx)]
  exact e
 have f2:=gf.l2
 have d2:=gd.l2
 have smf:cO (.lst fs)=true:=gT (fun d m=>nE (gf.all d m)) (by omega)
 have smd:cO (.lst ds)=true:=gT (fun d m=>pK gf.all (gd.all d m)) (by omega)
 refine⟨_,_,_,rfl,p,dx,fs,ds,rfl,aC,⟨lf,vf,rfl,S3' _ _ hf1,IsL.same S3' _ _ hif1⟩,⟨ld,vd,rfl,S3' _ _ hd1,IsL.same S3' _ _ hid1⟩,smf,smd,sE gf (by decide),wT gd (by decide),fun H3 L3 fr=>⟨rfl,?_⟩⟩
 have Z3:aH H1 H3:=fun b o e=>fr b o (S3' _ _ e) (aJ e np)
 have T3:=S1.trans Z3
 have GG:=qQ (cK L3).1 (cK L3).2
 have hf3:=Z3 _ _ hf1
 have hd3:=Z3 _ _ hd1
 have hif3:=IsL.same Z3 _ _ hif1
 have hid3:=IsL.same Z3 _ _ hid1
 have lvf:=dS hif3
 refine⟨_,rfl,lf,rfl,⟨_,SqL.of hf3⟩,?_⟩
 refine bE (F:=K) (xs:=vf) (by omega) (fun i ys H'=>H3=H'∧ys=((fs.take i).map aP).map V.str) ⟨rfl,rfl⟩ ?_ ?_ ?_
 ·rintro i ys H' hi ⟨rfl,rfl⟩
  exact⟨SqL.of hf3,by rw[AA,AA,AH];omega⟩
 ·rintro i xv ys H' K1 K2 hx' ⟨rfl,rfl⟩ k1 k2
  have hil:i<vf.length:=(AB.mp hx').1
  obtain⟨d,ed⟩:∃ d,fs[i]?=some d:=⟨_,AC (by omega)⟩
  obtain⟨v,ev,iv⟩:=hif3.get ed
  rw[hx'] at ev
  cases ev
  obtain⟨z,g,u,rfl,hz,_⟩:=bH (gf.all d (AG ed))
  obtain⟨t,rfl,o⟩:=fY iv
  refine⟨_,rfl,t,_,0,.str z,rfl,rfl,SqT.of o,aO (j:=0) rfl,k1 _ _ ⟨rfl,?_⟩⟩
  rw[AT,ed,AF,AF]
  rfl
 rintro ys H4 ⟨rfl,rfl⟩
 rw[AE (by omega)]
 intro ln hln
 have S4:=aH.upd (o:=.lst ((fs.map aP).map V.str)) hln
 have r4:upd H3 ln (.lst ((fs.map aP).map V.str)) ln=some (.lst ((fs.map aP).map V.str)):=aC
 generalize upd H3 ln (.lst ((fs.map aP).map V.str))=H4 at S4 r4
 have L4:=L3.same S4
 have hf4:=S4 _ _ hf3
 have hd4:=S4 _ _ hd3
 have hif4:=IsL.same S4 _ _ hif3
 have hid4:=IsL.same S4 _ _ hid3
 have T4:=T3.trans S4
 have scr4:=scr.same T4
 obtain⟨_,ns4,ea4,hS4,hl4⟩:=scr4
 cases ea4
 refine gσ (σ':=[some (.ref a),some (.ref lf),some (.ref ld),some (.ref p),some (.ref ln),none,none,none,none,none,none,none,none,none]) rfl ?_
 have lf1:=gf.l1
 refine hu0 _ _ _ ?_
 refine aLD fun u1 hu1=>?_
 obtain⟨z0,ez0⟩:∃ z,(fs.map aP)[0]?=some z:=⟨_,AC (by rw[AA];omega)⟩
 have mz0:=AG ez0
 refine⟨_,rfl,_,_,rfl,a,_,30,rfl,rfl,hS4,hl4,by decide,_,_,rfl,_,_,rfl,rfl,by decide,by decide,fun m5=>?_⟩
 refine gσ (σ':=[some (.ref a),some (.ref lf),some (.ref ld),some (.ref p),some (.ref ln),some (.int m5),none,none,none,none,none,none,none,none]) rfl ?_
 suffices key:∀ (lw:Addr) (zs:List Str) (H':Hp),aH H4 H'→H' lw=some (.lst (zs.map V.str))→1≤zs.length→zs.Nodup→(∀ z∈zs,z∈fs.map aP)→u1 { nx:=fun _ H'=>Q V.non H',rt:=Q } [some (.ref a),some (.ref lf),some (.ref ld),some (.ref p),some (.ref ln),some (.int m5),some (.ref lw),none,none,none,none,none,none,none] H' by
  refine⟨_,rfl,_,rfl,_,_,rfl,ln,fs.map aP,m5,rfl,r4,by rw[AA];omega,gf.nd,rfl,fun lr ys H5 S5 nlr hlr ndy suby=>?_⟩
  refine⟨!(ys.map V.str).isEmpty,.inl ⟨_,SqL.of hlr,rfl⟩,?_⟩
  cases ys with
  | nil =>
   refine bO ⟨_,rfl,ln,_,0,.str z0,rfl,rfl,SqL.of (S5 _ _ r4),aO (j:=0) (by rw[AI,ez0];rfl),aM rfl,fun l6 m6=>?_⟩
   refine gσ (σ':=[some (.ref a),some (.ref lf),some (.ref ld),some (.ref p),some (.ref ln),some (.int m5),some (.ref l6),none,none,none,none,none,none,none]) rfl ?_
   exact key l6 [z0] _ (S5.trans (aH.upd m6)) aC (AS _) (List.pairwise_singleton _ _) fun z m=>by rw[AL.mp m];exact mz0
  | cons y ys =>
   refine cP ?_
   refine gσ (σ':=[some (.ref a),some (.ref lf),some (.ref ld),some (.ref p),some (.ref ln),some (.int m5),some (.ref lr),none,none,none,none,none,none,none]) rfl ?_
   exact key lr (y :: ys) _ S5 hlr (by rw[Af];omega) ndy suby
 intro lw zs H5 S5 hw5 lz ndz subz
 refine hu1 _ _ _ ?_
 have l5:zs.length≤5:=by
  have:=wH ndz subz
  rw[AA] at this
  omega
 have l8:zs.length≤8:=by omega
 refine⟨_,rfl,_,_,rfl,rfl,⟨by decide,by decide⟩,_,rfl,_,rfl,fun q1 lv v Hb S6 tw g0 g1=>?_⟩
 obtain⟨t2,rfl,et⟩:=tw
 refine⟨t2,_,1,.int lv,rfl,rfl,SqT.of et,aO (j:=1) rfl,?_⟩
 refine gσ (σ':=[some (.ref a),some (.ref lf),some (.ref ld),some (.ref p),some (.ref ln),some (.int m5),some (.ref lw),some (.int lv),none,none,none,none,none,none]) rfl ?_
 have hL:hgt lv=true:=by
  unfold hgt
  rw[decide_eq_true g0,decide_eq_true g1]
  rfl
 have T6:=S5.trans S6
 have hwb:=S6 _ _ hw5
 have hfb:=T6 _ _ hf4
 have hifb:=IsL.same T6 _ _ hif4
 have hdb:=T6 _ _ hd4
 have hidb:=IsL.same T6 _ _ hid4
 have Lb:=L4.same T6
 have gf12:=aGK gf (m:=12) (by decide)
 have gd10:=gd
 have Tb':=T4.trans T6
 refine⟨aM rfl,fun lt mt=>?_⟩
 have Sa:=aH.upd (o:=.lst []) mt
 have ra:upd Hb lt (.lst []) lt=some (.lst []):=aC
 generalize upd Hb lt (.lst [])=Ha at Sa ra
 refine gσ (σ':=[some (.ref a),some (.ref lf),some (.ref ld),some (.ref p),some (.ref ln),some (.int m5),some (.ref lw),some (.int lv),some (.ref lt),none,none,none,none,none]) rfl ?_
 refine⟨_,rfl,lw,_,rfl,.inl (SqL.of (Sa _ _ hwb)),_,_,rfl,rfl,_,rfl,by rw[AA];omega,by rw[AA];omega,?_⟩
 rw[show (((zs.map V.str).length:Nat):Int)+1=((zs.length+1:Nat):Int) by rw[AA];omega,Cu]
 refine fW (lo:=0) (n:=zs.length+1) (fun i σ H'=>∃ (v6 v7:Option V) (us:List V) (rs:List (List Str×Int)),σ=[some (.ref a),some (.ref lf),some (.ref ld),some (.ref p),some (.ref ln),some (.int m5),some (.ref lw),some (.int lv),some (.ref lt),v6,v7,none,none,none]∧aH Hb H'∧H' lt=some (.lst us)∧IsL (del lt H') (rs.map pM) us∧rs.length≤256*i∧rs.map (·.1)=(Aj i).flatMap (fun m=>eF m zs)∧∀ r∈rs,fZ (aU fs ds lv) r.1 r.2) ⟨_,_,[],[],rfl,Sa,ra,rfl,AS _,rfl,fun _ m=>nomatch m⟩ ?_ ?_
 ·rintro i σ H' hi ⟨v6,v7,us,rs,rfl,S',h1,h2,h3,h4,h5⟩
  refine gσ (σ':=[some (.ref a),some (.ref lf),some (.ref ld),some (.ref p),some (.ref ln),some (.int m5),some (.ref lw),some (.int lv),some (.ref lt),some (.int (0+(i:Int))),v7,none,none,none]) rfl ?_
  have pl:=kD i zs
  have q8:2 ^ zs.length≤2 ^ 8:=BM (by decide) l8
  refine⟨_,rfl,_,rfl,_,_,rfl,lw,zs,i,rfl,S' _ _ hwb,l8,congrArg V.int (By _),by omega,fun lo ul H7 S7 e1 e2 e3 e4=>?_⟩
  have nlo:lo≠lt:=fun z=>by rw[z,h1] at e2;cases e2
  have T7:=S'.trans S7
  have lul:=dS e3
  rw[AA] at lul
  refine⟨lo,rfl,⟨_,SqL.of e1⟩,gH (K:=K) (a:=lo) (xs:=ul) (fun j σ H''=>∃ (v7:Option V) (us:List V) (rs:List (List Str×Int)),σ=[some (.ref a),some (.ref lf),some (.ref ld),some (.ref p),some (.ref ln),some (.int m5),some (.ref lw),some (.int lv),some (.ref lt),some (.int (0+(i:Int))),v7,none,none,none]∧eC lt H7 H''∧H'' lt=some (.lst us)∧IsL (del lt H'') (rs.map pM) us∧rs.length≤256*i+j∧rs.map (·.1)=(Aj i).flatMap (fun m=>eF m zs)++(eF i zs).take j∧∀ r∈rs,fZ (aU fs ds lv) r.1 r.2) ⟨_,us,rs,rfl,(fun _ _ _ e=>e),S7 _ _ h1,IsL.same (aEH S7) _ _ h2,h3,by rw[Dy,BO];exact h4,h5⟩ ?_ ?_ ?_⟩
  ·rintro j σ H'' hj ⟨v7,us,rs,rfl,k',f1,f2,f3,f4,f5⟩
   exact SqL.of (k' _ _ nlo e1)
  ·rintro j xv σ H'' hx ⟨v7,us,rs,rfl,k',f1,f2,f3,f4,f5⟩
   have hjl:=(AB.mp hx).1
   obtain⟨co,ec⟩:∃ co,(eF i zs)[j]?=some co:=⟨_,AC (by omega)⟩
   obtain⟨v,ev,iv⟩:=e3.get (show ((eF i zs).map kP)[j]?=some (kP co) by rw[AI,ec];rfl)
   rw[hx] at ev
   cases ev
   obtain⟨li,rfl,oi⟩:=pP iv
   have nli:li≠lt:=fun z=>by
    obtain⟨a,ea,na⟩:=e4 _ (AG hx)
    cases ea
    rw[z,h1] at na
    cases na
   have SB:aH Hb H'':=fun b o e=>k' _ _ (aJ e mt) (T7 _ _ e)
   have oi':=k' _ _ nli oi
   refine gσ (σ':=[some (.ref a),some (.ref lf),some (.ref ld),some (.ref p),some (.ref ln),some (.int m5),some (.ref lw),some (.int lv),some (.ref lt),some (.int (0+(i:Int))),some (.ref li),none,none,none]) rfl ?_
   refine⟨_,rfl,.inl ⟨rfl,_,SqL.of f1⟩,_,rfl,_,rfl,_,rfl,_,rfl,_,rfl,_,_,_,_,lf,ld,li,vf,vd,fs,ds,co,lv,rfl,rfl,SB _ _ hfb,IsL.same SB _ _ hifb,rfl,SB _ _ hdb,IsL.same SB _ _ hidb,rfl,oi',rfl,gf12,gd10,(fun z m=>subz z ((mL _ _ _ (AG ec)).subset m)),fun cst H8 S8 lst=>?_⟩
   refine⟨aM rfl,fun tt mtt=>?_⟩
   have S9:=aH.upd (o:=.tup [.ref li,.int cst]) mtt
   have r9:upd H8 tt (.tup [.ref li,.int cst]) tt=some (.tup [.ref li,.int cst]):=aC
   have ntt:tt≠lt:=fun z=>by have:=S8 _ _ f1;rw[z,this] at mtt;cases mtt
   generalize upd H8 tt (.tup [.ref li,.int cst])=H9 at S9 r9
   have T9:=S8.trans S9
   have lus:=f2.length
   rw[AA] at lus
   refine⟨lt,us,.ref tt,rfl,rfl,T9 _ _ f1,by omega,?_⟩
   refine⟨_,us++[.ref tt],rs++[(co,cst)],rfl,(fun b o n e=>by rw[aI n];exact T9 _ _ (k' b o n e)),aC,?_,by rw[AW];show _+1≤_;omega,by rw[AF,f4,AT,ec,Bg];rfl,fun r m=>?_⟩
   ·rw[AF]
    exact IsL.same aTJ _ _ (IsL.snoc (show Is _ (pM (co,cst)) (.ref tt) from⟨tt,_,rfl,sH ntt r9,_,_,rfl,⟨li,_,rfl,sH nli (T9 _ _ oi'),IsL.strs _ _⟩,_,_,rfl,rfl,rfl⟩) (IsL.same (aEH T9) _ _ f2))
   ·rcases Ab.mp m with m | m
    ·exact f5 r m
    ·rw[AL.mp m]
     exact lst
  ·rintro σ H'' ⟨v7,us,rs,rfl,k',f1,f2,f3,f4,f5⟩
   rw[AE (by omega)] at f4
   refine⟨_,_,us,rs,rfl,(fun b o e=>k' _ _ (aJ e mt) (T7 _ _ e)),f1,f2,by omega,?_,f5⟩
   rw[f4,Ch,EH]
   show _=_++(_++[])
   rw[BO]
 ·rintro σ H7 ⟨v6,v7,us,rs,rfl,S7,h1,h2,h3,h4,h5⟩
  have tab:lT Tb H:=⟨#[],eT,trivial,.inl rfl⟩
  have T7:=Tb'.trans S7
  have tab7:lT Tb H7:=tab.keep T7
  have L7:=Lb.same S7
  have hw7:=S7 _ _ hwb
  have nTb:∀ b ys,H7 b=some (.lst ys)→b≠Tb:=fun b ys e z=>by obtain⟨qs,eT,_⟩:=tab7;rw[z,eT] at e;cases e
  have nlt:=nTb _ _ h1
  refine⟨_,rfl,_,rfl,_,rfl,_,_,_,rfl,p,lw,fs,ds,zs,lv,rfl,L7,rfl,hw7,lz,l8,ndz,subz,rfl,hL,tab7,fun D us' rs' H8 K8 tab8 hD ir told nD fre=>?_⟩
  have er:=qY lz l8 told h4 h5
  subst er
  have i7:=IsL.same (wX _ _) _ _ h2
  have lus':=ir.length
  rw[AA] at lus'
  refine gσ (σ':=[some (.ref a),some (.ref lf),some (.ref ld),some (.ref p),some (.ref ln),some (.int m5),some (.ref lw),some (.int lv),some (.ref lt),v6,v7,some (.ref D),none,none]) rfl ?_
  refine⟨_,rfl,_,_,_,_,_,rfl,rfl,.lst hD,gG _ _,_,rfl,bO ?_⟩
  refine⟨_,rfl,_,rfl,wD (d:=.lst (rs.map pM)) ⟨D,_,rfl,hD,ir⟩ ⟨lt,_,rfl,K8 _ _ nlt h1,IsL.sameD (aEB K8 tab7) _ _ i7⟩ (lF _) ⟨_,rfl,bO ?_⟩⟩
  refine⟨_,rfl,D,rfl,⟨_,SqL.of hD⟩,gH (K:=K) (a:=D) (xs:=us') (fun i σ H'=>∃ v12:Option V,σ=[some (.ref a),some (.ref lf),some (.ref ld),some (.ref p),some (.ref ln),some (.int m5),some (.ref lw),some (.int lv),some (.ref lt),v6,v7,some (.ref D),v12,none]∧eC Tb H7 H'∧lT Tb H'∧H' D=some (.lst us')∧Fre (8+i) D H7 H' us') ⟨_,rfl,K8,tab8,hD,fre⟩ ?_ ?_ ?_⟩
  ·rintro i σ H' hi ⟨v12,rfl,k',tb',d',fr'⟩
   exact SqL.of d'
  ·rintro i xv σ H' hx ⟨v12,rfl,k',tb',d',fr'⟩
   have hil:=(AB.mp hx).1
   obtain⟨t,lc,c,ys,rfl,a1,a2,a3,a4,a5,a6⟩:=fr' xv (AG hx)
   refine gσ (σ':=[some (.ref a),some (.ref lf),some (.ref ld),some (.ref p),some (.ref ln),some (.int m5),some (.ref lw),some (.int lv),some (.ref lt),v6,v7,some (.ref D),some (.ref t),none]) rfl ?_
   refine⟨_,rfl,_,_,_,_,_,rfl,rfl,.tup a1,gG _ _,_,rfl,bO ?_⟩
   refine⟨_,rfl,t,_,0,.ref lc,rfl,rfl,SqT.of a1,aO (j:=0) rfl,_,_,_,_,_,rfl,rfl,.lst a2,gG _ _,_,rfl,bO ?_⟩
   refine⟨_,rfl,t,_,1,.int c,rfl,rfl,SqT.of a1,aO (j:=1) rfl,_,_,_,_,false,rfl,rfl,.int c,rfl,_,rfl,bO ?_⟩
   refine⟨_,rfl,t,_,0,.ref lc,rfl,rfl,SqT.of a1,aO (j:=0) rfl,.inl ⟨rfl,_,SqL.of a2⟩,lc,ys,.str "sea",rfl,rfl,a2,by omega,?_⟩
   refine⟨_,rfl,(fun b o n e=>by rw[aI (aJ e a4)];exact k' b o n e),uP tb' a2,by rw[aI (Ne.symm a6)];exact d',fun v mv=>?_⟩
   obtain⟨t2,l2,c2,y2,rfl,b1,b2,b3,b4,b5,b6⟩:=fr' v mv
   have nt:t2≠lc:=fun z=>by rw[z,a2] at b1;cases b1
   by_cases e:l2=lc
   ·subst e
    refine⟨t2,l2,c2,ys++[.str "sea"],rfl,by rw[aI nt];exact b1,aC,by rw[AW];show _+1≤_;omega,b4,b5,b6⟩
   ·exact⟨t2,l2,c2,y2,rfl,by rw[aI nt];exact b1,by rw[aI e];exact b2,by omega,b4,b5,b6⟩
  ·rintro σ H9 ⟨v12,rfl,k9,tab9,d9,fr9⟩
   refine⟨_,rfl,.inl ⟨rfl,_,SqL.of d9⟩,D,us',rfl,rfl,d9,?_⟩
   have K10:eC Tb H7 (upd H9 D (.lst [])):=fun b o n e=>by rw[aI (aJ e nD)];exact k9 b o n e
   have tab10:lT Tb (upd H9 D (.lst [])):=uP tab9 d9
   generalize upd H9 D (.lst [])=H10 at K10 tab10
   clear k9 tab9 d9 fr9 fre hD ir K8 tab8
   have sq10:SqL K H10 a (ns.map V.int):=aAG K10 tab7 (T7.seq hS)
   refine⟨_,rfl,_,_,rfl,a,_,31,rfl,rfl,sq10,hl,by decide,?_⟩
   generalize ns.getD (Int.toNat 31) 0=cell
   refine gσ (σ':=[some (.ref a),some (.ref lf),some (.ref ld),some (.ref p),some (.ref ln),some (.int m5),some (.ref lw),some (.int lv),some (.ref lt),v6,v7,some (.ref D),v12,some (.int cell)]) rfl ?_
   suffices last:∀ H',eC Tb H7 H'→lT Tb H'→aTZ (aQO (tOp (aOS false) (yA (jF C Tb) [] E0 (oG (qZ 3) (oG (qZ 6) (oG (qZ 7) aCP)))) (qZ 8)) (yA (aAO K) [] E0 (oG (qZ 0) (oG (qZ 13) aCP)))) { nx:=fun _ H'=>Q V.non H',rt:=Q } [some (.ref a),some (.ref lf),some (.ref ld),some (.ref p),some (.ref ln),some (.int m5),some (.ref lw),some (.int lv),some (.ref lt),v6,v7,some (.ref D),v12,some (.int cell)] H' by
    refine⟨_,rfl,_,_,rfl,rfl,⟨by decide,by decide⟩,_,_,rfl,rfl,(gB rfl),rfl,_,rfl,?_⟩
    refine iZ (fun _=>?_) (fun _=>?_)
    ·exact⟨_,rfl,_,rfl,_,_,rfl,lv,⟨a,ns,rfl,sq10,hl⟩,rfl,hL,tab10,fun H11 K11 tab11=>⟨_,rfl,bO (last H11 (fun b o n e=>K11 b o n (K10 b o n e)) tab11)⟩⟩
    ·exact bO (last H10 K10 tab10)
   intro H' K' tab'
   refine⟨_,rfl,_,rfl,_,rfl,_,_,_,rfl,p,lw,fs,ds,zs,lv,rfl,rT K' tab7 L7,rfl,K' _ _ (nTb _ _ hw7) hw7,lz,l8,ndz,subz,rfl,hL,tab',fun D2 us2 rs2 H12 K12 tab12 hD2 ir2 told2 _ _=>?_⟩
   have er2:=qY lz l8 told2 h4 h5
   subst er2
   refine⟨_,rfl,.lst (rs.map pM),.lst (rs.map pM),⟨D2,_,rfl,hD2,ir2⟩,⟨lt,_,rfl,K12 _ _ nlt (K' _ _ nlt h1),IsL.sameD (aEB K12 tab') _ _ (IsL.sameD (aEB K' tab7) _ _ i7)⟩,lF _,lF _,?_⟩
   rw[if_neg AR,kK 30 _ (lF _)]
   refine⟨_,rfl,cP ?_⟩
   exact⟨_,rfl,_,rfl,_,_,rfl,cell,⟨a,ns,rfl,aAG K12 tab' (aAG K' tab7 (T7.seq hS)),hl⟩,rfl,fun H13 S13=>q H13⟩
theorem law_mk{fa c Tb:Addr}(hmg:mg "law"=some (.ref fa))(T:Txt K mg C) :
  ∃ fd:Bb,(∀ (s:Shared) (u:Value),BindsTo s fd ⟨[u],[]⟩ [("_law_script",u)])∧∀ base:Heap,K.In base→base.Ns Bv mg→TabB K mg base "lists_of_places" c Tb→FnOk P w K mg base CX0 12 fa fd ["_law_script"] (aAL K Tb):=by
 obtain⟨f,fd,F,b,m⟩:=T.d_p_law.ex
 rw[hmg] at m
 cases m
 refine⟨fd,fun s u=>?_,fun base _ _ B=>aSJ T B F⟩
 obtain⟨oc,od,kV,doc,pm,an,cdv,ct,osl,rfl,lk,hcd⟩:=F.ex
 exact .of_eq rfl
end
end K63
namespace PySem.W.Fast
def tw2637282385961898517:=0
def tw11839147118103605104:=0
def tw11572333003782603822:=0
def tw13009128409978881846:=0
def tw10327220040449060373:=0
def tw12922670571114697526:=0
def tw14267380276880073721:=0
def tw5016608525800292808:=0
def tw929555761341512473:=0
def tw4707702672636752338:=0
def tw15238068612171926197:=0
def tw15899605929665154379:=0
def tw5014453115934756065:=0
def tw13503190533925897923:=0
def tw2325759990174301247:=0
def tw2832690398196816413:=0
def tw16321833635093870771:=0
def tw12403179147190997837:=0
def tw11043516058626731521:=0
def tw8408823378150771557:=0
def tw13088662794367845970:=0
def tw5166258926173830496:=0
def tw16138939120667305841:=0
def tw15576822715661025196:=0
def tw14264223222814379777:=0
def tw14385828227085744827:=0
def tw5948971003814700416:=0
def tw12977957463094906565:=0
def tw8619153433826293964:=0
def tw14130291254000469563:=0
def tw8577734952217265290:=0
def tw10366935181389087915:=0
def tw7388468145100136722:=0
def tw8490952141622575242:=0
def tw4476079414043086753:=0
def tw18276889464726430174:=0
def tw9552426472442889314:=0
def tw4540129911816474791:=0
def tw4939830235940068701:=0
def tw9478763854176096252:=0
def tw10570809605583537729:=0
def tw4430479813299573213:=0
def tw8996885849953888686:=0
def tw5055259164304914466:=0
def tw7089755615491410317:=0
def tw1087332949077340449:=0
def tw1525149614917156249:=0
def tw5228516054721201760:=0
def tw15409978181879586749:=0
def tw13025160589237297101:=0
def tw1542416865328579493:=0
def tw16863546008129016430:=0
def tw14740874501030214677:=0
def tw9114193346353817714:=0
def tw16563405209282808841:=0
def tw16957728458662514845:=0
def tw942729659655391198:=0
def tw17779750549471000212:=0
def tw9999422004796069939:=0
def tw1707576590656209155:=0
def tw8811061635183549125:=0
def tw3839480239846625560:=0
def tw6345782213959288115:=0
def tw13372933753842867684:=0
def tw1031187149115496407:=0
def tw12529538634898301645:=0
def tw6472355144305484144:=0
def tw3544425724799109430:=0
def tw7015135211781975370:=0
def tw8470734560861650404:=0
def tw1148104273072754420:=0
def tw3006519216290405246:=0
def tw9709897590524656514:=0
def tw5435816034067487687:=0
def tw7020173239845050189:=0
def tw14641920000551808225:=0
def tw4581782009350418437:=0
def tw12859949556801454379:=0
def tw4473433973522766670:=0
def tw4374415998752395812:=0
def tw14493365971760837846:=0
def tw6399789482867100144:=0
def tw5065901054023904739:=0
def tw11651979712079763808:=0
def tw5819879044399718564:=0
def tw10831862826138557588:=0
def tw10409732637423405048:=0
def tw4321657240476072400:=0
def tw11786471868471160452:=0
def tw15172081355028089907:=0
def tw3772799706861590299:=0
def tw13477373466888501919:=0
def tw12117758159110036241:=0
def tw18337172198517101718:=0
def tw10348966416547609870:=0
def tw3668354220700889760:=0
def tw290891393216634777:=0
def tw16974283293465190545:=0
def tw7650468784644946164:=0
def tw5002276732566691495:=0
def tw5491363861753640665:=0
def tw7967807470048634718:=0
def tw3457132799157711154:=0
def tw3248324127488314445:=0
def tw8079760049062291684:=0
def tw2741431651266501934:=0
def tw13214800447703282875:=0
def tw10382879105500355513:=0
def tw15669154127206305231:=0
def tw14602905612858734947:=0
def tw1030725131769241938:=0
def tw4389609539478736989:=0
def tw12309848975022582528:=0
def tw10081300323965271945:=0
def tw5134550353401694254:=0
def tw95791573548082280:=0
def tw14142818126795744426:=0
def tw10946186939435069998:=0
def tw9816029465402874955:=0
def tw15459332937544762382:=0
def tw17344676625958415151:=0
def tw6191086503131426741:=0
def tw7263670350344052352:=0
def tw4199220135075869223:=0
def tw8057762230332753496:=0
def tw7670474067363249518:=0
def tw17697357824767975614:=0
def tw15102040356037244685:=0
def tw9625420608453166725:=0
def tw2494977416108346996:=0
def tw2308789861073357530:=0
def tw13034801147237083909:=0
def tw1078804166037477893:=0
def tw16613653284545515653:=0
def tw18317054198891872364:=0
def tw13175781143790355631:=0
def tw16967794016453973920:=0
def tw12288754230613661832:=0
def tw398413417772147133:=0
def tw2902565511420571132:=0
def tw14229544713800610631:=0
def tw10135820736741510964:=0
def tw1010637156457487781:=0
def tw11426868798230562112:=0
def tw10362347650352594521:=0
def tw9706197363013630308:=0
def tw11007000551858379409:=0
def tw11847170692654215371:=0
def tw15698988766683504831:=0
def tw3565434285331013544:=0
def tw7917546058490346794:=0
def tw11394830814916494722:=0
def tw1877884933926299186:=0
def tw15985716889462215891:=0
def tw11736515595773569130:=0
def tw1712184114867502270:=0
def tw4360209457432788765:=0
def tw8311587233738748356:=0
def tw7317061582641281250:=0
def tw9739273454822085572:=0
def tw7857804734234266099:=0
def tw2718210040167875232:=0
def tw11389957352204242732:=0
def tw8366207768723688448:=0
def tw14682617721054166756:=0
def tw10096128415371808869:=0
def tw13011295890756433673:=0
def tw15746154642313197763:=0
def tw11056143960906742:=0
def tw13737005022101431985:=0
def tw13107468706159888343:=0
def tw16236480660894394340:=0
def tw7855486833032993261:=0
def tw8076063800762434373:=0
def tw17277971227921545444:=0
def tw17825395144146421256:=0
def tw8100863443267975551:=0
def tw16997250344029367197:=0
def tw9112930914919323371:=0
def tw9113583424391045083:=0
def tw16697608810663155948:=0
def tw13009128033794877314:=0
def tw18238414850997251299:=0
def tw9619083193577555214:=0
def tw5708856285118142637:=0
def tw9641543494359806485:=0
def tw6603049773628983108:=0
def tw12368857503537661308:=0
def tw18325855162058209662:=0
def tw2249615087421189590:=0
def tw7957997181874663290:=0
def tw13961720040991286639:=0
def tw12348010401036553043:=0
def tw7043793403518850385:=0
def tw3143496731895901557:=0
def tw9189794136121593879:=0
def tw9760164198550679188:=0
def tw17597226871547870813:=0
def tw17112247785196837722:=0
def tw14990453670232893051:=0
def tw14361232727449677098:=0
def tw212541956788115444:=0
def tw15737256599655465996:=0
def tw16855658346235518562:=0
def tw2886941494390428742:=0
def tw10560338362589065397:=0
def tw6908829641433635073:=0
def tw4957584178286149250:=0
def tw6058833577108606837:=0
def tw17365966516732218356:=0
def tw13819040546678039901:=0
def tw18081945361780836773:=0
def tw12059908668757786758:=0
def tw6267918512013736356:=0
def tw18217453743192995346:=0
def tw14684910840015050327:=0
def tw7155863864648906768:=0
def tw11320061036814948333:=0
def tw11373880904180818535:=0
def tw10121688403668399705:=0
def tw17935449471420869260:=0
def tw17122435430875817658:=0
def tw6312539654220056810:=0
def tw18205027220977006520:=0
def tw17353879789816690279:=0
def tw6817821847696212334:=0
def tw10495762572320206467:=0
def tw12642894518688628307:=0
def tw14837944397587959165:=0
def tw14893303292590412007:=0
def tw3412117464926196073:=0
def tw14618122160806097234:=0
def tw14706333225778764803:=0
def tw3234103160710421269:=0
def tw16119923956743722598:=0
def tw9020694826141823621:=0
def tw4285757046498248326:=0
def tw2058166597769801162:=0
def tw10461233815027483846:=0
def tw4439303971299897822:=0
def tw4015205348296976746:=0
def tw4029378059761779995:=0
def tw6064601411453691897:=0
def tw9623213040667700167:=0
def tw10960824555424285431:=0
def tw16595700235625110687:=0
def tw16039963906290472024:=0
def tw5592646395136923011:=0
def tw4526469444248077279:=0
def tw12882850393717917317:=0
def tw10910674900631599269:=0
def tw14310702881302720042:=0
def tw4799557802040624321:=0
def tw10132232732400341788:=0
def tw5917249214627590819:=0
def tw14216971656445558919:=0
def tw10268895743069319283:=0
def tw5167814709697925000:=0
def tw14922952640802642477:=0
def tw15379336149005297339:=0
def tw13324641917210043439:=0
def tw10257049034683599370:=0
def tw4618223347838329627:=0
def tw3204059822298271097:=0
def tw12908920647781484454:=0
def tw5661486085348162910:=0
def tw8927871999230204282:=0
def tw3503437613361962028:=0
def tw14882203914314428758:=0
def tw3023582403899746673:=0
def tw7963807110383578902:=0
def tw6890672403168200627:=0
def tw764709383234610848:=0
def tw6179863155241318390:=0
def tw18431241194115872218:=0
end PySem.W.Fast
open PySem PySem.W PyProof.Rows
set_option maxRecDepth 100000 in
set_option maxHeartbeats 0 in
theorem PySem.Challenge.cw_dykemoot_k63_all_companies_holds : PySem.Challenge.rw_dykemoot_k63_all_companies.Holds := by
  w_on;o_law;k_head;(case hw=>w_witness2)
  k_fill
  refine L2.walk_lawT (l:=PySem.Challenge.rw_dykemoot_k63_all_companies) 12 "lists_of_places" 378 376 ⟨rfl,by decide,by decide⟩ rfl rfl (fun w h Y=>PySem.W.km_in_of Y) (fun w h Y=>PySem.W.km_tabs_of Y 376 (by k_mem)) (fun w=>by kernel_rfl) (fun w=>by kernel_rfl) (fun w=>by kernel_rfl) ?F
  case F =>
    intro w mg fa h KX G hmg
    refine' K63.law_mk hmg ⟨⟨?B0,?C0,?D0,?E0⟩,
   PySem.W.mg_of KX G ?A0,
   (show PySem.W.findIn _ (.ref _) "field_rows" = some none from ?H0),
   (show PySem.W.findIn _ (.ref _) "dyke_rows" = some none from ?I0),
   ⟨?J0,?K0,?L0,?M0⟩,
   L2.init_mk ?N0 ?O0 ?P0 ?Q0 ?R0 ?F0 ?G0 (fun _ _ _ _ _ _ us hl=>match us,hl with|[_,_,_],_=>rfl),
   L2.meth_mk ?S0 ?T0 ?U0 ?V0 ?W0 (fun _ _ _ _ _ _ us hl=>match us,hl with|[_],_=>rfl),
   L2.meth_mk ?X0 ?Y0 ?Z0 ?A1 ?B1 (fun _ _ _ _ _ _ us hl=>match us,hl with|[_],_=>rfl),
   L2.meth_mk ?C1 ?D1 ?E1 ?F1 ?G1 (fun _ _ _ _ _ _ us hl=>match us,hl with|[_],_=>rfl),
   L2.meth_mk ?H1 ?I1 ?J1 ?K1 ?L1 (fun _ _ _ _ _ _ us hl=>match us,hl with|[_],_=>rfl),
   L2.meth_mk ?M1 ?N1 ?O1 ?P1 ?Q1 (fun _ _ _ _ _ _ us hl=>match us,hl with|[_],_=>rfl),
   L2.meth_mk ?R1 ?S1 ?T1 ?U1 ?V1 (fun _ _ _ _ _ _ us hl=>match us,hl with|[_,_],_=>rfl),
   L2.meth_mk ?W1 ?X1 ?Y1 ?Z1 ?A2 (fun _ _ _ _ _ _ us hl=>match us,hl with|[_,_],_=>rfl),
   L2.meth_mk ?B2 ?C2 ?D2 ?E2 ?F2 (fun _ _ _ _ _ _ us hl=>match us,hl with|[_,_],_=>rfl),
   L2.meth_mk ?G2 ?H2 ?I2 ?J2 ?K2 (fun _ _ _ _ _ _ us hl=>match us,hl with|[_,_],_=>rfl),
   ⟨_,_,31,⟨⟨⟨?O2⟩,?P2⟩,?Q2,?R2,?S2,⟨?T2,?U2,?V2,?W2⟩⟩,⟨⟨⟨?X2⟩,?Y2⟩,?Z2,?A3,?B3,⟨?C3,?D3,?E3,?F3⟩⟩,PySem.W.mg_of KX G ?L2,PySem.W.mg_of KX G ?M2,PySem.W.mg_of KX G ?N2,?G3,?H3,?I3,?J3,?K3,?L3,?M3,?N3,?O3,?P3⟩,
   L2.def_mk KX G ?Q3 ?R3 ?S3 ?T3 (fun _ _ _ _ _ _ us hl=>match us,hl with|[_],_=>rfl),
   L2.def_mk KX G ?U3 ?V3 ?W3 ?X3 (fun _ _ _ _ _ _ us hl=>match us,hl with|[_],_=>rfl),
   L2.def_mk KX G ?Y3 ?Z3 ?A4 ?B4 (fun _ _ _ _ _ _ us hl=>match us,hl with|[_],_=>rfl),
   L2.def_mk KX G ?C4 ?D4 ?E4 ?F4 (fun _ _ _ _ _ _ us hl=>match us,hl with|[_],_=>rfl),
   L2.def_mk KX G ?G4 ?H4 ?I4 ?J4 (fun _ _ _ _ _ _ us hl=>match us,hl with|[_],_=>rfl),
   L2.def_mk KX G ?K4 ?L4 ?M4 ?N4 (fun _ _ _ _ _ _ us hl=>match us,hl with|[_,_],_=>rfl),
   L2.def_mk KX G ?O4 ?P4 ?Q4 ?R4 (fun _ _ _ _ _ _ us hl=>match us,hl with|[_,_],_=>rfl),
   L2.def_mk KX G ?S4 ?T4 ?U4 ?V4 (fun _ _ _ _ _ _ us hl=>match us,hl with|[_,_],_=>rfl),
   L2.def_mk KX G ?W4 ?X4 ?Y4 ?Z4 (fun _ _ _ _ _ _ us hl=>match us,hl with|[_],_=>rfl),
   L2.def_mk KX G ?A5 ?B5 ?C5 ?D5 (fun _ _ _ _ _ _ us hl=>match us,hl with|[_],_=>rfl),
   L2.def_mk KX G ?E5 ?F5 ?G5 ?H5 (fun _ _ _ _ _ _ us hl=>match us,hl with|[_],_=>rfl),
   L2.def_mk KX G ?I5 ?J5 ?K5 ?L5 (fun _ _ _ _ _ _ us hl=>match us,hl with|[_,_,_],_=>rfl),
   L2.def_mk KX G ?M5 ?N5 ?O5 ?P5 (fun _ _ _ _ _ _ us hl=>match us,hl with|[_,_],_=>rfl),
   L2.def_mk KX G ?Q5 ?R5 ?S5 ?T5 (fun _ _ _ _ _ _ us hl=>match us,hl with|[_,_],_=>rfl),
   L2.def_mk KX G ?U5 ?V5 ?W5 ?X5 (fun _ _ _ _ _ _ us hl=>match us,hl with|[_,_],_=>rfl),
   L2.def_mk KX G ?Y5 ?Z5 ?A6 ?B6 (fun _ _ _ _ _ _ us hl=>match us,hl with|[_,_],_=>rfl),
   L2.def_mk KX G ?C6 ?D6 ?E6 ?F6 (fun _ _ _ _ _ _ us hl=>match us,hl with|[_,_],_=>rfl),
   L2.def_mk KX G ?G6 ?H6 ?I6 ?J6 (fun _ _ _ _ _ _ us hl=>match us,hl with|[_,_],_=>rfl),
   L2.def_mk KX G ?K6 ?L6 ?M6 ?N6 (fun _ _ _ _ _ _ us hl=>match us,hl with|[_,_],_=>rfl),
   L2.def_mk KX G ?O6 ?P6 ?Q6 ?R6 (fun _ _ _ _ _ _ us hl=>match us,hl with|[_,_],_=>rfl),
   L2.def_mk KX G ?S6 ?T6 ?U6 ?V6 (fun _ _ _ _ _ _ us hl=>match us,hl with|[_,_,_],_=>rfl),
   L2.def_mk KX G ?W6 ?X6 ?Y6 ?Z6 (fun _ _ _ _ _ _ us hl=>match us,hl with|[_,_],_=>rfl),
   L2.def_mk KX G ?A7 ?B7 ?C7 ?D7 (fun _ _ _ _ _ _ us hl=>match us,hl with|[_,_],_=>rfl),
   L2.def_mk KX G ?E7 ?F7 ?G7 ?H7 (fun _ _ _ _ _ _ us hl=>match us,hl with|[_,_,_],_=>rfl),
   L2.def_mk KX G ?I7 ?J7 ?K7 ?L7 (fun _ _ _ _ _ _ us hl=>match us,hl with|[_,_,_],_=>rfl),
   L2.def_mk KX G ?M7 ?N7 ?O7 ?P7 (fun _ _ _ _ _ _ us hl=>match us,hl with|[_,_],_=>rfl),
   L2.def_mk KX G ?Q7 ?R7 ?S7 ?T7 (fun _ _ _ _ _ _ us hl=>match us,hl with|[_,_],_=>rfl),
   L2.def_mk KX G ?U7 ?V7 ?W7 ?X7 (fun _ _ _ _ _ _ us hl=>match us,hl with|[_,_,_],_=>rfl),
   L2.def_mk KX G ?Y7 ?Z7 ?A8 ?B8 (fun _ _ _ _ _ _ us hl=>match us,hl with|[_,_,_],_=>rfl),
   L2.def_mk KX G ?C8 ?D8 ?E8 ?F8 (fun _ _ _ _ _ _ us hl=>match us,hl with|[_,_,_,_],_=>rfl),
   L2.def_mk KX G ?G8 ?H8 ?I8 ?J8 (fun _ _ _ _ _ _ us hl=>match us,hl with|[_,_,_],_=>rfl),
   L2.def_mk KX G ?K8 ?L8 ?M8 ?N8 (fun _ _ _ _ _ _ us hl=>match us,hl with|[_,_,_,_],_=>rfl),
   L2.def_mk KX G ?O8 ?P8 ?Q8 ?R8 (fun _ _ _ _ _ _ us hl=>match us,hl with|[_,_,_],_=>rfl),
   L2.def_mk KX G ?S8 ?T8 ?U8 ?V8 (fun _ _ _ _ _ _ us hl=>match us,hl with|[_],_=>rfl),
   L2.def_mk KX G ?W8 ?X8 ?Y8 ?Z8 (fun _ _ _ _ _ _ us hl=>match us,hl with|[_,_,_],_=>rfl),
   L2.def_mk KX G ?A9 ?B9 ?C9 ?D9 (fun _ _ _ _ _ _ us hl=>match us,hl with|[_],_=>rfl),
   L2.def_mk KX G ?E9 ?F9 ?G9 ?H9 (fun _ _ _ _ _ _ us hl=>match us,hl with|[_,_,_],_=>rfl),
   L2.def_mk KX G ?I9 ?J9 ?K9 ?L9 (fun _ _ _ _ _ _ us hl=>match us,hl with|[_,_],_=>rfl),
   L2.def_mk KX G ?M9 ?N9 ?O9 ?P9 (fun _ _ _ _ _ _ us hl=>match us,hl with|[_,_],_=>rfl),
   L2.def_mk KX G ?Q9 ?R9 ?S9 ?T9 (fun _ _ _ _ _ _ us hl=>match us,hl with|[_,_],_=>rfl),
   L2.def_mk KX G ?U9 ?V9 ?W9 ?X9 (fun _ _ _ _ _ _ us hl=>match us,hl with|[_],_=>rfl),
   L2.def_mk KX G ?Y9 ?Z9 ?A10 ?B10 (fun _ _ _ _ _ _ us hl=>match us,hl with|[_],_=>rfl),
   L2.def_mk KX G ?C10 ?D10 ?E10 ?F10 (fun _ _ _ _ _ _ us hl=>match us,hl with|[_,_],_=>rfl),
   L2.def_mk KX G ?G10 ?H10 ?I10 ?J10 (fun _ _ _ _ _ _ us hl=>match us,hl with|[_,_,_],_=>rfl),
   L2.def_mk KX G ?K10 ?L10 ?M10 ?N10 (fun _ _ _ _ _ _ us hl=>match us,hl with|[_],_=>rfl),
   L2.def_mk KX G ?O10 ?P10 ?Q10 ?R10 (fun _ _ _ _ _ _ us hl=>match us,hl with|[_,_,_,_],_=>rfl),
   L2.def_mk KX G ?S10 ?T10 ?U10 ?V10 (fun _ _ _ _ _ _ us hl=>match us,hl with|[_,_],_=>rfl),
   L2.def_mk KX G ?W10 ?X10 ?Y10 ?Z10 (fun _ _ _ _ _ _ us hl=>match us,hl with|[_,_],_=>rfl),
   L2.def_mk KX G ?A11 ?B11 ?C11 ?D11 (fun _ _ _ _ _ _ us hl=>match us,hl with|[_,_,_],_=>rfl),
   L2.def_mk KX G ?E11 ?F11 ?G11 ?H11 (fun _ _ _ _ _ _ us hl=>match us,hl with|[_,_],_=>rfl),
   L2.def_mk KX G ?I11 ?J11 ?K11 ?L11 (fun _ _ _ _ _ _ us hl=>match us,hl with|[_,_],_=>rfl),
   L2.def_mk KX G ?M11 ?N11 ?O11 ?P11 (fun _ _ _ _ _ _ us hl=>match us,hl with|[_],_=>rfl),
   L2.glob_mk KX G ?Q11 ?R11,
   L2.glob_mk KX G ?S11 ?T11,
   L2.glob_mk KX G ?U11 ?V11,
   L2.glob_mk KX G ?W11 ?X11,
   L2.glob_mk KX G ?Y11 ?Z11,
   L2.glob_mk KX G ?A12 ?B12,
   L2.glob_mk KX G ?C12 ?D12,
   L2.glob_mk KX G ?E12 ?F12,
   PySem.W.mg_none_of KX G ?G12,
   PySem.W.mg_none_of KX G ?H12,
   PySem.W.mg_none_of KX G ?I12,
   PySem.W.mg_none_of KX G ?J12,
   PySem.W.mg_none_of KX G ?K12,
   PySem.W.mg_none_of KX G ?L12,
   PySem.W.mg_none_of KX G ?M12,
   PySem.W.mg_none_of KX G ?N12,
   PySem.W.mg_none_of KX G ?O12,
   PySem.W.mg_none_of KX G ?P12,
   PySem.W.mg_none_of KX G ?Q12,
   PySem.W.mg_none_of KX G ?R12,
   PySem.W.mg_none_of KX G ?S12,
   PySem.W.mg_none_of KX G ?T12,
   PySem.W.mg_none_of KX G ?U12,
   PySem.W.mg_none_of KX G ?V12,
   PySem.W.mg_none_of KX G ?W12⟩
    case A0=>k_is
    case B0=>k_is
    case C0=>k_is
    case D0=>k_is
    case E0=>k_is
    case F0=>k_is
    case G0=>k_is
    case H0=>k_is
    case I0=>k_is
    case J0=>k_is
    case K0=>k_is
    case L0=>k_is
    case M0=>k_is
    case N0=>k_is
    case O0=>k_is
    case P0=>k_is
    case Q0=>k_is
    case R0=>k_is
    case S0=>k_is
    case T0=>k_is
    case U0=>k_is
    case V0=>k_is
    case W0=>k_is
    case X0=>k_is
    case Y0=>k_is
    case Z0=>k_is
    case A1=>k_is
    case B1=>k_is
    case C1=>k_is
    case D1=>k_is
    case E1=>k_is
    case F1=>k_is
    case G1=>k_is
    case H1=>k_is
    case I1=>k_is
    case J1=>k_is
    case K1=>k_is
    case L1=>k_is
    case M1=>k_is
    case N1=>k_is
    case O1=>k_is
    case P1=>k_is
    case Q1=>k_is
    case R1=>k_is
    case S1=>k_is
    case T1=>k_is
    case U1=>k_is
    case V1=>k_is
    case W1=>k_is
    case X1=>k_is
    case Y1=>k_is
    case Z1=>k_is
    case A2=>k_is
    case B2=>k_is
    case C2=>k_is
    case D2=>k_is
    case E2=>k_is
    case F2=>k_is
    case G2=>k_is
    case H2=>k_is
    case I2=>k_is
    case J2=>k_is
    case K2=>k_is
    case L2=>k_is
    case M2=>k_is
    case N2=>k_is
    case O2=>k_exc
    case P2=>kts_exm
    case Q2=>k_is
    case R2=>k_is
    case S2=>k_is
    case T2=>k_is
    case U2=>k_is
    case V2=>k_is
    case W2=>k_is
    case X2=>k_exc
    case Y2=>kts_exm
    case Z2=>k_is
    case A3=>k_is
    case B3=>k_is
    case C3=>k_is
    case D3=>k_is
    case E3=>k_is
    case F3=>k_is
    case G3=>kit_is
    case H3=>kit_is
    case I3=>kit_is
    case J3=>kit_is
    case K3=>kit_is
    case L3=>kit_is
    case M3=>kit_is
    case N3=>kit_is
    case O3=>kts_exm
    case P3=>kts_exm
    case Q3=>k_is
    case R3=>k_is
    case S3=>k_is
    case T3=>k_is
    case U3=>k_is
    case V3=>k_is
    case W3=>k_is
    case X3=>k_is
    case Y3=>k_is
    case Z3=>k_is
    case A4=>k_is
    case B4=>k_is
    case C4=>k_is
    case D4=>k_is
    case E4=>k_is
    case F4=>k_is
    case G4=>k_is
    case H4=>k_is
    case I4=>k_is
    case J4=>k_is
    case K4=>k_is
    case L4=>k_is
    case M4=>k_is
    case N4=>k_is
    case O4=>k_is
    case P4=>k_is
    case Q4=>k_is
    case R4=>k_is
    case S4=>k_is
    case T4=>k_is
    case U4=>k_is
    case V4=>k_is
    case W4=>k_is
    case X4=>k_is
    case Y4=>k_is
    case Z4=>k_is
    case A5=>k_is
    case B5=>k_is
    case C5=>k_is
    case D5=>k_is
    case E5=>k_is
    case F5=>k_is
    case G5=>k_is
    case H5=>k_is
    case I5=>k_is
    case J5=>k_is
    case K5=>k_is
    case L5=>k_is
    case M5=>k_is
    case N5=>k_is
    case O5=>k_is
    case P5=>k_is
    case Q5=>k_is
    case R5=>k_is
    case S5=>k_is
    case T5=>k_is
    case U5=>k_is
    case V5=>k_is
    case W5=>k_is
    case X5=>k_is
    case Y5=>k_is
    case Z5=>k_is
    case A6=>k_is
    case B6=>k_is
    case C6=>k_is
    case D6=>k_is
    case E6=>k_is
    case F6=>k_is
    case G6=>k_is
    case H6=>k_is
    case I6=>k_is
    case J6=>k_is
    case K6=>k_is
    case L6=>k_is
    case M6=>k_is
    case N6=>k_is
    case O6=>k_is
    case P6=>k_is
    case Q6=>k_is
    case R6=>k_is
    case S6=>k_is
    case T6=>k_is
    case U6=>k_is
    case V6=>k_is
    case W6=>k_is
    case X6=>k_is
    case Y6=>k_is
    case Z6=>k_is
    case A7=>k_is
    case B7=>k_is
    case C7=>k_is
    case D7=>k_is
    case E7=>k_is
    case F7=>k_is
    case G7=>k_is
    case H7=>k_is
    case I7=>k_is
    case J7=>k_is
    case K7=>k_is
    case L7=>k_is
    case M7=>k_is
    case N7=>k_is
    case O7=>k_is
    case P7=>k_is
    case Q7=>k_is
    case R7=>k_is
    case S7=>k_is
    case T7=>k_is
    case U7=>k_is
    case V7=>k_is
    case W7=>k_is
    case X7=>k_is
    case Y7=>k_is
    case Z7=>k_is
    case A8=>k_is
    case B8=>k_is
    case C8=>k_is
    case D8=>k_is
    case E8=>k_is
    case F8=>k_is
    case G8=>k_is
    case H8=>k_is
    case I8=>k_is
    case J8=>k_is
    case K8=>k_is
    case L8=>k_is
    case M8=>k_is
    case N8=>k_is
    case O8=>k_is
    case P8=>k_is
    case Q8=>k_is
    case R8=>k_is
    case S8=>k_is
    case T8=>k_is
    case U8=>k_is
    case V8=>k_is
    case W8=>k_is
    case X8=>k_is
    case Y8=>k_is
    case Z8=>k_is
    case A9=>k_is
    case B9=>k_is
    case C9=>k_is
    case D9=>k_is
    case E9=>k_is
    case F9=>k_is
    case G9=>k_is
    case H9=>k_is
    case I9=>k_is
    case J9=>k_is
    case K9=>k_is
    case L9=>k_is
    case M9=>k_is
    case N9=>k_is
    case O9=>k_is
    case P9=>k_is
    case Q9=>k_is
    case R9=>k_is
    case S9=>k_is
    case T9=>k_is
    case U9=>k_is
    case V9=>k_is
    case W9=>k_is
    case X9=>k_is
    case Y9=>k_is
    case Z9=>k_is
    case A10=>k_is
    case B10=>k_is
    case C10=>k_is
    case D10=>k_is
    case E10=>k_is
    case F10=>k_is
    case G10=>k_is
    case H10=>k_is
    case I10=>k_is
    case J10=>k_is
    case K10=>k_is
    case L10=>k_is
    case M10=>k_is
    case N10=>k_is
    case O10=>k_is
    case P10=>k_is
    case Q10=>k_is
    case R10=>k_is
    case S10=>k_is
    case T10=>k_is
    case U10=>k_is
    case V10=>k_is
    case W10=>k_is
    case X10=>k_is
    case Y10=>k_is
    case Z10=>k_is
    case A11=>k_is
    case B11=>k_is
    case C11=>k_is
    case D11=>k_is
    case E11=>k_is
    case F11=>k_is
    case G11=>k_is
    case H11=>k_is
    case I11=>k_is
    case J11=>k_is
    case K11=>k_is
    case L11=>k_is
    case M11=>k_is
    case N11=>k_is
    case O11=>k_is
    case P11=>k_is
    case Q11=>k_is
    case R11=>exact ⟨_,rfl⟩
    case S11=>k_is
    case T11=>exact ⟨_,rfl⟩
    case U11=>k_is
    case V11=>exact ⟨_,rfl⟩
    case W11=>k_is
    case X11=>exact ⟨_,rfl⟩
    case Y11=>k_is
    case Z11=>exact ⟨_,rfl⟩
    case A12=>k_is
    case B12=>exact ⟨_,rfl⟩
    case C12=>k_is
    case D12=>exact ⟨_,rfl⟩
    case E12=>k_is
    case F12=>exact ⟨_,rfl⟩
    case G12=>k_is
    case H12=>k_is
    case I12=>k_is
    case J12=>k_is
    case K12=>k_is
    case L12=>k_is
    case M12=>k_is
    case N12=>k_is
    case O12=>k_is
    case P12=>k_is
    case Q12=>k_is
    case R12=>k_is
    case S12=>k_is
    case T12=>k_is
    case U12=>k_is
    case V12=>k_is
    case W12=>k_is
