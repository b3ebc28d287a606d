import PyProof.Rows.All
import Wide.All
import OpenK.AllK
import Wide.FinOn
import Lean
import PyProof.EqAt
import PyProof.EqKinds
import PyProof.TupleCall
import PyProof.StrBlockI
import PyProof.SliceList
import PyProof.StrLawsIn
import PyProof.StrLaws
import PySem.Challenge.RW_dykemoot_k74_no_shares
open List renaming length_map→AA,getElem?_eq_getElem→AB,getElem?_eq_some_iff→AC,take_of_length_le→AG,getElem?_map→AH,mem_of_getElem?→AI,mem_cons_of_mem→AJ,size_toArray→AK,mem_map→AM,mem_cons_self→AO,length_take→AR,mem_singleton→AS,map_append→AT,map_cons→AU,length_append→AX,getD_eq_getElem?_getD→AY,take_add_one→Aa,mem_cons→Ac,length_cons→Af,range→Ag,mem_append_right→Ah,map_map→Ai,nodup_cons→Aj,mem_filter→Aq,mem_append→Ar,Nodup→Aw,mem_iff_getElem?→BB,replicate→BC,lookup_cons→BH,length_filter_le→BI,getElem?_append_left→BK,all_eq_true→BW,getElem?_append_right→Be,append_nil→Bf,not_mem_nil→Bg,length_drop→Bh,map_congr_left→Bk,append_assoc→Bl,mem_range→Bm,getElem?_take_of_lt→Bn,find?_cons→Bp,length_singleton→Bw,filter_append→Bz,mem_append_left→CC,length_range→CG,lookup→CK,nodup_iff_pairwise_ne→CM,mem_of_mem_take→CQ,length→CS,getElem_map→Ca,map_nil→Cg,drop_eq_nil_of_le→Ch,getElem_mem→Cu,replicate_succ→Cw,all_cons→Cy,range'→DB,filter_cons_of_pos→DC,filter_cons_of_neg→DD,toArray→DG,take_sublist→DH,flatten_cons→DI,length_replicate→DS,filter_cons→DU,getElem?_set_ne→DW,nil_append→DY,forIn_cons→DZ,length_reverse→Dd,all_map→Dh,length_range'→Dn,getElem?_drop→Do,pairwise_iff_getElem→Dq,drop_eq_getElem_cons→Dr,nodup_append→Dt,flatMap_cons→Du,any_cons→Dx,getElem_inj→EE,any_eq_true→EF,getElem?_set_self→EJ,range_succ→EO,of_mem_zip→EQ,length_nil→ER,foldl_cons→ES,singleton_append→EU,mem_of_mem_drop→Ea,drop_zero→Eb,filterMap_cons→Ej,map_take→Er,mem_filterMap→Et,map_id→FP,all_append→FR
open PySem renaming wpAny_bind→AD,wpAny_pure→AN,starEach→Ak,sizeLine→Am,NameKind→Ay,wpAny_mono→Az,bootBuiltins→BM,compareOp→BU,FuncData→Ba,wpAny_loadPart'→Bi,wpAny_truthy_bool→Bo,wpAny_holding→Br,PassesOwn→Bu,codeAny_builtin→By,wpAny_Call_Name_kw→CD,mainGlobals→CH,tupleKind→CP,sizeLine_eq→CZ,plainId_quiet→Cb,wpAny_typeNameOfWhole_keyiter→Ck,keywordEach→Cl,codeAny_mono→Co,wpAny_passesOwn→Cp,wpAny_execs_nil→Cq,wpAny_pyIter_list→Ct,mem_of_lookup→Cv,wpAny_typeNameOf_keyiter→DE,binaryOp→DF,tupleKind_room_in1→DM,sysModules→DN,wpAny_getItem_str_slice→DP,wpAny_attempt→Df,attributeBase→Dg,sliceBounds→Di,backToKw→Dj,GenState→Dm,Arguments→Dy,wpAny_call→Dz,wpAny_newObj_type→EI,behindInMarks→EL,wpAny_execs_cons→EW,wpAny_typeOf→Ed,assignEach→Ee,post_val_or_str→Eg,letOwnedTupleGo→Eh,wpAny_notOrdered_dict→Ek,codeAny_call_builtin→Ev,bindArgs→Ew,Within→Ex,swapsWith→Ez,getMethod→FB,DictEntry→FC,wpAny_rule→FL,closureFor→FM,call_meets→FN,wpAny_dictEntries→FS,foldedSetIterable→FT,wpAny_call_entry→FV,subscripted→FY,wpAny_updateSeq→FZ,wpAny_specialOf→Fa,wpAny_dictEpoch→Fb,wpAny_seqItems→Fd,callType_codes→Fe
open PySem.W renaming Frag→AE,kitOne→BD,kas_item→BL,findIn→BQ,kia_one→Bd,keepIn→Bs,emptyDict→Bt,fnOf→Bx,instObj→CO,codeIn→DA,plainGet→DO,Looks→DQ,exmOne→Db,callWith_K→Dc,isFn→EB,cellsFrom_some→ED,lookIn→EM,plainGet_of→EX,hideAll_get→EY,specialIn→En,methodObj→Eo,hasDictIn→Ep,takerIn→FE,makesIn→FF
open PySem.Heap renaming get?_push_of_some→AF,lt_size→AW,get?_push_size→AZ,get?_update_other→BZ,size_push→DJ,SameBut→DK,get?_update_self→DT,FlyingW→EK,size_update→FK
open Nat renaming le_refl→AL,ne_of_lt→Ad,lt_of_lt_of_le→Ae,le_trans→Av,zero_le→BN,pow_le_pow_right→CT,lt_irrefl→CY,le_succ→Cr,min_eq_left→Cz,lt_succ_self→DV,ne_of_gt→Dk,lt_trans→Dl,lt_succ_of_lt→Dw,le_of_eq→EN,lt_of_le_of_lt→Ey,sub_self→FG,le_of_lt→FH,le_add_right→FO,add_le_add→FW
open Bool renaming false_ne_true→AQ,and_eq_true→AV,and_eq_true_iff→An,true_and→BT,eq_iff_iff→Bb,false_and→DL,and_false→Ec,false_eq_true→Eu
open Option renaming map_eq_some_iff→Ab,some→BE,isSome_map→Es
open PySem.Value renaming ref→Al,none→Bj,type→Ce,int→EA,bool→Em
open Option.some renaming inj→Ao
open Int renaming eq_ofNat_of_zero_le→Ap,emod_nonneg→At,emod_lt_of_pos→Au,toNat_natCast→CU,mul_le_mul_of_nonneg_right→Cd,zero_add→ET,natCast_mul→EV,le_refl→Ef,le_of_lt→FI,mul_nonneg→FX
open PySem.NameKind renaming free→Ax,cell→CI
open False renaming elim→BF
open PySem.PassesOwn renaming never→BG
open PySem.Obj renaming mapSeq→BJ
open Std.Legacy.Range renaming forIn_eq_forIn_range'→BO,size→CF
open PySem.F renaming plainAttrs_list→BP,type_list_append→BR,slot_list_append→BS,called_set→Bv,slot_dict_keyiterator_next→CJ,slot_list_getattribute→EH
open PySem.SeqAt renaming EqAt→BV
open ForInStep renaming yield→BX,done→EG
open Std.Legacy renaming Range→BY
open Array renaming length_toList→Bc,getElem?_toList→CN,size_push→FQ,size_map→FU
open PySem.Around renaming under_plainId→Bq
open PyProof.Rows renaming callWith_type1→CA,get?_update_seq→Ei,listUpdate_at→FJ
open PySem.Paired renaming nil→CL,cons→Cc,length→Ci,snoc→Dp
open True renaming intro→Cf
open PyProof.Rows.F renaming plain_set_update_loop→Cj
open PySem.Txt renaming slice→Cn,slice_le→FD
open PySem.Builtin.Dict renaming updateFrom→Cs
open Sum.inr renaming inj→DR
open List.Nodup renaming sublist→DX
open PySem.Builtin.List renaming listTooLong→Da
open Classical renaming byContradiction→De
open PySem.W.Looks renaming ld→EZ
open PySem.Walks renaming list→El
set_option Elab.async false
set_option linter.all false
set_option maxRecDepth 100000
noncomputable section
namespace L2
open PySem PySem.Spec PyProof.Rows
abbrev Key:=Sum Int Str
noncomputable def wP:Key→Value→Bool
 | .inl k,v=>Value.isInt k v
 | .inr x,v=>Value.isStrOf x v
noncomputable def aZG(w:World):Key→Int
 | .inl k=>hashInt k
 | .inr x=>hashStr w x
theorem cQ:∀ {k:Key} {v:Value},wP k v=true→(∃ i t,k=Sum.inl i∧v=EA i t)∨(∃ x t,k=Sum.inr x∧v=Value.str x t)
 | .inl i,v,h=>by
  obtain⟨t,e⟩:=Value.isInt_shape (k:=i) (v:=v) h
  exact .inl ⟨i,t,rfl,e⟩
 | .inr x,v,h=>by
  obtain⟨t,e⟩:=Value.isStrOf_shape (x:=x) (v:=v) h
  exact .inr ⟨x,t,rfl,e⟩
theorem rX(i:Int)(t:Tok):wP (.inl i) (.int i t)=true:=by simp[wP,Value.isInt]
theorem rW(x:Str)(t:Tok):wP (.inr x) (.str x t)=true:=by simp[wP,Value.isStrOf]
theorem aVJ(a b:Int):decide ((Sum.inl a:Key)=Sum.inl b)=(a == b):=by
 by_cases e:a=b
 ·subst e;simp
 ·have h:¬ (Sum.inl a:Key)=Sum.inl b:=fun q=>e (Sum.inl.inj q)
  rw[decide_eq_false h]
  exact (beq_eq_false_iff_ne.mpr e).symm
theorem aVF(a b:Str):decide ((Sum.inr a:Key)=Sum.inr b)=decide (a=b):=by
 by_cases e:a=b
 ·subst e;simp
 ·have h:¬ (Sum.inr a:Key)=Sum.inr b:=fun q=>e (DR q)
  rw[decide_eq_false h,decide_eq_false e]
theorem aVI(a:Int)(b:Str):decide ((Sum.inl a:Key)=Sum.inr b)=false:=decide_eq_false (fun q=>nomatch q)
theorem aVG(a:Str)(b:Int):decide ((Sum.inr a:Key)=Sum.inl b)=false:=decide_eq_false (fun q=>nomatch q)
noncomputable def aU(prog:Program)(w:World):PySem.KeyKind prog w Key where
 is:=wP
 hash:=aZG w
 inj:=fun v a b ha hb=>by
  rcases cQ ha with ⟨i,t,rfl,rfl⟩ | ⟨x,t,rfl,rfl⟩
  ·rcases cQ hb with ⟨j,u,rfl,e⟩ | ⟨y,u,rfl,e⟩
   ·injection e with e1 _;rw[e1]
   ·exact nomatch e
  ·rcases cQ hb with ⟨j,u,rfl,e⟩ | ⟨y,u,rfl,e⟩
   ·exact nomatch e
   ·injection e with e1 _;rw[e1]
 byValue:=fun k v h=>by
  rcases cQ h with ⟨i,t,rfl,rfl⟩ | ⟨x,t,rfl,rfl⟩ <;> rfl
 pyHash:=fun hv h=>by
  rcases cQ hv with ⟨i,t,rfl,rfl⟩ | ⟨x,t,rfl,rfl⟩
  ·exact wpAny_pyHash_int h
  ·exact wpAny_pyHash_str h
 eqBool:=fun hu hv h=>by
  rcases cQ hu with ⟨i,t,rfl,rfl⟩ | ⟨x,t,rfl,rfl⟩
  ·rcases cQ hv with ⟨j,u,rfl,rfl⟩ | ⟨y,u,rfl,rfl⟩
   ·rw[aVJ] at h;exact wpAny_eqBool_int h
   ·rw[aVI] at h;exact BV.int_str i t y u _ _ _ _ h
  ·rcases cQ hv with ⟨j,u,rfl,rfl⟩ | ⟨y,u,rfl,rfl⟩
   ·rw[aVG] at h;exact BV.str_int x t j u _ _ _ _ h
   ·rw[aVF] at h;exact wpAny_eqBool_str h
 «strs»:=fun k x t v h=>by
  rcases cQ h with ⟨i,u,rfl,e⟩ | ⟨y,u,rfl,e⟩
  ·exact nomatch e
  ·injection e with e1 _
   subst e1
   cases v <;> rfl
theorem aEF(prog:Program)(w:World)(i:Int)(t:Tok):(aU prog w).is (.inl i) (.int i t)=true:=rX i t
theorem aEE(prog:Program)(w:World)(x:Str)(t:Tok):(aU prog w).is (.inr x) (.str x t)=true:=rW x t
end L2
namespace L2
open PySem PySem.Spec PyProof.Rows
inductive V where
 | non | bl (b:Bool) | int (i:Int) | str (x:Str) | byt (b:Array UInt8) | flt (b:UInt64) | ref (a:Addr) | ty (n:String)
 deriving DecidableEq
def bI:V→Value→Prop
 | .non,u=>u=Bj
 | .bl b,u=>u=Em b
 | .int i,u=>∃ t,u=EA i t
 | .str x,u=>∃ t,u=Value.str x t
 | .byt b,u=>∃ t,u=Value.bytes b t
 | .flt b,u=>∃ t,u=Value.float b t
 | .ref a,u=>u=Al a
 | .ty n,u=>u=Ce n
abbrev bD:List V→List Value→Prop:=Paired bI
theorem bD.length{xs:List V}{us:List Value}(r:bD xs us):xs.length=us.length:=Ci r
theorem bD.get:∀ {xs:List V} {us:List Value} {i:Nat} {x:V},bD xs us→xs[i]?=some x→∃ u,us[i]?=some u∧bI x u
 | _,_,_,_,.nil,e=>by simp at e
 | _,_,0,_,.cons r _,e=>by simp at e;subst e;exact⟨_,rfl,r⟩
 | _,_,i+1,x,.cons _ t,e=>by
  obtain⟨u,h1,h2⟩:=bD.get (i:=i) (x:=x) t (by simpa using e)
  exact⟨u,by simpa using h1,h2⟩
theorem bD.append:∀ {xs ys:List V} {us ws:List Value},bD xs us→bD ys ws→bD (xs++ys) (us++ws)
 | _,_,_,_,.nil,s=>s
 | _,_,_,_,.cons r t,s=>.cons r (bD.append t s)
theorem bD.take:∀ {xs:List V} {us:List Value} (n:Nat),bD xs us→bD (xs.take n) (us.take n)
 | _,_,0,_=>.nil
 | _,_,_+1,.nil=>.nil
 | _,_,n+1,.cons r t=>.cons r (bD.take n t)
theorem bD.drop:∀ {xs:List V} {us:List Value} (n:Nat),bD xs us→bD (xs.drop n) (us.drop n)
 | _,_,0,r=>r
 | _,_,_+1,.nil=>.nil
 | _,_,n+1,.cons _ t=>bD.drop n t
def oB:Option V→Option Value→Prop
 | some v,some u=>bI v u
 | none,none=>True
 | _,_=>False
def KV{κ:Type}:List (κ×V)→List (κ×Value)→Prop:=Paired fun (p:κ×V) (q:κ×Value)=>p.1=q.1∧bI p.2 q.2
noncomputable def kV:Key→V
 | .inl i=>.int i
 | .inr x=>.str x
inductive HO where
 /-- a list -/
 | lst (xs:List V)
 /-- a tuple (never changes) -/
 | tup (xs:List V)
 /-- a dict whose keys are ints and texts;one whose keys are tuples of ints and texts (the empty one is both) -/
 | dK (kvs:List (Key×V)) | dT (kvs:List (List Key×V))
 /-- a set of ints: its members,its size -/
 | set (S:Int→Bool) (n:Nat)
 /-- an instance of the class at C,its dict at dx,its attributes -/
 | ins (C dx:Addr) (fs:List (Str×V))
 /-- the dict of the instance at x -/
 | own (x:Addr)
 /-- the dict of an exception -/
 | xd (fs:List (Str×V))
 /-- a bound method,f of x -/
 | met (f x:Addr)
 /-- a range object lo,lo+1,.. below hi -/
 | rng (lo hi:Int)
 /-- a thing that is known to the object (the script;a dict while a loop walks it): read,never written while it is so -/
 | frz (o:Obj) (u:HO)
 /-- a code object's table -/
 | tbl (ps:Array Value)
 /-- any other thing,by what is true of its one object (a def of one's own: aLA a S n:=HO.ext fun h=>..) -/
 | ext (φ:Heap→Prop)
abbrev Hp:=Addr→Option HO
noncomputable def upd(H:Hp)(a:Addr)(o:HO):Hp:=fun b=>if b=a then some o else H b
theorem aC{H:Hp}{a:Addr}{o:HO}:upd H a o a=some o:=by unfold upd;rw[if_pos rfl]
theorem aI{H:Hp}{a b:Addr}{o:HO}(h:b≠a):upd H a o b=H b:=by unfold upd;rw[if_neg h]
theorem zB{H:Hp}{a b:Addr}{o u:HO}(h:H a=some o)(h':H b=some u)(d:o≠u):a≠b:=by
 intro e;subst e;rw[h] at h';exact d (Ao h')
theorem aN{H:Hp}{a b:Addr}{o:HO}(h:H a=some o)(h':H b=none):a≠b:=by
 intro e;subst e;rw[h] at h';cases h'
def sQ(h:Heap)(a:Addr)(its:Array Value):Prop:=∃ o,h.get? a=some o∧o.cls=.type "tuple"∧∃ n,o.data=.seq its n∧o.dict=none
theorem sQ.tup{h:Heap}{a:Addr}{its:Array Value}(x:sQ h a its):IsTup h a its:=by
 obtain⟨o,e,c,n,d,_⟩:=x
 exact⟨o,e,c,n,d⟩
theorem sQ.new(h:Heap)(its:Array Value):sQ (h.push { cls:=.type "tuple",data:=.seq its }) h.objs.size its:=⟨_,AZ _ rfl,rfl,_,rfl,rfl⟩
section
variable(P:Program)(w:World)
def bS(H:Hp)(h:Heap)(a:Addr):HO→Prop
 | .lst xs=>xs.length≤Am∧∃ (its:List Value) (n:Nat),bD xs its∧h.get? a=some { cls:=.type "list",data:=.seq its.toArray n }
 | .tup xs=>xs.length≤Am∧∃ its:List Value,bD xs its∧sQ h a its.toArray
 | .dK kvs=>kvs.length≤Am∧(a == DN)=false∧∃ vs,KV kvs vs∧h.DictOf (aU P w) a vs
 | .dT kvs=>kvs.length≤Am∧(a == DN)=false∧∃ xs:List (List Key×Addr×Value),
   Paired (fun (p:List Key×V) (q:List Key×Addr×Value)=>p.1=q.1∧H q.2.1=some (.tup (p.1.map kV))∧bI p.2 q.2.2) kvs xs ∧
   ∃ o es ep,h.get? a=some o∧o.ExactDict∧o.data=.dict es ep∧es.toList=xs.map (entryOfKey (CP (aU P w)))∧(xs.map (·.1)).Nodup
 | .set S n=>h.SetOf (intKind P w) a S n
 | .ins C dx fs=>H dx=some (.own a)∧fs.length≤1000∧dx≠a∧h.get? a=some (CO C dx) ∧
   ∃ mA,h.Ns1 dx mA∧(∀ f,oB (fs.lookup f) (mA f))∧Ex mA (fs.map (·.1))
 | .own _=>∃ o,h.get? a=some o
 | .xd fs=>∃ mA,h.Ns1 a mA∧∀ f,oB (fs.lookup f) (mA f)
 | .rng lo hi=>∃ t u v,h.get? a=some { cls:=.type "range",data:=.fields #[.int lo t,.int hi u,.int 1 v] }
 | .frz o u=>h.get? a=some o∧bS H h a u
 | .tbl ps=>h.get? a=some { cls:=.none,data:=.fields ps }
 | .met f x=>h.get? a=some (Eo (.ref f) (.ref x))
 | .ext φ=>φ h∧(∃ o,h.get? a=some o)∧∀ h1 h2:Heap,φ h1→(∀ o,h1.get? a=some o→h2.get? a=some o)→φ h2
def HOk(H:Hp)(h:Heap):Prop:=∀ a o,H a=some o→bS P w H h a o
end
section
variable{P:Program}{w:World}{H H':Hp}{h h':Heap}{a:Addr}{o:HO}
theorem bS.lt(x:bS P w H h a o):a<h.objs.size:=by
 cases o with
 | lst xs=>obtain⟨_,_,_,_,e⟩:=x;exact AW e
 | tup xs=>obtain⟨_,_,_,_,e,_⟩:=x;exact AW e
 | dK kvs=>obtain⟨_,_,_,_,o,_,_,e,_⟩:=x;exact AW e
 | dT kvs=>obtain⟨_,_,_,_,o,_,_,e,_⟩:=x;exact AW e
 | set S n=>obtain⟨o,_,_,_,e,_⟩:=x;exact AW e
 | ins C dx fs=>obtain⟨_,_,_,e,_⟩:=x;exact AW e
 | own y=>obtain⟨_,e⟩:=x;exact AW e
 | xd fs=>obtain⟨_,⟨_,_,_,e,_⟩,_⟩:=x;exact AW e
 | rng lo hi=>obtain⟨_,_,_,e⟩:=x;exact AW e
 | frz ob u=>obtain⟨e,_⟩:=x;exact AW e
 | tbl ps=>exact AW (show h.get? a=some _ from x)
 | met f y=>exact AW (show h.get? a=some _ from x)
 | ext φ=>obtain⟨_,⟨_,e⟩,_⟩:=x;exact AW e
theorem Paired.mapP{α β:Type}{F G:α→β→Prop}:∀ {l₁:List α} {l₂:List β},Paired F l₁ l₂→(∀ a b,F a b→G a b)→Paired G l₁ l₂
 | _,_,.nil,_=>.nil
 | _,_,.cons r t,f=>.cons (f _ _ r) (Paired.mapP t f)
theorem bS.stay(x:bS P w H h a o)(k:∀ b u,(b=a∨H b=some (.own a))→h.get? b=some u→h'.get? b=some u)
 (ho:∀ b,H b=some (.own a)→H' b=some (.own a))(ht:∀ b xs,H b=some (.tup xs)→H' b=some (.tup xs)):bS P w H' h' a o:=by
 induction o with
 | lst xs=>obtain⟨z,its,n,r,e⟩:=x;exact⟨z,its,n,r,k _ _ (.inl rfl) e⟩
 | tup xs=>obtain⟨z,its,r,ob,e,c⟩:=x;exact⟨z,its,r,ob,k _ _ (.inl rfl) e,c⟩
 | dK kvs=>obtain⟨z,y,vs,r,ob,es,ep,e,c⟩:=x;exact⟨z,y,vs,r,ob,es,ep,k _ _ (.inl rfl) e,c⟩
 | dT kvs =>
  obtain⟨z,y,xs,r,ob,es,ep,e,c⟩:=x
  exact⟨z,y,xs,Paired.mapP r fun p q z=>⟨z.1,ht _ _ z.2.1,z.2.2⟩,ob,es,ep,k _ _ (.inl rfl) e,c⟩
 | set S n=>obtain⟨ob,es,ep,t,e,c⟩:=x;exact⟨ob,es,ep,t,k _ _ (.inl rfl) e,c⟩
 | ins C dx fs =>
  obtain⟨d,z,ne,e,mA,⟨od,es,ep,e2,c⟩,r⟩:=x
  exact⟨ho _ d,z,ne,k _ _ (.inl rfl) e,mA,⟨od,es,ep,k _ _ (.inr d) e2,c⟩,r⟩
 | own y=>obtain⟨ob,e⟩:=x;exact⟨ob,k _ _ (.inl rfl) e⟩
 | xd fs=>obtain⟨mA,⟨od,es,ep,e,c⟩,r⟩:=x;exact⟨mA,⟨od,es,ep,k _ _ (.inl rfl) e,c⟩,r⟩
 | rng lo hi=>obtain⟨t,u,v,e⟩:=x;exact⟨t,u,v,k _ _ (.inl rfl) e⟩
 | frz ob u ih=>obtain⟨e,q⟩:=x;exact⟨k _ _ (.inl rfl) e,ih q⟩
 | tbl ps =>
  have e:h.get? a=some { cls:=.none,data:=.fields ps }:=x
  show h'.get? a=some { cls:=.none,data:=.fields ps }
  exact k a _ (.inl rfl) e
 | met f y =>
  have e:h.get? a=some (Eo (.ref f) (.ref y)):=x
  show h'.get? a=some (Eo (.ref f) (.ref y))
  exact k a _ (.inl rfl) e
 | ext φ=>obtain⟨p,⟨o,e⟩,st⟩:=x;exact⟨st _ _ p fun o q=>k _ _ (.inl rfl) q,⟨o,k _ _ (.inl rfl) e⟩,st⟩
theorem HOk.lt(x:HOk P w H h)(e:H a=some o):a<h.objs.size:=(x a o e).lt
theorem HOk.fresh(x:HOk P w H h)(e:h.objs.size≤a):H a=none:=by
 cases q:H a with
 | none=>rfl
 | some u=>exact absurd (Ae (x.lt q) e) (CY _)
theorem HOk.kept(x:HOk P w H h)(k:∀ b u,h.get? b=some u→h'.get? b=some u):HOk P w H h':=fun a o e =>
 (x a o e).stay (fun b u _ q=>k b u q) (fun _ q=>q) fun _ _ q=>q
theorem HOk.laid(x:HOk P w H h)(k:∀ b u,h.get? b=some u→h'.get? b=some u)(hp:h.objs.size≤a)(new:bS P w (upd H a o) h' a o):HOk P w (upd H a o) h':=fun b u e=>by
 have hn:=x.fresh hp
 by_cases hb:b=a
 ·subst hb;rw[aC] at e;cases e;exact new
 ·rw[aI hb] at e
  exact (x b u e).stay (fun c v _ q=>k c v q) (fun c q=>by rw[aI (aN q hn)];exact q) fun c xs q=>by rw[aI (aN q hn)];exact q
end
def Rd(H:Hp)(a:Addr)(u:HO):Prop:=H a=some u∨∃ o,H a=some (.frz o u)
theorem Rd.ok{P:Program}{w:World}{H:Hp}{h:Heap}{a:Addr}{u:HO}(r:Rd H a u)(x:HOk P w H h):bS P w H h a u:=by
 rcases r with r | ⟨o,r⟩
 ·exact x a u r
 ·obtain⟨_,q⟩:=x a _ r
  exact q
def Mut:Option HO→Prop
 | some (.lst _)=>True
 | some (.dK _)=>True
 | some (.dT _)=>True
 | some (.set _ _)=>True
 | some (.ins _ _ _)=>True
 | some (.ext _)=>True
 | _=>False
section
variable{P:Program}{w:World}{H:Hp}{h h':Heap}{x e:Addr}{o':HO}
theorem HOk.write(ok:HOk P w H h)(mu:Mut (H x))(he:e=x∨H e=some (.own x))(k:∀ b u,b≠e→h.get? b=some u→h'.get? b=some u)(heo:∃ u,h'.get? e=some u)
 (new:bS P w (upd H x o') h' x o'):HOk P w (upd H x o') h':=fun b u q=>by
 have nown:∀ c y,H c=some (.own y)→c≠x:=fun c y r z=>by subst z;rw[r] at mu;exact mu
 have ntup:∀ c xs,H c=some (.tup xs)→c≠x:=fun c xs r z=>by subst z;rw[r] at mu;exact mu
 by_cases hb:b=x
 ·subst hb;rw[aC] at q;cases q;exact new
 ·rw[aI hb] at q
  by_cases hbe:b=e
  ·have q':H b=some (.own x):=by
    rcases he with z | z
    ·exact absurd (hbe.trans z) hb
    ·rw[hbe];exact z
   rw[q] at q';cases q'
   obtain⟨v,hv⟩:=heo
   exact⟨v,by rw[hbe];exact hv⟩
  ·refine (ok b u q).stay (fun c v hc r=>k c v ?_ r) (fun c r=>by rw[aI (nown c b r)];exact r) fun c xs r=>by rw[aI (ntup c xs r)];exact r
   rcases hc with rfl | hc
   ·exact hbe
   ·rintro rfl
    rcases he with z | z
    ·exact nown c b hc z
    ·rw[hc] at z;cases z;exact hb rfl
end
structure Un (fs ex:List Addr) (H H':Hp) (h h':Heap):Prop where
 keep:∀ b o,h.get? b=some o→H b=none→b∉fs→b∉ex→h'.get? b=some o
 slot:∀ b o,h.get? b=some o→H b=none→b∈fs→b∉ex→∃ sl,h'.get? b=some { o with slots:=sl }
 free:∀ b o,h.get? b=some o→H b=none→b∉ex→H' b=none
 there:∀ b o,h.get? b=some o→b∉ex→∃ o',h'.get? b=some o'
 tups:∀ b xs,H b=some (.tup xs)→H' b=some (.tup xs)
 frzs:∀ b o u,H b=some (.frz o u)→H' b=some (.frz o u)
 tbls:∀ b ps,H b=some (.tbl ps)→∃ more,H' b=some (.tbl (ps++more))
section
variable{fs fs' ex ex':List Addr}{H H1 H2:Hp}{h h1 h2 h':Heap}{a x e:Addr}{o:HO}
theorem Un.any(u:Un fs ex H H1 h h1){b:Addr}{ob:Obj}(q:h.get? b=some ob)(n:H b=none)(hx:b∉ex):∃ sl,h1.get? b=some { ob with slots:=sl }:=by
 by_cases hb:b∈fs
 ·exact u.slot b ob q n hb hx
 ·exact⟨ob.slots,u.keep b ob q n hb hx⟩
theorem Un.kept(k:∀ b u,h.get? b=some u→h'.get? b=some u):Un fs ex H H h h' :=
 ⟨fun b ob q _ _ _=>k b ob q,fun b ob q _ _ _=>⟨ob.slots,k b ob q⟩,fun _ _ _ n _=>n,fun b ob q _=>⟨ob,k b ob q⟩,fun _ _ q=>q,fun _ _ _ q=>q,fun _ ps q=>⟨#[],by rw[q];simp⟩⟩
theorem Un.refl:Un fs ex H H h h:=Un.kept fun _ _ q=>q
theorem Un.laid(k:∀ b u,h.get? b=some u→h'.get? b=some u)(hp:h.objs.size≤a)(hn:H a=none):Un fs ex H (upd H a o) h h' where
 keep:=fun b u q _ _ _=>k b u q
 slot:=fun b u q _ _ _=>⟨u.slots,k b u q⟩
 free:=fun b u q n _=>by rw[aI (Ad (Ae (AW q) hp))];exact n
 there:=fun b u q _=>⟨u,k b u q⟩
 tups:=fun b xs q=>by rw[aI (aN q hn)];exact q
 frzs:=fun b u xs q=>by rw[aI (aN q hn)];exact q
 tbls:=fun b ps q=>⟨#[],by rw[aI (aN q hn),q];simp⟩
theorem Un.write(mu:Mut (H x))(he:e=x∨H e=some (.own x))(k:∀ b u,b≠e→h.get? b=some u→h'.get? b=some u)(heo:∃ u,h'.get? e=some u):Un fs ex H (upd H x o) h h':=by
 have hx:∀ b,H b=none→b≠x:=fun b n z=>by subst z;rw[n] at mu;exact mu
 have hb:∀ b,H b=none→b≠e:=fun b n z=>by
  subst z
  rcases he with r | r
  ·exact hx b n r
  ·rw[n] at r;cases r
 have hm:∀ b u,H b=some u→¬ Mut (some u)→b≠x:=fun b u q nm z=>by subst z;rw[q] at mu;exact nm mu
 refine⟨fun b u q n _ _=>k b u (hb b n) q,fun b u q n _ _=>⟨u.slots,k b u (hb b n) q⟩,fun b u q n _=>by rw[aI (hx b n)];exact n,fun b u q _=>?_,
  fun b xs q=>by rw[aI (hm b _ q fun z=>z)];exact q,fun b u xs q=>by rw[aI (hm b _ q fun z=>z)];exact q,fun b ps q=>⟨#[],by rw[aI (hm b _ q fun z=>z),q];simp⟩⟩
 by_cases hbe:b=e
 ·subst hbe;exact heo
 ·exact⟨u,k b u hbe q⟩
end
noncomputable def trk(h:Heap)(H:Hp):List Addr:=(Ag h.objs.size).filter fun a=>(H a).isSome
noncomputable def yA(h:Heap)(H:Hp):Heap:=PySem.W.hideAll h (trk h H)
theorem aKM(h:Heap)(H:Hp):(yA h H).objs.size=h.objs.size:=PySem.W.hideAll_size _ _
theorem aOA{h:Heap}{H:Hp}{b:Addr}{o:Obj}(e:h.get? b=some o)(n:H b=none):(yA h H).get? b=some o :=
 EY _ e fun hm=>by
  have q:(H b).isSome=true:=(Aq.mp hm).2
  rw[n] at q;simp at q
theorem aRD{h:Heap}{H:Hp}{b:Addr}{o:Obj}(e:(yA h H).get? b=some o):h.get? b=some o∧H b=none:=by
 have e':h.get? b=some o:=PySem.W.of_hideAll (trk h H) e
 refine⟨e',?_⟩
 cases q:H b with
 | none=>rfl
 | some x =>
  have hm:b∈trk h H:=Aq.mpr ⟨Bm.mpr (AW e'),by simp[q]⟩
  have z:(yA h H).get? b=none:=PySem.W.hideAll_none (trk h H) hm
  rw[z] at e;cases e
noncomputable def aSJ(g h:Heap)(L:Addr):List (Addr×Obj):=(Ag h.objs.size).filterMap fun a=>if a=L∨(g.get? a).isSome=true then none else (h.get? a).map fun o=>(a,o)
noncomputable def rest(g h:Heap)(L d:Addr):List (Addr×Obj):=(aSJ g h L).filter fun p=>decide (p.1≠d)
end L2
namespace L2
open PySem PySem.Spec PyProof.Rows
structure Mod (K:AE) (mg:Str→Option Value) (base:Heap):Prop where
 kin:K.In base
 glob:base.Ns CH mg
 blt:∃ mb,base.Ns builtinsNs mb∧∀ x:Str,x≠"__name__"→mb x=BM x
 nolimit:base.NoLimit
structure Cx where
 prog:Program
 w:World
 K:AE
 mg:Str→Option Value
 base:Heap
 A:Around
 N:List Str
 s₀:Shared
 H₀:Hp
 env:Env
 outer:List Env
 stack:List Env
 ex:List Addr
 fn:Str→Bool
 calm:Bool
 pn:List (Addr×Obj)
 xe:Value→Shared→Prop
noncomputable def frs(l:List Env):List Addr:=l.filterMap (·.frame)
abbrev Cx.fs (X:Cx):List Addr:=frs X.outer
def Vis(sc:Scope)(x:Str):Prop:=sc.names.lookup x=some .local∨sc.names.lookup x=some .cell∨sc.names.lookup x=some .free
def Loc(sc:Scope)(x:Str):Prop:=sc.names.lookup x=some .local∨sc.names.lookup x=some .cell
def aZT(env:Env)(h:Heap)(m:Str→Option Value)(x:Str)(u:Value):Prop :=
 (env.kindOf x=some .local∧m x=some u)∨((env.kindOf x=some .cell∨env.kindOf x=some .free)∧∃ c,env.cells.lookup x=some c∧h.IsCell c (some u))
structure Cx.Ok (X:Cx):Prop where
 mod:Mod X.K X.mg X.base
 kind:X.env.scope.kind=.function
 glob:X.env.globals=CH
 blt:X.env.builtins=builtinsNs
 above:X.s₀.heap.objs.size≤X.env.locals
 inj:∀ x y c,X.env.cells.lookup x=some c→X.env.cells.lookup y=some c→x=y
 has:∀ x,(X.env.kindOf x=some .cell∨X.env.kindOf x=some .free)→∃ c,X.env.cells.lookup x=some c
 cab:∀ x c,X.fn x=true→X.env.cells.lookup x=some c→X.s₀.heap.objs.size≤c
 hd:X.calm=true→X.A.handled=none
 frames:X.A.frames=some X.stack
 stk:X.stack=X.outer∨(X.stack=X.env :: X.outer∧X.env.frame=some X.env.locals)
 exf:∀ b∈X.ex,b≠X.env.locals∧∀ x c,X.env.cells.lookup x=some c→c≠b
 bs:∀ b o,X.base.get? b=some o→X.s₀.heap.get? b=some o∧X.H₀ b=none
 bsz:X.base.objs.size≤X.s₀.heap.objs.size
 noex:∀ b o,X.base.get? b=some o→b∉X.ex
 exfs:∀ b∈X.ex,b∉X.fs
 funs:X.s₀.heap.FunFrames X.base X.outer
 frf:∀ b∈X.fs,X.H₀ b=none
structure Inv (X:Cx) (pins:List (Addr×Obj)) (σ:List (Option V)) (H:Hp) (s:Shared):Prop where
 ok:X.Ok
 os:s.os=X.s₀.os
 bare:AllBare s.gens
 base:Un X.fs X.ex X.H₀ H X.s₀.heap s.heap
 loc:∃ m,s.heap.Ns X.env.locals m∧∀ (i:Nat) (x:Str) (v:V),X.N[i]?=some x→σ[i]?=some (some v)→Vis X.env.scope x→∃ u,bI v u∧aZT X.env s.heap m x u
 cell:∀ x c,X.env.cells.lookup x=some c→∃ v,s.heap.IsCell c v
 free:H X.env.locals=none
 freeC:∀ x c,X.env.cells.lookup x=some c→H c=none
 pin:∀ p∈X.pn++pins,s.heap.get? p.1=some p.2∧H p.1=none∧p.1≠X.env.locals∧p.1∉X.fs∧∀ v,p.2.data≠.cell v
 hok:HOk X.prog X.w H s.heap
 len:σ.length=X.N.length
section
variable{X:Cx}{pins:List (Addr×Obj)}{σ:List (Option V)}{H H':Hp}{s:Shared}{h':Heap}
theorem Cx.Ok.nofr(ok:X.Ok){b:Addr}{o:Obj}(e:X.base.get? b=some o):b∉X.fs:=fun hb=>by
 have:=(ok.funs.mem hb).1
 rw[e] at this;cases this
theorem Inv.bs(I:Inv X pins σ H s):∀ b o,X.base.get? b=some o→s.heap.get? b=some o∧H b=none:=fun b o e =>
 ⟨I.base.keep b o (I.ok.bs b o e).1 (I.ok.bs b o e).2 (I.ok.nofr e) (I.ok.noex b o e),I.base.free b o (I.ok.bs b o e).1 (I.ok.bs b o e).2 (I.ok.noex b o e)⟩
theorem Inv.bk(I:Inv X pins σ H s):∀ b o,X.base.get? b=some o→s.heap.get? b=some o:=fun b o e=>(I.bs b o e).1
theorem Inv.mod(I:Inv X pins σ H s):Mod X.K X.mg X.base:=I.ok.mod
theorem Inv.kIn(I:Inv X pins σ H s):X.K.In s.heap:=I.ok.mod.kin.keeps I.bk
theorem Inv.fr(I:Inv X pins σ H s):∃ m,Fr X.base X.env.locals s.heap m :=
 let ⟨m,hn,_⟩:=I.loc
 ⟨m,hn,I.bk,Av I.ok.bsz I.ok.above⟩
theorem Inv.lt(I:Inv X pins σ H s):X.env.locals<s.heap.objs.size:=let ⟨_,hn,_⟩:=I.loc;hn.lt
theorem Inv.sz(I:Inv X pins σ H s):X.s₀.heap.objs.size≤s.heap.objs.size:=Av I.ok.above (FH I.lt)
theorem Inv.nofs(I:Inv X pins σ H s){a:Addr}(h:s.heap.objs.size≤a):a∉X.fs:=fun hb=>by
 obtain⟨_,o,ho,_⟩:=I.ok.funs.mem hb
 exact absurd (Ae (AW ho) (Av I.sz h)) (CY _)
theorem Inv.cne(I:Inv X pins σ H s):∀ x c,X.env.cells.lookup x=some c→c≠X.env.locals:=fun x c e z=>by
 obtain⟨v,o,ho,hd⟩:=I.cell x c e
 obtain⟨m,⟨o',es,ep,ho',hd',_⟩,_⟩:=I.loc
 rw[z,ho'] at ho;cases ho;rw[hd'] at hd;cases hd
theorem Inv.funs(I:Inv X pins σ H s):s.heap.FunFrames X.base X.outer:=by
 have all:∀ (l:List Env),(∀ b∈frs l,b∈X.fs)→X.s₀.heap.FunFrames X.base l→s.heap.FunFrames X.base l:=by
  intro l
  induction l with
  | nil=>intro _ _;trivial
  | cons env r ih =>
   intro hs hl
   obtain⟨hk,⟨L,o,hf,hn,ho,hd⟩,hr⟩:=hl
   have hL:L∈X.fs:=hs L (by unfold frs;rw[Ej,hf];exact AO)
   obtain⟨sl,e⟩:=I.base.slot L o ho (I.ok.frf L hL) hL fun z=>I.ok.exfs L z hL
   exact⟨hk,⟨L,_,hf,hn,e,hd⟩,ih (fun b hb=>hs b (by unfold frs;rw[Ej,hf];exact AJ _ hb)) hr⟩
 exact all X.outer (fun _ hb=>hb) I.ok.funs
theorem Inv.stack(I:Inv X pins σ H s):s.heap.FunFrames X.base X.stack:=by
 rcases I.ok.stk with e | ⟨e,hf⟩
 ·rw[e];exact I.funs
 ·rw[e]
  obtain⟨m,hn,_⟩:=I.loc
  refine .cons (by rw[I.ok.kind];decide) hf hn ?_ I.funs
  exact Heap.get?_none_of_le (Av I.ok.bsz I.ok.above)
theorem Inv.stkSub(I:Inv X pins σ H s):∀ b∈frs X.stack,b∈X.env.locals :: X.fs:=fun b hb=>by
 rcases I.ok.stk with e | ⟨e,hf⟩
 ·rw[e] at hb;exact AJ _ hb
 ·rw[e] at hb
  unfold frs at hb
  rw[Ej,hf] at hb
  exact hb
theorem Inv.stkFree(I:Inv X pins σ H s):∀ b∈frs X.stack,H b=none:=fun b hb=>by
 rcases Ac.mp (I.stkSub b hb) with e | hb
 ·rw[e];exact I.free
 ·obtain⟨_,o,ho,_⟩:=I.ok.funs.mem hb
  exact I.base.free b o ho (I.ok.frf b hb) fun z=>I.ok.exfs b z hb
theorem Inv.step{g':Array Dm}{t':Nat}{d':Drawn}{ch:List Addr}(I:Inv X pins σ H s)
 (hch:∀ b∈ch,(b∈X.ex∨X.s₀.heap.objs.size≤b)∧b≠X.env.locals∧(∀ x c,X.env.cells.lookup x=some c→c≠b)∧∀ p∈X.pn++pins,p.1≠b)
 (keep:∀ b o,b≠X.env.locals→b∉X.fs→b∉ch→s.heap.get? b=some o→H b=none→h'.get? b=some o)
 (slot:∀ b o,b≠X.env.locals→b∈X.fs→b∉ch→s.heap.get? b=some o→H b=none→∃ sl,h'.get? b=some { o with slots:=sl })(free:∀ b o,b∉ch→s.heap.get? b=some o→H b=none→H' b=none)
 (there:∀ b o,b∉ch→s.heap.get? b=some o→∃ o',h'.get? b=some o')
 (tups:∀ b xs,H b=some (.tup xs)→H' b=some (.tup xs))(frzs:∀ b o u,H b=some (.frz o u)→H' b=some (.frz o u))(tbls:∀ b ps,H b=some (.tbl ps)→∃ more,H' b=some (.tbl (ps++more)))
 (ns:∀ m,s.heap.Ns X.env.locals m→h'.Ns X.env.locals m)(hok:HOk X.prog X.w H' h')(hg:AllBare g') :
  Inv X pins σ H' { s with heap:=h',gens:=g',drawn:=d',toks:=t' }:=by
 have neL:∀ b o,X.s₀.heap.get? b=some o→b≠X.env.locals:=fun b o e=>Ad (Ae (AW e) I.ok.above)
 have neC:∀ b o,X.s₀.heap.get? b=some o→b∉X.ex→b∉ch:=fun b o e hx hb=>by
  rcases (hch b hb).1 with z | z
  ·exact hx z
  ·exact absurd (Ae (AW e) z) (CY _)
 have cellK:∀ x c,X.env.cells.lookup x=some c→∀ v,s.heap.IsCell c v→h'.IsCell c v:=fun x c e v ⟨o,ho,hd⟩=>by
  have nch:c∉ch:=fun z=>(hch c z).2.2.1 x c e rfl
  by_cases hc:c∈X.fs
  ·obtain⟨sl,q⟩:=slot c o (I.cne x c e) hc nch ho (I.freeC x c e)
   exact⟨_,q,hd⟩
  ·exact⟨o,keep c o (I.cne x c e) hc nch ho (I.freeC x c e),hd⟩
 refine⟨I.ok,I.os,hg,⟨fun b o e n hb hx=>?_,fun b o e n hb hx=>?_,fun b o e n hx=>?_,fun b o e hx=>?_,fun b xs e=>tups b xs (I.base.tups b xs e),fun b o xs e=>frzs b o xs (I.base.frzs b o xs e),fun b ps e=>?_⟩,?_,fun x c e=>?_,?_,fun x c e=>?_,fun p hp=>?_,hok,I.len⟩
 ·exact keep b o (neL b o e) hb (neC b o e hx) (I.base.keep b o e n hb hx) (I.base.free b o e n hx)
 ·obtain⟨sl,e1⟩:=I.base.slot b o e n hb hx
  obtain⟨sl',e2⟩:=slot b _ (neL b o e) hb (neC b o e hx) e1 (I.base.free b o e n hx)
  exact⟨sl',e2⟩
 ·obtain⟨o',e1⟩:=I.base.there b o e hx
  exact free b o' (neC b o e hx) e1 (I.base.free b o e n hx)
 ·obtain⟨o',e1⟩:=I.base.there b o e hx
  exact there b o' (neC b o e hx) e1
 ·obtain⟨m1,e1⟩:=I.base.tbls b ps e
  obtain⟨m2,e2⟩:=tbls b _ e1
  exact⟨m1++m2,by rw[e2,Array.append_assoc]⟩
 ·obtain⟨m,hn,hl⟩:=I.loc
  refine⟨m,ns m hn,fun i x v e1 e2 e3=>?_⟩
  obtain⟨u,r,l⟩:=hl i x v e1 e2 e3
  refine⟨u,r,?_⟩
  rcases l with l | ⟨k,c,e,z⟩
  ·exact .inl l
  ·exact .inr ⟨k,c,e,cellK x c e _ z⟩
 ·obtain⟨v,z⟩:=I.cell x c e
  exact⟨v,cellK x c e v z⟩
 ·obtain⟨m,⟨o,_,_,ho,_⟩,_⟩:=I.loc
  exact free _ o (fun z=>(hch _ z).2.1 rfl) ho I.free
 ·obtain⟨v,o,ho,hd⟩:=I.cell x c e
  exact free c o (fun z=>(hch c z).2.2.1 x c e rfl) ho (I.freeC x c e)
 ·obtain⟨e,n,ne,nf,d⟩:=I.pin p hp
  have nch:p.1∉ch:=fun z=>(hch p.1 z).2.2.2 p hp rfl
  exact⟨keep p.1 p.2 ne nf nch e n,free p.1 p.2 nch e n,ne,nf,d⟩
theorem Inv.un{t':Nat}(I:Inv X pins σ H s)(u:Un X.fs [] H H' s.heap h')(hok:HOk X.prog X.w H' h'):Inv X pins σ H' { s with heap:=h',toks:=t' }:=by
 obtain⟨m,⟨o,es,ep,ho,r⟩,_⟩:=id I.loc
 obtain⟨sl,hL⟩:=u.any ho I.free (by simp)
 exact I.step (g':=s.gens) (d':=s.drawn) (ch:=[]) (fun _ z=>nomatch z) (fun b o _ hb _ e n=>u.keep b o e n hb (by simp)) (fun b o _ hb _ e n=>u.slot b o e n hb (by simp)) (fun b o _ e n=>u.free b o e n (by simp)) (fun b o _ e=>u.there b o e (by simp)) u.tups u.frzs u.tbls (fun m' hm=>by
  obtain⟨o',es',ep',ho',r'⟩:=hm
  rw[ho] at ho';cases ho'
  exact⟨_,es',ep',hL,r'⟩) hok I.bare
theorem Inv.call{g':Array Dm}{t':Nat}{d':Drawn}{ch:List Addr}(I:Inv X pins σ H s)(u:Un (frs X.stack) ch H H' s.heap h')(hok:HOk X.prog X.w H' h')(hg:AllBare g')
 (hch:∀ b∈ch,(b∈X.ex∨X.s₀.heap.objs.size≤b)∧b≠X.env.locals∧(∀ x c,X.env.cells.lookup x=some c→c≠b)∧∀ p∈X.pn++pins,p.1≠b) :
  Inv X pins σ H' { s with heap:=h',gens:=g',drawn:=d',toks:=t' }:=by
 obtain⟨m,⟨o,es,ep,ho,r⟩,_⟩:=id I.loc
 obtain⟨sl,hL⟩:=u.any ho I.free fun z=>(hch _ z).2.1 rfl
 exact I.step (ch:=ch) hch (fun b o hL hb hc e n=>u.keep b o e n (fun z=>(Ac.mp (I.stkSub b z)).elim hL hb) hc) (fun b o _ _ hc e n=>u.any e n hc) (fun b o hc e n=>u.free b o e n hc) (fun b o hc e=>u.there b o e hc) u.tups u.frzs u.tbls (fun m' hm=>by
  obtain⟨o',es',ep',ho',r'⟩:=hm
  rw[ho] at ho';cases ho'
  exact⟨_,es',ep',hL,r'⟩) hok hg
theorem Inv.turned{t':Nat}{it:Addr}(I:Inv X pins σ H s)(k:∀ b o,b≠it→s.heap.get? b=some o→h'.get? b=some o)(hn:H it=none)(hL:it≠X.env.locals)
 (h1:it∈X.ex∨X.s₀.heap.objs.size≤it)(h2:∀ x c,X.env.cells.lookup x=some c→c≠it)(h3:∀ p∈X.pn++pins,p.1≠it):Inv X pins σ H { s with heap:=h',toks:=t' }:=by
 have nit:∀ b u,H b=some u→b≠it:=fun b u e z=>by rw[z,hn] at e;cases e
 refine I.step (g':=s.gens) (d':=s.drawn) (ch:=[it]) (fun b hb=>?_) (fun b o _ _ hc e _=>k b o (fun z=>hc (by simp[z])) e) (fun b o _ _ hc e _=>⟨o.slots,k b o (fun z=>hc (by simp[z])) e⟩) (fun _ _ _ _ n=>n)
  (fun b o hc e=>⟨o,k b o (fun z=>hc (by simp[z])) e⟩) (fun _ _ e=>e) (fun _ _ _ e=>e) (fun b ps e=>⟨#[],by rw[e];simp⟩) (fun m hm=>?_) (fun b u e=>?_) I.bare
 ·have e:b=it:=by simpa using hb
  subst e
  exact⟨h1,hL,h2,h3⟩
 ·obtain⟨o,es,ep,ho,r⟩:=hm
  exact⟨o,es,ep,k _ o (Ne.symm hL) ho,r⟩
 ·refine (I.hok b u e).stay (fun c v hc q=>k c v ?_ q) (fun _ q=>q) fun _ _ q=>q
  rcases hc with z | z
  ·rw[z];exact nit b u e
  ·exact nit c _ z
theorem Inv.tok(I:Inv X pins σ H s)(t:Nat):Inv X pins σ H { s with toks:=t }:=I.un (h':=s.heap) (t':=t) Un.refl I.hok
theorem Inv.kept{t':Nat}(I:Inv X pins σ H s)(k:∀ b u,s.heap.get? b=some u→h'.get? b=some u):Inv X pins σ H { s with heap:=h',toks:=t' }:=I.un (Un.kept k) (I.hok.kept k)
theorem Inv.laid{a:Addr}{o:HO}{t':Nat}(I:Inv X pins σ H s)(k:∀ b u,s.heap.get? b=some u→h'.get? b=some u)(hp:s.heap.objs.size≤a)(new:bS X.prog X.w (upd H a o) h' a o) :
  Inv X pins σ (upd H a o) { s with heap:=h',toks:=t' }:=I.un (Un.laid k hp (I.hok.fresh hp)) (I.hok.laid k hp new)
theorem Inv.write{x e:Addr}{o:HO}{t':Nat}(I:Inv X pins σ H s)(mu:Mut (H x))(he:e=x∨H e=some (.own x))(k:∀ b u,b≠e→s.heap.get? b=some u→h'.get? b=some u)(heo:∃ u,h'.get? e=some u)
 (new:bS X.prog X.w (upd H x o) h' x o):Inv X pins σ (upd H x o) { s with heap:=h',toks:=t' }:=I.un (Un.write mu he k heo) (I.hok.write mu he k heo new)
theorem Inv.weak{σ':List (Option V)}(I:Inv X pins σ H s)(hl:σ'.length=σ.length)(w:∀ (i:Nat) v,σ'[i]?=some (some v)→σ[i]?=some (some v)):Inv X pins σ' H s :=
 ⟨I.ok,I.os,I.bare,I.base,let ⟨m,hn,hl'⟩:=I.loc;⟨m,hn,fun i x v e1 e2 e3=>hl' i x v e1 (w i v e2) e3⟩,I.cell,I.free,I.freeC,I.pin,I.hok,hl.trans I.len⟩
theorem Inv.pins_of{pins':List (Addr×Obj)}(I:Inv X pins σ H s)(h:∀ p∈pins',s.heap.get? p.1=some p.2∧H p.1=none∧p.1≠X.env.locals∧p.1∉X.fs∧∀ v,p.2.data≠.cell v):Inv X pins' σ H s :=
 ⟨I.ok,I.os,I.bare,I.base,I.loc,I.cell,I.free,I.freeC,fun p hp=>(Ar.mp hp).elim (fun z=>I.pin p (CC _ z)) (h p),I.hok,I.len⟩
theorem mJ{N:List Str}(hN:N.Nodup){i j:Nat}{x:Str}(a:N[i]?=some x)(b:N[j]?=some x):i=j:=by
 obtain⟨h1,e1⟩:=AC.mp a
 obtain⟨h2,e2⟩:=AC.mp b
 exact (EE hN).mp (e1.trans e2.symm)
theorem aJO{M:Model}{A:Around}{E:Value→Shared→Prop}{i:Nat}{x:Str}{v:V}{u:Value}{Q:Unit→Shared→Prop}(I:Inv X pins σ H s)(hN:X.N.Nodup)(hi:X.N[i]?=some x)(hx:Loc X.env.scope x)(r:bI v u)
 (h:∀ s',Inv X pins (σ.set i (some v)) H s'→(∃ a,DK a s.heap s'.heap∧(a=X.env.locals∨X.env.cells.lookup x=some a))→Q () s')(hf:X.fn x=true∨X.env.scope.names.lookup x=some .local:=by first | exact .inl rfl | exact .inr rfl | assumption):wpAny M A (storeName X.env x u) Q E s:=by
 obtain⟨m,hn,hl⟩:=id I.loc
 have hcls:(X.env.scope.kind == .class || (X.env.scope.kind == .module && X.env.locals != X.env.globals))=false:=by rw[I.ok.kind];rfl
 have hiσ:i<σ.length:=by rw[I.len];exact (AC.mp hi).1
 have cne:=I.cne
 have tracked:∀ {a:Addr} {h':Heap},(∃ o,s.heap.get? a=some o∧H a=none)→DK a s.heap h'→HOk X.prog X.w H h':=fun {a h'} ha hs b ob e=>by
  obtain⟨_,_,hfree⟩:=ha
  refine (I.hok b ob e).stay (fun c w' hc q=>(hs.2 c ?_).trans q) (fun _ q=>q) fun _ _ q=>q
  rintro rfl
  rcases hc with rfl | hc
  ·rw[hfree] at e;cases e
  ·rw[hfree] at hc;cases hc
 rcases hx with hk | hk
 ·refine wpAny_storeName_local hk hn (fun h' hn' hs=>?_) hcls
  obtain⟨oL,_,_,hoL,_⟩:=id hn
  refine h _ ⟨I.ok,I.os,I.bare,⟨fun b o e n hb hx=>?_,fun b o e n hb hx=>?_,I.base.free,fun b o e hx=>?_,I.base.tups,I.base.frzs,I.base.tbls⟩,⟨_,hn',fun j y v' e1 e2 e3=>?_⟩,fun y c e=>?_,I.free,I.freeC,fun p hp=>?_,tracked ⟨oL,hoL,I.free⟩ hs,by simpa using I.len⟩ ⟨_,hs,.inl rfl⟩
  ·exact (hs.2 b (Ad (Ae (AW e) I.ok.above))).trans (I.base.keep b o e n hb hx)
  ·obtain⟨sl,e1⟩:=I.base.slot b o e n hb hx
   exact⟨sl,(hs.2 b (Ad (Ae (AW e) I.ok.above))).trans e1⟩
  ·obtain⟨o',e1⟩:=I.base.there b o e hx
   exact⟨o',(hs.2 b (Ad (Ae (AW e) I.ok.above))).trans e1⟩
  ·by_cases hj:j=i
   ·subst hj
    rw[hi] at e1;cases e1
    rw[EJ hiσ] at e2
    cases e2
    exact⟨u,r,.inl ⟨hk,by simp⟩⟩
   ·rw[DW (Ne.symm hj)] at e2
    obtain⟨u',r',q⟩:=hl j y v' e1 e2 e3
    refine⟨u',r',?_⟩
    rcases q with ⟨k,e⟩ | ⟨k,c,e,z⟩
    ·refine .inl ⟨k,?_⟩
     have:y≠x:=fun e=>hj (mJ hN e1 (e▸hi))
     simp[this,e]
    ·exact .inr ⟨k,c,e,z.sameBut hs (cne y c e)⟩
  ·obtain⟨w',z⟩:=I.cell y c e
   exact⟨w',z.sameBut hs (cne y c e)⟩
  ·obtain⟨e,n,ne,nf,d⟩:=I.pin p hp
   exact⟨(hs.2 p.1 ne).trans e,n,ne,nf,d⟩
 ·have hfn:X.fn x=true:=by
   rcases hf with z | z
   ·exact z
   ·rw[z] at hk;cases hk
  obtain⟨c,hc⟩:=I.ok.has x (.inl hk)
  obtain⟨w',z⟩:=I.cell x c hc
  refine wpAny_storeName_cell I.ok.kind hk hc z (fun h' hc' hs=>?_)
  obtain⟨oc,hoc,hocd⟩:=id z
  refine h { s with heap:=h' } ⟨I.ok,I.os,I.bare,⟨fun b o e n hb hx=>?_,fun b o e n hb hx=>?_,I.base.free,fun b o e hx=>?_,I.base.tups,I.base.frzs,I.base.tbls⟩,⟨m,hn.sameBut hs (Ne.symm (cne x c hc)),fun j y v' e1 e2 e3=>?_⟩,fun y c' e=>?_,I.free,I.freeC,fun p hp=>?_,tracked ⟨oc,hoc,I.freeC x c hc⟩ hs,by simpa using I.len⟩ ⟨c,hs,.inr hc⟩
  ·exact (hs.2 b (Ad (Ae (AW e) (I.ok.cab x c hfn hc)))).trans (I.base.keep b o e n hb hx)
  ·obtain⟨sl,e1⟩:=I.base.slot b o e n hb hx
   exact⟨sl,(hs.2 b (Ad (Ae (AW e) (I.ok.cab x c hfn hc)))).trans e1⟩
  ·obtain⟨o',e1⟩:=I.base.there b o e hx
   exact⟨o',(hs.2 b (Ad (Ae (AW e) (I.ok.cab x c hfn hc)))).trans e1⟩
  ·by_cases hj:j=i
   ·subst hj
    rw[hi] at e1;cases e1
    rw[EJ hiσ] at e2
    cases e2
    exact⟨u,r,.inr ⟨.inl hk,c,hc,hc'⟩⟩
   ·rw[DW (Ne.symm hj)] at e2
    obtain⟨u',r',q⟩:=hl j y v' e1 e2 e3
    refine⟨u',r',?_⟩
    rcases q with q | ⟨k,c',e,z'⟩
    ·exact .inl q
    ·refine .inr ⟨k,c',e,z'.sameBut hs ?_⟩
     rintro rfl
     exact hj (mJ hN e1 (I.ok.inj _ _ _ e hc▸hi))
  ·by_cases hcc:c'=c
   ·subst hcc;exact⟨_,hc'⟩
   ·obtain⟨w2,z2⟩:=I.cell y c' e
    exact⟨w2,z2.sameBut hs hcc⟩
  ·obtain⟨e,n,ne,nf,d⟩:=I.pin p hp
   refine⟨(hs.2 p.1 ?_).trans e,n,ne,nf,d⟩
   intro q
   rw[q,hoc] at e
   have q':oc=p.2:=Ao e
   exact d w' (by rw[← q'];exact hocd)
theorem pP{M:Model}{A:Around}{E:Value→Shared→Prop}{i:Nat}{x:Str}{v:V}{u:Value}{Q:Unit→Shared→Prop}(I:Inv X pins σ H s)(hN:X.N.Nodup)(hi:X.N[i]?=some x)(hx:Loc X.env.scope x)(r:bI v u)
 (h:∀ s',Inv X pins (σ.set i (some v)) H s'→Q () s')(hf:X.fn x=true∨X.env.scope.names.lookup x=some .local:=by first | exact .inl rfl | exact .inr rfl | assumption):wpAny M A (storeName X.env x u) Q E s :=
 aJO I hN hi hx r (fun s' I' _=>h s' I') hf
theorem Inv.call'{s':Shared}{ch:List Addr}(I:Inv X pins σ H s)(ho:s'.os=s.os)(u:Un (frs X.stack) ch H H' s.heap s'.heap)(hok:HOk X.prog X.w H' s'.heap)(hg:AllBare s'.gens)
 (hch:∀ b∈ch,(b∈X.ex∨X.s₀.heap.objs.size≤b)∧b≠X.env.locals∧(∀ x c,X.env.cells.lookup x=some c→c≠b)∧∀ p∈X.pn++pins,p.1≠b):Inv X pins σ H' s':=by
 obtain⟨h',g',d',t',o'⟩:=s'
 have e:o'=s.os:=ho
 subst e
 exact I.call (g':=g') (t':=t') (d':=d') u hok hg hch
end
abbrev XK:=Value→Option Addr→Hp→Prop
abbrev St:=List (Option V)
abbrev VK:=V→Hp→Prop
abbrev TE:=St→Hp→VK→Prop
abbrev TT:=St→Hp→(Bool→Hp→Prop)→Prop
abbrev TA:=St→Hp→(List V→Hp→Prop)→Prop
structure Ends where
 nx:St→Hp→Prop
 rt:VK
 bk:St→Hp→Prop:=fun _ _=>False
 ct:St→Hp→Prop:=fun _ _=>False
abbrev TS:=Ends→St→Hp→Prop
def EP(X:Cx)(pins:List (Addr×Obj))(σ:St)(Q:VK)(u:Value)(s':Shared):Prop:=∃ v H',Inv X pins σ H' s'∧bI v u∧Q v H'
def TP(X:Cx)(pins:List (Addr×Obj))(σ:St)(Q:Bool→Hp→Prop)(b:Bool)(s':Shared):Prop:=∃ H',Inv X pins σ H' s'∧Q b H'
def AP(X:Cx)(pins:List (Addr×Obj))(σ:St)(Q:List V→Hp→Prop)(us:List Value)(s':Shared):Prop:=∃ vs H',Inv X pins σ H' s'∧bD vs us∧Q vs H'
def SP(X:Cx)(pins:List (Addr×Obj))(D:Ends)(f:Flow)(s':Shared):Prop :=
 match f with
 | .next=>∃ σ' H',Inv X pins σ' H' s'∧D.nx σ' H'
 | .brk=>∃ σ' H',Inv X pins σ' H' s'∧D.bk σ' H'
 | .cont=>∃ σ' H',Inv X pins σ' H' s'∧D.ct σ' H'
 | .ret u=>∃ v σ' H',Inv X pins σ' H' s'∧bI v u∧D.rt v H'
def PE(X:Cx)(e:Expr)(t:TE):Prop :=
 ∀ (pins:List (Addr×Obj)) (s:Shared) (σ:St) (H:Hp) (Q:VK),Inv X pins σ H s→t σ H Q→wpAny (model X.prog X.w) X.A (eval e X.env) (EP X pins σ Q) X.xe s
def PT(X:Cx)(e:Expr)(t:TT):Prop :=
 ∀ (pins:List (Addr×Obj)) (s:Shared) (σ:St) (H:Hp) (Q:Bool→Hp→Prop),Inv X pins σ H s→t σ H Q→wpAny (model X.prog X.w) X.A (isTrue e X.env (eval e X.env)) (TP X pins σ Q) X.xe s
def PW(X:Cx)(e:Expr)(t:TT):Prop :=
 ∀ (whole:Sem Value) (pins:List (Addr×Obj)) (s:Shared) (σ:St) (H:Hp) (Q:Bool→Hp→Prop),Inv X pins σ H s→t σ H Q→wpAny (model X.prog X.w) X.A (isTrue e X.env whole) (TP X pins σ Q) X.xe s
theorem PW.pt{X:Cx}{e:Expr}{t:TT}(h:PW X e t):PT X e t:=h _
def PA(X:Cx)(es:List Expr)(t:TA):Prop :=
 ∀ (pos:Pos) (pins:List (Addr×Obj)) (s:Shared) (σ:St) (H:Hp) (Q:List V→Hp→Prop),Inv X pins σ H s→t σ H Q→wpAny (model X.prog X.w) X.A (spliced (backTo pos (Ak es X.env))) (AP X pins σ Q) X.xe s
def PS(X:Cx)(st:Stmt)(t:TS):Prop :=
 ∀ (pins:List (Addr×Obj)) (s:Shared) (σ:St) (H:Hp) (D:Ends),Inv X pins σ H s→t D σ H→wpAny (model X.prog X.w) X.A (exec st X.env) (SP X pins D) X.xe s
def PSs(X:Cx)(st:List Stmt)(t:TS):Prop :=
 ∀ (pins:List (Addr×Obj)) (s:Shared) (σ:St) (H:Hp) (D:Ends),Inv X pins σ H s→t D σ H→wpAny (model X.prog X.w) X.A (execs st X.env) (SP X pins D) X.xe s
theorem thn{α:Type}{t:Sem α}{Q Q':α→Shared→Prop}{M:Model}{A:Around}{E:Value→Shared→Prop}{s:Shared}(h:wpAny M A t Q E s)(hQ:∀ a s,Q a s→Q' a s):wpAny M A t Q' E s:=Az h hQ fun _ _ x=>x
end L2
namespace L2
open PySem PySem.Spec PyProof.Rows
section
variable{X:Cx}
def aPS(i:Nat):TE:=fun σ H Q=>∃ v,σ[i]?=some (some v)∧Q v H
def tC(v:V):TE:=fun _ H Q=>Q v H
theorem aUS{i:Nat}{x:Str}{pos:Pos}(hN:X.N[i]?=some x)(hv:Vis X.env.scope x)(hd:(x == ("__debug__":Str))=false:=by decide)(hcd:(x == ("__classdict__":Str))=false:=by decide):PE X (.Name x pos) (aPS i):=by
 intro pins s σ H Q I h
 obtain⟨v,e,h⟩:=h
 obtain⟨m,hn,hl⟩:=I.loc
 obtain⟨u,r,l⟩:=hl i x v hN e hv
 have fin:EP X pins σ Q u s:=⟨v,H,I,r,h⟩
 rcases l with ⟨hk,hm⟩ | ⟨hk,c,hc,hcell⟩
 ·exact wpAny_Name (wpAny_loadName_local I.ok.kind hk hn hm fin) hd
 ·rcases hk with hk | hk
  ·exact wpAny_Name (wpAny_loadName_cell I.ok.kind hk hc hcell fin) hd
  ·exact wpAny_Name (wpAny_loadName_free I.ok.kind hk hc hcell fin hcd) hd
theorem aD{i j pos}:PE X (.Constant (.int i) j pos) (tC (.int i)):=fun _ _ _ H _ I h=>wpAny_Constant_int ⟨.int i,H,I.tok _,⟨_,rfl⟩,h⟩
theorem jT{b j pos}:PE X (.Constant (.bool b) j pos) (tC (.bl b)):=fun _ _ _ H _ I h=>Constant_bool ⟨.bl b,H,I,rfl,h⟩
theorem kG{j pos}:PE X (.Constant .none j pos) (tC .non):=fun _ _ _ H _ I h=>Constant_none ⟨.non,H,I,rfl,h⟩
theorem dS{x j pos}:PE X (.Constant (.str x) j pos) (tC (.str x)):=fun _ _ _ H _ I h=>Calls.Constant_str ⟨.str x,H,I.tok _,⟨_,rfl⟩,h⟩
def Gl(X:Cx)(x:Str):Prop:=X.env.kindOf x=some .globalImplicit
theorem nR{E:Value→Shared→Prop}{pins:List (Addr×Obj)}{s:Shared}{σ:St}{H:Hp}{x:Str}{u:Value}{pos:Pos}{Q:Value→Shared→Prop}(I:Inv X pins σ H s)(hg:Gl X x)(hm:X.mg x=some u)(h:Q u s)
 (hd:(x == ("__debug__":Str))=false:=by decide):wpAny (model X.prog X.w) X.A (eval (.Name x pos) X.env) Q E s :=
 Calls.Name_function_global I.ok.kind hg (Calls.loadGlobal_global (by rw[I.ok.glob];exact I.mod.glob.keeps I.bk) hm h) hd
theorem mO{E:Value→Shared→Prop}{pins:List (Addr×Obj)}{s:Shared}{σ:St}{H:Hp}{x:Str}{u:Value}{pos:Pos}{Q:Value→Shared→Prop}(I:Inv X pins σ H s)(hg:Gl X x)(hm:X.mg x=none)(hv:BM x=some u)(h:Q u s)
 (hn:x≠"__name__":=by decide)(hd:(x == ("__debug__":Str))=false:=by decide):wpAny (model X.prog X.w) X.A (eval (.Name x pos) X.env) Q E s:=by
 obtain⟨mb,h1,h2⟩:=I.mod.blt
 exact Calls.Name_function_global I.ok.kind hg (Calls.loadGlobal_builtin (by rw[I.ok.glob];exact I.mod.glob.keeps I.bk) hm (by rw[I.ok.blt];exact h1.keeps I.bk) ((h2 x hn).trans hv) h) hd
theorem aBI{x:Str}{v:V}{u:Value}{pos:Pos}(hg:Gl X x)(hm:X.mg x=some u)(r:bI v u)(hd:(x == ("__debug__":Str))=false:=by decide):PE X (.Name x pos) (tC v) :=
 fun _ _ _ H _ I h=>nR I hg hm ⟨v,H,I,r,h⟩ hd
theorem aRA{x:Str}{v:V}{u:Value}{pos:Pos}(hg:Gl X x)(hm:X.mg x=none)(hv:BM x=some u)(r:bI v u)(hn:x≠"__name__":=by decide)(hd:(x == ("__debug__":Str))=false:=by decide):PE X (.Name x pos) (tC v) :=
 fun _ _ _ H _ I h=>mO I hg hm hv ⟨v,H,I,r,h⟩ hn hd
variable{a b:Expr}{ta tb:TE}{pos:Pos}
def PC(X:Cx)(op:CmpOp)(a b:Expr)(t:TE):Prop :=
 ∀ (pins:List (Addr×Obj)) (s:Shared) (σ:St) (H:Hp) (Q:VK),Inv X pins σ H s→t σ H Q →
  wpAny (model X.prog X.w) X.A (eval a X.env) (fun v s₁=>wpAny (model X.prog X.w) X.A (eval b X.env) (fun u s₂=>wpAny (model X.prog X.w) X.A (BU op v u) (EP X pins σ Q) X.xe s₂) X.xe s₁) X.xe s
def tB(t:TE):TT:=fun σ H Q=>t σ H fun x H1=>∃ c,x=.bl c∧Q c H1
theorem aBF{op:CmpOp}{t:TE}(h:PC X op a b t)(h1:EL op b=false:=by first | exact nobehind _ (by decide) (by decide) | rfl):PT X (.Compare a [op] [b] pos) (tB t):=by
 intro pins s σ H Q I hw
 refine wpAny_isTrue_Compare1 (thn (h pins s σ H _ I hw) fun v s1 h1=>thn h1 fun u s2 h2=>thn h2 fun c s3 ⟨x,H1,I1,r1,q1⟩=>?_) h1
 obtain⟨d,rfl,q⟩:=q1
 cases r1
 exact Bo ⟨H1,I1,q⟩
theorem dI{e:Expr}{t:TE}(h:PE X e t)(he:∀ whole,isTrue e X.env whole=(do let v ← whole;standAt e.pos;holding [v] (truthy v)):=by intro _;rfl):PT X e (tB t):=by
 intro pins s σ H Q I hw
 refine isTrue_plain (thn (h pins s σ H _ I hw) fun v s1 ⟨x,H1,I1,r1,q1⟩=>?_) (he _)
 obtain⟨d,rfl,q⟩:=q1
 cases r1
 exact Bo ⟨H1,I1,q⟩
variable{tA tB':TT}{rest:List Expr}
def aYW(t u:TT):TT:=fun σ H Q=>t σ H fun c H1=>if c=true then u σ H1 Q else Q false H1
def tOr(t u:TT):TT:=fun σ H Q=>t σ H fun c H1=>if c=true then Q true H1 else u σ H1 Q
def aYQ(t:TT):TT:=fun σ H Q=>t σ H fun c H1=>Q (!c) H1
theorem aBE(ha:PT X a tA):PW X (.BoolOp .And [a] pos) tA:=by
 intro wh pins s σ H Q I h
 refine isTrue_and (thn (ha pins s σ H Q I h) fun c s1 e=>?_)
 cases c with
 | true=>exact isTrue_and_nil e
 | false=>exact e
theorem jF(ha:PT X a tA):PW X (.BoolOp .Or [a] pos) tA:=by
 intro wh pins s σ H Q I h
 refine isTrue_or (thn (ha pins s σ H Q I h) fun c s1 e=>?_)
 cases c with
 | false=>exact isTrue_or_nil e
 | true=>exact e
theorem aFU(ha:PT X a tA)(hb:PW X (.BoolOp .And (b :: rest) pos) tB'):PW X (.BoolOp .And (a :: b :: rest) pos) (aYW tA tB'):=by
 intro wh pins s σ H Q I h
 refine isTrue_and (thn (ha pins s σ H _ I h) fun c s1 ⟨H1,I1,q1⟩=>?_)
 cases c with
 | true=>exact hb wh pins s1 σ H1 Q I1 q1
 | false=>exact⟨H1,I1,q1⟩
theorem lX(ha:PT X a tA)(hb:PW X (.BoolOp .Or (b :: rest) pos) tB'):PW X (.BoolOp .Or (a :: b :: rest) pos) (tOr tA tB'):=by
 intro wh pins s σ H Q I h
 refine isTrue_or (thn (ha pins s σ H _ I h) fun c s1 ⟨H1,I1,q1⟩=>?_)
 cases c with
 | true=>exact⟨H1,I1,q1⟩
 | false=>exact hb wh pins s1 σ H1 Q I1 q1
theorem dR(ha:PT X a tA):PT X (.UnaryOp .Not a pos) (aYQ tA):=by
 intro pins s σ H Q I h
 exact isTrue_not (ha pins s σ H (fun c H1=>Q (!c) H1) I h)
def aWW(ta tb:TE):TE:=fun σ H Q=>ta σ H fun x H1=>∃ c,x=.bl c∧if c=true then tb σ H1 Q else Q (.bl false) H1
def aYP(ta tb:TE):TE:=fun σ H Q=>ta σ H fun x H1=>∃ c,x=.bl c∧if c=true then Q (.bl true) H1 else tb σ H1 Q
def aWR(ta:TE):TE:=fun σ H Q=>ta σ H fun x H1=>∃ c,x=.bl c∧Q (.bl (!c)) H1
theorem eI{op}{t:TE}(h:PE X a t):PE X (.BoolOp op [a] pos) t:=fun pins s σ H Q I hw=>BoolOp_one (h pins s σ H Q I hw)
theorem cY(ha:PE X a ta)(hb:PE X (.BoolOp .And (b :: rest) pos) tb):PE X (.BoolOp .And (a :: b :: rest) pos) (aWW ta tb):=by
 intro pins s σ H Q I h
 refine BoolOp_and (thn (ha pins s σ H _ I h) fun v s1 ⟨x,H1,I1,r1,q1⟩=>?_)
 obtain⟨c,rfl,q1⟩:=q1
 cases r1
 refine Bo ?_
 cases c with
 | true=>exact hb pins s1 σ H1 Q I1 q1
 | false=>exact⟨.bl false,H1,I1,rfl,q1⟩
theorem aTC(ha:PE X a ta)(hb:PE X (.BoolOp .Or (b :: rest) pos) tb):PE X (.BoolOp .Or (a :: b :: rest) pos) (aYP ta tb):=by
 intro pins s σ H Q I h
 refine BoolOp_or (thn (ha pins s σ H _ I h) fun v s1 ⟨x,H1,I1,r1,q1⟩=>?_)
 obtain⟨c,rfl,q1⟩:=q1
 cases r1
 refine Bo ?_
 cases c with
 | false=>exact hb pins s1 σ H1 Q I1 q1
 | true=>exact⟨.bl true,H1,I1,rfl,q1⟩
theorem aUT(ha:PE X a ta):PE X (.UnaryOp .Not a pos) (aWR ta):=by
 intro pins s σ H Q I h
 refine UnaryOp_ (thn (ha pins s σ H _ I h) fun v s1 ⟨x,H1,I1,r1,q1⟩=>?_)
 obtain⟨c,rfl,q1⟩:=q1
 cases r1
 exact not_of (Bo ⟨.bl (!c),H1,I1,rfl,q1⟩)
def tIf(t:TT)(ta tb:TE):TE:=fun σ H Q=>t σ H fun c H1=>if c=true then ta σ H1 Q else tb σ H1 Q
theorem aND{c:Expr}(hc:PT X c tA)(ha:PE X a ta)(hb:PE X b tb):PE X (.IfExp c a b pos) (tIf tA ta tb):=by
 intro pins s σ H Q I h
 refine wpAny_IfExp (thn (hc pins s σ H _ I h) fun d s1 ⟨H1,I1,q1⟩=>?_)
 cases d with
 | true=>exact ha pins s1 σ H1 Q I1 q1
 | false=>exact hb pins s1 σ H1 Q I1 q1
end
end L2
namespace L2
open PySem PySem.Spec PyProof.Rows
def SqL(K:AE)(H:Hp)(a:Addr)(xs:List V):Prop :=
 Rd H a (.lst xs) ∨
  ∃ (o:Obj) (its:Array Value) (n:Nat),K.lookup a=some o∧o.cls=.type "list"∧o.dict=none∧o.data=.seq its n∧its.size≤Am∧bD xs its.toList
def SqT(K:AE)(H:Hp)(a:Addr)(xs:List V):Prop :=
 Rd H a (.tup xs) ∨
  ∃ (o:Obj) (its:Array Value) (n:Nat),K.lookup a=some o∧o.cls=.type "tuple"∧o.data=.seq its n∧its.size≤Am∧bD xs its.toList
noncomputable def aZR:Value→Option V
 | .none=>some .non
 | .bool b=>some (.bl b)
 | .int i _=>some (.int i)
 | .str x _=>some (.str x)
 | .bytes b _=>some (.byt b)
 | .float b _=>some (.flt b)
 | .ref a=>some (.ref a)
 | .type n=>some (.ty n)
 | _=>none
theorem bI.abs{x:V}{u:Value}(r:bI x u):aZR u=some x:=by
 cases x with
 | non=>cases r;rfl
 | bl _=>cases r;rfl
 | int _=>obtain⟨t,rfl⟩:=r;rfl
 | str _=>obtain⟨t,rfl⟩:=r;rfl
 | byt _=>obtain⟨t,rfl⟩:=r;rfl
 | flt _=>obtain⟨t,rfl⟩:=r;rfl
 | ref _=>cases r;rfl
 | ty _=>cases r;rfl
theorem bI.inj{x y:V}{u:Value}(r:bI x u)(q:bI y u):x=y:=Ao (r.abs.symm.trans q.abs)
theorem bD.inj:∀ {xs ys:List V} {us:List Value},bD xs us→bD ys us→xs=ys
 | _,_,_,.nil,.nil=>rfl
 | _,_,_,.cons r t,.cons r' t'=>by rw[r.inj r',bD.inj t t']
section
variable{X:Cx}{pins:List (Addr×Obj)}{σ:St}{H:Hp}{s:Shared}{a:Addr}{xs ys:List V}
theorem SqL.of{K:AE}(h:H a=some (.lst xs)):SqL K H a xs:=.inl (.inl h)
theorem SqT.of{K:AE}(h:H a=some (.tup xs)):SqT K H a xs:=.inl (.inl h)
theorem Inv.list(I:Inv X pins σ H s)(h:SqL X.K H a xs):∃ its:List Value,bD xs its∧PlainL s.heap a its.toArray∧xs.length≤Am:=by
 rcases h with h | ⟨o,its,n,hk,hc,hd,hs,hz,r⟩
 ·obtain⟨z,its,n,r,e⟩:=h.ok I.hok
  exact⟨its,r,⟨_,n,e,rfl,rfl,rfl⟩,z⟩
 ·refine⟨its.toList,r,⟨o,n,I.kIn a o hk,hc,hd,by simpa using hs⟩,?_⟩
  have e:=r.length
  simp only[Bc] at e
  omega
theorem Inv.tuple(I:Inv X pins σ H s)(h:SqT X.K H a xs):∃ its:List Value,bD xs its∧IsTup s.heap a its.toArray∧xs.length≤Am:=by
 rcases h with h | ⟨o,its,n,hk,hc,hs,hz,r⟩
 ·obtain⟨z,its,r,p⟩:=h.ok I.hok
  exact⟨its,r,p.tup,z⟩
 ·refine⟨its.toList,r,⟨o,I.kIn a o hk,hc,n,by simpa using hs⟩,?_⟩
  have e:=r.length
  simp only[Bc] at e
  omega
theorem Inv.list_inj(I:Inv X pins σ H s)(h:SqL X.K H a xs)(h':SqL X.K H a ys):xs=ys:=by
 obtain⟨its,r,⟨o,n,e,_,_,d⟩,_⟩:=I.list h
 obtain⟨its',r',⟨o',n',e',_,_,d'⟩,_⟩:=I.list h'
 rw[e] at e';cases e'
 rw[d] at d'
 injection d' with d1 _
 have:its=its':=by simpa using congrArg Array.toList d1
 subst this
 exact r.inj r'
end
abbrev Cx.wish (X:Cx) (E:Value→Shared→Prop):Cx:={ X with xe:=E }
abbrev Cx.nox (X:Cx):Cx:=X.wish fun _ _=>False
theorem Cx.Ok.wish{X:Cx}(ok:X.Ok)(E:Value→Shared→Prop):(X.wish E).Ok :=
 ⟨ok.mod,ok.kind,ok.glob,ok.blt,ok.above,ok.inj,ok.has,ok.cab,ok.hd,ok.frames,ok.stk,ok.exf,ok.bs,ok.bsz,ok.noex,ok.exfs,ok.funs,ok.frf⟩
theorem Cx.Ok.unwish{X:Cx}{E:Value→Shared→Prop}(ok:(X.wish E).Ok):X.Ok :=
 ⟨ok.mod,ok.kind,ok.glob,ok.blt,ok.above,ok.inj,ok.has,ok.cab,ok.hd,ok.frames,ok.stk,ok.exf,ok.bs,ok.bsz,ok.noex,ok.exfs,ok.funs,ok.frf⟩
section
variable{X:Cx}{pins:List (Addr×Obj)}{σ:St}{H:Hp}{s:Shared}{E:Value→Shared→Prop}
theorem Inv.wish(I:Inv X pins σ H s)(E:Value→Shared→Prop):Inv (X.wish E) pins σ H s:=⟨I.ok.wish E,I.os,I.bare,I.base,I.loc,I.cell,I.free,I.freeC,I.pin,I.hok,I.len⟩
theorem Inv.unwish(I:Inv (X.wish E) pins σ H s):Inv X pins σ H s:=⟨I.ok.unwish,I.os,I.bare,I.base,I.loc,I.cell,I.free,I.freeC,I.pin,I.hok,I.len⟩
theorem SP.unwish{D:Ends}{f:Flow}{s':Shared}(h:SP (X.wish E) pins D f s'):SP X pins D f s':=by
 cases f with
 | next=>obtain⟨σ',H',I,q⟩:=h;exact⟨σ',H',I.unwish,q⟩
 | brk=>obtain⟨σ',H',I,q⟩:=h;exact⟨σ',H',I.unwish,q⟩
 | cont=>obtain⟨σ',H',I,q⟩:=h;exact⟨σ',H',I.unwish,q⟩
 | ret u=>obtain⟨v,σ',H',I,r,q⟩:=h;exact⟨v,σ',H',I.unwish,r,q⟩
theorem PSs.nox{st:List Stmt}{t:TS}(h:PSs X.nox st t):PSs X st t:=fun pins s σ H D I hw =>
 Az (h pins s σ H D (I.wish _) hw) (fun _ _ q=>q.unwish) fun _ _ z=>BF z
end
section
variable{X:Cx}{st:Stmt}{rest:List Stmt}{t u:TS}{e:Expr}{te:TE}{pos:Pos}
def aWS:TS:=fun D σ H=>D.nx σ H
def iL(t u:TS):TS:=fun D σ H=>t { D with nx:=u D } σ H
theorem bW:PSs X [] aWS:=fun _ _ σ H _ I h=>Cq ⟨σ,H,I,h⟩
theorem aE(h1:PS X st t)(h2:PSs X rest u):PSs X (st :: rest) (iL t u):=by
 intro pins s σ H D I h
 refine EW (thn (h1 pins s σ H { D with nx:=u D } I h) fun f s1 q=>?_)
 cases f with
 | next =>
  obtain⟨σ',H',I',q⟩:=q
  exact h2 pins s1 σ' H' D I' q
 | ret v=>exact q
 | brk=>exact q
 | cont=>exact q
theorem aG(h1:PS X st t):PSs X [st] t:=by
 intro pins s σ H D I h
 refine EW (thn (h1 pins s σ H D I h) fun f s1 q=>?_)
 cases f with
 | next=>exact Cq q
 | ret v=>exact q
 | brk=>exact q
 | cont=>exact q
theorem Inv.quiet{pins:List (Addr×Obj)}{σ:St}{H:Hp}{s:Shared}(I:Inv X pins σ H s):interactive X.env=false:=by simp[interactive,I.ok.kind]
def aST(te:TE):TS:=fun D σ H=>te σ H fun _ H1=>D.nx σ H1
theorem fC(he:PE X e te)(hs:Ez e none pos.line X.env=pure false:=by rfl):PS X (.Expr e pos) (aST te):=by
 intro pins s σ H D I h
 exact wpAny_Expr_any (thn (he pins s σ H _ I h) fun v s1 ⟨x,H1,I1,r1,q1⟩=>⟨σ,H1,I1,q1⟩) I.quiet hs
def aYO(te:TE):TS:=fun D σ H=>te σ H D.rt
theorem aT(he:PE X e te):PS X (.Return (some e) pos) (aYO te):=by
 intro pins s σ H D I h
 exact wpAny_Return_some (thn (he pins s σ H _ I h) fun v s1 ⟨x,H1,I1,r1,q1⟩=>⟨x,σ,H1,I1,r1,q1⟩)
def aPU(c:TT)(t u:TS):TS:=fun D σ H=>c σ H fun b H1=>if b=true then t D σ H1 else u D σ H1
theorem dX{c:Expr}{a b:List Stmt}{tc:TT}(hc:PT X c tc)(ha:PSs X a t)(hb:PSs X b u):PS X (.If c a b pos) (aPU tc t u):=by
 intro pins s σ H D I h
 refine wpAny_If (thn (hc pins s σ H _ I h) fun d s1 ⟨H1,I1,q1⟩=>?_)
 cases d with
 | true=>exact ha pins s1 σ H1 D I1 q1
 | false=>exact hb pins s1 σ H1 D I1 q1
def aLJ:TS:=fun _ _ _=>False
theorem jS:PS X st aLJ:=fun _ _ _ _ _ _ h=>h.elim
theorem nM{sts:List Stmt}:PSs X sts aLJ:=fun _ _ _ _ _ _ h=>h.elim
end
abbrev TG:=V→St→Hp→(St→Hp→Prop)→Prop
abbrev TGs:=List V→St→Hp→(St→Hp→Prop)→Prop
def PG(X:Cx)(target:Expr)(t:TG):Prop :=
 ∀ (pins:List (Addr×Obj)) (s:Shared) (σ:St) (H:Hp) (v:V) (u:Value) (Q:St→Hp→Prop),Inv X pins σ H s→bI v u→t v σ H Q →
  wpAny (model X.prog X.w) X.A (assign target X.env u) (fun _ s'=>∃ σ' H',Inv X pins σ' H' s'∧Q σ' H') X.xe s
def PGs(X:Cx)(ts:List Expr)(t:TGs):Prop :=
 ∀ (pins:List (Addr×Obj)) (s:Shared) (σ:St) (H:Hp) (vs:List V) (us:List Value) (Q:St→Hp→Prop),Inv X pins σ H s→bD vs us→t vs σ H Q →
  wpAny (model X.prog X.w) X.A (assignInOrder ((Ee ts X.env).map (·.2)) us) (fun _ s'=>∃ σ' H',Inv X pins σ' H' s'∧Q σ' H') X.xe s
abbrev TSet:=V→V→V→Hp→(Hp→Prop)→Prop
abbrev TIp:=V→V→Hp→VK→Prop
def PIp(X:Cx)(op:Operator)(t:TIp):Prop :=
 ∀ (pins:List (Addr×Obj)) (s:Shared) (σ:St) (H:Hp) (x y:V) (v u:Value) (Q:VK),Inv X pins σ H s→bI x v→bI y u→t x y H Q →
  wpAny (model X.prog X.w) X.A (inplaceOp op v u) (EP X pins σ Q) X.xe s
section
variable{X:Cx}{pos:Pos}
def wU(i:Nat):TG:=fun v σ H Q=>Q (σ.set i (some v)) H
theorem bA{i:Nat}{x:Str}(hN:X.N.Nodup)(hi:X.N[i]?=some x)(hx:Loc X.env.scope x)(hf:X.fn x=true∨X.env.scope.names.lookup x=some .local:=by first | exact .inl rfl | exact .inr rfl | assumption):PG X (.Name x pos) (wU i):=by
 intro pins s σ H v u Q I r h
 exact wpAny_assign_Name (pP I hN hi hx r (fun s' I'=>⟨_,H,I',h⟩) hf)
def aZL:TGs:=fun vs σ H Q=>vs=[]∧Q σ H
def aYB(t:TG)(u:TGs):TGs:=fun vs σ H Q=>∃ v r,vs=v :: r∧t v σ H fun σ' H'=>u r σ' H' Q
theorem aQW:PGs X [] aZL:=by
 intro pins s σ H vs us Q I r h
 obtain⟨e,h⟩:=h
 subst e
 cases r
 exact assignInOrder_nil ⟨σ,H,I,h⟩
theorem aDV{e:Expr}{es:List Expr}{t:TG}{u:TGs}(h1:PG X e t)(h2:PGs X es u)
 (hs:(Ee (e :: es) X.env).map (·.2)=assign e X.env :: (Ee es X.env).map (·.2):=by rfl):PGs X (e :: es) (aYB t u):=by
 intro pins s σ H vs us Q I r h
 obtain⟨v,vr,e1,h⟩:=h
 subst e1
 cases r with
 | cons r rr =>
  rw[hs]
  refine assignInOrder_cons (thn (h1 pins s σ H _ _ _ I r h) fun _ s1 ⟨σ1,H1,I1,q1⟩=>?_)
  exact h2 pins s1 σ1 H1 _ _ Q I1 rr q1
def aZK(K:AE)(n:Nat)(t:TGs):TG:=fun v σ H Q=>∃ a xs,v=.ref a∧SqT K H a xs∧xs.length=n∧t xs σ H Q
theorem aUR{es:List Expr}{k:Nat}{t:TGs}{n:Nat}(hc:X.calm=true)(h:PGs X es t)
 (hn:(Ee es X.env).length=n:=by rfl)(hst:(Ee es X.env).findIdx? (·.1)=none:=by rfl):PG X (.Tuple es k pos) (aZK X.K n t):=by
 intro pins s σ H v u Q I r hw
 obtain⟨a,xs,e1,hq,hl,hw⟩:=hw
 subst e1
 cases r
 obtain⟨its,rv,ht,hz⟩:=I.tuple hq
 refine assign_Tuple_tuple (I.ok.hd hc) ht (by simp[hn,← hl,rv.length]) hst fun h' hx=>?_
 have I1:Inv X pins σ H { s with heap:=h' }:=I.kept (t':=s.toks) fun b o e=>hx b o (Ad (AW e)) e
 exact h pins _ σ H xs _ Q I1 (by simpa using rv) hw
def aTQ(te:TE)(g:TG):TS:=fun D σ H=>te σ H fun x H1=>g x σ H1 D.nx
theorem aUO{tg e:Expr}{te:TE}{g:TG}(he:PE X e te)(hg:PG X tg g)(hs:swapsWithSole [tg] e pos.line X.env=pure false:=by rfl)(hw:swappedStores [tg] e X.env=pure none:=by rfl)
 (h1:(Ee [tg] X.env).map (·.2)=[assign tg X.env]:=by rfl):PS X (.Assign [tg] e pos) (aTQ te g):=by
 intro pins s σ H D I h
 refine wpAny_Assign_stores (thn (he pins s σ H _ I h) fun v s1 ⟨x,H1,I1,r1,q1⟩=>?_) hs hw
 rw[h1]
 exact thn (hg pins s1 σ H1 x v _ I1 r1 q1) fun _ s2 q=>q
theorem aV{i:Nat}{x:Str}{e:Expr}{te:TE}{pos':Pos}(hN:X.N.Nodup)(hi:X.N[i]?=some x)(hx:Loc X.env.scope x)(he:PE X e te)(hs:Ez e (some (.Name x pos')) pos.line X.env=pure false:=by rfl)(hf:X.fn x=true∨X.env.scope.names.lookup x=some .local:=by first | exact .inl rfl | exact .inr rfl | assumption) :
  PS X (.Assign [.Name x pos'] e pos) (aTQ te (wU i)):=by
 intro pins s σ H D I h
 refine wpAny_Assign_Name (thn (he pins s σ H _ I h) fun v s1 ⟨y,H1,I1,r1,q1⟩=>?_) hs
 exact pP I1 hN hi hx r1 (fun s2 I2=>⟨_,H1,I2,q1⟩) hf
def aYV(i:Nat)(te:TE)(ti:TIp):TS:=fun D σ H=>∃ x,σ[i]?=some (some x)∧te σ H fun y H1=>ti x y H1 fun z H2=>D.nx (σ.set i (some z)) H2
theorem aMV{i:Nat}{x:Str}{e:Expr}{te:TE}{op:Operator}{ti:TIp}{pos':Pos}(hN:X.N.Nodup)(hi:X.N[i]?=some x)(hx:Loc X.env.scope x)(he:PE X e te)(ho:PIp X op ti)(hf:X.fn x=true∨X.env.scope.names.lookup x=some .local:=by first | exact .inl rfl | exact .inr rfl | assumption) :
  PS X (.AugAssign (.Name x pos') op e pos) (aYV i te ti):=by
 intro pins s σ H D I h
 obtain⟨v,e1,h⟩:=h
 obtain⟨m,hn,hl⟩:=I.loc
 have vis:Vis X.env.scope x:=by rcases hx with k | k;exact .inl k;exact .inr (.inl k)
 obtain⟨u,r,l⟩:=hl i x v hi e1 vis
 refine wpAny_AugAssign_Name ?_
 have go:wpAny (model X.prog X.w) X.A (eval e X.env) (fun w s₂=>wpAny (model X.prog X.w) X.A (inplaceOp op u w) (fun r s₃=>wpAny (model X.prog X.w) X.A (storeName X.env x r) (fun _=>SP X pins D .next) X.xe s₃) X.xe s₂) X.xe s:=by
  refine thn (he pins s σ H _ I h) fun w s1 ⟨y,H1,I1,r1,q1⟩=>?_
  refine thn (ho pins s1 σ H1 v y u w _ I1 r r1 q1) fun z s2 ⟨zv,H2,I2,r2,q2⟩=>?_
  exact pP I2 hN hi hx r2 (fun s3 I3=>⟨_,H2,I3,q2⟩) hf
 rcases l with ⟨hk,hm⟩ | ⟨hk,c,hc,hcell⟩
 ·exact wpAny_loadName_local I.ok.kind hk hn hm go
 ·rcases hk with hk | hk
  ·exact wpAny_loadName_cell I.ok.kind hk hc hcell go
  ·rcases hx with k | k
   ·have:X.env.scope.names.lookup x=some .free:=hk
    rw[k] at this;cases this
   ·have:X.env.scope.names.lookup x=some .free:=hk
    rw[k] at this;cases this
def ipI(f:Int→Int→Int):TIp:=fun x y H Q=>∃ i j,x=.int i∧y=.int j∧Q (.int (f i j)) H
theorem aVO:PIp X .Add (ipI fun i j=>i+j):=by
 intro pins s σ H x y v u Q I r1 r2 h
 obtain⟨i,j,e1,e2,q⟩:=h
 subst e1;subst e2
 obtain⟨t,rfl⟩:=r1
 obtain⟨t',rfl⟩:=r2
 exact iadd_int ⟨.int _,H,I.tok _,⟨_,rfl⟩,q⟩
end
section
variable{X:Cx}{pos:Pos}
def aLI(c:TT)(tb:TS):TS:=fun D σ H=>∃ W:Nat→St→Hp→Prop,(∃ m,W m σ H)∧∀ m σ H,W m σ H →
 c σ H fun b H1=>if b=true then ∃ N:St→Hp→Prop,(∀ σ' H',N σ' H'→∃ m',m'<m∧W m' σ' H')∧tb { D with nx:=N,ct:=N,bk:=D.nx } σ H1 else D.nx σ H1
theorem qH{c:Expr}{body:List Stmt}{tc:TT}{tb:TS}(hp:Bu (model X.prog X.w) X.A X.env X.xe)(hc:PT X c tc)(hb:PSs X body tb):PS X (.While c body [] pos) (aLI tc tb):=by
 intro pins s σ H D I h
 obtain⟨W,⟨m0,w0⟩,turn⟩:=h
 refine wpAny_While (codeAny_whileLoop (fun n s'=>∃ σ' H',Inv X pins σ' H' s'∧W n σ' H') ?_ m0 ⟨σ,H,I,w0⟩)
 rintro n s1 ⟨σ1,H1,I1,w1⟩
 refine Cp hp (thn (hc pins s1 σ1 H1 _ I1 (turn n σ1 H1 w1)) fun b s2 ⟨H2,I2,q2⟩=>?_)
 cases b with
 | true =>
  obtain⟨N,hN,q2⟩:=q2
  rw[if_pos rfl]
  refine Cp hp (thn (hb pins s2 σ1 H2 _ I2 q2) fun f s3 q3=>?_)
  cases f with
  | next =>
   obtain⟨σ3,H3,I3,n3⟩:=q3
   obtain⟨m',hm,w3⟩:=hN σ3 H3 n3
   exact⟨m',hm,σ3,H3,I3,w3⟩
  | cont =>
   obtain⟨σ3,H3,I3,n3⟩:=q3
   obtain⟨m',hm,w3⟩:=hN σ3 H3 n3
   exact⟨m',hm,σ3,H3,I3,w3⟩
  | brk=>exact q3
  | ret v=>exact q3
 | false =>
  rw[if_neg AQ]
  exact Cq ⟨σ1,H2,I2,q2⟩
end
structure It where
 go:Nat→Hp→Prop
 yld:Nat→Hp→V→Hp→Prop
 stop:Nat→Hp→Prop
def aCP(X:Cx)(pins:List (Addr×Obj))(H:Hp)(b:Addr):Prop :=
 H b=none∧b≠X.env.locals∧b∉X.fs∧(b∈X.ex∨X.s₀.heap.objs.size≤b)∧(∀ x c,X.env.cells.lookup x=some c→c≠b)∧∀ p∈X.pn++pins,p.1≠b
theorem Inv.fpOk{X:Cx}{pins:List (Addr×Obj)}{σ:St}{H H':Hp}{s:Shared}{b:Addr}(I:Inv X pins σ H s)(hb:s.heap.objs.size≤b)(hn:H' b=none):aCP X pins H' b:=by
 refine⟨hn,Dk (Ae I.lt hb),I.nofs hb,.inr (Av I.sz hb),fun x c e z=>?_,fun p hp z=>?_⟩
 ·obtain⟨v,q⟩:=I.cell x c e
  exact absurd (Ae q.lt (by rw[z];exact hb)) (CY _)
 ·exact absurd (Ae (AW (I.pin p hp).1) (by rw[z];exact hb)) (CY _)
structure Turn (P:Program) (w:World) (K:AE) (tg:Expr) (J:It) (fp:List Addr) (it:Addr) (tn:Nat→Heap→Prop):Prop where
 mem:it∈fp
 obj:∀ i h,tn i h→∀ b∈fp,∃ o,h.get? b=some o∧∀ v,o.data≠.cell v
 keep:∀ i h h',tn i h→(∀ b∈fp,∀ o,h.get? b=some o→h'.get? b=some o)→tn i h'
 item:∀ (X:Cx),X.prog=P→X.w=w→X.K=K→X.calm=true→∀ (i:Nat) (pins:List (Addr×Obj)) (s:Shared) (σ:St) (H:Hp) (E:Value→Shared→Prop),Inv X pins σ H s→(∀ b∈fp,aCP X pins H b)→tn i s.heap→J.go i H →
  wpAny (model P w) X.A (pyNext (.ref it)) (fun r s1=>∃ u,r=some u ∧
   wpAny (model P w) X.A (Eh tg (.ref it) u) (fun _ s2=>∃ x H',Inv X pins σ H' s2∧bI x u∧J.yld i H x H'∧tn (i+1) s2.heap∧∀ b∈fp,H' b=none) E s1) E s
 done:∀ (X:Cx),X.prog=P→X.w=w→X.K=K→X.calm=true→∀ (i:Nat) (pins:List (Addr×Obj)) (s:Shared) (σ:St) (H:Hp) (E:Value→Shared→Prop),Inv X pins σ H s→(∀ b∈fp,aCP X pins H b)→tn i s.heap→J.stop i H →
  wpAny (model P w) X.A (pyNext (.ref it)) (fun r s1=>r=none∧Inv X pins σ H s1) E s
 self:∀ (A:Around) (i:Nat) (s:Shared) (Q:Value→Shared→Prop) (E:Value→Shared→Prop),tn i s.heap→Q (.ref it) s→wpAny (model P w) A (pyIter (.ref it)) Q E s
abbrev TI:=St→Hp→(It→Hp→Prop)→Prop
def PIE(X:Cx)(pins:List (Addr×Obj))(σ:St)(tg:Expr)(R:It→Hp→Prop)(itv:Value)(s2:Shared):Prop :=
 ∃ (it:Addr) (fp:List Addr) (tn:Nat→Heap→Prop) (J:It) (H':Hp),itv=.ref it∧Inv X pins σ H' s2∧Turn X.prog X.w X.K tg J fp it tn∧tn 0 s2.heap∧(∀ b∈fp,aCP X pins H' b)∧R J H'
def PI(X:Cx)(tg iter:Expr)(wi:TI):Prop :=
 ∀ (pins:List (Addr×Obj)) (s:Shared) (σ:St) (H:Hp) (R:It→Hp→Prop),Inv X pins σ H s→wi σ H R →
  wpAny (model X.prog X.w) X.A (eval iter X.env) (fun v s1=>wpAny (model X.prog X.w) X.A (pyIter v) (PIE X pins σ tg R) X.xe s1) X.xe s
theorem aEN{M:Model}{A:Around}{E:Value→Shared→Prop}{s:Shared}{tg:Expr}{it:Addr}{u:Value}{o:Obj}{n:String}{vs:Array Value}{Q:Unit→Shared→Prop}(ho:s.heap.get? it=some o)(hc:o.cls=.type n)(hd:o.data=.fields vs)
 (hn:["enumerate","zip","dict_itemiterator","dict_reverseitemiterator","odict_iterator","itertools.zip_longest","itertools.pairwise"].contains n=false)(hQ:Q () s):wpAny M A (Eh tg (.ref it) u) Q E s:=by
  unfold Eh
  cases tg <;> first
    | exact AN hQ
    | (cases u <;> first
        | exact AN hQ
        | (refine AD (wpAny_load ho ?_)
           rw[hc,hd]
           show wpAny M A (if (["enumerate","zip","dict_itemiterator","dict_reverseitemiterator","odict_iterator","itertools.zip_longest","itertools.pairwise"].contains n && vs[0]? == some (rawInt _))=true then _ else _) Q E s
           rw[if_neg (by intro h;rw[hn,DL] at h;cases h)]
           exact AN hQ))
noncomputable def Itl(K:AE)(a:Addr):It :=
 ⟨fun i H=>∃ xs x,SqL K H a xs∧xs[i]?=some x,fun i H x H'=>H'=H∧∀ xs,SqL K H a xs→xs[i]?=some x,fun i H=>∃ xs,SqL K H a xs∧xs.length≤i⟩
noncomputable def Itr(lo:Int)(n:Nat):It:=⟨fun i _=>i<n,fun i H x H'=>H'=H∧x=.int (lo+i),fun i _=>n≤i⟩
theorem aJJ{P:Program}{w:World}{K:AE}{tg:Expr}(a it:Addr):Turn P w K tg (Itl K a) [it] it (fun i h=>h.IsListIter it a i) where
 mem:=by simp
 obj:=fun i h st b hb=>by
  have e:b=it:=by simpa using hb
  subst e
  obtain⟨o,e,c,d⟩:=st
  exact⟨o,e,fun v z=>by rw[d] at z;cases z⟩
 keep:=fun i h h' st k=>st.at fun o e=>k it (by simp) o e
 item:=by
  intro X hP hw hK hc i pins s σ H E I hf st hg
  subst hP hw hK
  obtain⟨xs,x,hq,hx⟩:=hg
  obtain⟨its,rv,p,hz⟩:=I.list hq
  obtain⟨u,hu,ru⟩:=rv.get hx
  obtain⟨f0,f1,f2,f3,f4,f5⟩:=hf it (by simp)
  refine wpAny_pyNext_list_item st p.isList (x:=u) (by simpa using hu) fun h' st' sb=>?_
  have I1:Inv X pins σ H { s with heap:=h' }:=I.turned (t':=s.toks) (fun b o hb e=>(sb.2 b hb).trans e) f0 f1 f3 f4 f5
  obtain⟨o,e,c,d⟩:=id st'
  exact⟨u,rfl,aEN (s:={ s with heap:=h' }) e c d (by decide) ⟨x,H,I1,ru,⟨rfl,fun ys hy=>by rw[I.list_inj hy hq];exact hx⟩,st',fun b hb=>(hf b hb).1⟩⟩
 done:=by
  intro X hP hw hK hc i pins s σ H E I hf st hg
  subst hP hw hK
  obtain⟨xs,hq,hx⟩:=hg
  obtain⟨its,rv,p,hz⟩:=I.list hq
  obtain⟨f0,f1,f2,f3,f4,f5⟩:=hf it (by simp)
  have hl:=rv.length
  exact wpAny_pyNext_list_end (I.ok.hd hc) st p.isList (by simp;omega) fun h' eb=>⟨rfl,I.turned (t':=s.toks) (fun b o hb e=>eb b o hb e) f0 f1 f3 f4 f5⟩
 self:=fun _ _ _ _ _ st h=>wpAny_pyIter_listiter st h
theorem aFJ{P:Program}{w:World}{K:AE}{tg:Expr}(it:Addr)(lo:Int)(n:Nat):Turn P w K tg (Itr lo n) [it] it (fun i h=>IsRangeIter h it (lo+(i:Nat)*1) ((n:Int) - (i:Nat)) 1) where
 mem:=by simp
 obj:=fun i h st b hb=>by
  have e:b=it:=by simpa using hb
  subst e
  exact⟨_,st,fun v z=>by
   have z':Data.fields _=Data.cell v:=z
   cases z'⟩
 keep:=fun i h h' st k=>k it (by simp) _ st
 item:=by
  intro X hP hw hK hc i pins s σ H E I hf st hg
  subst hP hw hK
  obtain⟨f0,f1,f2,f3,f4,f5⟩:=hf it (by simp)
  have W:=Walks.range (prog:=X.prog) (w:=X.w) (I.ok.hd hc) it lo 1 n
  refine W.item i s _ _ hg st fun v h' tk hv st' kk=>?_
  obtain⟨t,rfl⟩:=hv
  have I1:Inv X pins σ H { s with heap:=h',toks:=tk }:=I.turned (fun b o hb e=>kk b o (by simpa using hb) e) f0 f1 f3 f4 f5
  refine⟨_,rfl,aEN (s:={ s with heap:=h',toks:=tk }) (n:="range_iterator") st' rfl rfl (by decide) ⟨.int (lo+i),H,I1,⟨t,?_⟩,⟨rfl,rfl⟩,st',fun b hb=>(hf b hb).1⟩⟩
  rw[Int.mul_one]
 done:=by
  intro X hP hw hK hc i pins s σ H E I hf st hg
  subst hP hw hK
  obtain⟨f0,f1,f2,f3,f4,f5⟩:=hf it (by simp)
  exact wpAny_pyNext_range_end (I.ok.hd hc) st (by have:n≤i:=hg;omega) fun h' eb=>⟨rfl,I.turned (t':=s.toks) (fun b o hb e=>eb b o hb e) f0 f1 f3 f4 f5⟩
 self:=fun _ _ _ _ _ st h=>wpAny_pyIter_rangeiter st h
end L2
namespace L2
open PySem PySem.Spec PyProof.Rows
section
variable{X:Cx}{tg:Expr}
def aXZ(K:AE)(tl:TE):TI:=fun σ H R=>tl σ H fun x H1=>∃ a,x=.ref a∧(∃ xs,SqL K H1 a xs)∧R (Itl K a) H1
theorem bP{l:Expr}{tl:TE}(hl:PE X l tl):PI X tg l (aXZ X.K tl):=by
 intro pins s σ H R I h
 refine thn (hl pins s σ H _ I h) fun v s1 ⟨x,H1,I1,r1,q1⟩=>?_
 obtain⟨a,e,⟨xs,hq⟩,q⟩:=q1
 subst e
 cases r1
 obtain⟨its,rv,p,hz⟩:=I1.list hq
 refine Ct p.isList ?_
 refine⟨s1.heap.objs.size,[s1.heap.objs.size],_,_,H1,rfl,I1.kept (t':=s1.toks) fun b o e=>AF _ e,aJJ a _,⟨_,AZ _ rfl,rfl,rfl⟩,fun b hb=>?_,q⟩
 have e:b=s1.heap.objs.size:=by simpa using hb
 subst e
 exact I1.fpOk (AL _) (I1.hok.fresh (AL _))
theorem aDS{pins:List (Addr×Obj)}{σ:St}{H:Hp}{s:Shared}{R:It→Hp→Prop}{E:Value→Shared→Prop}{lo hi:Int}{t u v:Tok}{tk:Nat}(I:Inv X pins σ H s)(h1:-(2 ^ 62)≤lo)(h2:lo<2 ^ 62)(h3:-(2 ^ 62)≤hi)(h4:hi<2 ^ 62)
 (q:R (Itr lo (hi - lo).toNat) H):wpAny (model X.prog X.w) X.A (pyIter (.ref s.heap.objs.size)) (PIE X pins σ tg R) E { s with heap:=s.heap.push { cls:=.type "range",data:=.fields #[.int lo t,.int hi u,.int 1 v] },toks:=tk }:=by
 refine wpAny_pyIter_range (IsRange.new ..) (small_one h1 h2 h3 h4) ?_
 have I1:Inv X pins σ H { s with heap:=s.heap.push { cls:=.type "range",data:=.fields #[.int lo t,.int hi u,.int 1 v] },toks:=tk }:=I.kept fun b o e=>AF _ e
 refine⟨(s.heap.push { cls:=.type "range",data:=.fields #[.int lo t,.int hi u,.int 1 v] }).objs.size,[(s.heap.push { cls:=.type "range",data:=.fields #[.int lo t,.int hi u,.int 1 v] }).objs.size],_,_,H,rfl,
  I1.kept (t':=tk) fun b o e=>AF _ e,aFJ _ lo (hi - lo).toNat,?_,fun b hb=>?_,q⟩
 ·have e1:lo+((0:Nat):Int)*1=lo:=by simp
  have e2:(((hi - lo).toNat:Nat):Int) - ((0:Nat):Int)=Builtin.Range.rangeSize lo hi 1:=by rw[rangeSize_one];split <;> omega
  show IsRangeIter _ _ (lo+((0:Nat):Int)*1) ((((hi - lo).toNat:Nat):Int) - ((0:Nat):Int)) 1
  rw[e1,e2]
  exact AZ _ rfl
 ·have e:b=(s.heap.push { cls:=.type "range",data:=.fields #[.int lo t,.int hi u,.int 1 v] }).objs.size:=by simpa using hb
  subst e
  exact I1.fpOk (AL _) (I1.hok.fresh (AL _))
def aXY(ta:TA):TI:=fun σ H R=>ta σ H fun vs H1=>∃ j:Int,vs=[.int j]∧-(2 ^ 62)≤j∧j<2 ^ 62∧R (Itr 0 j.toNat) H1
def aXX(ta:TA):TI:=fun σ H R=>ta σ H fun vs H1=>∃ i j:Int,vs=[.int i,.int j]∧(-(2 ^ 62)≤i∧i<2 ^ 62∧-(2 ^ 62)≤j∧j<2 ^ 62)∧R (Itr i (j - i).toNat) H1
theorem iE{a:Expr}{ta:TA}{p pos:Pos}(hg:Gl X "range")(hm:X.mg "range"=none)(ha:PA X [a] ta)(hs:Ak [a] X.env=[(false,eval a X.env)]:=by rfl):PI X tg (.Call (.Name "range" p) [a] [] pos) (aXY ta):=by
 intro pins s σ H R I h
 refine Call_ (mO I hg hm boot_range (CA (thn (ha pos pins s σ H _ I h) fun us s1 ⟨vs,H1,I1,r1,q1⟩=>?_) hs rfl))
 obtain⟨j,e,q1,q2,q⟩:=q1
 subst e
 cases r1 with
 | cons r rr =>
  cases rr
  obtain⟨t,rfl⟩:=r
  exact call_range_1 (aDS I1 (by omega) (by omega) q1 q2 (by simpa using q))
theorem yW{a b:Expr}{ta:TA}{p pos:Pos}(hg:Gl X "range")(hm:X.mg "range"=none)(ha:PA X [a,b] ta)(hs:Ak [a,b] X.env=[(false,eval a X.env),(false,eval b X.env)]:=by rfl)(hs2:Ak [b] X.env=[(false,eval b X.env)]:=by rfl) :
  PI X tg (.Call (.Name "range" p) [a,b] [] pos) (aXX ta):=by
 intro pins s σ H R I h
 refine Call_ (mO I hg hm boot_range (CA (thn (ha pos pins s σ H _ I h) fun us s1 ⟨vs,H1,I1,r1,q1⟩=>?_) (by rw[hs,hs2]) (by rw[hs2];rfl)))
 obtain⟨i,j,e,⟨q1,q2,q3,q4⟩,q⟩:=q1
 subst e
 cases r1 with
 | cons r rr =>
  cases rr with
  | cons r' rr =>
   cases rr
   obtain⟨t,rfl⟩:=r
   obtain⟨t',rfl⟩:=r'
   exact call_range_2 (aDS I1 q1 q2 q3 q4 q)
def aWU(wi:TI)(g:TG)(tb:TS):TS:=fun D σ H=>wi σ H fun J H1=>∃ W:Nat→Nat→St→Hp→Prop,(∃ m,W 0 m σ H1)∧∀ i m σ H,W i m σ H →
 (J.stop i H∧D.nx σ H)∨(J.go i H∧∃ N:St→Hp→Prop,(∀ σ' H',N σ' H'→∃ m',m'<m∧W (i+1) m' σ' H')∧∀ x H',J.yld i H x H'→g x σ H' fun σ2 H2=>tb { D with nx:=N,ct:=N,bk:=D.nx } σ2 H2)
noncomputable def lZ(fp:List Addr)(h:Heap):List (Addr×Obj):=fp.filterMap fun b=>(h.get? b).map fun o=>(b,o)
theorem kM{fp:List Addr}{h:Heap}{b:Addr}{o:Obj}(hb:b∈fp)(e:h.get? b=some o):(b,o)∈lZ fp h:=Et.mpr ⟨b,hb,by rw[e];rfl⟩
theorem zA{fp:List Addr}{h:Heap}{p:Addr×Obj}(hp:p∈lZ fp h):p.1∈fp∧h.get? p.1=some p.2:=by
 obtain⟨b,hb,e⟩:=Et.mp hp
 cases q:h.get? b with
 | none=>rw[q] at e;cases e
 | some o =>
  rw[q] at e
  have e':(b,o)=p:=Ao e
  subst e'
  exact⟨hb,q⟩
theorem Inv.pinned{pins:List (Addr×Obj)}{σ:St}{H:Hp}{s:Shared}{fp:List Addr}(I:Inv X pins σ H s)(hf:∀ b∈fp,aCP X pins H b)(ho:∀ b∈fp,∃ o,s.heap.get? b=some o∧∀ v,o.data≠.cell v):Inv X (pins++lZ fp s.heap) σ H s :=
 I.pins_of fun p hp=>(Ar.mp hp).elim (fun z=>I.pin p (Ah _ z)) fun z=>by
  obtain⟨hb,e⟩:=zA z
  obtain⟨f0,f1,f2,_⟩:=hf p.1 hb
  obtain⟨o,e',d⟩:=ho p.1 hb
  rw[e] at e';cases e'
  exact⟨e,f0,f1,f2,d⟩
theorem Inv.unpinned{pins pl:List (Addr×Obj)}{σ:St}{H:Hp}{s:Shared}(I:Inv X (pins++pl) σ H s):Inv X pins σ H s:=I.pins_of fun p hp=>I.pin p (Ah _ (CC _ hp))
theorem gK{iter:Expr}{body:List Stmt}{wi:TI}{g:TG}{tb:TS}{pos:Pos}(hp:Bu (model X.prog X.w) X.A X.env X.xe)(hc:X.calm=true)(hi:PI X tg iter wi)(hg:PG X tg g)(hb:PSs X body tb)
 (hs:∀ x,FT iter X.env x=pure x:=by intro _;rfl):PS X (.For tg iter body [] pos) (aWU wi g tb):=by
 intro pins s σ H D I h
 refine wpAny_For (thn (hi pins s σ H _ I h) fun v s1 h1=>thn h1 fun itv s2 h2=>?_) hs
 obtain⟨it,fp,tn,J,H2,e,I2,T,st2,f2,W,⟨m0,w0⟩,turn⟩:=h2
 subst e
 have stat:∀ {H':Hp},(∀ b∈fp,H' b=none)→∀ b∈fp,aCP X pins H' b:=fun hn b hb=>⟨hn b hb,(f2 b hb).2⟩
 refine codeAny_forLoop_any (fun n s'=>∃ i σ' H',Inv X pins σ' H' s'∧tn i s'.heap∧(∀ b∈fp,H' b=none)∧W i n σ' H') ?_ m0 ⟨0,σ,H2,I2,st2,fun b hb=>(f2 b hb).1,w0⟩
 rintro n s3 ⟨i,σ3,H3,I3,st3,fr3,w3⟩
 rcases turn i n σ3 H3 w3 with ⟨stop,qn⟩ | ⟨go,N,hN,step⟩
 ·refine Cp hp (thn (T.done X rfl rfl rfl hc i pins s3 σ3 H3 X.xe I3 (stat fr3) st3 stop) fun r s4 ⟨hr,I4⟩=>?_)
  subst hr
  exact Cq ⟨σ3,H3,I4,qn⟩
 ·refine Cp hp (thn (T.item X rfl rfl rfl hc i pins s3 σ3 H3 X.xe I3 (stat fr3) st3 go) fun r s4 ⟨u,hr,h4⟩=>?_)
  subst hr
  refine Cp hp (thn h4 fun _ s5 ⟨x,H5,I5,r5,y5,st5,fr5⟩=>?_)
  have I5':=I5.pinned (stat fr5) (T.obj _ _ st5)
  refine Cp hp (thn (hg _ s5 σ3 H5 x u _ I5' r5 (step x H5 y5)) fun _ s6 ⟨σ6,H6,I6,q6⟩=>?_)
  refine Cp hp (thn (hb _ s6 σ6 H6 _ I6 q6) fun f s7 q7=>?_)
  have again:∀ {σ7:St} {H7:Hp},Inv X (pins++lZ fp s5.heap) σ7 H7 s7→N σ7 H7→∃ m,m<n∧∃ i σ' H',Inv X pins σ' H' s7∧tn i s7.heap∧(∀ b∈fp,H' b=none)∧W i m σ' H':=fun {σ7 H7} I7 n7=>by
   obtain⟨m',hm,w7⟩:=hN σ7 H7 n7
   refine⟨m',hm,i+1,σ7,H7,I7.unpinned,T.keep _ _ _ st5 fun b hb o e=>(I7.pin (b,o) (Ah _ (Ah _ (kM hb e)))).1,fun b hb=>?_,w7⟩
   obtain⟨o,e,d⟩:=T.obj _ _ st5 b hb
   exact (I7.pin (b,o) (Ah _ (Ah _ (kM hb e)))).2.1
  cases f with
  | next=>obtain⟨σ7,H7,I7,n7⟩:=q7;exact again I7 n7
  | cont=>obtain⟨σ7,H7,I7,n7⟩:=q7;exact again I7 n7
  | brk=>obtain⟨σ7,H7,I7,q7⟩:=q7;exact⟨σ7,H7,I7.unpinned,q7⟩
  | ret v=>obtain⟨x7,σ7,H7,I7,r7,q7⟩:=q7;exact⟨x7,σ7,H7,I7.unpinned,r7,q7⟩
end
theorem qS{K:AE}{a:Addr}{xs:List V}{g:TG}{tb:TS}{D:Ends}{σ:St}{H:Hp}(Pv:Nat→St→Hp→Prop)(h0:Pv 0 σ H)(hl:∀ i σ H,i≤xs.length→Pv i σ H→SqL K H a xs)
 (hs:∀ i x σ H,xs[i]?=some x→Pv i σ H→g x σ H fun σ2 H2=>tb { D with nx:=Pv (i+1),ct:=Pv (i+1),bk:=D.nx } σ2 H2)(hd:∀ σ H,Pv xs.length σ H→D.nx σ H) :
  ∃ W:Nat→Nat→St→Hp→Prop,(∃ m,W 0 m σ H)∧∀ i m σ H,W i m σ H →
   ((Itl K a).stop i H∧D.nx σ H)∨((Itl K a).go i H∧∃ N:St→Hp→Prop,(∀ σ' H',N σ' H'→∃ m',m'<m∧W (i+1) m' σ' H')∧∀ x H',(Itl K a).yld i H x H'→g x σ H' fun σ2 H2=>tb { D with nx:=N,ct:=N,bk:=D.nx } σ2 H2):=by
 refine⟨fun i m σ H=>m=xs.length - i∧i≤xs.length∧Pv i σ H,⟨xs.length,by simp,BN _,h0⟩,?_⟩
 rintro i m σ H ⟨rfl,hi,p⟩
 have q:=hl i σ H hi p
 by_cases hlt:i<xs.length
 ·refine .inr ⟨⟨xs,xs[i],q,by simp[hlt]⟩,Pv (i+1),fun σ' H' p'=>⟨xs.length - (i+1),by omega,rfl,hlt,p'⟩,fun x H' y=>?_⟩
  obtain⟨e,y⟩:=y
  subst e
  exact hs i x σ _ (y xs q) p
 ·have e:i=xs.length:=by omega
  subst e
  exact .inl ⟨⟨xs,q,AL _⟩,hd σ H p⟩
theorem gM{lo:Int}{n:Nat}{g:TG}{tb:TS}{D:Ends}{σ:St}{H:Hp}(Pv:Nat→St→Hp→Prop)(h0:Pv 0 σ H)
 (hs:∀ i σ H,i<n→Pv i σ H→g (.int (lo+i)) σ H fun σ2 H2=>tb { D with nx:=Pv (i+1),ct:=Pv (i+1),bk:=D.nx } σ2 H2)(hd:∀ σ H,Pv n σ H→D.nx σ H) :
  ∃ W:Nat→Nat→St→Hp→Prop,(∃ m,W 0 m σ H)∧∀ i m σ H,W i m σ H →
   ((Itr lo n).stop i H∧D.nx σ H)∨((Itr lo n).go i H∧∃ N:St→Hp→Prop,(∀ σ' H',N σ' H'→∃ m',m'<m∧W (i+1) m' σ' H')∧∀ x H',(Itr lo n).yld i H x H'→g x σ H' fun σ2 H2=>tb { D with nx:=N,ct:=N,bk:=D.nx } σ2 H2):=by
 refine⟨fun i m σ H=>m=n - i∧i≤n∧Pv i σ H,⟨n,by simp,BN _,h0⟩,?_⟩
 rintro i m σ H ⟨rfl,hi,p⟩
 by_cases hlt:i<n
 ·refine .inr ⟨hlt,Pv (i+1),fun σ' H' p'=>⟨n - (i+1),by omega,rfl,hlt,p'⟩,fun x H' y=>?_⟩
  obtain⟨e,y⟩:=y
  subst e y
  exact hs i σ _ hlt p
 ·have e:i=n:=by omega
  subst e
  exact .inl ⟨AL _,hd σ H p⟩
theorem pM{c:TT}{tb:TS}{D:Ends}{σ:St}{H:Hp}(Pv:St→Hp→Prop)(μ:St→Hp→Nat)(h0:Pv σ H)
 (hs:∀ σ H,Pv σ H→c σ H fun b H1=>if b=true then tb { D with nx:=fun σ' H'=>Pv σ' H'∧μ σ' H'<μ σ H,ct:=fun σ' H'=>Pv σ' H'∧μ σ' H'<μ σ H,bk:=D.nx } σ H1 else D.nx σ H1)
 (mono:∀ σ H Q Q',(∀ b H1,Q b H1→Q' b H1)→c σ H Q→c σ H Q'):aLI c tb D σ H:=by
 refine⟨fun m σ H=>m=μ σ H∧Pv σ H,⟨_,rfl,h0⟩,?_⟩
 rintro m σ H ⟨rfl,p⟩
 refine mono σ H _ _ (fun b H1 q=>?_) (hs σ H p)
 cases b with
 | true=>exact⟨_,fun σ' H' ⟨p',l⟩=>⟨_,l,rfl,p'⟩,q⟩
 | false=>exact q
end L2
namespace L2
open PySem PySem.Spec PyProof.Rows
abbrev R2:=V→V→Hp→VK→Prop
def OpR(X:Cx)(f:Value→Value→Sem Value)(r:R2):Prop :=
 ∀ (pins:List (Addr×Obj)) (s:Shared) (σ:St) (H:Hp) (x y:V) (v u:Value) (Q:VK),Inv X pins σ H s→bI x v→bI y u→r x y H Q →
  wpAny (model X.prog X.w) X.A (f v u) (EP X pins σ Q) X.xe s
def UnR(X:Cx)(f:Value→Sem Value)(r:V→Hp→VK→Prop):Prop :=
 ∀ (pins:List (Addr×Obj)) (s:Shared) (σ:St) (H:Hp) (x:V) (v:Value) (Q:VK),Inv X pins σ H s→bI x v→r x H Q →
  wpAny (model X.prog X.w) X.A (f v) (EP X pins σ Q) X.xe s
def eP(X:Cx)(f:Value)(r:List V→Hp→VK→Prop):Prop :=
 ∀ (pins:List (Addr×Obj)) (s:Shared) (σ:St) (H:Hp) (xs:List V) (us:List Value) (Q:VK),Inv X pins σ H s→bD xs us→r xs H Q →
  wpAny (model X.prog X.w) X.A (call f us) (EP X pins σ Q) X.xe s
def tOp(r:R2)(ta tb:TE):TE:=fun σ H Q=>ta σ H fun x H1=>tb σ H1 fun y H2=>r x y H2 Q
def tUn(r:V→Hp→VK→Prop)(ta:TE):TE:=fun σ H Q=>ta σ H fun x H1=>r x H1 Q
def rI(C:Int→Int→Prop)(g:Int→Int→V):R2:=fun x y H Q=>∃ i j,x=.int i∧y=.int j∧C i j∧Q (g i j) H
def rI0(g:Int→Int→V):R2:=fun x y H Q=>∃ i j,x=.int i∧y=.int j∧Q (g i j) H
def rU(g:Int→V):V→Hp→VK→Prop:=fun x H Q=>∃ i,x=.int i∧Q (g i) H
section
variable{X:Cx}{a b c:Expr}{ta tb tc:TE}{pos:Pos}
theorem aWD(ha:PE X a ta)(hb:PE X b tb){pins:List (Addr×Obj)}{s:Shared}{σ:St}{H:Hp}{R:V→V→Hp→Prop}(I:Inv X pins σ H s)
 (h:ta σ H fun x H1=>tb σ H1 fun y H2=>R x y H2){Q:Value→Shared→Prop}{f:Value→Value→Sem Value}
 (hf:∀ v u s2 x y H2,Inv X pins σ H2 s2→bI x v→bI y u→R x y H2→wpAny (model X.prog X.w) X.A (f v u) Q X.xe s2) :
  wpAny (model X.prog X.w) X.A (eval a X.env) (fun v s₁=>wpAny (model X.prog X.w) X.A (eval b X.env) (fun u s₂=>wpAny (model X.prog X.w) X.A (f v u) Q X.xe s₂) X.xe s₁) X.xe s:=by
 refine thn (ha pins s σ H _ I h) fun v s1 ⟨x,H1,I1,r1,q1⟩=>?_
 refine thn (hb pins s1 σ H1 _ I1 q1) fun u s2 ⟨y,H2,I2,r2,q2⟩=>?_
 exact hf v u s2 x y H2 I2 r1 r2 q2
theorem aM{op:Operator}{r:R2}(ho:OpR X (DF op) r)(ha:PE X a ta)(hb:PE X b tb):PE X (.BinOp a op b pos) (tOp r ta tb):=by
 intro pins s σ H Q I h
 exact wpAny_BinOp (aWD ha hb I h fun v u s2 x y H2 I2 rx ry q=>ho pins s2 σ H2 x y v u Q I2 rx ry q)
theorem aNA{op:UnaryOp}{r:V→Hp→VK→Prop}(ho:UnR X (unaryOp op) r)(ha:PE X a ta):PE X (.UnaryOp op a pos) (tUn r ta):=by
 intro pins s σ H Q I h
 exact UnaryOp_ (thn (ha pins s σ H _ I h) fun v s1 ⟨x,H1,I1,r1,q1⟩=>ho pins s1 σ H1 x v Q I1 r1 q1)
theorem opI{f:Value→Value→Sem Value}{C:Int→Int→Prop}{g:Int→Int→Int}
 (rule:∀ (i j:Int) (t u:Tok) (s:Shared) (Q:Value→Shared→Prop) (E:Value→Shared→Prop),C i j→Q (.int (g i j) s.toks) { s with toks:=s.toks+1 }→wpAny (model X.prog X.w) X.A (f (.int i t) (.int j u)) Q E s) :
  OpR X f (rI C fun i j=>.int (g i j)):=by
 intro pins s σ H x y v u Q I rx ry h
 obtain⟨i,j,rfl,rfl,hc,q⟩:=h
 obtain⟨t,rfl⟩:=rx
 obtain⟨t',rfl⟩:=ry
 exact rule i j t t' s _ _ hc ⟨.int (g i j),H,I.tok _,⟨_,rfl⟩,q⟩
theorem aXM{f:Value→Value→Sem Value}{g:Int→Int→Int}
 (rule:∀ (i j:Int) (t u:Tok) (s:Shared) (Q:Value→Shared→Prop) (E:Value→Shared→Prop),Q (.int (g i j) s.toks) { s with toks:=s.toks+1 }→wpAny (model X.prog X.w) X.A (f (.int i t) (.int j u)) Q E s) :
  OpR X f (rI0 fun i j=>.int (g i j)):=by
 intro pins s σ H x y v u Q I rx ry h
 obtain⟨i,j,rfl,rfl,q⟩:=h
 obtain⟨t,rfl⟩:=rx
 obtain⟨t',rfl⟩:=ry
 exact rule i j t t' s _ _ ⟨.int (g i j),H,I.tok _,⟨_,rfl⟩,q⟩
theorem aRC{f:Value→Value→Sem Value}{g:Int→Int→Bool}
 (rule:∀ (i j:Int) (t u:Tok) (s:Shared) (Q:Value→Shared→Prop) (E:Value→Shared→Prop),Q (.bool (g i j)) s→wpAny (model X.prog X.w) X.A (f (.int i t) (.int j u)) Q E s) :
  OpR X f (rI0 fun i j=>.bl (g i j)):=by
 intro pins s σ H x y v u Q I rx ry h
 obtain⟨i,j,rfl,rfl,q⟩:=h
 obtain⟨t,rfl⟩:=rx
 obtain⟨t',rfl⟩:=ry
 exact rule i j t t' s _ _ ⟨.bl (g i j),H,I,rfl,q⟩
def aZU(i j:Int):Prop:=0≤j∧j≤1000000∧i.natAbs<2 ^ 64
def aSO(i j:Int):Prop:=(-(2 ^ 64)<i∧i<2 ^ 64)∨(-(2 ^ 64)<j∧j<2 ^ 64)
theorem aSO.ok{i j:Int}(h:aSO i j):IntMulOk i j:=by
 rcases h with ⟨h1,h2⟩ | ⟨h1,h2⟩
 ·exact .of_left (intBits_le_64 h1 h2)
 ·exact .of_right (intBits_le_64 h1 h2)
theorem fK:OpR X (DF .Add) (rI0 fun i j=>.int (i+j)):=aXM fun _ _ _ _ _ _ _ q=>add_int q
theorem eY:OpR X (DF .Sub) (rI0 fun i j=>.int (i - j)):=aXM fun _ _ _ _ _ _ _ q=>sub_int q
theorem jG:OpR X (DF .Mult) (rI aSO fun i j=>.int (i*j)):=opI fun _ _ _ _ _ _ _ hc q=>mul_int q hc.ok
theorem dC:OpR X (DF .Mod) (rI (fun _ j=>0<j) fun i j=>.int (i % j)):=opI fun i j _ _ _ _ _ hc q=>by
 have h1:(0:Int)<j:=hc
 exact mod_int' (by omega) (by rw[Int.fmod_eq_emod_of_nonneg i (by omega)];exact q)
theorem fY:OpR X (DF .Pow) (rI aZU fun i j=>.int (i ^ j.toNat)):=opI fun _ _ _ _ _ _ _ hc q=>pow_int_small hc.1 hc.2.1 hc.2.2 q
theorem unI{f:Value→Sem Value}{g:Int→Int}
 (rule:∀ (i:Int) (t:Tok) (s:Shared) (Q:Value→Shared→Prop) (E:Value→Shared→Prop),Q (.int (g i) s.toks) { s with toks:=s.toks+1 }→wpAny (model X.prog X.w) X.A (f (.int i t)) Q E s) :
  UnR X f (rU fun i=>.int (g i)):=by
 intro pins s σ H x v Q I rx h
 obtain⟨i,rfl,q⟩:=h
 obtain⟨t,rfl⟩:=rx
 exact rule i t s _ _ ⟨.int (g i),H,I.tok _,⟨_,rfl⟩,q⟩
theorem aFI:UnR X (unaryOp .USub) (rU fun i=>.int (-i)):=unI fun _ _ _ _ _ q=>neg_int q
end
noncomputable def aWY:V→V→Bool
 | .non,.non=>true | .non,.int _=>true | .int _,.non=>true | .non,.bl _=>true | .bl _,.non=>true | .non,.str _=>true | .str _,.non=>true
 | .int _,.int _=>true | .bl _,.bl _=>true | .str _,.str _=>true | .byt _,.byt _=>true
 | .int _,.str _=>true | .str _,.int _=>true | .bl _,.str _=>true | .str _,.bl _=>true
 | _,_=>false
def rEq:R2:=fun x y H Q=>aWY x y=true∧Q (.bl (decide (x=y))) H
def rNe:R2:=fun x y H Q=>aWY x y=true∧Q (.bl (!decide (x=y))) H
theorem gR{i j:Int}:decide (V.int i=V.int j)=(i == j):=by
 rw[Bb]
 simp
theorem aOT{i j:Bool}:decide (V.bl i=V.bl j)=(i == j):=by
 rw[Bb]
 simp
theorem kP{i j:Str}:decide (V.str i=V.str j)=(i == j):=by
 rw[Bb]
 simp
theorem aJB{i j:Array UInt8}:decide (V.byt i=V.byt j)=(i.toList == j.toList):=by
 rw[Bb]
 cases i
 cases j
 simp
section
variable{X:Cx}{a b c:Expr}{ta tb tc:TE}{pos:Pos}
theorem cA{pins:List (Addr×Obj)}{σ:St}{H:Hp}{s:Shared}{Q:VK}{k k':Bool}(I:Inv X pins σ H s)(q:Q (.bl k) H)(e:k=k'):EP X pins σ Q (.bool k') s:=by
 subst e
 exact⟨.bl k,H,I,rfl,q⟩
theorem kY:OpR X (BU .Eq) rEq:=by
 intro pins s σ H x y v u Q I rx ry h
 obtain⟨hs,q⟩:=h
 cases x with
 | non =>
  cases rx
  cases y with
  | non=>cases ry;exact PySem.EqNone.eq_none_none (cA I q (by simp))
  | bl j=>cases ry;exact PySem.EqNone.eq_none_bool (cA I q (by simp))
  | int j=>obtain⟨t',rfl⟩:=ry;exact PySem.EqNone.eq_none_int (cA I q (by simp))
  | str j=>obtain⟨t',rfl⟩:=ry;exact PySem.EqNone.eq_none_str (cA I q (by simp))
  | _=>exact absurd (show false=true from hs) AQ
 | bl i =>
  cases rx
  cases y with
  | non=>cases ry;exact PySem.EqNone.eq_bool_none (cA I q (by simp))
  | bl j=>cases ry;exact eq_bool (cA I q aOT)
  | str j=>obtain⟨t',rfl⟩:=ry;exact PySem.EqMixed.eq_bool_str (cA I q (by simp))
  | _=>exact absurd (show false=true from hs) AQ
 | int i =>
  obtain⟨t,rfl⟩:=rx
  cases y with
  | non=>cases ry;exact PySem.EqNone.eq_int_none (cA I q (by simp))
  | int j=>obtain⟨t',rfl⟩:=ry;exact eq_int (cA I q gR)
  | str j=>obtain⟨t',rfl⟩:=ry;exact PySem.EqMixed.eq_int_str (cA I q (by simp))
  | _=>exact absurd (show false=true from hs) AQ
 | str i =>
  obtain⟨t,rfl⟩:=rx
  cases y with
  | non=>cases ry;exact PySem.EqNone.eq_str_none (cA I q (by simp))
  | bl j=>cases ry;exact PySem.EqMixed.eq_str_bool (cA I q (by simp))
  | int j=>obtain⟨t',rfl⟩:=ry;exact PySem.EqMixed.eq_str_int (cA I q (by simp))
  | str j=>obtain⟨t',rfl⟩:=ry;exact eq_str (cA I q kP)
  | _=>exact absurd (show false=true from hs) AQ
 | byt i =>
  obtain⟨t,rfl⟩:=rx
  cases y with
  | byt j=>obtain⟨t',rfl⟩:=ry;exact PySem.W.eq_bytes (cA I q aJB)
  | _=>exact absurd (show false=true from hs) AQ
 | _=>cases y <;> exact absurd (show false=true from hs) AQ
theorem mD:OpR X (BU .NotEq) rNe:=by
 intro pins s σ H x y v u Q I rx ry h
 obtain⟨hs,q⟩:=h
 cases x with
 | non =>
  cases rx
  cases y with
  | non=>cases ry;exact PySem.EqNone.ne_none_none (cA I q (by simp))
  | bl j=>cases ry;exact PySem.EqNone.ne_none_bool (cA I q (by simp))
  | int j=>obtain⟨t',rfl⟩:=ry;exact PySem.EqNone.ne_none_int (cA I q (by simp))
  | str j=>obtain⟨t',rfl⟩:=ry;exact PySem.EqNone.ne_none_str (cA I q (by simp))
  | _=>exact absurd (show false=true from hs) AQ
 | bl i =>
  cases rx
  cases y with
  | non=>cases ry;exact PySem.EqNone.ne_bool_none (cA I q (by simp))
  | bl j=>cases ry;exact ne_bool (cA I q (congrArg not aOT))
  | str j=>obtain⟨t',rfl⟩:=ry;exact PySem.EqMixed.ne_bool_str (cA I q (by simp))
  | _=>exact absurd (show false=true from hs) AQ
 | int i =>
  obtain⟨t,rfl⟩:=rx
  cases y with
  | non=>cases ry;exact PySem.EqNone.ne_int_none (cA I q (by simp))
  | int j=>obtain⟨t',rfl⟩:=ry;exact ne_int (cA I q (congrArg not gR))
  | str j=>obtain⟨t',rfl⟩:=ry;exact PySem.EqMixed.ne_int_str (cA I q (by simp))
  | _=>exact absurd (show false=true from hs) AQ
 | str i =>
  obtain⟨t,rfl⟩:=rx
  cases y with
  | non=>cases ry;exact PySem.EqNone.ne_str_none (cA I q (by simp))
  | bl j=>cases ry;exact PySem.EqMixed.ne_str_bool (cA I q (by simp))
  | int j=>obtain⟨t',rfl⟩:=ry;exact PySem.EqMixed.ne_str_int (cA I q (by simp))
  | str j=>obtain⟨t',rfl⟩:=ry;exact ne_str (cA I q (congrArg not kP))
  | _=>exact absurd (show false=true from hs) AQ
 | byt i =>
  obtain⟨t,rfl⟩:=rx
  cases y with
  | byt j=>obtain⟨t',rfl⟩:=ry;exact PySem.W.ne_bytes (cA I q (congrArg not aJB))
  | _=>exact absurd (show false=true from hs) AQ
 | _=>cases y <;> exact absurd (show false=true from hs) AQ
theorem yY:OpR X (BU .Lt) (rI0 fun i j=>.bl (decide (i<j))):=aRC fun _ _ _ _ _ _ _ q=>lt_int q
theorem tK:OpR X (BU .LtE) (rI0 fun i j=>.bl (decide (i≤j))):=aRC fun _ _ _ _ _ _ _ q=>le_int q
theorem aNG:OpR X (BU .Gt) (rI0 fun i j=>.bl (decide (j<i))):=aRC fun _ _ _ _ _ _ _ q=>gt_int q
theorem aXL:OpR X (BU .GtE) (rI0 fun i j=>.bl (decide (j≤i))):=aRC fun _ _ _ _ _ _ _ q=>ge_int q
theorem aKB:OpR X (BU .In) (fun x y H Q=>∃ i j,x=.str i∧y=.str j∧Q (.bl (!(Builtin.Str.occurrences j i 0 j.length 1).isEmpty)) H):=by
 intro pins s σ H x y v u Q I rx ry h
 obtain⟨i,j,rfl,rfl,q⟩:=h
 obtain⟨t,rfl⟩:=rx
 obtain⟨t',rfl⟩:=ry
 exact in_str (cA I q rfl)
theorem aUY:OpR X (BU .Is) (fun x y H Q=>y=.non∧Q (.bl (decide (x=.non))) H):=by
 intro pins s σ H x y v u Q I rx ry h
 obtain⟨rfl,q⟩:=h
 cases ry
 refine is_none_gen (cA I q ?_)
 cases x <;> first
  | (cases rx;rfl)
  | (obtain⟨t,rfl⟩:=rx;rfl)
theorem aRB:OpR X (BU .IsNot) (fun x y H Q=>y=.non∧Q (.bl (!decide (x=.non))) H):=by
 intro pins s σ H x y v u Q I rx ry h
 obtain⟨rfl,q⟩:=h
 cases ry
 refine isnot_none_gen (cA I q ?_)
 cases x <;> first
  | (cases rx;rfl)
  | (obtain⟨t,rfl⟩:=rx;rfl)
theorem bT(b:Expr){op:CmpOp}(h:op≠.In:=by decide)(h2:op≠.NotIn:=by decide):EL op b=false:=by
 have e1:(op == CmpOp.In)=false:=by cases op <;> first | rfl | exact absurd rfl h
 have e2:(op == CmpOp.NotIn)=false:=by cases op <;> first | rfl | exact absurd rfl h2
 cases b <;> simp[EL,e1,e2]
theorem dW{op:CmpOp}{r:R2}(ho:OpR X (BU op) r)(ha:PE X a ta)(hb:PE X b tb)(hm:EL op b=false):PE X (.Compare a [op] [b] pos) (tOp r ta tb):=by
 intro pins s σ H Q I h
 exact wpAny_Compare1 (aWD ha hb I h fun v u s2 x y H2 I2 rx ry q=>ho pins s2 σ H2 x y v u Q I2 rx ry q) hm
def aSR(t:TE):TT:=fun σ H Q=>t σ H fun x H'=>∃ k,x=.bl k∧Q k H'
theorem cB{op:CmpOp}{r:R2}(ho:OpR X (BU op) r)(ha:PE X a ta)(hb:PE X b tb)(hm:EL op b=false):PT X (.Compare a [op] [b] pos) (aSR (tOp r ta tb)):=by
 intro pins s σ H Q I h
 refine wpAny_isTrue_Compare1 (thn (ha pins s σ H _ I h) fun v s1 ⟨x,H1,I1,r1,q1⟩=>thn (hb pins s1 σ H1 _ I1 q1) fun u s2 ⟨y,H2,I2,r2,q2⟩ =>
  thn (ho pins s2 σ H2 x y v u _ I2 r1 r2 q2) fun c s3 ⟨z,H3,I3,r3,k,e,q3⟩=>?_) hm
 subst e
 cases r3
 exact Bo ⟨H3,I3,q3⟩
def aLK(r r':R2)(ta tb tc:TE):TE:=fun σ H Q=>ta σ H fun x H1=>tb σ H1 fun y H2=>r x y H2 fun z H3=>∃ k,z=.bl k ∧
 (if k=true then tc σ H3 fun w' H4=>r' y w' H4 Q else Q (.bl false) H3)
theorem vZ{op op':CmpOp}{r r':R2}(ho:OpR X (BU op) r)(ho':OpR X (BU op') r')(ha:PE X a ta)(hb:PE X b tb)(hc:PE X c tc)
 (hm:lastMarks [op,op'] [b,c]=false:=by with_unfolding_all rfl):PE X (.Compare a [op,op'] [b,c] pos) (aLK r r' ta tb tc):=by
 intro pins s σ H Q I h
 refine Compare_chain (thn (ha pins s σ H _ I h) fun v s1 ⟨x,H1,I1,r1,q1⟩=>chain_link (thn (hb pins s1 σ H1 _ I1 q1) fun u s2 ⟨y,H2,I2,r2,q2⟩ =>
  thn (ho pins s2 σ H2 x y v u _ I2 r1 r2 q2) fun d s3 ⟨z,H3,I3,r3,k,e,q3⟩=>?_)) hm
 subst e
 cases r3
 refine Bo ?_
 cases k with
 | false=>exact ite_ff ⟨.bl false,H3,I3,rfl,q3⟩
 | true=>exact ite_tt (chain_last (thn (hc pins s3 σ H3 _ I3 q3) fun w' s4 ⟨z',H4,I4,r4,q4⟩=>ho' pins s4 σ H4 y z' u w' Q I4 r2 r4 q4))
theorem aMT{op op':CmpOp}{r r':R2}(ho:OpR X (BU op) r)(ho':OpR X (BU op') r')(ha:PE X a ta)(hb:PE X b tb)(hc:PE X c tc)
 (hm:lastMarks [op,op'] [b,c]=false:=by with_unfolding_all rfl):PT X (.Compare a [op,op'] [b,c] pos) (aSR (aLK r r' ta tb tc)):=by
 intro pins s σ H Q I h
 refine isTrue_chain (thn (ha pins s σ H _ I h) fun v s1 ⟨x,H1,I1,r1,q1⟩=>test_link (thn (hb pins s1 σ H1 _ I1 q1) fun u s2 ⟨y,H2,I2,r2,q2⟩ =>
  thn (ho pins s2 σ H2 x y v u _ I2 r1 r2 q2) fun d s3 ⟨z,H3,I3,r3,k,e,q3⟩=>?_)) hm
 subst e
 cases r3
 refine Bo ?_
 cases k with
 | false =>
  obtain⟨k',e',q'⟩:=q3
  cases e'
  exact ite_ff ⟨H3,I3,q'⟩
 | true =>
  refine ite_tt (test_last (thn (hc pins s3 σ H3 _ I3 q3) fun w' s4 ⟨z',H4,I4,r4,q4⟩=>thn (ho' pins s4 σ H4 y z' u w' _ I4 r2 r4 q4) fun d' s5 ⟨z2,H5,I5,r5,k2,e2,q5⟩=>?_))
  subst e2
  cases r5
  exact Bo ⟨H5,I5,q5⟩
theorem wK:(Am:Nat)<2 ^ 63:=by rw[CZ];decide
theorem kI:OpR X (DF .Add) (fun x y H Q=>∃ i j,x=.str i∧y=.str j∧i.length+j.length≤Am∧Q (.str (i++j)) H):=by
 intro pins s σ H x y v u Q I rx ry h
 obtain⟨i,j,rfl,rfl,hz,q⟩:=h
 obtain⟨t,rfl⟩:=rx
 obtain⟨t',rfl⟩:=ry
 exact add_str (fun t' tk=>⟨.str (i++j),H,I.tok _,⟨_,rfl⟩,q⟩) hz
theorem uV{x:V}{us:List Value}(r:bD [x] us):∃ u,us=[u]∧bI x u:=by
 cases r with
 | cons r1 r2=>cases r2;exact⟨_,rfl,r1⟩
theorem aSQ{x y:V}{us:List Value}(r:bD [x,y] us):∃ u w',us=[u,w']∧bI x u∧bI y w':=by
 cases r with
 | cons r1 r2 =>
  cases r2 with
  | cons r3 r4=>cases r4;exact⟨_,_,rfl,r1,r3⟩
theorem aPC:eP X (.builtin "abs") (fun xs H Q=>∃ i,xs=[.int i]∧Q (.int (if i<0 then -i else i)) H):=by
 intro pins s σ H xs us Q I r h
 obtain⟨i,rfl,q⟩:=h
 obtain⟨u,rfl,t,rfl⟩:=uV r
 exact call_abs_int fun u tk=>⟨.int (if i<0 then -i else i),H,I.tok _,⟨_,rfl⟩,q⟩
theorem zY(hc:X.calm=true):eP X (.builtin "max") (fun xs H Q=>∃ i j,xs=[.int i,.int j]∧Q (.int (if j>i then j else i)) H):=by
 intro pins s σ H xs us Q I r h
 obtain⟨i,j,rfl,q⟩:=h
 obtain⟨u,w',rfl,⟨t,rfl⟩,⟨t',rfl⟩⟩:=aSQ r
 refine max_two_ints (I.ok.hd hc) fun h' tk k=>⟨_,H,I.kept k,?_,q⟩
 by_cases hj:j>i
 ·rw[if_pos hj,if_pos hj];exact⟨_,rfl⟩
 ·rw[if_neg hj,if_neg hj];exact⟨_,rfl⟩
theorem zX(hc:X.calm=true):eP X (.builtin "min") (fun xs H Q=>∃ i j,xs=[.int i,.int j]∧Q (.int (if j<i then j else i)) H):=by
 intro pins s σ H xs us Q I r h
 obtain⟨i,j,rfl,q⟩:=h
 obtain⟨u,w',rfl,⟨t,rfl⟩,⟨t',rfl⟩⟩:=aSQ r
 refine min_two_ints (I.ok.hd hc) fun h' tk k=>⟨_,H,I.kept k,?_,q⟩
 by_cases hj:j<i
 ·rw[if_pos hj,if_pos hj];exact⟨_,rfl⟩
 ·rw[if_neg hj,if_neg hj];exact⟨_,rfl⟩
theorem zZ:eP X (.type "int") (fun xs H Q=>(∃ i,xs=[.int i]∧Q (.int i) H)∨∃ k,xs=[.bl k]∧Q (.int (if k then 1 else 0)) H):=by
 intro pins s σ H xs us Q I r h
 rcases h with ⟨i,rfl,q⟩ | ⟨k,rfl,q⟩
 ·obtain⟨u,rfl,t,rfl⟩:=uV r
  exact call_int_int ⟨.int i,H,I,⟨_,rfl⟩,q⟩
 ·obtain⟨u,rfl,r1⟩:=uV r
  cases r1
  exact call_int_bool ⟨.int (if k then 1 else 0),H,I.tok _,⟨_,rfl⟩,q⟩
end
end L2
namespace L2
open PySem PySem.Spec PyProof.Rows
structure ObjM (h:Heap) (x dx C:Addr) (mA:Str→Option Value):Prop where
 obj:h.get? x=some (CO C dx)
 ns:h.Ns1 dx mA
 ne:dx≠x
theorem aKI{h:Heap}{dx:Addr}{mA:Str→Option Value}(n:h.Ns1 dx mA):∃ od,h.get? dx=some od∧∀ name,EM name od=some (mA name):=by
 obtain⟨o,es,ep,ho,hd,hk,_,hm⟩:=n
 refine⟨o,ho,fun name=>?_⟩
 have e:=hm name
 unfold nsFind findBy at e
 rw[← Array.find?_toList] at e
 unfold EM
 rw[hd]
 dsimp only
 split
 ·rename_i y q
  rw[q] at e
  exact congrArg some e
 ·rename_i q
  rw[q] at e
  have a:es.toList.any (·.refKey)=false:=by
   rw[List.any_eq_false]
   intro y hy
   obtain⟨z,t,hkey⟩:=hk y (Array.mem_toList_iff.mp hy)
   simp[FC.refKey,hkey]
  have a':¬ es.toList.any (·.refKey)=true:=by rw[a];exact AQ
  rw[if_neg a']
  exact congrArg some e
theorem ObjM.look{h:Heap}{x dx C:Addr}{mA:Str→Option Value}(I:ObjM h x dx C mA):∃ od,PySem.W.InstAt h x (CO C dx) C (some od)∧∀ name,EM name od=some (mA name) :=
 let ⟨od,ho,hl⟩:=aKI I.ns
 ⟨od,⟨I.obj,rfl,rfl,ho⟩,hl⟩
section
variable{prog:Program}{w:World}{A:Around}{E:Value→Shared→Prop}{s:Shared}{K:AE}{x dx C f:Addr}{mA:Str→Option Value}{name:Str}{v:Value}
theorem aRQ{expr:Bool}{Q:Value→Shared→Prop}(X:K.In s.heap)(I:ObjM s.heap x dx C mA)(hg:DO K C name=true)(hh:Ep K C=true)
 (ha:BQ K (.ref C) name=some none)(hv:mA name=some v)(hv':PySem.W.handedIn v=true)(h:Q v { s with toks:=s.toks+1 }) :
  wpAny (model prog w) A (getAttr (.ref x) name expr) Q E s:=by
 obtain⟨od,J,hl⟩:=I.look
 exact PySem.W.get_value X J (EX hg).1 (PySem.W.findObj_own hh ha rfl (by rw[hl,hv])) hv' h
theorem aOB{pl:Sem Bool}{Q:Value×List Value→Shared→Prop}(X:K.In s.heap)(I:ObjM s.heap x dx C mA)(hg:DO K C name=true)
 (hf:BQ K (.ref C) name=some (some (.ref f)))(ht:EB K (.ref f)=true)(hv:mA name=none)(h:Q (.ref f,[.ref x]) s) :
  wpAny (model prog w) A (FB (.ref x) name pl) Q E s:=by
 obtain⟨od,J,hl⟩:=I.look
 exact PySem.W.method_fn X J (EX hg).1 (EX hg).2 hf (beq_iff_eq.mp ht) (by show (EM name od).map (·.isSome)=some false;rw[hl,hv];rfl) h
theorem aQI{ns:List Str}{Q:Unit→Shared→Prop}(X:K.In s.heap)(I:ObjM s.heap x dx C mA)
 (hs:BQ K (.ref C) "__setattr__"=some (some (.builtin "object.__setattr__")))(hp:PySem.W.plainOver K C=true)(ht:FE K C name=some none)(hh:Ep K C=true)
 (hw:Ex mA ns)(hsz:ns.length≤Am)
 (h:∀ h',ObjM h' x dx C (fun y=>if y=name then some v else mA y)→DK dx s.heap h'→Q () { s with heap:=h',toks:=s.toks+2 }) :
  wpAny (model prog w) A (setAttr (.ref x) name v) Q E s:=by
 obtain⟨od,J,hl⟩:=I.look
 refine PySem.W.set_plain X J hs (PySem.W.osa_open (s:={ s with toks:=s.toks+1 }) (r:=none) X J hp ht fun b=>?_)
 obtain⟨cd,hc,hd'⟩:=PySem.W.any_some hh
 have hx:s.heap.get? x=some ⟨.ref C,some dx,.plain,#[]⟩:=I.obj
 refine AD (AN (AD (AD (wpAny_loadPart hx (AD (DQ.here (s:={ s with toks:=s.toks+1 }) (PySem.W.looks_clsIn X hc) ?_))))))
 rw[hd']
 refine AN (a:=some dx) (AD (AN (AD ?_)))
 refine wpAny_nsSet1 (s:={ s with toks:=s.toks+1 }) I.ns fun h' hn2 hs2=>?_
 obtain⟨oD,esD,epD,hoD,hdD,hcD⟩:=hn2.count (Ex.cons name v hw)
 refine AD (wpAny_lookBehind hoD (by rw[hdD];exact pastItsLine_dict (Av hcD (by rw[Af];omega))) ?_)
 exact AN (h _ ⟨(hs2.2 _ (Ne.symm I.ne)).trans I.obj,hn2,I.ne⟩ hs2)
theorem aNN{R:Result→Shared→Prop}{vs:List Value}{kw:List (Str×Value)}(X:K.In s.heap)(hm:FF K C=true)
 (hi:BQ K (.ref C) "__init__"=some (some (.ref f)))(hf:PySem.W.typeIn K (.ref f)=some (.type "function"))
 (h:codeAny (model prog w) (A.under (.builtin "type.__call__" ⟨.ref C :: vs,kw⟩)) (.call (.ref f) ⟨.ref (s.heap.objs.size+1) :: vs,kw⟩) (PySem.W.InitBack (s.heap.objs.size+1) R)
   { s with heap:=(s.heap.push Bt).push (CO C s.heap.objs.size) }) :
  codeAny (model prog w) A (.call (.ref C) ⟨vs,kw⟩) R s:=by
 obtain⟨hh,g,d,t,os⟩:=s
 exact PySem.W.make_core (PySem.W.makes_of X hm) (PySem.W.looks_findIn X hi) (fun self=>PySem.W.bind_fn X self hf) (.inl rfl) h
end
noncomputable def iD(f:Str)(v:V):List (Str×V)→List (Str×V)
 | []=>[(f,v)]
 | (g,x) :: r=>if g=f then (g,v) :: r else (g,x) :: iD f v r
theorem eZ(f g:Str)(v:V):∀ fs:List (Str×V),(iD f v fs).lookup g=if g=f then some v else fs.lookup g
 | []=>by
  show CK g [(f,v)]=_
  by_cases h:g=f
  ·have hb:(g == f)=true:=beq_iff_eq.mpr h
   simp only[CK,hb,if_pos h]
  ·have hb:(g == f)=false:=beq_eq_false_iff_ne.mpr h
   simp only[CK,hb,if_neg h]
 | (k,x) :: r=>by
  have ih:=eZ f g v r
  rw[show iD f v ((k,x) :: r)=(if k=f then (k,v) :: r else (k,x) :: iD f v r) from rfl]
  by_cases hk:k=f
  ·rw[if_pos hk]
   by_cases h:g=k
   ·have hb:(g == k)=true:=beq_iff_eq.mpr h
    simp only[CK,hb,if_pos (h.trans hk)]
   ·have hb:(g == k)=false:=beq_eq_false_iff_ne.mpr h
    simp only[CK,hb,if_neg (fun e:g=f=>h (e.trans hk.symm))]
  ·rw[if_neg hk]
   by_cases h:g=k
   ·have hb:(g == k)=true:=beq_iff_eq.mpr h
    simp only[CK,hb,if_neg (fun e:g=f=>hk (h.symm.trans e))]
   ·have hb:(g == k)=false:=beq_eq_false_iff_ne.mpr h
    simp only[CK,hb]
    exact ih
theorem rT(f:Str)(v:V):∀ fs:List (Str×V),f∈(iD f v fs).map (·.1)∧∀ g,g∈fs.map (·.1)→g∈(iD f v fs).map (·.1)
 | []=>⟨by simp[iD],fun g h=>by simp at h⟩
 | (k,x) :: r=>by
  obtain⟨i1,i2⟩:=rT f v r
  rw[show iD f v ((k,x) :: r)=(if k=f then (k,v) :: r else (k,x) :: iD f v r) from rfl]
  by_cases hk:k=f
  ·rw[if_pos hk]
   subst hk
   exact⟨by simp,fun g h=>by simpa using h⟩
  ·rw[if_neg hk]
   refine⟨?_,fun g h=>?_⟩
   ·rw[AU]
    exact AJ _ i1
   ·rw[AU] at h ⊢
    rcases Ac.mp h with e | e
    ·exact Ac.mpr (.inl e)
    ·exact AJ _ (i2 g e)
theorem tQ(f:Str)(v:V):∀ fs:List (Str×V),(iD f v fs).length≤fs.length+1
 | []=>by simp[iD]
 | (k,x) :: r=>by
  have ih:=tQ f v r
  rw[show iD f v ((k,x) :: r)=(if k=f then (k,v) :: r else (k,x) :: iD f v r) from rfl]
  by_cases hk:k=f
  ·rw[if_pos hk,Af,Af];omega
  ·rw[if_neg hk,Af,Af];omega
theorem oB.some_of{v:V}{o:Option Value}(r:oB (some v) o):∃ u,o=some u∧bI v u:=by
 cases o with
 | none=>exact (show False from r).elim
 | some u=>exact⟨u,rfl,r⟩
theorem oB.none_of{o:Option Value}(r:oB none o):o=none:=by
 cases o with
 | none=>rfl
 | some u=>exact (show False from r).elim
theorem aKN{v:V}{u:Value}(r:bI v u):PySem.W.handedIn u=true:=by
 cases v with
 | non=>cases (show u=Bj from r);rfl
 | bl b=>cases (show u=Em b from r);rfl
 | int i=>obtain⟨t,e⟩:=(show ∃ t,u=EA i t from r);cases e;rfl
 | str x=>obtain⟨t,e⟩:=(show ∃ t,u=Value.str x t from r);cases e;rfl
 | byt b=>obtain⟨t,e⟩:=(show ∃ t,u=Value.bytes b t from r);cases e;rfl
 | flt b=>obtain⟨t,e⟩:=(show ∃ t,u=Value.float b t from r);cases e;rfl
 | ref a=>cases (show u=Al a from r);rfl
 | ty n=>cases (show u=Ce n from r);rfl
section
variable{P:Program}{w:World}{H H':Hp}{h h':Heap}{a C dx:Addr}{fs fs':List (Str×V)}
theorem uR(hok:HOk P w H h)(e:H a=some (.ins C dx fs)):∃ mA,ObjM h a dx C mA∧(∀ f,oB (fs.lookup f) (mA f))∧Ex mA (fs.map (·.1))∧fs.length≤1000∧H dx=some (.own a):=by
 obtain⟨d,z,ne,ob,mA,n,r,q⟩:=(show bS P w H h a (.ins C dx fs) from hok a _ e)
 exact⟨mA,⟨ob,n,ne⟩,r,q,z,d⟩
end
structure Cls (K:AE) (C:Addr):Prop where
 pg:DO K C Str.empty=true
 hd:Ep K C=true
 po:PySem.W.plainOver K C=true
 sa:BQ K (.ref C) "__setattr__"=some (some (.builtin "object.__setattr__"))
theorem Cls.get{K:AE}{C:Addr}(c:Cls K C)(f:Str):DO K C f=true:=c.pg
def nE(K:AE)(C:Addr)(f:Str):Prop:=BQ K (.ref C) f=some none
theorem nE.taker{K:AE}{C:Addr}{f:Str}(n:nE K C f):FE K C f=some none:=by
 unfold FE
 rw[show BQ K (.ref C) f=some none from n]
 rfl
structure Con (K:AE) (C:Addr) (f:Str) (v:V) (u:Value):Prop where
 at_:BQ K (.ref C) f=some (some u)
 rel:bI v u
 get:En K u "__get__"=some none
 cp:PySem.W.copiedNames.contains f=false
structure Meth (K:AE) (C:Addr) (m:Str) (f:Addr):Prop where
 at_:BQ K (.ref C) m=some (some (.ref f))
 fn:EB K (.ref f)=true
 kp:Bs K (.ref f)=true
section
variable{X:Cx}{pins:List (Addr×Obj)}{σ:St}{H:Hp}{s:Shared}{a C dx:Addr}{fs:List (Str×V)}{f:Str}{v:V}{A:Around}{E:Value→Shared→Prop}
theorem aGQ{b:Bool}{Q:Value→Shared→Prop}(I:Inv X pins σ H s)(e:H a=some (.ins C dx fs))(c:Cls X.K C)(n:nE X.K C f)(l:fs.lookup f=some v)
 (h:∀ u s',Inv X pins σ H s'→bI v u→Q u s'):wpAny (model X.prog X.w) A (getAttr (.ref a) f b) Q E s:=by
 obtain⟨mA,O,r,_,_,_⟩:=uR I.hok e
 obtain⟨u,hu,ru⟩:=oB.some_of (v:=v) (o:=mA f) (by rw[← l];exact r f)
 exact aRQ I.kIn O (c.get f) c.hd n hu (aKN ru) (h u _ (I.tok _) ru)
theorem wT{m:Str}{g:Addr}{pl:Sem Bool}{Q:Value×List Value→Shared→Prop}(I:Inv X pins σ H s)(e:H a=some (.ins C dx fs))(c:Cls X.K C)(k:Meth X.K C m g)(l:fs.lookup m=none)
 (h:Q (.ref g,[.ref a]) s):wpAny (model X.prog X.w) A (FB (.ref a) m pl) Q E s:=by
 obtain⟨mA,O,r,_,_,_⟩:=uR I.hok e
 have hn:mA m=none:=oB.none_of (by rw[← l];exact r m)
 exact aOB I.kIn O (c.get m) k.at_ k.fn hn h
theorem aFQ{y:V}{u:Value}{Q:Unit→Shared→Prop}(I:Inv X pins σ H s)(e:H a=some (.ins C dx fs))(c:Cls X.K C)(n:nE X.K C f)(hl:fs.length<1000)(ry:bI y u)
 (h:∀ s',Inv X pins σ (upd H a (.ins C dx (iD f y fs))) s'→Q () s'):wpAny (model X.prog X.w) A (setAttr (.ref a) f u) Q E s:=by
 obtain⟨mA,O,r,wi,_,ho⟩:=uR I.hok e
 have hz:(fs.map (·.1)).length≤Am:=by rw[AA,CZ];omega
 refine aQI I.kIn O c.sa c.po n.taker c.hd wi hz fun h' O' sb=>h _ ?_
 have hd:∃ o,h'.get? dx=some o:=let ⟨o,_,_,e',_⟩:=O'.ns;⟨o,e'⟩
 refine I.write (x:=a) (e:=dx) (by rw[e];exact Cf) (.inr ho) (fun b q hb z=>(sb.2 b hb).trans z) hd ?_
 refine⟨by rw[aI O.ne];exact ho,?_,O.ne,O'.obj,_,O'.ns,fun g=>?_,fun g hg=>?_⟩
 ·have:=tQ f y fs;omega
 ·show oB ((iD f y fs).lookup g) (if g=f then some u else mA g)
  rw[eZ]
  by_cases q:g=f
  ·rw[if_pos q,if_pos q];exact ry
  ·rw[if_neg q,if_neg q];exact r g
 ·by_cases q:g=f
  ·rw[q];exact (rT f y fs).1
  ·refine (rT f y fs).2 g (wi g fun z=>hg ?_)
   show (if g=f then some u else mA g)=none
   rw[if_neg q];exact z
theorem Inv.made(I:Inv X pins σ H s):Inv X pins σ (upd (upd H s.heap.objs.size (.own (s.heap.objs.size+1))) (s.heap.objs.size+1) (.ins C s.heap.objs.size []))
  { s with heap:=(s.heap.push Bt).push (CO C s.heap.objs.size) }:=by
 have e1:(s.heap.push Bt).get? s.heap.objs.size=some Bt:=AZ s.heap rfl
 have e2:((s.heap.push Bt).push (CO C s.heap.objs.size)).get? (s.heap.objs.size+1)=some (CO C s.heap.objs.size):=by
  have:=AZ (s.heap.push Bt) (o:=CO C s.heap.objs.size) rfl
  rwa [DJ] at this
 have e3:(s.heap.push Bt).Ns s.heap.objs.size (fun _=>none):=⟨Bt,#[],_,e1,rfl,(fun e he=>absurd he (by simp)),fun _=>rfl⟩
 have I1:=I.laid (a:=s.heap.objs.size) (o:=.own (s.heap.objs.size+1)) (h':=s.heap.push Bt) (t':=s.toks) (fun b u q=>AF _ q) (AL _) ⟨_,e1⟩
 refine I1.laid (a:=s.heap.objs.size+1) (o:=.ins C s.heap.objs.size []) (t':=s.toks) (fun b u q=>AF _ q) (EN (DJ _ _)) ?_
 have ne:s.heap.objs.size≠s.heap.objs.size+1:=Ad (DV _)
 refine⟨by rw[aI ne,aC],BN _,ne,e2,fun _=>none,(Heap.Ns1.of_empty e3).at fun o q=>AF _ q,fun _=>Cf,fun y hy=>absurd rfl hy⟩
theorem aSH{prog:Program}{w:World}{env:Env}{e:Expr}{f:Str}{pos:Pos}{s:Shared}{Q:Value→Shared→Prop}(hb:Dg e f env (eval e env)=eval e env)
 (h:wpAny (model prog w) A (eval e env) (fun o s₁=>wpAny (model prog w) A (getAttr o f true) Q E s₁) E s):wpAny (model prog w) A (eval (.Attribute e f pos) env) Q E s :=
 Attribute_any_ h (by rw[arm_eval_Attribute,hb])
end
def aYS(K:AE)(ta:TE)(f:Str):TE:=fun σ H Q=>ta σ H fun x H1=>∃ a C dx fs v,x=.ref a∧H1 a=some (.ins C dx fs)∧Cls K C∧nE K C f∧fs.lookup f=some v∧Q v H1
def aYZ(K:AE)(ta tv:TE)(f:Str):TS:=fun D σ H=>tv σ H fun y H1=>ta σ H1 fun x H2=>∃ a C dx fs,x=.ref a∧H2 a=some (.ins C dx fs)∧Cls K C∧nE K C f∧fs.length<1000 ∧
 D.nx σ (upd H2 a (.ins C dx (iD f y fs)))
def aYM(X:Cx)(op:Operator)(rd:V→V→Hp→VK→Prop):Prop :=
 ∀ (pins:List (Addr×Obj)) (s:Shared) (σ:St) (H:Hp) (x y:V) (u v:Value) (Q:VK),Inv X pins σ H s→bI x u→bI y v→rd x y H Q→wpAny (model X.prog X.w) X.A (inplaceOp op u v) (EP X pins σ Q) X.xe s
section
variable{X:Cx}{o e value:Expr}{f:Str}{pos pos' tpos:Pos}{ta tv:TE}
theorem vY(he:PE X e ta)(hb:Dg e f X.env (eval e X.env)=eval e X.env):PE X (.Attribute e f pos) (aYS X.K ta f):=by
 intro pins s σ H Q I h
 refine aSH hb (thn (he pins s σ H _ I h) fun u s1 ⟨x,H1,I1,rx,a,C,dx,fs,v,ex,ea,c,n,l,q⟩=>?_)
 subst ex
 obtain rfl:u=Al a:=rx
 exact aGQ I1 ea c n l fun u' s2 I2 ru=>⟨v,H1,I2,ru,q⟩
theorem aMU(ha:PE X o ta)(hv:PE X value tv)(hs:Ez value (some (.Attribute o f pos')) pos.line X.env=pure false):PS X (.Assign [.Attribute o f pos'] value pos) (aYZ X.K ta tv f):=by
 intro pins s σ H D I h
 refine plainObj_wpAny_Assign_Attribute (thn (hv pins s σ H _ I h) fun u s1 ⟨y,H1,I1,ry,q⟩=>thn (ha pins s1 σ H1 _ I1 q) fun ov s2 ⟨x,H2,I2,rx,a,C,dx,fs,ex,ea,c,n,l,q2⟩=>?_) hs
 subst ex
 obtain rfl:ov=Al a:=rx
 exact aFQ I2 ea c n l ry fun s3 I3=>⟨σ,_,I3,q2⟩
def aZD:V→V→Hp→VK→Prop:=fun x y H Q=>∃ i j,x=.int i∧y=.int j∧Q (.int (i+j)) H
theorem aVP:aYM X .Add aZD:=by
 rintro pins s σ H x y u v Q I rx ry ⟨i,j,rfl,rfl,q⟩
 obtain⟨t,rfl⟩:=(show ∃ t,u=EA i t from rx)
 obtain⟨t',rfl⟩:=(show ∃ t',v=EA j t' from ry)
 exact PyProof.Rows.iadd_int ⟨.int (i+j),H,I.tok _,⟨_,rfl⟩,q⟩
end
section
variable{X:Cx}{pins:List (Addr×Obj)}{σ:St}{H:Hp}{s:Shared}{A:Around}{E:Value→Shared→Prop}{Q:Value→Shared→Prop}{c:Value}{b:Bool}
inductive TyOf (K:AE) (H:Hp):V→Value→Prop where
 | non:TyOf K H .non (.type "NoneType")
 | bl (x:Bool):TyOf K H (.bl x) (.type "bool")
 | int (i:Int):TyOf K H (.int i) (.type "int")
 | str (x:Str):TyOf K H (.str x) (.type "str")
 | flt (x:UInt64):TyOf K H (.flt x) (.type "float")
 | lst {a:Addr} {xs:List V} (e:H a=some (.lst xs)):TyOf K H (.ref a) (.type "list")
 | frz {a:Addr} {o:Obj} {xs:List V} (e:H a=some (.frz o (.lst xs))):TyOf K H (.ref a) (.type "list")
 | tup {a:Addr} {xs:List V} (e:H a=some (.tup xs)):TyOf K H (.ref a) (.type "tuple")
 | dK {a:Addr} {kvs:List (Key×V)} (e:H a=some (.dK kvs)):TyOf K H (.ref a) (.type "dict")
 | dT {a:Addr} {kvs:List (List Key×V)} (e:H a=some (.dT kvs)):TyOf K H (.ref a) (.type "dict")
 | ins {a C dx:Addr} {fs:List (Str×V)} (e:H a=some (.ins C dx fs)) (cl:Cls K C) (ha:BQ K (.ref C) "__class__"=some (some (.builtin "object.__class__")))
   (hn:En K (.builtin "object.__class__") "__get__"=some (some (.builtin "getset_descriptor.__get__"))) (htk:PySem.W.takesIn K (.builtin "object.__class__")=some true)
   (hm:PySem.W.mroIn K C (.type "object")=some true):TyOf K H (.ref a) (.ref C)
theorem aKK{x:V}{u t:Value}(I:Inv X pins σ H s)(rx:bI x u)(ty:TyOf X.K H x t)(e:BD X.K t c=some b)(h:∀ tk,Q (.bool b) { s with toks:=tk }) :
  wpAny (model X.prog X.w) A (call (.builtin "isinstance") [u,c]) Q E s:=by
 cases ty with
 | non=>cases (show u=Bj from rx);exact Bd PySem.W.kitx_none I.kIn Cf e (fun z=>nomatch z) h
 | bl y=>cases (show u=Em y from rx);exact Bd PySem.W.kitx_bool I.kIn Cf e (fun z=>nomatch z) h
 | int i=>obtain⟨t,q⟩:=(show ∃ t,u=EA i t from rx);cases q;exact Bd PySem.W.kitx_int I.kIn Cf e (fun z=>nomatch z) h
 | str y=>obtain⟨t,q⟩:=(show ∃ t,u=Value.str y t from rx);cases q;exact Bd PySem.W.kitx_str I.kIn Cf e (fun z=>nomatch z) h
 | flt y=>obtain⟨t,q⟩:=(show ∃ t,u=Value.float y t from rx);cases q;exact Bd PySem.W.kitx_float I.kIn Cf e (fun z=>nomatch z) h
 | @lst a xs ea =>
  cases (show u=Al a from rx)
  obtain⟨_,_,n,_,h1⟩:=(show bS X.prog X.w H s.heap a (.lst xs) from I.hok a _ ea)
  exact Bd PySem.W.kitx_list I.kIn ⟨_,h1,rfl⟩ e (fun z=>nomatch z) h
 | @frz a ob xs ea =>
  cases (show u=Al a from rx)
  obtain⟨_,_,_,n,_,h1⟩:=(show bS X.prog X.w H s.heap a (.frz ob (.lst xs)) from I.hok a _ ea)
  exact Bd PySem.W.kitx_list I.kIn ⟨_,h1,rfl⟩ e (fun z=>nomatch z) h
 | @tup a xs ea =>
  cases (show u=Al a from rx)
  obtain⟨_,_,_,p⟩:=(show bS X.prog X.w H s.heap a (.tup xs) from I.hok a _ ea)
  obtain⟨o,h1,h2,_⟩:=p
  exact Bd PySem.W.kitx_tuple I.kIn ⟨o,h1,h2⟩ e (fun z=>nomatch z) h
 | @dK a kvs ea =>
  cases (show u=Al a from rx)
  obtain⟨_,_,vs,_,p⟩:=(show bS X.prog X.w H s.heap a (.dK kvs) from I.hok a _ ea)
  obtain⟨o,es,ep,h1,h2,_⟩:=p
  exact Bd PySem.W.kitx_dict I.kIn ⟨o,h1,h2.1⟩ e (fun z=>nomatch z) h
 | @dT a kvs ea =>
  cases (show u=Al a from rx)
  obtain⟨_,_,xs,_,o,es,ep,h1,h2,_⟩:=(show bS X.prog X.w H s.heap a (.dT kvs) from I.hok a _ ea)
  exact Bd PySem.W.kitx_dict I.kIn ⟨o,h1,h2.1⟩ e (fun z=>nomatch z) h
 | @ins a C dx fs ea cl ha hn htk hm =>
  cases (show u=Al a from rx)
  obtain⟨mA,O,_⟩:=uR I.hok ea
  obtain⟨od,J,_⟩:=O.look
  exact Bd (PySem.W.kitx_own (cl.get _) cl.hd ha hn htk hm) I.kIn J e (fun z=>nomatch z) h
end
end L2
namespace L2
open PySem PySem.Spec PyProof.Rows
structure Room (k:Nat) (A:Around):Prop where
 hd:A.handled=none
 dp:A.depth+3*k+5<recursionLimit
 un:A.units+16*k+200<cLine
theorem Room.mono{j k:Nat}{A:Around}(r:Room k A)(h:j≤k):Room j A:=⟨r.hd,by have:=r.dp;omega,by have:=r.un;omega⟩
theorem Room.deeper{k:Nat}{A:Around}(r:Room (k+1) A)(env:Env):Room k (A.deeper env) :=
 ⟨r.hd,by have:=r.dp;show A.depth+1+3*k+5<_;omega,by have:=r.un;show A.units+3+16*k+200<_;omega⟩
theorem Room.in1{k:Nat}{A:Around}(r:Room (k+1) A):Room k A.in1 :=
 ⟨r.hd,by have:=r.dp;show A.depth+3*k+5<_;omega,by have:=r.un;show A.units+1+16*k+200<_;omega⟩
theorem aGE{A:Around}{C:Addr}{us:List Value}{kw:List (Str×Value)}:(A.under (.builtin "type.__call__" ⟨.ref C :: us,kw⟩)).depth=A.depth+1:=by
 first | rfl | simp[Around.under,Code.weight,Code.isCreation,Code.isGuard,Code.isCaller,Code.frames,Code.isFrame,guardIds]
theorem aGD{A:Around}{C:Addr}{us:List Value}{kw:List (Str×Value)}:(A.under (.builtin "type.__call__" ⟨.ref C :: us,kw⟩)).units=A.units+1:=by
 first | rfl | simp[Around.under,Code.cUnits,Code.frames,Code.isFrame]
theorem Room.make{k:Nat}{A:Around}(r:Room (k+1) A)(C:Addr)(us:List Value)(kw:List (Str×Value)):Room k (A.under (.builtin "type.__call__" ⟨.ref C :: us,kw⟩)) :=
 ⟨r.hd,by have:=r.dp;rw[aGE];omega,by have:=r.un;rw[aGD];omega⟩
theorem Room.depth{k:Nat}{A:Around}(r:Room k A):A.depth<recursionLimit:=by have:=r.dp;omega
theorem Room.units{k:Nat}{A:Around}(r:Room k A):A.units+64<cLine:=by have:=r.un;omega
def aJN:TA:=fun _ H Q=>Q [] H
def aCV(ta:TE)(tr:TA):TA:=fun σ H Q=>ta σ H fun x H1=>tr σ H1 fun xs H2=>Q (x :: xs) H2
section
variable{X:Cx}{e:Expr}{es:List Expr}{te:TE}{t:TA}{pos:Pos}
theorem aB:PA X [] aJN:=fun _ _ _ _ H Q I h=>Calls.spliced_nil ⟨[],H,I,.nil,h⟩
theorem aA(ha:PE X e te)(hr:PA X es t)(hs:Ak (e :: es) X.env=(false,eval e X.env) :: Ak es X.env:=by rfl):PA X (e :: es) (aCV te t):=by
 intro pos pins s σ H Q I h
 rw[hs]
 show wpAny _ _ (spliced ((false,eval e X.env) :: backTo pos (Ak es X.env))) _ _ s
 refine Calls.spliced_cons (thn (ha pins s σ H _ I h) fun u s1 ⟨x,H1,I1,r1,q1⟩=>?_)
 exact thn (hr pos pins s1 σ H1 _ I1 q1) fun us s2 ⟨xs,H2,I2,r2,q2⟩=>⟨x :: xs,H2,I2,.cons r1 r2,q2⟩
def aWN(t:TA):TE:=fun σ H Q=>t σ H fun xs H1=>xs.length≤Am∧∀ p,H1 p=none→Q (.ref p) (upd H1 p (.tup xs))
def aYR(t:TA):TE:=fun σ H Q=>t σ H fun xs H1=>xs.length≤Am∧∀ p,H1 p=none→Q (.ref p) (upd H1 p (.lst xs))
theorem dJ{x1}(h:PA X es t):PE X (.Tuple es x1 pos) (aWN t):=by
 intro pins s σ H Q I hq
 refine wpAny_Tuple_spliced (thn (h pos pins s σ H _ I hq) fun us s1 ⟨xs,H1,I1,r,z,q⟩=>⟨by rw[← r.length];exact z,?_⟩)
 have hf:H1 s1.heap.objs.size=none:=I1.hok.fresh (AL _)
 refine⟨.ref s1.heap.objs.size,upd H1 s1.heap.objs.size (.tup xs),I1.laid (t':=s1.toks) (fun b u e=>AF _ e) (AL _) ?_,rfl,q _ hf⟩
 exact⟨z,us,r,⟨_,AZ _ rfl,rfl,_,rfl,rfl⟩⟩
theorem cX(h:PA X es t):PE X (.List es pos) (aYR t):=by
 intro pins s σ H Q I hq
 refine wpAny_List_spliced (thn (h pos pins s σ H _ I hq) fun us s1 ⟨xs,H1,I1,r,z,q⟩=>⟨by rw[← r.length];exact z,?_⟩)
 have hf:H1 s1.heap.objs.size=none:=I1.hok.fresh (AL _)
 refine⟨.ref s1.heap.objs.size,upd H1 s1.heap.objs.size (.lst xs),I1.laid (t':=s1.toks) (fun b u e=>AF _ e) (AL _) ?_,rfl,q _ hf⟩
 exact⟨z,us,0,r,AZ _ rfl⟩
end
abbrev Sp:=List V→Hp→VK→XK→Prop
abbrev CXT:=List Env→Hp→Shared→XK→Value→Shared→Prop
structure Env0 (P:Program) (w:World) (K:AE) (mg:Str→Option Value) (base:Heap) (A:Around) (outer:List Env) (s:Shared) (H:Hp):Prop where
 frames:A.frames=some outer
 mod:Mod K mg base
 bs:∀ b o,base.get? b=some o→s.heap.get? b=some o∧H b=none
 bsz:base.objs.size≤s.heap.objs.size
 funs:s.heap.FunFrames base outer
 frf:∀ b∈frs outer,H b=none
 hok:HOk P w H s.heap
 bare:AllBare s.gens
def CE(outer:List Env)(P:Program)(w:World)(H:Hp)(s:Shared)(Q:VK)(u:Value)(s':Shared):Prop :=
 ∃ v H',s'.os=s.os∧AllBare s'.gens∧Un (frs outer) [] H H' s.heap s'.heap∧HOk P w H' s'.heap∧bI v u∧Q v H'
def CR(CX:CXT)(outer:List Env)(P:Program)(w:World)(H:Hp)(s:Shared)(Q:VK)(E:XK)(r:Result)(s':Shared):Prop :=
 match r with
 | .ok (.ret u)=>CE outer P w H s Q u s'
 | .ok _=>False
 | .error e=>CX outer H s E e s'
structure FnOk (P:Program) (w:World) (K:AE) (mg:Str→Option Value) (base:Heap) (CX:CXT) (k:Nat) (f:Addr) (fd:Ba) (ps:List Str) (sp:Sp):Prop where
 len:∀ vs H Q E,sp vs H Q E→vs.length=ps.length
 run:∀ (A:Around) (outer:List Env) (s:Shared) (H:Hp) (args:Args) (us:List Value) (vs:List V) (Q:VK) (E:XK),Room k A→Env0 P w K mg base A outer s H→BindsTo s fd args (ps.zip us)→bD vs us→sp vs H Q E →
  codeAny (model P w) A (.call (.ref f) args) (CR CX outer P w H s Q E) s
theorem FnOk.imp{P:Program}{w:World}{K:AE}{mg:Str→Option Value}{base:Heap}{CX:CXT}{k:Nat}{f:Addr}{fd:Ba}{ps:List Str}{sp sp':Sp}(F:FnOk P w K mg base CX k f fd ps sp)
 (h:∀ vs H Q E,sp' vs H Q E→sp vs H Q E):FnOk P w K mg base CX k f fd ps sp' :=
 ⟨fun vs H Q E q=>F.len vs H Q E (h _ _ _ _ q),fun A outer s H args us vs Q E hr he hb hv hs=>F.run A outer s H args us vs Q E hr he hb hv (h _ _ _ _ hs)⟩
theorem Env0.make{P:Program}{w:World}{K:AE}{mg:Str→Option Value}{base:Heap}{A:Around}{outer:List Env}{s:Shared}{H:Hp}(e:Env0 P w K mg base A outer s H)(C:Addr)(us:List Value)(kw:List (Str×Value)) :
  Env0 P w K mg base (A.under (.builtin "type.__call__" ⟨.ref C :: us,kw⟩)) outer s H:=⟨by first | exact e.frames | (simpa [Around.under,Code.envs,Code.isFrame,pushEnvs] using e.frames),e.mod,e.bs,e.bsz,e.funs,e.frf,e.hok,e.bare⟩
theorem Env0.in1{P:Program}{w:World}{K:AE}{mg:Str→Option Value}{base:Heap}{A:Around}{outer:List Env}{s:Shared}{H:Hp}(e:Env0 P w K mg base A outer s H) :
  Env0 P w K mg base A.in1 outer s H:=⟨e.frames,e.mod,e.bs,e.bsz,e.funs,e.frf,e.hok,e.bare⟩
section
variable{X:Cx}{pins:List (Addr×Obj)}{σ:St}{H:Hp}{s s':Shared}
theorem Inv.env0(I:Inv X pins σ H s):Env0 X.prog X.w X.K X.mg X.base X.A X.stack s H :=
 ⟨I.ok.frames,I.ok.mod,I.bs,Av I.ok.bsz I.sz,I.stack,I.stkFree,I.hok,I.bare⟩
theorem Inv.after{Q:VK}{u:Value}(I:Inv X pins σ H s)(h:CE X.stack X.prog X.w H s Q u s'):EP X pins σ Q u s':=by
 obtain⟨v,H',os,bare,un,hok,r,q⟩:=h
 obtain⟨hh,g,d,t,os'⟩:=s'
 obtain rfl:os'=s.os:=os
 exact⟨v,H',I.call (h':=hh) (g':=g) (d':=d) (t':=t) (ch:=[]) un hok bare (fun b z=>absurd z (by simp)),r,q⟩
end
def aHL(sp:Sp)(dvs:List V)(E:XK)(t:TA):TE:=fun σ H Q=>t σ H fun vs H1=>sp (vs++dvs) H1 Q E
def aHK(C:Addr)(m:Str)(sp:Sp)(dvs:List V)(E:XK)(ta:TE)(t:TA):TE:=fun σ H Q=>ta σ H fun x H1=>∃ a dx fs,x=.ref a∧H1 a=some (.ins C dx fs)∧fs.lookup m=none ∧
 t σ H1 fun vs H2=>sp (x :: (vs++dvs)) H2 Q E
def aSS(C:Addr)(sp:Sp)(dvs:List V)(E:XK)(t:TA):TE:=fun σ H Q=>t σ H fun vs H1=>∀ x dx,H1 x=none→H1 dx=none→dx≠x →
 sp (.ref x :: (vs++dvs)) (upd (upd H1 dx (.own x)) x (.ins C dx [])) (fun v H2=>v=.non∧Q (.ref x) H2) E
def gG(K:AE)(fd:Ba)(ps:List Str)(ds:List Value):Prop :=
 ∀ (s:Shared) (us:List Value),K.In s.heap→(us++ds).length=ps.length→BindsTo s fd ⟨us,[]⟩ (ps.zip (us++ds))
theorem gG.all{K:AE}{fd:Ba}{ps:List Str}(h:∀ us:List Value,us.length=ps.length→Ew fd ⟨us,[]⟩=pure (ps.zip us)):gG K fd ps []:=fun s us _ hl=>by
 rw[Bf] at hl ⊢
 exact .of_eq (h us hl)
def kR(CX:CXT)(X:Cx)(E:XK):Prop:=∀ (pins:List (Addr×Obj)) (σ:St) (H:Hp) (s:Shared) (e:Value) (s':Shared),Inv X pins σ H s→CX X.stack H s E e s'→X.xe e s'
section
variable{X:Cx}{CX:CXT}{k:Nat}{f C:Addr}{fd:Ba}{ps:List Str}{sp:Sp}{dvs:List V}{ds:List Value}{E:XK}{x m:Str}{p pos apos:Pos}{e o:Expr}{es:List Expr}{ta:TE}{t:TA}
theorem aFS{pins:List (Addr×Obj)}{σ:St}{H:Hp}{s:Shared}{Q:VK}{us:List Value}{vs:List V}(F:FnOk X.prog X.w X.K X.mg X.base CX k f fd ps sp)(hr:Room k X.A)(hb:gG X.K fd ps ds)(hd:bD dvs ds)(hx:kR CX X E)
 (I:Inv X pins σ H s)(r:bD vs us)(h:sp (vs++dvs) H Q E):wpAny (model X.prog X.w) X.A (call (.ref f) us) (EP X pins σ Q) X.xe s:=by
 have r2:bD (vs++dvs) (us++ds):=r.append hd
 have hl:(us++ds).length=ps.length:=by rw[← r2.length];exact F.len _ _ _ _ h
 refine Dz (Co (F.run X.A X.stack s H ⟨us,[]⟩ (us++ds) (vs++dvs) Q E hr I.env0 (hb s us I.kIn hl) r2 h) fun r s' hq=>?_)
 cases r with
 | error e=>exact hx pins σ H s e s' I hq
 | ok fl =>
  cases fl with
  | ret u=>exact I.after hq
  | next=>exact BF hq
  | brk=>exact BF hq
  | cont=>exact BF hq
theorem aIG(F:FnOk X.prog X.w X.K X.mg X.base CX k f fd ps sp)(hr:Room k X.A)(hg:Gl X x)(hm:X.mg x=some (.ref f))(hk:Bs X.K (.ref f)=true)(hb:gG X.K fd ps ds)(hd:bD dvs ds)(hx:kR CX X E)
 (ha:PA X (e :: es) t)(hdb:(x == ("__debug__":Str))=false:=by decide)(he:Ak (e :: es) X.env=(false,eval e X.env) :: Ak es X.env:=by rfl)(hpl:(backTo pos (Ak es X.env)).any (·.1)=false:=by rfl) :
  PE X (.Call (.Name x p) (e :: es) [] pos) (aHL sp dvs E t):=by
 intro pins s σ H Q I h
 refine CD (nR I hg hm ?_ hdb)
 refine Dc (h₀:=X.base) I.ok.mod.kin hk (thn (ha pos pins s σ H _ I h) fun us s1 ⟨vs,H1,I1,r,q⟩=>⟨I1.kIn,?_⟩) he hpl
 exact aFS F hr hb hd hx I1 r q
theorem aQX{pl:Sem Bool}(he:PE X o ta)(c:Cls X.K C)(hm:Meth X.K C m f)(F:FnOk X.prog X.w X.K X.mg X.base CX k f fd ps sp)(hr:Room k X.A)(hb:gG X.K fd ps ds)(hd:bD dvs ds)(hx:kR CX X E)(ha:PA X (e :: es) t)
 (hst:Ak (e :: es) X.env=(false,eval e X.env) :: Ak es X.env:=by rfl)(hpl:(backTo pos (Ak es X.env)).any (·.1)=false:=by rfl)
 (ht:eval (.Call (.Attribute o m apos) (e :: es) [] pos) X.env=(do
   let ov ← eval o X.env
   standAt apos.atName
   let (f,first) ← holding [ov] (FB ov m pl)
   callWith pos f first (backTo pos (Ak (e :: es) X.env)) (Dj pos (Cl [] X.env))):=by rfl) :
  PE X (.Call (.Attribute o m apos) (e :: es) [] pos) (aHK C m sp dvs E ta t):=by
 intro pins s σ H Q I h
 refine PySem.W.methodCall_KW (pl:=pl) (thn (he pins s σ H _ I h) fun u s1 ⟨x,H1,I1,rx,a,dx,fs,ex,ea,l,q⟩=>?_) ht
 subst ex
 obtain rfl:u=Al a:=rx
 refine wT I1 ea c hm l ?_
 refine Dc (first:=[.ref a]) (h₀:=X.base) I.ok.mod.kin hm.kp (thn (ha pos pins s1 σ H1 _ I1 q) fun us s2 ⟨vs,H2,I2,r,q2⟩=>⟨I2.kIn,?_⟩) hst hpl
 exact aFS (us:=.ref a :: us) (vs:=.ref a :: vs) F hr hb hd hx I2 (.cons rfl r) q2
theorem aNC{pl:Sem Bool}(he:PE X o ta)(c:Cls X.K C)(hm:Meth X.K C m f)(F:FnOk X.prog X.w X.K X.mg X.base CX k f fd ps sp)(hr:Room k X.A)(hb:gG X.K fd ps ds)(hd:bD dvs ds)(hx:kR CX X E)
 (ht:eval (.Call (.Attribute o m apos) [] [] pos) X.env=(do
   let ov ← eval o X.env
   standAt apos.atName
   let (f,first) ← holding [ov] (FB ov m pl)
   callWith pos f first (backTo pos (Ak [] X.env)) (Dj pos (Cl [] X.env))):=by rfl) :
  PE X (.Call (.Attribute o m apos) [] [] pos) (aHK C m sp dvs E ta aJN):=by
 intro pins s σ H Q I h
 refine PySem.W.methodCall_KW (pl:=pl) (thn (he pins s σ H _ I h) fun u s1 ⟨x,H1,I1,rx,a,dx,fs,ex,ea,l,q⟩=>?_) ht
 subst ex
 obtain rfl:u=Al a:=rx
 refine wT I1 ea c hm l ?_
 exact PySem.W.callWith_K0 (first:=[.ref a]) I1.kIn hm.kp (aFS (us:=[.ref a]) (vs:=[.ref a]) F hr hb hd hx I1 (.cons rfl .nil) q)
structure Mk (K:AE) (C f:Addr):Prop where
 makes:FF K C=true
 init:BQ K (.ref C) "__init__"=some (some (.ref f))
 fn:EB K (.ref f)=true
 kp:Bs K (.ref C)=true
theorem aMJ{pins:List (Addr×Obj)}{σ:St}{H:Hp}{s:Shared}{Q:VK}{us:List Value}{vs:List V}(M:Mk X.K C f)(F:FnOk X.prog X.w X.K X.mg X.base CX k f fd ps sp)(hr:Room (k+1) X.A)(hb:gG X.K fd ps ds)(hd:bD dvs ds)
 (hx:kR CX X E)(I:Inv X pins σ H s)(r:bD vs us)
 (h:∀ x dx,H x=none→H dx=none→dx≠x→sp (.ref x :: (vs++dvs)) (upd (upd H dx (.own x)) x (.ins C dx [])) (fun v H2=>v=.non∧Q (.ref x) H2) E) :
  wpAny (model X.prog X.w) X.A (call (.ref C) us) (EP X pins σ Q) X.xe s:=by
 have hq:=h (s.heap.objs.size+1) s.heap.objs.size (I.hok.fresh (Cr _)) (I.hok.fresh (AL _)) (Ad (DV _))
 have I2:=Inv.made (C:=C) I
 have r2:bD (V.ref (s.heap.objs.size+1) :: (vs++dvs)) (Al (s.heap.objs.size+1) :: (us++ds)):=.cons rfl (r.append hd)
 have hl:(Al (s.heap.objs.size+1) :: us++ds).length=ps.length:=by
  have e:=r2.length
  rw[F.len _ _ _ _ hq] at e
  exact e.symm
 refine Dz (aNN (f:=f) I.kIn M.makes M.init (beq_iff_eq.mp M.fn) (Co (F.run _ X.stack _ _ ⟨Al (s.heap.objs.size+1) :: us,[]⟩ (Al (s.heap.objs.size+1) :: (us++ds)) _ _ E (hr.make C us [])
  (I2.env0.make C us []) (hb _ (Al (s.heap.objs.size+1) :: us) I2.kIn hl) r2 hq) fun r s' hq'=>?_))
 cases r with
 | error e=>exact hx pins σ _ _ e s' I2 hq'
 | ok fl =>
  cases fl with
  | ret u =>
   obtain⟨v,H',I3,rv,ev,q3⟩:=I2.after hq'
   subst ev
   exact⟨rv,⟨V.ref (s.heap.objs.size+1),H',I3,rfl,q3⟩⟩
  | next=>exact BF hq'
  | brk=>exact BF hq'
  | cont=>exact BF hq'
theorem aQY(M:Mk X.K C f)(F:FnOk X.prog X.w X.K X.mg X.base CX k f fd ps sp)(hr:Room (k+1) X.A)(hg:Gl X x)(hm:X.mg x=some (.ref C))(hb:gG X.K fd ps ds)(hd:bD dvs ds)(hx:kR CX X E)
 (ha:PA X (e :: es) t)(hdb:(x == ("__debug__":Str))=false:=by decide)(he:Ak (e :: es) X.env=(false,eval e X.env) :: Ak es X.env:=by rfl)(hpl:(backTo pos (Ak es X.env)).any (·.1)=false:=by rfl) :
  PE X (.Call (.Name x p) (e :: es) [] pos) (aSS C sp dvs E t):=by
 intro pins s σ H Q I h
 refine CD (nR I hg hm ?_ hdb)
 refine Dc (h₀:=X.base) I.ok.mod.kin M.kp (thn (ha pos pins s σ H _ I h) fun us s1 ⟨vs,H1,I1,r,q⟩=>⟨I1.kIn,?_⟩) he hpl
 exact aMJ M F hr hb hd hx I1 r q
end
def PK(X:Cx)(kws:List Keyword)(t:TA):Prop :=
 ∀ (pos:Pos) (pins:List (Addr×Obj)) (s:Shared) (σ:St) (H:Hp) (Q:List V→Hp→Prop),Inv X pins σ H s→t σ H Q→wpAny (model X.prog X.w) X.A (evalAll ((Dj pos (Cl kws X.env)).map (·.2))) (AP X pins σ Q) X.xe s
section
variable{X:Cx}{CX:CXT}{k:Nat}{f C:Addr}{fd:Ba}{ps ks:List Str}{sp:Sp}{E:XK}{x m:Str}{p pos apos kpos:Pos}{e o:Expr}{es:List Expr}{kws:List Keyword}{te ta:TE}{t tk:TA}{nm:Option Str}
theorem aUP:PK X [] aJN:=fun _ _ _ _ H Q I h=>wpAny_evalAll_nil ⟨[],H,I,.nil,h⟩
theorem aQV(ha:PE X e te)(hr:PK X kws t):PK X (⟨nm,e,kpos⟩ :: kws) (aCV te t):=by
 intro pos pins s σ H Q I h
 show wpAny _ _ (evalAll ((do let v ← eval e X.env;standAt pos;pure v) :: (Dj pos (Cl kws X.env)).map (·.2))) _ _ s
 refine wpAny_evalAll_cons (AD (thn (ha pins s σ H _ I h) fun u s1 ⟨x,H1,I1,r1,q1⟩=>AD (wpAny_standAt (AN ?_))))
 exact thn (hr pos pins s1 σ H1 _ I1 q1) fun us s2 ⟨xs,H2,I2,r2,q2⟩=>⟨x :: xs,H2,I2,.cons r1 r2,q2⟩
structure KBinds (K:AE) (fd:Ba) (ps ks:List Str) (g:List Value→List Value→List Value) (gV:List V→List V→List V):Prop where
 to:∀ (s:Shared) (us ws:List Value),K.In s.heap→(g us ws).length=ps.length→BindsTo s fd ⟨us,ks.zip ws⟩ (ps.zip (g us ws))
 rel:∀ {vs:List V} {us:List Value} {zs:List V} {ws:List Value},bD vs us→bD zs ws→bD (gV vs zs) (g us ws)
variable{g:List Value→List Value→List Value}{gV:List V→List V→List V}
end
structure FnScope (N P:List Str) (sc:Scope):Prop where
 kind:sc.kind=.function
 co:sc.isCoroutine=false
 gen:sc.isGenerator=false
 nd:N.Nodup
 pre:N.take P.length=P
 par:∀ x∈P,sc.names.lookup x=some .local∨sc.names.lookup x=some .cell
 nofree:∀ y∈sc.names,y.2≠.free
theorem aAD{kindOf:Str→Option Ay}{x:Str}:∀ {binds:List (Str×Value)} {m:Str→Option Value},(∀ v,(x,v)∉binds)→bindL kindOf binds m x=m x
 | [],_,_=>rfl
 | (n,v) :: r,m,h=>by
  unfold bindL
  rw[aAD fun w hw=>h w (AJ _ hw)]
  split
  ·have:x≠n:=by rintro rfl;exact h v AO
   simp[this]
  ·rfl
theorem aAF{kindOf:Str→Option Ay}{x:Str}:∀ {binds:List (Str×Value)} {m:Str→Option Value},(∀ v,(x,v)∉binds)→bindC kindOf binds m x=m x
 | [],_,_=>rfl
 | (n,v) :: r,m,h=>by
  unfold bindC
  rw[aAF fun w hw=>h w (AJ _ hw)]
  split
  ·rfl
  ·have:x≠n:=by rintro rfl;exact h v AO
   simp[this]
theorem aAE{kindOf:Str→Option Ay}{x:Str}{v:Value}:∀ {P:List Str} {vs:List Value} {i:Nat} {m:Str→Option Value},P.Nodup→P[i]?=some x→vs[i]?=some v→kindOf x=some .local →
  bindL kindOf (P.zip vs) m x=some v
 | [],_,_,_,_,h,_,_=>by simp at h
 | _ :: _,[],_,_,_,_,h,_=>by simp at h
 | p :: P,w :: vs,0,m,nd,h1,h2,hk=>by
  simp at h1 h2;subst h1;subst h2
  show bindL kindOf ((p,w) :: P.zip vs) m p=_
  unfold bindL
  rw[aAD fun v hv=>(Aj.mp nd).1 (EQ hv).1,if_pos hk]
  simp
 | p :: P,w :: vs,i+1,m,nd,h1,h2,hk=>by
  show bindL kindOf ((p,w) :: P.zip vs) m x=_
  unfold bindL
  exact aAE (i:=i) (Aj.mp nd).2 (by simpa using h1) (by simpa using h2) hk
theorem aAG{kindOf:Str→Option Ay}{x:Str}{v:Value}:∀ {P:List Str} {vs:List Value} {i:Nat} {m:Str→Option Value},P.Nodup→P[i]?=some x→vs[i]?=some v→kindOf x≠some .local →
  bindC kindOf (P.zip vs) m x=some v
 | [],_,_,_,_,h,_,_=>by simp at h
 | _ :: _,[],_,_,_,_,h,_=>by simp at h
 | p :: P,w :: vs,0,m,nd,h1,h2,hk=>by
  simp at h1 h2;subst h1;subst h2
  show bindC kindOf ((p,w) :: P.zip vs) m p=_
  unfold bindC
  rw[aAF fun v hv=>(Aj.mp nd).1 (EQ hv).1,if_neg hk]
  simp
 | p :: P,w :: vs,i+1,m,nd,h1,h2,hk=>by
  show bindC kindOf ((p,w) :: P.zip vs) m x=_
  unfold bindC
  exact aAG (i:=i) (Aj.mp nd).2 (by simpa using h1) (by simpa using h2) hk
noncomputable def start(N:List Str)(vs:List V):St:=vs.map some++BC (N.length - vs.length) none
noncomputable def gZ(CX:CXT)(P:Program)(w:World)(K:AE)(mg:Str→Option Value)(base:Heap)(N:List Str)(qual:Str)(scope:Scope)(f:Addr)(cd:Value)(A:Around)(outer:List Env)(s:Shared)(H:Hp)(E:XK):Cx where
 prog:=P
 w:=w
 K:=K
 mg:=mg
 base:=base
 A:=A.deeper (envOfC qual scope s.heap.objs.size f cd)
 N:=N
 s₀:=s
 H₀:=H
 env:=envOfC qual scope s.heap.objs.size f cd
 outer:=outer
 stack:=envOfC qual scope s.heap.objs.size f cd :: outer
 ex:=[]
 calm:=true
 fn:=fun _=>true
 pn:=[]
 xe:=fun e s'=>wpAny (model P w) (A.deeper (envOfC qual scope s.heap.objs.size f cd)) (leaving (envOfC qual scope s.heap.objs.size f cd) e) (fun _ s''=>CX outer H s E e s'') (fun e' s''=>CX outer H s E e' s'') s'
theorem aEY{sc:Scope}{n:Nat}{x:Str}(h:sc.names.lookup x=some .cell):∃ c,(cellsFrom n sc.names []).lookup x=some c:=by
 have q:=ED sc.names n [] (.inl h)
 exact Option.isSome_iff_exists.mp q
theorem zL{CX:CXT}{P:Program}{w:World}{K:AE}{mg:Str→Option Value}{base:Heap}{N ps:List Str}{qual:Str}{scope:Scope}{f:Addr}{cd:Value}{A:Around}{outer:List Env}{s s1:Shared}{H:Hp}{E:XK}{us:List Value}{vs:List V}
 (S:FnScope N ps scope)(hd:A.handled=none)(e0:Env0 P w K mg base A outer s H)(hl:vs.length=ps.length)(r:bD vs us)
 (x:InCallC s s.heap.objs.size (bindL (envOfC qual scope s.heap.objs.size f cd).kindOf (ps.zip us) fun _=>none) (cellsFrom (s.heap.objs.size+1) scope.names []) (bindC (envOfC qual scope s.heap.objs.size f cd).kindOf (ps.zip us) fun _=>none) s1) :
  Inv (gZ CX P w K mg base N qual scope f cd A outer s H E) [] (start N vs) H s1:=by
 have hpl:ps.length≤N.length:=by have:=congrArg CS S.pre;rw[AR] at this;omega
 obtain⟨h1,tk,rfl,hk⟩:=x.done
 have noA:∀ b:Addr,b∉(gZ CX P w K mg base N qual scope f cd A outer s H E).ex:=fun b z=>absurd (show b∈([]:List Addr) from z) (by simp)
 refine⟨⟨e0.mod,S.kind,rfl,rfl,AL _,fun y z c h1 h2=>?_,fun y hy=>?_,fun y c _ h=>?_,fun _=>hd,Around.frames_deeper e0.frames,.inr ⟨rfl,rfl⟩,fun b z=>absurd z (noA b),e0.bs,e0.bsz,fun b _ _=>noA b,fun b z=>absurd z (noA b),e0.funs,e0.frf⟩,
  rfl,e0.bare,Un.kept hk,⟨_,x.toInCall.ns,fun i y v h1 h2 h3=>?_⟩,fun y c h=>⟨_,x.cell y c h⟩,e0.hok.fresh (AL _),fun y c h=>?_,fun p hp=>absurd (show p∈([]:List (Addr×Obj)) from hp) (by simp),e0.hok.kept hk,?_⟩
 ·exact name_of_addr x.apart (Cv h1) (Cv h2)
 ·have hy:scope.names.lookup y=some .cell∨scope.names.lookup y=some .free:=hy
  rcases hy with hy | hy
  ·exact aEY hy
  ·exact absurd rfl (S.nofree _ (Cv hy))
 ·exact FH (x.above y c (Cv h))
 ·have hi:i<vs.length:=by
   unfold start at h2
   by_cases hi:i<vs.length
   ·exact hi
   ·rw[Be (by simpa using hi)] at h2
    rw[List.getElem?_replicate] at h2
    split at h2 <;> cases h2
  have ha:vs[i]?=some v:=by
   unfold start at h2
   rw[BK (by simpa using hi),AH] at h2
   cases e:vs[i]? with
   | none=>rw[e] at h2;cases h2
   | some a=>rw[e] at h2;cases h2;rfl
  obtain⟨u,hu,rv⟩:=r.get ha
  have hp:ps[i]?=some y:=by
   rw[← S.pre,Bn (by omega)];exact h1
  have ndP:ps.Nodup:=by rw[← S.pre];exact S.nd.sublist (DH _ _)
  refine⟨u,rv,?_⟩
  rcases S.par y (AI hp) with k | k
  ·exact .inl ⟨k,aAE ndP hp hu k⟩
  ·obtain⟨c,e⟩:=aEY (n:=s.heap.objs.size+1) k
   refine .inr ⟨.inl k,c,e,?_⟩
   have q:=x.cell y c e
   rw[aAG ndP hp hu (by show scope.names.lookup y≠_;rw[k];decide)] at q
   exact q
 ·exact e0.hok.fresh (FH (x.above y c (Cv h)))
 ·unfold start
  show _=N.length
  rw[AX,AA,DS]
  omega
theorem aOG{CX:CXT}{P:Program}{w:World}{K:AE}{mg:Str→Option Value}{base:Heap}{k:Nat}{f:Addr}{name qual:Str}{params:Dy}{body:List Stmt}{scope:Scope}{dV kV doc pm cdv ct oc:Value}{an od:Option Addr}
 {osl:Array (Option Value)}{N ps:List Str}{sp:Sp}(lk:K.lookup f=some ⟨oc,od,.func (Bx name qual params body scope dV kV doc pm an cdv ct),osl⟩)(hcd:DA K cdv qual=true)(S:FnScope N ps scope)
 (len:∀ vs H Q E,sp vs H Q E→vs.length=ps.length)
 (hbody:∀ (A:Around) (outer:List Env) (s:Shared) (H:Hp) (vs:List V) (Q:VK) (E:XK),Room k (A.deeper (envOfC qual scope s.heap.objs.size f cdv))→sp vs H Q E →
   ∃ t,PSs (gZ CX P w K mg base N qual scope f cdv A outer s H E) body t∧t { nx:=fun _ H'=>Q .non H',rt:=Q } (start N vs) H) :
  FnOk P w K mg base CX (k+1) f (Bx name qual params body scope dV kV doc pm an cdv ct) ps sp:=by
 refine⟨len,fun A outer s H args us vs Q E hr e0 hb r hsp=>?_⟩
 have hl:=len _ _ _ _ hsp
 have KX:K.In s.heap:=e0.mod.kin.keeps fun b o e=>(e0.bs b o e).1
 have lim:s.heap.NoLimit:=e0.mod.nolimit.keeps fun b o e=>(e0.bs b o e).1
 have hkind:∀ y∈ps.zip us,scope.names.lookup y.1=some .local∨(scope.names.lookup y.1=some .cell∧((cellsFrom (s.heap.objs.size+1) scope.names []).lookup y.1).isSome=true):=fun⟨n,v⟩ hy=>by
  rcases S.par n (EQ hy).1 with q | q
  ·exact .inl q
  ·exact .inr ⟨q,ED _ _ _ (.inl q)⟩
 refine codeAny_call_function hr.depth (KX _ _ lk) rfl S.co S.gen rfl (PySem.W.codeRec_of KX hcd) (hb _ _ _ _ ?_)
 refine wpAny_newFunctionEnv_cells S.kind hkind fun env he s1 x=>?_
 subst he
 refine⟨lim.keeps x.toInCall.keep,codeAny_func ?_⟩
 obtain⟨t,ht,hq⟩:=hbody A outer s H vs Q E (hr.deeper _) hsp
 have I:Inv (gZ CX P w K mg base N qual scope f cdv A outer s H E) [] (start N vs) H s1:=zL S hr.hd e0 hl r x
 refine Az (ht [] s1 (start N vs) H _ I hq) (fun fl s' hs=>?_) fun e s' hs=>hs
 have fin:∀ {σ':St} {H':Hp} {v:V} {u:Value},Inv (gZ CX P w K mg base N qual scope f cdv A outer s H E) [] σ' H' s'→bI v u→Q v H'→CE outer P w H s Q u s' :=
  fun {σ' H' v u} J rv q=>⟨v,H',J.os,J.bare,J.base,J.hok,rv,q⟩
 cases fl with
 | ret u =>
  obtain⟨v,σ',H',J,rv,q⟩:=hs
  exact fin J rv q
 | next =>
  obtain⟨σ',H',J,q⟩:=hs
  exact fin (v:=V.non) (u:=Bj) J rfl q
 | brk =>
  obtain⟨_,_,_,q⟩:=hs
  exact BF q
 | cont =>
  obtain⟨_,_,_,q⟩:=hs
  exact BF q
end L2
namespace L2
open PySem PySem.Spec PyProof.Rows
section
variable{X:Cx}{x:Str}{p pos:Pos}{e:Expr}{es:List Expr}{t:TA}{id T:String}{r:List V→Hp→VK→Prop}
def tCB(r:List V→Hp→VK→Prop)(t:TA):TE:=fun σ H Q=>t σ H fun vs H1=>r vs H1 Q
theorem aQ(hc:eP X (.builtin id) r)(hg:Gl X x)(hm:X.mg x=none)(hv:BM x=some (.builtin id))(ha:PA X (e :: es) t)(hn:x≠"__name__":=by decide)(hdb:(x == ("__debug__":Str))=false:=by decide)
 (he:Ak (e :: es) X.env=(false,eval e X.env) :: Ak es X.env:=by rfl)(hpl:(backTo pos (Ak es X.env)).any (·.1)=false:=by rfl):PE X (.Call (.Name x p) (e :: es) [] pos) (tCB r t):=by
 intro pins s σ H Q I h
 refine CD (mO I hg hm hv ?_ hn hdb)
 exact PyProof.Rows.callWith_builtin1 (thn (ha pos pins s σ H _ I h) fun us s1 ⟨vs,H1,I1,r1,q1⟩=>hc pins s1 σ H1 vs us Q I1 r1 q1) he hpl
theorem bJ(hc:eP X (.type T) r)(hg:Gl X x)(hm:X.mg x=none)(hv:BM x=some (.type T))(ha:PA X (e :: es) t)(hn:x≠"__name__":=by decide)(hdb:(x == ("__debug__":Str))=false:=by decide)
 (he:Ak (e :: es) X.env=(false,eval e X.env) :: Ak es X.env:=by rfl)(hpl:(backTo pos (Ak es X.env)).any (·.1)=false:=by rfl):PE X (.Call (.Name x p) (e :: es) [] pos) (tCB r t):=by
 intro pins s σ H Q I h
 refine CD (mO I hg hm hv ?_ hn hdb)
 exact CA (thn (ha pos pins s σ H _ I h) fun us s1 ⟨vs,H1,I1,r1,q1⟩=>hc pins s1 σ H1 vs us Q I1 r1 q1) he hpl
end
end L2
namespace L2
open PySem PySem.Spec PyProof.Rows
section
variable{κ:Type}[DecidableEq κ]
noncomputable def eS(kvs:List (κ×V))(k:κ):Option V:=(kvs.find? fun kv=>decide (kv.1=k)).map (·.2)
noncomputable def nY(kvs:List (κ×V))(k:κ)(v:V):List (κ×V) :=
 if (kvs.any fun kv=>decide (kv.1=k))=true then kvs.map (fun kv=>if kv.1=k then (kv.1,v) else kv) else kvs++[(k,v)]
theorem iJ{p:κ×V}{r:List (κ×V)}{k:κ}(e:p.1=k):eS (p :: r) k=some p.2:=by simp[eS,Bp,e]
theorem iK{p:κ×V}{r:List (κ×V)}{k:κ}(e:¬ p.1=k):eS (p :: r) k=eS r k:=by simp[eS,Bp,e]
theorem lG(k:κ):∀ kvs:List (κ×V),(kvs.any fun kv=>decide (kv.1=k))=(eS kvs k).isSome
 | []=>rfl
 | p :: r=>by
  rw[Dx]
  by_cases e:p.1=k
  ·simp only[iJ e,decide_eq_true e,Bool.true_or,Option.isSome_some]
  ·rw[iK e,decide_eq_false e,Bool.false_or];exact lG k r
theorem tP(kvs:List (κ×V))(k:κ)(v:V):(nY kvs k v).length≤kvs.length+1:=by
 unfold nY
 split
 ·rw[AA];omega
 ·rw[AX,Af,ER];omega
theorem aMS{kvs:List (κ×V)}{k:κ}(v:V)(h:eS kvs k=none):nY kvs k v=kvs++[(k,v)]:=by
 unfold nY
 rw[lG,h]
 exact if_neg (by decide)
theorem oB.isSome_eq{o:Option V}{u:Option Value}(r:oB o u):o.isSome=u.isSome:=by
 cases o with
 | none=>cases u with
  | none=>rfl
  | some _=>exact (show False from r).elim
 | some _=>cases u with
  | none=>exact (show False from r).elim
  | some _=>rfl
theorem KV.val{kvs:List (κ×V)}{vs:List (κ×Value)}(r:KV kvs vs)(k:κ):oB (eS kvs k) (valueAt vs k):=by
 unfold KV at r
 induction r with
 | nil=>exact Cf
 | @cons p q ps qs h t ih =>
  obtain⟨h1,h2⟩:=h
  by_cases e:p.1=k
  ·have e':q.1=k:=h1.symm.trans e
   have b:valueAt (q :: qs) k=some q.2:=by simp[valueAt,Bp,e']
   rw[iJ e,b];exact h2
  ·have e':¬ q.1=k:=fun z=>e (h1.trans z)
   have b:valueAt (q :: qs) k=valueAt qs k:=by simp[valueAt,Bp,e']
   rw[iK e,b];exact ih
theorem KV.any{kvs:List (κ×V)}{vs:List (κ×Value)}(r:KV kvs vs)(k:κ):(kvs.any fun kv=>decide (kv.1=k))=vs.any fun kv=>decide (kv.1=k):=by
 unfold KV at r
 induction r with
 | nil=>rfl
 | cons h t ih=>rw[Dx,Dx,ih,h.1]
theorem KV.repl{kvs:List (κ×V)}{vs:List (κ×Value)}(r:KV kvs vs)(k:κ){y:V}{u:Value}(ry:bI y u) :
  KV (kvs.map fun kv=>if kv.1=k then (kv.1,y) else kv) (vs.map fun kv=>if kv.1=k then (kv.1,u) else kv):=by
 unfold KV at r ⊢
 induction r with
 | nil=>exact .nil
 | @cons p q ps qs h t ih =>
  rw[AU,AU]
  refine .cons ?_ ih
  obtain⟨h1,h2⟩:=h
  by_cases e:p.1=k
  ·rw[if_pos e,if_pos (h1.symm.trans e)];exact⟨h1,ry⟩
  ·rw[if_neg e,if_neg (fun z=>e (h1.trans z))];exact⟨h1,h2⟩
theorem KV.put{kvs:List (κ×V)}{vs:List (κ×Value)}(r:KV kvs vs)(k:κ){y:V}{u:Value}(ry:bI y u):KV (nY kvs k y) (stored vs k u):=by
 unfold nY stored
 rw[r.any k]
 by_cases e:(vs.any fun kv=>decide (kv.1=k))=true
 ·rw[if_pos e,if_pos e];exact r.repl k ry
 ·rw[if_neg e,if_neg e];exact Dp r ⟨rfl,ry⟩
theorem KV.keys{kvs:List (κ×V)}{vs:List (κ×Value)}(r:KV kvs vs):kvs.map (·.1)=vs.map (·.1):=by
 unfold KV at r
 induction r with
 | nil=>rfl
 | cons h t ih=>rw[AU,AU,ih,h.1]
theorem KV.length{kvs:List (κ×V)}{vs:List (κ×Value)}(r:KV kvs vs):kvs.length=vs.length:=Ci r
end
theorem aEL{P:Program}{w:World}{k:Key}{u:Value}(r:bI (kV k) u):(aU P w).is k u=true:=by
 cases k with
 | inl i=>obtain⟨t,e⟩:=(show ∃ t,u=EA i t from r);subst e;exact aEF P w i t
 | inr x=>obtain⟨t,e⟩:=(show ∃ t,u=Value.str x t from r);subst e;exact aEE P w x t
theorem zK{P:Program}{w:World}:∀ {ks:List Key} {us:List Value},bD (ks.map kV) us→ItemsAre (aU P w) ks us
 | [],_,r=>by rw[Cg] at r;cases r;exact .nil
 | k :: ks,_,r=>by
  rw[AU] at r
  cases r with
  | cons h t=>exact .cons (aEL h) (zK t)
abbrev KT (H:Hp):List (List Key×V)→List (List Key×Addr×Value)→Prop:=Paired fun p q=>p.1=q.1∧H q.2.1=some (.tup (p.1.map kV))∧bI p.2 q.2.2
theorem KT.val{H:Hp}{kvs:List (List Key×V)}{xs:List (List Key×Addr×Value)}(r:KT H kvs xs)(k:List Key):oB (eS kvs k) ((atKey xs k).map (·.2)):=by
 induction r with
 | nil=>exact Cf
 | @cons p q ps qs h t ih =>
  obtain⟨h1,_,h2⟩:=h
  by_cases e:p.1=k
  ·have e':q.1=k:=h1.symm.trans e
   have b:atKey (q :: qs) k=some q.2:=by simp[atKey,Bp,e']
   rw[iJ e,b];exact h2
  ·have e':¬ q.1=k:=fun z=>e (h1.trans z)
   have b:atKey (q :: qs) k=atKey qs k:=by simp[atKey,Bp,e']
   rw[iK e,b];exact ih
theorem KT.repl{H:Hp}{kvs:List (List Key×V)}{xs:List (List Key×Addr×Value)}(r:KT H kvs xs)(k:List Key){y:V}{u:Value}(ry:bI y u) :
  KT H (kvs.map fun kv=>if kv.1=k then (kv.1,y) else kv) (xs.map (putAt k u)):=by
 induction r with
 | nil=>exact .nil
 | @cons p q ps qs h t ih =>
  rw[AU,AU]
  refine .cons ?_ ih
  obtain⟨h1,h2,h3⟩:=h
  unfold putAt
  by_cases e:p.1=k
  ·rw[if_pos e,if_pos (h1.symm.trans e)];exact⟨h1,h2,ry⟩
  ·rw[if_neg e,if_neg (fun z=>e (h1.trans z))];exact⟨h1,h2,h3⟩
theorem KT.put{H:Hp}{kvs:List (List Key×V)}{xs:List (List Key×Addr×Value)}(r:KT H kvs xs)(k:List Key){b:Addr}{y:V}{u:Value}(hb:H b=some (.tup (k.map kV)))(ry:bI y u) :
  KT H (nY kvs k y) (storedH xs k b u):=by
 have e:(kvs.any fun kv=>decide (kv.1=k))=(atKey xs k).isSome:=by
  rw[lG,(r.val k).isSome_eq,Es]
 unfold nY storedH
 rw[e]
 by_cases q:(atKey xs k).isSome=true
 ·rw[if_pos q,if_pos q];exact r.repl k ry
 ·rw[if_neg q,if_neg q];exact Dp r ⟨rfl,hb,ry⟩
theorem KT.keeps{H H':Hp}{kvs:List (List Key×V)}{xs:List (List Key×Addr×Value)}(r:KT H kvs xs)(ht:∀ b ys,H b=some (.tup ys)→H' b=some (.tup ys)):KT H' kvs xs :=
 Paired.mapP r fun _ _ z=>⟨z.1,ht _ _ z.2.1,z.2.2⟩
section
variable{P:Program}{w:World}{H:Hp}{h:Heap}{a:Addr}
theorem aTB{u:HO}(ok:HOk P w H h)(e:Rd H a u):bS P w H h a u:=e.ok ok
theorem aES{kvs:List (Key×V)}(ok:HOk P w H h)(e:Rd H a (.dK kvs)):kvs.length≤Am∧(a == DN)=false∧∃ vs,KV kvs vs∧h.DictOf (aU P w) a vs :=
 show bS P w H h a (.dK kvs) from aTB ok e
theorem aYH{kvs:List (Key×V)}(ok:HOk P w H h)(e:H a=some (.dK kvs)):kvs.length≤Am∧(a == DN)=false∧∃ vs,KV kvs vs∧h.DictOf (aU P w) a vs:=aES ok (.inl e)
theorem rV{ks:List Key}(ok:HOk P w H h)(e:H a=some (.tup (ks.map kV))):(CP (aU P w)).is h ks a:=by
 obtain⟨_,its,r,o,h1,h2,n,h3,_⟩:=(show bS P w H h a (.tup (ks.map kV)) from ok a _ e)
 exact⟨o,its.toArray,n,h1,h2,h3,by simpa using zK r⟩
theorem aER{kvs:List (List Key×V)}(ok:HOk P w H h)(e:Rd H a (.dT kvs)):kvs.length≤Am∧(a == DN)=false ∧
  ∃ xs,KT H kvs xs∧h.DictOfH (CP (aU P w)) a xs:=by
 obtain⟨z,y,xs,r,o,es,ep,h1,h2,h3,h4,h5⟩:=(show bS P w H h a (.dT kvs) from aTB ok e)
 refine⟨z,y,xs,r,o,es,ep,h1,h2,h3,h4,fun x hx=>?_,h5⟩
 have all:∀ {l:List (List Key×V)} {m:List (List Key×Addr×Value)},KT H l m→∀ x∈m,(CP (aU P w)).is h x.1 x.2.1:=by
  intro l m q
  induction q with
  | nil=>intro x hx;exact nomatch hx
  | @cons p q ps qs hq t ih =>
   intro x hx
   rcases Ac.mp hx with e | hx
   ·subst e
    exact rV ok (by rw[← hq.1];exact hq.2.1)
   ·exact ih x hx
 exact all r x hx
theorem aYF{kvs:List (List Key×V)}(ok:HOk P w H h)(e:H a=some (.dT kvs)):kvs.length≤Am∧(a == DN)=false ∧
  ∃ xs,KT H kvs xs∧h.DictOfH (CP (aU P w)) a xs:=aER ok (.inl e)
end
def sR(H:Hp)(a:Addr)(y:V)(r:Option V):Prop :=
 (∃ kvs k,Rd H a (.dK kvs)∧y=kV k∧r=eS kvs k)∨∃ kvs k b,Rd H a (.dT kvs)∧y=.ref b∧H b=some (.tup (k.map kV))∧r=eS kvs k
def aWL(H:Hp)(a:Addr)(y v:V)(H':Hp):Prop :=
 (∃ kvs k,H a=some (.dK kvs)∧y=kV k∧kvs.length<Am∧H'=upd H a (.dK (nY kvs k v))) ∨
 ∃ kvs k b,H a=some (.dT kvs)∧y=.ref b∧H b=some (.tup (k.map kV))∧kvs.length<Am∧H'=upd H a (.dT (nY kvs k v))
theorem sR.k{H:Hp}{a:Addr}{kvs:List (Key×V)}{k:Key}(e:H a=some (.dK kvs)):sR H a (kV k) (eS kvs k):=.inl ⟨kvs,k,.inl e,rfl,rfl⟩
section
variable{X:Cx}{pins:List (Addr×Obj)}{σ:St}{H:Hp}{s:Shared}{a:Addr}{y v:V}{u r:Value}{o:Option V}{A:Around}{E:Value→Shared→Prop}
theorem Inv.big(I:Inv X pins σ H s):DN<s.heap.objs.size:=by
 have h:CH<s.heap.objs.size:=(I.mod.glob.keeps I.bk).lt
 exact Dl (by decide) h
theorem zT{Q:Value→Shared→Prop}(hu:A.units+1<cLine)(I:Inv X pins σ H s)(g:sR H a y (some v))(ry:bI y u)(h:∀ w' s',Inv X pins σ H s'→bI v w'→Q w' s') :
  wpAny (model X.prog X.w) A (getItem (.ref a) u) Q E s:=by
 rcases g with ⟨kvs,k,e,ey,l⟩ | ⟨kvs,k,b,e,ey,eb,l⟩
 ·subst ey
  obtain⟨z,hd,vs,rel,dd⟩:=aES I.hok e
  obtain⟨w',hw,rw'⟩:=oB.some_of (v:=v) (o:=valueAt vs k) (by rw[l];exact rel.val k)
  exact wpAny_getItem_of (aEL ry) dd.mapOf hw (h w' _ (I.tok _) rw')
 ·subst ey
  cases (show u=Al b from ry)
  obtain⟨z,hd,xs,rel,dd⟩:=aER I.hok e
  obtain⟨w',hw,rw'⟩:=oB.some_of (v:=v) (o:=(atKey xs k).map (·.2)) (by rw[l];exact rel.val k)
  obtain⟨p,hp,hp2⟩:=Ab.mp hw
  refine wpAny_getItem_heap (DM hu) (rV I.hok eb) dd hp ?_
  rw[hp2]
  exact h w' _ (I.tok _) rw'
theorem aZO{Q:Value→Shared→Prop}(hu:A.units+1<cLine)(I:Inv X pins σ H s)(g:sR H a y o)(ry:bI y u)(h:∀ s',Inv X pins σ H s'→Q (.bool o.isSome) s') :
  wpAny (model X.prog X.w) A (BU .In u (.ref a)) Q E s:=by
 rcases g with ⟨kvs,k,e,ey,l⟩ | ⟨kvs,k,b,e,ey,eb,l⟩
 ·subst ey
  obtain⟨z,hd,vs,rel,dd⟩:=aES I.hok e
  refine wpAny_in_of (aEL ry) hd dd.mapOf ?_
  rw[← (rel.val k).isSome_eq,← l]
  exact h _ (I.tok _)
 ·subst ey
  cases (show u=Al b from ry)
  obtain⟨z,hd,xs,rel,dd⟩:=aER I.hok e
  refine wpAny_in_heap (DM hu) (rV I.hok eb) hd dd ?_
  have q:=(rel.val k).isSome_eq
  rw[Es] at q
  rw[← q,← l]
  exact h _ (I.tok _)
theorem aRZ{Q:Value→Shared→Prop}(hu:A.units+1<cLine)(I:Inv X pins σ H s)(g:sR H a y o)(ry:bI y u)(h:∀ s',Inv X pins σ H s'→Q (.bool (!o.isSome)) s') :
  wpAny (model X.prog X.w) A (BU .NotIn u (.ref a)) Q E s:=by
 rcases g with ⟨kvs,k,e,ey,l⟩ | ⟨kvs,k,b,e,ey,eb,l⟩
 ·subst ey
  obtain⟨z,hd,vs,rel,dd⟩:=aES I.hok e
  refine wpAny_notIn_of (aEL ry) hd dd.mapOf ?_
  rw[← (rel.val k).isSome_eq,← l]
  exact h _ (I.tok _)
 ·subst ey
  cases (show u=Al b from ry)
  obtain⟨z,hd,xs,rel,dd⟩:=aER I.hok e
  refine wpAny_notIn_heap (DM hu) (rV I.hok eb) hd dd ?_
  have q:=(rel.val k).isSome_eq
  rw[Es] at q
  rw[← q,← l]
  exact h _ (I.tok _)
theorem aJC{h':Heap}{t':Nat}{ob:HO}(I:Inv X pins σ H s)(mu:Mut (H a))(hs:DK a s.heap h')(he:∃ q,h'.get? a=some q)(new:bS X.prog X.w (upd H a ob) h' a ob) :
  Inv X pins σ (upd H a ob) { s with heap:=h',toks:=t' } :=
 I.write (x:=a) (e:=a) mu (.inl rfl) (fun b q hb z=>(hs.2 b hb).trans z) he new
theorem aVZ{P:Program}{w:World}{H':Hp}{h':Heap}{kvs:List (Key×V)}{vs:List (Key×Value)}(z:kvs.length≤Am)(hd:(a == DN)=false)(rel:KV kvs vs)(dd:h'.DictOf (aU P w) a vs) :
  bS P w H' h' a (.dK kvs):=⟨z,hd,vs,rel,dd⟩
theorem zS{H':Hp}{Q:Unit→Shared→Prop}(hu:A.units+1<cLine)(I:Inv X pins σ H s)(g:aWL H a y v H')(ry:bI y u)(rv:bI v r)(h:∀ s',Inv X pins σ H' s'→Q () s') :
  wpAny (model X.prog X.w) A (setItem (.ref a) u r) Q E s:=by
 rcases g with ⟨kvs,k,e,ey,l,eH⟩ | ⟨kvs,k,b,e,ey,eb,l,eH⟩
 ·subst ey eH
  obtain⟨z,hd,vs,rel,dd⟩:=aYH I.hok e
  have hz:vs.length≤Am:=by rw[← rel.length];exact z
  have hl:(nY kvs k v).length≤Am:=by have:=tP kvs k v;omega
  refine wpAny_setItem_pairs (hsz:=hz) (aEL ry) dd fun h' dd' hs=>h _ ?_
  have he:∃ q,h'.get? a=some q:=let ⟨q,_,_,hq,_⟩:=dd';⟨q,hq⟩
  exact aJC I (by rw[e];exact Cf) hs he (aVZ hl hd (rel.put k rv) dd')
 ·subst ey eH
  cases (show u=Al b from ry)
  obtain⟨z,hd,xs,rel,dd⟩:=aYF I.hok e
  have hz:xs.length≤Am:=by rw[← Ci rel];exact z
  have hl:(nY kvs k v).length≤Am:=by have:=tP kvs k v;omega
  refine wpAny_setItem_heap (hsz:=hz) (DM hu) (rV I.hok eb) dd fun h' dd' hs=>h _ ?_
  obtain⟨q,es,ep,hq,h2,h3,h4,_,h5⟩:=dd'
  refine aJC I (by rw[e];exact Cf) hs ⟨q,hq⟩ ⟨hl,hd,_,(rel.put k eb rv).keeps fun c ys ec=>?_,q,es,ep,hq,h2,h3,h4,h5⟩
  rw[aI (zB ec e (fun z=>nomatch z))]
  exact ec
end
section
variable{X:Cx}{pins:List (Addr×Obj)}{σ:St}{H:Hp}{s:Shared}{a:Addr}{kvs:List (Key×V)}{k:Key}{u:Value}{A:Around}{E:Value→Shared→Prop}
end
def aYL(i:Expr):Prop:=∀ ov iv,FY i false ov iv=operate [ov,iv] (getItem ov iv)
theorem aPW{prog:Program}{w:World}{A:Around}{E:Value→Shared→Prop}{s:Shared}{env:Env}{value slice:Expr}{pos:Pos}{T id:String}{Q:Value→Shared→Prop}
 (hl:typeLookup (.type T) "__getitem__"=pure (some (.builtin id)))(hs:aYL slice)
 (h:wpAny (model prog w) A (eval value env) (fun o s₁=>wpAny (model prog w) A (eval slice env) (fun i s₂=>s₂.TypeIs o T∧wpAny (model prog w) A (getItem o i) Q E s₂) E s₁) E s) :
  wpAny (model prog w) A (eval (.Subscript value slice pos) env) Q E s:=by
 refine Subscript_ (Az h (fun o s₁ h₁=>Az h₁ (fun i s₂ h₂=>?_) fun _ _ x=>x) fun _ _ x=>x)
 obtain⟨hT,h₂⟩:=h₂
 unfold subscriptTail
 refine AD ?_
 rw[getitemInPython_of_ne hT.not_modules]
 refine AD (Fa hT hl ?_)
 have fin:wpAny (model prog w) A (FY slice false o i) (fun r s₃=>wpAny (model prog w) A (letTemporaryGo value o r >>= fun _=>pure r) Q E s₃) E s₂:=by
  rw[hs o i]
  exact wpAny_operating (Az h₂ (fun r s₃ h₃=>AD (wpAny_letTemporaryGo (AN h₃))) fun _ _ x=>x)
 first
  | exact AN (AD fin)
  | exact AD (AN (AD fin))
  | exact AD fin
theorem aET{X:Cx}{pins:List (Addr×Obj)}{σ:St}{H:Hp}{s:Shared}{a:Addr}{y:V}{o:Option V}(I:Inv X pins σ H s)(g:sR H a y o):s.TypeIs (.ref a) "dict":=by
 rcases g with ⟨kvs,k,e,_,_⟩ | ⟨kvs,k,b,e,_,_,_⟩
 ·obtain⟨_,_,vs,_,dd⟩:=aES I.hok e
  exact dd.typeIs
 ·obtain⟨_,_,xs,_,dd⟩:=aER I.hok e
  exact dd.typeIs
def aWV(td ty:TE):TE:=fun σ H Q=>td σ H fun x H1=>ty σ H1 fun y H2=>∃ a v,x=.ref a∧sR H2 a y (some v)∧Q v H2
def aYT(ty td:TE):TE:=fun σ H Q=>ty σ H fun y H1=>td σ H1 fun x H2=>∃ a o,x=.ref a∧sR H2 a y o∧Q (.bl o.isSome) H2
def aPV(ty td:TE):TE:=fun σ H Q=>ty σ H fun y H1=>td σ H1 fun x H2=>∃ a o,x=.ref a∧sR H2 a y o∧Q (.bl (!o.isSome)) H2
def aWZ(td ty tv:TE):TS:=fun D σ H=>tv σ H fun v H1=>td σ H1 fun x H2=>ty σ H2 fun y H3=>∃ a H4,x=.ref a∧aWL H3 a y v H4∧D.nx σ H4
def aXA(td ty tv:TE)(rd:V→V→Hp→VK→Prop):TS:=fun D σ H=>td σ H fun x H1=>ty σ H1 fun y H2=>∃ a v,x=.ref a∧sR H2 a y (some v) ∧
 tv σ H2 fun y2 H3=>rd v y2 H3 fun z H4=>∃ H5,aWL H4 a y z H5∧D.nx σ H5
section
variable{X:Cx}{o i e value:Expr}{pos pos' tpos:Pos}{td ty tv:TE}
theorem fX(hu:X.A.units+1<cLine)(ho:PE X o td)(hi:PE X i ty)(hs:aYL i):PE X (.Subscript o i pos) (aWV td ty):=by
 intro pins s σ H Q I h
 refine aPW PySem.F.slot_dict_getitem.lookup hs (thn (ho pins s σ H _ I h) fun u s1 ⟨x,H1,I1,rx,q1⟩=>thn (hi pins s1 σ H1 _ I1 q1) fun iv s2 ⟨y,H2,I2,ry,a,v,ex,g,q2⟩=>?_)
 subst ex
 obtain rfl:u=Al a:=rx
 exact⟨aET I2 g,zT hu I2 g ry fun w' s3 I3 rw'=>⟨v,H2,I3,rw',q2⟩⟩
theorem aNE(hu:X.A.units+1<cLine)(hi:PE X i ty)(ho:PE X o td):PC X .In i o (aYT ty td):=by
 intro pins s σ H Q I h
 refine thn (hi pins s σ H _ I h) fun iv s1 ⟨y,H1,I1,ry,q1⟩=>thn (ho pins s1 σ H1 _ I1 q1) fun u s2 ⟨x,H2,I2,rx,a,ov,ex,g,q2⟩=>?_
 subst ex
 obtain rfl:u=Al a:=rx
 exact aZO hu I2 g ry fun s3 I3=>⟨.bl ov.isSome,H2,I3,rfl,q2⟩
theorem yX(hu:X.A.units+1<cLine)(hi:PE X i ty)(ho:PE X o td):PC X .NotIn i o (aPV ty td):=by
 intro pins s σ H Q I h
 refine thn (hi pins s σ H _ I h) fun iv s1 ⟨y,H1,I1,ry,q1⟩=>thn (ho pins s1 σ H1 _ I1 q1) fun u s2 ⟨x,H2,I2,rx,a,ov,ex,g,q2⟩=>?_
 subst ex
 obtain rfl:u=Al a:=rx
 exact aRZ hu I2 g ry fun s3 I3=>⟨.bl (!ov.isSome),H2,I3,rfl,q2⟩
theorem aQS(hu:X.A.units+1<cLine)(ho:PE X o td)(hi:PE X i ty)(hv:PE X value tv)(hs:Ez value (some (.Subscript o i pos')) pos.line X.env=pure false) :
  PS X (.Assign [.Subscript o i pos'] value pos) (aWZ td ty tv):=by
 intro pins s σ H D I h
 refine wpAny_Assign_Subscript (thn (hv pins s σ H _ I h) fun r s1 ⟨v,H1,I1,rv,q1⟩=>thn (ho pins s1 σ H1 _ I1 q1) fun u s2 ⟨x,H2,I2,rx,q2⟩=>thn (hi pins s2 σ H2 _ I2 q2) fun iv s3 ⟨y,H3,I3,ry,a,H4,ex,g,q3⟩=>?_) hs
 subst ex
 obtain rfl:u=Al a:=rx
 exact zS hu I3 g ry rv fun s4 I4=>⟨σ,H4,I4,q3⟩
theorem aQT{op:Operator}{rd:V→V→Hp→VK→Prop}(hu:X.A.units+1<cLine)(ho:PE X o td)(hi:PE X i ty)(hv:PE X value tv)(hop:aYM X op rd)
 (ha:∀ ov iv new,augStore i ov iv new=(do holding [new,ov,iv] (setItem ov iv new);release [new,ov,iv] [];pure .next)):PS X (.AugAssign (.Subscript o i tpos) op value pos) (aXA td ty tv rd):=by
 intro pins s σ H D I h
 refine wpAny_AugAssign_SubscriptAny (thn (ho pins s σ H _ I h) fun u s1 ⟨x,H1,I1,rx,q1⟩=>thn (hi pins s1 σ H1 _ I1 q1) fun iv s2 ⟨y,H2,I2,ry,a,v,ex,g,q2⟩=>?_) ha
 subst ex
 obtain rfl:u=Al a:=rx
 refine zT hu I2 g ry fun w' s3 I3 rw'=>thn (hv pins s3 σ H2 _ I3 q2) fun w2 s4 ⟨y2,H3,I4,ry2,q3⟩=>thn (hop pins s4 σ H3 v y2 w' w2 _ I4 rw' ry2 q3) fun w3 s5 ⟨z,H4,I5,rz,H5,g5,q4⟩=>?_
 exact zS hu I5 g5 ry rz fun s6 I6=>⟨σ,H5,I6,q4⟩
end
section
variable{X:Cx}{pos:Pos}
end
def aTP:List (TE×TE)→St→Hp→(List (V×V)→Hp→Prop)→Prop
 | [],_,H,Q=>Q [] H
 | (tk,tv) :: r,σ,H,Q=>tk σ H fun x H1=>tv σ H1 fun y H2=>aTP r σ H2 fun ps H3=>Q ((x,y) :: ps) H3
abbrev VV:List (V×V)→List (Value×Value)→Prop:=Paired fun p q=>bI p.1 q.1∧bI p.2 q.2
structure M1 (X:Cx) (o:Expr) (m:Str) (apos:Pos) (e:Expr) (cpos:Pos):Prop where
 base:Dg o m X.env (eval o X.env)=eval o X.env
 few:((backTo cpos (Ak [e] X.env)).all (fun x=>!x.1) && (Dj cpos (Cl [] X.env)).all (fun x=>x.1.isSome)
  && decide (([e]:List Expr).length+([]:List Keyword).length+(if ([]:List Keyword).isEmpty then 0 else 1)<30))=true
 line:(apos.endLine == cpos.line)=true
 trees:backTo cpos (Ak [e] X.env)=[(false,eval e X.env)]
structure M2 (X:Cx) (o:Expr) (m:Str) (apos:Pos) (e f:Expr) (cpos:Pos):Prop where
 base:Dg o m X.env (eval o X.env)=eval o X.env
 few:((backTo cpos (Ak [e,f] X.env)).all (fun x=>!x.1) && (Dj cpos (Cl [] X.env)).all (fun x=>x.1.isSome)
  && decide (([e,f]:List Expr).length+([]:List Keyword).length+(if ([]:List Keyword).isEmpty then 0 else 1)<30))=true
 line:(apos.endLine == cpos.line)=true
 trees:backTo cpos (Ak [e,f] X.env)=[(false,eval e X.env),(false,eval f X.env)]
section
variable{X:Cx}{pins:List (Addr×Obj)}{σ:St}{H:Hp}{s:Shared}{a:Addr}{y d:V}{u r:Value}{o:Option V}{A:Around}{E:Value→Shared→Prop}
end
section
variable{X:Cx}{o e f:Expr}{apos cpos:Pos}{td ty tx:TE}
end
section
variable{X:Cx}{pins:List (Addr×Obj)}{σ:St}{H:Hp}{s:Shared}{a:Addr}{kvs:List (Key×V)}{A:Around}{E:Value→Shared→Prop}
end
section
variable{X:Cx}{pins:List (Addr×Obj)}{σ:St}{H:Hp}{s:Shared}{a:Addr}{y:V}{u:Value}{A:Around}{E:Value→Shared→Prop}
end
end L2
namespace HT
open PySem PyProof.Rows
noncomputable def lexLt:List Int→List Int→Bool
 | [],[]=>false
 | [],_ :: _=>true
 | _ :: _,[]=>false
 | x :: xs,y :: ys=>if x=y then lexLt xs ys else decide (x<y)
theorem lexLt_cons(x y:Int)(xs ys:List Int):lexLt (x :: xs) (y :: ys)=if x=y then lexLt xs ys else decide (x<y):=rfl
theorem xY:lexLt [] []=false:=rfl
theorem wL(y:Int)(ys:List Int):lexLt [] (y :: ys)=true:=rfl
theorem wM(x:Int)(xs:List Int):lexLt (x :: xs) []=false:=rfl
theorem aOQ(A:Around)(s:Shared)(a:Int)(t:Tok)(c:Int)(u:Tok):∃ e,BV A s (.int a t) (.int c u) e∧(e=true↔a=c) :=
 ⟨(a == c),BV.int_int a t c u,by simp⟩
theorem aMQ(A:Around)(s:Shared)(a:Int)(t:Tok)(c:Int)(u:Tok)(prog:Program)(w:World)(E:Value→Shared→Prop)(Q:Value→Shared→Prop)(h:Q (.bool (decide (a<c))) s) :
  wpAny (model prog w) A (richCompare .Lt (.int a t) (.int c u)) Q E s :=
 (PyProof.Rows.lt_int h:wpAny (model prog w) A (BU .Lt (.int a t) (.int c u)) Q E s)
section
open PySem.SeqAt
open PySem.AutoSeq1 (wpAny_loadPart')
open PySem.MeetsSeq PySem.MeetsSeq2 PySem.MeetsSeq3
end
section
variable{prog:Program}{w:World}{A:Around}{E:Value→Shared→Prop}{s:Shared}
noncomputable def sIx(n d:Nat):Option Int→Nat
 | none=>d
 | some v=>if v<0 then (v+(n:Int)).toNat else min v.toNat n
theorem sIx_none(n d:Nat):sIx n d none=d:=rfl
theorem sIx_nat(n d k:Nat):sIx n d (some (k:Int))=min k n:=by
 show (if (k:Int)<0 then ((k:Int)+(n:Int)).toNat else min (k:Int).toNat n)=min k n
 rw[if_neg (by omega),CU]
end
end HT
namespace L2
open PySem PySem.Spec PyProof.Rows
abbrev TO:=St→Hp→(Option Int→Hp→Prop)→Prop
def PO(X:Cx)(e:Option Expr)(t:TO):Prop :=
 ∀ (pins:List (Addr×Obj)) (s:Shared) (σ:St) (H:Hp) (Q:Option Int→Hp→Prop),Inv X pins σ H s→t σ H Q →
  wpAny (model X.prog X.w) X.A (evalPart e X.env) (fun u s'=>∃ o H',Inv X pins σ H' s'∧IsPart u o∧Q o H') X.xe s
def aPT:TO:=fun _ H Q=>Q none H
def aWQ(t:TE):TO:=fun σ H Q=>t σ H fun x H1=>∃ i,x=.int i∧Q (some i) H1
theorem wR{ns:List Int}:∀ {us:List Value},bD (ns.map V.int) us→IntsAre us ns:=by
 induction ns with
 | nil=>intro us r;rw[Cg] at r;cases r;exact .nil
 | cons n ns ih =>
  intro us r
  rw[AU] at r
  cases r with
  | cons r1 r2 =>
   obtain⟨t,e⟩:=r1
   subst e
   exact .cons n t (ih r2)
section
variable{X:Cx}{e:Expr}{te:TE}{lo hi:Option Expr}{tl th:TO}{pos p2:Pos}
theorem nN:PO X none aPT:=by
 intro pins s σ H Q I h
 rw[evalPart_none]
 exact AN ⟨none,H,I,.none,h⟩
theorem jC(h:PE X e te):PO X (some e) (aWQ te):=by
 intro pins s σ H Q I hw
 rw[evalPart_some]
 refine thn (h pins s σ H _ I hw) fun u s1 ⟨x,H1,I1,r1,q1⟩=>?_
 obtain⟨i,rfl,q⟩:=q1
 obtain⟨t,rfl⟩:=r1
 exact⟨some i,H1,I1,.int i t,q⟩
def SlR(X:Cx)(r:V→Option Int→Option Int→Hp→VK→Prop):Prop :=
 ∀ (pins:List (Addr×Obj)) (s:Shared) (σ:St) (H:Hp) (x:V) (v vl vu:Value) (lo hi:Option Int) (sl:Addr) (Q:VK),Inv X pins σ H s→bI x v→s.heap.IsSliceOf sl vl vu .none→IsPart vl lo→IsPart vu hi→r x lo hi H Q →
  ∃ T id,typeLookup (.type T) "__getitem__"=pure (some (.builtin id))∧s.TypeIs v T∧wpAny (model X.prog X.w) X.A (getItem v (.ref sl)) (EP X pins σ Q) X.xe s
def tSl(r:V→Option Int→Option Int→Hp→VK→Prop)(te:TE)(tl th:TO):TE:=fun σ H Q=>te σ H fun x H1=>tl σ H1 fun l H2=>th σ H2 fun u H3=>r x l u H3 Q
theorem iR{r:V→Option Int→Option Int→Hp→VK→Prop}(hr:SlR X r)(he:PE X e te)(hl:PO X lo tl)(hu:PO X hi th):PE X (.Subscript e (.Slice lo hi none p2) pos) (tSl r te tl th):=by
 intro pins s σ H Q I h
 refine Subscript_ (thn (he pins s σ H _ I h) fun v s1 ⟨x,H1,I1,r1,q1⟩=>?_)
 refine wpAny_Slice (thn (hl pins s1 σ H1 _ I1 q1) fun vl s2 ⟨l,H2,I2,pl,q2⟩=>thn (hu pins s2 σ H2 _ I2 q2) fun vu s3 ⟨u,H3,I3,pu,q3⟩=>?_)
 rw[evalPart_none]
 refine AN ?_
 have I4:Inv X pins σ H3 { s3 with heap:=s3.heap.push { cls:=.type "slice",data:=.fields #[vl,vu,.none] } }:=I3.kept (t':=s3.toks) fun b ob q=>AF _ q
 obtain⟨T,id,hT,ht,hg⟩:=hr pins { s3 with heap:=s3.heap.push { cls:=.type "slice",data:=.fields #[vl,vu,.none] } } σ H3 x v vl vu l u s3.heap.objs.size Q I4 r1 (Heap.IsSliceOf.new ..) pl pu q3
 show wpAny (model X.prog X.w) X.A (subscriptTail e (.Slice lo hi none p2) v (.ref s3.heap.objs.size)) (EP X pins σ Q) X.xe { s3 with heap:=s3.heap.push { cls:=.type "slice",data:=.fields #[vl,vu,.none] } }
 exact tail_any (ops:=[.ref s3.heap.objs.size,v]) ht hT hg (by with_unfolding_all rfl)
noncomputable def pL(xs:List V)(lo hi:Option Int):List V:=(xs.drop (HT.sIx xs.length 0 lo)).take (HT.sIx xs.length xs.length hi - HT.sIx xs.length 0 lo)
theorem aEU(xs:List V)(lo hi:Option Int):(pL xs lo hi).length≤xs.length:=by
 unfold pL
 rw[AR,Bh]
 omega
end
end L2
namespace L2
open PySem PySem.Spec PyProof.Rows
noncomputable def ixN(n:Nat)(i:Int):Option Nat:=if 0≤i then (if i<n then some i.toNat else none) else if -(n:Int)≤i then some (i+n).toNat else none
noncomputable def atI{α:Type}(xs:List α)(i:Int):Option α:=(ixN xs.length i).bind fun j=>xs[j]?
theorem aRO{n:Nat}{i:Int}{j:Nat}(h:ixN n i=some j):seqIndex? i n=some j∧j<n∧-(n:Int)≤i∧i<n:=by
 unfold ixN at h
 by_cases h0:0≤i
 ·rw[if_pos h0] at h
  by_cases h1:i<n
  ·rw[if_pos h1] at h
   have e:i.toNat=j:=Ao h
   exact⟨by rw[seqIndex_of h0 h1,e],by omega,by omega,h1⟩
  ·rw[if_neg h1] at h;cases h
 ·rw[if_neg h0] at h
  by_cases h1:-(n:Int)≤i
  ·rw[if_pos h1] at h
   have e:(i+n).toNat=j:=Ao h
   exact⟨by rw[seqIndex_neg (by omega) h1,e],by omega,h1,by omega⟩
  ·rw[if_neg h1] at h;cases h
theorem aCO{α:Type}{xs:List α}{i:Int}{v:α}(h:atI xs i=some v):∃ j,seqIndex? i xs.length=some j∧xs[j]?=some v∧j<xs.length∧-(xs.length:Int)≤i∧i<xs.length:=by
 unfold atI at h
 cases e:ixN xs.length i with
 | none=>rw[e] at h;cases h
 | some j =>
  rw[e] at h
  obtain⟨h1,h2,h3,h4⟩:=aRO e
  exact⟨j,h1,h,h2,h3,h4⟩
theorem aK{α:Type}{xs:List α}{j:Nat}{v:α}(h:xs[j]?=some v):atI xs (j:Int)=some v:=by
 have hj:j<xs.length:=(AC.mp h).1
 have e:ixN xs.length (j:Int)=some j:=by
  unfold ixN
  rw[if_pos (by omega),if_pos (by omega)];simp
 unfold atI;rw[e];exact h
def aSM(b:Expr):Prop:=∀ o i,FY b false o i=operate [o,i] (getItem o i)
def IxR(X:Cx)(r:R2):Prop :=
 ∀ (value slice:Expr) (pins:List (Addr×Obj)) (s:Shared) (σ:St) (H:Hp) (x y:V) (v u:Value) (Q:VK),Inv X pins σ H s→bI x v→bI y u→r x y H Q →
  FY slice false v u=operate [v,u] (getItem v u)→wpAny (model X.prog X.w) X.A (subscriptTail value slice v u) (EP X pins σ Q) X.xe s
def MtR(X:Cx)(id:String)(r:V→List V→Hp→VK→Prop):Prop :=
 ∀ (pins:List (Addr×Obj)) (s:Shared) (σ:St) (H:Hp) (x:V) (xs:List V) (v:Value) (us:List Value) (Q:VK),Inv X pins σ H s→bI x v→bD xs us→r x xs H Q →
  wpAny (model X.prog X.w) X.A (call (.builtin id) (v :: us)) (EP X pins σ Q) X.xe s
section
variable{X:Cx}{a b:Expr}{ta tb:TE}{pos:Pos}
theorem aZ{r:R2}(hr:IxR X r)(ha:PE X a ta)(hb:PE X b tb)(hs:aSM b):PE X (.Subscript a b pos) (tOp r ta tb):=by
 intro pins s σ H Q I h
 exact Subscript_ (aWD ha hb I h fun v u s2 x y H2 I2 rx ry q=>hr a b pins s2 σ H2 x y v u Q I2 rx ry q (hs _ _))
def aXH(K:AE):R2:=fun x y H Q=>∃ p xs i v,x=.ref p∧y=.int i∧SqL K H p xs∧atI xs i=some v∧Q v H
def aXG(K:AE):R2:=fun x y H Q=>∃ p xs i v,x=.ref p∧y=.int i∧SqT K H p xs∧atI xs i=some v∧Q v H
def aZB:R2:=fun x y H Q=>∃ z i c,x=.str z∧y=.int i∧z.length≤Am∧atI z.cps.toList i=some c∧Q (.str ⟨#[c]⟩) H
theorem aRN:IxR X (aXH X.K):=by
 intro value slice pins s σ H x y v u Q I rx ry h hs
 obtain⟨p,xs,i,z,rfl,rfl,hq,he,q⟩:=h
 cases rx
 obtain⟨t,rfl⟩:=ry
 obtain⟨its,r,pl,hz⟩:=I.list hq
 obtain⟨j,h1,h2,h3,h4,h5⟩:=aCO he
 obtain⟨w,ew,rw'⟩:=r.get h2
 have hl:=r.length
 have hn:=wK
 have fin:EP X pins σ Q w s:=⟨z,H,I,rw',q⟩
 by_cases h0:0≤i
 ·have hj:i.toNat=j:=by
   rw[seqIndex_of h0 h5] at h1
   exact Ao h1
  exact item_listR pl.isList h0 (by omega) (by rw[hj];simpa using ew) fin hs
 ·have hj:(i+(its.toArray.size:Int)).toNat=j:=by
   rw[seqIndex_neg (by omega) h4] at h1
   rw[AK,← hl]
   exact Ao h1
  exact subscriptTail_builtinR (x:=w) pl.isList.typeIs slot_list_getitem.lookup
   (wpAny_getItem_list_neg (Q:=fun r s'=>r=w∧EP X pins σ Q r s') pl.isList (by omega) (by rw[AK] <;> omega) (by omega) (by rw[hj];simpa using ew) ⟨rfl,fin⟩) hs
theorem aVL:IxR X (aXG X.K):=by
 intro value slice pins s σ H x y v u Q I rx ry h hs
 obtain⟨p,xs,i,z,rfl,rfl,hq,he,q⟩:=h
 cases rx
 obtain⟨t,rfl⟩:=ry
 obtain⟨its,r,pl,hz⟩:=I.tuple hq
 obtain⟨j,h1,h2,h3,h4,h5⟩:=aCO he
 obtain⟨w,ew,rw'⟩:=r.get h2
 have hl:=r.length
 have hn:=wK
 have fin:EP X pins σ Q w s:=⟨z,H,I,rw',q⟩
 exact subscriptTail_builtinR (x:=w) pl.typeIs slot_tuple_getitem.lookup
  (getItem_tuple (j:=j) (Q:=fun r s'=>r=w∧EP X pins σ Q r s') pl (by omega) (by omega) (by rw[AK,← hl];exact h1) (by simpa using ew) ⟨rfl,fin⟩) hs
theorem aGL:IxR X aZB:=by
 intro value slice pins s σ H x y v u Q I rx ry h hs
 obtain⟨z,i,c,rfl,rfl,hz,he,q⟩:=h
 obtain⟨t,rfl⟩:=rx
 obtain⟨t',rfl⟩:=ry
 obtain⟨j,h1,h2,h3,h4,h5⟩:=aCO he
 have hl:z.cps.toList.length=z.length:=by simp[Str.length]
 rw[hl] at h1 h4 h5
 have hn:=wK
 exact tail_any (typeIs_str s z t) slot_str_getitem.lookup (getItem_str (c:=c) (by
  have e1:decide (i < -(2 ^ 63:Int))=false:=decide_eq_false (by omega)
  have e2:decide (i≥2 ^ 63)=false:=decide_eq_false (by omega)
  rw[e1,e2,Bool.or_false]) (by rw[h1];simpa using h2) ⟨.str ⟨#[c]⟩,H,I.tok _,⟨_,rfl⟩,q⟩) hs
theorem aAT(lo hi:Option Int)(n:Nat):(Di lo hi none n).1=((HT.sIx n 0 lo:Nat):Int)∧(Di lo hi none n).2.1=((HT.sIx n n hi:Nat):Int)∧(Di lo hi none n).2.2=1:=by
 refine⟨?_,?_,rfl⟩
 ·cases lo with
  | none=>simp[Di,HT.sIx]
  | some i =>
   simp only[Di,HT.sIx,Option.getD_none,show (1:Int)>0 by decide,if_true]
   by_cases h:i<0
   ·simp only[h,if_true] <;> omega
   ·simp only[h,if_false] <;> omega
 ·cases hi with
  | none=>simp[Di,HT.sIx]
  | some i =>
   simp only[Di,HT.sIx,Option.getD_none,show (1:Int)>0 by decide,if_true]
   by_cases h:i<0
   ·simp only[h,if_true] <;> omega
   ·simp only[h,if_false] <;> omega
theorem xL(its:List Value)(lo hi:Option Int):slicePick its.toArray lo hi none=((its.drop (HT.sIx its.length 0 lo)).take (HT.sIx its.length its.length hi - HT.sIx its.length 0 lo)).toArray:=by
 obtain⟨h1,h2,h3⟩:=aAT lo hi its.toArray.size
 unfold slicePick
 rw[h1,h2,h3]
 simp only[sliceRange_one,pick_run,AK] <;> rfl
def aXE(K:AE):V→Option Int→Option Int→Hp→VK→Prop:=fun x lo hi H Q=>∃ a xs,x=.ref a∧SqL K H a xs∧∀ p,H p=none→Q (.ref p) (upd H p (.lst (pL xs lo hi)))
theorem aQF:SlR X (aXE X.K):=by
 intro pins s σ H x v vl vu lo hi sl Q I rx hs pl pu h
 obtain⟨a,xs,rfl,hx,q⟩:=h
 cases rx
 obtain⟨its,r,ht,hz⟩:=I.list hx
 have hlen:=r.length
 refine⟨"list",_,slot_list_getitem.lookup,ht.isList.typeIs,?_⟩
 refine wpAny_getItem_list_slice ht.isList hs pl pu .none (by simp) ?_ (by rw[AK] <;> omega)
 rw[xL,← hlen]
 refine⟨.ref s.heap.objs.size,_,I.laid (t':=s.toks) (o:=.lst (pL xs lo hi)) (fun b ob q=>AF _ q) (AL _) ?_,rfl,q _ (I.hok.fresh (AL _))⟩
 exact⟨Av (aEU xs lo hi) hz,_,0,(r.drop (HT.sIx xs.length 0 lo)).take (HT.sIx xs.length xs.length hi - HT.sIx xs.length 0 lo),AZ _ rfl⟩
noncomputable def qT:V→Bool
 | .non=>true
 | .bl _=>true
 | .int _=>true
 | .str _=>true
 | _=>false
noncomputable def eqV:V→V→Bool
 | .non,.non=>true
 | .bl a,.bl b=>a == b
 | .bl a,.int b=>(if a then 1 else 0) == b
 | .int a,.bl b=>a == (if b then 1 else 0)
 | .int a,.int b=>a == b
 | .str a,.str b=>a == b
 | _,_=>false
theorem kO{A:Around}{s:Shared}{y x:V}{u v:Value}(ry:bI y u)(rx:bI x v)(fy:qT y=true)(fx:qT x=true):BV A s u v (eqV y x):=by
 cases y with
 | non =>
  cases ry
  cases x with
  | non=>cases rx;exact BV.same _
  | bl b=>cases rx;exact BV.none_bool b
  | int b=>obtain⟨t,rfl⟩:=rx;exact BV.none_int b t
  | str b=>obtain⟨t,rfl⟩:=rx;exact BV.none_str b t
  | _=>exact absurd (show false=true from fx) AQ
 | bl a =>
  cases ry
  cases x with
  | non=>cases rx;exact BV.bool_none a
  | bl b=>cases rx;exact BV.bool_bool a b
  | int b=>obtain⟨t,rfl⟩:=rx;exact BV.bool_int a b t
  | str b=>obtain⟨t,rfl⟩:=rx;exact BV.bool_str a b t
  | _=>exact absurd (show false=true from fx) AQ
 | int a =>
  obtain⟨t',rfl⟩:=ry
  cases x with
  | non=>cases rx;exact BV.int_none a t'
  | bl b=>cases rx;exact BV.int_bool a t' b
  | int b=>obtain⟨t,rfl⟩:=rx;exact BV.int_int a t' b t
  | str b=>obtain⟨t,rfl⟩:=rx;exact BV.int_str a t' b t
  | _=>exact absurd (show false=true from fx) AQ
 | str a =>
  obtain⟨t',rfl⟩:=ry
  cases x with
  | non=>cases rx;exact BV.str_none a t'
  | bl b=>cases rx;exact BV.str_bool a t' b
  | int b=>obtain⟨t,rfl⟩:=rx;exact BV.str_int a t' b t
  | str b=>obtain⟨t,rfl⟩:=rx;exact BV.str_str a t' b t
  | _=>exact absurd (show false=true from fx) AQ
 | _=>exact absurd (show false=true from fy) AQ
noncomputable def eqU(x:V)(u:Value):Bool:=match u with
 | .none=>eqV .non x
 | .bool b=>eqV (.bl b) x
 | .int i _=>eqV (.int i) x
 | .str z _=>eqV (.str z) x
 | _=>false
theorem aOP{x y:V}{u:Value}(r:bI y u)(f:qT y=true):eqU x u=eqV y x:=by
 cases y with
 | non=>cases r;rfl
 | bl b=>cases r;rfl
 | int i=>obtain⟨t,rfl⟩:=r;rfl
 | str z=>obtain⟨t,rfl⟩:=r;rfl
 | _=>exact absurd (show false=true from f) AQ
theorem qX{x:V}:∀ {xs:List V} {us:List Value},bD xs us→xs.all qT=true→us.any (eqU x)=xs.any fun y=>eqV y x
 | _,_,.nil,_=>rfl
 | y :: xs,u :: us,.cons r t,f=>by
  rw[Cy,AV] at f
  rw[Dx,Dx,aOP r f.1,qX t f.2]
theorem mK{A:Around}{s:Shared}{x:V}{v:Value}(rx:bI x v)(fx:qT x=true):∀ {xs:List V} {us:List Value},bD xs us→xs.all qT=true→∀ u∈us,BV A s u v (eqU x u)
 | _,_,.nil,_=>fun u hu=>by cases hu
 | y :: xs,u :: us,.cons r t,f=>fun u' hu=>by
  rw[Cy,AV] at f
  rcases Ac.mp hu with rfl | hu
  ·rw[aOP r f.1];exact kO r rx f.1 fx
  ·exact mK rx fx t f.2 u' hu
noncomputable def inV(x:V)(xs:List V):Bool:=xs.any fun y=>eqV y x
def rIn(K:AE)(neg:Bool):R2:=fun x y H Q=>∃ p xs,y=.ref p∧(SqL K H p xs∨SqT K H p xs)∧qT x=true∧xs.all qT=true∧Q (.bl (if neg then !inV x xs else inV x xs)) H
theorem aKC:OpR X (BU .In) (rIn X.K false):=by
 intro pins s σ H x y v u Q I rx ry h
 obtain⟨p,xs,rfl,hq,fx,fs,q⟩:=h
 cases ry
 rcases hq with hq | hq
 ·obtain⟨its,r,pl,hz⟩:=I.list hq
  refine SeqAt.in_listAt (eqU x) pl.isList (fun w hw=>mK rx fx r fs w (by simpa using hw)) ⟨.bl _,H,I,rfl,?_⟩
  rw[show its.toArray.any (eqU x)=its.any (eqU x) by simp,qX r fs]
  exact q
 ·obtain⟨its,r,pl,hz⟩:=I.tuple hq
  refine SeqAt.in_tupleAt (eqU x) pl (fun w hw=>mK rx fx r fs w (by simpa using hw)) ⟨.bl _,H,I,rfl,?_⟩
  rw[show its.toArray.any (eqU x)=its.any (eqU x) by simp,qX r fs]
  exact q
theorem aBJ:OpR X (BU .NotIn) (rIn X.K true):=by
 intro pins s σ H x y v u Q I rx ry h
 obtain⟨p,xs,rfl,hq,fx,fs,q⟩:=h
 cases ry
 rcases hq with hq | hq
 ·obtain⟨its,r,pl,hz⟩:=I.list hq
  refine SeqAt.notIn_listAt (eqU x) pl.isList (fun w hw=>mK rx fx r fs w (by simpa using hw)) ⟨.bl _,H,I,rfl,?_⟩
  rw[show its.toArray.any (eqU x)=its.any (eqU x) by simp,qX r fs]
  exact q
 ·obtain⟨its,r,pl,hz⟩:=I.tuple hq
  refine SeqAt.notIn_tupleAt (eqU x) pl (fun w hw=>mK rx fx r fs w (by simpa using hw)) ⟨.bl _,H,I,rfl,?_⟩
  rw[show its.toArray.any (eqU x)=its.any (eqU x) by simp,qX r fs]
  exact q
theorem aCK:eP X (.builtin "len") (fun xs H Q=>∃ p ys,xs=[.ref p]∧(SqL X.K H p ys∨SqT X.K H p ys)∧Q (.int ys.length) H):=by
 intro pins s σ H xs us Q I r h
 obtain⟨p,ys,rfl,hq,q⟩:=h
 obtain⟨u,rfl,rx⟩:=uV r
 cases rx
 have hn:=wK
 rcases hq with hq | hq
 ·obtain⟨its,r',pl,hz⟩:=I.list hq
  have hlen:=r'.length
  exact Calls.call_len_list pl.isList (by simp only[AK] <;> omega) ⟨.int ys.length,H,I.tok _,⟨s.toks+1,by rw[AK,hlen]⟩,q⟩
 ·obtain⟨its,r',pl,hz⟩:=I.tuple hq
  have hlen:=r'.length
  exact len_tuple pl (by simp only[AK] <;> omega) ⟨.int ys.length,H,I.tok _,⟨s.toks+1,by rw[AK,hlen]⟩,q⟩
theorem aCJ:eP X (.builtin "len") (fun xs H Q=>∃ z,xs=[.str z]∧z.length≤Am∧Q (.int z.length) H):=by
 intro pins s σ H xs us Q I r h
 obtain⟨z,rfl,hz,q⟩:=h
 obtain⟨u,rfl,t,rfl⟩:=uV r
 have hn:=wK
 exact len_str (by omega) ⟨.int z.length,H,I.tok _,⟨_,rfl⟩,q⟩
theorem aCI:eP X (.type "list") (fun xs H Q=>∃ p ys,xs=[.ref p]∧(SqL X.K H p ys∨SqT X.K H p ys)∧∀ l,H l=none→Q (.ref l) (upd H l (.lst ys))):=by
 intro pins s σ H xs us Q I r h
 obtain⟨p,ys,rfl,hq,q⟩:=h
 obtain⟨u,rfl,rx⟩:=uV r
 cases rx
 have fin:∀ (its:List Value),bD ys its→ys.length≤Am→∀ (h':Heap) (c':Nat),(∀ b o',s.heap.get? b=some o'→h'.get? b=some o') →
   h'.get? s.heap.objs.size=some { cls:=.type "list",dict:=none,data:=.seq its.toArray c',slots:=#[] }→EP X pins σ Q (.ref s.heap.objs.size) { s with heap:=h' }:=fun its r' hz h' c' kp e =>
  ⟨.ref s.heap.objs.size,_,I.laid (t':=s.toks) kp (AL _) (show bS X.prog X.w _ h' _ (.lst ys) from⟨hz,its,c',r',e⟩),rfl,q _ (I.hok.fresh (AL _))⟩
 rcases hq with hq | hq
 ·obtain⟨its,r',pl,hz⟩:=I.list hq
  have hlen:=r'.length
  obtain⟨o,ho,hc,n,hd⟩:=pl.isList
  exact call_list_seq p (.inl rfl) ho hc hd (fun h' c' kp e=>fin its r' hz h' c' kp e) (by simp only[AK] <;> omega)
 ·obtain⟨its,r',pl,hz⟩:=I.tuple hq
  have hlen:=r'.length
  obtain⟨o,ho,hc,n,hd⟩:=pl
  exact call_list_seq p (.inr rfl) ho hc hd (fun h' c' kp e=>fin its r' hz h' c' kp e) (by simp only[AK] <;> omega)
theorem jI:eP X (.type "tuple") (fun xs H Q=>∃ p ys,xs=[.ref p]∧((SqL X.K H p ys∧∀ l,H l=none→Q (.ref l) (upd H l (.tup ys)))∨(SqT X.K H p ys∧Q (.ref p) H))):=by
 intro pins s σ H xs us Q I r h
 obtain⟨p,ys,rfl,h⟩:=h
 obtain⟨u,rfl,rx⟩:=uV r
 cases rx
 rcases h with ⟨hq,q⟩ | ⟨hq,q⟩
 ·obtain⟨its,r',pl,hz⟩:=I.list hq
  have hlen:=r'.length
  refine call_tuple_list pl.isList (fun h' kp=>?_) (by simp only[AK] <;> omega)
  have I1:Inv X pins σ H { s with heap:=h' }:=I.kept (t':=s.toks) kp
  have I2:Inv X pins σ (upd H h'.objs.size (.tup ys)) { s with heap:=h'.push { cls:=.type "tuple",data:=.seq its.toArray } } :=
   I1.laid (t':=s.toks) (fun b o e=>AF _ e) (AL _) (show bS X.prog X.w _ _ _ (.tup ys) from⟨hz,its,r',sQ.new _ _⟩)
  exact⟨.ref h'.objs.size,_,I2,rfl,q _ (I1.hok.fresh (AL _))⟩
 ·obtain⟨its,r',pl,hz⟩:=I.tuple hq
  exact call_tuple_same pl ⟨.ref p,H,I,rfl,q⟩
def tyV(K:AE)(T:String)(x:V)(H:Hp):Prop:=match x with
 | .str _=>T="str"
 | .int _=>T="int"
 | .ref p=>(T="list"∧∃ xs,SqL K H p xs)∨(T="tuple"∧∃ o,K.lookup p=some o∧o.cls=.type "tuple"∧o.dict=none) ∨
   (T="dict"∧((∃ kvs,H p=some (.dK kvs))∨∃ kvs,H p=some (.dT kvs)))∨(T="set"∧∃ S n,H p=some (.set S n))∨(T="tuple"∧∃ xs,H p=some (.tup xs))
 | _=>False
theorem aLF{pins:List (Addr×Obj)}{σ:St}{H:Hp}{s:Shared}{T:String}{x:V}{v:Value}(I:Inv X pins σ H s)(r:bI x v)(ty:tyV X.K T x H) :
  s.TypeIs v T∧∀ a,v=.ref a→∃ ob,s.heap.get? a=some ob∧ob.dict=none:=by
 cases x with
 | str z =>
  obtain⟨t,rfl⟩:=r
  cases (show T="str" from ty)
  exact⟨typeIs_str s z t,fun _ e=>nomatch e⟩
 | int i =>
  obtain⟨t,rfl⟩:=r
  cases (show T="int" from ty)
  exact⟨typeIs_int s i t,fun _ e=>nomatch e⟩
 | ref p =>
  cases r
  rcases ty with ⟨rfl,xs,hq⟩ | ⟨rfl,o,hk,hc,hd⟩ | ⟨rfl,hk⟩ | ⟨rfl,S,n,hk⟩ | ⟨rfl,xs,hk⟩
  ·obtain⟨its,_,pl,_⟩:=I.list hq
   refine⟨pl.isList.typeIs,fun a e=>?_⟩
   cases e
   obtain⟨o,n,e,c,hd,_⟩:=pl
   exact⟨o,e,hd⟩
  ·refine⟨⟨o,I.kIn p o hk,hc⟩,fun a e=>?_⟩
   cases e
   exact⟨o,I.kIn _ o hk,hd⟩
  ·have z:∃ o,s.heap.get? p=some o∧o.ExactDict:=by
    rcases hk with ⟨kvs,hk⟩ | ⟨kvs,hk⟩
    ·obtain⟨_,_,_,_,o,_,_,e,ex,_⟩:=I.hok p _ hk
     exact⟨o,e,ex⟩
    ·obtain⟨_,_,_,_,o,_,_,e,ex,_⟩:=I.hok p _ hk
     exact⟨o,e,ex⟩
   obtain⟨o,e,ex⟩:=z
   refine⟨⟨o,e,ex.1⟩,fun a e2=>?_⟩
   cases e2
   exact⟨o,e,ex.2.1⟩
  ·obtain⟨o,_,_,_,e,ex,_⟩:=I.hok p _ hk
   refine⟨⟨o,e,ex.1⟩,fun a e2=>?_⟩
   cases e2
   exact⟨o,e,ex.2.1⟩
  ·obtain⟨_,_,_,o,e,hc,_,_,hd⟩:=(show bS X.prog X.w H s.heap p (.tup xs) from I.hok p _ hk)
   refine⟨⟨o,e,hc⟩,fun a e2=>?_⟩
   cases e2
   exact⟨o,e,hd⟩
 | _=>exact BF ty
def aYU(K:AE)(T:String)(r:V→List V→Hp→VK→Prop)(to:TE):TE:=fun σ H Q=>to σ H fun x H1=>tyV K T x H1∧r x [] H1 Q
def tBM(K:AE)(T:String)(r:V→List V→Hp→VK→Prop)(to:TE)(t:TA):TE:=fun σ H Q=>to σ H fun x H1=>tyV K T x H1∧t σ H1 fun xs H2=>r x xs H2 Q
variable{o e:Expr}{es:List Expr}{to:TE}{t:TA}{name:Str}{apos cpos:Pos}{T id:String}{r:V→List V→Hp→VK→Prop}
theorem aUV(pa:PlainAttrs T)(slot:Slot T name id)(hty:typeOf (.builtin id)=pure (.type "method_descriptor"))(hm:MtR X id r)(ho:PE X o to)
 (hbase:Dg o name X.env (eval o X.env)=eval o X.env:=by rfl)(hline:(apos.endLine == cpos.line)=true:=by rfl):PE X (.Call (.Attribute o name apos) [] [] cpos) (aYU X.K T r to):=by
 intro pins s σ H Q I h
 refine wpAny_Call_method0_late hbase hline (thn (ho pins s σ H _ I h) fun v s1 ⟨x,H1,I1,r1,ty,q1⟩=>?_)
 obtain⟨h1,h2⟩:=aLF I1 r1 ty
 exact⟨T,id,pa,slot,hty,h1,h2,Calls.callWith_builtin rfl (PySem.evalArgs_none (hm pins s1 σ H1 x [] v [] Q I1 r1 .nil q1))⟩
theorem mB(pa:PlainAttrs T)(slot:Slot T name id)(hty:typeOf (.builtin id)=pure (.type "method_descriptor"))(hm:MtR X id r)(ho:PE X o to)(ha:PA X (e :: es) t)
 (hbase:Dg o name X.env (eval o X.env)=eval o X.env:=by rfl)
 (hfew:((backTo cpos (Ak (e :: es) X.env)).all (fun x=>!x.1) && (Dj cpos (Cl [] X.env)).all (fun x=>x.1.isSome)
   && decide ((e :: es).length+([]:List Keyword).length+(if ([]:List Keyword).isEmpty then 0 else 1)<30))=true:=by rfl)
 (hline:(apos.endLine == cpos.line)=true:=by rfl)(hs:Ak (e :: es) X.env=(false,eval e X.env) :: Ak es X.env:=by rfl)(hplain:(backTo cpos (Ak es X.env)).any (·.1)=false:=by rfl) :
  PE X (.Call (.Attribute o name apos) (e :: es) [] cpos) (tBM X.K T r to t):=by
 intro pins s σ H Q I h
 refine wpAny_Call_method_late hbase hfew hline rfl (thn (ho pins s σ H _ I h) fun v s1 ⟨x,H1,I1,r1,ty,q1⟩=>?_)
 obtain⟨h1,h2⟩:=aLF I1 r1 ty
 refine⟨T,id,pa,slot,hty,h1,h2,?_⟩
 have hA:=ha cpos pins s1 σ H1 _ I1 q1
 rw[hs] at hA ⊢
 refine Calls.callWith_builtin (by show (false || (backTo cpos (Ak es X.env)).any (·.1))=false;rw[hplain] <;> rfl) (Calls.evalArgs_plain ?_)
 exact thn hA fun us s2 ⟨vs,H2,I2,r2,q2⟩=>hm pins s2 σ H2 x vs v us Q I2 r1 r2 q2
end
end L2
namespace L2
open PySem PySem.Spec PyProof.Rows
def MtM(X:Cx)(id:String)(r:V→List V→Hp→VK→Prop):Prop :=
 ∀ (pins:List (Addr×Obj)) (s:Shared) (σ:St) (H:Hp) (x:V) (xs:List V) (v:Value) (us:List Value) (Q:VK),Inv X pins σ H s→bI x v→bD xs us→r x xs H Q →
  wpAny (model X.prog X.w) X.A (call (.builtin id) (v :: us)) (EP X pins σ Q) X.xe s
theorem bD.one:∀ {x:V} {us:List Value},bD [x] us→∃ u,us=[u]∧bI x u
 | _,_,.cons r .nil=>⟨_,rfl,r⟩
theorem bD.two:∀ {x y:V} {us:List Value},bD [x,y] us→∃ u v,us=[u,v]∧bI x u∧bI y v
 | _,_,_,.cons r (.cons q .nil)=>⟨_,_,rfl,r,q⟩
theorem bD.zero:∀ {us:List Value},bD [] us→us=[]
 | _,.nil=>rfl
theorem bD.eraseIdx:∀ {xs:List V} {us:List Value} (i:Nat),bD xs us→bD (xs.eraseIdx i) (us.eraseIdx i)
 | _,_,_,.nil=>.nil
 | _,_,0,.cons _ t=>t
 | _,_,i+1,.cons r t=>.cons r (bD.eraseIdx i t)
theorem bD.rep{xs:List V}{us:List Value}(h:bD xs us):∀ k:Nat,bD (BC k xs).flatten (BC k us).flatten
 | 0=>.nil
 | k+1=>by
  rw[Cw,Cw,DI,DI]
  exact bD.append h (bD.rep h k)
theorem zE{α:Type}:∀ (l:List α) (i:Nat),(l.eraseIdx i).length≤l.length
 | [],_=>AL _
 | _ :: _,0=>Cr _
 | _ :: r,i+1=>Nat.succ_le_succ (zE r i)
theorem zN(its:List Value):∀ (k:Nat) (acc:List Value),
  List.foldl (fun x1 x2=>x1++x2) acc.toArray (BC k its.toArray)=(acc++(BC k its).flatten).toArray
 | 0,acc=>by simp
 | k+1,acc=>by
  have e:acc.toArray++its.toArray=(acc++its).toArray:=by simp
  have e2:(acc++its)++(BC k its).flatten=acc++(BC (k+1) its).flatten:=by
   rw[Cw,DI,Bl]
  rw[← e2,← zN its k (acc++its),← e,Cw,ES]
section
variable{X:Cx}{pins:List (Addr×Obj)}{σ:St}{H:Hp}{s:Shared}{l b:Addr}{xs ys zs:List V}
theorem Inv.lset{its its':List Value}{n:Nat}{f:Array Value→Array Value}{t':Nat}(I:Inv X pins σ H s)(hH:H l=some (.lst xs))
 (e:s.heap.get? l=some { cls:=.type "list",data:=.seq its.toArray n })(hf:f its.toArray=its'.toArray)(hv:bD ys its')(hz:ys.length≤Am) :
  Inv X pins σ (upd H l (.lst ys)) { s with heap:=s.heap.update l (BJ f),toks:=t' }:=by
 have q:=PySem.IsL.update e f
 rw[hf] at q
 refine I.write (x:=l) (e:=l) (by rw[hH];exact trivial) (.inl rfl) (fun b' u hb hu=>(BZ s.heap (BJ f) (Ne.symm hb)).trans hu) ⟨_,q⟩ ?_
 exact⟨hz,its',_,hv,q⟩
theorem Inv.lnew{its:List Value}{t':Nat}(I:Inv X pins σ H s)(hv:bD ys its)(hz:ys.length≤Am) :
  Inv X pins σ (upd H s.heap.objs.size (.lst ys)) { s with heap:=s.heap.push { cls:=.type "list",data:=.seq its.toArray },toks:=t' } :=
 I.laid (fun _ _ q=>AF _ q) (AL _) ⟨hz,its,0,hv,AZ _ rfl⟩
theorem Inv.fresh(I:Inv X pins σ H s):H s.heap.objs.size=none:=I.hok.fresh (AL _)
theorem Inv.lstM(I:Inv X pins σ H s)(hH:H l=some (.lst xs)):xs.length≤Am∧∃ (its:List Value) (n:Nat),bD xs its∧xs.length=its.length∧s.heap.get? l=some { cls:=.type "list",data:=.seq its.toArray n }:=by
 obtain⟨z,its,n,r,e⟩:=I.hok l _ hH
 exact⟨z,its,n,r,r.length,e⟩
theorem aNK{n:Nat}(h:n≤Am):Da n=false:=by
 unfold Da
 exact decide_eq_false (by omega)
end
section
variable{X:Cx}
def aQP:V→List V→Hp→VK→Prop:=fun x vs H Q=>∃ l xs y,x=.ref l∧vs=[y]∧H l=some (.lst xs)∧xs.length<Am∧Q .non (upd H l (.lst (xs++[y])))
theorem fD:MtM X "list.append" aQP:=by
 intro pins s σ H x vs v us Q I rx rv h
 obtain⟨l,xs,y,rfl,rfl,hH,hz,q⟩:=h
 cases rx
 obtain⟨u,rfl,ru⟩:=rv.one
 obtain⟨z,its,n,r,hl,e⟩:=I.lstM hH
 refine FN F.slot_list_append ⟨_,e,rfl⟩ F.entry_list_append (F.args_list_append_2 _ _) (PySem.list_append l its.toArray n u (by rw[AK];omega)) ⟨e,?_⟩
 refine⟨.non,_,I.lset (its':=its++[u]) hH e (by simp) (r.append (.cons ru .nil)) ?_,rfl,q⟩
 rw[AX,Bw]
 omega
def aUN:V→List V→Hp→VK→Prop:=fun x vs H Q=>∃ l xs i k y,x=.ref l∧vs=[.int i]∧H l=some (.lst xs)∧-(2 ^ 63)≤i∧i<2 ^ 63∧seqIndex? i xs.length=some k∧xs[k]?=some y∧Q y (upd H l (.lst (xs.eraseIdx k)))
theorem aNL:MtM X "list.pop" aUN:=by
 intro pins s σ H x vs v us Q I rx rv h
 obtain⟨l,xs,i,k,y,rfl,rfl,hH,h1,h2,hk,hy,q⟩:=h
 cases rx
 obtain⟨u,rfl,ru⟩:=rv.one
 obtain⟨t,rfl⟩:=ru
 obtain⟨z,its,n,r,hl,e⟩:=I.lstM hH
 obtain⟨w,hw,rw'⟩:=r.get hy
 refine FN F.slot_list_pop ⟨_,e,rfl⟩ F.entry_list_pop (F.args_list_pop_2 _ _)
  (MeetsSeq.list_pop_at l its.toArray n i t k w (fitsIndex_both h1 h2) (by rw[AK,← hl];exact hk) (by rw[← CN];exact hw) (by rw[AK];omega)) ⟨e,?_⟩
 refine⟨y,_,I.lset (its':=its.eraseIdx k) hH e ?_ (r.eraseIdx k) ?_,rw',q⟩
 ·show its.toArray.eraseIdxIfInBounds k=(its.eraseIdx k).toArray
  rw[List.eraseIdxIfInBounds_toArray]
 ·have:=zE xs k
  omega
def aZC:R2:=fun x y H Q=>∃ l b xs zs,x=.ref l∧y=.ref b∧H l=some (.lst xs)∧H b=some (.lst zs)∧xs.length+zs.length≤Am∧∀ p,H p=none→Q (.ref p) (upd H p (.lst (xs++zs)))
theorem pH:OpR X (DF .Add) aZC:=by
 intro pins s σ H x y v u Q I rx ry h
 obtain⟨l,b,xs,zs,rfl,rfl,hH,hB,hz,q⟩:=h
 cases rx
 cases ry
 obtain⟨z,its,n,r,hl,e⟩:=I.lstM hH
 obtain⟨z2,its2,n2,r2,hl2,e2⟩:=I.lstM hB
 refine PySem.P.add_list e e2 ?_ (by rw[AK,AK];omega)
 have ea:its.toArray++its2.toArray=(its++its2).toArray:=by simp
 rw[ea]
 exact⟨.ref _,_,I.lnew (t':=s.toks) (r.append r2) (by rw[AX];omega),rfl,q _ I.fresh⟩
def aZA:R2:=fun x y H Q=>∃ l k xs,x=.ref l∧y=.int k∧H l=some (.lst xs)∧-(2 ^ 63)≤k∧k<2 ^ 63∧xs.length*k.toNat≤Am ∧
 ∀ p,H p=none→Q (.ref p) (upd H p (.lst (BC k.toNat xs).flatten))
theorem aRL{α:Type}(xs:List α)(k:Nat):(BC k xs).flatten.length=k*xs.length:=by
 induction k with
 | zero=>simp
 | succ k ih=>rw[Cw,DI,AX,ih,Nat.succ_mul,Nat.add_comm]
theorem aUW:OpR X (DF .Mult) aZA:=by
 intro pins s σ H x y v u Q I rx ry h
 obtain⟨l,k,xs,rfl,rfl,hH,h1,h2,hz,q⟩:=h
 cases rx
 obtain⟨t,rfl⟩:=ry
 obtain⟨z,its,n,r,hl,e⟩:=I.lstM hH
 have hlen:its.toArray.size*k.toNat≤Am:=by rw[AK,← hl];exact hz
 have hcap:¬ its.toArray.size*k.toNat>(2 ^ 63 - 1) / 8:=by
  have:(Am:Nat)≤(2 ^ 63 - 1) / 8:=by decide
  omega
 have hfit:¬ (!Builtin.List.listFitsIndex k)=true:=by
  rw[fitsIndex_both h1 h2]
  exact AQ
 have hlong:¬ Da (its.toArray.size*k.toNat)=true:=by
  rw[aNK hlen]
  exact AQ
 have hnew:List.foldl (fun x1 x2=>x1++x2) #[] (BC (if its.toArray.isEmpty=true then 0 else k.toNat) its.toArray)=(BC k.toNat its).flatten.toArray:=by
  have f0:∀ m:Nat,List.foldl (fun x1 x2=>x1++x2) #[] (BC m its.toArray)=(BC m its).flatten.toArray:=fun m=>by
   have:=zN its m []
   rw[DY] at this
   exact this
  rw[f0]
  cases its with
  | nil=>simp
  | cons a r'=>rw[if_neg (by simp)]
 refine wpAny_binaryOp_repeat_ref (T:="list") (U:="int") (by decide) ⟨_,e,rfl⟩ (fun s'=>typeIs_int s' k t) noFill_list_mul F.fills_int_mul F.slot_int_rmul repeat_list F.slot_int_index.lookup
  (FN F.slot_int_rmul (typeIs_int s k t) F.entry_int_rmul (F.args_int_rmul_2 _ _) (int___rmul___int_list k t l its.toArray n)
   ⟨e,rfl,⟨_,e,rfl⟩,FN F.slot_list_mul ⟨_,e,rfl⟩ F.entry_list_mul (F.args_list_mul_2 _ _) (AutoListH.list___mul___list_int_3 l its.toArray n k t hfit hcap hlong) ⟨e,?_⟩⟩)
 rw[hnew]
 exact⟨.ref _,_,I.lnew (t':=s.toks) (r.rep k.toNat) (by rw[aRL,Nat.mul_comm];exact hz),rfl,q _ I.fresh⟩
end
section
variable{prog:Program}{w:World}{A:Around}{E:Value→Shared→Prop}{s:Shared}
end
section
variable{X:Cx}
end
end L2
namespace Att
open PySem PySem.W PySem.Calls PyProof.Rows
theorem uF{P:Params}{h:Heap}:∀ (ns:List Int) (vs:List Value),WellAll P h vs (ns.map WData.int)→IntsAre vs ns:=by
 intro ns
 induction ns with
 | nil =>
  intro vs w
  rw[Cg] at w
  cases w
  exact .nil
 | cons n ns ih =>
  intro vs w
  rw[AU] at w
  cases w with
  | cons a b =>
   cases a
   exact .cons _ _ (ih _ b)
theorem aJT{l:OpenLaw}{n:Nat}(hn:l.most=some n){P:Params}{h:Heap}{args:List WData}{vals:List Value}
 (hpre:l.row.toRowW.claim.pre args=true)(hwl:WellAll P h vals args) :
  ∃ a vs ns,vals=[Al a]∧args=[WData.list (ns.map WData.int)]∧h.get? a=some { cls:=.type "list",data:=.seq vs.toArray }∧IntsAre vs ns∧ns.length≤n:=by
 have hsh:WShape.hasAll [] args [.list .int]=true:=(pre_splitW hpre).1
 have hc:l.pre.holds [] { args:=args }=true:=(pre_splitW hpre).2
 obtain⟨d,r,rfl,h1,h2⟩:=hasAllW_cons hsh
 obtain rfl:=hasAllW_nil h2
 obtain⟨xs,rfl,h3⟩:=hasW_list h1
 obtain⟨ns,rfl⟩:=items_int h3
 have hlen:ns.length≤n:=by
  unfold OpenLaw.pre at hc
  have h4:(WTm.not (.lt (.lit (.int (n:Int))) (.len (.arg 0)))).holds [] { args:=[.list (ns.map .int)] }=true:=by
   have h4:=(holds_andW hc).1
   rw[hn] at h4
   exact h4
  have h5:=condW_of h4 (w_not (w_lt w_lit (w_len_list (w_arg rfl))))
  rw[AA] at h5
  refine Nat.le_of_not_lt fun q=>?_
  have q':(n:Int)<((ns.length:Nat):Int):=by omega
  first
   | (rw[decide_eq_true q'] at h5;exact absurd h5 (by decide))
   | (simp at h5;omega)
 cases hwl with
 | cons w1 w2 =>
  cases w2
  cases w1 with
  | list ho hall=>exact⟨_,_,ns,rfl,rfl,ho,uF ns _ hall,hlen⟩
theorem aJY(l:OpenLaw)(args:List WData):l.row.toRowW.claim.post args (.bool true) args=true :=
 postW_of (r:=l.row.toRowW) (X:=(true == true))
  (show WShape.has [] (.bool true) .bool=true by first | rfl | decide | simp[WShape.has,WShape.arms,WShape.armsAll])
  (show (WTm.eq .res (.lit (.bool true))).value [] { args:=args,res:=some (.bool true),after:=args }=some (.bool (true == true)) from w_eq_bool (w_res rfl) w_lit) rfl
theorem attach_call{l:OpenLaw}{n:Nat}{q:Program}{loose:List Str}{XP:(Str→Option Value)→Heap→Prop}{YP:World→Heap→Prop}{d:DefRec}
 (hn:l.most=some n)(hdf:d.params.defaults=[])
 (call:∀ (w:World) (s₀ s₁:Shared) (mg mb:Str→Option Value) (fa:Addr) (o:Obj) (pm cd doc:Value) (a:Addr) (vs:List Value) (ns:List Int),
   Ground q loose [] XP w s₀ mg mb s₁.heap→YP w s₁.heap →
   s₁.heap.get? fa=some o→o.data=.func (docDef d.name d.params d.body d.scope pm cd doc)→s₁.heap.CodeRec cd d.name→mg d.name=some (.ref fa) →
   s₁.heap.get? a=some { cls:=.type "list",data:=.seq vs.toArray }→IntsAre vs ns→ns.length≤n→s₁.gens=#[] →
   codeAny (model l.prog w) callerA (.call (.ref fa) ⟨[.ref a],[]⟩) (fun r s'=>r=.ok (.ret (.bool true))∧OldK s₁.heap s'.heap∧s'.os=s₁.os∧AllBare s'.gens) s₁) :
  WalkO q loose XP YP l.row.toRowW d [] (fun f vs=>PySem.call f vs):=by
 intro w s₀ s₁ mg mb G Y fa o pm cd doc dV kV ho hd hcd hD hmg hg args vals as hpre hlay hrd hwl hlo
 obtain rfl:dV=.none:=Dflts.none hD hdf
 obtain rfl:kV=.none:=Dflts.noKw hD
 obtain⟨a,vs,ns,rfl,rfl,hobj,hints,hlen⟩:=aJT hn hpre hwl
 refine enter_call (Co (call w s₀ s₁ mg mb fa o pm cd doc a vs ns G Y ho (fd_plain hd) hcd hmg hobj hints hlen hg) fun r s' hq=>?_)
 obtain⟨rfl,h2,h3,h4⟩:=hq
 exact⟨.inl ⟨.bool true,.bool true,[],rfl,fun _=>rfl,.bool true,aJY l _,fun _=>⟨List.Pairwise.nil,fun _ hm=>(nomatch hm)⟩⟩,h2,h3,h4⟩
section
variable{prog:Program}{w:World}{A:Around}{E:Value→Shared→Prop}{s:Shared}{K:Frag}
end
end Att
namespace L2
open PySem PySem.Spec PyProof.Rows
theorem yF:∀ {vs:List Value} {ns:List Int},IntsAre vs ns→bD (ns.map V.int) vs
 | _,_,.nil=>.nil
 | _,_,.cons n t h=>.cons ⟨t,rfl⟩ (yF h)
end L2
namespace L2
open PySem PySem.Spec PyProof.Rows
end L2
namespace L2
open PySem PySem.Spec PyProof.Rows
noncomputable def gO(s:Stmt)(j:Nat):Stmt:=match s with
 | .ClassDef _ _ _ body _ _ _ _ _ _ _=>body.getD j (.Pass ⟨0,0,0,0⟩)
 | _=>.Pass ⟨0,0,0,0⟩
noncomputable def gQ(s:Stmt):Dy:=match s with
 | .FunctionDef _ a _ _ _ _ _ _ _ _=>a
 | _=>{ posonlyargs:=[],args:=[],vararg:=none,kwonlyargs:=[],kw_defaults:=[],kwarg:=none,defaults:=[] }
noncomputable def cV(s:Stmt):List Stmt:=match s with
 | .FunctionDef _ _ b _ _ _ _ _ _ _=>b
 | _=>[]
noncomputable def aF(s:Stmt):Scope:=match s with
 | .FunctionDef _ _ _ _ _ _ sc _ _ _=>sc
 | _=>{ kind:=.function,names:=[],isGenerator:=false,isCoroutine:=false }
abbrev CX0:CXT:=fun _ _ _ _ _ _=>False
abbrev E0:XK:=fun _ _ _=>False
theorem aIJ{X:Cx}:kR CX0 X E0:=fun _ _ _ _ _ _ _ h=>h.elim
structure Fun (K:AE) (x qual:Str) (st:Stmt) (f:Addr) (fd:Ba):Prop where
 ex:∃ (oc:Value) (od:Option Addr) (kV doc pm:Value) (an:Option Addr) (cdv ct:Value) (osl:Array (Option Value)),
  fd=Bx x qual (gQ st) (cV st) (aF st) .none kV doc pm an cdv ct∧K.lookup f=some ⟨oc,od,.func fd,osl⟩∧DA K cdv qual=true
 kp:Bs K (.ref f)=true
section
variable{P:Program}{w:World}{K:AE}{mg:Str→Option Value}{base:Heap}
theorem Fun.ok{x qual:Str}{st:Stmt}{f:Addr}{fd:Ba}{N ps:List Str}{k:Nat}{sp:Sp}(F:Fun K x qual st f fd)(S:FnScope N ps (aF st))(len:∀ vs H Q E,sp vs H Q E→vs.length=ps.length)
 (hbody:∀ (cdv:Value) (A:Around) (outer:List Env) (s:Shared) (H:Hp) (vs:List V) (Q:VK) (E:XK),Room k (A.deeper (envOfC qual (aF st) s.heap.objs.size f cdv))→sp vs H Q E →
   ∃ t,PSs (gZ CX0 P w K mg base N qual (aF st) f cdv A outer s H E).nox (cV st) t∧t { nx:=fun _ H'=>Q .non H',rt:=Q } (start N vs) H):FnOk P w K mg base CX0 (k+1) f fd ps sp:=by
 obtain⟨oc,od,kV,doc,pm,an,cdv,ct,osl,rfl,lk,hcd⟩:=F.ex
 refine aOG lk hcd S len fun A outer s H vs Q E hr hsp=>?_
 obtain⟨t,h,q⟩:=hbody cdv A outer s H vs Q E hr hsp
 exact⟨t,h.nox,q⟩
theorem Fun.binds{x qual:Str}{st:Stmt}{f:Addr}{fd:Ba}{ps:List Str}(F:Fun K x qual st f fd)
 (h:∀ (kV doc pm:Value) (an:Option Addr) (cdv ct:Value) (us:List Value),us.length=ps.length→Ew (Bx x qual (gQ st) (cV st) (aF st) .none kV doc pm an cdv ct) ⟨us,[]⟩=pure (ps.zip us)):gG K fd ps []:=by
 obtain⟨oc,od,kV,doc,pm,an,cdv,ct,osl,rfl,lk,hcd⟩:=F.ex
 exact .all (h kV doc pm an cdv ct)
theorem sC{x qual:Str}{st:Stmt}{f:Addr}{oc:Value}{od an:Option Addr}{osl:Array (Option Value)}{kV doc pm cdv ct:Value}(l:K.lookup f=some ⟨oc,od,.func (Bx x qual (gQ st) (cV st) (aF st) .none kV doc pm an cdv ct),osl⟩)
 (c:DA K cdv qual=true)(k:Bs K (.ref f)=true):Fun K x qual st f (Bx x qual (gQ st) (cV st) (aF st) .none kV doc pm an cdv ct):=⟨⟨oc,od,kV,doc,pm,an,cdv,ct,osl,rfl,l,c⟩,k⟩
end
theorem lA{A:Around}{k:Nat}(hr:Room k A):A.units+1<cLine:=Ey (Nat.add_le_add_left (by decide:1≤64) _) hr.units
section
variable{X:Cx}
theorem pv(i:Nat){x:Str}{pos:Pos}(hN:X.N[i]?=some x:=by rfl)(hv:Vis X.env.scope x:=by first | exact Or.inl rfl | exact Or.inr (Or.inl rfl) | exact Or.inr (Or.inr rfl))(hd:(x == ("__debug__":Str))=false:=by decide)
 (hcd:(x == ("__classdict__":Str))=false:=by decide):PE X (.Name x pos) (aPS i):=aUS hN hv hd hcd
end
theorem bM{A B:Prop}(h:B):if false=true then A else B:=by
 rw[if_neg AQ]
 exact h
theorem cR{A B:Prop}(h:A):if true=true then A else B:=by
 rw[if_pos rfl]
 exact h
theorem lF{c A B:Prop}[Decidable c](h1:c→A)(h2:¬ c→B):if c then A else B:=by
 by_cases h:c
 ·rw[if_pos h]
  exact h1 h
 ·rw[if_neg h]
  exact h2 h
def aH(H H':Hp):Prop:=∀ b o,H b=some o→H' b=some o
theorem aH.refl(H:Hp):aH H H:=fun _ _ h=>h
theorem aH.trans{H H1 H2:Hp}(a:aH H H1)(b:aH H1 H2):aH H H2:=fun c o h=>b c o (a c o h)
theorem aH.free{H H':Hp}(e:aH H H'){l:Addr}(h:H' l=Option.none):H l=Option.none:=by
 cases q:H l with
 | none=>rfl
 | some o =>
  rw[e l o q] at h
  cases h
theorem aH.seq{K:AE}{H H':Hp}{a:Addr}{xs:List V}(e:aH H H')(h:SqL K H a xs):SqL K H' a xs:=by
 rcases h with (h | ⟨o,h⟩) | h
 ·exact .inl (.inl (e _ _ h))
 ·exact .inl (.inr ⟨o,e _ _ h⟩)
 ·exact .inr h
end L2
namespace L2
open PySem PySem.Spec PyProof.Rows
section
variable{X:Cx}
end
section
variable{κ:Type}[DecidableEq κ]
theorem aLC{kvs:List (κ×V)}{k:κ}(h:eS kvs k=none):¬ k∈kvs.map (·.1):=by
 intro m
 obtain⟨p,hp,e⟩:=AM.mp m
 have q:(kvs.any fun kv=>decide (kv.1=k))=true:=EF.mpr ⟨p,hp,decide_eq_true e⟩
 rw[lG,h] at q
 exact absurd q (by simp)
theorem aPN{kvs:List (κ×V)}{k:κ}{v:V}(h:eS kvs k=some v):k∈kvs.map (·.1):=by
 have q:(kvs.any fun kv=>decide (kv.1=k))=true:=by
  rw[lG,h]
  all_goals rfl
 obtain⟨p,hp,e⟩:=EF.mp q
 exact AM.mpr ⟨p,hp,of_decide_eq_true e⟩
end
end L2
namespace Tx
open PySem PySem.Builtin PySem.Builtin.Str
noncomputable def cl(n d:Nat):Option Int→Nat
 | none=>d
 | some i=>(max 0 (min (if i<0 then i+n else i) n)).toNat
theorem cl_nat(n d k:Nat):cl n d (some (k:Int))=min k n:=by
 show (max 0 (min (if (k:Int)<0 then (k:Int)+n else (k:Int)) n)).toNat=min k n
 rw[if_neg (by omega)]
 omega
theorem aTG(n d:Nat)(hd:d≤n):∀ o,cl n d o≤n
 | none=>hd
 | some i=>by
  show (max 0 (min (if i<0 then i+n else i) n)).toNat≤n
  omega
theorem aGM(lo hi:Option Int)(n:Nat):strSliceIndices lo hi 1 n=(Ag (cl n n hi - cl n 0 lo)).map (cl n 0 lo+·):=by
 have h1:∀ (v:Option Int) (d:Nat),d≤n→(match v with | none=>(d:Int) | some i=>if (1:Int)>0 then max 0 (min (if i<0 then i+n else i) n) else max (-1) (min (if i<0 then i+n else i) (n - 1)))=((cl n d v:Nat):Int):=by
  intro v d hd
  cases v with
  | none=>rfl
  | some i =>
   show (if (1:Int)>0 then max 0 (min (if i<0 then i+n else i) n) else max (-1) (min (if i<0 then i+n else i) (n - 1)))=(((max 0 (min (if i<0 then i+n else i) n)).toNat:Nat):Int)
   rw[if_pos (by decide)]
   omega
 rw[← sliceRange_one]
 unfold strSliceIndices
 have a:=h1 lo 0 (BN _)
 have b:=h1 hi n (AL _)
 simp only[show (1:Int)>0 by decide,if_true] at a b ⊢
 congr 1
theorem slice_codes(x:Str)(lo hi:Option Int):(Cn x lo hi).cps.toList=(x.cps.toList.drop (cl x.length 0 lo)).take (cl x.length x.length hi - cl x.length 0 lo):=by
 unfold Cn
 rw[aGM]
 split
 ·rename_i h
  have h':cl x.length x.length hi - cl x.length 0 lo=x.length:=by
   have:=(An.mp h).2
   have:=beq_iff_eq.mp this
   simpa using this
  have h2:=aTG x.length x.length (AL _) hi
  have h4:=aTG x.length 0 (BN _) lo
  have h3:cl x.length 0 lo=0:=by omega
  rw[h',h3,Eb,AG]
  show x.cps.toList.length≤x.cps.size
  simp
 ·rw[pick_run]
theorem app_codes(a b:Str):(a++b).cps.toList=a.cps.toList++b.cps.toList:=by
 simp[Str.cps_append]
theorem app_len(a b:Str):(a++b).length=a.length+b.length:=Str.length_append a b
end Tx
set_option maxHeartbeats 4000000
namespace L2
open PySem PySem.Spec PyProof.Rows
theorem mU{env:Env}{f:(Str×Ay)→List (Str×Addr)→Sem (ForInStep (List (Str×Addr)))}
 (hf:∀ n k cs,f (n,k) cs=if (k == Ax)=true then (cellOf env n >>= fun c=>pure (BX ((n,c) :: cs))) else pure (BX cs)) :
  ∀ (names:List (Str×Ay)) (acc:List (Str×Addr)),
  (∀ y∈names,y.2=.free→∃ c,env.cells.lookup y.1=some c) →
  (∀ x c,acc.lookup x=some c→env.cells.lookup x=some c) →
  ∃ cl,forIn names acc f=(pure cl:Sem _)∧(∀ x c,cl.lookup x=some c→env.cells.lookup x=some c)∧(∀ x c,acc.lookup x=some c→∃ d,cl.lookup x=some d) ∧
   ∀ x,(x,Ax)∈names→∃ c,cl.lookup x=some c
 | [],acc,_,ha=>⟨acc,rfl,ha,fun x c e=>⟨c,e⟩,fun x m=>absurd m (by simp)⟩
 | (n,k) :: r,acc,hn,ha=>by
  have hr:∀ y∈r,y.2=.free→∃ c,env.cells.lookup y.1=some c:=fun y hy=>hn y (AJ _ hy)
  by_cases hk:k=.free
  ·subst hk
   obtain⟨c,hc⟩:=hn (n,.free) AO rfl
   have hcell:cellOf env n=pure c:=by
    have hc':env.cells.lookup n=some c:=hc
    unfold cellOf
    rw[hc']
   have ha':∀ x d,CK x ((n,c) :: acc)=some d→env.cells.lookup x=some d:=fun x d e=>by
    by_cases hx:(x == n)=true
    ·rw[BH,hx] at e
     obtain rfl:=beq_iff_eq.mp hx
     cases e
     exact hc
    ·have hx':(x == n)=false:=by simpa using hx
     rw[BH,hx'] at e
     exact ha x d e
   obtain⟨cl,e1,e2,e3,e4⟩:=mU hf r ((n,c) :: acc) hr ha'
   refine⟨cl,?_,e2,fun x d e=>?_,fun x m=>?_⟩
   ·rw[DZ,hf,if_pos (beq_self_eq_true _),hcell,pure_bind,pure_bind]
    exact e1
   ·by_cases hx:(x == n)=true
    ·exact e3 x c (by rw[BH,hx])
    ·have hx':(x == n)=false:=by simpa using hx
     exact e3 x d (by rw[BH,hx'];exact e)
   ·rcases Ac.mp m with q | q
    ·have q':x=n:=congrArg Prod.fst q
     subst q'
     exact e3 x c (by rw[BH,beq_self_eq_true])
    ·exact e4 x q
  ·have hk':(k == Ax)=false:=by simpa using hk
   obtain⟨cl,e1,e2,e3,e4⟩:=mU hf r acc hr ha
   refine⟨cl,?_,e2,e3,fun x m=>?_⟩
   ·rw[DZ,hf,hk',if_neg AQ,pure_bind]
    exact e1
   ·rcases Ac.mp m with q | q
    ·exact absurd (congrArg Prod.snd q).symm hk
    ·exact e4 x q
theorem xI{scope:Scope}{env:Env}(h:∀ y∈scope.names,y.2=.free→∃ c,env.cells.lookup y.1=some c) :
  ∃ cl,FM scope env=pure cl∧(∀ x c,cl.lookup x=some c→env.cells.lookup x=some c)∧∀ x,(x,Ax)∈scope.names→∃ c,cl.lookup x=some c:=by
 obtain⟨cl,e1,e2,_,e4⟩:=mU (env:=env) (f:=fun (x:Str×Ay) cs=>match x with | (name,kind)=>if (kind == Ax)=true then (cellOf env name >>= fun c=>pure (BX ((name,c) :: cs))) else pure (BX cs)) (fun n k cs=>rfl) scope.names [] h (fun x c e=>by cases e)
 refine⟨cl,?_,e2,e4⟩
 have:FM scope env=(forIn scope.names [] (fun (x:Str×Ay) cs=>match x with | (name,kind)=>if (kind == Ax)=true then (cellOf env name >>= fun c=>pure (BX ((name,c) :: cs))) else pure (BX cs)) >>= fun cs=>pure cs):=by
  first | rfl | (unfold FM;rfl) | (unfold FM;simp only[pure_bind,bind_pure])
 rw[this,e1,pure_bind]
theorem iA{env:Env}:∀ {names:List (Str×Ay)} {x:Str},names.lookup x=some .free →
  (names.map fun (n,k)=>if (k == Ax && env.scope.kind == .function && env.kindOf n == some .cell) then (n,CI) else (n,k)).lookup x=some .cell ∨
  (names.map fun (n,k)=>if (k == Ax && env.scope.kind == .function && env.kindOf n == some .cell) then (n,CI) else (n,k)).lookup x=some .free
 | [],_,h=>by simp at h
 | (n,k) :: r,x,h=>by
  have ih:=@iA env r x
  show CK x ((if (k == Ax && env.scope.kind == .function && env.kindOf n == some .cell)=true then (n,CI) else (n,k)) :: _)=_∨CK x ((if (k == Ax && env.scope.kind == .function && env.kindOf n == some .cell)=true then (n,CI) else (n,k)) :: _)=_
  cases hx:x == n with
  | true =>
   simp only[BH,hx] at h
   cases h
   by_cases hc:(Ax == Ax && env.scope.kind == .function && env.kindOf n == some .cell)=true
   ·rw[if_pos hc];left;simp only[BH,hx]
   ·rw[if_neg hc];right;simp only[BH,hx]
  | false =>
   simp only[BH,hx] at h
   by_cases hc:(k == Ax && env.scope.kind == .function && env.kindOf n == some .cell)=true
   ·rw[if_pos hc];simp only[BH,hx];exact ih h
   ·rw[if_neg hc];simp only[BH,hx];exact ih h
theorem jR{env:Env}:∀ {names:List (Str×Ay)} {x:Str},(∀ y∈names,y.2≠.cell) →
  ((names.map fun (n,k)=>if (k == Ax && env.scope.kind == .function && env.kindOf n == some .cell) then (n,CI) else (n,k)).lookup x=some .cell ∨
  (names.map fun (n,k)=>if (k == Ax && env.scope.kind == .function && env.kindOf n == some .cell) then (n,CI) else (n,k)).lookup x=some .free)→(x,Ax)∈names
 | [],_,_,h=>by rcases h with h | h <;> simp at h
 | (n,k) :: r,x,hn,h=>by
  have ih:=@jR env r x (fun y hy=>hn y (AJ _ hy))
  have h':CK x ((if (k == Ax && env.scope.kind == .function && env.kindOf n == some .cell)=true then (n,CI) else (n,k)) :: (r.map fun (n,k)=>if (k == Ax && env.scope.kind == .function && env.kindOf n == some .cell) then (n,CI) else (n,k)))=some .cell ∨
   CK x ((if (k == Ax && env.scope.kind == .function && env.kindOf n == some .cell)=true then (n,CI) else (n,k)) :: (r.map fun (n,k)=>if (k == Ax && env.scope.kind == .function && env.kindOf n == some .cell) then (n,CI) else (n,k)))=some .free:=h
  cases hx:x == n with
  | true =>
   obtain rfl:=beq_iff_eq.mp hx
   have hk:k=.free:=by
    by_cases hc:(k == Ax && env.scope.kind == .function && env.kindOf x == some .cell)=true
    ·have:=(An.mp (An.mp hc).1).1
     exact beq_iff_eq.mp this
    ·rw[if_neg hc] at h'
     simp only[BH,hx] at h'
     rcases h' with e | e
     ·cases e;exact absurd rfl (hn (x,.cell) AO)
     ·cases e;rfl
   subst hk
   exact AO
  | false =>
   refine AJ _ (ih ?_)
   by_cases hc:(k == Ax && env.scope.kind == .function && env.kindOf n == some .cell)=true
   ·rw[if_pos hc] at h';simp only[BH,hx] at h';exact h'
   ·rw[if_neg hc] at h';simp only[BH,hx] at h';exact h'
structure BlkR where
 cl:List (Str×Addr)
 C:Addr
 s₀:Shared
 H₀:Hp
 ex:List Addr
abbrev blk (X:Cx) (scope:Scope) (N':List Str) (R:BlkR):Cx :=
 { prog:=X.prog,w:=X.w,K:=X.K,mg:=X.mg,base:=X.base,A:=X.A,N:=N',s₀:=R.s₀,H₀:=R.H₀,env:=compEnvC scope R.cl R.C X.env,outer:=X.stack,stack:=X.stack,ex:=R.ex,fn:=fun _=>false,calm:=X.calm,pn:=[],xe:=fun _ _=>False }
def aPL(X:Cx)(ifs:List Expr)(t:TT):Prop :=
 ∀ (pins:List (Addr×Obj)) (s:Shared) (σ:St) (H:Hp) (Q:Bool→Hp→Prop),Inv X pins σ H s→t σ H Q →
  wpAny (model X.prog X.w) X.A (forIn ifs true fun c r=>if r=true then do let ok ← isTrue c X.env (eval c X.env);pure (BX ok) else pure (BX r)) (TP X pins σ Q) X.xe s
def aWP:TT:=fun _ H Q=>Q true H
theorem bZ{X:Cx}:aPL X [] aWP:=fun pins s σ H Q I h=>wpAny_tests_nil ⟨H,I,h⟩
theorem fW{X:Cx}{c:Expr}{t:TT}(h:PT X c t):aPL X [c] t:=fun pins s σ H Q I hw=>wpAny_tests_one (h pins s σ H Q I hw)
def aJF(nt:Nat)(g:TG):Prop:=∀ x σ H Q,g x σ H Q→g x σ H fun σ2 H2=>Q σ2 H2∧σ2.length=σ.length∧∀ i,nt≤i→σ2[i]?=σ[i]?
theorem aW{nt i:Nat}(h:i<nt):aJF nt (wU i):=fun x σ H Q q =>
 ⟨q,by simp,fun j hj=>DW (by omega)⟩
noncomputable def nA(nt:Nat)(cap:List Nat)(σ:St):St:=BC nt none++cap.map fun j=>(σ[j]?).join
theorem aKY{nt:Nat}{cap:List Nat}{σ:St}:(nA nt cap σ).length=nt+cap.length:=by simp[nA]
theorem aAC{nt:Nat}{cap:List Nat}{σ:St}{i:Nat}{v:V}(h:(nA nt cap σ)[i]?=some (some v)):∃ j,nt≤i∧cap[i - nt]?=some j∧σ[j]?=some (some v):=by
 unfold nA at h
 by_cases hi:i<nt
 ·rw[BK (by simpa using hi),List.getElem?_replicate] at h
  rw[if_pos hi] at h
  cases h
 ·rw[Be (by simp;omega),DS,AH] at h
  cases e:cap[i - nt]? with
  | none=>rw[e] at h;cases h
  | some j =>
   rw[e] at h
   refine⟨j,by omega,rfl,?_⟩
   have h':(σ[j]?).join=some v:=by simpa using h
   cases q:σ[j]? with
   | none=>rw[q] at h';cases h'
   | some o=>rw[q] at h';cases o with
    | none=>cases h'
    | some z=>cases h';rfl
theorem xH{prog:Program}{w:World}{A:Around}{R:Result→Shared→Prop}{s:Shared}{elt target iter:Expr}{ifs:List Expr}{scope:Scope}{pos:Pos}{it acc:Value}{env:Env}(I:Nat→Shared→Prop)
 (turn:∀ n s,I n s→wpAny (model prog w) A (pyNext it) (fun r s₁=>match r with
   | none=>R (.ok .next) s₁
   | some v=>wpAny (model prog w) A (Eh target it v) (fun _ s₁=>wpAny (model prog w) A (assign target env v) (fun _ s₂ =>
     wpAny (model prog w) A (forIn ifs true fun c r=>if r=true then do let ok ← isTrue c env (eval c env);pure (BX ok) else pure (BX r)) (fun ok s₃ =>
      if ok=true then wpAny (model prog w) A (eval elt env) (fun x s₄ =>
       wpAny (model prog w) A (call (.builtin "list.append") [acc,x]) (fun _ s₅=>∃ m,m<n∧I m s₅) (notedBy (model prog w) A env fun e s'=>R (.error e) s') s₄) (notedBy (model prog w) A env fun e s'=>R (.error e) s') s₃
      else ∃ m,m<n∧I m s₃) (notedBy (model prog w) A env fun e s'=>R (.error e) s') s₂) (notedBy (model prog w) A env fun e s'=>R (.error e) s') s₁) (notedBy (model prog w) A env fun e s'=>R (.error e) s') s₁) (notedBy (model prog w) A env fun e s'=>R (.error e) s') s)
 (n:Nat)(h:I n s) :
  codeAny (model prog w) A (.compLoop (.ListComp elt [⟨target,iter,ifs,0⟩] scope pos) 0 it acc env) R s:=by
 refine codeAny_loop rfl I (fun n s hI=>?_) n h
 show wpAny _ A ((compTurn (.ListComp elt [⟨target,iter,ifs,0⟩] scope pos) 0 it acc env).onRaise (fun x=>do noteFrame x env;theTreesLotGoes x)) _ _ s
 refine wpAny_noted ?_
 rw[compTurn_list]
 refine AD (wpAny_standAt (AD (Az (turn n s hI) (fun r s₁ h₁=>?_) fun _ _ h'=>h')))
 cases r with
 | none=>exact AN h₁
 | some v =>
  refine AD (Az h₁ (fun _ s₁' h₁'=>?_) fun _ _ h'=>h')
  refine AD (Az h₁' (fun _ s₂ h₂=>AD (Az h₂ (fun ok s₃ h₃=>?_) fun _ _ h'=>h')) fun _ _ h'=>h')
  cases ok with
  | false=>exact AN ⟨rfl,h₃⟩
  | true =>
   exact AD (AD (Az h₃ (fun x s₄ h₄=>AD (Az h₄ (fun _ s₅ h₅=>AN (AN ⟨rfl,h₅⟩)) fun _ _ h'=>h')) fun _ _ h'=>h'))
abbrev CW:=Nat→Nat→List V→Hp→Prop
def yI(σb:St)(J:It)(g:TG)(tt:TT)(te:TE)(W:CW)(fin:List V→Hp→Prop)(i m:Nat)(ys:List V)(H:Hp):Prop :=
 (J.stop i H∧fin ys H) ∨
 (J.go i H∧ys.length<Am∧∀ x H',J.yld i H x H'→g x σb H' fun σ2 H2=>tt σ2 H2 fun b H3 =>
  if b=true then te σ2 H3 fun y H4=>∃ m',m'<m∧W (i+1) m' (ys++[y]) H4 else ∃ m',m'<m∧W (i+1) m' ys H3)
structure BlkEnd (X:Cx) (pins:List (Addr×Obj)) (H:Hp) (C:Addr) (s:Shared):Prop where
 ns:∃ m,s.heap.Ns C m
 fr:H C=none
 ne:C≠X.env.locals
 ab:X.s₀.heap.objs.size≤C
 cl:∀ x c,X.env.cells.lookup x=some c→c≠C
 pn:∀ p∈X.pn++pins,p.1≠C
theorem xG{X:Cx}{pins:List (Addr×Obj)}{σ:St}{s₂:Shared}{H₂:Hp}{elt iter tg:Expr}{ifs:List Expr}{scope:Scope}{pos:Pos}{N':List Str}{nt:Nat}{cap:List Nat}{g:TG}{tt:TT}{te:TE}{cl:List (Str×Addr)}
 {it:Addr}{fp:List Addr}{tn:Nat→Heap→Prop}{J:It}{Q:List V→Hp→Prop}{E:Value→Shared→Prop}
 (hc:X.calm=true)(I₂:Inv X pins σ H₂ s₂)(T:Turn X.prog X.w X.K tg J fp it tn)(st:tn 0 s₂.heap)(hf:∀ b∈fp,aCP X pins H₂ b)
 (hclk:∀ x c,cl.lookup x=some c→X.env.cells.lookup x=some c)(hclh:∀ x,(x,Ax)∈scope.names→∃ c,cl.lookup x=some c)
 (hcell:∀ y∈scope.names,y.2≠.cell)(hkind:scope.kind=.function)
 (hfr:∀ y∈scope.names,y.2=.free→(X.env.kindOf y.1=some .cell∨X.env.kindOf y.1=some .free))
 (hN:N'.length=nt+cap.length)(hcapN:∀ (k j:Nat),cap[k]?=some j→N'[nt+k]?=X.N[j]?)(hcapF:∀ x∈N'.drop nt,scope.names.lookup x=some .free)
 (hg:∀ R,PG (blk X scope N' R) tg g)(hgk:aJF nt g)(ht:∀ R,aPL (blk X scope N' R) ifs tt)(he:∀ R,PE (blk X scope N' R) elt te)
 (h:∃ W:CW,(∃ m,W 0 m [] H₂)∧∀ i m ys H,W i m ys H→yI (nA nt cap σ) J g tt te W Q i m ys H)
 {RR:Value→Addr→Result→Shared→Prop}
 (hRR:∀ D C s' H' ys,H' D=none→Q ys H'→Inv X pins σ (upd H' D (.lst ys)) s'→BlkEnd X pins (upd H' D (.lst ys)) C s'→RR (.ref D) C (.ok .next) s') :
  wpAny (model X.prog X.w) X.A (newList []) (fun acc s₃=>wpAny (model X.prog X.w) X.A (newFunctionEnv scope X.env.globals cl [] X.env.qual none .none (some X.env)) (fun cenv s₄ =>
   codeAny (model X.prog X.w) X.A (.compStart (.ListComp elt [⟨tg,iter,ifs,0⟩] scope pos) 0 (.ref it) acc { cenv with scope:=relabel scope X.env }) (RR acc cenv.locals) s₄) E s₃) E s₂:=by
 obtain⟨W,⟨m0,w0⟩,turn⟩:=h
 refine EI (wpAny_newFunctionEnv hcell (by intro y hy;simp at hy) (fun h₁ hns₁ hsb₁=>?_) hkind)
 dsimp only at hns₁ hsb₁ ⊢
 generalize hH2:s₂.heap.push { cls:=.type "list",dict:=none,data:=.seq ([]:List Value).toArray }=Hx at hns₁ hsb₁ ⊢
 have hC:Hx.objs.size=s₂.heap.objs.size+1:=by rw[← hH2,DJ]
 generalize hD:s₂.heap.objs.size=D at hC ⊢
 generalize hCC:Hx.objs.size=C at hns₁ hsb₁ hC ⊢
 have hDC:D≠C:=by omega
 have below:∀ b,b<s₂.heap.objs.size→b≠C∧b≠D:=fun b hb=>by omega
 have old:∀ b o,s₂.heap.get? b=some o→h₁.get? b=some o:=fun b o e=>hsb₁.extBut b o (below b (AW e)).1 (AF _ (hH2▸AF _ e))
 have hacc:h₁.get? D=some { cls:=.type "list",data:=.seq ([]:List Value).toArray }:=hsb₁.extBut _ _ hDC (AF _ (by rw[← hH2,← hD];exact AZ _ rfl))
 have freshD:H₂ D=none:=I₂.hok.fresh (by omega)
 have freshC:H₂ C=none:=I₂.hok.fresh (by omega)
 have fpo:∀ b∈fp,∃ o,s₂.heap.get? b=some o∧∀ v,o.data≠.cell v:=T.obj 0 _ st
 have fplt:∀ b∈fp,b<s₂.heap.objs.size:=fun b hb=>let ⟨o,e,_⟩:=fpo b hb;AW e
 have celllt:∀ x c,X.env.cells.lookup x=some c→c<s₂.heap.objs.size:=fun x c e=>let ⟨v,z⟩:=I₂.cell x c e;z.lt
 have pinlt:∀ p∈X.pn++pins,p.1<s₂.heap.objs.size:=fun p hp=>AW (I₂.pin p hp).1
 let R:BlkR:=⟨cl,C,s₂,H₂,fp⟩
 have okb:(blk X scope N' R).Ok:={
  mod:=I₂.mod
  kind:=hkind
  glob:=I₂.ok.glob
  blt:=I₂.ok.blt
  above:=(by show s₂.heap.objs.size≤C;omega)
  inj:=fun x y c e1 e2=>I₂.ok.inj x y c (hclk x c e1) (hclk y c e2)
  has:=fun x hx=>hclh x (jR hcell hx)
  cab:=fun x c hx _=>by cases hx
  hd:=I₂.ok.hd
  frames:=I₂.ok.frames
  stk:=.inl rfl
  exf:=fun b hb=>⟨(below b (fplt b hb)).1,fun x c e=>(hf b hb).2.2.2.2.1 x c (hclk x c e)⟩
  bs:=I₂.bs
  bsz:=Av I₂.ok.bsz I₂.sz
  noex:=fun b o e hb=>by
   rcases (hf b hb).2.2.2.1 with z | z
   ·exact I₂.ok.noex b o e z
   ·exact absurd (Ae (AW e) (Av I₂.ok.bsz z)) (CY _)
  exfs:=fun b hb z=>by
   rcases Ac.mp (I₂.stkSub b z) with q | q
   ·exact (hf b hb).2.1 q
   ·exact (hf b hb).2.2.1 q
  funs:=I₂.stack
  frf:=I₂.stkFree }
 have nofs:∀ a,s₂.heap.objs.size≤a→a∉frs X.stack:=fun a ha z=>by
  rcases Ac.mp (I₂.stkSub a z) with q | q
  ·exact absurd (Ae I₂.lt ha) (by rw[q];exact CY _)
  ·exact I₂.nofs ha q
 have hDle:s₂.heap.objs.size≤D:=by omega
 have hCle:s₂.heap.objs.size≤C:=by omega
 have stat:∀ {H':Hp} {ob:Obj},(∀ b∈fp,H' b=none)→∀ b∈fp,aCP (blk X scope N' R) [(D,ob)] H' b:=fun {H' ob} hn b hb =>
  ⟨hn b hb,(below b (fplt b hb)).1,okb.exfs b hb,.inl hb,fun x c e=>(hf b hb).2.2.2.2.1 x c (hclk x c e),fun p hp=>by
   have e:p=(D,ob):=by simpa using hp
   rw[e]
   exact Ne.symm (below b (fplt b hb)).2⟩
 have entry:∀ tk,Inv (blk X scope N' R) [(D,{ cls:=.type "list",data:=.seq ([]:List Value).toArray })] (nA nt cap σ) H₂ { s₂ with heap:=h₁,toks:=tk }:=fun tk=>{
  ok:=okb
  os:=rfl
  bare:=I₂.bare
  base:=Un.kept old
  loc:=by
   refine⟨_,hns₁,fun i x v e1 e2 e3=>?_⟩
   obtain⟨j,hi,hj,hv⟩:=aAC e2
   have hx:X.N[j]?=some x:=by
    rw[← hcapN _ _ hj,show nt+(i - nt)=i by omega]
    exact e1
   have hxm:x∈N'.drop nt:=by
    refine AI (i:=i - nt) ?_
    rw[Do,show nt+(i - nt)=i by omega]
    exact e1
   have hfree:=hcapF x hxm
   have hmem:(x,Ax)∈scope.names:=by
    have:∀ (l:List (Str×Ay)),l.lookup x=some .free→(x,Ax)∈l:=by
     intro l
     induction l with
     | nil=>intro q;cases q
     | cons a r ih =>
      intro q
      obtain⟨n,k⟩:=a
      cases hxn:x == n with
      | true =>
       rw[BH,hxn] at q
       obtain rfl:=beq_iff_eq.mp hxn
       cases q
       exact AO
      | false =>
       rw[BH,hxn] at q
       exact AJ _ (ih q)
    exact this _ hfree
   have hk:=hfr (x,.free) hmem rfl
   obtain⟨m,hn,hl⟩:=I₂.loc
   have vis:Vis X.env.scope x:=by
    rcases hk with k | k
    ·exact .inr (.inl k)
    ·exact .inr (.inr k)
   obtain⟨u,ru,lk⟩:=hl j x v hx hv vis
   refine⟨u,ru,?_⟩
   rcases lk with ⟨k,_⟩ | ⟨k,c,hc1,hc2⟩
   ·exfalso
    rcases hk with z | z
    ·rw[z] at k;cases k
    ·rw[z] at k;cases k
   ·obtain⟨d,hd⟩:=hclh x hmem
    have hd':=hclk x d hd
    rw[hc1] at hd'
    cases hd'
    refine .inr ⟨iA hfree,c,hd,?_⟩
    obtain⟨o,ho,hdat⟩:=hc2
    exact⟨o,old c o ho,hdat⟩
  cell:=fun x c e=>by
   obtain⟨v,o,ho,hdat⟩:=I₂.cell x c (hclk x c e)
   exact⟨v,o,old c o ho,hdat⟩
  free:=freshC
  freeC:=fun x c e=>I₂.freeC x c (hclk x c e)
  pin:=fun p hp=>by
   have e:p=(D,{ cls:=.type "list",data:=.seq ([]:List Value).toArray }):=by simpa using hp
   subst e
   exact⟨hacc,freshD,hDC,nofs D hDle,fun v z=>by cases z⟩
  hok:=I₂.hok.kept old
  len:=by rw[aKY,hN] }
 have loop:∀ tk,codeAny (model X.prog X.w) X.A (.compLoop (.ListComp elt [⟨tg,iter,ifs,0⟩] scope pos) 0 (.ref it) (.ref D) (compEnvC scope cl C X.env)) (RR (.ref D) C) { s₂ with heap:=h₁,toks:=tk }:=by
  intro tk
  refine xH (fun n s'=>∃ i ys H' its k,Inv (blk X scope N' R) [(D,{ cls:=.type "list",data:=.seq its.toArray k })] (nA nt cap σ) H' s'∧tn i s'.heap∧(∀ b∈fp,H' b=none)∧bD ys its∧ys.length≤Am∧W i n ys H') ?_ m0
   ⟨0,[],H₂,[],0,entry tk,T.keep _ _ _ st fun b hb o e=>old b o e,fun b hb=>(hf b hb).1,.nil,BN _,w0⟩
  rintro n s3 ⟨i,ys,H3,its,k,I3,st3,fr3,rv,hz,w3⟩
  have pD:=I3.pin (D,{ cls:=.type "list",data:=.seq its.toArray k }) (by simp)
  rcases turn i n ys H3 w3 with ⟨stop,qn⟩ | ⟨go,hlt,step⟩
  ·-- the end
   refine Az (T.done (blk X scope N' R) rfl rfl rfl hc i _ s3 _ H3 (fun _ _=>False) I3 (stat fr3) st3 stop) (fun r s4 ⟨hr,I4⟩=>?_) fun _ _ z=>z.elim
   subst hr
   have pD4:=I4.pin (D,{ cls:=.type "list",data:=.seq its.toArray k }) (by simp)
   have b4:Un (frs X.stack) fp H₂ H3 s₂.heap s4.heap:=I4.base
   have u4:Un (frs X.stack) fp H₂ (upd H3 D (.lst ys)) s₂.heap s4.heap:={
    keep:=b4.keep
    slot:=b4.slot
    free:=fun b o e n hx=>by
     rw[aI (below b (AW e)).2]
     exact b4.free b o e n hx
    there:=b4.there
    tups:=fun b xs e=>by
     have z:=b4.tups b xs e
     rw[aI (aN z pD4.2.1)]
     exact z
    frzs:=fun b o u e=>by
     have z:=b4.frzs b o u e
     rw[aI (aN z pD4.2.1)]
     exact z
    tbls:=fun b ps e=>by
     obtain⟨more,z⟩:=b4.tbls b ps e
     exact⟨more,by rw[aI (aN z pD4.2.1)];exact z⟩ }
   have hok4:HOk X.prog X.w (upd H3 D (.lst ys)) s4.heap:=fun b u e=>by
    by_cases hb:b=D
    ·subst hb
     rw[aC] at e
     cases e
     exact⟨hz,its,k,rv,pD4.1⟩
    ·rw[aI hb] at e
     exact (I4.hok b u e).stay (fun c v _ q=>q) (fun c q=>by rw[aI (aN q pD4.2.1)];exact q) fun c xs q=>by rw[aI (aN q pD4.2.1)];exact q
   have I5:Inv X pins σ (upd H3 D (.lst ys)) s4:=I₂.call' I4.os u4 hok4 I4.bare fun b hb=>⟨(hf b hb).2.2.2.1,(hf b hb).2.1,(hf b hb).2.2.2.2.1,(hf b hb).2.2.2.2.2⟩
   refine hRR D C s4 H3 ys pD4.2.1 qn I5 ?_
   obtain⟨m,hn,_⟩:=I4.loc
   exact⟨⟨m,hn⟩,by rw[aI (Ne.symm hDC)];exact I4.free,fun z=>absurd I₂.lt (by rw[← z];exact Nat.not_lt.mpr hCle),Av I₂.sz hCle,fun x c e=>Ad (Ae (celllt x c e) hCle),fun p hp=>Ad (Ae (pinlt p hp) hCle)⟩
  ·-- a turn
   refine Az (T.item (blk X scope N' R) rfl rfl rfl hc i _ s3 _ H3 (fun _ _=>False) I3 (stat fr3) st3 go) (fun r s4 ⟨u,hr,h4⟩=>?_) fun _ _ z=>z.elim
   subst hr
   refine Az h4 (fun _ s5 ⟨x,H5,I5,r5,y5,st5,fr5⟩=>?_) fun _ _ z=>z.elim
   have I5':=I5.pinned (stat fr5) (T.obj _ _ st5)
   refine Az (hg R _ s5 _ H5 x u _ I5' r5 (hgk _ _ _ _ (step x H5 y5))) (fun _ s6 ⟨σ6,H6,I6,q6,l6,k6⟩=>?_) fun _ _ z=>z.elim
   refine Az (ht R _ s6 σ6 H6 _ I6 q6) (fun ok s7 ⟨H7,I7,q7⟩=>?_) fun _ _ z=>z.elim
   have weak:∀ {H8:Hp} {s8:Shared} {ps:List (Addr×Obj)},Inv (blk X scope N' R) ps σ6 H8 s8→Inv (blk X scope N' R) ps (nA nt cap σ) H8 s8:=fun I8=>I8.weak (by rw[l6]) fun j v e=>by
    obtain⟨_,hj,_,_⟩:=aAC e
    rw[k6 j hj]
    exact e
   have tnK:∀ {H8:Hp} {s8:Shared} {σ8:St},Inv (blk X scope N' R) ([(D,{ cls:=.type "list",data:=.seq its.toArray k })]++lZ fp s5.heap) σ8 H8 s8→tn (i+1) s8.heap∧∀ b∈fp,H8 b=none:=fun {H8 s8 σ8} I8 =>
    ⟨T.keep _ _ _ st5 fun b hb o e=>(I8.pin (b,o) (Ah _ (Ah _ (kM hb e)))).1,fun b hb=>by
     obtain⟨o,e,_⟩:=T.obj _ _ st5 b hb
     exact (I8.pin (b,o) (Ah _ (Ah _ (kM hb e)))).2.1⟩
   cases ok with
   | false =>
    rw[if_neg AQ] at q7 ⊢
    obtain⟨m',hm,w7⟩:=q7
    exact⟨m',hm,i+1,ys,H7,its,k,weak I7.unpinned,(tnK I7).1,(tnK I7).2,rv,hz,w7⟩
   | true =>
    rw[if_pos rfl] at q7 ⊢
    refine Az (he R _ s7 σ6 H7 _ I7 q7) (fun xv s8 ⟨y,H8,I8,ry,q8⟩=>?_) fun _ _ z=>z.elim
    obtain⟨m',hm,w8⟩:=q8
    have pD8:=I8.pin (D,{ cls:=.type "list",data:=.seq its.toArray k }) (by simp)
    have hsz:its.toArray.size≤Am:=by rw[AK,← rv.length];omega
    refine wpAny_list_append_plain (hsz:=hsz) ⟨k,pD8.1⟩ fun h9 hl9 hs9=>?_
    obtain⟨k9,hl9⟩:=hl9
    have tn8:=tnK I8
    have I8':Inv (blk X scope N' R) (lZ fp s5.heap) (nA nt cap σ) H8 s8:=(weak I8).pins_of fun p hp=>I8.pin p (Ah _ (Ah _ hp))
    have I9:Inv (blk X scope N' R) (lZ fp s5.heap) (nA nt cap σ) H8 { s8 with heap:=h9 }:=I8'.turned (it:=D) (t':=s8.toks) (fun b o hb e=>hs9.extBut b o hb e) pD8.2.1 pD8.2.2.1 (.inr hDle)
     (fun x c e=>Ad (Ae (celllt x c (hclk x c e)) hDle)) fun p hp=>by
      have hp':p∈lZ fp s5.heap:=by simpa using hp
      exact Ad (Ae (fplt p.1 (zA hp').1) hDle)
    have e9:h9.get? D=some { cls:=.type "list",data:=.seq (its++[xv]).toArray k9 }:=by
     rw[hl9]
     simp
    refine⟨m',hm,i+1,ys++[y],H8,its++[xv],k9,I9.pins_of fun p hp=>?_,T.keep _ _ _ tn8.1 fun b hb o e=>hs9.extBut b o (Ad (Ae (fplt b hb) hDle)) e,tn8.2,rv.append (.cons ry .nil),by rw[AX];exact hlt,w8⟩
    have e:p=(D,{ cls:=.type "list",data:=.seq (its++[xv]).toArray k9 }):=by simpa using hp
    subst e
    exact⟨e9,pD8.2.1,pD8.2.2.1,pD8.2.2.2.1,fun v z=>by cases z⟩
 exact codeAny_compStart_list (loop _) (T.self _ 0 _ _ _ (T.keep _ _ _ st fun b hb o e=>old b o e) (loop _))
def aSU(nt:Nat)(cap:List Nat)(wi:TI)(g:TG)(tt:TT)(te:TE):TE:=fun σ H Q=>wi σ H fun J H1=>∃ W:CW,(∃ m,W 0 m [] H1)∧∀ i m ys H,W i m ys H→yI (nA nt cap σ) J g tt te W (fun ys H'=>∀ p,H' p=none→Q (.ref p) (upd H' p (.lst ys))) i m ys H
theorem jD{α:Type}{l:List α}{p:α→Bool}(h:l.all p=true):∀ x∈l,p x=true:=fun x hx=>BW.mp h x hx
theorem cD{X:Cx}{elt iter tg:Expr}{ifs:List Expr}{scope:Scope}{pos:Pos}{wi:TI}{g:TG}{tt:TT}{te:TE}(N':List Str)(nt:Nat)(cap:List Nat)
 (hc:X.calm=true)(hi:PI X tg iter wi)(hg:∀ R,PG (blk X scope N' R) tg g)(hgk:aJF nt g)(ht:∀ R,aPL (blk X scope N' R) ifs tt)(he:∀ R,PE (blk X scope N' R) elt te)
 (hcell:(scope.names.all fun y=>!(y.2 == .cell))=true:=by rfl)(hkind:scope.kind=.function:=by rfl)
 (hnames:(scope.names.all fun y=>!(y.2 == .local) || (scope.names.lookup y.1 == some .local))=true:=by rfl)
 (hfr:(scope.names.all fun y=>!(y.2 == .free) || (X.env.kindOf y.1 == some .cell || X.env.kindOf y.1 == some .free))=true:=by rfl)
 (hN:N'.length=nt+cap.length:=by rfl)(hcapN:(cap.map fun j=>X.N[j]?)=(N'.drop nt).map some:=by rfl)(hcapF:((N'.drop nt).all fun x=>scope.names.lookup x == some .free)=true:=by rfl)
 (hs:∀ x,FT iter X.env x=pure x:=by intro _;rfl) :
  PE X (.ListComp elt [⟨tg,iter,ifs,0⟩] scope pos) (aSU nt cap wi g tt te):=by
 intro pins s σ H Q I h
 have hfr':∀ y∈scope.names,y.2=.free→(X.env.kindOf y.1=some .cell∨X.env.kindOf y.1=some .free):=fun y hy e=>by
  have z:=jD hfr y hy
  rw[e] at z
  have z':(X.env.kindOf y.1 == some .cell || X.env.kindOf y.1 == some .free)=true:=z
  rcases Bool.or_eq_true_iff.mp z' with q | q
  ·exact .inl (beq_iff_eq.mp q)
  ·exact .inr (beq_iff_eq.mp q)
 have hcell':∀ y∈scope.names,y.2≠.cell:=fun y hy e=>by
  have z:=jD hcell y hy
  rw[e] at z
  cases z
 obtain⟨cl,hcl,hclk,hclh⟩:=xI (scope:=scope) (env:=X.env) fun y hy e=>I.ok.has y.1 (hfr' y hy e)
 have hnames':∀ y∈scope.names,y.2=.local→scope.names.lookup y.1=some .local:=fun y hy e=>by
  have z:=jD hnames y hy
  rw[e] at z
  exact beq_iff_eq.mp z
 have hcapN':∀ (k j:Nat),cap[k]?=some j→N'[nt+k]?=X.N[j]?:=fun k j e=>by
  have z:=congrArg (fun l:List (Option Str)=>l[k]?) hcapN
  simp only[AH,e,Option.map_some,Do] at z
  cases q:N'[nt+k]? with
  | none=>rw[q] at z;cases z
  | some x=>rw[q] at z;exact (Ao z).symm
 rw[eval_ListComp]
 refine wpAny_comprehension_free (use:=none) rfl hs hcl hkind hnames' (thn (hi pins s σ H _ I h) fun v s1 h1=>thn h1 fun itv s2 h2=>?_)
 obtain⟨it,fp,tn,J,H2,e,I2,T,st2,f2,hw⟩:=h2
 subst e
 refine xG (RR:=fun acc C=>compPost (model X.prog X.w) X.A X.xe none (EP X pins σ Q) acc C) hc I2 T st2 f2 hclk hclh hcell' hkind hfr' hN hcapN' (fun x hx=>beq_iff_eq.mp (jD hcapF x hx)) hg hgk ht he hw ?_
 intro D C s' H' ys hD q I' B
 obtain⟨m,hn⟩:=B.ns
 refine⟨m,hn,fun h' hs'=>⟨.ref D,_,I'.turned (it:=C) (t':=s'.toks) (fun b o hb e=>hs'.extBut b o hb e) B.fr B.ne (.inr B.ab) B.cl B.pn,rfl,q D hD⟩⟩
end L2
namespace L2
open PySem PySem.Spec PyProof.Rows
section
variable{X:Cx}
noncomputable def aSD:V→Option Value
 | .ty n=>some (.type n)
 | .ref a=>some (.ref a)
 | _=>none
theorem aEX{y:V}{c u:Value}(h:aSD y=some c)(r:bI y u):u=c:=by
 cases y with
 | ty n=>cases h;exact r
 | ref a=>cases h;exact r
 | non=>cases h
 | bl b=>cases h
 | int i=>cases h
 | str x=>cases h
 | byt b=>cases h
 | flt b=>cases h
theorem aEZ:eP X (.builtin "isinstance") (fun xs H Q=>∃ x y c t b,xs=[x,y]∧aSD y=some c∧TyOf X.K H x t∧BD X.K t c=some b∧Q (.bl b) H):=by
 intro pins s σ H xs us Q I r h
 obtain⟨x,y,c,t,b,rfl,hc,ty,e,q⟩:=h
 obtain⟨u,v,rfl,ru,rv⟩:=bD.two r
 obtain rfl:=aEX hc rv
 exact aKK I ru ty e fun tk=>⟨.bl b,H,I.tok tk,rfl,q⟩
theorem tU:∀ {bs:List Bool} {us:List Value},bD (bs.map V.bl) us→LSm.BoolsAre us bs
 | [],us,r=>by
  rw[Cg] at r
  cases r
  exact .nil
 | b :: bs,us,r=>by
  rw[AU] at r
  cases r with
  | cons r1 r2 =>
   cases r1
   exact .cons b (tU r2)
theorem kC(hc:X.calm=true):eP X (.builtin "all") (fun xs H Q=>∃ (p:Addr) (bs:List Bool),xs=[.ref p]∧SqL X.K H p (bs.map V.bl)∧Q (.bl (bs.all id)) H):=by
 intro pins s σ H xs us Q I r h
 obtain⟨p,bs,rfl,hq,q⟩:=h
 obtain⟨u,rfl,ru⟩:=bD.one r
 cases ru
 obtain⟨its,rv,pl,hz⟩:=I.list hq
 obtain⟨m,F⟩:=I.fr
 have hb:=tU rv
 have hl:=pl.isList
 have hlt:p<s.heap.objs.size:=by obtain⟨_,e,_⟩:=hl;exact AW e
 refine call_all_walk (Ct hl ?_)
 refine⟨s.heap.objs.size,[s.heap.objs.size,p],[s.heap.objs.size],its.toArray.size,_,_,fun i=>(bs[i]?).getD true,rfl,El (A:=X.A.in1) (I.ok.hd hc) _ p (Ad hlt) its.toArray,
  ⟨⟨_,AZ _ rfl,rfl,rfl⟩,hl.push _⟩,fun i v s' Q' E' hP hQ=>?_,fun h' tk hk=>?_⟩
 ·obtain⟨b,e,rfl⟩:=hb.get i v (by simpa using hP)
  simp only[e,Option.getD_some] at hQ
  exact Bo hQ
 ·have e:((Ag its.toArray.size).all fun i=>(bs[i]?).getD true)=bs.all id:=by
   rw[AK,hb.length];exact LSm.range_all bs
  rw[e]
  exact⟨.bl _,H,I.kept (LSm.kept_iter hk),rfl,q⟩
theorem aMC:SlR X (fun x lo hi H Q=>∃ z,x=.str z∧z.length≤Am∧Q (.str (Cn z lo hi)) H):=by
 intro pins s σ H x v vl vu lo hi sl Q I rx hs pl pu h
 obtain⟨z,rfl,hz,q⟩:=h
 obtain⟨t,rfl⟩:=rx
 refine⟨"str",_,F.slot_str_getitem.lookup,typeIs_str _ _ _,?_⟩
 have fin:∀ (t':Tok) (k:Nat),EP X pins σ Q (.str (Cn z lo hi) t') { s with toks:=k }:=fun t' k=>⟨.str _,H,I.tok k,⟨t',rfl⟩,q⟩
 cases pl with
 | none =>
  cases pu with
  | none=>exact DP (l:=none) (u:=none) (st:=none) hs rfl (Eg ⟨Av (FD z _ _) hz,fun t' k=>fin t' k⟩)
  | int j uj=>exact DP (l:=none) (u:=some (j,uj)) (st:=none) hs rfl (Eg ⟨Av (FD z _ _) hz,fun t' k=>fin t' k⟩)
 | int i ui =>
  cases pu with
  | none=>exact DP (l:=some (i,ui)) (u:=none) (st:=none) hs rfl (Eg ⟨Av (FD z _ _) hz,fun t' k=>fin t' k⟩)
  | int j uj=>exact DP (l:=some (i,ui)) (u:=some (j,uj)) (st:=none) hs rfl (Eg ⟨Av (FD z _ _) hz,fun t' k=>fin t' k⟩)
theorem wB:OpR X (DF .Mult) (fun x y H Q=>∃ z n,x=.str z∧y=.int n∧z.length≤16∧n≤1048576∧-(2 ^ 63)≤n∧Q (.str (Txt.mul z n)) H):=by
 intro pins s σ H x y v u Q I rx ry h
 obtain⟨z,n,rfl,rfl,h1,h2,h3,q⟩:=h
 obtain⟨t,rfl⟩:=rx
 obtain⟨t',rfl⟩:=ry
 exact SB.mul (mulOk_of 16 1048576 h1 h2 h3 (by decide) (by decide)) fun t'' k=>⟨.str _,H,I.tok k,⟨t'',rfl⟩,q⟩
theorem aIK:OpR X (DF .Mult) (rI (fun i j=>i.natAbs<2 ^ 4096∧j.natAbs<2 ^ 4096) fun i j=>.int (i*j)):=opI fun i j _ _ _ _ _ hc q =>
 mul_int q (IntMulOk.of_bits (Av (intBits_le hc.1) (by decide)) (Av (intBits_le hc.2) (by decide)))
theorem cE:OpR X (DF .FloorDiv) (rI (fun _ j=>0<j∧j.natAbs.log2<9000) fun i j=>.int (i / j)):=opI fun i j _ _ _ _ _ hc q=>by
 have h1:(0:Int)<j:=hc.1
 exact floordiv_int (by omega) (by rw[Int.fdiv_eq_ediv_of_nonneg i (by omega)];exact q) (.inl (PyProof.noPylong_of_log2 hc.2))
noncomputable def Its(x:Str):It where
 go:=fun i _=>i<x.cps.size
 yld:=fun i H v H'=>H'=H∧∃ c,x.cps[i]?=some c∧v=.str ⟨#[c]⟩
 stop:=fun i _=>i=x.cps.size
theorem aCU{P:Program}{w:World}{K:AE}{tg:Expr}(it:Addr)(x:Str)(t:Tok)(ty:String)
 (W:∀ A:Around,A.handled=none→Walks P w A it [it] [it] x.cps.size (SignAt x) (fun i h=>h.IsStrIter it ty x t i))
 (hn:["enumerate","zip","dict_itemiterator","dict_reverseitemiterator","odict_iterator","itertools.zip_longest","itertools.pairwise"].contains ty=false)
 (self:∀ (A:Around) (i:Nat) (s:Shared) (Q:Value→Shared→Prop) (E:Value→Shared→Prop),s.heap.IsStrIter it ty x t i→Q (.ref it) s→wpAny (model P w) A (pyIter (.ref it)) Q E s) :
  Turn P w K tg (Its x) [it] it (fun i h=>h.IsStrIter it ty x t i) where
 mem:=by simp
 obj:=fun i h st b hb=>by
  have e:b=it:=by simpa using hb
  subst e
  obtain⟨o,e,c,d⟩:=st
  exact⟨o,e,fun v z=>by rw[d] at z;cases z⟩
 keep:=fun i h h' st k=>let ⟨o,ho,r⟩:=st;⟨o,k it (by simp) o ho,r⟩
 item:=by
  intro X hP hw hK hc i pins s σ H E I hf st hg
  subst hP hw hK
  obtain⟨f0,f1,f2,f3,f4,f5⟩:=hf it (by simp)
  refine (W X.A (I.ok.hd hc)).item i s _ _ hg st fun v h' tk hv st' kk=>?_
  obtain⟨c,u,hx,rfl⟩:=hv
  have I1:Inv X pins σ H { s with heap:=h',toks:=tk }:=I.turned (fun b o hb e=>kk b o (by simpa using hb) e) f0 f1 f3 f4 f5
  obtain⟨o,e,cc,d⟩:=id st'
  exact⟨_,rfl,aEN (s:={ s with heap:=h',toks:=tk }) e cc d hn ⟨.str ⟨#[c]⟩,H,I1,⟨u,rfl⟩,⟨rfl,c,hx,rfl⟩,st',fun b hb=>(hf b hb).1⟩⟩
 done:=by
  intro X hP hw hK hc i pins s σ H E I hf st hg
  subst hP hw hK
  obtain⟨f0,f1,f2,f3,f4,f5⟩:=hf it (by simp)
  have hg':i=x.cps.size:=hg
  subst hg'
  exact (W X.A (I.ok.hd hc)).done s _ _ st fun h' tk kk=>⟨rfl,I.turned (fun b o hb e=>kk b o (by simpa using hb) e) f0 f1 f3 f4 f5⟩
 self:=self
def aZJ(tl:TE):TI:=fun σ H R=>tl σ H fun x H1=>∃ z,x=.str z∧R (Its z) H1
theorem aUQ{tg l:Expr}{tl:TE}(hl:PE X l tl):PI X tg l (aZJ tl):=by
 intro pins s σ H R I h
 refine thn (hl pins s σ H _ I h) fun v s1 ⟨x,H1,I1,r1,q1⟩=>?_
 obtain⟨z,e,q⟩:=q1
 subst e
 obtain⟨t,rfl⟩:=r1
 have fp:∀ b∈[s1.heap.objs.size],aCP X pins H1 b:=fun b hb=>by
  have e:b=s1.heap.objs.size:=by simpa using hb
  subst e
  exact I1.fpOk (AL _) (I1.hok.fresh (AL _))
 cases ha:z.cps.all (·<128)
 ·refine wpAny_pyIter_wide ha ?_
  exact⟨s1.heap.objs.size,[s1.heap.objs.size],_,_,H1,rfl,I1.kept (t':=s1.toks) fun b o e=>AF _ e,aCU _ z t "str_iterator" (fun A hA=>Walks.strWide hA _ z t) (by decide) (fun A i s Q E st h=>wpAny_pyIter_striter_wide st h),
   ⟨_,AZ _ rfl,rfl,rfl⟩,fp,q⟩
 ·refine wpAny_pyIter_ascii ha ?_
  exact⟨s1.heap.objs.size,[s1.heap.objs.size],_,_,H1,rfl,I1.kept (t':=s1.toks) fun b o e=>AF _ e,aCU _ z t "str_ascii_iterator" (fun A hA=>Walks.strAscii hA _ z t) (by decide) (fun A i s Q E st h=>wpAny_pyIter_striter_ascii st h),
   ⟨_,AZ _ rfl,rfl,rfl⟩,fp,q⟩
end
theorem aOW{σb:St}{x:Str}{g:TG}{tt:TT}{te:TE}{fin:List V→Hp→Prop}{H:Hp}(hz:x.cps.size≤Am)(Pv:Nat→List V→Hp→Prop)(h0:Pv 0 [] H)(hl:∀ i ys H,Pv i ys H→ys.length≤i)
 (hs:∀ i c ys H (K:VK) (K':Hp→Prop),x.cps[i]?=some c→Pv i ys H→(∀ y H4,Pv (i+1) (ys++[y]) H4→K y H4)→(∀ H3,Pv (i+1) ys H3→K' H3) →
   g (.str ⟨#[c]⟩) σb H fun σ2 H2=>tt σ2 H2 fun b H3=>if b=true then te σ2 H3 K else K' H3)
 (hd:∀ ys H,Pv x.cps.size ys H→fin ys H):∃ W:CW,(∃ m,W 0 m [] H)∧∀ i m ys H,W i m ys H→yI σb (Its x) g tt te W fin i m ys H:=by
 refine⟨fun i m ys H=>m=x.cps.size - i∧i≤x.cps.size∧Pv i ys H,⟨x.cps.size,by simp,BN _,h0⟩,?_⟩
 rintro i m ys H ⟨rfl,hi,p⟩
 by_cases hlt:i<x.cps.size
 ·refine .inr ⟨hlt,?_,fun v H' y=>?_⟩
  ·have:=hl i ys H p;omega
  ·obtain⟨e,c,hx,rfl⟩:=y
   subst e
   exact hs i c ys _ _ _ hx p (fun y H4 q=>⟨x.cps.size - (i+1),by omega,rfl,hlt,q⟩) fun H3 q=>⟨x.cps.size - (i+1),by omega,rfl,hlt,q⟩
 ·have e:i=x.cps.size:=by omega
  subst e
  exact .inl ⟨rfl,hd ys H p⟩
theorem bH{F:AE}{a:Addr}{xs:List V}{σb:St}{g:TG}{tt:TT}{te:TE}{fin:List V→Hp→Prop}{H:Hp}(hz:xs.length≤Am)(Pv:Nat→List V→Hp→Prop)(h0:Pv 0 [] H)
 (hl:∀ i ys H,i≤xs.length→Pv i ys H→SqL F H a xs∧ys.length≤i)
 (hs:∀ i x ys H (K:VK) (K':Hp→Prop),xs[i]?=some x→Pv i ys H→(∀ y H4,Pv (i+1) (ys++[y]) H4→K y H4)→(∀ H3,Pv (i+1) ys H3→K' H3) →
   g x σb H fun σ2 H2=>tt σ2 H2 fun b H3=>if b=true then te σ2 H3 K else K' H3)
 (hd:∀ ys H,Pv xs.length ys H→fin ys H):∃ W:CW,(∃ m,W 0 m [] H)∧∀ i m ys H,W i m ys H→yI σb (Itl F a) g tt te W fin i m ys H:=by
 refine⟨fun i m ys H=>m=xs.length - i∧i≤xs.length∧Pv i ys H,⟨xs.length,by simp,BN _,h0⟩,?_⟩
 rintro i m ys H ⟨rfl,hi,p⟩
 obtain⟨q,ql⟩:=hl i ys H hi p
 by_cases hlt:i<xs.length
 ·refine .inr ⟨⟨xs,xs[i],q,by simp[hlt]⟩,by omega,fun x H' y=>?_⟩
  obtain⟨e,y⟩:=y
  subst e
  exact hs i x ys _ _ _ (y xs q) p (fun y H4 q=>⟨xs.length - (i+1),by omega,rfl,hlt,q⟩) fun H3 q=>⟨xs.length - (i+1),by omega,rfl,hlt,q⟩
 ·have e:i=xs.length:=by omega
  subst e
  exact .inl ⟨⟨xs,q,AL _⟩,hd ys H p⟩
theorem aHA{lo:Int}{n:Nat}{σb:St}{g:TG}{tt:TT}{te:TE}{fin:List V→Hp→Prop}{H:Hp}(hz:n≤Am)(Pv:Nat→List V→Hp→Prop)(h0:Pv 0 [] H)(hl:∀ i ys H,Pv i ys H→ys.length≤i)
 (hs:∀ i ys H (K:VK) (K':Hp→Prop),i<n→Pv i ys H→(∀ y H4,Pv (i+1) (ys++[y]) H4→K y H4)→(∀ H3,Pv (i+1) ys H3→K' H3) →
   g (.int (lo+i)) σb H fun σ2 H2=>tt σ2 H2 fun b H3=>if b=true then te σ2 H3 K else K' H3)
 (hd:∀ ys H,Pv n ys H→fin ys H):∃ W:CW,(∃ m,W 0 m [] H)∧∀ i m ys H,W i m ys H→yI σb (Itr lo n) g tt te W fin i m ys H:=by
 refine⟨fun i m ys H=>m=n - i∧i≤n∧Pv i ys H,⟨n,by simp,BN _,h0⟩,?_⟩
 rintro i m ys H ⟨rfl,hi,p⟩
 by_cases hlt:i<n
 ·refine .inr ⟨hlt,?_,fun v H' y=>?_⟩
  ·have:=hl i ys H p;omega
  ·obtain⟨e,y⟩:=y
   subst e y
   exact hs i ys _ _ _ hlt p (fun y H4 q=>⟨n - (i+1),by omega,rfl,hlt,q⟩) fun H3 q=>⟨n - (i+1),by omega,rfl,hlt,q⟩
 ·have e:i=n:=by omega
  subst e
  exact .inl ⟨AL _,hd ys H p⟩
end L2
namespace L2
open PySem PySem.Spec PyProof.Rows
structure DefAt (K:AE) (mg:Str→Option Value) (x:Str) (st:Stmt) (ps:List Str):Prop where
 ex:∃ (f:Addr) (fd:Ba),Fun K x x st f fd∧gG K fd ps []∧mg x=some (.ref f)
structure Fc (P:Program) (w:World) (K:AE) (mg:Str→Option Value) (base:Heap) (k:Nat) (x:Str) (ps:List Str) (sp:Sp):Prop where
 ex:∃ (f:Addr) (fd:Ba),FnOk P w K mg base CX0 k f fd ps sp∧gG K fd ps []∧mg x=some (.ref f)∧Bs K (.ref f)=true
section
variable{P:Program}{w:World}{K:AE}{mg:Str→Option Value}{base:Heap}
theorem DefAt.fc{x:Str}{st:Stmt}{N ps:List Str}{k:Nat}{sp:Sp}(D:DefAt K mg x st ps)(S:FnScope N ps (aF st))(len:∀ vs H Q E,sp vs H Q E→vs.length=ps.length)
 (hbody:∀ (f:Addr) (cdv:Value) (A:Around) (outer:List Env) (s:Shared) (H:Hp) (vs:List V) (Q:VK) (E:XK),Room k (A.deeper (envOfC x (aF st) s.heap.objs.size f cdv))→sp vs H Q E →
   ∃ t,PSs (gZ CX0 P w K mg base N x (aF st) f cdv A outer s H E).nox (cV st) t∧t { nx:=fun _ H'=>Q .non H',rt:=Q } (start N vs) H):Fc P w K mg base (k+1) x ps sp:=by
 obtain⟨f,fd,F,b,m⟩:=D.ex
 exact⟨f,fd,F.ok S len fun cdv A outer s H vs Q E hr h=>hbody f cdv A outer s H vs Q E hr h,b,m,F.kp⟩
theorem def_mk{h:Heap}{x:Str}{st:Stmt}{ps:List Str}{f:Addr}{oc:Value}{od an:Option Addr}{osl:Array (Option Value)}{kV doc pm cdv ct:Value}(X:K.In h)(G:h.Ns CH mg)
 (a:PySem.W.nsIn K CH x=some (some (.ref f)))(l:K.lookup f=some ⟨oc,od,.func (Bx x x (gQ st) (cV st) (aF st) .none kV doc pm an cdv ct),osl⟩)
 (c:DA K cdv x=true)(k:Bs K (.ref f)=true)
 (hb:∀ (kV doc pm:Value) (an:Option Addr) (cdv ct:Value) (us:List Value),us.length=ps.length→Ew (Bx x x (gQ st) (cV st) (aF st) .none kV doc pm an cdv ct) ⟨us,[]⟩=pure (ps.zip us)):DefAt K mg x st ps :=
 ⟨f,_,sC l c k,(sC l c k).binds hb,PySem.W.mg_of X G a⟩
end
section
variable{X:Cx}{k:Nat}{ps:List Str}{sp:Sp}{x:Str}{p pos:Pos}{e:Expr}{es:List Expr}{t:TA}
theorem bE(F:Fc X.prog X.w X.K X.mg X.base k x ps sp)(hr:Room k X.A)(ha:PA X (e :: es) t)(hg:Gl X x:=by rfl)(hdb:(x == ("__debug__":Str))=false:=by decide)
 (he:Ak (e :: es) X.env=(false,eval e X.env) :: Ak es X.env:=by rfl)(hpl:(backTo pos (Ak es X.env)).any (·.1)=false:=by rfl) :
  PE X (.Call (.Name x p) (e :: es) [] pos) (aHL sp [] E0 t):=by
 obtain⟨f,fd,G,b,m,kp⟩:=F.ex
 exact aIG G hr hg m kp b .nil aIJ ha hdb he hpl
end
def sp1(f:V→Hp→VK→Prop):Sp:=fun vs H Q _=>∃ x,vs=[x]∧f x H Q
def sp2(f:V→V→Hp→VK→Prop):Sp:=fun vs H Q _=>∃ x y,vs=[x,y]∧f x y H Q
def sp3(f:V→V→V→Hp→VK→Prop):Sp:=fun vs H Q _=>∃ x y z,vs=[x,y,z]∧f x y z H Q
theorem mL{f:V→Hp→VK→Prop}:∀ vs H Q E,sp1 f vs H Q E→vs.length=1:=fun vs H Q E ⟨x,e,_⟩=>by rw[e];rfl
theorem iU{f:V→V→Hp→VK→Prop}:∀ vs H Q E,sp2 f vs H Q E→vs.length=2:=fun vs H Q E ⟨x,y,e,_⟩=>by rw[e];rfl
theorem rR{f:V→V→V→Hp→VK→Prop}:∀ vs H Q E,sp3 f vs H Q E→vs.length=3:=fun vs H Q E ⟨x,y,z,e,_⟩=>by rw[e];rfl
theorem bO:BM "isinstance"=some (.builtin "isinstance"):=by decide +kernel
theorem iI:BM "all"=some (.builtin "all"):=by decide +kernel
theorem bG:BM "len"=some (.builtin "len"):=by decide +kernel
theorem aAB:BM "max"=some (.builtin "max"):=by decide +kernel
theorem sM:BM "min"=some (.builtin "min"):=by decide +kernel
theorem aAA:BM "str"=some (.type "str"):=by decide +kernel
theorem sN:BM "int"=some (.type "int"):=by decide +kernel
theorem aHC:BM "bool"=some (.type "bool"):=by decide +kernel
theorem dU:BM "list"=some (.type "list"):=by decide +kernel
theorem hE:BM "tuple"=some (.type "tuple"):=by decide +kernel
theorem fB:BM "dict"=some (.type "dict"):=by decide +kernel
theorem sL:BM "set"=some (.type "set"):=by decide +kernel
inductive Pl (K:AE) (H:Hp):V→Prop where
 | non:Pl K H .non
 | bl (b:Bool):Pl K H (.bl b)
 | int (i:Int):Pl K H (.int i)
 | str (x:Str):Pl K H (.str x)
 | lst {a:Addr} {xs:List V} (e:H a=some (.lst xs)):Pl K H (.ref a)
 | frz {a:Addr} {o:Obj} {xs:List V} (e:H a=some (.frz o (.lst xs))):Pl K H (.ref a)
 | tup {a:Addr} {xs:List V} (e:H a=some (.tup xs)):Pl K H (.ref a)
 | dK {a:Addr} {kvs:List (Key×V)} (e:H a=some (.dK kvs)):Pl K H (.ref a)
noncomputable def isB:V→Bool
 | .bl _=>true
 | _=>false
theorem jV(K:AE)(n:String):BD K (.type n) (.type n)=some true:=by
 unfold BD
 rw[if_pos (by simp)]
end L2
namespace L2
open PySem PySem.Spec PyProof.Rows
def jK(mg:Str→Option Value)(x:Str)(v:V):Prop:=∃ u,mg x=some u∧bI v u
theorem rK{X:Cx}{x:Str}{v:V}{pos:Pos}(h:jK X.mg x v)(hg:Gl X x:=by rfl)(hd:(x == ("__debug__":Str))=false:=by decide):PE X (.Name x pos) (tC v):=by
 obtain⟨u,hm,r⟩:=h
 exact aBI hg hm r hd
theorem glob_mk{K:AE}{mg:Str→Option Value}{h:Heap}{x:Str}{v:V}{u:Value}(X:K.In h)(G:h.Ns CH mg)(a:PySem.W.nsIn K CH x=some (some u))(r:bI v u):jK mg x v:=⟨u,PySem.W.mg_of X G a,r⟩
end L2
namespace L2
open PySem PySem.Spec PyProof.Rows
noncomputable def sE:HO→Bool
 | .lst _=>true
 | .dK _=>true
 | .set _ _=>true
 | .ext _=>true
 | .rng _ _=>true
 | _=>false
def gF(H' H'':Hp):Prop:=∀ b,H'' b=H' b∨(H'' b=none∧∃ o,H' b=some o∧sE o=true)
theorem gF.refl(H:Hp):gF H H:=fun _=>.inl rfl
theorem gF.trans{H1 H2 H3:Hp}(a:gF H1 H2)(b:gF H2 H3):gF H1 H3:=fun c=>by
 rcases b c with e | ⟨e,o,q,d⟩
 ·rcases a c with e' | ⟨e',o,q,d⟩
  ·exact .inl (e.trans e')
  ·exact .inr ⟨e.trans e',o,q,d⟩
 ·rcases a c with e' | ⟨e',_⟩
  ·exact .inr ⟨e,o,e'▸q,d⟩
  ·rw[e'] at q;cases q
theorem gF.new{H:Hp}{p:Addr}{o:HO}(h:H p=none)(d:sE o=true):gF (upd H p o) H:=fun b=>by
 by_cases hb:b=p
 ·subst hb
  exact .inr ⟨h,o,aC,d⟩
 ·exact .inl (aI hb).symm
theorem gF.lst{H:Hp}{p:Addr}{xs:List V}(h:H p=none):gF (upd H p (.lst xs)) H:=gF.new h rfl
def cU(Q:VK):VK:=fun v H'=>∃ H'',gF H' H''∧Q v H''
theorem cU.of{Q:VK}{v:V}{H H':Hp}(d:gF H' H)(q:Q v H):cU Q v H':=⟨H,d,q⟩
theorem HOk.drop{P:Program}{w:World}{H' H'':Hp}{h:Heap}(d:gF H' H'')(ok:HOk P w H' h):HOk P w H'' h:=fun b o e=>by
 have e':H' b=some o:=by
  rcases d b with z | ⟨z,_⟩
  ·exact z.symm.trans e
  ·rw[z] at e;cases e
 refine (ok b o e').stay (fun _ _ _ q=>q) (fun c q=>?_) fun c xs q=>?_
 ·rcases d c with z | ⟨_,o',z',dr⟩
  ·exact z.trans q
  ·rw[q] at z';cases z';cases dr
 ·rcases d c with z | ⟨_,o',z',dr⟩
  ·exact z.trans q
  ·rw[q] at z';cases z';cases dr
theorem Un.drop{fs ex:List Addr}{H H' H'':Hp}{h h':Heap}(d:gF H' H'')(u:Un fs ex H H' h h'):Un fs ex H H'' h h' where
 keep:=u.keep
 slot:=u.slot
 free:=fun b o e n hx=>by
  rcases d b with z | ⟨z,_⟩
  ·exact z.trans (u.free b o e n hx)
  ·exact z
 there:=u.there
 tups:=fun b xs e=>by
  have q:=u.tups b xs e
  rcases d b with z | ⟨_,o',z',dr⟩
  ·exact z.trans q
  ·rw[q] at z';cases z';cases dr
 frzs:=fun b o v e=>by
  have q:=u.frzs b o v e
  rcases d b with z | ⟨_,o',z',dr⟩
  ·exact z.trans q
  ·rw[q] at z';cases z';cases dr
 tbls:=fun b ps e=>by
  obtain⟨m,q⟩:=u.tbls b ps e
  rcases d b with z | ⟨_,o',z',dr⟩
  ·exact⟨m,z.trans q⟩
  ·rw[q] at z';cases z';cases dr
theorem FnOk.drop{P:Program}{w:World}{K:AE}{mg:Str→Option Value}{base:Heap}{k:Nat}{f:Addr}{fd:Ba}{ps:List Str}{sp:Sp}(len:∀ vs H Q E,sp vs H Q E→vs.length=ps.length)
 (F:FnOk P w K mg base CX0 k f fd ps (fun vs H Qd E=>∃ Q,sp vs H Q E∧Qd=cU Q)):FnOk P w K mg base CX0 k f fd ps sp:=by
 refine⟨len,fun A outer s H args us vs Q E hr he hb hv hs=>Co (F.run A outer s H args us vs (cU Q) E hr he hb hv ⟨Q,hs,rfl⟩) fun r s' h=>?_⟩
 cases r with
 | error e=>exact h
 | ok fl =>
  cases fl with
  | ret u =>
   obtain⟨v,H',os,bare,un,hok,rv,H'',d,q⟩:=h
   exact⟨v,H'',os,bare,un.drop d,hok.drop d,rv,q⟩
  | next=>exact h
  | brk=>exact h
  | cont=>exact h
theorem DefAt.fcD{P:Program}{w:World}{K:AE}{mg:Str→Option Value}{base:Heap}{x:Str}{st:Stmt}{N ps:List Str}{k:Nat}{sp:Sp}(D:DefAt K mg x st ps)(S:FnScope N ps (aF st))(len:∀ vs H Q E,sp vs H Q E→vs.length=ps.length)
 (hbody:∀ (f:Addr) (cdv:Value) (A:Around) (outer:List Env) (s:Shared) (H:Hp) (vs:List V) (Q:VK) (E:XK),Room k (A.deeper (envOfC x (aF st) s.heap.objs.size f cdv))→sp vs H Q E →
   ∃ t,PSs (gZ CX0 P w K mg base N x (aF st) f cdv A outer s H E).nox (cV st) t∧t { nx:=fun _ H'=>cU Q .non H',rt:=cU Q } (start N vs) H):Fc P w K mg base (k+1) x ps sp:=by
 obtain⟨f,fd,F,b,m⟩:=D.ex
 refine⟨f,fd,FnOk.drop len (F.ok S (fun vs H Q E ⟨Q',h,_⟩=>len vs H Q' E h) fun cdv A outer s H vs Q E hr ⟨Q',h,e⟩=>?_),b,m,F.kp⟩
 subst e
 exact hbody f cdv A outer s H vs Q' E hr h
end L2
namespace L2
open PySem PySem.Spec PyProof.Rows
theorem aH.upd{H:Hp}{p:Addr}{o:HO}(h:H p=none):aH H (upd H p o):=fun b u e=>by
 rw[aI (aN e h)]
 exact e
end L2
namespace L2
open PySem PySem.Spec PyProof.Rows
theorem qI{X:Cx}{x:Str}{n:String}{pos:Pos}(hm:X.mg x=none)(hv:BM x=some (.type n))(hg:Gl X x:=by rfl)(hn:x≠"__name__":=by decide)(hd:(x == ("__debug__":Str))=false:=by decide):PE X (.Name x pos) (tC (.ty n)) :=
 aRA hg hm hv rfl hn hd
end L2
namespace L2
theorem aS{n:Nat}(h:Nat.ble n 1000=true):n≤PySem.sizeLine:=Av (Nat.le_of_ble_eq_true h) (by decide)
end L2
namespace L2
open PySem PySem.Spec PyProof.Rows
end L2
namespace L2
open PySem PySem.Spec PyProof.Rows
inductive Dv where
 | non | bl (b:Bool) | int (i:Int) | str (x:Str) | lst (ds:List Dv) | tup (ds:List Dv) | dct (ks:List Key) (ds:List Dv)
mutual
def Is(H:Hp):Dv→V→Prop
 | .non,v=>v=.non
 | .bl b,v=>v=.bl b
 | .int i,v=>v=.int i
 | .str x,v=>v=.str x
 | .lst ds,v=>∃ a vs,v=.ref a∧H a=some (.lst vs)∧IsL H ds vs
 | .tup ds,v=>∃ a vs,v=.ref a∧H a=some (.tup vs)∧IsL H ds vs
 | .dct ks ds,v=>∃ a vs,v=.ref a∧H a=some (.dK (ks.zip vs))∧vs.length=ks.length∧IsL H ds vs
def IsL(H:Hp):List Dv→List V→Prop
 | [],vs=>vs=[]
 | d :: ds,vs=>∃ v r,vs=v :: r∧Is H d v∧IsL H ds r
end
noncomputable def aVM:HO→Bool
 | .lst _=>true
 | .tup _=>true
 | .dK _=>true
 | _=>false
def aFF(H H':Hp):Prop:=∀ b o,H b=some o→aVM o=true→H' b=some o
mutual
theorem Is.sameD{H H':Hp}(S:aFF H H'):∀ (d:Dv) (v:V),Is H d v→Is H' d v
 | .non,_,h=>h
 | .bl _,_,h=>h
 | .int _,_,h=>h
 | .str _,_,h=>h
 | .lst ds,_,⟨a,vs,e,o,h⟩=>⟨a,vs,e,S _ _ o rfl,IsL.sameD S ds vs h⟩
 | .tup ds,_,⟨a,vs,e,o,h⟩=>⟨a,vs,e,S _ _ o rfl,IsL.sameD S ds vs h⟩
 | .dct ks ds,_,⟨a,vs,e,o,l,h⟩=>⟨a,vs,e,S _ _ o rfl,l,IsL.sameD S ds vs h⟩
theorem IsL.sameD{H H':Hp}(S:aFF H H'):∀ (ds:List Dv) (vs:List V),IsL H ds vs→IsL H' ds vs
 | [],_,h=>h
 | d :: ds,_,⟨v,r,e,h,t⟩=>⟨v,r,e,Is.sameD S d v h,IsL.sameD S ds r t⟩
end
theorem Is.same{H H':Hp}(S:aH H H')(d:Dv)(v:V)(h:Is H d v):Is H' d v:=Is.sameD (fun b o e _=>S b o e) d v h
theorem IsL.same{H H':Hp}(S:aH H H')(ds:List Dv)(vs:List V)(h:IsL H ds vs):IsL H' ds vs:=IsL.sameD (fun b o e _=>S b o e) ds vs h
mutual
noncomputable def yB:Dv→Bool
 | .lst _=>false
 | .dct _ _=>false
 | .tup ds=>zM ds
 | _=>true
noncomputable def zM:List Dv→Bool
 | []=>true
 | d :: ds=>yB d && zM ds
end
def gI(H H':Hp):Prop:=∀ a xs,H a=some (.tup xs)→H' a=some (.tup xs)
mutual
theorem Is.keep{H H':Hp}(S:gI H H'):∀ (d:Dv) (v:V),yB d=true→Is H d v→Is H' d v
 | .non,_,_,h=>h
 | .bl _,_,_,h=>h
 | .int _,_,_,h=>h
 | .str _,_,_,h=>h
 | .lst ds,_,f,_=>by cases f
 | .tup ds,_,f,⟨a,vs,e,o,h⟩=>⟨a,vs,e,S _ _ o,IsL.keep S ds vs f h⟩
 | .dct ks ds,_,f,_=>by cases f
theorem IsL.keep{H H':Hp}(S:gI H H'):∀ (ds:List Dv) (vs:List V),zM ds=true→IsL H ds vs→IsL H' ds vs
 | [],_,_,h=>h
 | d :: ds,_,f,⟨v,r,e,h,t⟩=>⟨v,r,e,Is.keep S d v (An.mp f).1 h,IsL.keep S ds r (An.mp f).2 t⟩
end
mutual
noncomputable def deq:Dv→Dv→Bool
 | .non,.non=>true
 | .bl a,.bl b=>a == b
 | .bl a,.int b=>(if a then 1 else 0) == b
 | .int a,.bl b=>a == (if b then 1 else 0)
 | .int a,.int b=>a == b
 | .str a,.str b=>a == b
 | .lst a,.lst b=>uH a b
 | .tup a,.tup b=>uH a b
 | _,_=>false
noncomputable def uH:List Dv→List Dv→Bool
 | [],[]=>true
 | a :: r,b :: q=>deq a b && uH r q
 | _,_=>false
end
mutual
noncomputable def bB:Nat→Dv→Bool
 | _,.dct _ _=>false
 | 0,.lst _=>false
 | 0,.tup _=>false
 | n+1,.lst ds=>cM n ds
 | n+1,.tup ds=>cM n ds
 | _,_=>true
noncomputable def cM:Nat→List Dv→Bool
 | _,[]=>true
 | n,d :: ds=>bB n d && cM n ds
end
mutual
theorem qU:∀ (n:Nat) (d:Dv),bB n d=true→deq d d=true
 | _,.non,_=>rfl
 | _,.bl b,_=>beq_self_eq_true b
 | _,.int i,_=>beq_self_eq_true i
 | _,.str x,_=>beq_self_eq_true x
 | 0,.lst ds,f=>by simp[bB] at f
 | 0,.tup ds,f=>by simp[bB] at f
 | n+1,.lst ds,f=>sF n ds (by simpa [bB] using f)
 | n+1,.tup ds,f=>sF n ds (by simpa [bB] using f)
 | n,.dct ks ds,f=>by simp[bB] at f
theorem sF:∀ (n:Nat) (ds:List Dv),cM n ds=true→uH ds ds=true
 | _,[],_=>rfl
 | n,d :: ds,f=>by
  rw[cM,AV] at f
  show (deq d d && uH ds ds)=true
  rw[qU n d f.1,sF n ds f.2];rfl
end
theorem IsL.length{H:Hp}:∀ {ds:List Dv} {vs:List V},IsL H ds vs→vs.length=ds.length
 | [],_,h=>by rw[show _=[] from h];rfl
 | d :: ds,_,⟨v,r,e,_,t⟩=>by rw[e,Af,Af,IsL.length t]
mutual
theorem Is.inj{H:Hp}:∀ (d e:Dv) (v:V),Is H d v→Is H e v→(∃ n,bB n d=true)→(∃ n,bB n e=true)→d=e
 | .non,e,v,h,h',_,_=>by
  cases e <;> simp_all [Is]
 | .bl b,e,v,h,h',_,_=>by
  cases e <;> simp_all [Is]
 | .int b,e,v,h,h',_,_=>by
  cases e <;> simp_all [Is]
 | .str b,e,v,h,h',_,_=>by
  cases e <;> simp_all [Is]
 | .lst ds,e,v,⟨a,vs,q,o,h⟩,h',⟨n,f⟩,⟨m,g⟩=>by
  subst q
  cases e with
  | lst es =>
   obtain⟨a',vs',q',o',h'⟩:=h'
   cases q'
   rw[o] at o'
   cases o'
   cases n with
   | zero=>simp[bB] at f
   | succ n =>
    cases m with
    | zero=>simp[bB] at g
    | succ m=>rw[IsL.inj ds es vs h h' ⟨n,by simpa [bB] using f⟩ ⟨m,by simpa [bB] using g⟩]
  | tup es =>
   obtain⟨a',vs',q',o',h'⟩:=h'
   cases q'
   rw[o] at o'
   cases o'
  | dct ks es=>simp[bB] at g
  | _=>simp_all [Is]
 | .tup ds,e,v,⟨a,vs,q,o,h⟩,h',⟨n,f⟩,⟨m,g⟩=>by
  subst q
  cases e with
  | tup es =>
   obtain⟨a',vs',q',o',h'⟩:=h'
   cases q'
   rw[o] at o'
   cases o'
   cases n with
   | zero=>simp[bB] at f
   | succ n =>
    cases m with
    | zero=>simp[bB] at g
    | succ m=>rw[IsL.inj ds es vs h h' ⟨n,by simpa [bB] using f⟩ ⟨m,by simpa [bB] using g⟩]
  | lst es =>
   obtain⟨a',vs',q',o',h'⟩:=h'
   cases q'
   rw[o] at o'
   cases o'
  | dct ks es=>simp[bB] at g
  | _=>simp_all [Is]
 | .dct ks ds,e,v,_,h',⟨n,f⟩,_=>by simp[bB] at f
theorem IsL.inj{H:Hp}:∀ (ds es:List Dv) (vs:List V),IsL H ds vs→IsL H es vs→(∃ n,cM n ds=true)→(∃ n,cM n es=true)→ds=es
 | [],es,vs,h,h',_,_=>by
  rw[show vs=[] from h] at h'
  cases es with
  | nil=>rfl
  | cons e es=>obtain⟨v,r,q,_⟩:=h';cases q
 | d :: ds,es,vs,⟨v,r,q,h,t⟩,h',⟨n,f⟩,⟨m,g⟩=>by
  subst q
  cases es with
  | nil=>cases (show v :: r=[] from h')
  | cons e es =>
   obtain⟨v',r',q',h',t'⟩:=h'
   cases q'
   rw[cM,AV] at f g
   rw[Is.inj d e v h h' ⟨n,f.1⟩ ⟨m,g.1⟩,IsL.inj ds es r t t' ⟨n,f.2⟩ ⟨m,g.2⟩]
end
theorem IsL.get{H:Hp}:∀ {ds:List Dv} {vs:List V} {i:Nat} {d:Dv},IsL H ds vs→ds[i]?=some d→∃ v,vs[i]?=some v∧Is H d v
 | [],_,_,_,_,e=>by simp at e
 | d :: ds,_,0,d',⟨v,r,e,h,t⟩,q=>by
  simp at q
  subst q e
  exact⟨v,rfl,h⟩
 | d :: ds,_,i+1,d',⟨v,r,e,h,t⟩,q=>by
  subst e
  obtain⟨u,h1,h2⟩:=IsL.get (i:=i) t (by simpa using q)
  exact⟨u,by simpa using h1,h2⟩
theorem pK:∀ (ds es:List Dv),ds.length=es.length→(Ag ds.length).all (fun j=>deq (ds.getD j .non) (es.getD j .non))=uH ds es
 | [],[],_=>rfl
 | d :: ds,e :: es,h=>by
  have ih:=pK ds es (by simpa using h)
  rw[Af,List.range_succ_eq_map,Cy,Dh]
  show (deq d e && (Ag ds.length).all (fun j=>deq (ds.getD j .non) (es.getD j .non)))=(deq d e && uH ds es)
  rw[ih]
 | [],_ :: _,h=>by simp at h
 | _ :: _,[],h=>by simp at h
theorem xE:∀ (ds es:List Dv),ds.length≠es.length→uH ds es=false
 | [],[],h=>absurd rfl h
 | d :: ds,e :: es,h=>by
  show (deq d e && uH ds es)=false
  rw[xE ds es (fun q=>h (by simp[q]))]
  simp
 | [],_ :: _,_=>rfl
 | _ :: _,[],_=>rfl
theorem mW:∀ {n:Nat} {ds:List Dv} {i:Nat} {d:Dv},cM n ds=true→ds[i]?=some d→bB n d=true
 | n,[],_,_,_,e=>by simp at e
 | n,d :: ds,0,d',f,e=>by
  simp at e
  subst e
  rw[cM,AV] at f
  exact f.1
 | n,d :: ds,i+1,d',f,e=>by
  rw[cM,AV] at f
  exact mW (i:=i) f.2 (by simpa using e)
theorem IsL.snoc{H:Hp}{d:Dv}{v:V}(h:Is H d v):∀ {ds:List Dv} {vs:List V},IsL H ds vs→IsL H (ds++[d]) (vs++[v])
 | [],_,e=>by
  rw[show _=[] from e]
  exact⟨v,[],rfl,h,rfl⟩
 | d' :: ds,_,⟨v',r,e,h',t⟩=>by
  subst e
  exact⟨v',r++[v],rfl,h',IsL.snoc h t⟩
theorem IsL.rev{H:Hp}:∀ {ds:List Dv} {vs:List V},IsL H ds vs→IsL H ds.reverse vs.reverse
 | [],_,e=>by rw[show _=[] from e];exact rfl
 | d :: ds,_,⟨v,r,e,h,t⟩=>by
  subst e
  rw[List.reverse_cons,List.reverse_cons]
  exact IsL.snoc h (IsL.rev t)
theorem IsL.app{H:Hp}{es:List Dv}{us:List V}(h:IsL H es us):∀ {ds:List Dv} {vs:List V},IsL H ds vs→IsL H (ds++es) (vs++us)
 | [],_,e=>by rw[show _=[] from e];exact h
 | d :: ds,_,⟨v,r,e,h',t⟩=>by
  subst e
  exact⟨v,r++us,rfl,h',IsL.app h t⟩
theorem IsL.strs(H:Hp):∀ zs:List Str,IsL H (zs.map Dv.str) (zs.map V.str)
 | []=>rfl
 | z :: zs=>⟨.str z,zs.map V.str,rfl,rfl,IsL.strs H zs⟩
theorem gI.lst{H:Hp}{l:Addr}{xs:List V}{o:HO}(h:H l=some (.lst xs)):gI H (upd H l o):=fun a ys e=>by
 have:a≠l:=zB e h (by intro z;cases z)
 rw[aI this]
 exact e
theorem aH.over{H H':Hp}{l:Addr}{o:HO}(S:aH H H')(hl:H l=none):aH H (L2.upd H' l o):=fun b u e=>by
 rw[aI (aN e hl)]
 exact S b u e
theorem wZ{n:Nat}:∀ {ds:List Dv},(∀ d∈ds,bB n d=true)→cM n ds=true
 | [],_=>by rw[cM]
 | d :: ds,h=>by
  rw[cM,h d AO,wZ fun e m=>h e (AJ _ m)]
  rfl
inductive View (s:Shared) (H:Hp):Dv→Value→Prop where
 | non:View s H .non .none
 | bl (b:Bool):View s H (.bl b) (.bool b)
 | int (i:Int) (t:Tok):View s H (.int i) (.int i t)
 | str (x:Str) (t:Tok):View s H (.str x) (.str x t)
 | lst {ds:List Dv} {l:Addr} {its:List Value} {vs:List V} (hl:s.heap.IsList l its.toArray) (r:bD vs its) (h:IsL H ds vs):View s H (.lst ds) (.ref l)
 | tup {ds:List Dv} {l:Addr} {its:List Value} {vs:List V} (hl:s.heap.IsTuple l its.toArray) (r:bD vs its) (h:IsL H ds vs):View s H (.tup ds) (.ref l)
section
variable{X:Cx}{pins:List (Addr×Obj)}{σ:St}{H:Hp}{s:Shared}
theorem Is.view(I:Inv X pins σ H s){n:Nat}{d:Dv}{v:V}{u:Value}(f:bB n d=true)(h:Is H d v)(r:bI v u):View s H d u:=by
 cases d with
 | non=>cases (show v=.non from h);cases r;exact .non
 | bl b=>cases (show v=.bl b from h);cases r;exact .bl b
 | int b=>cases (show v=.int b from h);obtain⟨t,rfl⟩:=r;exact .int b t
 | str b=>cases (show v=.str b from h);obtain⟨t,rfl⟩:=r;exact .str b t
 | lst ds =>
  obtain⟨a,vs,rfl,o,h⟩:=h
  cases r
  obtain⟨its,rv,pl,hz⟩:=I.list (SqL.of o)
  exact .lst pl.isList rv h
 | tup ds =>
  obtain⟨a,vs,rfl,o,h⟩:=h
  cases r
  obtain⟨its,rv,pl,hz⟩:=I.tuple (SqT.of o)
  exact .tup pl rv h
 | dct ks ds=>simp[bB] at f
open PySem.SeqAt in
theorem kN{n:Nat}{A:Around}(hu:A.units+n<cLine)
 (ih:∀ (d e:Dv) (v v':V) (u u':Value) (A:Around),A.units+n<cLine→bB n d=true→bB n e=true→Is H d v→Is H e v'→bI v u→bI v' u'→EqAt A s u u' (deq d e))
 {ds es:List Dv}{vs vs':List V}{its its':List Value}(f:cM n ds=true)(g:cM n es=true)(h:IsL H ds vs)(h':IsL H es vs')(r:bD vs its)(r':bD vs' its')
 (j:Nat)(h1:j<its.toArray.size)(h2:j<its'.toArray.size):EqAt A s its.toArray[j] its'.toArray[j] (deq (ds.getD j .non) (es.getD j .non)):=by
 have l1:=r.length
 have l2:=r'.length
 have l3:=h.length
 have l4:=h'.length
 rw[AK] at h1 h2
 have e1:ds[j]?=some (ds.getD j .non):=by
  rw[AY,AB (by omega)];rfl
 have e2:es[j]?=some (es.getD j .non):=by
  rw[AY,AB (by omega)];rfl
 obtain⟨v,q1,i1⟩:=h.get e1
 obtain⟨v',q2,i2⟩:=h'.get e2
 obtain⟨u,p1,k1⟩:=r.get q1
 obtain⟨u',p2,k2⟩:=r'.get q2
 have z1:its.toArray[j]=u:=by
  have:=AC.mp p1
  obtain⟨_,e⟩:=this
  simpa using e
 have z2:its'.toArray[j]=u':=by
  have:=AC.mp p2
  obtain⟨_,e⟩:=this
  simpa using e
 rw[z1,z2]
 exact ih _ _ v v' u u' A hu (mW f e1) (mW g e2) i1 i2 k1 k2
open PySem.SeqAt in
theorem aMP(I:Inv X pins σ H s){n:Nat}
 (ih:∀ (d e:Dv) (v v':V) (u u':Value) (A:Around),A.units+n<cLine→bB n d=true→bB n e=true→Is H d v→Is H e v'→bI v u→bI v' u'→EqAt A s u u' (deq d e))
 (d e:Dv)(v v':V)(u u':Value)(A:Around)(hu:A.units+(n+1)<cLine)(f:bB (n+1) d=true)(g:bB (n+1) e=true)(h:Is H d v)(h':Is H e v')(r:bI v u)(r':bI v' u') :
  RcAt A s u u' (deq d e)∧RcNeAt A s u u' (!deq d e):=by
 have hu0:A.units<cLine:=by omega
 have hu1:A.in1.units+n<cLine:=by show A.units+1+n<cLine;omega
 have w:=Is.view I f h r
 have w':=Is.view I g h' r'
 cases w with
 | non =>
  cases w' with
  | non=>exact⟨RcAt.none_none,RcNeAt.none_none⟩
  | bl b=>exact⟨RcAt.none_bool _,RcNeAt.none_bool _⟩
  | int b t=>exact⟨RcAt.none_int _ _,RcNeAt.none_int _ _⟩
  | str b t=>exact⟨RcAt.none_str _ _,RcNeAt.none_str _ _⟩
  | lst hl _ _=>exact⟨RcAt.none_list hl hu0,RcNeAt.none_list hl hu0⟩
  | tup hl _ _=>exact⟨RcAt.none_tuple hl hu0,RcNeAt.none_tuple hl hu0⟩
 | bl a =>
  cases w' with
  | non=>exact⟨RcAt.bool_none _,RcNeAt.bool_none _⟩
  | bl b=>exact⟨RcAt.bool_bool _ _,RcNeAt.bool_bool _ _⟩
  | int b t=>exact⟨RcAt.bool_int _ _ _,RcNeAt.bool_int _ _ _⟩
  | str b t=>exact⟨RcAt.bool_str _ _ _,RcNeAt.bool_str _ _ _⟩
  | lst hl _ _=>exact⟨RcAt.bool_list _ hl hu0,RcNeAt.bool_list _ hl hu0⟩
  | tup hl _ _=>exact⟨RcAt.bool_tuple _ hl hu0,RcNeAt.bool_tuple _ hl hu0⟩
 | int a t =>
  cases w' with
  | non=>exact⟨RcAt.int_none _ _,RcNeAt.int_none _ _⟩
  | bl b=>exact⟨RcAt.int_bool _ _ _,RcNeAt.int_bool _ _ _⟩
  | int b t=>exact⟨RcAt.int_int _ _ _ _,RcNeAt.int_int _ _ _ _⟩
  | str b t=>exact⟨RcAt.int_str _ _ _ _,RcNeAt.int_str _ _ _ _⟩
  | lst hl _ _=>exact⟨RcAt.int_list _ _ hl hu0,RcNeAt.int_list _ _ hl hu0⟩
  | tup hl _ _=>exact⟨RcAt.int_tuple _ _ hl hu0,RcNeAt.int_tuple _ _ hl hu0⟩
 | str a t =>
  cases w' with
  | non=>exact⟨RcAt.str_none _ _,RcNeAt.str_none _ _⟩
  | bl b=>exact⟨RcAt.str_bool _ _ _,RcNeAt.str_bool _ _ _⟩
  | int b t=>exact⟨RcAt.str_int _ _ _ _,RcNeAt.str_int _ _ _ _⟩
  | str b t=>exact⟨RcAt.str_str _ _ _ _,RcNeAt.str_str _ _ _ _⟩
  | lst hl _ _=>exact⟨RcAt.str_list _ _ hl hu0,RcNeAt.str_list _ _ hl hu0⟩
  | tup hl _ _=>exact⟨RcAt.str_tuple _ _ hl hu0,RcNeAt.str_tuple _ _ hl hu0⟩
 | @lst ds l its vs hl rv hi =>
  cases w' with
  | non=>exact⟨RcAt.list_none hl hu0,RcNeAt.list_none hl hu0⟩
  | bl b=>exact⟨RcAt.list_bool _ hl hu0,RcNeAt.list_bool _ hl hu0⟩
  | int b t=>exact⟨RcAt.list_int _ _ hl hu0,RcNeAt.list_int _ _ hl hu0⟩
  | str b t=>exact⟨RcAt.list_str _ _ hl hu0,RcNeAt.list_str _ _ hl hu0⟩
  | @lst es l' its' vs' hl' rv' hi' =>
   have f':cM n ds=true:=by simpa [bB] using f
   have g':cM n es=true:=by simpa [bB] using g
   have l1:=rv.length
   have l2:=rv'.length
   have l3:=hi.length
   have l4:=hi'.length
   by_cases hq:ds.length=es.length
   ·have hsz:its.toArray.size=its'.toArray.size:=by rw[AK,AK];omega
    have key:(Ag its.toArray.size).all (fun j=>deq (ds.getD j .non) (es.getD j .non))=deq (.lst ds) (.lst es):=by
     rw[AK,show its.length=ds.length by omega]
     exact pK ds es hq
    rw[← key]
    exact⟨RcAt.lists hl hl' hsz hu0 (kN hu1 ih f' g' hi hi' rv rv'),RcNeAt.lists hl hl' hsz hu0 (kN hu1 ih f' g' hi hi' rv rv')⟩
   ·have key:deq (.lst ds) (.lst es)=false:=xE ds es hq
    have hsz:(its.toArray.size != its'.toArray.size)=true:=by
     rw[AK,AK,bne_iff_ne];omega
    rw[key]
    exact⟨RcAt.lists_lengths hl hl' hsz hu0,RcNeAt.lists_lengths hl hl' hsz hu0⟩
  | tup hl' _ _=>exact⟨RcAt.list_tuple hl hl' hu0,RcNeAt.list_tuple hl hl' hu0⟩
 | @tup ds l its vs hl rv hi =>
  cases w' with
  | non=>exact⟨RcAt.tuple_none hl hu0,RcNeAt.tuple_none hl hu0⟩
  | bl b=>exact⟨RcAt.tuple_bool _ hl hu0,RcNeAt.tuple_bool _ hl hu0⟩
  | int b t=>exact⟨RcAt.tuple_int _ _ hl hu0,RcNeAt.tuple_int _ _ hl hu0⟩
  | str b t=>exact⟨RcAt.tuple_str _ _ hl hu0,RcNeAt.tuple_str _ _ hl hu0⟩
  | lst hl' _ _=>exact⟨RcAt.tuple_list hl hl' hu0,RcNeAt.tuple_list hl hl' hu0⟩
  | @tup es l' its' vs' hl' rv' hi' =>
   have f':cM n ds=true:=by simpa [bB] using f
   have g':cM n es=true:=by simpa [bB] using g
   have l1:=rv.length
   have l2:=rv'.length
   have l3:=hi.length
   have l4:=hi'.length
   have key:((Ag (min its.toArray.size its'.toArray.size)).all (fun j=>deq (ds.getD j .non) (es.getD j .non)) && its.toArray.size == its'.toArray.size)=deq (.tup ds) (.tup es):=by
    rw[AK,AK,show its.length=ds.length by omega,show its'.length=es.length by omega]
    show _=uH ds es
    by_cases hq:ds.length=es.length
    ·rw[← hq,Nat.min_self,pK ds es hq]
     simp
    ·rw[xE ds es hq,beq_eq_false_iff_ne.mpr hq]
     simp
   rw[← key]
   exact⟨RcAt.tuples hl hl' hu0 (kN hu1 ih f' g' hi hi' rv rv'),RcNeAt.tuples hl hl' hu0 (kN hu1 ih f' g' hi hi' rv rv')⟩
open PySem.SeqAt in
theorem Is.eqAt(I:Inv X pins σ H s):∀ (n:Nat) (d e:Dv) (v v':V) (u u':Value) (A:Around),A.units+n<cLine→bB n d=true→bB n e=true→Is H d v→Is H e v'→bI v u→bI v' u'→EqAt A s u u' (deq d e):=by
 intro n
 induction n with
 | zero =>
  intro d e v v' u u' A hu f g h h' r r'
  cases d with
  | lst _=>simp[bB] at f
  | tup _=>simp[bB] at f
  | dct _ _=>simp[bB] at f
  | non =>
   cases e with
   | lst _=>simp[bB] at g
   | tup _=>simp[bB] at g
   | dct _ _=>simp[bB] at g
   | _=>cases h;cases h';exact kO r r' rfl rfl
  | bl b =>
   cases e with
   | lst _=>simp[bB] at g
   | tup _=>simp[bB] at g
   | dct _ _=>simp[bB] at g
   | _=>cases h;cases h';exact kO r r' rfl rfl
  | int b =>
   cases e with
   | lst _=>simp[bB] at g
   | tup _=>simp[bB] at g
   | dct _ _=>simp[bB] at g
   | _=>cases h;cases h';exact kO r r' rfl rfl
  | str b =>
   cases e with
   | lst _=>simp[bB] at g
   | tup _=>simp[bB] at g
   | dct _ _=>simp[bB] at g
   | _=>cases h;cases h';exact kO r r' rfl rfl
 | succ n ih =>
  intro d e v v' u u' A hu f g h h' r r'
  have rc:=(aMP I ih d e v v' u u' A hu f g h h' r r').1
  have w:=Is.view I f h r
  have w':=Is.view I g h' r'
  have fin:∀ (l l':Addr),u=.ref l→u'=.ref l'→EqAt A s u u' (deq d e):=by
   rintro l l' rfl rfl
   by_cases hq:l=l'
   ·subst hq
    have e1:v=.ref l:=r.inj (show bI (.ref l) (.ref l) from rfl)
    have e2:v'=.ref l:=r'.inj (show bI (.ref l) (.ref l) from rfl)
    subst e1 e2
    have e3:=Is.inj d e _ h h' ⟨_,f⟩ ⟨_,g⟩
    subst e3
    rw[qU _ d f]
    exact EqAt.same _
   ·exact EqAt.of_refs hq rc
  cases w with
  | lst hl _ _ =>
   cases w' with
   | lst hl' _ _=>exact fin _ _ rfl rfl
   | tup hl' _ _=>exact fin _ _ rfl rfl
   | non=>exact EqAt.list_none hl (by omega)
   | bl b=>exact EqAt.list_bool _ hl (by omega)
   | int b t=>exact EqAt.list_int _ _ hl (by omega)
   | str b t=>exact EqAt.list_str _ _ hl (by omega)
  | tup hl _ _ =>
   cases w' with
   | lst hl' _ _=>exact fin _ _ rfl rfl
   | tup hl' _ _=>exact fin _ _ rfl rfl
   | non=>exact EqAt.tuple_none hl (by omega)
   | bl b=>exact EqAt.tuple_bool _ hl (by omega)
   | int b t=>exact EqAt.tuple_int _ _ hl (by omega)
   | str b t=>exact EqAt.tuple_str _ _ hl (by omega)
  | non =>
   cases w' with
   | lst hl' _ _=>exact EqAt.none_list hl' (by omega)
   | tup hl' _ _=>exact EqAt.none_tuple hl' (by omega)
   | _=>cases h;cases h';exact kO r r' rfl rfl
  | bl b =>
   cases w' with
   | lst hl' _ _=>exact EqAt.bool_list _ hl' (by omega)
   | tup hl' _ _=>exact EqAt.bool_tuple _ hl' (by omega)
   | _=>cases h;cases h';exact kO r r' rfl rfl
  | int b t =>
   cases w' with
   | lst hl' _ _=>exact EqAt.int_list _ _ hl' (by omega)
   | tup hl' _ _=>exact EqAt.int_tuple _ _ hl' (by omega)
   | _=>cases h;cases h';exact kO r r' rfl rfl
  | str b t =>
   cases w' with
   | lst hl' _ _=>exact EqAt.str_list _ _ hl' (by omega)
   | tup hl' _ _=>exact EqAt.str_tuple _ _ hl' (by omega)
   | _=>cases h;cases h';exact kO r r' rfl rfl
end
def aXI(neg:Bool):R2:=fun x y H Q=>∃ d e,Is H d x∧Is H e y∧bB 30 d=true∧bB 30 e=true∧Q (.bl (if neg then !deq d e else deq d e)) H
theorem aUZ{X:Cx}(hu:X.A.units+64<cLine):OpR X (BU .Eq) (aXI false):=by
 intro pins s σ H x y v u Q I rx ry h
 obtain⟨d,e,h,h',f,g,q⟩:=h
 exact (aMP (n:=29) I (Is.eqAt I 29) d e x y v u X.A (by omega) f g h h' rx ry).1 _ _ _ _ ⟨.bl _,H,I,rfl,q⟩
theorem aUX{X:Cx}(hu:X.A.units+64<cLine):OpR X (BU .NotEq) (aXI true):=by
 intro pins s σ H x y v u Q I rx ry h
 obtain⟨d,e,h,h',f,g,q⟩:=h
 exact (aMP (n:=29) I (Is.eqAt I 29) d e x y v u X.A (by omega) f g h h' rx ry).2 _ _ _ _ ⟨.bl _,H,I,rfl,q⟩
end L2
namespace L2
open PySem PySem.Spec PyProof.Rows
instance keyMem (k:Key) (l:List Key):Decidable (k∈l):=decidable_of_iff (l.any (fun x=>decide (x=k))=true) (by simp)
noncomputable def eL(key:Nat→Key):Nat→List Key
 | 0=>[]
 | i+1=>if key i∈eL key i then eL key i else eL key i++[key i]
theorem uQ(key:Nat→Key):∀ i,(eL key i).length≤i
 | 0=>AL _
 | i+1=>by
  have ih:=uQ key i
  show (if key i∈eL key i then eL key i else eL key i++[key i]).length≤i+1
  split
  ·omega
  ·rw[AX,Bw];omega
theorem aEG(key:Nat→Key)(k:Key):∀ i,k∈eL key i↔∃ j,j<i∧key j=k
 | 0=>by
  constructor
  ·intro h;cases h
  ·rintro⟨j,h,_⟩;omega
 | i+1=>by
  have ih:=aEG key k i
  show k∈(if key i∈eL key i then eL key i else eL key i++[key i])↔_
  have step:(k∈eL key i∨k=key i)↔∃ j,j<i+1∧key j=k:=by
   rw[ih]
   constructor
   ·rintro (⟨j,h,e⟩ | e)
    ·exact⟨j,by omega,e⟩
    ·exact⟨i,by omega,e.symm⟩
   ·rintro⟨j,h,e⟩
    by_cases hj:j=i
    ·subst hj;exact .inr e.symm
    ·exact .inl ⟨j,by omega,e⟩
  rw[← step]
  split
  ·rename_i h
   constructor
   ·exact .inl
   ·rintro (h' | rfl)
    ·exact h'
    ·exact h
  ·rw[Ar,AS]
theorem zC(key:Nat→Key):∀ n,(eL key n).length=n↔∀ i j,i<j→j<n→key i≠key j
 | 0=>⟨fun _ i j _ h=>absurd h (Nat.not_lt_zero _),fun _=>rfl⟩
 | n+1=>by
  have ih:=zC key n
  have le:=uQ key n
  have mm:=aEG key (key n) n
  show (if key n∈eL key n then eL key n else eL key n++[key n]).length=n+1↔_
  split
  ·rename_i h
   constructor
   ·intro e;omega
   ·intro e
    obtain⟨j,hj,q⟩:=mm.mp h
    exact absurd q (e j n hj (DV n))
  ·rename_i h
   rw[AX,Bw,Nat.add_right_cancel_iff,ih]
   constructor
   ·intro e i j hi hj
    by_cases q:j=n
    ·subst q
     exact fun z=>h (mm.mpr ⟨i,hi,z⟩)
    ·exact e i j hi (by omega)
   ·intro e i j hi hj
    exact e i j hi (by omega)
noncomputable def uI(ks:List Key):List Key:=eL (fun i=>ks.getD i (.inl 0)) ks.length
theorem sG(ks:List Key):(uI ks).length=ks.length↔ks.Nodup:=by
 unfold uI
 rw[zC,CM,Dq]
 constructor
 ·intro h i j hi hj hij
  have:=h i j hij hj
  simpa [AY,hi,hj] using this
 ·intro h i j hij hj
  have hi:i<ks.length:=by omega
  have:=h i j hi hj hij
  simpa [AY,hi,hj] using this
theorem aCE(ks:List Key):(uI ks).length≤ks.length:=uQ _ _
noncomputable def aLA(P:Program)(w:World)(a:Addr)(S:Key→Bool)(n:Nat):HO:=.ext fun h=>h.SetOf (aU P w) a S n
theorem aLA.ok{P:Program}{w:World}{H:Hp}{h:Heap}{a:Addr}{S:Key→Bool}{n:Nat}(x:h.SetOf (aU P w) a S n):bS P w H h a (aLA P w a S n) :=
 ⟨x,let ⟨o,_,_,_,ho,_⟩:=x;⟨o,ho⟩,fun _ _ ⟨o,es,ep,t,ho,r⟩ k=>⟨o,es,ep,t,k o ho,r⟩⟩
theorem aNT{P:Program}{w:World}{k:Key}{v:Value}(h:(aU P w).is k v=true):v.scannable=true:=by
 rcases cQ h with ⟨i,t,rfl,rfl⟩ | ⟨x,t,rfl,rfl⟩ <;> rfl
section
variable{P:Program}{w:World}{A:Around}{R:Result→Shared→Prop}{I:Addr}{fp wr:List Addr}{G:Array Dm→Array Dm→Prop}{n:Nat}{Pv:Nat→Value→Prop}{Stt:Nat→Shared→Prop}
theorem aFR{h:Heap}{a:Addr}{S S':Key→Bool}{n n':Nat}(x:h.SetOf (aU P w) a S n)(e:∀ k,S k=S' k)(q:n=n'):h.SetOf (aU P w) a S' n':=by
 obtain rfl:S=S':=funext e
 subst q
 exact x
theorem aME(W:WalksS P w A.in1 I fp wr G n Pv Stt)(D:Addr)(hD:D∉fp)(key:Nat→Key)(hv:∀ i v,Pv i v→(aU P w).is (key i) v=true)(hb:n+1<scanBound)(fin:∀ s s',Moved (D :: wr) G s s'→s'.heap.SetOf (aU P w) D (fun k=>decide (k∈eL key n)) (eL key n).length→True) :
  ∀ (m i:Nat) (s:Shared),n - i=m→i≤n→Stt i s→s.heap.SetOf (aU P w) D (fun k=>decide (k∈eL key i)) (eL key i).length →
   (∀ s',Moved (D :: wr) G s s'→s'.heap.SetOf (aU P w) D (fun k=>decide (k∈eL key n)) (eL key n).length→R (.ok (.ret .none)) s') →
   codeAny (model P w) A (.builtin "set.update.loop" ⟨[.ref D,.ref I],[]⟩) R s:=by
 have hDw:D∉wr:=fun z=>hD (W.sub _ z)
 have sub:∀ b∈wr,b∈D :: wr:=fun b z=>AJ _ z
 have moved:∀ {s s':Shared} {S:Key→Bool} {c:Nat},Moved wr G s s'→s.heap.SetOf (aU P w) D S c→s'.heap.SetOf (aU P w) D S c:=fun mv ⟨o,es,ep,t,ho,r⟩=>⟨o,es,ep,t,mv.heap D _ hDw ho,r⟩
 intro m
 induction m with
 | zero =>
  intro i s e1 e2 st hS hR
  obtain rfl:i=n:=by omega
  refine By PyProof.Rows.F.entry_set_update_loop ?_
  rw[Bq Cj _]
  show wpAny _ A.in1 (pyNext (.ref I) >>= _) _ _ s
  refine AD (W.done s _ _ st fun s' mv=>?_)
  exact AN (hR s' (mv.mono sub) (moved mv hS))
 | succ m ih =>
  intro i s e1 e2 st hS hR
  have lt:i<n:=by omega
  refine By PyProof.Rows.F.entry_set_update_loop ?_
  rw[Bq Cj _]
  show wpAny _ A.in1 (pyNext (.ref I) >>= _) _ _ s
  refine AD (W.item i s _ _ lt st fun v s' pv st' mv=>?_)
  have hk:=hv i v pv
  have hS1:=moved mv hS
  show wpAny _ A.in1 (holding [v] (setAdd D v) >>= _) _ _ s'
  refine AD (Br ?_)
  unfold setAdd
  refine Br (AD ((aU P w).pyHash (k:=key i) hk ?_))
  have room:(eL key i).length+1<scanBound:=by have:=uQ key i;omega
  refine wpAny_setAddHashed_of (knd:=aU P w) (s:={ s' with toks:=s'.toks+1 }) hk (aNT hk) hS1 room fun h' sb hS2=>?_
  have hS3:h'.SetOf (aU P w) D (fun k=>decide (k∈eL key (i+1))) (eL key (i+1)).length:=by
   refine aFR hS2 (fun k=>?_) ?_
   ·show (decide (k∈eL key i) || decide (k=key i))=decide (k∈if key i∈eL key i then eL key i else eL key i++[key i])
    by_cases z:key i∈eL key i
    ·rw[if_pos z]
     by_cases y:k=key i
     ·subst y;simp[z]
     ·simp[y]
    ·rw[if_neg z]
     simp
   ·show (if decide (key i∈eL key i)=true then (eL key i).length else (eL key i).length+1)=(if key i∈eL key i then eL key i else eL key i++[key i]).length
    by_cases z:key i∈eL key i
    ·rw[if_pos z,if_pos (decide_eq_true z)]
    ·rw[if_neg z,if_neg (by simpa using z)]
     simp
  refine AN ⟨Cb Cj _,ih (i+1) _ (by omega) lt (W.frame _ s' _ _ st' (Cr _) fun b hb o e=>?_) hS3 fun s2 mv2 hS4=>?_⟩
  ·rw[sb.2 b (fun z:b=D=>hD (by rw[← z];exact hb))]
   exact e
  ·refine hR s2 (Moved.trans W.gtrans ((mv.mono sub).then_heap (Cr _) fun b o hb e=>?_) mv2) hS4
   rw[sb.2 b (fun z:b=D=>hb (by rw[z];exact AO))]
   exact e
end
section
variable{P:Program}{w:World}{A:Around}{E:Value→Shared→Prop}{s:Shared}
abbrev wI (led:Bool):Obj:={ cls:=.type "set",dict:=none,data:=.set #[] 0 (.fresh 0 0 led) }
set_option maxHeartbeats 8000000 in
theorem aDI{l:Addr}{its:List Value}{ks:List Key}{Q:Value→Shared→Prop}(hh:A.handled=none)(hl:s.heap.IsList l its.toArray)(hk:∀ i v,its[i]?=some v→(aU P w).is (ks.getD i (.inl 0)) v=true)(hn:its.length=ks.length)(hb:its.length+1<scanBound)
 (h:∀ (h':Heap) (tk:Nat),h'.SetOf (aU P w) s.heap.objs.size (fun k=>decide (k∈uI ks)) (uI ks).length→(∀ b o,s.heap.get? b=some o→h'.get? b=some o)→Q (.ref s.heap.objs.size) { s with heap:=h',toks:=tk }) :
  wpAny (model P w) A (call (.type "set") [.ref l]) Q E s:=by
 obtain⟨c,tl,hmro⟩:=Bv.mro
 have m1:=Bv.made
 have m2:=Bv.sub
 refine Dz (codeAny_of_tree ?_)
 show wpAny _ _ (callAny (.type "set") _) _ _ _
 refine AN ⟨Code.quiet_builtin _ (by decide +kernel),By PySem.F.entry_type_call ?_⟩
 rw[Around.under_plain (weight_type_call_type "set" [.ref l] []) rfl]
 have m3:=Bv.notType
 have m4:=Bv.canCreate
 have m5:=PySem.F.typeCall_set_1 (.ref l)
 repeat (any_goals (first | assumption | wp_step))
 refine Co (code_set_new_1 (.ref l) (E:=E) (Q₁:=fun ob s1=>∃ led:Bool,ob=.ref s.heap.objs.size∧s1={ s with heap:=s.heap.push (wI led) }) fun led=>⟨led,rfl,rfl⟩) fun r s1 hr=>?_
 cases r with
 | error e=>exact hr
 | ok fl =>
  cases fl with
  | ret ob =>
   obtain⟨led,rfl,rfl⟩:=hr
   have hS:(s.heap.push (wI led)).get? s.heap.objs.size=some (wI led):=AZ _ rfl
   have hT:Shared.TypeIs { s with heap:=s.heap.push (wI led) } (.ref s.heap.objs.size) "set":=⟨_,hS,rfl⟩
   have m6:=Bv.init.lookup
   have m7:=Bv.init.bind (.ref s.heap.objs.size)
   repeat (any_goals (first | assumption | wp_step))
   refine Co (Ev (R:=wants (fun r s2=>r=.none∧∃ h' tk,s2={ s with heap:=h',toks:=tk }∧h'.SetOf (aU P w) s.heap.objs.size (fun k=>decide (k∈uI ks)) (uI ks).length∧(∀ b o,s.heap.get? b=some o→h'.get? b=some o)) E)
    Bv.init.plain PySem.F.entry_set_init (check_set_init_1 hT ?_)) fun r2 s2 hr2=>?_
   ·obtain⟨⟨oc,od,oda,osl⟩,hol,hcl,nl,hdl⟩:=hl
    simp only at hcl hdl
    subst hcl hdl
    have hol1:(s.heap.push (wI led)).get? l=some { cls:=.type "list",dict:=od,data:=.seq its.toArray nl,slots:=osl }:=AF _ hol
    have m8:=PySem.F.sub_list_set
    have m9:=PySem.F.sub_list_frozenset
    have m10:(Ce "list" == Ce "dict")=false:=by decide
    have hl1:(s.heap.push (wI led)).IsList l its.toArray:=⟨_,hol1,rfl,nl,rfl⟩
    have lS:l<s.heap.objs.size:=AW hol
    unfold Builtin.«set.__init__» noKeywords Builtin.Frozenset.updateFrom
    generalize hPI:pyIter=PI
    wp_walk
    subst hPI
    refine Ct hl1 (AD (wpAny_runValue ?_))
    have hh3:A.in1.in1.in1.handled=none:=by simp[hh]
    have nI:l≠(s.heap.push (wI led)).objs.size:=by rw[DJ];exact Ad (Dw lS)
    have nS:s.heap.objs.size∉[(s.heap.push (wI led)).objs.size,l]:=by
     rw[DJ]
     simp only[Ac,AS,Bg,or_false,not_or]
     exact⟨Ad (DV _),Dk lS⟩
    have sz:its.toArray.size=ks.length:=by rw[AK,hn]
    refine aME ((El hh3 _ l nI its.toArray).toS) s.heap.objs.size nS (fun i=>ks.getD i (.inl 0)) (fun i v pv=>hk i v (by simpa using pv)) (by rw[AK];exact hb) (fun _ _ _ _=>trivial) (its.toArray.size - 0) 0 _ (by omega) (BN _)
     ⟨⟨_,AZ _ rfl,rfl,rfl⟩,(hl1.push _)⟩ ?_ ?_
    ·have g:((s.heap.push (wI led)).push { cls:=.type "list_iterator",data:=.fields #[.ref l,.int 0 0] }).get? s.heap.objs.size=some (wI led):=AF _ hS
     exact⟨_,#[],0,_,g,⟨rfl,rfl,rfl⟩,rfl,fun e he=>by simp at he,fun k=>by simp[eL],by decide,by rfl,rfl⟩
    ·intro s3 mv hS3
     obtain⟨h3,g3,d3,t3,o3⟩:=s3
     have e1:g3=s.gens:=mv.gens
     have e2:d3=s.drawn:=mv.drawn
     have e3:o3=s.os:=mv.os
     subst e1 e2 e3
     rw[sz] at hS3
     show wpAny _ _ _ _ _ _
     refine AN ?_
     show wpAny _ _ (ret Bj) _ _ _
     refine AN ⟨rfl,h3,t3,rfl,hS3,fun b o e=>?_⟩
     have lb:=AW e
     have b1:b≠s.heap.objs.size:=Ad lb
     have b2:b≠(s.heap.push (wI led)).objs.size:=by rw[DJ];exact Ad (Dw lb)
     exact mv.heap b o (by simp only[Ac,AS,Bg,or_false,not_or];exact⟨b1,b2⟩) (AF _ (AF _ e))
   ·cases r2 with
    | error e=>exact hr2
    | ok f2 =>
     cases f2 with
     | ret r =>
      obtain⟨rfl,h',tk,rfl,hS2,hk2⟩:=hr2
      repeat (any_goals (first | assumption | wp_step))
      exact h _ _ hS2 hk2
     | _=>exact hr2.elim
  | _=>exact hr.elim
end
section
variable{X:Cx}
theorem aIO{P:Program}{w:World}:∀ {ks:List Key} {us:List Value},bD (ks.map kV) us→∀ i v,us[i]?=some v→(aU P w).is (ks.getD i (.inl 0)) v=true
 | [],us,r,i,v,e=>by
  rw[Cg] at r
  cases r
  simp at e
 | k :: ks,us,r,i,v,e=>by
  rw[AU] at r
  cases r with
  | cons r1 r2 =>
   cases i with
   | zero =>
    simp at e
    subst e
    cases k with
    | inl z=>obtain⟨t,rfl⟩:=r1;exact rX z t
    | inr z=>obtain⟨t,rfl⟩:=r1;exact rW z t
   | succ i =>
    have:=aIO (P:=P) (w:=w) r2 i v (by simpa using e)
    simpa using this
theorem jJ(hc:X.calm=true):eP X (.type "set") (fun xs H Q=>∃ (p:Addr) (ks:List Key),xs=[.ref p]∧SqL X.K H p (ks.map kV)∧ks.length≤1000 ∧
  ∀ l,H l=none→Q (.ref l) (upd H l (aLA X.prog X.w l (fun k=>decide (k∈uI ks)) (uI ks).length))):=by
 intro pins s σ H xs us Q I r h
 obtain⟨p,ks,rfl,hq,hn,q⟩:=h
 obtain⟨u,rfl,ru⟩:=bD.one r
 cases ru
 obtain⟨its,rv,pl,hz⟩:=I.list hq
 have hlen:=rv.length
 rw[AA] at hlen
 refine aDI (ks:=ks) (I.ok.hd hc) pl.isList (aIO rv) hlen.symm (by unfold scanBound;omega) fun h' tk hS hk=>?_
 exact⟨.ref s.heap.objs.size,_,I.laid (t':=tk) hk (AL _) (aLA.ok hS),rfl,q _ (I.hok.fresh (AL _))⟩
theorem call_len_set:eP X (.builtin "len") (fun xs H Q=>∃ l S n,xs=[.ref l]∧H l=some (aLA X.prog X.w l S n)∧n≤1000∧Q (.int n) H):=by
 intro pins s σ H xs us Q I r h
 obtain⟨l,S,n,rfl,e,hn,q⟩:=h
 obtain⟨u,rfl,ru⟩:=bD.one r
 cases ru
 obtain⟨⟨o,es,ep,t,ho,hex,hd,hel,hmem,hb,hf,hes⟩,_⟩:=I.hok l _ e
 refine PySem.call_len_set ho hex hd hf (by rw[hes];omega) ⟨.int n,H,I.tok _,⟨s.toks+1,by rw[hes]⟩,q⟩
end
end L2
namespace L2
open PySem PySem.Spec PyProof.Rows
section
variable{X:Cx}
theorem zJ{k:Key}{v:Value}(h:wP k v=true):bI (kV k) v:=by
 rcases cQ h with ⟨i,t,rfl,rfl⟩ | ⟨x,t,rfl,rfl⟩
 ·exact⟨t,rfl⟩
 ·exact⟨t,rfl⟩
theorem uL:∀ {xs:List V} {us:List Value},us.length=xs.length→(∀ (j:Nat) (u:Value) (x:V),us[j]?=some u→xs[j]?=some x→bI x u)→bD xs us
 | [],[],_,_=>.nil
 | x :: xs,u :: us,hl,h=>.cons (h 0 u x rfl rfl) (uL (by simpa using hl) fun j v y e1 e2=>h (j+1) v y (by simpa using e1) (by simpa using e2))
 | [],_ :: _,hl,_=>by simp at hl
 | _ :: _,[],hl,_=>by simp at hl
theorem KV.get:∀ {kvs:List (Key×V)} {vs:List (Key×Value)} {i:Nat} {p:Key×Value},KV kvs vs→vs[i]?=some p→∃ q,kvs[i]?=some q∧q.1=p.1∧bI q.2 p.2
 | _,_,_,_,.nil,e=>by simp at e
 | _,_,0,_,.cons r _,e=>by simp at e;subst e;exact⟨_,rfl,r.1,r.2⟩
 | _,_,i+1,p,.cons _ t,e=>by
  obtain⟨q,h1,h2⟩:=KV.get (i:=i) (p:=p) t (by simpa using e)
  exact⟨q,by simpa using h1,h2⟩
theorem gE(hc:X.calm=true):eP X (.type "list") (fun xs H Q=>∃ p kvs,xs=[.ref p]∧Rd H p (.dK kvs)∧∀ l,H l=none→Q (.ref l) (upd H l (.lst (kvs.map fun kv=>kV kv.1)))):=by
 intro pins s σ H xs us Q I r h
 obtain⟨p,kvs,rfl,hq,q⟩:=h
 obtain⟨u,rfl,ru⟩:=bD.one r
 cases ru
 obtain⟨hz,lo,vs,kv,hD⟩:=hq.ok I.hok
 obtain⟨ep,hat⟩:=hD.dictAt
 have hl:=KV.length kv
 refine PySem.W.kdl_call (PySem.W.kdl_dict (knd:=aU X.prog X.w) (kvs:=vs) (ep:=ep) lo) (I.ok.hd hc) hat (by omega) fun h' tk acc c hk hg hi=>?_
 refine⟨.ref s.heap.objs.size,_,I.laid (t':=tk) hk (AL _) (show bS X.prog X.w _ h' _ (.lst (kvs.map fun kv=>kV kv.1)) from⟨by rw[AA];exact hz,acc.toList,c,?_,by simpa using hg⟩),rfl,q _ (I.hok.fresh (AL _))⟩
 refine uL (by rw[AA,Bc,hi.1,hl]) fun j u x e1 e2=>?_
 obtain⟨k,y,e3,e4⟩:=hi.2 j u (by rw[← CN];exact e1)
 obtain⟨z,e5,e6,_⟩:=KV.get kv e3
 rw[AH,e5] at e2
 have e2':kV z.1=x:=by simpa using e2
 subst e2'
 rw[show z.1=k from e6]
 exact zJ e4
noncomputable def aFE(v d:Addr):HO:=.ext fun h=>h.IsValuesView v d
theorem aFE.ok{P:Program}{w:World}{H:Hp}{h:Heap}{v d:Addr}(x:h.IsValuesView v d):bS P w H h v (aFE v d) :=
 ⟨x,let ⟨o,ho,_⟩:=x;⟨o,ho⟩,fun _ _ ⟨o,ho,r⟩ k=>⟨o,k o ho,r⟩⟩
theorem aKG:MtR X "dict.values" (fun x vs H Q=>∃ d kvs,x=.ref d∧vs=[]∧Rd H d (.dK kvs)∧∀ v,H v=none→Q (.ref v) (upd H v (aFE v d))):=by
 intro pins s σ H x vs v us Q I rx rv h
 obtain⟨d,kvs,rfl,rfl,hq,q⟩:=h
 cases rx
 have hus:=rv.zero
 subst hus
 obtain⟨hz,lo,ws,kv,hD⟩:=hq.ok I.hok
 refine call_meetsIn PySem.F.slot_dict_values hD.typeIs PySem.F.entry_dict_values (PySem.F.args_dict_values_1 _) (meets_dict_values (aU X.prog X.w) d lo) ⟨⟨ws,hD⟩,?_⟩
 exact⟨.ref s.heap.objs.size,_,I.laid (t':=s.toks) (fun b ob e=>AF _ e) (AL _) (aFE.ok ⟨_,AZ _ rfl,rfl,rfl⟩),rfl,q _ (I.hok.fresh (AL _))⟩
theorem sJ(hc:X.calm=true):eP X (.type "list") (fun xs H Q=>∃ v d kvs,xs=[.ref v]∧H v=some (aFE v d)∧Rd H d (.dK kvs)∧∀ l,H l=none→Q (.ref l) (upd H l (.lst (kvs.map (·.2))))):=by
 intro pins s σ H xs us Q I r h
 obtain⟨v,d,kvs,rfl,ev,hq,q⟩:=h
 obtain⟨u,rfl,ru⟩:=bD.one r
 cases ru
 obtain⟨hz,lo,vs,kv,hD⟩:=hq.ok I.hok
 obtain⟨hv,_⟩:=I.hok v _ ev
 obtain⟨ep,hat⟩:=hD.dictAt
 have hl:=KV.length kv
 refine PySem.W.kdl_call (PySem.W.kdl_values (knd:=aU X.prog X.w) (kvs:=vs) (ep:=ep)) (I.ok.hd hc) ⟨hv,hat⟩ (by omega) fun h' tk acc c hk hg hi=>?_
 refine⟨.ref s.heap.objs.size,_,I.laid (t':=tk) hk (AL _) (show bS X.prog X.w _ h' _ (.lst (kvs.map (·.2))) from⟨by rw[AA];exact hz,acc.toList,c,?_,by simpa using hg⟩),rfl,q _ (I.hok.fresh (AL _))⟩
 refine uL (by rw[AA,Bc,hi.1,hl]) fun j u x e1 e2=>?_
 obtain⟨k,e3⟩:=hi.2 j u (by rw[← CN];exact e1)
 obtain⟨z,e5,_,e6⟩:=KV.get kv e3
 rw[AH,e5] at e2
 have e2':z.2=x:=by simpa using e2
 subst e2'
 exact e6
end
section
variable{X:Cx}{e se:Expr}{te ts:TE}{p2 pos:Pos}
end
end L2
namespace L2
open PySem PySem.Spec PyProof.Rows
theorem wJ:typeLookup (.type "list") "keys"=pure none:=by rw[typeLookup_type,builtinLookup_eq_fast];kernel_rfl
section
variable{P:Program}{w:World}{A:Around}{E:Value→Shared→Prop}{s:Shared}
theorem qN{a:Addr}{xs:Array Value}{k:Nat}{sl:Array (Option Value)}{Q:Option Value→Shared→Prop}(hA:A.handled=none)(hx:s.heap.get? a=some { cls:=.type "list",dict:=none,data:=.seq xs k,slots:=sl })
 (h:∀ h' tk,(∀ b o,s.heap.get? b=some o→h'.get? b=some o)→Q none { s with heap:=h',toks:=tk }):wpAny (model P w) A (getAttr? (.ref a) "keys") Q E s:=by
 obtain⟨hp,g,d,tk,os⟩:=s
 have hT:∀ tk',(⟨hp,g,d,tk',os⟩:Shared).TypeIs (.ref a) "list":=fun _=>⟨_,hx,rfl⟩
 have f1:=sub_AttributeError
 have f3:=EH.lookup
 have f4:=EH.bind (.ref a)
 have f5:=am_list_getattr_none
 unfold getAttr? getAttrBy? getAttrBy
 repeat (any_goals (first | assumption | exact hT _ | ((with_reducible show wpAny _ _ (call (Value.builtin "list.__getattribute__") _ _) _ _ _);refine FN EH (hT _) am_entry_list_getattribute (F.args_list_getattribute_2 _ _) (meets_getattribute_miss_list a xs k sl "keys" _ wJ (by decide +kernel)) ⟨hx,hA,fun h' tk' e hx'=>?_⟩) | wp_step))
 obtain⟨t',u',he⟩:=hx'.there
 show wpAny _ _ (getattributeRaised _ _ _ _ _ _ _) _ _ _
 unfold getattributeRaised
 repeat (any_goals (first | assumption | wp_step))
 exact h _ _ hx'.keeps
end
theorem fU:entryFor table "dict.update.loop"=some Builtin.«dict.update.loop»:=entryFor_of_tree (by kernel_rfl)
theorem cP:plainId "dict.update.loop"=true:=by decide +kernel
section
variable{P:Program}{w:World}{A:Around}{R:Result→Shared→Prop}{I:Addr}{fp wr:List Addr}{G:Array Dm→Array Dm→Prop}{n:Nat}{Pv:Nat→Value→Prop}{Stt:Nat→Shared→Prop}
theorem aKS(W:WalksS P w A.in1 I fp wr G n Pv Stt)(D:Addr)(hD:D∉fp)(res:Value)(kvs:List (Key×Value))(hn:kvs.length=n)(hz:n≤Am)(s₀:Shared)
 (hv:∀ (i:Nat) (v:Value),Pv i v→∃ (a:Addr) (k:Key) (kv x:Value) (ob:Obj) (c:Nat),v=.ref a∧a∉D :: wr∧s₀.heap.get? a=some ob∧ob.cls=.type "tuple"∧ob.data=.seq #[kv,x] c∧kvs[i]?=some (k,x)∧(aU P w).is k kv=true) :
  ∀ (m i:Nat) (s:Shared),n - i=m→i≤n→Stt i s→(∀ b o,b∉D :: wr→s₀.heap.get? b=some o→s.heap.get? b=some o)→s.heap.DictOf (aU P w) D (merged [] (kvs.take i)) →
   (∀ s',Moved (D :: wr) G s s'→s'.heap.DictOf (aU P w) D (merged [] kvs)→R (.ok (.ret res)) s') →
   codeAny (model P w) A (.builtin "dict.update.loop" ⟨[.ref D,.ref I,rawInt i,res],[]⟩) R s:=by
 have hDw:D∉wr:=fun z=>hD (W.sub _ z)
 have sub:∀ b∈wr,b∈D :: wr:=fun b z=>AJ _ z
 have moved:∀ {s s':Shared} {l:List (Key×Value)},Moved wr G s s'→s.heap.DictOf (aU P w) D l→s'.heap.DictOf (aU P w) D l:=fun mv ⟨o,es,ep,ho,r⟩=>⟨o,es,ep,mv.heap D _ hDw ho,r⟩
 intro m
 induction m with
 | zero =>
  intro i s e1 e2 st kp hS hR
  obtain rfl:i=n:=by omega
  rw[AG (by omega)] at hS
  refine By fU ?_
  rw[Bq cP _]
  show wpAny _ A.in1 (pyNext (.ref I) >>= _) _ _ s
  refine AD (W.done s _ _ st fun s' mv=>?_)
  show wpAny _ A.in1 (Builtin.Dict.addKeywords D [] >>= _) _ _ s'
  refine AD (AN ?_)
  exact AN (hR s' (mv.mono sub) (moved mv hS))
 | succ m ih =>
  intro i s e1 e2 st kp hS hR
  have lt:i<n:=by omega
  refine By fU ?_
  rw[Bq cP _]
  show wpAny _ A.in1 (pyNext (.ref I) >>= _) _ _ s
  refine AD (W.item i s _ _ lt st fun v s' pv st' mv=>?_)
  obtain⟨a,k,kv,x,ob,c,rfl,ha,hg,hc,hd,hi,hk⟩:=hv i v pv
  have hS1:=moved mv hS
  have hg1:s'.heap.get? a=some ob:=mv.heap a ob (fun z=>ha (sub a z)) (kp a ob ha hg)
  have hT:s'.TypeIs (.ref a) "tuple":=⟨ob,hg1,hc⟩
  refine AD (Br (AD (wpAny_tryCatch ?_)))
  unfold Builtin.Dict.pairItems
  refine AD (Ed hT ?_)
  rw[if_pos (by decide)]
  refine AD (Fd hg1 hd (AN ?_))
  show wpAny _ _ (holding [kv,x] (dictSet D kv x)) _ _ s'
  refine Br (wpAny_dictSet_pairs hk hS1 (fun h' hS2 sb=>?_) ?_)
  ·have e:merged [] (kvs.take (i+1))=stored (merged [] (kvs.take i)) k x:=merged_take_succ [] kvs i (k,x) hi
   rw[← e] at hS2
   refine AN ⟨Cb cP _,ih (i+1) _ (by omega) lt (W.frame _ s' _ _ st' (Cr _) fun b hb o e=>?_) (fun b o hb e=>?_) hS2 fun s2 mv2 hS4=>?_⟩
   ·rw[sb.2 b (fun z:b=D=>hD (by rw[← z];exact hb))]
    exact e
   ·rw[sb.2 b (fun z:b=D=>hb (by rw[z];exact AO))]
    exact mv.heap b o (fun z=>hb (sub b z)) (kp b o hb e)
   ·refine hR s2 (Moved.trans W.gtrans ((mv.mono sub).then_heap (Cr _) fun b o hb e=>?_) mv2) hS4
    rw[sb.2 b (fun z:b=D=>hb (by rw[z];exact AO))]
    exact e
  ·have:=merged_length_le ([]:List (Key×Value)) (kvs.take i)
   rw[AR] at this
   simp only[ER] at this
   omega
end
section
variable{P:Program}{w:World}{A:Around}{E:Value→Shared→Prop}{s:Shared}
theorem yC{l:Addr}{its:List Value}{kvs:List (Key×Value)}{Q:Value→Shared→Prop}(hh:A.handled=none)(hl:PlainL s.heap l its.toArray)(hn:its.length=kvs.length)(hz:its.length≤Am)
 (hv:∀ (i:Nat) (v:Value),its[i]?=some v→∃ (a:Addr) (k:Key) (kv x:Value) (ob:Obj) (c:Nat),v=.ref a∧s.heap.get? a=some ob∧ob.cls=.type "tuple"∧ob.data=.seq #[kv,x] c∧kvs[i]?=some (k,x)∧(aU P w).is k kv=true)
 (h:∀ (h':Heap) (tk:Nat),h'.DictOf (aU P w) s.heap.objs.size (merged [] kvs)→(∀ b o,s.heap.get? b=some o→h'.get? b=some o)→Q (.ref s.heap.objs.size) { s with heap:=h',toks:=tk }) :
  wpAny (model P w) A (call (.type "dict") [.ref l]) Q E s:=by
 refine Fe (Q₁:=fun (obj:Value) (s₁:Shared)=>obj=Al s.heap.objs.size∧s₁={ s with heap:=s.heap.push { cls:=.type "dict",data:=.dict #[] } }) F.kt_called_dict (F.kt_typeCall_dict_1 _) F.entry_dict_init (kt_code_dict_new _ ⟨rfl,rfl⟩) ?_
 rintro obj s₁ ⟨rfl,rfl⟩
 have hnew:(s.heap.push { cls:=.type "dict",data:=.dict #[] }).DictOf (aU P w) s.heap.objs.size []:=Heap.DictOf.new s.heap
 obtain⟨⟨oc,od,oda,osl⟩,nl,hol,hcl,hod,hdl⟩:=id hl
 simp only at hcl hod hdl
 subst hcl hod hdl
 have lS:l<s.heap.objs.size:=AW hol
 have hol1:=AF (h:=s.heap) { cls:=.type "dict",data:=.dict #[] } hol
 refine⟨hnew.typeIs,F.args_dict_init_2 _ _,?_⟩
 unfold Builtin.«dict.__init__»
 refine AD ?_
 unfold Builtin.Dict.selfAndRest
 refine AD (Ek hnew.typeIs ?_)
 show wpAny _ _ (pure (s.heap.objs.size,[Al l])) _ _ _
 refine AN ?_
 show wpAny _ _ (Cs "dict.__init__" s.heap.objs.size (.ref l) [] .none) _ _ _
 unfold Cs
 refine AD (Ed (T:="list") ⟨_,hol1,rfl⟩ ?_)
 rw[if_pos (by decide)]
 refine AD (qN (by simp[hh]) hol1 fun h1 t1 k1=>?_)
 show wpAny _ _ (rule _ >>= _) _ _ _
 refine AD (FL ?_)
 have hol2:=k1 _ _ hol1
 have hl2:h1.IsList l its.toArray:=⟨_,hol2,rfl,nl,rfl⟩
 refine AD (Ct (s:={ s with heap:=h1,toks:=t1 }) hl2 ?_)
 have sz1:s.heap.objs.size<h1.objs.size:=by
  obtain⟨o,es,ep,ho,_⟩:=hnew
  exact AW (k1 _ _ ho)
 have nI:l≠h1.objs.size:=Ad (AW hol2)
 have nD:s.heap.objs.size∉[h1.objs.size,l]:=by
  simp only[Ac,AS,Bg,or_false,not_or]
  exact⟨Ad sz1,Dk lS⟩
 refine AN ⟨Cb cP _,?_⟩
 have hh2:A.in1.in1.handled=none:=by simp[hh]
 refine aKS ((El hh2 _ l nI its.toArray).toS) s.heap.objs.size nD .none kvs (by rw[AK,hn]) (by rw[AK];exact hz) { s with heap:=h1.push { cls:=.type "list_iterator",data:=.fields #[.ref l,.int 0 0] },toks:=t1 } (fun i v pv=>?_) (its.toArray.size - 0) 0 _ (by omega) (BN _)
  ⟨⟨_,AZ _ rfl,rfl,rfl⟩,(hl2.push _)⟩ (fun _ _ _ e=>e) ?_ ?_
 ·obtain⟨a,k,kv,x,ob,c,rfl,hg,hc,hd,hi,hk⟩:=hv i v (by simpa using pv)
  have la:=AW hg
  refine⟨a,k,kv,x,ob,c,rfl,?_,AF _ (k1 _ _ (AF _ hg)),hc,hd,hi,hk⟩
  simp only[Ac,AS,Bg,or_false,not_or]
  exact⟨Ad la,Ad (Dl la sz1)⟩
 ·obtain⟨o,es,ep,ho,r⟩:=hnew
  exact⟨o,es,ep,AF _ (k1 _ _ ho),r⟩
 ·intro s3 mv hS3
  obtain⟨h3,g3,d3,t3,o3⟩:=s3
  have e1:g3=s.gens:=mv.gens
  have e2:d3=s.drawn:=mv.drawn
  have e3:o3=s.os:=mv.os
  subst e1 e2 e3
  refine⟨rfl,h h3 t3 hS3 fun b o e=>?_⟩
  have lb:=AW e
  refine mv.heap b o ?_ (AF _ (k1 _ _ (AF _ e)))
  simp only[Ac,AS,Bg,or_false,not_or]
  exact⟨Ad lb,Ad (Dl lb sz1)⟩
end
def bQ(H:Hp)(ys:List V)(kvs:List (Key×V)):Prop:=Paired (fun (y:V) (kv:Key×V)=>∃ a,y=.ref a∧H a=some (.tup [kV kv.1,kv.2])) ys kvs
theorem bQ.nil(H:Hp):bQ H [] []:=CL
theorem bQ.len{H:Hp}{ys:List V}{kvs:List (Key×V)}(h:bQ H ys kvs):ys.length=kvs.length:=Ci h
theorem bQ.same{H H':Hp}(S:aH H H'):∀ {ys:List V} {kvs:List (Key×V)},bQ H ys kvs→bQ H' ys kvs
 | _,_,CL=>CL
 | _,_,Cc ⟨a,e,o⟩ t=>Cc ⟨a,e,S _ _ o⟩ (bQ.same S t)
theorem bQ.snoc{H:Hp}{ys:List V}{kvs:List (Key×V)}{p:Addr}{k:Key}{v:V}(h:bQ H ys kvs)(hp:H p=none):bQ (upd H p (.tup [kV k,v])) (ys++[.ref p]) (kvs++[(k,v)]) :=
 Dp (h.same (aH.upd hp)) ⟨p,rfl,aC⟩
section
variable{X:Cx}
theorem aQN{P:Program}{w:World}{k:Key}{u:Value}(r:bI (kV k) u):(aU P w).is k u=true:=by
 cases k with
 | inl z=>obtain⟨t,rfl⟩:=r;exact rX z t
 | inr z=>obtain⟨t,rfl⟩:=r;exact rW z t
theorem qJ{pins:List (Addr×Obj)}{σ:St}{H:Hp}{s:Shared}(I:Inv X pins σ H s):∀ {ys:List V} {kvs:List (Key×V)} {its:List Value},bQ H ys kvs→bD ys its →
  ∃ vk:List (Key×Value),KV kvs vk∧its.length=vk.length∧∀ (i:Nat) (v:Value),its[i]?=some v→∃ (a:Addr) (k:Key) (kv x:Value) (ob:Obj) (c:Nat),v=.ref a∧s.heap.get? a=some ob∧ob.cls=.type "tuple"∧ob.data=.seq #[kv,x] c∧vk[i]?=some (k,x)∧(aU X.prog X.w).is k kv=true
 | _,_,_,CL,CL=>⟨[],CL,rfl,fun i v e=>by simp at e⟩
 | _,(k,v0) :: kvs,u :: its,Cc ⟨a,e,o⟩ t,Cc r rs=>by
  obtain⟨vk,h1,h2,h3⟩:=qJ I t rs
  subst e
  cases r
  obtain⟨tis,rt,⟨ob,g,hc,c,hd⟩,_⟩:=I.tuple (SqT.of o)
  obtain⟨ku,xu,rfl,rk,rx⟩:=bD.two rt
  refine⟨(k,xu) :: vk,Cc ⟨rfl,rx⟩ h1,by simp[h2],fun i v e=>?_⟩
  cases i with
  | zero =>
   simp at e
   subst e
   exact⟨a,k,ku,xu,ob,c,rfl,g,hc,hd,rfl,aQN rk⟩
  | succ i =>
   obtain⟨a',k',kv',x',ob',c',q⟩:=h3 i v (by simpa using e)
   exact⟨a',k',kv',x',ob',c',by simpa using q⟩
theorem dL(hc:X.calm=true):eP X (.type "dict") (fun xs H Q=>∃ (p:Addr) (ys:List V) (kvs:List (Key×V)),xs=[.ref p]∧SqL X.K H p ys∧bQ H ys kvs∧kvs.length≤1000∧(kvs.map (·.1)).Nodup∧∀ l,H l=none→Q (.ref l) (upd H l (.dK kvs))):=by
 intro pins s σ H xs us Q I r h
 obtain⟨p,ys,kvs,rfl,hq,hp,hn,nd,q⟩:=h
 obtain⟨u,rfl,ru⟩:=bD.one r
 cases ru
 obtain⟨its,rv,pl,hz⟩:=I.list hq
 obtain⟨vk,kv,el,hv⟩:=qJ I hp rv
 have big:(1000:Nat)≤Am:=by decide
 have l1:=KV.length kv
 have ek:vk.map (·.1)=kvs.map (·.1):=(KV.keys kv).symm
 refine yC (kvs:=vk) (I.ok.hd hc) pl el (by omega) hv fun h' tk hD hk=>?_
 rw[merged_nil_of_nodup vk (by rw[ek];exact nd)] at hD
 refine⟨.ref s.heap.objs.size,_,I.laid (t':=tk) hk (AL _) (show bS X.prog X.w _ h' _ (.dK kvs) from⟨by omega,?_,vk,kv,hD⟩),rfl,q _ (I.hok.fresh (AL _))⟩
 have b:=I.big
 exact beq_eq_false_iff_ne.mpr (Dk b)
end
end L2
namespace L2
open PySem PySem.Spec PyProof.Rows
structure MethAt (K:AE) (C:Addr) (m qual:Str) (st:Stmt) (ps:List Str):Prop where
 ex:∃ (f:Addr) (fd:Ba),Fun K m qual st f fd∧gG K fd ps []∧Meth K C m f
structure InitAt (K:AE) (C:Addr) (qual:Str) (st:Stmt) (ps:List Str):Prop where
 ex:∃ (f:Addr) (fd:Ba),Fun K "__init__" qual st f fd∧gG K fd ps []∧Mk K C f
structure Mc (P:Program) (w:World) (K:AE) (mg:Str→Option Value) (base:Heap) (k:Nat) (C:Addr) (m:Str) (ps:List Str) (sp:Sp):Prop where
 ex:∃ (f:Addr) (fd:Ba),FnOk P w K mg base CX0 k f fd ps sp∧gG K fd ps []∧Meth K C m f
structure Ic (P:Program) (w:World) (K:AE) (mg:Str→Option Value) (base:Heap) (k:Nat) (C:Addr) (ps:List Str) (sp:Sp):Prop where
 ex:∃ (f:Addr) (fd:Ba),FnOk P w K mg base CX0 k f fd ps sp∧gG K fd ps []∧Mk K C f
section
variable{P:Program}{w:World}{K:AE}{mg:Str→Option Value}{base:Heap}{C:Addr}{m qual:Str}{st:Stmt}{N ps:List Str}{k:Nat}{sp:Sp}
theorem MethAt.mc(D:MethAt K C m qual st ps)(S:FnScope N ps (aF st))(len:∀ vs H Q E,sp vs H Q E→vs.length=ps.length)
 (hbody:∀ (f:Addr) (cdv:Value) (A:Around) (outer:List Env) (s:Shared) (H:Hp) (vs:List V) (Q:VK) (E:XK),Room k (A.deeper (envOfC qual (aF st) s.heap.objs.size f cdv))→sp vs H Q E →
   ∃ t,PSs (gZ CX0 P w K mg base N qual (aF st) f cdv A outer s H E).nox (cV st) t∧t { nx:=fun _ H'=>Q .non H',rt:=Q } (start N vs) H):Mc P w K mg base (k+1) C m ps sp:=by
 obtain⟨f,fd,F,b,mm⟩:=D.ex
 exact⟨f,fd,F.ok S len fun cdv A outer s H vs Q E hr h=>hbody f cdv A outer s H vs Q E hr h,b,mm⟩
theorem InitAt.ic(D:InitAt K C qual st ps)(S:FnScope N ps (aF st))(len:∀ vs H Q E,sp vs H Q E→vs.length=ps.length)
 (hbody:∀ (f:Addr) (cdv:Value) (A:Around) (outer:List Env) (s:Shared) (H:Hp) (vs:List V) (Q:VK) (E:XK),Room k (A.deeper (envOfC qual (aF st) s.heap.objs.size f cdv))→sp vs H Q E →
   ∃ t,PSs (gZ CX0 P w K mg base N qual (aF st) f cdv A outer s H E).nox (cV st) t∧t { nx:=fun _ H'=>Q .non H',rt:=Q } (start N vs) H):Ic P w K mg base (k+1) C ps sp:=by
 obtain⟨f,fd,F,b,mm⟩:=D.ex
 exact⟨f,fd,F.ok S len fun cdv A outer s H vs Q E hr h=>hbody f cdv A outer s H vs Q E hr h,b,mm⟩
theorem Mc.imp{sp':Sp}(F:Mc P w K mg base k C m ps sp)(h:∀ vs H Q E,sp' vs H Q E→sp vs H Q E):Mc P w K mg base k C m ps sp':=by
 obtain⟨f,fd,G,b,mm⟩:=F.ex
 exact⟨f,fd,G.imp h,b,mm⟩
theorem meth_mk{f:Addr}{oc:Value}{od an:Option Addr}{osl:Array (Option Value)}{kV doc pm cdv ct:Value}(a:BQ K (.ref C) m=some (some (.ref f)))(i:EB K (.ref f)=true)
 (l:K.lookup f=some ⟨oc,od,.func (Bx m qual (gQ st) (cV st) (aF st) .none kV doc pm an cdv ct),osl⟩)(c:DA K cdv qual=true)(kp:Bs K (.ref f)=true)
 (hb:∀ (kV doc pm:Value) (an:Option Addr) (cdv ct:Value) (us:List Value),us.length=ps.length→Ew (Bx m qual (gQ st) (cV st) (aF st) .none kV doc pm an cdv ct) ⟨us,[]⟩=pure (ps.zip us)):MethAt K C m qual st ps :=
 ⟨f,_,sC l c kp,(sC l c kp).binds hb,⟨a,i,kp⟩⟩
theorem init_mk{f:Addr}{oc:Value}{od an:Option Addr}{osl:Array (Option Value)}{kV doc pm cdv ct:Value}(a:BQ K (.ref C) "__init__"=some (some (.ref f)))(i:EB K (.ref f)=true)
 (l:K.lookup f=some ⟨oc,od,.func (Bx "__init__" qual (gQ st) (cV st) (aF st) .none kV doc pm an cdv ct),osl⟩)(c:DA K cdv qual=true)(kp:Bs K (.ref f)=true)
 (mk:FF K C=true)(kc:Bs K (.ref C)=true)
 (hb:∀ (kV doc pm:Value) (an:Option Addr) (cdv ct:Value) (us:List Value),us.length=ps.length→Ew (Bx "__init__" qual (gQ st) (cV st) (aF st) .none kV doc pm an cdv ct) ⟨us,[]⟩=pure (ps.zip us)):InitAt K C qual st ps :=
 ⟨f,_,sC l c kp,(sC l c kp).binds hb,⟨mk,a,i,kc⟩⟩
end
section
variable{X:Cx}{k:Nat}{ps:List Str}{sp:Sp}{x m:Str}{p pos apos:Pos}{o e:Expr}{es:List Expr}{ta:TE}{t:TA}{C:Addr}
theorem aQZ{pl:Sem Bool}(c:Cls X.K C)(F:Mc X.prog X.w X.K X.mg X.base k C m ps sp)(hr:Room k X.A)(ho:PE X o ta)(ha:PA X (e :: es) t)
 (hst:Ak (e :: es) X.env=(false,eval e X.env) :: Ak es X.env:=by rfl)(hpl:(backTo pos (Ak es X.env)).any (·.1)=false:=by rfl)
 (ht:eval (.Call (.Attribute o m apos) (e :: es) [] pos) X.env=(do
   let ov ← eval o X.env
   standAt apos.atName
   let (f,first) ← holding [ov] (FB ov m pl)
   callWith pos f first (backTo pos (Ak (e :: es) X.env)) (Dj pos (Cl [] X.env))):=by rfl) :
  PE X (.Call (.Attribute o m apos) (e :: es) [] pos) (aHK C m sp [] E0 ta t):=by
 obtain⟨f,fd,G,b,mm⟩:=F.ex
 exact aQX (pl:=pl) ho c mm G hr b .nil aIJ ha hst hpl ht
theorem aIF{pl:Sem Bool}(c:Cls X.K C)(F:Mc X.prog X.w X.K X.mg X.base k C m ps sp)(hr:Room k X.A)(ho:PE X o ta)
 (ht:eval (.Call (.Attribute o m apos) [] [] pos) X.env=(do
   let ov ← eval o X.env
   standAt apos.atName
   let (f,first) ← holding [ov] (FB ov m pl)
   callWith pos f first (backTo pos (Ak [] X.env)) (Dj pos (Cl [] X.env))):=by rfl) :
  PE X (.Call (.Attribute o m apos) [] [] pos) (aHK C m sp [] E0 ta aJN):=by
 obtain⟨f,fd,G,b,mm⟩:=F.ex
 exact aNC (pl:=pl) ho c mm G hr b .nil aIJ ht
theorem aTD(hm:X.mg x=some (.ref C))(F:Ic X.prog X.w X.K X.mg X.base k C ps sp)(hr:Room (k+1) X.A)(ha:PA X (e :: es) t)(hg:Gl X x:=by rfl)(hdb:(x == ("__debug__":Str))=false:=by decide)
 (he:Ak (e :: es) X.env=(false,eval e X.env) :: Ak es X.env:=by rfl)(hpl:(backTo pos (Ak es X.env)).any (·.1)=false:=by rfl) :
  PE X (.Call (.Name x p) (e :: es) [] pos) (aSS C sp [] E0 t):=by
 obtain⟨f,fd,G,b,mm⟩:=F.ex
 exact aQY mm G hr hg hm b .nil aIJ ha hdb he hpl
end
section
variable{X:Cx}{K:AE}
theorem aO(e:X.K=K):IxR X (aXG K):=by subst e;exact aVL
theorem cW(e:X.K=K):IxR X (aXH K):=by subst e;exact aRN
theorem lN(e:X.K=K):SlR X (aXE K):=by subst e;exact aQF
theorem pG(e:X.K=K):OpR X (BU .In) (rIn K false):=by subst e;exact aKC
theorem xT(e:X.K=K):OpR X (BU .NotIn) (rIn K true):=by subst e;exact aBJ
theorem aY(e:X.K=K):eP X (.builtin "len") (fun xs H Q=>∃ p ys,xs=[.ref p]∧(SqL K H p ys∨SqT K H p ys)∧Q (.int ys.length) H):=by subst e;exact aCK
theorem dQ(e:X.K=K):eP X (.builtin "isinstance") (fun xs H Q=>∃ x y c t b,xs=[x,y]∧aSD y=some c∧TyOf K H x t∧BD K t c=some b∧Q (.bl b) H):=by subst e;exact aEZ
theorem yD(e:X.K=K):eP X (.type "list") (fun xs H Q=>∃ p ys,xs=[.ref p]∧(SqL K H p ys∨SqT K H p ys)∧∀ l,H l=none→Q (.ref l) (upd H l (.lst ys))):=by subst e;exact aCI
end
theorem lY{j:Int}(h:decide (0<j)=true):0<j:=of_decide_eq_true h
end L2
namespace L2
open PySem PySem.Spec PyProof.Rows
theorem iQ{X:Cx}{i:Nat}{x:Str}{elt iter tg:Expr}{ifs:List Expr}{scope:Scope}{pos pos' cpos:Pos}{wi:TI}{g:TG}{tt:TT}{te:TE}(hXN:X.N.Nodup)(hix:X.N[i]?=some x)(N':List Str)(nt:Nat)(cap:List Nat)
 (hc:X.calm=true)(hi:PI X tg iter wi)(hg:∀ R,PG (blk X scope N' R) tg g)(hgk:aJF nt g)(ht:∀ R,aPL (blk X scope N' R) ifs tt)(he:∀ R,PE (blk X scope N' R) elt te)
 (hx:Loc X.env.scope x:=by exact Or.inl rfl)(hfn:X.fn x=true∨X.env.scope.names.lookup x=some .local:=by first | exact .inl rfl | exact .inr rfl | assumption)
 (hsw:Ez (.ListComp elt [⟨tg,iter,ifs,0⟩] scope cpos) (some (.Name x pos')) pos.line X.env=pure true:=by rfl)
 (hcell:(scope.names.all fun y=>!(y.2 == .cell))=true:=by rfl)(hkind:scope.kind=.function:=by rfl)
 (hnames:(scope.names.all fun y=>!(y.2 == .local) || (scope.names.lookup y.1 == some .local))=true:=by rfl)
 (hfr:(scope.names.all fun y=>!(y.2 == .free) || (X.env.kindOf y.1 == some .cell || X.env.kindOf y.1 == some .free))=true:=by rfl)
 (hN:N'.length=nt+cap.length:=by rfl)(hcapN:(cap.map fun j=>X.N[j]?)=(N'.drop nt).map some:=by rfl)(hcapF:((N'.drop nt).all fun x=>scope.names.lookup x == some .free)=true:=by rfl)
 (hs:∀ x,FT iter X.env x=pure x:=by intro _;rfl) :
  PS X (.Assign [.Name x pos'] (.ListComp elt [⟨tg,iter,ifs,0⟩] scope cpos) pos) (aTQ (aSU nt cap wi g tt te) (wU i)):=by
 intro pins s σ H Ds I h
 have hfr':∀ y∈scope.names,y.2=.free→(X.env.kindOf y.1=some .cell∨X.env.kindOf y.1=some .free):=fun y hy e=>by
  have z:=jD hfr y hy
  rw[e] at z
  have z':(X.env.kindOf y.1 == some .cell || X.env.kindOf y.1 == some .free)=true:=z
  rcases Bool.or_eq_true_iff.mp z' with q | q
  ·exact .inl (beq_iff_eq.mp q)
  ·exact .inr (beq_iff_eq.mp q)
 have hcell':∀ y∈scope.names,y.2≠.cell:=fun y hy e=>by
  have z:=jD hcell y hy
  rw[e] at z
  cases z
 obtain⟨cl,hcl,hclk,hclh⟩:=xI (scope:=scope) (env:=X.env) fun y hy e=>I.ok.has y.1 (hfr' y hy e)
 have hnames':∀ y∈scope.names,y.2=.local→scope.names.lookup y.1=some .local:=fun y hy e=>by
  have z:=jD hnames y hy
  rw[e] at z
  exact beq_iff_eq.mp z
 have hcapN':∀ (k j:Nat),cap[k]?=some j→N'[nt+k]?=X.N[j]?:=fun k j e=>by
  have z:=congrArg (fun l:List (Option Str)=>l[k]?) hcapN
  simp only[AH,e,Option.map_some,Do] at z
  cases q:N'[nt+k]? with
  | none=>rw[q] at z;cases z
  | some x=>rw[q] at z;exact (Ao z).symm
 rw[exec_Assign_Name_used _ _ _ _ hsw]
 refine AD (wpAny_standAt (AD ?_))
 show wpAny _ X.A (do let _ ← comprehension (.ListComp elt [⟨tg,iter,ifs,0⟩] scope cpos) scope X.env _ (newList []) false (eval iter X.env) (some (assign (.Name x pos') X.env))) _ _ s
 refine AD (Az (wpAny_comprehension_free (use:=some (assign (.Name x pos') X.env)) (Q:=fun _ s'=>SP X pins Ds .next s') rfl hs hcl hkind hnames'
  (thn (hi pins s σ H _ I h) fun v s1 h1=>thn h1 fun itv s2 h2=>?_)) (fun _ s' hq=>AN (AN hq)) fun _ _ e=>e)
 obtain⟨it,fp,tn,J,H2,e,I2,T,st2,f2,hw⟩:=h2
 subst e
 refine xG (RR:=fun acc C=>compPost (model X.prog X.w) X.A X.xe (some (assign (.Name x pos') X.env)) (fun _ s'=>SP X pins Ds .next s') acc C) hc I2 T st2 f2 hclk hclh hcell' hkind hfr' hN hcapN' (fun x hx=>beq_iff_eq.mp (jD hcapF x hx)) hg hgk ht he hw ?_
 intro D C s' H' ys hD q I' B
 obtain⟨m,hn⟩:=B.ns
 obtain⟨oC,es,ep,hoC,hdC,hrest⟩:=id hn
 have nofs:C∉X.fs:=fun hb=>by
  obtain⟨_,o,ho,_⟩:=I'.ok.funs.mem hb
  exact absurd (Ae (AW ho) B.ab) (CY _)
 have IC:Inv X ((C,oC) :: pins) σ (upd H' D (.lst ys)) s':=I'.pins_of fun p hp=>by
  rcases Ac.mp hp with rfl | hp
  ·exact⟨hoC,B.fr,B.ne,nofs,fun v z=>by rw[hdC] at z;cases z⟩
  ·exact I'.pin p (Ah _ hp)
 show wpAny _ X.A (assign (.Name x pos') X.env (.ref D)) _ _ _
 refine thn (bA hXN hix hx hfn ((C,oC) :: pins) s' σ (upd H' D (.lst ys)) (.ref D) (.ref D) Ds.nx IC rfl (q D hD)) fun _ s'' h''=>?_
 obtain⟨σ2,H3,I3,q3⟩:=h''
 have pC:=I3.pin (C,oC) (Ah _ AO)
 refine⟨m,hn.at' (fun o e=>?_),fun h4 hs4=>⟨σ2,H3,?_,q3⟩⟩
 ·rw[hoC] at e
  cases e
  exact pC.1
 ·have I4:Inv X pins σ2 H3 s'':=I3.pins_of fun p hp=>I3.pin p (Ah _ (AJ _ hp))
  exact I4.turned (it:=C) (t':=s''.toks) (fun b o hb e=>hs4.extBut b o hb e) pC.2.1 B.ne (.inr B.ab) B.cl B.pn
end L2
namespace L2
open PySem PySem.Spec PyProof.Rows
section
variable{X:Cx}
end
structure InstC (K:AE) (C:Addr):Prop where
 ha:BQ K (.ref C) "__class__"=some (some (.builtin "object.__class__"))
 hn:En K (.builtin "object.__class__") "__get__"=some (some (.builtin "getset_descriptor.__get__"))
 htk:PySem.W.takesIn K (.builtin "object.__class__")=some true
 hm:PySem.W.mroIn K C (.type "object")=some true
theorem MethAt.mcD{P:Program}{w:World}{K:AE}{mg:Str→Option Value}{base:Heap}{C:Addr}{m qual:Str}{st:Stmt}{N ps:List Str}{k:Nat}{sp:Sp}(D:MethAt K C m qual st ps)(S:FnScope N ps (aF st))(len:∀ vs H Q E,sp vs H Q E→vs.length=ps.length)
 (hbody:∀ (f:Addr) (cdv:Value) (A:Around) (outer:List Env) (s:Shared) (H:Hp) (vs:List V) (Q:VK) (E:XK),Room k (A.deeper (envOfC qual (aF st) s.heap.objs.size f cdv))→sp vs H Q E →
   ∃ t,PSs (gZ CX0 P w K mg base N qual (aF st) f cdv A outer s H E).nox (cV st) t∧t { nx:=fun _ H'=>cU Q .non H',rt:=cU Q } (start N vs) H):Mc P w K mg base (k+1) C m ps sp:=by
 obtain⟨f,fd,F,b,mm⟩:=D.ex
 refine⟨f,fd,FnOk.drop len (F.ok S (fun vs H Q E ⟨Q',h,_⟩=>len vs H Q' E h) fun cdv A outer s H vs Q E hr ⟨Q',h,e⟩=>?_),b,mm⟩
 subst e
 exact hbody f cdv A outer s H vs Q' E hr h
theorem gF.under{H:Hp}{p q:Addr}{o u:HO}(hp:H p=none)(d:sE o=true)(hq:L2.upd H p o q=none):gF (L2.upd (L2.upd H p o) q u) (L2.upd H q u):=fun b=>by
 by_cases hb:b=q
 ·subst hb
  left
  rw[aC,aC]
 ·rw[aI hb,aI hb]
  by_cases hc:b=p
  ·subst hc
   right
   exact⟨hp,o,aC,d⟩
  ·left
   rw[aI hc]
end L2
namespace Ld
open PySem L2
noncomputable def iT(c:Nat):Bool:=decide (97≤c) && decide (c≤122)
noncomputable def eN(z:Str):Bool:=decide (1≤z.length) && decide (z.length≤8) && !decide (z="sea") && z.cps.toList.all iT
noncomputable def isInt:Dv→Bool
 | .int _=>true
 | _=>false
noncomputable def aNV:Dv→Bool
 | .bl _=>true
 | _=>false
noncomputable def aXT:Dv→Bool
 | .str _=>true
 | _=>false
noncomputable def aXV:Dv→Bool
 | .lst _=>true
 | _=>false
noncomputable def aXS:Dv→Bool
 | .tup _=>true
 | _=>false
noncomputable def aHI(n:Int):Dv→Bool
 | .tup ds=>decide ((ds.length:Int)=n)
 | _=>false
noncomputable def zD(n:Int):Dv→Bool
 | .lst ds=>decide (1≤ds.length) && decide ((ds.length:Int)≤n)
 | _=>false
noncomputable def pJ:Dv→Bool
 | .str z=>eN z
 | _=>false
noncomputable def hgt(i:Int):Bool:=decide (-1000000≤i) && decide (i≤1000000)
noncomputable def amt(i:Int):Bool:=decide (0≤i) && decide (i≤1000000)
noncomputable def dZ:Dv→Bool
 | .int i=>hgt i
 | _=>false
noncomputable def jX:Dv→Bool
 | .int i=>amt i
 | _=>false
noncomputable def fO(zs:List Str):Dv→Bool
 | .str z=>decide (z∈zs)
 | _=>false
noncomputable def cK:Dv→Option Str
 | .tup (.str z :: _)=>some z
 | _=>none
noncomputable def cH:Dv→Bool
 | .tup [a,b,c]=>pJ a && (dZ b && jX c)
 | _=>false
noncomputable def kD:Dv→Bool
 | .lst ds=>(decide (1≤ds.length) && decide (ds.length≤12)) && (ds.all cH && decide ((ds.map cK).Nodup))
 | _=>false
noncomputable def nB(zs:List Str)(a b:Dv):Bool:=fO zs a && (fO zs b && !deq a b)
noncomputable def mR(c:Dv):Dv→Bool
 | .non=>true
 | .int i=>hgt i && (match c with | .int j=>decide (i<j) | _=>false)
 | _=>false
noncomputable def cO(zs:List Str):Dv→Bool
 | .tup [n,a,b,c,r,s]=>pJ n && nB zs a b && (dZ c && (jX r && mR c s))
 | _=>false
noncomputable def nC(zs:List Str):Dv→Bool
 | .lst ds=>(decide (1≤ds.length) && decide (ds.length≤40)) && (ds.all (cO zs) && decide ((ds.map cK).Nodup))
 | _=>false
mutual
noncomputable def cI:Dv→Bool
 | .str z=>decide (z.length≤1000)
 | .lst ds=>decide (ds.length≤1000) && dD ds
 | .tup ds=>decide (ds.length≤1000) && dD ds
 | _=>true
noncomputable def dD:List Dv→Bool
 | []=>true
 | d :: ds=>cI d && dD ds
end
theorem iN:∀ {ds:List Dv} {d:Dv},dD ds=true→d∈ds→cI d=true
 | [],_,_,m=>by cases m
 | e :: ds,d,f,m=>by
  rw[dD,AV] at f
  rcases Ac.mp m with rfl | m
  ·exact f.1
  ·exact iN f.2 m
theorem yN{ds:List Dv}(h:cI (.tup ds)=true):dD ds=true:=(An.mp (show (decide (ds.length≤1000) && dD ds)=true from h)).2
theorem sP(K:AE){H:Hp}{d:Dv}{x:V}(h:Is H d x):∃ t,TyOf K H x t∧BD K t (.type "int")=some (isInt d || aNV d)∧BD K t (.type "bool")=some (aNV d) ∧
  BD K t (.type "str")=some (aXT d)∧BD K t (.type "list")=some (aXV d)∧BD K t (.type "tuple")=some (aXS d):=by
 cases d with
 | non=>cases (show x=.non from h);exact⟨_,.non,rfl,rfl,rfl,rfl,rfl⟩
 | bl b=>cases (show x=.bl b from h);exact⟨_,.bl b,rfl,jV _ _,rfl,rfl,rfl⟩
 | int i=>cases (show x=.int i from h);exact⟨_,.int i,jV _ _,rfl,rfl,rfl,rfl⟩
 | str z=>cases (show x=.str z from h);exact⟨_,.str z,rfl,rfl,jV _ _,rfl,rfl⟩
 | lst ds=>obtain⟨a,vs,rfl,e,_⟩:=h;exact⟨_,.lst e,rfl,rfl,rfl,jV _ _,rfl⟩
 | tup ds=>obtain⟨a,vs,rfl,e,_⟩:=h;exact⟨_,.tup e,rfl,rfl,rfl,rfl,jV _ _⟩
 | dct ks ds=>obtain⟨a,vs,rfl,e,_⟩:=h;exact⟨_,.dK e,rfl,rfl,rfl,rfl,rfl⟩
theorem aBV:("abcdefghijklmnopqrstuvwxyz":Str).cps.toList=[97,98,99,100,101,102,103,104,105,106,107,108,109,110,111,112,113,114,115,116,117,118,119,120,121,122]:=by decide +kernel
theorem aGN(c:Nat):(!(Builtin.Str.occurrences ("abcdefghijklmnopqrstuvwxyz":Str) ⟨#[c]⟩ 0 ("abcdefghijklmnopqrstuvwxyz":Str).length 1).isEmpty)=iT c:=by
 rw[PySem.StrLaws.found_one,aBV]
 have h1:∀ d,d∈([97,98,99,100,101,102,103,104,105,106,107,108,109,110,111,112,113,114,115,116,117,118,119,120,121,122]:List Nat)→97≤d∧d≤122:=by decide
 have h2:∀ k,k<26→(97+k)∈([97,98,99,100,101,102,103,104,105,106,107,108,109,110,111,112,113,114,115,116,117,118,119,120,121,122]:List Nat):=by decide
 unfold iT
 by_cases h:97≤c∧c≤122
 ·have e:=h2 (c - 97) (by omega)
  rw[show 97+(c - 97)=c by omega] at e
  rw[decide_eq_true e,decide_eq_true h.1,decide_eq_true h.2]
  rfl
 ·have e:¬ c∈([97,98,99,100,101,102,103,104,105,106,107,108,109,110,111,112,113,114,115,116,117,118,119,120,121,122]:List Nat):=fun m=>h (h1 c m)
  rw[decide_eq_false e]
  by_cases h':97≤c
  ·rw[decide_eq_true h',decide_eq_false (fun z=>h ⟨h',z⟩)]
   rfl
  ·rw[decide_eq_false h']
   rfl
noncomputable def aL(d:Dv):Str:=(cK d).getD ""
noncomputable def mQ(d:Dv):Key:=.inr (aL d)
theorem aON{d:Dv}{z:Str}(h:cK d=some z):aL d=z:=by unfold aL;rw[h];rfl
noncomputable def mP(d1 d2:Addr):List (Str×V):=iD "dyke_rows" (.ref d2) (iD "field_rows" (.ref d1) [])
theorem aYC:¬ (("field_rows":Str)="dyke_rows"):=by decide +kernel
theorem aIN(d1 d2:Addr):(mP d1 d2).lookup ("field_rows":Str)=some (.ref d1):=by
 unfold mP
 rw[eZ,if_neg aYC,eZ,if_pos rfl]
theorem aBX(d1 d2:Addr):(mP d1 d2).lookup ("dyke_rows":Str)=some (.ref d2):=by
 unfold mP
 rw[eZ,if_pos rfl]
theorem iV(d1 d2:Addr){m:Str}(h1:¬ m="dyke_rows")(h2:¬ m="field_rows"):(mP d1 d2).lookup m=none:=by
 unfold mP
 rw[eZ,if_neg h1,eZ,if_neg h2]
 all_goals rfl
def qY(H:Hp)(a:Addr)(ds:List Dv):Prop:=∃ kvs,H a=some (.dK kvs)∧kvs.map (·.1)=ds.map mQ∧IsL H ds (kvs.map (·.2))
theorem qY.same{H H':Hp}(S:aH H H'){a:Addr}{ds:List Dv}(h:qY H a ds):qY H' a ds:=by
 obtain⟨kvs,e,k,i⟩:=h
 exact⟨kvs,S _ _ e,k,IsL.same S _ _ i⟩
structure LandAt (C:Addr) (H:Hp) (x:Addr) (fs ds:List Dv):Prop where
 ex:∃ dx d1 d2,H x=some (.ins C dx (mP d1 d2))∧qY H d1 fs∧qY H d2 ds
 okf:kD (.lst fs)=true
 okd:nC ("sea" :: fs.map aL) (.lst ds)=true
theorem LandAt.same{C:Addr}{H H':Hp}(S:aH H H'){x:Addr}{fs ds:List Dv}(h:LandAt C H x fs ds):LandAt C H' x fs ds:=by
 obtain⟨⟨dx,d1,d2,e,t1,t2⟩,a,b⟩:=h
 exact⟨⟨dx,d1,d2,S _ _ e,t1.same S,t2.same S⟩,a,b⟩
theorem aAK:∀ {kvs:List (Key×V)} {H:Hp} {ds:List Dv} {d:Dv},kvs.map (·.1)=ds.map mQ→IsL H ds (kvs.map (·.2))→(ds.map aL).Nodup→d∈ds→∃ v,eS kvs (.inr (aL d))=some v∧Is H d v
 | [],_,[],_,_,_,_,m=>by cases m
 | [],_,_ :: _,_,e,_,_,_=>by simp at e
 | _ :: _,_,[],_,_,_,_,m=>by cases m
 | (k,v) :: kvs,H,d0 :: ds,d,e,i,n,m=>by
  obtain⟨v',r,e1,h0,t⟩:=i
  rw[AU] at e1
  cases e1
  rw[AU,AU,List.cons.injEq] at e
  have ek:k=mQ d0:=e.1
  rw[AU,Aj] at n
  by_cases q:aL d=aL d0
  ·have:d=d0:=by
    rcases Ac.mp m with rfl | m
    ·rfl
    ·exact absurd (AM.mpr ⟨d,m,q⟩) n.1
   subst this
   refine⟨v,?_,h0⟩
   unfold eS
   rw[Bp,ek]
   simp[mQ]
  ·have m':d∈ds:=by
    rcases Ac.mp m with rfl | m
    ·exact absurd rfl q
    ·exact m
   obtain⟨u,e2,h2⟩:=aAK (kvs:=kvs) e.2 t n.2 m'
   refine⟨u,?_,h2⟩
   unfold eS at e2 ⊢
   have hk:¬ k=Sum.inr (aL d):=by
    rw[ek]
    intro z
    exact q (DR z).symm
   rw[Bp,decide_eq_false (show ¬ (k,v).1=Sum.inr (aL d) from hk)]
   exact e2
theorem gN:∀ {ds:List Dv} {p:Dv→Bool},(∀ d,p d=true→∃ z,cK d=some z)→ds.all p=true→ds.map cK=(ds.map aL).map some
 | [],_,_,_=>rfl
 | d :: ds,p,hp,h=>by
  rw[Cy,AV] at h
  obtain⟨z,e⟩:=hp d h.1
  rw[AU,AU,AU,gN hp h.2,aON e,e]
theorem eJ(zs:List Str):(zs.map some).Nodup↔zs.Nodup:=by
 induction zs with
 | nil=>simp
 | cons z zs ih =>
  rw[AU,Aj,Aj,ih]
  simp
theorem bK{d:Dv}(h:cH d=true):∃ z g e,d=.tup [.str z,.int g,.int e]∧eN z=true∧hgt g=true∧amt e=true:=by
 unfold cH at h
 split at h
 ·rename_i a b c
  rw[AV,AV] at h
  obtain⟨h1,h2,h3⟩:=h
  cases a with
  | str z =>
   cases b with
   | int g =>
    cases c with
    | int e=>exact⟨z,g,e,rfl,h1,h2,h3⟩
    | _=>cases h3
   | _=>cases h2
  | _=>cases h1
 ·cases h
theorem tT(d:Dv)(h:cH d=true):∃ z,cK d=some z:=by
 obtain⟨z,_,_,rfl,_⟩:=bK h
 exact⟨z,rfl⟩
theorem bU{zs:List Str}{d:Dv}(h:cO zs d=true):∃ n a b c r s,d=.tup [.str n,.str a,.str b,.int c,.int r,s]∧eN n=true∧a∈zs∧b∈zs∧a≠b∧hgt c=true∧amt r=true∧mR (.int c) s=true:=by
 unfold cO at h
 split at h
 ·rename_i n a b c r s
  rw[AV,AV,AV,AV] at h
  obtain⟨⟨h1,h2⟩,h3,h4,h5⟩:=h
  unfold nB at h2
  rw[AV,AV] at h2
  obtain⟨h6,h7,h8⟩:=h2
  cases n with
  | str n =>
   cases a with
   | str a =>
    cases b with
    | str b =>
     cases c with
     | int c =>
      cases r with
      | int r =>
       refine⟨n,a,b,c,r,s,rfl,h1,of_decide_eq_true h6,of_decide_eq_true h7,?_,h3,h4,h5⟩
       intro z
       subst z
       have:(!(a == a))=true:=h8
       rw[beq_self_eq_true] at this
       cases this
      | _=>cases h4
     | _=>cases h3
    | _=>cases h7
   | _=>cases h6
  | _=>cases h1
 ·cases h
theorem xB{zs:List Str}(d:Dv)(h:cO zs d=true):∃ z,cK d=some z:=by
 obtain⟨z,_,_,_,_,_,rfl,_⟩:=bU h
 exact⟨z,rfl⟩
structure GoodF (fs:List Dv):Prop where
 l1:1≤fs.length
 l2:fs.length≤12
 all:∀ d∈fs,cH d=true
 nd:(fs.map aL).Nodup
structure GoodD (zs:List Str) (ds:List Dv):Prop where
 l1:1≤ds.length
 l2:ds.length≤40
 all:∀ d∈ds,cO zs d=true
 nd:(ds.map aL).Nodup
theorem rZ(fs:List Dv):kD (.lst fs)=true↔GoodF fs:=by
 show ((decide (1≤fs.length) && decide (fs.length≤12)) && (fs.all cH && decide ((fs.map cK).Nodup)))=true↔_
 rw[AV,AV,AV,decide_eq_true_iff,decide_eq_true_iff,decide_eq_true_iff]
 constructor
 ·rintro⟨⟨a,b⟩,c,d⟩
  rw[gN tT c,eJ] at d
  exact⟨a,b,BW.mp c,d⟩
 ·rintro⟨a,b,c,d⟩
  have c':=BW.mpr c
  refine⟨⟨a,b⟩,c',?_⟩
  rw[gN tT c',eJ]
  exact d
theorem sA(zs:List Str)(ds:List Dv):nC zs (.lst ds)=true↔GoodD zs ds:=by
 show ((decide (1≤ds.length) && decide (ds.length≤40)) && (ds.all (cO zs) && decide ((ds.map cK).Nodup)))=true↔_
 rw[AV,AV,AV,decide_eq_true_iff,decide_eq_true_iff,decide_eq_true_iff]
 constructor
 ·rintro⟨⟨a,b⟩,c,d⟩
  rw[gN xB c,eJ] at d
  exact⟨a,b,BW.mp c,d⟩
 ·rintro⟨a,b,c,d⟩
  have c':=BW.mpr c
  refine⟨⟨a,b⟩,c',?_⟩
  rw[gN xB c',eJ]
  exact d
theorem yO:∀ {ds:List Dv},(∀ d∈ds,cI d=true)→dD ds=true
 | [],_=>rfl
 | d :: ds,h=>by
  rw[dD,h d AO,yO fun e m=>h e (AJ _ m)]
  rfl
end Ld
namespace Mt02
open PySem L2 Ld
noncomputable def aZQ(i:Nat):Nat:=if i<18 then 97+i else 98+i
noncomputable def rst(c:Int):Nat→Int
 | 0=>c / 3
 | j+1=>rst c j / 25
noncomputable def num(o:Nat→Int)(c p b:Int)(k j:Nat):Int:=if (j:Int)=b then c / 17+((k:Int) / 25) else if (j:Int)=p then c / 11+(k:Int) else o j
noncomputable def code(o:Nat→Int)(c p b:Int)(k j:Nat):Nat:=aZQ (num o c p b k j % 25).toNat
noncomputable def nm(o:Nat→Int)(c p b:Int)(n k:Nat):Str:=⟨((Ag n).map (code o c p b k)).toArray⟩
structure Names (zs:List Str) (n:Nat):Prop where
 len:zs.length=n
 nd:zs.Nodup
 good:∀ z∈zs,eN z=true
end Mt02
namespace Mt04
open PySem L2 Ld
noncomputable def aGY:Dv→Int
 | .tup [_,_,_,.int c,_,_]=>c
 | _=>0
noncomputable def hOf:Dv→Int
 | .tup [_,.int h]=>h
 | _=>0
noncomputable def gC(ds:List Dv)(z:Str):Int:=(ds.find? fun d=>decide (aL d=z)).elim 0 aGY
noncomputable def dY(ds:List Dv):Dv→Bool
 | .tup [.str z,.int h]=>decide (z∈ds.map aL) && (hgt h && decide (gC ds z≤h))
 | _=>false
noncomputable def aFB(ds:List Dv):Dv→Bool
 | .lst ws=>ws.all (dY ds) && decide ((ws.map cK).Nodup)
 | _=>false
theorem aRW{ds:List Dv}(nd:(ds.map aL).Nodup){d:Dv}(m:d∈ds):(ds.find? fun e=>decide (aL e=aL d))=some d:=by
 induction ds with
 | nil=>cases m
 | cons e ds ih =>
  rw[AU,Aj] at nd
  rw[Bp]
  by_cases q:aL e=aL d
  ·rw[decide_eq_true q]
   rcases Ac.mp m with rfl | m
   ·rfl
   ·exact absurd (AM.mpr ⟨d,m,q.symm⟩) nd.1
  ·rw[decide_eq_false q]
   rcases Ac.mp m with rfl | m
   ·exact absurd rfl q
   ·exact ih nd.2 m
theorem xF{ds:List Dv}(nd:(ds.map aL).Nodup){d:Dv}(m:d∈ds):gC ds (aL d)=aGY d:=by
 unfold gC
 rw[aRW nd m]
 rfl
theorem oW{ds:List Dv}{d:Dv}(h:dY ds d=true):∃ z v,d=.tup [.str z,.int v]∧z∈ds.map aL∧hgt v=true∧gC ds z≤v:=by
 unfold dY at h
 split at h
 ·rename_i z v
  rw[AV,AV] at h
  exact⟨z,v,rfl,of_decide_eq_true h.1,h.2.1,of_decide_eq_true h.2.2⟩
 ·cases h
theorem oX{ds:List Dv}(d:Dv)(h:dY ds d=true):∃ z,cK d=some z:=by
 obtain⟨z,_,rfl,_⟩:=oW h
 exact⟨z,rfl⟩
structure GoodW (ds ws:List Dv):Prop where
 all:∀ d∈ws,dY ds d=true
 nd:(ws.map aL).Nodup
theorem aKP(ds ws:List Dv):aFB ds (.lst ws)=true↔GoodW ds ws:=by
 show (ws.all (dY ds) && decide ((ws.map cK).Nodup))=true↔_
 rw[AV,decide_eq_true_iff]
 constructor
 ·rintro⟨c,d⟩
  rw[gN oX c,eJ] at d
  exact⟨BW.mp c,d⟩
 ·rintro⟨c,d⟩
  have c':=BW.mpr c
  refine⟨c',?_⟩
  rw[gN oX c',eJ]
  exact d
end Mt04
namespace Mt22
open PySem L2 Ld
structure St where
 nm:Str
 near:Str
 far:Str
 h:Int
abbrev Lo:=Str→Option Int
noncomputable def sea:Str:="sea"
noncomputable def lo0:Lo:=fun z=>if z=sea then some (-1000000) else none
noncomputable def aXC(lo:Lo)(s:St):Lo:=match lo s.near with
 | none=>lo
 | some a=>fun z=>if z=s.far then some (match lo s.far with | none=>max a s.h | some b=>min (max a s.h) b) else lo z
noncomputable def aXB(S:List St)(lo:Lo):Lo:=S.foldl aXC lo
noncomputable def aML(S:List St):Nat→Lo
 | 0=>lo0
 | n+1=>aXB S (aML S n)
inductive Walk (S:List St):Nat→Str→Int→Prop
 | sea:Walk S 0 Mt22.sea (-1000000)
 | step {k:Nat} {a:Int} {s:St} (w:Walk S k s.near a) (m:s∈S):Walk S (k+1) s.far (max a s.h)
def Att(S:List St)(lo:Lo):Prop:=∀ z c,lo z=some c→∃ k,Walk S k z c
inductive Path (S:List St):List Str→Str→Int→Prop
 | sea:Path S [] Mt22.sea (-1000000)
 | step {p:List Str} {a:Int} {s:St} (w:Path S p s.near a) (m:s∈S) (n:s.far∉p):Path S (s.far :: p) s.far (max a s.h)
theorem aBW{α:Type}[DecidableEq α]:∀ {P N:List α},P.Nodup→(∀ x∈P,x∈N)→P.length≤N.length
 | [],N,_,_=>BN _
 | x :: P,N,nd,sub=>by
  have hx:=sub x AO
  rw[Aj] at nd
  have:=aBW (P:=P) (N:=N.erase x) nd.2 fun y m=>(List.mem_erase_of_ne (a:=y) (b:=x) (fun e=>nd.1 (by rw[← e];exact m))).mpr (sub y (AJ _ m))
  rw[List.length_erase_of_mem hx] at this
  have hp:=List.length_pos_of_mem hx
  rw[Af]
  omega
structure Flood (S:List St) (lo:Lo):Prop where
 att:Att S lo
 low:∀ k v b,Walk S k v b→∃ c,lo v=some c∧c≤b
inductive Come (S:List St) (L:Int):Str→Prop
 | sea:Come S L Mt22.sea
 | step {s:St} (w:Come S L s.near) (m:s∈S) (h:s.h<L):Come S L s.far
end Mt22
namespace MtF
open PySem L2 Ld Mt04 Mt22
noncomputable def aTV:Dv→Dv
 | .tup [_,_,_,_,_,s]=>s
 | _=>.non
noncomputable def aXW:Dv→Int
 | .int i=>i
 | _=>0
noncomputable def aXN:Dv→Str
 | .tup [_,.str a,_,_,_,_]=>a
 | _=>""
noncomputable def aNF:Dv→Str
 | .tup [_,_,.str b,_,_,_]=>b
 | _=>""
noncomputable def aTS(op:List Str)(d:Dv):Int:=if aL d∈op then aXW (aTV d) else aGY d
noncomputable def aBZ:Dv→Int
 | .tup [_,.int g,_]=>g
 | _=>0
noncomputable def qQ(fs:List Dv)(z:Str):Int:=(fs.find? fun d=>decide (aL d=z)).elim 0 aBZ
theorem aRV{ds:List Dv}(nd:(ds.map aL).Nodup){d:Dv}(m:d∈ds):(ds.find? fun e=>decide (aL e=aL d))=some d:=by
 induction ds with
 | nil=>cases m
 | cons e ds ih =>
  rw[AU,Aj] at nd
  rw[Bp]
  rcases Ac.mp m with rfl | m
  ·rw[decide_eq_true rfl]
  ·have hne:aL e≠aL d:=fun c=>nd.1 (c▸AM.mpr ⟨d,m,rfl⟩)
   rw[decide_eq_false hne]
   exact ih nd.2 m
theorem aKO{fs:List Dv}(nd:(fs.map aL).Nodup){d:Dv}(m:d∈fs):qQ fs (aL d)=aBZ d:=by
 show (fs.find? fun e=>decide (aL e=aL d)).elim 0 aBZ=_
 rw[aRV nd m]
 rfl
noncomputable def aLM(fs:List Dv)(op:List Str)(d:Dv)(near far:Str):List Mt22.St:=if far="sea" then [] else [⟨aL d,near,far,max (aTS op d) (qQ fs far)⟩]
noncomputable def stepsOf(fs:List Dv)(op:List Str)(d:Dv):List Mt22.St:=aLM fs op d (aXN d) (aNF d)++aLM fs op d (aNF d) (aXN d)
noncomputable def bV(s:Mt22.St):Dv:=.tup [.str s.nm,.str s.near,.str s.far,.int s.h]
end MtF
namespace Mt21
open PySem L2 Ld Mt02
noncomputable def ab(i:Int):Nat:=97+(i % 26).toNat
theorem aAJ(i:Int):iT (ab i)=true:=by
 have h0:=At i (show (26:Int)≠0 by decide)
 have h1:=Au i (show (0:Int)<26 by decide)
 unfold ab iT
 rw[decide_eq_true (by omega),decide_eq_true (by omega)]
 rfl
theorem aSL:("abcdefghijklmnopqrstuvwxyz":Str).cps.toList=(Ag 26).map fun i=>97+i:=by decide +kernel
theorem aTI(i:Int):atI ("abcdefghijklmnopqrstuvwxyz":Str).cps.toList (i % 26)=some (ab i):=by
 have h0:=At i (show (26:Int)≠0 by decide)
 have h1:=Au i (show (0:Int)<26 by decide)
 obtain⟨k,hk⟩:=Ap h0
 unfold ab
 rw[hk,aSL]
 refine aK ?_
 rw[AH,List.getElem?_range (by omega)]
 rfl
noncomputable def wC(i:Int):Str:=⟨#[ab i]⟩
theorem wQ:∀ (ys:List Str) (acc:Array Nat),(ys.foldl (fun acc p=>acc++("":Str).cps++p.cps) acc).toList=acc.toList++(ys.map fun y=>y.cps.toList).flatten
 | [],acc=>by simp
 | y :: ys,acc=>by
  rw[ES,wQ ys]
  have:("":Str).cps=#[]:=by decide +kernel
  rw[this]
  simp
theorem aGK(ys:List Str):(Txt.join "" ys).cps.toList=(ys.map fun y=>y.cps.toList).flatten:=by
 cases ys with
 | nil =>
  show (Str.empty.cps).toList=[]
  decide +kernel
 | cons y ys =>
  show (List.foldl (fun acc p=>acc++("":Str).cps++p.cps) y.cps ys).toList=_
  rw[wQ]
  simp
theorem uX(z:Str)(k:Nat)(h:k≤z.length):(Cn z none (some (k:Int))).cps.toList=z.cps.toList.take k:=by
 rw[Tx.slice_codes,Tx.cl_nat]
 show (z.cps.toList.drop 0).take (min k z.length - 0)=_
 rw[Eb,Nat.sub_zero,Cz h]
theorem xC(z:Str)(k:Nat)(h:k≤z.length):(Cn z (some (k:Int)) none).cps.toList=z.cps.toList.drop k:=by
 rw[Tx.slice_codes,Tx.cl_nat,Cz h]
 show (z.cps.toList.drop k).take (z.length - k)=_
 rw[AG]
 rw[Bh]
 show z.cps.toList.length - k≤z.length - k
 simp[Str.length]
theorem iG(z:Str):z.length=z.cps.toList.length:=by simp[Str.length]
theorem aEC{f:Nat→Str}{n:Nat}(h:∀ k l,k<n→l<n→f k=f l→k=l):((Ag n).map f).Nodup:=by
 rw[CM,List.pairwise_map]
 refine List.Pairwise.imp_of_mem ?_ (List.pairwise_lt_range (n:=n))
 intro k l hk hl hkl he
 have:=h k l (Bm.mp hk) (Bm.mp hl) he
 omega
structure Put (z b:Str) (at':Nat) (x y:Int):Prop where
 codes:z.cps.toList=b.cps.toList.take at'++[ab x,ab y]++b.cps.toList.drop at'
end Mt21
namespace Mt31
open PySem L2 Ld Mt22
abbrev Cm:=List (Str×Option Mt22.St)
noncomputable def keys(cm:Cm):List Str:=cm.map (·.1)
structure Came (S:List Mt22.St) (cm:Cm):Prop where
 nd:(keys cm).Nodup
 first:cm[0]?=some (Mt22.sea,none)
 prev:∀ (i:Nat) (z:Str) (o:Option Mt22.St),0<i→cm[i]?=some (z,o)→∃ s,o=some s∧s∈S∧s.far=z∧s.near∈keys (cm.take i)
def uJ(S:List Mt22.St)(cm:Cm)(p:Nat):Prop:=∀ (i:Nat) (u:Str),i<p→(keys cm)[i]?=some u→∀ s∈S,s.near=u→s.far∈keys cm
theorem jW(a b:Cm):keys (a++b)=keys a++keys b:=AT
theorem uJ.snoc{S:List Mt22.St}{cm:Cm}{p:Nat}(h:uJ S cm p)(hp:p≤cm.length)(x:Str×Option Mt22.St):uJ S (cm++[x]) p:=fun i u hi e s ms en=>by
 rw[jW,BK (by unfold keys;rw[AA];omega)] at e
 rw[jW]
 exact CC _ (h i u hi e s ms en)
inductive Chain (S:List Mt22.St):List Mt22.St→Str→Prop
 | nil:Chain S [] Mt22.sea
 | snoc {ss:List Mt22.St} {s:Mt22.St} (c:Chain S ss s.near) (m:s∈S) (n:s.far∉ss.map (·.far)):Chain S (ss++[s]) s.far
noncomputable def hm(ss:List Mt22.St):Int:=ss.foldl (fun a s=>max a s.h) (-1000000)
theorem zW{S:List Mt22.St}{ss:List Mt22.St}{v:Str}(c:Chain S ss v):(∀ s∈ss,s∈S)∧(ss.map (·.far)).Nodup:=by
 induction c with
 | nil=>exact⟨(fun s m=>by cases m),by simp⟩
 | @snoc ss s c m n ih =>
  refine⟨fun t mt=>?_,?_⟩
  ·rcases Ar.mp mt with mt | mt
   ·exact ih.1 t mt
   ·rw[AS.mp mt];exact m
  ·rw[AT,Dt]
   refine⟨ih.2,by simp,fun a ha b hb=>?_⟩
   have hb':b=s.far:=AS.mp hb
   intro e
   have e':a=s.far:=e.trans hb'
   exact n (e'▸ha)
def aWJ(S:List Mt22.St)(cm:Cm)(j:Nat)(z:Str)(tl:List Mt22.St)(side:Str):Prop:=∀ ss,Chain S ss z→(∀ y∈ss.map (·.far),y∈keys (cm.take (j+1)))→Chain S (ss++tl) side
theorem aJL{S:List Mt22.St}{cm:Cm}(h:Came S cm){i j:Nat}{z:Str}{s:Mt22.St}{tl:List Mt22.St}{side:Str}(hj:cm[j]?=some (z,some s))(ms:s∈S)(hf:s.far=z)(hi:i<j)(hu:(keys cm)[i]?=some s.near)(t:aWJ S cm j z tl side):aWJ S cm i s.near (s :: tl) side:=fun ss c sub=>by
 have e:ss++s :: tl=(ss++[s])++tl:=by rw[Bl];rfl
 have kj:(keys cm)[j]?=some z:=by unfold keys;rw[AH,hj];rfl
 have ktake:∀ n,keys (cm.take n)=(keys cm).take n:=fun n=>by unfold keys;rw[Er]
 have fresh:s.far∉ss.map (·.far):=fun m=>by
  have h1:=sub _ m
  rw[ktake,hf] at h1
  obtain⟨k,hk⟩:=BB.mp h1
  have hkl:=(AC.mp hk).1
  rw[AR] at hkl
  rw[Bn (by omega)] at hk
  obtain⟨h2,e2⟩:=AC.mp hk
  obtain⟨h3,e3⟩:=AC.mp kj
  have:=(EE h.nd).mp (e2.trans e3.symm)
  omega
 rw[e]
 refine t (ss++[s]) (hf▸Chain.snoc c ms fresh) fun y my=>?_
 rw[ktake]
 rw[AT] at my
 rcases Ar.mp my with my | my
 ·have:=sub y my
  rw[ktake] at this
  obtain⟨k,hk⟩:=BB.mp this
  have hkl:=(AC.mp hk).1
  rw[AR] at hkl
  rw[Bn (by omega)] at hk
  exact AI (i:=k) (by rw[Bn (by omega)];exact hk)
 ·have:y=s.far:=AS.mp my
  rw[this,hf]
  exact AI (i:=j) (by rw[Bn (by omega)];exact kj)
end Mt31
namespace Mt61
open PySem L2 Mt22 Mt31
structure Gap where
 nm:Str
 a:Str
 b:Str
 cap:Int
abbrev Fl:=Str→Int
noncomputable def sm{α:Type}(xs:List α)(f:α→Int):Int:=(xs.map f).sum
section
variable{α β:Type}
theorem lM(f:α→Int):sm [] f=0:=rfl
theorem bF(x:α)(xs:List α)(f:α→Int):sm (x :: xs) f=f x+sm xs f:=by
 unfold sm;rw[AU,List.sum_cons]
theorem vD(f:α→Int):∀ xs ys:List α,sm (xs++ys) f=sm xs f+sm ys f
 | [],ys=>by rw[DY,lM];omega
 | x :: xs,ys=>by rw[List.cons_append,bF,bF,vD f xs ys];omega
theorem eU{f g:α→Int}:∀ {xs:List α},(∀ x∈xs,f x=g x)→sm xs f=sm xs g
 | [],_=>rfl
 | x :: xs,h=>by rw[bF,bF,h x AO,eU fun y m=>h y (AJ _ m)]
theorem vC{f g:α→Int}:∀ {xs:List α},(∀ x∈xs,f x≤g x)→sm xs f≤sm xs g
 | [],_=>Ef _
 | x :: xs,h=>by
  rw[bF,bF]
  have:=h x AO
  have:=vC (xs:=xs) fun y m=>h y (AJ _ m)
  omega
theorem fH{f:α→Int}{xs:List α}(h:∀ x∈xs,f x=0):sm xs f=0:=by
 rw[eU h]
 induction xs with
 | nil=>rfl
 | cons x xs ih=>rw[bF,ih fun y m=>h y (AJ _ m)];rfl
theorem aFP(f g:α→Int):∀ xs:List α,sm xs (fun x=>f x+g x)=sm xs f+sm xs g
 | []=>rfl
 | x :: xs=>by rw[bF,bF,bF,aFP f g xs];omega
theorem aFO(f g:α→Int):∀ xs:List α,sm xs (fun x=>f x - g x)=sm xs f - sm xs g
 | []=>rfl
 | x :: xs=>by rw[bF,bF,bF,aFO f g xs];omega
theorem aHX(f:α→β→Int)(ys:List β):∀ xs:List α,sm xs (fun x=>sm ys (f x))=sm ys (fun y=>sm xs fun x=>f x y)
 | []=>(fH (fun _ _=>rfl)).symm
 | x :: xs=>by
  rw[bF,aHX f ys xs,← aFP]
  exact eU fun y _=>by rw[bF]
theorem aDF(X:α→Bool)(f:α→Int):∀ xs:List α,sm xs f=sm (xs.filter X) f+sm (xs.filter fun x=>!X x) f
 | []=>rfl
 | x :: xs=>by
  rw[bF,aDF X f xs]
  cases h:X x with
  | true=>rw[DC h,DD (by simp[h]),bF];omega
  | false=>rw[DD (by simp[h]),DC (by simp[h]),bF];omega
theorem nJ(X:α→Bool)(f:α→Int):∀ xs:List α,sm (xs.filter X) f=sm xs fun x=>if X x=true then f x else 0
 | []=>rfl
 | x :: xs=>by
  cases h:X x with
  | true=>rw[DC h,bF,bF,if_pos h,nJ X f xs]
  | false=>rw[DD (by simp[h]),bF,if_neg (by simp[h]),nJ X f xs];omega
end
theorem aAS{V:List Str}(X:Str→Bool){w:Str}(c:Int)(nd:V.Nodup)(m:w∈V):sm (V.filter X) (fun v=>if w=v then c else 0)=if X w=true then c else 0:=by
 rw[nJ]
 induction V with
 | nil=>cases m
 | cons v V ih =>
  rw[Aj] at nd
  rw[bF]
  by_cases e:w=v
  ·subst e
   rw[fH (xs:=V) fun x mx=>?_]
   ·simp
   ·have:w≠x:=fun e=>nd.1 (e▸mx)
    simp[this]
  ·have mV:w∈V:=by
    rcases Ac.mp m with h | h
    ·exact absurd h e
    ·exact h
   rw[ih nd.2 mV]
   simp[e]
theorem aHW{G:List Gap}(nd:(G.map (·.nm)).Nodup){g0:Gap}(m:g0∈G)(c:Gap→Int):sm G (fun g=>if g.nm=g0.nm then c g else 0)=c g0:=by
 induction G with
 | nil=>cases m
 | cons g G ih =>
  rw[AU,Aj] at nd
  rw[bF]
  rcases Ac.mp m with rfl | m
  ·rw[fH (xs:=G) fun x mx=>?_]
   ·simp
   ·have:x.nm≠g0.nm:=fun e=>nd.1 (e▸AM.mpr ⟨x,mx,rfl⟩)
    simp[this]
  ·have:g.nm≠g0.nm:=fun e=>nd.1 (e▸AM.mpr ⟨g0,m,rfl⟩)
   rw[ih nd.2 m]
   simp[this]
noncomputable def aED(f:Fl)(v:Str)(g:Gap):Int:=(if g.b=v then f g.nm else 0) - (if g.a=v then f g.nm else 0)
noncomputable def net(G:List Gap)(f:Fl)(v:Str):Int:=sm G (aED f v)
noncomputable def aKL(X:Str→Bool)(f:Fl)(g:Gap):Int:=(if X g.b=true then f g.nm else 0) - (if X g.a=true then f g.nm else 0)
noncomputable def val(G:List Gap)(f:Fl):Int:=- net G f sea
noncomputable def oU(X:Str→Bool)(g:Gap):Int:=if X g.a=X g.b then 0 else g.cap
noncomputable def cut(G:List Gap)(X:Str→Bool):Int:=sm G (oU X)
structure Gaps (V:List Str) (G:List Gap):Prop where
 nd:(G.map (·.nm)).Nodup
 ends:∀ g∈G,g.a∈V∧g.b∈V∧g.a≠g.b
 cap:∀ g∈G,0≤g.cap
 vnd:V.Nodup
 sea:Mt22.sea∈V
def aHE(G:List Gap)(f:Fl):Prop:=∀ g∈G,-g.cap≤f g.nm∧f g.nm≤g.cap
theorem aIL{V:List Str}{G:List Gap}(h:Gaps V G)(X:Str→Bool)(f:Fl):sm (V.filter X) (net G f)=sm G (aKL X f):=by
 unfold net
 rw[aHX]
 refine eU fun g mg=>?_
 obtain⟨ma,mb,_⟩:=h.ends g mg
 show sm (V.filter X) (fun v=>(if g.b=v then f g.nm else 0) - (if g.a=v then f g.nm else 0))=_
 rw[aFO,aAS X (f g.nm) h.vnd mb,aAS X (f g.nm) h.vnd ma]
 rfl
theorem aRF{V:List Str}{G:List Gap}(h:Gaps V G)(f:Fl):sm V (net G f)=0:=by
 have:=aIL h (fun _=>true) f
 rw[List.filter_eq_self.mpr (fun _ _=>rfl)] at this
 rw[this]
 refine fH fun g _=>?_
 unfold aKL
 simp
theorem aCS{V:List Str}{G:List Gap}(h:Gaps V G){f:Fl}{X:Str→Bool}(hs:X Mt22.sea=false)(hz:∀ v∈V,v≠Mt22.sea→X v=false→net G f v=0):sm G (aKL X f)=val G f:=by
 rw[← aIL h X f]
 have a:=aRF h f
 rw[aDF X (net G f) V] at a
 have b:sm (V.filter fun x=>!X x) (net G f)=net G f Mt22.sea:=by
  have e:sm (V.filter fun x=>!X x) (net G f)=sm (V.filter fun x=>!X x) (fun v=>if Mt22.sea=v then net G f Mt22.sea else 0):=eU fun v mv=>by
   rw[Aq] at mv
   by_cases hv:Mt22.sea=v
   ·rw[if_pos hv,hv]
   ·rw[if_neg hv]
    exact hz v mv.1 (fun e=>hv e.symm) (by simpa using mv.2)
  rw[e,aAS (fun x=>!X x) _ h.vnd h.sea,hs]
  rfl
 unfold val
 omega
theorem aRP{G:List Gap}{f:Fl}(hf:aHE G f)(X:Str→Bool):∀ g∈G,aKL X f g≤oU X g:=fun g m=>by
 obtain⟨h1,h2⟩:=hf g m
 unfold aKL oU
 cases ha:X g.a <;> cases hb:X g.b <;> simp <;> omega
theorem aTJ{V:List Str}{G:List Gap}(h:Gaps V G){f:Fl}(hf:aHE G f){X:Str→Bool}(hs:X Mt22.sea=false)(hz:∀ v∈V,v≠Mt22.sea→X v=false→net G f v=0):val G f≤cut G X:=by
 rw[← aCS h hs hz]
 exact vC (aRP hf X)
theorem aTK{V:List Str}{G:List Gap}(h:Gaps V G){f:Fl}{X:Str→Bool}(hs:X Mt22.sea=false)(hz:∀ v∈V,v≠Mt22.sea→X v=false→net G f v=0)
 (h1:∀ g∈G,X g.a=false→X g.b=true→f g.nm=g.cap)(h2:∀ g∈G,X g.a=true→X g.b=false→f g.nm=-g.cap):val G f=cut G X:=by
 rw[← aCS h hs hz]
 refine eU fun g m=>?_
 have e1:=h1 g m
 have e2:=h2 g m
 unfold aKL oU
 cases ha:X g.a <;> cases hb:X g.b <;> simp[ha,hb] at e1 e2 ⊢ <;> omega
noncomputable def up(g:Gap):Mt22.St:=⟨g.nm,g.a,g.b,1⟩
noncomputable def dn(g:Gap):Mt22.St:=⟨g.nm,g.b,g.a,-1⟩
noncomputable def stepsOf(G:List Gap):List Mt22.St:=G.flatMap fun g=>[up g,dn g]
theorem iF{G:List Gap}{s:Mt22.St}:s∈stepsOf G↔∃ g∈G,s=up g∨s=dn g:=by
 unfold stepsOf
 rw[List.mem_flatMap]
 simp
noncomputable def iY(m:Int)(f:Fl)(s:Mt22.St):Fl:=fun n=>if n=s.nm then f n+s.h*m else f n
theorem aRG{V:List Str}{G:List Gap}(h:Gaps V G){s:Mt22.St}(ms:s∈stepsOf G)(m:Int)(f:Fl)(v:Str):net G (iY m f s) v=net G f v+((if s.far=v then m else 0) - (if s.near=v then m else 0)):=by
 obtain⟨g0,m0,e⟩:=iF.mp ms
 have key:net G (iY m f s) v=net G f v+sm G (fun g=>if g.nm=g0.nm then ((if s.far=v then m else 0) - (if s.near=v then m else 0)) else 0):=by
  unfold net
  rw[← aFP]
  refine eU fun g mg=>?_
  unfold aED iY
  have hn:s.nm=g0.nm:=by rcases e with rfl | rfl <;> rfl
  by_cases hg:g.nm=g0.nm
  ·have eg:g=g0:=by
    have nd:=h.nd
    obtain⟨i,hi⟩:=BB.mp mg
    obtain⟨j,hj⟩:=BB.mp m0
    obtain⟨li,ei⟩:=AC.mp hi
    obtain⟨lj,ej⟩:=AC.mp hj
    have:i=j:=(EE (xs:=G.map (·.nm)) (h₀:=by rw[AA];exact li) (h₁:=by rw[AA];exact lj) nd).mp (by rw[Ca,Ca,ei,ej,hg])
    subst this
    rw[← ei,← ej]
   subst eg
   rw[if_pos hg,if_pos hn.symm]
   rcases e with rfl | rfl
   ·show (if g.b=v then f g.nm+1*m else 0) - (if g.a=v then f g.nm+1*m else 0)=(if g.b=v then f g.nm else 0) - (if g.a=v then f g.nm else 0)+((if g.b=v then m else 0) - (if g.a=v then m else 0))
    split <;> split <;> omega
   ·show (if g.b=v then f g.nm+-1*m else 0) - (if g.a=v then f g.nm+-1*m else 0)=(if g.b=v then f g.nm else 0) - (if g.a=v then f g.nm else 0)+((if g.a=v then m else 0) - (if g.b=v then m else 0))
    split <;> split <;> omega
  ·have hg':¬ g.nm=s.nm:=fun e=>hg (e.trans hn)
   simp only[if_neg hg,if_neg hg']
   omega
 rw[key,aHW h.nd m0]
theorem rQ{V:List Str}{G:List Gap}(h:Gaps V G){S ss:List Mt22.St}{z:Str}(c:Chain S ss z)(hS:∀ s∈S,s∈stepsOf G)(m:Int)(f:Fl)(v:Str):net G (ss.foldl (iY m) f) v=net G f v+((if z=v then m else 0) - (if Mt22.sea=v then m else 0)):=by
 induction c with
 | nil =>
  show net G f v=_
  omega
 | @snoc ss s c ms n ih =>
  rw[List.foldl_append]
  show net G (iY m (ss.foldl (iY m) f) s) v=_
  rw[aRG h (hS s ms),ih]
  omega
theorem aIR(m:Int)(n:Str):∀ (ss:List Mt22.St) (f:Fl),(ss.foldl (iY m) f) n=f n+m*sm ss (fun s=>if s.nm=n then s.h else 0)
 | [],f=>by rw[lM,Int.mul_zero,Int.add_zero];rfl
 | s :: ss,f=>by
  show (ss.foldl (iY m) (iY m f s)) n=_
  rw[aIR m n ss,bF,Int.mul_add]
  unfold iY
  by_cases e:s.nm=n
  ·rw[if_pos e,if_pos e.symm,Int.mul_comm m s.h]
   omega
  ·rw[if_neg e,if_neg (fun q=>e q.symm),Int.mul_zero]
   omega
theorem aRS{V:List Str}{G:List Gap}(h:Gaps V G){g g':Gap}(m:g∈G)(m':g'∈G)(e:g.nm=g'.nm):g=g':=by
 obtain⟨i,hi⟩:=BB.mp m
 obtain⟨j,hj⟩:=BB.mp m'
 obtain⟨li,ei⟩:=AC.mp hi
 obtain⟨lj,ej⟩:=AC.mp hj
 have:i=j:=(EE (xs:=G.map (·.nm)) (h₀:=by rw[AA];exact li) (h₁:=by rw[AA];exact lj) h.nd).mp (by rw[Ca,Ca,ei,ej,e])
 subst this
 rw[← ei,← ej]
instance stDec:DecidableEq Mt22.St:=fun a b=>decidable_of_iff (a.nm=b.nm∧a.near=b.near∧a.far=b.far∧a.h=b.h) (by
 cases a;cases b;simp)
theorem aDH{V:List Str}{G:List Gap}(h:Gaps V G){g:Gap}(mg:g∈G):∀ {ss:List Mt22.St},(∀ s∈ss,s∈stepsOf G)→ss.Nodup→sm ss (fun s=>if s.nm=g.nm then s.h else 0)=(if up g∈ss then 1 else 0) - (if dn g∈ss then 1 else 0)
 | [],_,_=>by simp[lM]
 | s :: ss,hs,nd=>by
  rw[Aj] at nd
  rw[bF,aDH h mg (fun t m=>hs t (AJ _ m)) nd.2]
  have ne:up g≠dn g:=fun e=>by
   have:=congrArg Mt22.St.h e
   exact absurd this (by show (1:Int)≠-1;decide)
  by_cases e:s.nm=g.nm
  ·obtain⟨g',m',e'⟩:=iF.mp (hs s AO)
   have eg:g'=g:=aRS h m' mg (by rcases e' with rfl | rfl <;> exact e)
   subst eg
   rcases e' with rfl | rfl
   ·rw[if_pos e,if_pos AO,if_neg nd.1]
    have:(dn g'∈up g' :: ss)↔dn g'∈ss:=by simp[Ne.symm ne]
    simp only[this]
    show (1:Int)+_=_
    omega
   ·rw[if_pos e,if_pos (show dn g'∈dn g' :: ss from AO),if_neg nd.1]
    have:(up g'∈dn g' :: ss)↔up g'∈ss:=by simp[ne]
    simp only[this]
    show (-1:Int)+_=_
    omega
  ·have n1:s≠up g:=fun q=>e (by rw[q];rfl)
   have n2:s≠dn g:=fun q=>e (by rw[q];rfl)
   have:(up g∈s :: ss)↔up g∈ss:=by simp[Ne.symm n1]
   have h2:(dn g∈s :: ss)↔dn g∈ss:=by simp[Ne.symm n2]
   simp only[this,h2,if_neg e]
   omega
noncomputable def qV(G:List Gap)(n:Str):Int:=sm G fun g=>if g.nm=n then g.cap else 0
theorem mY{V:List Str}{G:List Gap}(h:Gaps V G){g:Gap}(m:g∈G):qV G g.nm=g.cap:=aHW h.nd m (·.cap)
noncomputable def room(G:List Gap)(f:Fl)(s:Mt22.St):Int:=qV G s.nm - s.h*f s.nm
theorem aHY{V:List Str}{G:List Gap}(h:Gaps V G){g:Gap}(m:g∈G)(f:Fl):room G f (up g)=g.cap - f g.nm:=by
 show qV G g.nm - 1*f g.nm=_
 rw[mY h m]
 omega
theorem aHZ{V:List Str}{G:List Gap}(h:Gaps V G){g:Gap}(m:g∈G)(f:Fl):room G f (dn g)=g.cap+f g.nm:=by
 show qV G g.nm - -1*f g.nm=_
 rw[mY h m]
 omega
theorem aGS{V:List Str}{G:List Gap}(h:Gaps V G){S ss:List Mt22.St}{z:Str}(c:Chain S ss z)(hS:∀ s∈S,s∈stepsOf G){m:Int}(m0:0≤m){f:Fl}(hf:aHE G f)(hr:∀ s∈ss,m≤room G f s):aHE G (ss.foldl (iY m) f):=fun g mg=>by
 obtain⟨f1,f2⟩:=hf g mg
 obtain⟨sub,nd⟩:=zW c
 have nd':ss.Nodup:=by
  rw[CM]
  exact ((List.pairwise_map.mp (CM.mp nd))).imp fun hne e=>hne (by rw[e])
 rw[aIR,aDH h mg (fun s ms=>hS s (sub s ms)) nd']
 have r1:up g∈ss→m≤g.cap - f g.nm:=fun q=>by have:=hr _ q;rwa [aHY h mg] at this
 have r2:dn g∈ss→m≤g.cap+f g.nm:=fun q=>by have:=hr _ q;rwa [aHZ h mg] at this
 by_cases u:up g∈ss <;> by_cases d:dn g∈ss
 ·rw[if_pos u,if_pos d];have:=r1 u;have:=r2 d;omega
 ·rw[if_pos u,if_neg d];have:=r1 u;omega
 ·rw[if_neg u,if_pos d];have:=r2 d;omega
 ·rw[if_neg u,if_neg d];omega
structure Stream (V:List Str) (G:List Gap) (ws:List Str) (f:Fl):Prop where
 fits:aHE G f
 zero:∀ v∈V,v≠Mt22.sea→v∉ws→net G f v=0
 gain:∀ v∈ws,0≤net G f v
theorem Stream.none{V:List Str}{G:List Gap}(h:Gaps V G)(ws:List Str){f:Fl}(hf:∀ g∈G,f g.nm=0):Stream V G ws f:=by
 have z:∀ v,net G f v=0:=fun v=>fH fun g m=>by
  unfold aED
  rw[hf g m]
  simp
 refine⟨fun g m=>?_,fun v _ _ _=>z v,fun v _=>by rw[z v];exact Ef _⟩
 have:=h.cap g m
 rw[hf g m]
 omega
theorem Stream.more{V:List Str}{G:List Gap}(h:Gaps V G){ws:List Str}{f:Fl}(st:Stream V G ws f){S ss:List Mt22.St}{z:Str}(c:Chain S ss z)(hS:∀ s∈S,s∈stepsOf G){m:Int}(m0:0≤m)(hr:∀ s∈ss,m≤room G f s)(mz:z∈ws)(ns:Mt22.sea∉ws) :
  Stream V G ws (ss.foldl (iY m) f)∧val G (ss.foldl (iY m) f)=val G f+m:=by
 have zs:z≠Mt22.sea:=fun e=>ns (e▸mz)
 refine⟨⟨aGS h c hS m0 st.fits hr,fun v mv hv hw=>?_,fun v mv=>?_⟩,?_⟩
 ·rw[rQ h c hS,st.zero v mv hv hw,if_neg (show ¬ z=v from fun e=>hw (e▸mz)),if_neg (show ¬ Mt22.sea=v from fun e=>hv e.symm)]
  rfl
 ·rw[rQ h c hS,if_neg (show ¬ Mt22.sea=v from fun e=>ns (e▸mv))]
  have:=st.gain v mv
  split <;> omega
 ·unfold val
  rw[rQ h c hS,if_neg zs,if_pos rfl]
  omega
noncomputable def total(G:List Gap):Int:=sm G (·.cap)
theorem aJI{V:List Str}{G:List Gap}(h:Gaps V G){f:Fl}(hf:aHE G f):val G f≤total G:=by
 unfold val net total
 have:sm G (aED f Mt22.sea)≥sm G (fun g=>0 - g.cap):=vC fun g m=>by
  obtain⟨f1,f2⟩:=hf g m
  obtain⟨_,_,ne⟩:=h.ends g m
  have:=h.cap g m
  unfold aED
  by_cases e1:g.b=Mt22.sea <;> by_cases e2:g.a=Mt22.sea
  ·exact absurd (e2.trans e1.symm) ne
  ·rw[if_pos e1,if_neg e2];omega
  ·rw[if_neg e1,if_pos e2];omega
  ·rw[if_neg e1,if_neg e2];omega
 rw[aFO,fH (f:=fun _=>(0:Int)) (fun _ _=>rfl)] at this
 have e:(sm G fun x=>x.cap)=sm G Gap.cap:=rfl
 omega
structure Round (G:List Gap) (f:Fl) (ws R B:List Str):Prop where
 sea:Mt22.sea∈R
 closed:∀ s∈stepsOf G,0<room G f s→s.near∈R→s.far∈R
 wout:∀ z∈ws,z∉R
 win:∀ z∈ws,z∈B
 bout:∀ z∈B,z∉R
 bclosed:∀ s∈stepsOf G,s.far∉R→s.near∈B→s.far∈B
instance memStr (z:Str) (l:List Str):Decidable (z∈l):=inferInstance
noncomputable def inB(B:List Str):Str→Bool:=fun z=>decide (z∈B)
theorem pF{V:List Str}{G:List Gap}(h:Gaps V G){f:Fl}(hf:aHE G f){ws R B:List Str}(r:Round G f ws R B){g:Gap}(m:g∈G) :
  (g.a∉B→g.b∈B→g.a∈R∧f g.nm=g.cap)∧(g.a∈B→g.b∉B→g.b∈R∧f g.nm=-g.cap):=by
 obtain⟨f1,f2⟩:=hf g m
 have mu:up g∈stepsOf G:=iF.mpr ⟨g,m,.inl rfl⟩
 have md:dn g∈stepsOf G:=iF.mpr ⟨g,m,.inr rfl⟩
 refine⟨fun ha hb=>?_,fun ha hb=>?_⟩
 ·have aR:g.a∈R:=De fun n=>ha (r.bclosed _ md n hb)
  refine⟨aR,?_⟩
  have:¬ 0<room G f (up g):=fun q=>r.bout _ hb (r.closed _ mu q aR)
  rw[aHY h m] at this
  omega
 ·have bR:g.b∈R:=De fun n=>hb (r.bclosed _ mu n ha)
  refine⟨bR,?_⟩
  have:¬ 0<room G f (dn g):=fun q=>r.bout _ ha (r.closed _ md q bR)
  rw[aHZ h m] at this
  omega
theorem yS{V:List Str}{G:List Gap}(h:Gaps V G){f:Fl}{ws R B:List Str}(st:Stream V G ws f)(r:Round G f ws R B):val G f=cut G (inB B):=by
 have sB:Mt22.sea∉B:=fun m=>r.bout _ m r.sea
 refine aTK h (decide_eq_false sB) (fun v mv hv hX=>?_) (fun g m ha hb=>?_) (fun g m ha hb=>?_)
 ·exact st.zero v mv hv fun w=>(of_decide_eq_false hX) (r.win v w)
 ·exact ((pF h st.fits r m).1 (of_decide_eq_false ha) (of_decide_eq_true hb)).2
 ·exact ((pF h st.fits r m).2 (of_decide_eq_true ha) (of_decide_eq_false hb)).2
noncomputable def eR(G:List Gap)(R B:List Str):List Mt22.St:=(stepsOf G).filter fun s=>decide (s.near∈R) && decide (s.far∈B)
theorem aFT{V:List Str}{G:List Gap}(h:Gaps V G){f:Fl}{ws R B:List Str}(st:Stream V G ws f)(r:Round G f ws R B):sm (eR G R B) (fun s=>qV G s.nm)=val G f:=by
 rw[yS h st r]
 unfold eR cut stepsOf
 rw[nJ]
 have key:∀ G':List Gap,(∀ g∈G',g∈G)→sm (G'.flatMap fun g=>[up g,dn g]) (fun s=>if (decide (s.near∈R) && decide (s.far∈B))=true then qV G s.nm else 0)=sm G' (oU (inB B)):=by
  intro G'
  induction G' with
  | nil=>intro _;rfl
  | cons g G' ih =>
   intro sub
   have m:=sub g AO
   rw[Du,vD,ih fun x mx=>sub x (AJ _ mx),bF g]
   congr 1
   rw[bF,bF,lM]
   show (if (decide (g.a∈R) && decide (g.b∈B))=true then qV G g.nm else 0)+((if (decide (g.b∈R) && decide (g.a∈B))=true then qV G g.nm else 0)+0)=(if decide (g.a∈B)=decide (g.b∈B) then 0 else g.cap)
   rw[mY h m]
   obtain⟨e1,e2⟩:=pF h st.fits r m
   by_cases ha:g.a∈B <;> by_cases hb:g.b∈B
   ·have:=r.bout _ ha
    have:=r.bout _ hb
    simp[*]
   ·have:=r.bout _ ha
    have:=(e2 ha hb).1
    simp[*]
   ·have:=r.bout _ hb
    have:=(e1 ha hb).1
    simp[*]
   ·simp[*]
 exact key G fun g m=>m
def fS(G:List Gap)(ws:List Str)(c:Int):Prop:=(∃ X:Str→Bool,X Mt22.sea=false∧(∀ z∈ws,X z=true)∧cut G X=c)∧∀ X:Str→Bool,X Mt22.sea=false→(∀ z∈ws,X z=true)→c≤cut G X
theorem tH{V:List Str}{G:List Gap}(h:Gaps V G){f:Fl}{ws R B:List Str}(st:Stream V G ws f)(r:Round G f ws R B):fS G ws (val G f):=by
 refine⟨⟨inB B,decide_eq_false fun m=>r.bout _ m r.sea,fun z m=>decide_eq_true (r.win z m),(yS h st r).symm⟩,fun X hs hw=>?_⟩
 refine aTJ h st.fits hs fun v mv hv hX=>st.zero v mv hv fun w=>?_
 rw[hw v w] at hX
 cases hX
theorem fS.uniq{G:List Gap}{ws:List Str}{c d:Int}(h:fS G ws c)(h':fS G ws d):c=d:=by
 obtain⟨⟨X,s,w,e⟩,a⟩:=h
 obtain⟨⟨X',s',w',e'⟩,a'⟩:=h'
 have:=a X' s' w'
 have:=a' X s w
 omega
end Mt61
namespace L2
open PySem PySem.Spec PyProof.Rows
def aZS(l:List Nat):Prop:=∀ i k,i<k→k<l.length→l.getD i 0<l.getD k 0
structure Ris (t:SetTable):Prop where
 no:t.dummies=#[]
 up:aZS t.place.toList
end L2
namespace L2
open PySem PySem.Spec PyProof.Rows
section
variable{P:Program}{w:World}{A:Around}{E:Value→Shared→Prop}{s:Shared}
end
end L2
namespace L2
open PySem PySem.Spec PyProof.Rows
section
variable{P:Program}{w:World}{A:Around}{E:Value→Shared→Prop}{s:Shared}
end
section
variable{P:Program}{w:World}{A:Around}{R:Result→Shared→Prop}{I:Addr}{fp wr:List Addr}{G:Array Dm→Array Dm→Prop}{n:Nat}{Pv:Nat→Value→Prop}{Stt:Nat→Shared→Prop}
end
section
variable{P:Program}{w:World}{A:Around}{E:Value→Shared→Prop}{s:Shared}
end
end L2
namespace L2
open PySem PySem.Spec PyProof.Rows
section
variable{P:Program}{w:World}{A:Around}{E:Value→Shared→Prop}{s:Shared}{it a:Addr}{o:Obj}{es:Array (Int×Value)}{ep:Nat}{t:SetTable}
end
end L2
namespace L2
open PySem PySem.Spec PyProof.Rows
section
variable{P:Program}{w:World}{A:Around}{E:Value→Shared→Prop}{s:Shared}{it a:Addr}{o:Obj}{es:Array (Int×Value)}{ep:Nat}{t:SetTable}
end
end L2
namespace L2
open PySem PySem.Spec PyProof.Rows
section
variable{P:Program}{w:World}{A:Around}{E:Value→Shared→Prop}{s:Shared}{a:Addr}{ks:List Key}
end
end L2
namespace L2
open PySem PySem.Spec PyProof.Rows
theorem aCL:BM "sorted"=some (.builtin "sorted"):=by decide +kernel
section
variable{X:Cx}{pins:List (Addr×Obj)}{σ:List (Option V)}{H:Hp}{s:Shared}
end
end L2
namespace L2
open PySem PySem.Spec PyProof.Rows PySem.W
section
variable{P:Program}{w:World}{K:AE}{mg:Str→Option Value}{base:Heap}
theorem aNR{k:Nat}{f:Addr}{name qual:Str}{params:Dy}{body:Expr}{scope:Scope}{pm cdv ct:Value}{o:Obj}{N ps:List Str}
 {A:Around}{outer:List Env}{s:Shared}{H:Hp}{args:Args}{us:List Value}{vs:List V}{Q:VK}
 (hr:Room (k+1) A)(e0:Env0 P w K mg base A outer s H)(ho:s.heap.get? f=some o)(hd:o.data=.func (kla_fn name qual params body scope [] pm cdv ct))(hcd:s.heap.CodeRec cdv qual)(S:FnScope N ps scope)
 (hb:BindsTo s (kla_fn name qual params body scope [] pm cdv ct) args (ps.zip us))(r:bD vs us)(hl:vs.length=ps.length)
 (hbody:Room k (A.deeper (envOfC qual scope s.heap.objs.size f cdv))→∃ t:TE,PE (gZ CX0 P w K mg base N qual scope f cdv A outer s H E0).nox body t∧t (start N vs) H Q) :
  codeAny (model P w) A (.call (.ref f) args) (CR CX0 outer P w H s Q E0) s:=by
 have lim:s.heap.NoLimit:=e0.mod.nolimit.keeps fun b o e=>(e0.bs b o e).1
 have hkind:∀ y∈ps.zip us,scope.names.lookup y.1=some .local∨(scope.names.lookup y.1=some .cell∧((cellsFrom (s.heap.objs.size+1) scope.names []).lookup y.1).isSome=true):=fun⟨n,v⟩ hy=>by
  rcases S.par n (EQ hy).1 with q | q
  ·exact .inl q
  ·exact .inr ⟨q,ED _ _ _ (.inl q)⟩
 refine kla_callFunE hr.depth ho hd S.co S.gen rfl hcd (hb _ _ _ _ ?_)
 refine wpAny_newFunctionEnv_cells S.kind hkind fun env he s1 x=>?_
 subst he
 refine⟨lim.keeps x.toInCall.keep,kla_codeExpr ?_⟩
 obtain⟨t,ht,hq⟩:=hbody (hr.deeper _)
 have I:Inv (gZ CX0 P w K mg base N qual scope f cdv A outer s H E0) [] (start N vs) H s1:=zL S hr.hd e0 hl r x
 have I':Inv (gZ CX0 P w K mg base N qual scope f cdv A outer s H E0).nox [] (start N vs) H s1:=⟨⟨I.ok.mod,I.ok.kind,I.ok.glob,I.ok.blt,I.ok.above,I.ok.inj,I.ok.has,I.ok.cab,I.ok.hd,I.ok.frames,I.ok.stk,I.ok.exf,I.ok.bs,I.ok.bsz,I.ok.noex,I.ok.exfs,I.ok.funs,I.ok.frf⟩,I.os,I.bare,I.base,I.loc,I.cell,I.free,I.freeC,I.pin,I.hok,I.len⟩
 refine Az (ht [] s1 (start N vs) H _ I' hq) (fun u s' hs=>?_) fun e s' hs=>BF hs
 obtain⟨v,H',J,rv,q⟩:=hs
 exact⟨v,H',J.os,J.bare,J.base,J.hok,rv,q⟩
end
end L2
namespace L2
open PySem PySem.Spec PyProof.Rows PySem.W
def eE(T:Addr)(H H':Hp):Prop:=∀ b o,b≠T→H b=some o→H' b=some o
theorem eE.trans{T:Addr}{H H1 H2:Hp}(a:eE T H H1)(b:eE T H1 H2):eE T H H2:=fun x o n e=>b x o n (a x o n e)
noncomputable def oV(qual:Str)(c:Addr):HO:=.ext fun h=>h.CodeRec (.ref c) qual
noncomputable def uK(name qual:Str)(params:Dy)(body:Expr)(scope:Scope)(c f:Addr):HO:=.ext fun h=>∃ pm ctv,h.get? f=some (kla_obj name qual params body scope [] pm c ctv)
theorem oV.ok{P:Program}{w:World}{H:Hp}{h:Heap}{q:Str}{c:Addr}(x:h.CodeRec (.ref c) q):bS P w H h c (oV q c):=by
 refine⟨x,?_,fun h1 h2 y k=>?_⟩
 ·obtain⟨c',oc,vs,t,e,ho,_⟩:=x
  cases e
  exact⟨oc,ho⟩
 ·obtain⟨c',oc,vs,t,e,ho,r⟩:=y
  cases e
  exact⟨_,oc,vs,t,rfl,k _ ho,r⟩
theorem uK.ok{P:Program}{w:World}{H:Hp}{h:Heap}{n q:Str}{ps:Dy}{b:Expr}{sc:Scope}{c f:Addr}{pm ctv:Value}(x:h.get? f=some (kla_obj n q ps b sc [] pm c ctv)):bS P w H h f (uK n q ps b sc c f) :=
 ⟨⟨pm,ctv,x⟩,⟨_,x⟩,fun h1 h2 ⟨p,v,y⟩ k=>⟨p,v,k _ y⟩⟩
def kE(T:Addr)(pos:Pos)(qual:Str)(H:Hp):Prop :=
 ∃ ps,H T=some (.tbl ps)∧TriplesOk ps.toList∧(codeAmong pos ps.toList=none∨∃ c',codeAmong pos ps.toList=some (.ref c')∧H c'=some (oV qual c'))
theorem kE.keep{T:Addr}{pos:Pos}{qual:Str}{H H':Hp}(x:kE T pos qual H)(k:∀ b o,H b=some o→H' b=some o):kE T pos qual H':=by
 obtain⟨ps,e,t,r⟩:=x
 refine⟨ps,k _ _ e,t,r.imp id fun⟨c,e1,e2⟩=>⟨c,e1,k _ _ e2⟩⟩
theorem sS:∀ (l:List Value) {m:List Value},TriplesOk m→TriplesOk l→TriplesOk (l++m)
 | [],_,h,_=>h
 | [a],_,_,h=>by cases a <;> exact BF h
 | [a,b],_,_,h=>by cases a <;> cases b <;> exact BF h
 | a :: b :: c :: r,m,h1,h2=>by
  cases a <;> first | exact BF h2 | (cases b <;> first | exact BF h2 | exact sS r h1 h2)
structure TabB (K:AE) (mg:Str→Option Value) (base:Heap) (x:Str) (c T:Addr):Prop where
 bm:∃ bm ob,mg "__builtins__"=some (.ref bm)∧bm≠builtinsNs∧base.get? bm=some ob∧ob.cls=.type "module"∧ob.dict=some builtinsNs∧ob.data=.plain
 hd:CodeHd base c T
 cd:∀ (fa:Addr) (o:Obj) (fd:Ba),mg x=some (.ref fa)→K.lookup fa=some o→o.data=.func fd→fd.code=.ref c
section
variable{X:Cx}{T c:Addr}{qual:Str}{params:Dy}{body:Expr}{scope:Scope}{pos:Pos}
def aWT(T:Addr)(pos:Pos)(qual:Str)(params:Dy)(body:Expr)(scope:Scope):TE:=fun σ H Q=>kE T pos qual H ∧
 ∀ (f c':Addr) (H':Hp),eE T H H'→kE T pos qual H'→H' c'=some (oV qual c')→H' f=some (uK "<lambda>" qual params body scope c' f)→Q (.ref f) H'
theorem aUU{x:Str}(B:TabB X.K X.mg X.base x c T)(hc:X.env.code=.ref c)(hq:X.env.qual++"<lambda>"=qual)(hcl:FM scope X.env=pure [])(hdef:defaultsOf params X.env=([],[])) :
  PE X (.Lambda params body scope pos) (aWT T pos qual params body scope):=by
 intro pins s σ H Q I h
 obtain⟨⟨ps,eT,tr,hit⟩,q⟩:=h
 subst hq
 have gP:s.heap.get? T=some (tabObj ps):=I.hok T _ eT
 have hgs:=I.mod.glob.keeps I.bk
 obtain⟨bm,ob,b1,b2,b3,b4,b5,b6⟩:=B.bm
 have hgP:CH≠T:=fun z=>by
  obtain⟨o,es,ep,e,hd,_⟩:=hgs
  rw[z,gP] at e;cases e;cases hd
 have hbP:bm≠T:=fun z=>by
  have e:=I.bk _ _ b3
  rw[z,gP] at e;cases e;cases b4
 have hbG:bm≠CH:=fun z=>by
  obtain⟨o,es,ep,e,hd,_⟩:=I.mod.glob
  rw[z,e] at b3;cases b3;rw[hd] at b6;cases b6
 have bl:s.heap.BuiltinsAt X.mg T:=⟨bm,ob,b1,b2,hbG,hbP,I.bk _ _ b3,b4,b5,b6⟩
 have nT:∀ b,H b=none→b≠T:=fun b n z=>by rw[z,eT] at n;cases n
 refine kla_eval hdef ?_
 rcases hit with hn | ⟨c',hf,ec⟩
 ·refine kla_makeFunction (mg:=X.mg) hcl I.ok.glob hgs hc (B.hd.keeps I.bk) gP tr hn hgP bl fun c' ctv h' tk hx hge hlt hrec htb=>?_
  have gf:(h'.push (kla_obj "<lambda>" (X.env.qual++"<lambda>") params body scope [] ((X.mg "__name__").getD .none) c' ctv)).get? h'.objs.size=some (kla_obj "<lambda>" (X.env.qual++"<lambda>") params body scope [] ((X.mg "__name__").getD .none) c' ctv):=AZ _ rfl
  generalize hob:kla_obj "<lambda>" (X.env.qual++"<lambda>") params body scope [] ((X.mg "__name__").getD .none) c' ctv=obF at gf
  have keep:∀ b o,b≠T→s.heap.get? b=some o→(h'.push obF).get? b=some o:=fun b o n e=>AF _ (hx b o n e)
  have lt:∀ b o,s.heap.get? b=some o→b≠c'∧b≠h'.objs.size:=fun b o e=>⟨Ad (Ae (AW e) hge),Ad (Dl (Ae (AW e) hge) hlt)⟩
  have fresh:∀ b o,H b=some o→b≠c'∧b≠h'.objs.size:=fun b o e=>by
   have:=I.hok.lt e
   exact⟨Ad (Ae this hge),Ad (Dl (Ae this hge) hlt)⟩
  have cT:c'≠T:=Ne.symm (fresh T _ eT).1
  have fT:h'.objs.size≠T:=Ne.symm (fresh T _ eT).2
  have cf:c'≠h'.objs.size:=Ad hlt
  let ps':=ps++#[rawInt pos.line,rawInt pos.col,.ref c']
  let H1:=upd (upd (upd H T (.tbl ps')) c' (oV (X.env.qual++"<lambda>") c')) h'.objs.size (uK "<lambda>" (X.env.qual++"<lambda>") params body scope c' h'.objs.size)
  have up:∀ b,b≠T→b≠c'→b≠h'.objs.size→H1 b=H b:=fun b n1 n2 n3=>by
   show upd _ _ _ b=_
   rw[aI n3,aI n2,aI n1]
  have eT1:H1 T=some (.tbl ps'):=by
   show upd _ _ _ T=_
   rw[aI (Ne.symm fT),aI (Ne.symm cT),aC]
  have ec1:H1 c'=some (oV (X.env.qual++"<lambda>") c'):=by
   show upd _ _ _ c'=_
   rw[aI cf,aC]
  have ef1:H1 h'.objs.size=some (uK "<lambda>" (X.env.qual++"<lambda>") params body scope c' h'.objs.size):=aC
  have KB:eE T H H1:=fun b o n e=>by rw[up b n (fresh b o e).1 (fresh b o e).2];exact e
  have hok:HOk X.prog X.w H1 (h'.push obF):=fun b u e=>by
   by_cases z1:b=h'.objs.size
   ·subst z1
    rw[ef1] at e
    cases e
    exact uK.ok (pm:=(X.mg "__name__").getD .none) (ctv:=ctv) (by rw[gf,hob])
   ·by_cases z2:b=c'
    ·subst z2
     rw[ec1] at e
     cases e
     obtain⟨_,oc,vs,t,e1,ho,r⟩:=hrec
     cases e1
     exact oV.ok ⟨_,oc,vs,t,rfl,AF _ ho,r⟩
    ·by_cases z3:b=T
     ·subst z3
      rw[eT1] at e
      cases e
      show (h'.push obF).get? b=some _
      exact AF _ htb
     ·rw[up b z3 z2 z1] at e
      refine (I.hok b u e).stay (fun d v hd g=>keep d v (fun z=>?_) g) (fun d z=>KB d _ (fun zz=>by rw[zz,eT] at z;cases z) z) fun d xs z=>KB d _ (fun zz=>by rw[zz,eT] at z;cases z) z
      rcases hd with hd | hd
      ·exact z3 (hd▸z)
      ·rw[z,eT] at hd;cases hd
  have I1:Inv X pins σ H1 { s with heap:=h'.push obF,toks:=tk }:=by
   refine I.step (g':=s.gens) (d':=s.drawn) (ch:=[]) (fun _ z=>nomatch z) (fun b o _ _ _ e n=>keep b o (nT b n) e) (fun b o _ _ _ e n=>⟨o.slots,keep b o (nT b n) e⟩)
    (fun b o _ e n=>by rw[up b (nT b n) (lt b o e).1 (lt b o e).2];exact n) (fun b o _ e=>?_) (fun b xs e=>KB b _ (fun z=>by rw[z,eT] at e;cases e) e) (fun b o u e=>KB b _ (fun z=>by rw[z,eT] at e;cases e) e)
    (fun b qs e=>?_) (fun m hm=>?_) hok I.bare
   ·by_cases z:b=T
    ·subst z
     exact⟨_,AF _ htb⟩
    ·exact⟨o,keep b o z e⟩
   ·by_cases z:b=T
    ·subst z
     rw[eT] at e
     cases e
     exact⟨_,eT1⟩
    ·exact⟨#[],by rw[KB b _ z e];simp⟩
   ·exact (hm.extBut hx (nT _ I.free)).push _
  refine⟨.ref h'.objs.size,H1,?_,rfl,q _ c' H1 KB ⟨ps',eT1,?_,.inr ⟨c',?_,ec1⟩⟩ ec1 ef1⟩
  ·exact I1
  ·show TriplesOk (ps++#[rawInt pos.line,rawInt pos.col,.ref c']).toList
   rw[Array.toList_append]
   generalize ps.toList=l at tr
   clear up eT1 hok KB I1 fresh lt keep q gP hn hlt hge cf fT cT ec1 ef1 hx hrec htb gf hob bl eT
   revert tr
   refine sS l ?_
   exact trivial
  ·show codeAmong pos (ps++#[rawInt pos.line,rawInt pos.col,.ref c']).toList=_
   rw[Array.toList_append]
   exact codeAmong_snoc _ tr hn
 ·refine kla_makeFunctionHit (mg:=X.mg) hcl I.ok.glob hgs hc (B.hd.keeps I.bk) gP tr hf bl fun ctv h' tk hk hsz=>?_
  have gf:(h'.push (kla_obj "<lambda>" (X.env.qual++"<lambda>") params body scope [] ((X.mg "__name__").getD .none) c' ctv)).get? h'.objs.size=some (kla_obj "<lambda>" (X.env.qual++"<lambda>") params body scope [] ((X.mg "__name__").getD .none) c' ctv):=AZ _ rfl
  refine⟨.ref h'.objs.size,_,I.laid (a:=h'.objs.size) (o:=uK "<lambda>" (X.env.qual++"<lambda>") params body scope c' h'.objs.size) (t':=tk) (fun b o e=>AF _ (hk b o e)) hsz (uK.ok gf),rfl,?_⟩
  have fr:=I.hok.fresh hsz
  have KS:∀ b o,H b=some o→upd H h'.objs.size (uK "<lambda>" (X.env.qual++"<lambda>") params body scope c' h'.objs.size) b=some o:=fun b o e=>by rw[aI (aN e fr)];exact e
  exact q _ c' _ (fun b o _ e=>KS b o e) (kE.keep ⟨ps,eT,tr,.inr ⟨c',hf,ec⟩⟩ KS) (KS _ _ ec) aC
end
end L2
namespace HT
open PySem PyProof.Rows
section
open PySem.SeqAt
open PySem.AutoSeq1 (wpAny_loadPart')
open PySem.MeetsSeq PySem.MeetsSeq2 PySem.MeetsSeq3
theorem mT:∀ {vs:List Value} {ns:List Int} (i:Nat),IntsAre vs ns→i<vs.length→∃ a t,vs[i]?=some (.int a t)∧ns[i]?=some a
 | _,_,_,.nil,h=>by simp at h
 | _,_,0,.cons a t r,_=>⟨a,t,rfl,rfl⟩
 | _,_,i+1,.cons a t r,h=>mT i r (by simpa using h)
theorem aBT(l b:Addr)(items items2:Array Value)(n n2:Nat)(dd dd2:Option Addr)(sl sl2:Array (Option Value))(ns ms:List Int)(hi:IntsAre items.toList ns)(hj:IntsAre items2.toList ms)(k:Nat) :
  ∀ i:Nat,items.size - i=k→Meets (Builtin.«list.__eq__.loop» ⟨[.ref l,.ref b,rawInt i,rawInt 0],[]⟩)
   (fun A R s=>s.heap.get? l=some { cls:=.type "list",dict:=dd,data:=.seq items n,slots:=sl }∧s.heap.get? b=some { cls:=.type "list",dict:=dd2,data:=.seq items2 n2,slots:=sl2 } ∧
    i≤items.size∧i≤items2.size∧R (.ok (.ret (.bool (lexLt (ns.drop i) (ms.drop i))))) s):=by
 have z1:items.size=ns.length:=by rw[← hi.length];simp
 have z2:items2.size=ms.length:=by rw[← hj.length];simp
 induction k with
 | zero =>
  intro i hk prog w A R s h
  obtain⟨hp,g,d,tk,os⟩:=s;obtain⟨hl,hb,hi1,hi2,h⟩:=h
  wp_walk using Bi hl,Bi hb
  have hi1:items[((i:Nat):Int).toNat]?=none:=by simp;omega
  rw[hi1]
  wp_walk using Bi hl,Bi hb
  show R (.ok (.ret (.bool (decide (items.size<items2.size))))) _
  rw[Ch (as:=ns) (by omega)] at h
  have e:lexLt [] (ms.drop i)=decide (items.size<items2.size):=by
   by_cases q:i<ms.length
   ·rw[Dr q,wL]
    exact (decide_eq_true (by omega)).symm
   ·rw[Ch (by omega),xY]
    exact (decide_eq_false (by omega)).symm
  rw[e] at h
  exact h
 | succ k ih =>
  intro i hk prog w A R s h
  obtain⟨hp,g,d,tk,os⟩:=s;obtain⟨hl,hb,l1,l2,h⟩:=h
  have hlt:i<items.size:=by omega
  obtain⟨a,t,e1,f1⟩:=mT i hi (by rw[Bc];exact hlt)
  have hn:i<ns.length:=by omega
  have hi1:items[((i:Nat):Int).toNat]?=some (.int a t):=by
   rw[show ((i:Nat):Int).toNat=i by simp,← CN];exact e1
  have dn:ns.drop i=a :: ns.drop (i+1):=by
   rw[Dr hn]
   rw[AB hn] at f1
   rw[Ao f1]
  rw[dn] at h
  wp_walk using Bi hl,Bi hb
  rw[hi1]
  by_cases q:i<items2.size
  ·obtain⟨c,u,e2,f2⟩:=mT i hj (by rw[Bc];exact q)
   have hm:i<ms.length:=by omega
   have hi2:items2[((i:Nat):Int).toNat]?=some (.int c u):=by
    rw[show ((i:Nat):Int).toNat=i by simp,← CN];exact e2
   have dm:ms.drop i=c :: ms.drop (i+1):=by
    rw[Dr hm]
    rw[AB hm] at f2
    rw[Ao f2]
   rw[dm,lexLt_cons] at h
   rw[hi2]
   obtain⟨e,he,hiff⟩:=aOQ A.in1 ⟨hp,g,d,tk,os⟩ a t c u
   have hc:((i:Int)+1)=((i+1:Nat):Int):=by push_cast;rfl
   refine AD (he prog w _ _ ?_)
   cases e with
   | true =>
    rw[if_pos (hiff.mp rfl)] at h
    wp_walk
    rw[hc]
    exact⟨Cb plain_eq_loop _,By entry_eq_loop (by
     rw[Bq plain_eq_loop _]
     exact ih (i+1) (by omega) prog w A R _ ⟨hl,hb,by omega,by omega,h⟩)⟩
   | false =>
    rw[if_neg (fun z=>absurd (hiff.mpr z) AQ)] at h
    have hri:=aMQ A.in1 ⟨hp,g,d,tk,os⟩ a t c u prog w
    wp_walk using Bi hl,Bi hb
    rw[hi1,hi2]
    wp_walk using hri
    exact h
  ·have hi2:items2[((i:Nat):Int).toNat]?=none:=by simp;omega
   rw[hi2]
   wp_walk using Bi hl,Bi hb
   show R (.ok (.ret (.bool (decide (items.size<items2.size))))) _
   rw[Ch (as:=ms) (by omega),wM] at h
   rw[decide_eq_false (by omega)]
   exact h
theorem aBU(l b:Addr)(items items2:Array Value)(n n2:Nat)(dd dd2:Option Addr)(sl sl2:Array (Option Value))(ns ms:List Int)(hi:IntsAre items.toList ns)(hj:IntsAre items2.toList ms) :
  Meets (Builtin.«list.__lt__» ⟨[.ref l,.ref b],[]⟩)
   (fun A R s=>s.heap.get? l=some { cls:=.type "list",dict:=dd,data:=.seq items n,slots:=sl }∧s.heap.get? b=some { cls:=.type "list",dict:=dd2,data:=.seq items2 n2,slots:=sl2 } ∧
    R (.ok (.ret (.bool (lexLt ns ms)))) s):=by
 intro prog w A R s h
 obtain⟨hp,g,d,tk,os⟩:=s;obtain⟨hl,hb,h⟩:=h
 have f3:=AutoSeq1.sub_list_list
 wp_walk using Bi hl,Bi hb
 exact⟨Cb plain_eq_loop _,By entry_eq_loop (by
  rw[Bq plain_eq_loop _]
  exact aBT l b items items2 n n2 dd dd2 sl sl2 ns ms hi hj _ 0 rfl prog w A R _ ⟨hl,hb,BN _,BN _,by simpa using h⟩)⟩
end
section
variable{prog:Program}{w:World}{A:Around}{E:Value→Shared→Prop}{s:Shared}
theorem lt_listInts{l b:Addr}{items items2:Array Value}{ns ms:List Int}{Q:Value→Shared→Prop}(hl:s.heap.IsList l items)(hb:s.heap.IsList b items2)(hi:IntsAre items.toList ns)(hj:IntsAre items2.toList ms)
 (hu:A.units<cLine)(h:Q (.bool (lexLt ns ms)) s):wpAny (model prog w) A (BU .Lt (.ref l) (.ref b)) Q E s:=by
 obtain⟨⟨cls,dd,data,sl⟩,ho,hc,n,hd⟩:=id hl
 obtain⟨⟨cls2,dd2,data2,sl2⟩,ho2,hc2,n2,hd2⟩:=id hb
 simp only at hc hd hc2 hd2
 subst hc hd hc2 hd2
 exact richCompare_meets_room (op:=.Lt) ⟨_,ho,rfl⟩ ⟨_,ho2,rfl⟩ PySem.F.slot_list_lt PySem.F.entry_list_lt (PySem.F.args_list_lt_2 _ _) (aBU l b items items2 n n2 dd dd2 sl sl2 ns ms hi hj)
  ⟨ho,ho2,show Em (lexLt ns ms)≠Value.notImplemented∧Q (.bool (lexLt ns ms)) s from⟨(fun x=>nomatch x),h⟩⟩ hu
end
end HT
namespace L2
open PySem PySem.Spec PyProof.Rows PySem.W
noncomputable def aIY(n:Nat)(lt:Nat→Nat→Bool){α:Type}:KasT α→Option α
 | .ret a=>some a
 | .ask i j k=>if i<n∧j<n then aIY n lt (k (lt i j)) else none
theorem aCQ{α:Type}{n:Nat}{lt:Nat→Nat→Bool}{cmp:Nat→Nat→(Bool→Shared→Prop)→Shared→Prop}{s:Shared}(hc:∀ (i j:Nat) (C:Bool→Shared→Prop),i<n→j<n→C (lt i j) s→cmp i j C s) :
  ∀ (t:KasT α) (a:α) (G:α→Shared→Prop),aIY n lt t=some a→G a s→t.kasWp cmp G s
 | .ret b,a,G,e,g=>by
  have e:b=a:=Ao e
  subst e
  exact g
 | .ask i j k,a,G,e,g=>by
  unfold aIY at e
  split at e
  ·rename_i h
   exact hc i j _ h.1 h.2 (aCQ hc (k (lt i j)) a G e g)
  ·cases e
noncomputable def jH(ns ms:List Int):Bool:=if ns.length=ms.length then HT.lexLt ns ms else decide (ns.length<ms.length)
noncomputable def yM(nss:List (List Int)):Option (Array Nat):=aIY nss.length (fun i j=>jH (nss.getD i []) (nss.getD j [])) (kas_sort nss.length)
noncomputable def eQ:Nat→List (List Int)
 | 0=>[[]]
 | k+1=>eQ k++(eQ k).map (·++[(k:Int)])
noncomputable def aDW:Nat→List Nat
 | 1=>[0,1]
 | 2=>[0,1,2,3]
 | 3=>[0,1,2,4,3,5,6,7]
 | _=>[0,1,2,4,8,3,5,9,6,10,12,7,11,13,14,15]
theorem aQE:yM (eQ 1)=some (aDW 1).toArray:=by decide +kernel
theorem aQD:yM (eQ 2)=some (aDW 2).toArray:=by decide +kernel
theorem aQC:yM (eQ 3)=some (aDW 3).toArray:=by decide +kernel
theorem aQB:yM (eQ 4)=some (aDW 4).toArray:=by decide +kernel
end L2
namespace L2
open PySem PySem.Spec PyProof.Rows PySem.W
section
variable{X:Cx}{pins:List (Addr×Obj)}{σ:List (Option V)}{H:Hp}{s:Shared}
structure Ours (X:Cx) (H:Hp) (b:Addr):Prop where
 nt:H b=none
 loc:b≠X.env.locals
 nfs:b∉X.fs
 ab:X.s₀.heap.objs.size≤b
 ncl:∀ x c,X.env.cells.lookup x=some c→c≠b
 npn:∀ p∈X.pn,p.1≠b
theorem Ours.new(I:Inv X pins σ H s){b:Addr}(h:s.heap.objs.size≤b):Ours X H b:=by
 refine⟨I.hok.fresh h,Ne.symm (Ad (Ae I.lt h)),I.nofs h,Av I.sz h,fun x c e z=>?_,fun p hp z=>?_⟩
 ·obtain⟨v,o,ho,_⟩:=I.cell x c e
  exact absurd (AW ho) (by rw[z];exact Nat.not_lt.mpr h)
 ·have ho:=(I.pin p (CC _ hp)).1
  exact absurd (AW ho) (by rw[z];exact Nat.not_lt.mpr h)
theorem Inv.pinAdd{b:Addr}{o:Obj}(I:Inv X pins σ H s)(e:s.heap.get? b=some o)(O:Ours X H b)(nc:∀ v,o.data≠.cell v):Inv X ((b,o) :: pins) σ H s :=
 I.pins_of fun p hp=>by
  rcases Ac.mp hp with rfl | hp
  ·exact⟨e,O.nt,O.loc,O.nfs,nc⟩
  ·exact I.pin p (Ah _ hp)
theorem Inv.pinDrop{q:Addr×Obj}(I:Inv X (q :: pins) σ H s):Inv X pins σ H s:=I.pins_of fun p hp=>I.pin p (Ah _ (AJ _ hp))
theorem Inv.pinAt{b:Addr}{o:Obj}(I:Inv X ((b,o) :: pins) σ H s):s.heap.get? b=some o∧H b=none:=let x:=I.pin (b,o) (Ah _ AO);⟨x.1,x.2.1⟩
theorem Inv.turn{t':Nat}{h':Heap}{b:Addr}{o o':Obj}(I:Inv X ((b,o) :: pins) σ H s)(O:Ours X H b)(hp:∀ p∈pins,p.1≠b)(k:∀ d u,d≠b→s.heap.get? d=some u→h'.get? d=some u)(e:h'.get? b=some o')(nc:∀ v,o'.data≠.cell v) :
  Inv X ((b,o') :: pins) σ H { s with heap:=h',toks:=t' } :=
 Inv.pinAdd (I.pinDrop.turned (h':=h') (t':=t') k O.nt O.loc (.inr O.ab) O.ncl fun p z=>by
  rcases Ar.mp z with z | z
  ·exact O.npn p z
  ·exact hp p z) e O nc
theorem Inv.track{b:Addr}{o:Obj}{u:HO}(I:Inv X ((b,o) :: pins) σ H s)(O:Ours X H b)(hp:∀ p∈pins,p.1≠b)(new:bS X.prog X.w (upd H b u) s.heap b u):Inv X pins σ (upd H b u) s:=by
 have I0:=I.pinDrop
 have nb:∀ c v,H c=some v→c≠b:=fun c v e=>aN e O.nt
 have hch:∀ c∈[b],(c∈X.ex∨X.s₀.heap.objs.size≤c)∧c≠X.env.locals∧(∀ x d,X.env.cells.lookup x=some d→d≠c)∧∀ p∈X.pn++pins,p.1≠c:=fun c hc=>by
  have e:c=b:=by simpa using hc
  subst e
  exact⟨.inr O.ab,O.loc,O.ncl,fun p z=>(Ar.mp z).elim (O.npn p) (hp p)⟩
 have:=I0.step (h':=s.heap) (H':=upd H b u) (g':=s.gens) (t':=s.toks) (d':=s.drawn) (ch:=[b]) hch (fun c o _ _ _ e _=>e) (fun c o _ _ _ e _=>⟨o.slots,e⟩) (fun c o hc e n=>by rw[aI (by simpa using hc)];exact n)
  (fun c o _ e=>⟨o,e⟩) (fun c xs e=>by rw[aI (nb c _ e)];exact e) (fun c o v e=>by rw[aI (nb c _ e)];exact e) (fun c ps e=>⟨#[],by rw[aI (nb c _ e),e];simp⟩) (fun m hm=>hm) (fun c v e=>?_) I.bare
 ·exact this
 ·by_cases hc:c=b
  ·subst hc;rw[aC] at e;cases e;exact new
  ·rw[aI hc] at e
   exact (I.hok c v e).stay (fun d w _ q=>q) (fun d q=>by rw[aI (nb d _ q)];exact q) fun d xs q=>by rw[aI (nb d _ q)];exact q
end
end L2
namespace L2
open PySem PySem.Spec PyProof.Rows PySem.W
theorem qO:∀ ns:List Int,HT.lexLt ns ns=false
 | []=>rfl
 | n :: ns=>by rw[HT.lexLt_cons,if_pos rfl];exact qO ns
theorem zR:∀ ns ms:List Int,uH (ns.map Dv.int) (ms.map Dv.int)=decide (ns=ms)
 | [],[]=>rfl
 | [],_ :: _=>rfl
 | _ :: _,[]=>rfl
 | n :: ns,m :: ms=>by
  show (deq (.int n) (.int m) && uH (ns.map Dv.int) (ms.map Dv.int))=_
  rw[zR ns ms]
  show (decide (n=m) && decide (ns=ms))=_
  by_cases h1:n=m <;> by_cases h2:ns=ms <;> simp[h1,h2]
theorem qP{H:Hp}:∀ ns:List Int,IsL H (ns.map Dv.int) (ns.map V.int)
 | []=>rfl
 | n :: ns=>⟨.int n,_,rfl,rfl,qP ns⟩
theorem sD:∀ ns:List Int,cM 1 (ns.map Dv.int)=true
 | []=>rfl
 | n :: ns=>by
  show (bB 1 (.int n) && cM 1 (ns.map Dv.int))=true
  rw[sD ns]
  rfl
theorem rY:∀ {ns:List Int} {vs:List Value},bD (ns.map V.int) vs→IntsAre vs.toArray.toList ns
 | [],_,.nil=>.nil
 | n :: ns,_,.cons ⟨t,rfl⟩ r=>.cons n t (rY r)
section
variable{X:Cx}{pins:List (Addr×Obj)}{σ:List (Option V)}{H:Hp}{s:Shared}
theorem aVH(I:Inv X pins σ H s){A:Around}(hu:A.units+8<cLine){t u a b:Addr}{ns ms:List Int}(et:H t=some (.tup [.int ns.length,.ref a]))(eu:H u=some (.tup [.int ms.length,.ref b]))
 (ea:H a=some (.lst (ns.map V.int)))(eb:H b=some (.lst (ms.map V.int))){Q:Bool→Shared→Prop}{E:Value→Shared→Prop}(q:Q (jH ns ms) s) :
  wpAny (model X.prog X.w) A (keyLt' (tuples' true) (.ref t) (.ref u)) Q E s:=by
 obtain⟨i1,r1,⟨o1,g1,c1,n1,d1⟩,_⟩:=I.tuple (SqT.of et)
 obtain⟨i2,r2,⟨o2,g2,c2,n2,d2⟩,_⟩:=I.tuple (SqT.of eu)
 cases r1 with
 | cons x1 y1 =>
 cases y1 with
 | cons x1' y1 =>
 cases y1
 cases r2 with
 | cons x2 y2 =>
 cases y2 with
 | cons x2' y2 =>
 cases y2
 obtain⟨t1,rfl⟩:=x1
 obtain⟨t2,rfl⟩:=x2
 cases x1'
 cases x2'
 refine kat_lt g1 d1 g2 d2 ?_
 refine kat_cons (wpAny_eqBool_int ?_)
 by_cases hl:ns.length=ms.length
 ·have e1:((ns.length:Int) == (ms.length:Int))=true:=by simp[hl]
  rw[e1]
  refine kat_yes (kat_cons ?_)
  refine Is.eqAt I 2 (.lst (ns.map Dv.int)) (.lst (ms.map Dv.int)) (.ref a) (.ref b) (.ref a) (.ref b) A (by omega) (sD ns) (sD ms) ⟨a,_,rfl,ea,qP ns⟩ ⟨b,_,rfl,eb,qP ms⟩ rfl rfl X.prog X.w _ _ ?_
  have e2:deq (.lst (ns.map Dv.int)) (.lst (ms.map Dv.int))=decide (ns=ms):=zR ns ms
  rw[e2]
  by_cases hm:ns=ms
  ·rw[decide_eq_true hm]
   refine kat_yes (kat_nil ?_)
   subst hm
   have e3:jH ns ns=false:=by unfold jH;rw[if_pos rfl,qO]
   rw[e3] at q
   exact q
  ·rw[decide_eq_false hm]
   refine kat_no ?_
   show wpAny _ _ (oneLt' false (.ref a) (.ref b)) _ _ _
   obtain⟨j1,v1,p1,_⟩:=I.list (SqL.of ea)
   obtain⟨j2,v2,p2,_⟩:=I.list (SqL.of eb)
   refine kat_one _ _ (HT.lt_listInts p1.isList p2.isList (rY v1) (rY v2) (by omega) ?_)
   have e3:jH ns ms=HT.lexLt ns ms:=by unfold jH;rw[if_pos hl]
   rw[e3] at q
   exact q
 ·have e1:((ns.length:Int) == (ms.length:Int))=false:=by simp;omega
  rw[e1]
  refine kat_no ?_
  show wpAny _ _ (oneLt' true (.int ns.length t1) (.int ms.length t2)) _ _ _
  refine oneLt_int ?_
  have e3:jH ns ms=decide ((ns.length:Int)<(ms.length:Int)):=by
   unfold jH
   rw[if_neg hl]
   by_cases h:ns.length<ms.length
   ·rw[decide_eq_true h,decide_eq_true (by omega)]
   ·rw[decide_eq_false h,decide_eq_false (by omega)]
  rw[e3] at q
  exact q
end
end L2
namespace L2
open PySem PySem.Spec PyProof.Rows PySem.W
def aSN(X:Cx)(σ:List (Option V))(A:Around)(f:Addr)(P0:Hp→Prop):Prop:=∀ (pins:List (Addr×Obj)) (s:Shared) (H:Hp) (a:Addr) (ns:List Int),Inv X pins σ H s→P0 H→H a=some (.lst (ns.map V.int)) →
 wpAny (model X.prog X.w) A (call (.ref f) [.ref a]) (fun u s'=>∃ t H',Inv X pins σ H' s'∧u=.ref t∧aH H H'∧H' t=some (.tup [.int ns.length,.ref a])) (fun _ _=>False) s
abbrev iX (H:Hp) (ps:List (Addr×List Int)):Prop:=∀ p∈ps,H p.1=some (.lst (p.2.map V.int))
theorem iX.same{H H':Hp}{ps:List (Addr×List Int)}(S:aH H H')(h:iX H ps):iX H' ps:=fun p m=>S _ _ (h p m)
def eM(H:Hp):List Value→List (Addr×List Int)→Prop
 | [],[]=>True
 | k :: ks,p :: ps=>(∃ t,k=.ref t∧H t=some (.tup [.int p.2.length,.ref p.1]))∧eM H ks ps
 | _,_=>False
theorem eM.same{H H':Hp}(S:aH H H'):∀ {ks:List Value} {ps:List (Addr×List Int)},eM H ks ps→eM H' ks ps
 | [],[],_=>trivial
 | [],_ :: _,h=>h
 | _ :: _,[],h=>h
 | _ :: _,_ :: _,⟨⟨t,e,g⟩,r⟩=>⟨⟨t,e,S _ _ g⟩,eM.same S r⟩
theorem eM.snoc{H:Hp}{p:Addr×List Int}{t:Addr}(g:H t=some (.tup [.int p.2.length,.ref p.1])):∀ {ks:List Value} {ps:List (Addr×List Int)},eM H ks ps→eM H (ks++[.ref t]) (ps++[p])
 | [],[],_=>⟨⟨t,rfl,g⟩,trivial⟩
 | [],_ :: _,h=>h.elim
 | _ :: _,[],h=>h.elim
 | _ :: _,_ :: _,⟨x,r⟩=>⟨x,eM.snoc g r⟩
theorem eM.length{H:Hp}:∀ {ks:List Value} {ps:List (Addr×List Int)},eM H ks ps→ks.length=ps.length
 | [],[],_=>rfl
 | [],_ :: _,h=>h.elim
 | _ :: _,[],h=>h.elim
 | _ :: _,_ :: _,⟨_,r⟩=>by rw[Af,Af,eM.length r]
theorem eM.get{H:Hp}:∀ {ks:List Value} {ps:List (Addr×List Int)} (i:Nat),eM H ks ps→i<ps.length→∃ t p,ks.getD i Bj=.ref t∧ps[i]?=some p∧H t=some (.tup [.int p.2.length,.ref p.1])
 | [],[],_,_,h=>by simp at h
 | [],_ :: _,_,h,_=>h.elim
 | _ :: _,[],_,h,_=>h.elim
 | _ :: _,p :: _,0,⟨⟨t,e,g⟩,_⟩,_=>⟨t,p,by simpa using e,rfl,g⟩
 | _ :: ks,_ :: ps,i+1,⟨_,r⟩,h=>by
  obtain⟨t,p,e1,e2,e3⟩:=eM.get (ks:=ks) (ps:=ps) i r (by simpa using h)
  exact⟨t,p,by simpa using e1,by simpa using e2,e3⟩
section
variable{X:Cx}{pins:List (Addr×Obj)}{σ:List (Option V)}{A:Around}{f kS:Addr}{P0:Hp→Prop}
theorem nP{cl:Value}{xs:Array Value}{n:Nat}:∀ v,({ cls:=cl,data:=.seq xs n }:Obj).data≠.cell v:=fun v h=>by cases h
theorem zG{H:Hp}{s:Shared}(I:Inv X pins σ H s):∀ {ks:List Value} {ps:List (Addr×List Int)},eM H ks ps→∃ fs:List Value,KatTups s.heap ks fs∧fs.length=ps.length∧∀ v∈fs,∃ i t,v=.int i t
 | [],[],_=>⟨[],.nil,rfl,fun _ m=>nomatch m⟩
 | [],_ :: _,h=>h.elim
 | _ :: _,[],h=>h.elim
 | _ :: ks,p :: ps,⟨⟨t,e,g⟩,r⟩=>by
  subst e
  obtain⟨fs,a,b,c⟩:=zG I r
  obtain⟨i1,r1,⟨o1,g1,c1,n1,d1⟩,_⟩:=I.tuple (SqT.of g)
  cases r1 with
  | cons x1 y1 =>
  obtain⟨t1,rfl⟩:=x1
  refine⟨_ :: fs,.cons g1 c1 d1 rfl a,by rw[Af,Af,b],fun v m=>?_⟩
  rcases Ac.mp m with rfl | m
  ·exact⟨_,_,rfl⟩
  ·exact c v m
theorem zH(st0:∀ H H',aH H H'→P0 H→P0 H')(hk:aSN X σ A f P0){n:Nat}(hn:n≤1000){body:Value→PUnit→Sem (ForInStep PUnit)}{E:Value→Shared→Prop}
 (hb:∀ (x:Value) (ks:List Value) (s:Shared) (C:Value→Shared→Prop),wpAny (model X.prog X.w) A (call (.ref f) [x]) (fun k s'=>wpAny (model X.prog X.w) A (Builtin.List.listUpdate (.ref kS) (·.push k)) (fun _ s''=>C k s'') (fun _ _=>False) s') (fun _ _=>False) s →
   wpAny (model X.prog X.w) A (body x ⟨⟩) (fun r s'=>r=.yield ⟨⟩∧∃ k,C k s') E s) :
  ∀ (r done:List (Addr×List Int)) (ks:List Value) (e:Nat) (H:Hp) (s:Shared),Inv X ((kS,seqObj "list" ks.toArray e) :: pins) σ H s→Ours X H kS→(∀ p∈pins,p.1≠kS)→P0 H→iX H r→eM H ks done→done.length+r.length=n →
   wpAny (model X.prog X.w) A (forIn (r.map fun p=>Al p.1) PUnit.unit body) (fun _ s'=>∃ (ks':List Value) (e':Nat) (H':Hp),Inv X ((kS,seqObj "list" ks'.toArray e') :: pins) σ H' s'∧aH H H'∧eM H' ks' (done++r)) E s
 | [],done,ks,e,H,s,I,O,hp,p0,it,kt,hl=>by
  rw[Cg,List.forIn_nil]
  exact AN ⟨ks,e,H,I,aH.refl _,by rw[Bf];exact kt⟩
 | p :: r,done,ks,e,H,s,I,O,hp,p0,it,kt,hl=>by
  rw[AU,DZ]
  have hl':=kt.length
  rw[Af] at hl
  refine AD (Az (hb (.ref p.1) ks s (fun k s'=>∃ (t:Addr) (e':Nat) (H':Hp),k=.ref t∧Inv X ((kS,seqObj "list" (ks++[k]).toArray e') :: pins) σ H' s'∧aH H H'∧H' t=some (.tup [.int p.2.length,.ref p.1])) ?_) (fun q s' hq=>?_) fun _ _ x=>x)
  ·refine Az (hk _ s H p.1 p.2 I p0 (it p AO)) (fun u s' hu=>?_) fun _ _ x=>x
   obtain⟨t,H',I',rfl,S,g⟩:=hu
   have pa:=I'.pinAt
   refine FJ pa.1 rfl ?_ (by rw[AK,CZ];omega) (Av (EN (FQ ..)) (by rw[AK,CZ];omega))
   have ea:(DG ks).push (.ref t)=DG (ks++[.ref t]):=by simp
   obtain⟨c2,hc2⟩:∃ c2,(s'.heap.update kS (BJ (·.push (.ref t)))).get? kS=some (seqObj "list" (DG (ks++[.ref t])) c2):=⟨_,by rw[← ea];exact Ei pa.1 (·.push (.ref t))⟩
   refine⟨t,c2,H',rfl,?_,S,g⟩
   exact Inv.turn (t':=s'.toks) I' ⟨pa.2,O.loc,O.nfs,O.ab,O.ncl,O.npn⟩ hp (fun d u nd q=>by rw[BZ _ _ (Ne.symm nd)];exact q) hc2 nP
  ·obtain⟨rfl,k,t,e',H',rfl,I',S,g⟩:=hq
   show wpAny (model X.prog X.w) A (forIn (r.map fun p=>Al p.1) PUnit.unit body) _ E s'
   refine Az (zH st0 hk hn hb r (done++[p]) (ks++[.ref t]) e' H' s' I' ⟨I'.pinAt.2,O.loc,O.nfs,O.ab,O.ncl,O.npn⟩ hp (st0 _ _ S p0) (iX.same S fun q m=>it q (AJ _ m)) ((kt.same S).snoc g) (by rw[AX,Bw];omega)) (fun _ s2 hz=>?_) fun _ _ x=>x
   obtain⟨ks2,e2,H2,I2,S2,kt2⟩:=hz
   refine⟨ks2,e2,H2,I2,S.trans S2,?_⟩
   rw[Bl] at kt2
   exact kt2
end
end L2
namespace L2
open PySem PySem.Spec PyProof.Rows PySem.W
section
variable{prog:Program}{w:World}{A:Around}{E:Value→Shared→Prop}{s:Shared}
def Rn(prog:Program)(w:World)(A:Around)(E:Value→Shared→Prop)(s:Shared){α:Type}(m:StateT SortSt Sem α)(st:SortSt)(r:α)(st':SortSt):Prop :=
 ∀ Q:α×SortSt→Shared→Prop,Q (r,st') s→wpAny (model prog w) A (m.run st) Q E s
theorem bC{α:Type}{r:α}{st:SortSt}:Rn prog w A E s (pure r) st r st:=fun Q h=>AN h
theorem aJ{α β:Type}{m:StateT SortSt Sem α}{f:α→StateT SortSt Sem β}{st st1 st2:SortSt}{a:α}{r:β}(h1:Rn prog w A E s m st a st1)(h2:Rn prog w A E s (f a) st1 r st2):Rn prog w A E s (m >>= f) st r st2 :=
 fun Q h=>AD (h1 _ (h2 Q h))
theorem gJ{st:SortSt}:Rn prog w A E s get st st st:=fun Q h=>AN h
theorem aIB{x:String}{st:SortSt}:Rn prog w A E s (liftM (rule x)) st () st:=fun Q h=>AD (FL (AN h))
theorem eG{arr:Array Keyed}{i:Nat}{p:Keyed}{st:SortSt}(h:arr[i]?=some p):Rn prog w A E s (elem' arr i) st p st:=by
 show Rn prog w A E s (match arr[i]? with | some p=>pure p | none=>liftM (unsupported _)) st p st
 rw[h]
 exact bC
section
variable{α β:Type}
theorem qF{f:Nat→β→StateT SortSt Sem (ForInStep β)}{st st1:SortSt}{b b1:β}{x:Nat}{xs:List Nat}(h:Rn prog w A E s (f x b) st (.done b1) st1):Rn prog w A E s (forIn (x :: xs) b f) st b1 st1:=by
 rw[DZ]
 exact aJ h bC
theorem jQ{f:Nat→β→StateT SortSt Sem (ForInStep β)}{st st1 st2:SortSt}{b b1 b2:β}{x:Nat}{xs:List Nat}(h:Rn prog w A E s (f x b) st (.yield b1) st1)(h2:Rn prog w A E s (forIn xs b1 f) st1 b2 st2):Rn prog w A E s (forIn (x :: xs) b f) st b2 st2:=by
 rw[DZ]
 exact aJ h h2
end
variable{κ:SortKind}{it:Array Keyed}{n:Nat}{lt:Nat→Nat→Bool}
structure As where
 p:Array Nat
 pend:Array (Nat×Nat×Nat)
 mg:Nat
noncomputable def As.st(κ:SortKind)(it:Array Keyed)(a:As):SortSt:=SortSt.mk' κ (a.p.map (BL it)) a.pend a.mg none
def rB(prog:Program)(w:World)(A:Around)(s:Shared)(κ:SortKind)(it:Array Keyed)(n:Nat)(lt:Nat→Nat→Bool):Prop:=∀ i j (C:Bool→Shared→Prop),i<n→j<n→C (lt i j) s→kas_cmp prog w A κ it i j C s
theorem aDR(hk:rB prog w A s κ it n lt){a:As}{i j:Nat}(hi:i<n)(hj:j<n):Rn prog w A E s (lt' (BL it i) (BL it j)) (a.st κ it) (some (lt i j)) (a.st κ it):=by
 intro Q h
 refine AD (AN ?_)
 refine AD (AD (Df (Az (hk i j (fun b s'=>b=lt i j∧s'=s) hi hj ⟨rfl,rfl⟩) (fun b s' hb=>?_) fun _ _ x=>x.elim)))
 obtain⟨rfl,rfl⟩:=hb
 exact AN (AN h)
noncomputable def ask(n:Nat)(lt:Nat→Nat→Bool)(p:Array Nat)(i j:Nat):Option Bool:=match p[i]?,p[j]? with
 | some x,some y=>if x<n∧y<n then some (lt x y) else none
 | _,_=>none
theorem aPI{p:Array Nat}{i j:Nat}{b:Bool}(h:ask n lt p i j=some b):∃ x y,p[i]?=some x∧p[j]?=some y∧x<n∧y<n∧b=lt x y:=by
 unfold ask at h
 split at h
 ·rename_i x y e1 e2
  split at h
  ·rename_i hh
   exact⟨x,y,e1,e2,hh.1,hh.2,(Ao h).symm⟩
  ·cases h
 ·cases h
theorem fL{p:Array Nat}{i x:Nat}(h:p[i]?=some x):(p.map (BL it))[i]?=some (BL it x):=by
 rw[Array.getElem?_map,h]
 rfl
theorem qE(hk:rB prog w A s κ it n lt){a:As}{i j:Nat}{b:Bool}(h:ask n lt a.p i j=some b):Rn prog w A E s (ltAt' i j) (a.st κ it) (some b) (a.st κ it):=by
 obtain⟨x,y,e1,e2,hx,hy,rfl⟩:=aPI h
 refine aJ gJ ?_
 refine aJ (eG (fL e1)) ?_
 refine aJ (eG (fL e2)) ?_
 exact aDR hk hx hy
noncomputable def aSI(ak:Nat→Nat→Option Bool)(lo:Nat):Nat→Nat→Option Nat
 | 0,m=>some m
 | f+1,m=>match ak (lo+m) (lo+m - 1) with
  | none=>none
  | some true=>some m
  | some false=>aSI ak lo f (m+1)
noncomputable def aWA(ak:Nat→Nat→Option Bool)(lo nrem:Nat):Option Nat:=match aSI ak lo (nrem - 1) 1 with
 | none=>none
 | some m=>if m=nrem then some m else if m>1 then (if ak lo (lo+m - 1)=some true then some m else none) else none
theorem aMO(hk:rB prog w A s κ it n lt){a:As}{lo nrem m:Nat}(h:aWA (ask n lt a.p) lo nrem=some m):Rn prog w A E s (countRun' lo nrem) (a.st κ it) (some m) (a.st κ it):=by
 unfold aWA at h
 split at h
 ·cases h
 ·rename_i k hk'
  refine aJ (a:=(none,k)) (st1:=a.st κ it) ?_ ?_
  ·rw[BO]
   have gen:∀ (xs:List Nat) (m k:Nat),aSI (ask n lt a.p) lo xs.length m=some k→Rn prog w A E s (forIn xs ((none:Option (Option Nat)),m) fun x __s =>
     (ltAt' (lo+__s.snd) (lo+__s.snd - 1)) >>= fun __x=>match __x with
      | some smaller=>if smaller=true then pure (EG (none,__s.snd)) else pure (BX (none,__s.snd+1))
      | x=>pure (EG (some none,__s.snd))) (a.st κ it) (none,k) (a.st κ it):=by
    intro xs
    induction xs with
    | nil=>intro m k e;cases e;exact bC
    | cons x xs ih =>
     intro m k e
     rw[Af] at e
     unfold aSI at e
     split at e
     ·cases e
     ·rename_i eb
      cases e
      exact qF (aJ (qE hk eb) bC)
     ·rename_i eb
      exact jQ (aJ (qE hk eb) bC) (ih _ _ e)
   exact gen _ _ _ (by rw[Dn,show [1:nrem].size=nrem - 1 by simp[CF]];exact hk')
  ·by_cases e:k=nrem
   ·rw[if_pos e] at h
    cases h
    show Rn prog w A E s (if (m == nrem)=true then pure (some m) else _) _ _ _
    rw[if_pos (by rw[e];exact beq_self_eq_true _)]
    exact bC
   ·rw[if_neg e] at h
    split at h
    ·rename_i k1
     split at h
     ·rename_i eb
      cases h
      show Rn prog w A E s (if (m == nrem)=true then pure (some m) else if m>1 then _ else _) _ _ _
      rw[if_neg (by rw[beq_iff_eq];exact e),if_pos k1]
      exact aJ (qE hk eb) bC
     ·cases h
    ·cases h
noncomputable def mvT(p:Array Nat)(src dst:Nat):Array Nat:=(Ag (src - dst)).foldl (fun a k=>a.swapIfInBounds (src - k) (src - k - 1)) p
theorem aQL{a:As}{src dst:Nat}:Rn prog w A E s (moveDown' src dst) (a.st κ it) PUnit.unit (As.st κ it { a with p:=mvT a.p src dst }):=by
 intro Q h
 refine AN ?_
 have e:=kas_swaps_map (BL it) (fun k=>src - k) (fun k=>src - k - 1) (Ag (src - dst)) a.p
 unfold As.st mvT at h
 dsimp only at h
 rw[← e] at h
 exact h
noncomputable def plT(ak:Nat→Nat→Option Bool)(lo k:Nat):Nat→Nat→Nat→Option Nat
 | 0,l,_=>some l
 | f+1,l,r=>if l≥r then some l else match ak (lo+k) (lo+(l+r) / 2) with
  | none=>none
  | some true=>plT ak lo k f l ((l+r) / 2)
  | some false=>plT ak lo k f ((l+r) / 2+1) r
noncomputable def aPE(n:Nat)(lt:Nat→Nat→Bool)(lo:Nat):List Nat→Array Nat→Option (Array Nat)
 | [],p=>some p
 | k :: ks,p=>match plT (ask n lt p) lo k k 0 k with
  | none=>none
  | some l=>aPE n lt lo ks (mvT p (lo+k) (lo+l))
theorem aUM(hk:rB prog w A s κ it n lt){lo m ok:Nat}{a:As}{p':Array Nat}(h:aPE n lt lo (DB (max ok 1) (m - max ok 1)) a.p=some p'):Rn prog w A E s (binarySort' lo m ok) (a.st κ it) true (As.st κ it { a with p:=p' }):=by
 refine aJ (a:=(none,())) (st1:=As.st κ it { a with p:=p' }) ?_ bC
 rw[BO,show [max ok 1:m].size=m - max ok 1 by simp[CF]]
 revert h
 show aPE n lt lo (DB (max ok 1) (m - max ok 1)) a.p=some p'→Rn prog w A E s (forIn (DB (max ok 1) (m - max ok 1) 1) _ _) _ _ _
 generalize DB (max ok 1) (m - max ok 1) 1=ks
 intro h
 induction ks generalizing a with
 | nil=>cases h;exact bC
 | cons k ks ih =>
  unfold aPE at h
  split at h
  ·cases h
  ·rename_i l el
   refine jQ (b1:=(none,())) (st1:=As.st κ it { a with p:=mvT a.p (lo+k) (lo+l) }) ?_ (ih (a:={ a with p:=mvT a.p (lo+k) (lo+l) }) h)
   have gen:∀ (xs:List Nat) (l0 r0 l:Nat),plT (ask n lt a.p) lo k xs.length l0 r0=some l→∃ r,Rn prog w A E s (forIn xs ((none:Option Bool),l0,r0) fun x __s =>
     if __s.snd.fst≥__s.snd.snd then pure (EG (none,__s.snd.fst,__s.snd.snd)) else (ltAt' (lo+k) (lo+(__s.snd.fst+__s.snd.snd) / 2)) >>= fun __x=>match __x with
      | some less=>if less=true then pure (BX (none,__s.snd.fst,(__s.snd.fst+__s.snd.snd) / 2)) else pure (BX (none,(__s.snd.fst+__s.snd.snd) / 2+1,__s.snd.snd))
      | x=>pure (EG (some false,__s.snd.fst,__s.snd.snd))) (a.st κ it) (none,l,r) (a.st κ it):=by
    intro xs
    induction xs with
    | nil=>intro l0 r0 l e;cases e;exact⟨r0,bC⟩
    | cons x xs ih =>
     intro l0 r0 l e
     rw[Af] at e
     unfold plT at e
     split at e
     ·rename_i hle
      cases e
      refine⟨r0,qF ?_⟩
      dsimp only
      rw[if_pos hle]
      exact bC
     ·rename_i hle
      split at e
      ·cases e
      ·rename_i eb
       obtain⟨r,hr⟩:=ih _ _ _ e
       refine⟨r,jQ ?_ hr⟩
       dsimp only
       rw[if_neg hle]
       exact aJ (qE hk eb) bC
      ·rename_i eb
       obtain⟨r,hr⟩:=ih _ _ _ e
       refine⟨r,jQ ?_ hr⟩
       dsimp only
       rw[if_neg hle]
       exact aJ (qE hk eb) bC
   obtain⟨r,hr⟩:=gen (DB 0 k) 0 k l (by rw[Dn];exact el)
   refine aJ (a:=(none,l,r)) (st1:=a.st κ it) ?_ (aJ aQL bC)
   rw[BO,show [:k].size=k by simp[CF]]
   exact hr
noncomputable def dH{γ:Type}(g:γ→Option (Bool×γ)):Nat→γ→Option γ
 | 0,c=>some c
 | f+1,c=>match g c with
  | none=>none
  | some (true,c')=>some c'
  | some (false,c')=>dH g f c'
theorem aQM{γ β:Type}(φ:γ→β)(g:γ→Option (Bool×γ)){st:SortSt}{f:Nat→β→StateT SortSt Sem (ForInStep β)}(hd:∀ x c c',g c=some (true,c')→Rn prog w A E s (f x (φ c)) st (.done (φ c')) st)(hy:∀ x c c',g c=some (false,c')→Rn prog w A E s (f x (φ c)) st (.yield (φ c')) st) :
  ∀ (xs:List Nat) (c c':γ),dH g xs.length c=some c'→Rn prog w A E s (forIn xs (φ c) f) st (φ c') st:=by
 intro xs
 induction xs with
 | nil=>intro c c' e;cases e;exact bC
 | cons x xs ih =>
  intro c c' e
  rw[Af] at e
  unfold dH at e
  split at e
  ·cases e
  ·rename_i eb
   cases e
   exact qF (hd _ _ _ eb)
  ·rename_i eb
   exact jQ (hy _ _ _ eb) (ih _ _ e)
theorem vV{γ β:Type}(φ:γ→β)(g:γ→Option (Bool×γ)){st:SortSt}{f:Nat→β→StateT SortSt Sem (ForInStep β)}{m:Nat}{c c':γ}(h:dH g m c=some c')(hd:∀ x c c',g c=some (true,c')→Rn prog w A E s (f x (φ c)) st (.done (φ c')) st)(hy:∀ x c c',g c=some (false,c')→Rn prog w A E s (f x (φ c)) st (.yield (φ c')) st) :
  Rn prog w A E s (forIn [:m] (φ c) f) st (φ c') st:=by
 rw[BO,show [:m].size=m by simp[CF]]
 exact aQM φ g hd hy _ _ _ (by rw[Dn];exact h)
noncomputable def aNI(bt:Nat→Option Bool)(pos:Nat→Nat)(c:Bool→Bool)(maxofs:Nat)(x:Nat×Nat):Option (Bool×Nat×Nat):=if x.2≥maxofs then some (true,x) else match bt (pos x.2) with
 | none=>none
 | some m=>if c m=true then some (true,x) else some (false,x.2,2*x.2+1)
noncomputable def bsG(bt:Nat→Option Bool)(x:Nat×Nat):Option (Bool×Nat×Nat):=if x.1≥x.2 then some (true,x) else match bt (x.1+(x.2 - x.1) / 2) with
 | none=>none
 | some m=>if m=true then some (false,x.1+(x.2 - x.1) / 2+1,x.2) else some (false,x.1,x.1+(x.2 - x.1) / 2)
noncomputable def aRT(bt:Nat→Option Bool)(m hint:Nat):Option Nat:=if bt hint=some true then
  match dH (aNI bt (fun o=>hint+o) (fun b=>!b) (m - hint)) m (0,1) with
  | none=>none
  | some x=>(dH (bsG bt) m (hint+x.1+1,hint+min x.2 (m - hint))).map (·.2)
 else none
noncomputable def aRU(bt:Nat→Option Bool)(m hint:Nat):Option Nat:=if bt hint=some false then
  match dH (aNI bt (fun o=>hint - o) (fun b=>b) (hint+1)) m (0,1) with
  | none=>none
  | some x=>(dH (bsG bt) m (hint+1 - min x.2 (hint+1),hint - x.1)).map (·.2)
 else none
noncomputable def bfR(n:Nat)(lt:Nat→Nat→Bool)(p:Array Nat)(key base i:Nat):Option Bool:=match p[base+i]? with
 | some x=>if x<n∧key<n then some (!lt key x) else none
 | none=>none
noncomputable def bfL(n:Nat)(lt:Nat→Nat→Bool)(p:Array Nat)(key base i:Nat):Option Bool:=match p[base+i]? with
 | some x=>if x<n∧key<n then some (lt x key) else none
 | none=>none
theorem aPF{p:Array Nat}{key base i:Nat}{b:Bool}(h:bfR n lt p key base i=some b):∃ x,p[base+i]?=some x∧x<n∧key<n∧b=!lt key x:=by
 unfold bfR at h
 split at h
 ·rename_i x e
  split at h
  ·rename_i hh
   exact⟨x,e,hh.1,hh.2,(Ao h).symm⟩
  ·cases h
 ·cases h
theorem aPG{p:Array Nat}{key base i:Nat}{b:Bool}(h:bfL n lt p key base i=some b):∃ x,p[base+i]?=some x∧x<n∧key<n∧b=lt x key:=by
 unfold bfL at h
 split at h
 ·rename_i x e
  split at h
  ·rename_i hh
   exact⟨x,e,hh.1,hh.2,(Ao h).symm⟩
  ·cases h
 ·cases h
structure Ml where
 res:Option (Array Nat)
 out:Array Nat
 ia:Nat
 ib:Nat
 ac:Nat
 bc:Nat
 deriving DecidableEq
noncomputable def aNM(n:Nat)(lt:Nat→Nat→Bool)(a b:Array Nat)(mg:Nat)(c:Ml):Option (Bool×Ml):=match b[c.ib]?,a[c.ia]? with
 | some y,some x=>if y<n∧x<n then
   if lt y x=true then
    (if (c.ib+1 == b.size)=true then some (true,⟨some (c.out.push y++a.extract c.ia++b.extract (c.ib+1)),c.out.push y,c.ia,c.ib+1,0,c.bc+1⟩)
    else if c.bc+1≥mg then none else some (false,⟨none,c.out.push y,c.ia,c.ib+1,0,c.bc+1⟩))
   else
    (if (c.ia+1+1 == a.size)=true then some (true,⟨some (c.out.push x++b.extract c.ib++a.extract (c.ia+1)),c.out.push x,c.ia+1,c.ib,c.ac+1,0⟩)
    else if c.ac+1≥mg then none else some (false,⟨none,c.out.push x,c.ia+1,c.ib,c.ac+1,0⟩))
  else none
 | _,_=>none
noncomputable def aQQ(p:Array Nat)(sa:Nat)(q:Array Nat):Array Nat:=q.toList.zipIdx.foldl (fun a x=>a.setIfInBounds (sa+x.2) x.1) p
theorem aMN{bt:Nat→Option Bool}{bey:Nat→StateT SortSt Sem (Option Bool)}{pos:Nat→Nat}{c:Bool→Bool}{mo m:Nat}{st:SortSt}{x:Nat×Nat}{f:Nat→Option (Option Nat)×Nat×Nat→StateT SortSt Sem (ForInStep (Option (Option Nat)×Nat×Nat))}(hb:∀ i r,bt i=some r→Rn prog w A E s (bey i) st (some r) st)(h:dH (aNI bt pos c mo) m (0,1)=some x)
 (h1:∀ y z,z.2≥mo→f y (none,z)=pure (.done (none,z)))(h2:∀ y z,¬ z.2≥mo→∃ k,f y (none,z)=bey (pos z.2) >>= k∧(∀ b,c b=true→k (some b)=pure (.done (none,z)))∧∀ b,c b=false→k (some b)=pure (.yield (none,z.2,2*z.2+1))):Rn prog w A E s (forIn [:m] (none,0,1) f) st (none,x) st:=by
 refine vV (fun c=>((none:Option (Option Nat)),c)) _ h (fun y z z' e=>?_) (fun y z z' e=>?_)
 ·unfold aNI at e
  split at e
  ·rename_i hg
   cases e
   rw[h1 y z hg]
   exact bC
  ·rename_i hg
   split at e
   ·cases e
   ·rename_i b eb
    obtain⟨k,e1,e2,e3⟩:=h2 y z hg
    split at e
    ·rename_i hc
     cases e
     rw[e1]
     exact aJ (hb _ _ eb) (by rw[e2 b hc];exact bC)
    ·cases e
 ·unfold aNI at e
  split at e
  ·cases e
  ·rename_i hg
   split at e
   ·cases e
   ·rename_i b eb
    obtain⟨k,e1,e2,e3⟩:=h2 y z hg
    split at e
    ·cases e
    ·rename_i hc
     cases e
     rw[e1]
     exact aJ (hb _ _ eb) (by rw[e3 b (by simpa using hc)];exact bC)
theorem aTA{bt:Nat→Option Bool}{bey:Nat→StateT SortSt Sem (Option Bool)}{m:Nat}{st:SortSt}{x0 x:Nat×Nat}{f:Nat→Option (Option Nat)×Nat×Nat→StateT SortSt Sem (ForInStep (Option (Option Nat)×Nat×Nat))}(hb:∀ i r,bt i=some r→Rn prog w A E s (bey i) st (some r) st)(h:dH (bsG bt) m x0=some x)
 (h1:∀ y z,z.1≥z.2→f y (none,z)=pure (.done (none,z)))(h2:∀ y z,¬ z.1≥z.2→∃ k,f y (none,z)=bey (z.1+(z.2 - z.1) / 2) >>= k∧k (some true)=pure (.yield (none,z.1+(z.2 - z.1) / 2+1,z.2))∧k (some false)=pure (.yield (none,z.1,z.1+(z.2 - z.1) / 2))):Rn prog w A E s (forIn [:m] (none,x0) f) st (none,x) st:=by
 refine vV (fun c=>((none:Option (Option Nat)),c)) _ h (fun y z z' e=>?_) (fun y z z' e=>?_)
 ·unfold bsG at e
  split at e
  ·rename_i hg
   cases e
   rw[h1 y z hg]
   exact bC
  ·split at e
   ·cases e
   ·split at e <;> cases e
 ·unfold bsG at e
  split at e
  ·cases e
  ·rename_i hg
   split at e
   ·cases e
   ·rename_i b eb
    obtain⟨k,e1,e2,e3⟩:=h2 y z hg
    cases b with
    | true =>
     cases e
     rw[e1]
     exact aJ (hb _ _ eb) (by rw[e2];exact bC)
    | false =>
     cases e
     rw[e1]
     exact aJ (hb _ _ eb) (by rw[e3];exact bC)
theorem aIA{α:Type}{m:StateT SortSt Sem α}{st st':SortSt}{r r':α}(h:Rn prog w A E s m st r st')(e:r=r'):Rn prog w A E s m st r' st':=e▸h
theorem yU{α:Type}{c:Prop}[Decidable c]{m1 m2:StateT SortSt Sem α}{st st':SortSt}{r:α}(hc:¬ c)(h:Rn prog w A E s m2 st r st'):Rn prog w A E s (if c then m1 else m2) st r st':=by
 rw[if_neg hc]
 exact h
theorem aID(sa:Nat):∀ (l:List (Nat×Nat)) (p:Array Nat),(l.map fun x=>(BL it x.1,x.2)).foldl (fun a x=>a.setIfInBounds (sa+x.2) x.1) (p.map (BL it))=(l.foldl (fun a x=>a.setIfInBounds (sa+x.2) x.1) p).map (BL it)
 | [],p=>rfl
 | x :: l,p=>by
  rw[AU,ES,ES,← aID sa l]
  congr 1
  simp
end
end L2
namespace L2
open PySem PySem.Spec PyProof.Rows PySem.W
section
variable{prog:Program}{w:World}{A:Around}{E:Value→Shared→Prop}{s:Shared}{κ:SortKind}{it:Array Keyed}{n:Nat}{lt:Nat→Nat→Bool}
end
end L2
namespace L2
open PySem PySem.Spec PyProof.Rows PySem.W
noncomputable def kLt(nss:List (List Int))(i j:Nat):Bool:=jH (nss.getD i []) (nss.getD j [])
def sO(nss:List (List Int))(π:Array Nat):Prop:=∀ (prog:Program) (w:World) (A:Around) (E:Value→Shared→Prop) (s:Shared) (κ:SortKind) (ks vs:List Value),ks.length=nss.length→vs.length=nss.length →
 rB prog w A s κ (ks.toArray.zip vs.toArray) nss.length (kLt nss)→wpAny (model prog w) A (sortRuns'.run (SortSt.mk' κ (ks.toArray.zip vs.toArray) #[] 7 none)) (fun r s'=>s'=s∧arrOf r.2=π.map (BL (ks.toArray.zip vs.toArray))∧failedOf r.2=none) E s
theorem jN{nss:List (List Int)}{π:Array Nat}(h:yM nss=some π)(h2:2≤nss.length)(h64:nss.length<64):sO nss π:=by
 intro prog w A E s κ ks vs l1 l2 hk
 refine kat_run (Q:=fun st' s'=>s'=s∧arrOf st'=π.map (BL (ks.toArray.zip vs.toArray))∧failedOf st'=none) (G:=fun p s'=>p=π∧s'=s) (by rw[l1,l2]) (by rw[l2];exact h2) (by rw[l2];exact h64) (fun p st' s' a1 a2 a3 a4=>⟨a4.2,by rw[← a4.1];exact a2,a3⟩) ?_
 rw[l2,kat_ask_eq (l1.trans l2.symm)]
 exact aCQ (n:=nss.length) (lt:=kLt nss) (fun i j C hi hj c=>hk i j C hi hj c) _ π (fun p s'=>p=π∧s'=s) h ⟨rfl,rfl⟩
structure Mrg (n:Nat) (lt:Nat→Nat→Bool) (p:Array Nat) where
 k:Nat
 nb:Nat
 x1:Nat
 x2:Nat
 y0:Nat
 c:Ml
 res:Array Nat
 e1:p[32]?=some x1
 g1:aRT (bfR n lt p x1 0) 32 0=some k
 n1:(32 - k == 0)=false
 e2:p[0+k+(32 - k) - 1]?=some x2
 g2:aRU (bfL n lt p x2 32) 32 (32 - 1)=some nb
 n2:(nb == 0)=false
 le:32 - k≤nb
 e3:(p.extract 32 (32+nb))[0]?=some y0
 z1:(1 == (p.extract 32 (32+nb)).size)=false
 z2:(0+1 == (p.extract (0+k) 32).size)=false
 h:dH (aNM n lt (p.extract (0+k) 32) (p.extract 32 (32+nb)) 7) ((p.extract (0+k) 32).size+(p.extract 32 (32+nb)).size) ⟨none,#[y0],0,1,0,0⟩=some c
 hr:c.res=some res
 h1:1≤(p.extract (0+k) 32).size+(p.extract 32 (32+nb)).size
noncomputable def eW:List Nat:=[0,1,2,4,8,16,32,3,5,9,17,33,6,10,18,34,12,20,36,24,40,48,7,11,19,35,13,21,37,25,41,49,14,22,38,26,42,50,28,44,52,56,15,23,39,27,43,51,29,45,53,57,30,46,54,58,60,31,47,55,59,61,62,63]
end L2
namespace L2
open PySem PySem.Spec PyProof.Rows PySem.W
theorem iW{α β:Type}(f:α→β)(d:β):∀ (l:List α) (i:Nat),(l.map f).getD i d=match l[i]? with | some a=>f a | none=>d
 | [],i=>by simp
 | a :: l,0=>rfl
 | a :: l,i+1=>by simpa using iW f d l i
section
variable{X:Cx}{pins:List (Addr×Obj)}{σ:List (Option V)}{A:Around}{f:Addr}{P0:Hp→Prop}
theorem aNW{M:Model}{h:Heap}{i:Int}{t:Tok}:Looks M h (typeOf (.int i t)) (.type "int"):=Looks.of_pure rfl
theorem aJH{π:List Nat}{ps:List (Addr×List Int)}(h:∀ i∈π,i<ps.length):bD (π.map fun i=>(ps.map fun p=>V.ref p.1).getD i .non) (π.map fun i=>(ps.map fun p=>Al p.1).getD i Bj):=by
 induction π with
 | nil=>exact .nil
 | cons i π ih =>
  refine .cons ?_ (ih fun j m=>h j (AJ _ m))
  have hi:=h i AO
  show bI ((ps.map fun p=>V.ref p.1).getD i .non) ((ps.map fun p=>Al p.1).getD i Bj)
  rw[iW,iW,AB hi]
  rfl
theorem aJP{D kS:Addr}{e e1:Nat}{ps:List (Addr×List Int)}{ks:List Value}{H:Hp}{s:Shared}{π:Array Nat}{Q:VK}{E:Value→Shared→Prop}(hu:A.units+8<cLine)
 (I:Inv X ((kS,seqObj "list" ks.toArray e) :: (D,seqObj "list" #[] e1) :: pins) σ H s)(OD:Ours X H D)(OS:Ours X H kS)(nDS:D≠kS)(hpD:∀ p∈pins,p.1≠D)(hpS:∀ p∈pins,p.1≠kS)
 (it:iX H ps)(kt:eM H ks ps)(h2:2≤ps.length)(h64:ps.length≤1000)(hπ:sO (ps.map (·.2)) π)(hb:∀ i∈π.toList,i<ps.length)(hs:π.size=ps.length)
 (q:∀ H',aH H H'→H D=none→H' D=some (.lst (π.toList.map fun i=>(ps.map fun p=>V.ref p.1).getD i .non))→Q (.ref D) H') :
  wpAny (model X.prog X.w) A (ksk_end D false (ps.map fun p=>Al p.1).toArray e1 (.ref kS) ks.toArray) (fun fin s'=>fin=.done (.ret .none)∧EP X pins σ Q (.ref D) s') E s:=by
 have hl:=kt.length
 have hn2:¬ (ps.map fun p=>Al p.1).toArray.size<2:=by rw[AK,AA];omega
 unfold ksk_end
 dsimp only
 rw[if_neg AQ,if_neg AQ,if_neg hn2,if_neg hn2]
 obtain⟨fs,kf,lf,inf⟩:=zG I kt
 refine AD (kat_kind (T:=.type "int") kf (by omega) (fun v m=>by obtain⟨i,t,rfl⟩:=inf v m;exact aNW) (by decide) ?_)
 have hT:(Ce "int" != Ce "tuple")=true:=by decide
 rw[hT]
 refine AD (Az (hπ X.prog X.w A E s _ ks (ps.map fun p=>Al p.1) (by rw[AA];exact hl) (by rw[AA,AA]) fun i j C hi hj c=>?_) (fun r s' hr=>?_) fun _ _ x=>x)
 ·rw[AA] at hi hj
  obtain⟨t,p,k1,g1,e1'⟩:=kt.get i hi
  obtain⟨u,p',k2,g2,e2'⟩:=kt.get j hj
  rw[← kat_ask_eq (by rw[AA];exact hl)]
  unfold kas_ask
  rw[k1,k2]
  refine aVH I hu e1' e2' (it p (AI g1)) (it p' (AI g2)) ?_
  unfold kLt at c
  rw[iW,iW,g1,g2] at c
  exact c
 ·obtain⟨⟨⟩,st⟩:=r
  obtain⟨hs1,har,hf⟩:=hr
  rw[hs1]
  dsimp only
  have hout:=kat_snds (ks:=ks) (vs:=ps.map fun p=>Al p.1) (by rw[AA];exact hl) har
  unfold ksk_tail
  dsimp only
  rw[hout]
  have pS:=I.pinAt
  have pD:=I.pinDrop.pinAt
  refine AD (FJ pS.1 rfl ?_ (by rw[AK,CZ];omega) (BN _))
  refine AD (wpAny_letGo ?_)
  have gD:(s.heap.update kS (BJ fun _=>(#[]:Array Value))).get? D=some (seqObj "list" #[] e1):=by rw[BZ _ _ (Ne.symm nDS)];exact pD.1
  refine AD (seqEpoch_at gD rfl ?_)
  have hz:(DG (π.toList.map fun i=>(ps.map fun p=>Al p.1).getD i Bj)).size=ps.length:=by rw[AK,AA,Bc,hs]
  refine AD (FJ gD rfl ?_ (BN _) (by rw[if_neg AQ,hz,CZ];omega))
  rw[hf]
  simp only[bne_self_eq_false,Eu,if_false]
  refine AN ⟨rfl,?_⟩
  have I1:=I.pinDrop.pinDrop
  have I2:=Inv.pins_of (pins':=(D,seqObj "list" #[] e1) :: pins) I fun p hp=>I.pin p (Ah _ (AJ _ hp))
  have I3:Inv X ((D,seqObj "list" #[] e1) :: pins) σ H { s with heap:=s.heap.update kS (BJ fun _=>(#[]:Array Value)),toks:=s.toks }:=by
   obtain⟨cS,hcS⟩:∃ c2,(s.heap.update kS (BJ fun _=>(#[]:Array Value))).get? kS=some (seqObj "list" #[] c2):=⟨_,Ei pS.1 fun _=>#[]⟩
   refine (Inv.turn (t':=s.toks) (o':=seqObj "list" #[] cS) I OS (fun p hp=>?_) (fun d u nd g=>by rw[BZ _ _ (Ne.symm nd)];exact g) hcS nP).pinDrop
   rcases Ac.mp hp with rfl | hp
   ·exact nDS
   ·exact hpS p hp
  obtain⟨c2,hc2⟩:∃ c2,((s.heap.update kS (BJ fun _=>(#[]:Array Value))).update D (BJ fun _=>DG (π.toList.map fun i=>(ps.map fun p=>Al p.1).getD i Bj))).get? D=some (seqObj "list" (DG (π.toList.map fun i=>(ps.map fun p=>Al p.1).getD i Bj)) c2):=⟨_,Ei gD fun _=>_⟩
  have I4:=Inv.turn (t':=s.toks) (o':=seqObj "list" (DG (π.toList.map fun i=>(ps.map fun p=>Al p.1).getD i Bj)) c2) I3 OD hpD (fun d u nd g=>by rw[BZ _ _ (Ne.symm nd)];exact g) hc2 nP
  have I5:=Inv.track (u:=.lst (π.toList.map fun i=>(ps.map fun p=>V.ref p.1).getD i .non)) I4 OD hpD ⟨by rw[AA,Bc,hs,CZ];omega,_,c2,aJH hb,hc2⟩
  exact⟨.ref D,_,I5,rfl,q _ (fun b o e=>by rw[aI (aN e OD.nt)];exact e) OD.nt aC⟩
end
end L2
namespace L2
open PySem PySem.Spec PyProof.Rows PySem.W
section
variable{X:Cx}{pins:List (Addr×Obj)}{σ:List (Option V)}{A:Around}{f:Addr}{P0:Hp→Prop}
theorem aJQ{D kS:Addr}{e1:Nat}{ps:List (Addr×List Int)}{H:Hp}{s:Shared}{π:Array Nat}{Q:VK}{E:Value→Shared→Prop}(hu:A.units+8<cLine)(st0:∀ H H',aH H H'→P0 H→P0 H')(hk:aSN X σ A f P0)
 (I:Inv X ((kS,seqObj "list" #[] 0) :: (D,seqObj "list" #[] e1) :: pins) σ H s)(OD:Ours X H D)(OS:Ours X H kS)(nDS:D≠kS)(hpD:∀ p∈pins,p.1≠D)(hpS:∀ p∈pins,p.1≠kS)
 (p0:P0 H)(it:iX H ps)(h2:2≤ps.length)(h64:ps.length≤1000)(hπ:sO (ps.map (·.2)) π)(hb:∀ i∈π.toList,i<ps.length)(hs:π.size=ps.length)
 (q:∀ H',aH H H'→H D=none→H' D=some (.lst (π.toList.map fun i=>(ps.map fun p=>V.ref p.1).getD i .non))→Q (.ref D) H') :
  wpAny (model X.prog X.w) A (ksk_rest D (.ref f) false (ps.map fun p=>Al p.1).toArray e1 (.ref kS)) (fun fin s'=>fin=.done (.ret .none)∧EP X pins σ Q (.ref D) s') E s:=by
 unfold ksk_rest
 refine AD (FL ?_)
 first
  | rw[List.forIn_toArray]
  | (rw[← Array.forIn_toList];simp only[List.toList_toArray])
  | rw[← Array.forIn_toList]
 refine AD (Az (zH (kS:=kS) (pins:=(D,seqObj "list" #[] e1) :: pins) st0 hk h64 (fun x ks s' C hx=>?_) ps [] [] 0 H s I OS (fun p hp=>?_) p0 it trivial (by simp)) (fun _ s' hd=>?_) fun _ _ x=>x)
 ·refine AD (Df (Az hx (fun k s'' hk=>?_) fun _ _ hF=>hF.elim))
  try dsimp only
  exact AD (Az hk (fun _ s3 h3=>AN ⟨rfl,k,h3⟩) fun _ _ z=>z.elim)
 ·rcases Ac.mp hp with rfl | hp
  ·exact nDS
  ·exact hpS p hp
 ·obtain⟨ks,e,H',I',S,kt⟩:=hd
  rw[DY] at kt
  try dsimp only
  refine AD (listItems_at I'.pinAt.1 rfl ?_)
  have pD:=I'.pinDrop.pinAt
  exact aJP hu I' ⟨pD.2,OD.loc,OD.nfs,OD.ab,OD.ncl,OD.npn⟩ ⟨I'.pinAt.2,OS.loc,OS.nfs,OS.ab,OS.ncl,OS.npn⟩ nDS hpD hpS (it.same S) kt h2 h64 hπ hb hs fun H2 S2 n2 e2=>q H2 (S.trans S2) OD.nt e2
theorem aDU{H:Hp}{s:Shared}(I:Inv X pins σ H s){b:Addr}(h:s.heap.objs.size≤b):∀ p∈pins,p.1≠b:=fun p hp z=>by
 have ho:=(I.pin p (Ah _ hp)).1
 exact absurd (AW ho) (by rw[z];exact Nat.not_lt.mpr h)
theorem aDE{l:Addr}{ps:List (Addr×List Int)}{H:Hp}{s:Shared}{π:Array Nat}{Q:VK}{E:Value→Shared→Prop}(hu:A.units+16<cLine)(st0:∀ H H',aH H H'→P0 H→P0 H')(hk:aSN X σ A.in1.in1 f P0)
 (I:Inv X pins σ H s)(sq:SqL X.K H l (ps.map fun p=>V.ref p.1))(p0:P0 H)(it:iX H ps)(h2:2≤ps.length)(h64:ps.length≤1000)(hπ:sO (ps.map (·.2)) π)(hb:∀ i∈π.toList,i<ps.length)(hs:π.size=ps.length)
 (q:∀ (D:Addr) (H':Hp),aH H H'→H D=none→H' D=some (.lst (π.toList.map fun i=>(ps.map fun p=>V.ref p.1).getD i .non))→Q (.ref D) H') :
  wpAny (model X.prog X.w) A (call (.builtin "sorted") [.ref l] [("key",.ref f)]) (EP X pins σ Q) E s:=by
 obtain⟨its,rv,pl,hz⟩:=I.list sq
 have ei:its=ps.map fun p=>Al p.1:=by
  clear sq hz pl hπ hb hs it p0 q h2 h64
  induction ps generalizing its with
  | nil=>cases rv;rfl
  | cons p ps ih =>
   cases rv with
   | cons a b =>
    cases a
    rw[AU,← ih _ b]
 subst ei
 have hlen:(ps.map fun p=>Al p.1).length=ps.length:=AA ..
 refine call_function_entry_kw kind_sorted plain_sorted entry_sorted (ksk_s1 _ _) ?_
 unfold Builtin.«sorted»
 refine AD (m:=checkCount "sorted" 1 1 _) (AN ?_)
 refine AD (collect_list pl.isList ?_ (by rw[hlen,CZ];omega))
 refine AD (wpAny_newList ?_ (by rw[hlen,CZ];omega))
 generalize hvs:(ps.map fun p=>Al p.1)=vs at *
 have hsz:((s.heap.push (seqObj "list" #[] 0)).update s.heap.objs.size (BJ (·++vs.toArray))).objs.size=s.heap.objs.size+1:=by
  rw[FK,size_push']
 have hoL:(((s.heap.push (seqObj "list" #[] 0)).update s.heap.objs.size (BJ (·++vs.toArray))).push (seqObj "list" vs.toArray 0)).get? (s.heap.objs.size+1)=some (seqObj "list" vs.toArray 0):=by
  rw[← hsz];exact AZ _ rfl
 have keep:∀ b o,s.heap.get? b=some o→(((s.heap.push (seqObj "list" #[] 0)).update s.heap.objs.size (BJ (·++vs.toArray))).push (seqObj "list" vs.toArray 0)).get? b=some o:=fun b o q=>by
  have hlt:b<s.heap.objs.size:=AW q
  rw[Heap.get?_push_ne _ _ _ (by rw[hsz];exact Ad (Dw hlt)),Heap.get?_update_ne _ _ _ _ (Ad hlt),Heap.get?_push_ne _ _ _ (Ad hlt)]
  exact q
 show wpAny _ _ _ _ _ { s with heap:=((s.heap.push (seqObj "list" #[] 0)).update s.heap.objs.size (BJ (·++vs.toArray))).push (seqObj "list" vs.toArray 0) }
 rw[hsz]
 have OD:Ours X H (s.heap.objs.size+1):=Ours.new I (Cr _)
 have hpD:=aDU I (Cr s.heap.objs.size)
 have I1:Inv X pins σ H { s with heap:=((s.heap.push (seqObj "list" #[] 0)).update s.heap.objs.size (BJ (·++vs.toArray))).push (seqObj "list" vs.toArray 0),toks:=s.toks }:=I.kept keep
 have hs2:(((s.heap.push (seqObj "list" #[] 0)).update s.heap.objs.size (BJ (·++vs.toArray))).push (seqObj "list" vs.toArray 0)).objs.size=s.heap.objs.size+2:=by rw[size_push',hsz]
 generalize hh:((s.heap.push (seqObj "list" #[] 0)).update s.heap.objs.size (BJ (·++vs.toArray))).push (seqObj "list" vs.toArray 0)=h1 at *
 refine AD (Br (wpAny_call_entry_kw slot_list_sort ⟨_,hoL,rfl⟩ entry_list_sort ?_ (ksk_l1 _ _)))
 show wpAny (model X.prog X.w) A.in1.in1 (Builtin.«list.sort» ⟨[.ref (s.heap.objs.size+1)],[(Str.ofString "key",.ref f)]⟩) _ _ _
 rw[ksk_t1]
 unfold ksk_tree
 have I2:=Inv.pinAdd I1 hoL OD nP
 refine AD (listItems_at hoL rfl ?_)
 refine AD (FJ hoL rfl ?_ (by rw[AK,hlen,CZ];omega) (BN _))
 obtain⟨e1,ho1⟩:∃ e1,(h1.update (s.heap.objs.size+1) (BJ fun _=>(#[]:Array Value))).get? (s.heap.objs.size+1)=some (seqObj "list" #[] e1):=⟨_,Ei hoL fun _=>#[]⟩
 have I3:=Inv.turn (t':=s.toks) I2 OD hpD (fun d u nd q=>by rw[BZ _ _ (Ne.symm nd)];exact q) ho1 nP
 refine AD (seqEpoch_at ho1 rfl ?_)
 refine AD (wpAny_newTuple ?_ (by show vs.length≤_;rw[hlen,CZ];omega))
 refine AD (wpAny_newList ?_ (BN _))
 refine Br ?_
 have hs3:((h1.update (s.heap.objs.size+1) (BJ fun _=>(#[]:Array Value))).push (seqObj "tuple" vs.toArray 0)).objs.size=s.heap.objs.size+3:=by rw[size_push',FK,hs2]
 have k4:∀ b o,(h1.update (s.heap.objs.size+1) (BJ fun _=>(#[]:Array Value))).get? b=some o→(((h1.update (s.heap.objs.size+1) (BJ fun _=>(#[]:Array Value))).push (seqObj "tuple" vs.toArray 0)).push (seqObj "list" #[] 0)).get? b=some o:=fun b o e=>AF _ (AF _ e)
 have I4:Inv X ((s.heap.objs.size+1,seqObj "list" #[] e1) :: pins) σ H { s with heap:=((h1.update (s.heap.objs.size+1) (BJ fun _=>(#[]:Array Value))).push (seqObj "tuple" vs.toArray 0)).push (seqObj "list" #[] 0),toks:=s.toks }:=I3.kept k4
 have gS:(((h1.update (s.heap.objs.size+1) (BJ fun _=>(#[]:Array Value))).push (seqObj "tuple" vs.toArray 0)).push (seqObj "list" #[] 0)).get? (s.heap.objs.size+3)=some (seqObj "list" #[] 0):=by
  rw[← hs3];exact AZ _ rfl
 have OS:Ours X H (s.heap.objs.size+3):=Ours.new I (by omega)
 have I5:=Inv.pinAdd I4 gS OS nP
 rw[show ((h1.update (s.heap.objs.size+1) (BJ fun _=>(#[]:Array Value))).push { cls:=.type "tuple",data:=.seq vs.toArray.toList.toArray }).objs.size=s.heap.objs.size+3 from by rw[size_push',FK,hs2]]
 rw[← hvs] at I5 ⊢
 refine Az (aJQ (D:=s.heap.objs.size+1) (kS:=s.heap.objs.size+3) (by show A.units+1+1+8<cLine;omega) st0 hk I5 OD OS (Ad (Nat.add_lt_add_left (by decide) _)) hpD (aDU I (FO _ 3)) p0 it h2 h64 hπ hb hs (q _)) (fun fin s' hf=>?_) fun _ _ x=>x
 obtain⟨rfl,ep⟩:=hf
 exact⟨_,rfl,AN ⟨_,rfl,ep⟩⟩
end
end L2
namespace L2
open PySem PySem.Spec PyProof.Rows
section
variable{X:Cx}
end
end L2
namespace L2
open PySem PySem.Spec PyProof.Rows
theorem aKX:BM "abs"=some (.builtin "abs"):=by decide +kernel
theorem aKW:BM "sum"=some (.builtin "sum"):=by decide +kernel
theorem mT{ns:List Int}{us:List Value}(h:IntsAre us ns):us.length=ns.length∧∀ (i:Nat) (v:Value),us[i]?=some v→∃ t,v=.int (ns.getD i 0) t:=by
 induction h with
 | nil=>exact⟨rfl,fun i v e=>by cases e⟩
 | cons n t r ih =>
  refine⟨by rw[Af,Af,ih.1],fun i v e=>?_⟩
  cases i with
  | zero=>cases e;exact⟨t,rfl⟩
  | succ i=>exact ih.2 i v e
theorem tI(ns:List Int):∀ n,n≤ns.length→preSum (fun i=>ns.getD i 0) n=(ns.take n).sum
 | 0,_=>by rw[List.take_zero];rfl
 | n+1,h=>by
  have ih:=tI ns n (by omega)
  have e:ns.take (n+1)=ns.take n++[ns.getD n 0]:=by
   rw[Aa,AB (by omega),AY,AB (by omega)]
   rfl
  rw[e,List.sum_append,← ih]
  show preSum _ n+ns.getD n 0=_
  simp
section
variable{X:Cx}
theorem aPB(hc:X.calm=true):eP X (.builtin "sum") (fun xs H Q=>∃ (p:Addr) (ns:List Int),xs=[.ref p]∧SqL X.K H p (ns.map V.int)∧Q (.int ns.sum) H):=by
 intro pins s σ H xs us Q I r h
 obtain⟨p,ns,rfl,hq,q⟩:=h
 obtain⟨u,rfl,ru⟩:=bD.one r
 cases ru
 obtain⟨its,rv,pl,hz⟩:=I.list hq
 have hb:=mT (wR rv)
 have hl:=pl.isList
 have hlt:p<s.heap.objs.size:=by obtain⟨_,e,_⟩:=hl;exact AW e
 refine call_sum_walkG (Ct hl ?_)
 refine⟨s.heap.objs.size,[s.heap.objs.size,p],[s.heap.objs.size],its.toArray.size,_,_,fun i=>ns.getD i 0,rfl,El (A:=X.A.in1) (I.ok.hd hc) _ p (Ad hlt) its.toArray,
  ⟨⟨_,AZ _ rfl,rfl,rfl⟩,hl.push _⟩,fun b hb'=>?_,fun i v hP=>hb.2 i v (by simpa using hP),fun h' tk t' hk=>?_⟩
 ·simp only[Ac,Bg,or_false] at hb'
  show b<(s.heap.push _).objs.size
  rw[show (s.heap.push _).objs.size=s.heap.objs.size+1 from FQ ..]
  rcases hb' with e | e
  ·rw[e];exact DV _
  ·rw[e];exact Dw hlt
 ·have e:preSum (fun i=>ns.getD i 0) its.toArray.size=ns.sum:=by
   rw[tI _ _ (by rw[AK];omega),AG (by rw[AK];omega)]
  rw[e]
  exact⟨.int _,H,I.kept (LSm.kept_iter hk),⟨_,rfl⟩,q⟩
end
end L2
namespace L2
open PySem PySem.Spec PyProof.Rows
theorem aNZ{prog:Program}{w:World}{A:Around}{E:Value→Shared→Prop}{s:Shared}{r:Addr}{Q:Bool→Shared→Prop}(hT:s.TypeIs (.ref r) "list_reverseiterator")(h:Q false s) :
  wpAny (model prog w) A (Builtin.List.listLengthHint (.ref r)) Q E s:=by
 unfold Builtin.List.listLengthHint
 refine AD (Fa hT (r:=none) (by rfl) ?_)
 dsimp only
 rw[if_neg (by decide),if_neg (by decide)]
 refine AD (Fa hT (r:=some (.builtin "list_reverseiterator.__length_hint__")) (by rfl) ?_)
 dsimp only
 rw[show splitId "list_reverseiterator.__length_hint__"=some ("list_reverseiterator","__length_hint__") from by decide +kernel]
 dsimp only
 refine AD (wpAny_isInstance hT (b:=true) (by rfl) ?_)
 rw[if_neg (by decide),if_pos (by decide +kernel),if_neg (by decide +kernel)]
 exact AN h
theorem aGV{prog:Program}{w:World}{A:Around}{s:Shared}{R:Result→Shared→Prop}{I l:Addr}{items:Array Value}(hh:A.handled=none)(hI:s.heap.IsRevIter I l ((items.size:Int) - 1))(hl:s.heap.IsList l items)(hne:l≠I)(hn:items.size≤Am)
 (S:Addr)(hSI:S≠I)(hSl:S≠l)(res:Value)(c₀:Nat)(hS:s.heap.get? S=some { cls:=.type "list",data:=.seq #[] c₀ })
 (hR:∀ (h':Heap) (tk:Nat) (acc':Array Value) (c':Nat),(∀ (b:Addr) (o:Obj),b≠S→b≠I→s.heap.get? b=some o→h'.get? b=some o)→h'.get? S=some { cls:=.type "list",data:=.seq acc' c' }→ItemsOf (fun i v=>items[items.size - 1 - i]?=some v) acc' items.size→R (.ok (.ret res)) { s with heap:=h',toks:=tk }) :
  wpAny (model prog w) A.in1 (Builtin.List.listExtendWith (.ref S) (.ref I) res) (fun fin s'=>match fin with | .done f=>R (.ok f) s' | .again c'=>c'.quiet=true∧codeAny (model prog w) A c' R s') (fun e s'=>R (.error e) s') s:=by
 have hT:s.TypeIs (.ref I) "list_reverseiterator":=hI.typeIs
 have hSf:¬ S∈[I,l]:=by simp[hSI,hSl]
 have W:=Walks.listRev (prog:=prog) (w:=w) (A:=A.in1) hh I l hne items
 have key:∀ (h:Heap) (c₁:Nat) (tk:Nat),(∀ (b:Addr) (o:Obj),b≠S→s.heap.get? b=some o→h.get? b=some o)→h.get? S=some { cls:=.type "list",data:=.seq #[] c₁ } →
   codeAny (model prog w) A (.builtin "list.extend.loop" { pos:=[.ref S,.ref I,res] }) R { s with heap:=h,toks:=tk }:=fun h c₁ tk hk hS₁=>by
  refine codeAny_extend_loopS W.toS hn S hSf res items.size 0 { s with heap:=h,toks:=tk } #[] c₁ rfl (BN _) ?_ hS₁ (ItemsOf.nil _) fun s' acc' c' hm hS' hacc=>?_
  ·refine⟨BN _,?_,?_⟩
   ·have:((items.size:Int) - 1 - ((0:Nat):Int))=(items.size:Int) - 1:=by omega
    rw[this]
    obtain⟨o,ho,r⟩:=hI
    exact⟨o,hk _ _ (Ne.symm hSI) ho,r⟩
   ·obtain⟨o,ho,r⟩:=hl
    exact⟨o,hk _ _ (Ne.symm hSl) ho,r⟩
  ·rw[Moved.eq_with hm]
   refine hR s'.heap s'.toks acc' c' (fun b o h1 h2 e=>hm.heap b o (fun hmem=>?_) (hk b o h1 e)) hS' hacc
   rcases Ac.mp hmem with e' | hmem
   ·exact h1 e'
   ·exact h2 (AS.mp hmem)
 unfold Builtin.List.listExtendWith
 refine AD (Ed hT ?_)
 have e0:Builtin.List.listSameRef (.ref S) (.ref I)=false:=by
  show (S == I)=false
  exact beq_eq_false_iff_ne.mpr hSI
 rw[e0,if_neg (by decide +kernel)]
 refine AD (wpAny_pyIter_revIter hI ?_)
 refine AD (Br (aNZ hT ?_))
 have e0:s={ s with heap:=s.heap,toks:=s.toks }:=rfl
 refine wpAny_ite_split (fun _=>?_) (fun _=>?_)
 ·refine AD (FL (AD ?_))
  unfold Builtin.List.listTouch
  refine AD (FZ hS rfl ?_)
  have hS₂:=DT (BJ fun x=>x.push Bj) hS rfl
  refine FZ hS₂ rfl ?_
  have hS₃:=DT (BJ fun x=>x.pop) hS₂ rfl
  refine AN ⟨Cb F.plain_extend_loop _,key _ _ _ (fun b o hb e=>?_) hS₃⟩
  rw[BZ _ _ (Ne.symm hb),BZ _ _ (Ne.symm hb)]
  exact e
 ·exact AN ⟨Cb F.plain_extend_loop _,key s.heap c₀ s.toks (fun b o _ e=>e) hS⟩
theorem aNX{prog:Program}{w:World}{A:Around}{s:Shared}{R:Result→Shared→Prop}{I l:Addr}{items:Array Value}(hh:A.handled=none)(hI:s.heap.IsRevIter I l ((items.size:Int) - 1))(hl:s.heap.IsList l items)(hne:l≠I)(hn:items.size≤Am)
 (S:Addr)(hSI:S≠I)(hSl:S≠l)(hS:s.heap.get? S=some { cls:=.type "list",data:=.seq #[] })
 (hR:∀ (h':Heap) (tk:Nat) (acc':Array Value) (c':Nat),(∀ (b:Addr) (o:Obj),b≠S→b≠I→s.heap.get? b=some o→h'.get? b=some o)→h'.get? S=some { cls:=.type "list",data:=.seq acc' c' }→ItemsOf (fun i v=>items[items.size - 1 - i]?=some v) acc' items.size→R (.ok (.ret .none)) { s with heap:=h',toks:=tk }) :
  wpAny (model prog w) A.in1 (Builtin.«list.__init__» { pos:=[.ref S,.ref I] }) (fun fin s'=>match fin with | .done f=>R (.ok f) s' | .again c'=>c'.quiet=true∧codeAny (model prog w) A c' R s') (fun e s'=>R (.error e) s') s:=by
 refine AD (AD (Fd hS rfl (AN ?_)))
 refine AD (FZ hS rfl ?_)
 have hS₂:=DT (BJ fun x=>#[]) hS rfl
 have oth:∀ (b:Addr) (o:Obj),b≠S→s.heap.get? b=some o→(s.heap.update S (BJ fun x=>#[])).get? b=some o:=fun b o hb e=>(BZ s.heap (BJ fun x=>#[]) (Ne.symm hb)).trans e
 refine AD (wpAny_letGo ?_)
 refine aGV hh ?_ ?_ hne hn S hSI hSl .none _ hS₂ fun h' tk acc' c' hk hS' hacc=>hR h' tk acc' c' (fun b o h1 h2 e=>hk b o h1 h2 (oth b o h1 e)) hS' hacc
 ·obtain⟨o,ho,r⟩:=hI
  exact⟨o,oth _ _ (Ne.symm hSI) ho,r⟩
 ·obtain⟨o,ho,r⟩:=hl
  exact⟨o,oth _ _ (Ne.symm hSl) ho,r⟩
theorem aEI{prog:Program}{w:World}{A:Around}{E:Value→Shared→Prop}{s:Shared}{Q:Value→Shared→Prop}{I l:Addr}{items:Array Value}(hh:A.handled=none)(hI:s.heap.IsRevIter I l ((items.size:Int) - 1))(hl:s.heap.IsList l items)(hne:l≠I)(hn:items.size≤Am)
 (hQ:∀ (h':Heap) (tk:Nat) (acc':Array Value) (c':Nat),(∀ (b:Addr) (o:Obj),b≠I→s.heap.get? b=some o→h'.get? b=some o)→h'.get? s.heap.objs.size=some { cls:=.type "list",data:=.seq acc' c' }→ItemsOf (fun i v=>items[items.size - 1 - i]?=some v) acc' items.size→Q (.ref s.heap.objs.size) { s with heap:=h',toks:=tk }) :
  wpAny (model prog w) A (call (.type "list") [.ref I]) Q E s:=by
 have lI:I<s.heap.objs.size:=by obtain⟨_,e,_⟩:=hI;exact AW e
 have ll:l<s.heap.objs.size:=by obtain⟨_,e,_⟩:=hl;exact AW e
 refine Fe F.called_list (F.typeCall_list_1 (.ref I)) F.entry_list_init (code_list_new (.ref I) (Q₁:=fun o s₁=>o=.ref s.heap.objs.size∧s₁={ s with heap:=s.heap.push { cls:=.type "list",data:=.seq #[] } }) ⟨rfl,rfl⟩) fun obj s₁ h₁=>?_
 obtain⟨rfl,rfl⟩:=h₁
 have hS:=AZ (o:={ cls:=Ce "list",data:=Data.seq #[] }) s.heap rfl
 refine⟨⟨_,hS,rfl⟩,F.args_list_init_2 _ _,?_⟩
 refine aNX (A:=A.in1) hh ?_ ?_ hne hn s.heap.objs.size (Ne.symm (Ad lI)) (Ne.symm (Ad ll)) hS fun h' tk acc' c' hk hS' hacc=>⟨rfl,?_⟩
 ·obtain⟨o,ho,r⟩:=hI
  exact⟨o,AF _ ho,r⟩
 ·obtain⟨o,ho,r⟩:=hl
  exact⟨o,AF _ ho,r⟩
 ·exact hQ h' tk acc' c' (fun b o h1 e=>hk b o (Ad (AW e)) h1 (AF _ e)) hS' hacc
theorem xJ:BM "reversed"=some (.type "reversed"):=by decide +kernel
section
variable{X:Cx}{e:Expr}{t:TA}{p1 p2:Pos}{pos1 pos2:Pos}
def aXF(K:AE):List V→Hp→VK→Prop:=fun xs H Q=>∃ p ys,xs=[.ref p]∧SqL K H p ys∧∀ l,H l=none→Q (.ref l) (upd H l (.lst ys.reverse))
theorem aFX(hc:X.calm=true)(hg1:Gl X "list")(hm1:X.mg "list"=none)(hg2:Gl X "reversed")(hm2:X.mg "reversed"=none)(ha:PA X [e] t)
 (he1:Ak [e] X.env=(false,eval e X.env) :: Ak [] X.env:=by rfl)
 (he2:Ak [.Call (.Name "reversed" p2) [e] [] pos2] X.env=(false,eval (.Call (.Name "reversed" p2) [e] [] pos2) X.env) :: Ak [] X.env:=by rfl) :
  PE X (.Call (.Name "list" p1) [.Call (.Name "reversed" p2) [e] [] pos2] [] pos1) (tCB (aXF X.K) t):=by
 intro pins s σ H Q I h
 refine CD (mO I hg1 hm1 dU ?_ (by decide) (by decide))
 refine CA ?_ he2 rfl
 rw[he2]
 show wpAny _ _ (spliced ((false,eval _ X.env) :: backTo pos1 (Ak [] X.env))) _ _ s
 refine Calls.spliced_cons ?_
 refine CD (mO I hg2 hm2 xJ ?_ (by decide) (by decide))
 refine CA (thn (ha pos2 pins s σ H _ I h) fun us s1 ⟨vs,H1,I1,r1,q1⟩=>?_) he1 rfl
 obtain⟨p,ys,rfl,hq,q⟩:=q1
 obtain⟨u,rfl,ru⟩:=bD.one r1
 cases ru
 obtain⟨its,rv,pl,hz⟩:=I1.list hq
 have hl:=pl.isList
 have hlt:p<s1.heap.objs.size:=by obtain⟨_,e,_⟩:=hl;exact AW e
 refine call_reversed_list hl ?_
 refine Calls.spliced_nil ?_
 refine aEI (l:=p) (items:=its.toArray) (I.ok.hd hc) ⟨_,AZ _ rfl,rfl,rfl⟩ ?_ (Ad hlt) (by rw[AK,← rv.length];exact hz) fun h' tk acc c hk hg hi=>?_
 ·obtain⟨o,ho,r⟩:=hl
  exact⟨o,AF _ ho,r⟩
 have hk':∀ (b:Addr) (o:Obj),s1.heap.get? b=some o→h'.get? b=some o:=fun b o e=>hk b o (Ad (AW e)) (AF _ e)
 have hge:s1.heap.objs.size≤(s1.heap.push (revObj p ((its.toArray.size:Int) - 1))).objs.size:=by
  rw[show (s1.heap.push (revObj p ((its.toArray.size:Int) - 1))).objs.size=s1.heap.objs.size+1 from FQ ..]
  exact Cr _
 refine⟨.ref _,_,I1.laid (t':=tk) hk' hge (show bS X.prog X.w _ h' _ (.lst ys.reverse) from⟨by rw[Dd];exact hz,acc.toList,c,?_,by simpa using hg⟩),rfl,q _ (I1.hok.fresh hge)⟩
 have hlen:=rv.length
 have e0:acc.size=its.length:=by rw[hi.1,AK]
 refine uL (by rw[Dd,Bc,e0,hlen]) fun j u x e1 e2=>?_
 have e3:=hi.2 j u (by rw[← CN];exact e1)
 have hj:j<ys.length:=by
  have:=(AC.mp e2).1
  rw[Dd] at this
  exact this
 rw[List.getElem?_reverse hj] at e2
 have e4:its[ys.length - 1 - j]?=some u:=by
  have:its.toArray[its.toArray.size - 1 - j]?=some u:=e3
  rw[AK] at this
  rw[hlen]
  simpa using this
 obtain⟨u',e5,r5⟩:=rv.get e2
 rw[e4] at e5
 cases e5
 exact r5
end
end L2
namespace L2
open PySem PySem.Spec PyProof.Rows
theorem uZ:∀ {ys:List Str} {us:List Value},bD (ys.map V.str) us→StrsAre us ys
 | [],us,r=>by
  rw[Cg] at r
  cases r
  exact .nil
 | b :: bs,us,r=>by
  rw[AU] at r
  cases r with
  | cons r1 r2 =>
   obtain⟨t,rfl⟩:=r1
   exact .cons b t (uZ r2)
section
variable{X:Cx}
theorem aRI:MtR X "str.join" (fun x vs H Q=>∃ z p ys,x=.str z∧vs=[.ref p]∧SqL X.K H p (ys.map V.str)∧(ys.map fun y=>y.length).sum+ys.length*z.length≤16777216∧Q (.str (Txt.join z ys)) H):=by
 intro pins s σ H x xs v us Q I rx r h
 obtain⟨z,p,ys,rfl,rfl,hq,hz,q⟩:=h
 obtain⟨t,rfl⟩:=rx
 obtain⟨u,rfl,ru⟩:=bD.one r
 cases ru
 obtain⟨its,rv,pl,hl⟩:=I.list hq
 exact join_list pl.isList (uZ rv) hz fun t' k=>⟨.str _,H,I.tok k,⟨_,rfl⟩,q⟩
end
end L2
namespace L2
open PySem PySem.Spec PyProof.Rows
section
variable{X:Cx}
def tL(K:AE)(t:TE):TT:=fun σ H Q=>t σ H fun x H1=>∃ p xs,x=.ref p∧SqL K H1 p xs∧Q (!xs.isEmpty) H1
theorem aFV{e:Expr}{t:TE}(h:PE X e t)(he:∀ whole,isTrue e X.env whole=(do let v ← whole;standAt e.pos;holding [v] (truthy v)):=by intro _;rfl):PT X e (tL X.K t):=by
 intro pins s σ H Q I hw
 refine isTrue_plain (thn (h pins s σ H _ I hw) fun v s1 ⟨x,H1,I1,r1,q1⟩=>?_) (he _)
 obtain⟨p,xs,rfl,hq,q⟩:=q1
 cases r1
 obtain⟨its,rv,pl,hz⟩:=I1.list hq
 have hlen:=rv.length
 refine wpAny_truthy_list pl.isList ?_ ?_
 ·have:(Am:Nat)<2 ^ 63:=by decide
  rw[AK]
  omega
 ·have e:its.toArray.isEmpty=xs.isEmpty:=by
   cases xs with
   | nil=>cases rv;rfl
   | cons x r=>cases rv;rfl
  rw[e]
  exact⟨H1,I1.tok _,q⟩
end
end L2
namespace L2
open PySem PySem.Spec PyProof.Rows
section
variable{prog:Program}{w:World}{A:Around}{R:Result→Shared→Prop}{I S:Addr}{fp wr:List Addr}{n:Nat}{P:Nat→Value→Prop}{St:Nat→Heap→Prop}
end
section
variable{prog:Program}{w:World}{A:Around}{E:Value→Shared→Prop}{s:Shared}
end
section
variable{X:Cx}
theorem aEJ(f:Nat→Int):∀ k,argBest (fun i j=>decide (f i<f j)) k≤k∧∀ j≤k,f (argBest (fun i j=>decide (f i<f j)) k)≤f j
 | 0=>⟨AL _,fun j h=>by rw[Nat.le_zero.mp h];exact Ef _⟩
 | k+1=>by
  obtain⟨a1,a2⟩:=aEJ f k
  unfold argBest
  by_cases q:f (k+1)<f (argBest (fun i j=>decide (f i<f j)) k)
  ·rw[if_pos (decide_eq_true q)]
   exact⟨AL _,fun j m=>by
    by_cases e:j=k+1
    ·rw[e];exact Ef _
    ·have:=a2 j (by omega)
     omega⟩
  ·rw[if_neg (by rw[decide_eq_true_eq];exact q)]
   exact⟨by omega,fun j m=>by
    by_cases e:j=k+1
    ·rw[e];omega
    ·exact a2 j (by omega)⟩
end
end L2
namespace L2
open PySem PySem.Spec PyProof.Rows
noncomputable def Itd(d:Addr)(o:Obj)(kvs:List (Key×V)):It :=
 ⟨fun i H=>H d=some (.frz o (.dK kvs))∧i<kvs.length,fun i H x H'=>H'=H∧∃ kv,kvs[i]?=some kv∧x=kV kv.1,fun i H=>H d=some (.frz o (.dK kvs))∧kvs.length≤i⟩
theorem yH{P:Program}{w:World}{K:AE}{tg:Expr}{d it:Addr}{o:Obj}{kvs:List (Key×V)}{vs:List (Key×Value)}{ep:Nat}{h0:Heap}(kv:KV kvs vs)(hd0:h0.get? d=some o)(hat:h0.DictAt (aU P w) d vs ep) :
  Turn P w K tg (Itd d o kvs) [it] it (fun i h=>h.IsKeyIter it d i vs.length ep) where
 mem:=by simp
 obj:=fun i h st b hb=>by
  have e:b=it:=by simpa using hb
  subst e
  obtain⟨ob,e,c,dd⟩:=st
  exact⟨ob,e,fun v z=>by rw[dd] at z;cases z⟩
 keep:=fun i h h' st k=>st.at fun ob e=>k it (by simp) ob e
 item:=by
  intro X hP hw hK hc i pins s σ H E I hf st hg
  subst hP hw hK
  obtain⟨hH,hi⟩:=hg
  obtain⟨f0,f1,f2,f3,f4,f5⟩:=hf it (by simp)
  have hget:s.heap.get? d=some o:=(show bS X.prog X.w H s.heap d (.frz o (.dK kvs)) from I.hok d _ hH).1
  have hat':=hat.at' (h':=s.heap) fun ob e=>by rw[hd0] at e;cases e;exact hget
  have hl:=KV.length kv
  obtain⟨⟨k,v⟩,hx⟩:∃ p,vs[i]?=some p:=⟨_,AB (by omega)⟩
  obtain⟨q,eq,e1,e2⟩:=KV.get kv hx
  refine wpAny_pyNext_dict_item st hat' hx fun key h' hkey st' sb=>?_
  have I1:Inv X pins σ H { s with heap:=h' }:=I.turned (t':=s.toks) (fun b ob hb e=>(sb.2 b hb).trans e) f0 f1 f3 f4 f5
  obtain⟨ob,e,c,dd⟩:=id st'
  refine⟨key,rfl,aEN (s:={ s with heap:=h' }) e c dd (by decide) ⟨kV q.1,H,I1,?_,⟨rfl,q,eq,rfl⟩,st',fun b hb=>(hf b hb).1⟩⟩
  rw[show q.1=k from e1]
  exact zJ hkey
 done:=by
  intro X hP hw hK hc i pins s σ H E I hf st hg
  subst hP hw hK
  obtain⟨hH,hi⟩:=hg
  obtain⟨f0,f1,f2,f3,f4,f5⟩:=hf it (by simp)
  have hget:s.heap.get? d=some o:=(show bS X.prog X.w H s.heap d (.frz o (.dK kvs)) from I.hok d _ hH).1
  have hat':=hat.at' (h':=s.heap) fun ob e=>by rw[hd0] at e;cases e;exact hget
  have hl:=KV.length kv
  exact wpAny_pyNext_dict_end (I.ok.hd hc) st hat' (List.getElem?_eq_none (by omega)) fun h' eb=>⟨rfl,I.turned (t':=s.toks) (fun b ob hb e=>eb b ob hb e) f0 f1 f3 f4 f5⟩
 self:=fun _ _ _ _ _ st h=>wpAny_pyIter_keyiter st h
section
variable{X:Cx}{tg:Expr}
def aYA(td:TE):TI:=fun σ H R=>td σ H fun x H1=>∃ d kvs,x=.ref d∧H1 d=some (.dK kvs)∧∀ o,R (Itd d o kvs) (upd H1 d (.frz o (.dK kvs)))
theorem aBH{l:Expr}{tl:TE}(hl:PE X l tl):PI X tg l (aYA tl):=by
 intro pins s σ H R I h
 refine thn (hl pins s σ H _ I h) fun v s1 ⟨x,H1,I1,r1,q1⟩=>?_
 obtain⟨d,kvs,e,hH,q⟩:=q1
 subst e
 cases r1
 have hok:=I1.hok d _ hH
 obtain⟨hz,lo,vs,kv,hD⟩:=id hok
 obtain⟨ep,hat⟩:=hD.dictAt
 obtain⟨o,es,ho,_⟩:=id hat
 refine wpAny_pyIter_dict lo hat ?_
 have I2:Inv X pins σ (upd H1 d (.frz o (.dK kvs))) s1:=I1.write (x:=d) (e:=d) (o:=.frz o (.dK kvs)) (h':=s1.heap) (t':=s1.toks) (by rw[hH];exact trivial) (.inl rfl) (fun _ _ _ q=>q) ⟨o,ho⟩ ⟨ho,hz,lo,vs,kv,hD⟩
 refine⟨s1.heap.objs.size,[s1.heap.objs.size],_,_,upd H1 d (.frz o (.dK kvs)),rfl,I2.kept (t':=s1.toks) fun b ob e=>AF _ e,yH kv ho hat,⟨_,AZ _ rfl,rfl,rfl⟩,fun b hb=>?_,q o⟩
 have e:b=s1.heap.objs.size:=by simpa using hb
 subst e
 exact I2.fpOk (AL _) (I2.hok.fresh (AL _))
theorem sI{d:Addr}{o:Obj}{kvs:List (Key×V)}{σb:St}{g:TG}{tt:TT}{te:TE}{fin:List V→Hp→Prop}{H:Hp}(hz:kvs.length≤Am)(Pv:Nat→List V→Hp→Prop)(h0:Pv 0 [] H)
 (hl:∀ i ys H,i≤kvs.length→Pv i ys H→H d=some (.frz o (.dK kvs))∧ys.length≤i)
 (hs:∀ i kv ys H (K:VK) (K':Hp→Prop),kvs[i]?=some kv→Pv i ys H→(∀ y H4,Pv (i+1) (ys++[y]) H4→K y H4)→(∀ H3,Pv (i+1) ys H3→K' H3) →
   g (kV kv.1) σb H fun σ2 H2=>tt σ2 H2 fun b H3=>if b=true then te σ2 H3 K else K' H3)
 (hd:∀ ys H,Pv kvs.length ys H→fin ys H):∃ W:CW,(∃ m,W 0 m [] H)∧∀ i m ys H,W i m ys H→yI σb (Itd d o kvs) g tt te W fin i m ys H:=by
 refine⟨fun i m ys H=>m=kvs.length - i∧i≤kvs.length∧Pv i ys H,⟨kvs.length,by simp,BN _,h0⟩,?_⟩
 rintro i m ys H ⟨rfl,hi,p⟩
 obtain⟨q,ql⟩:=hl i ys H hi p
 by_cases hlt:i<kvs.length
 ·refine .inr ⟨⟨q,hlt⟩,by omega,fun x H' y=>?_⟩
  obtain⟨e,kv,ek,ex⟩:=y
  subst e ex
  exact hs i kv ys _ _ _ ek p (fun y H4 q=>⟨kvs.length - (i+1),by omega,rfl,hlt,q⟩) fun H3 q=>⟨kvs.length - (i+1),by omega,rfl,hlt,q⟩
 ·have e:i=kvs.length:=by omega
  subst e
  exact .inl ⟨⟨q,AL _⟩,hd ys H p⟩
end
end L2
namespace L2
open PySem PySem.Spec PyProof.Rows
section
variable{X:Cx}
theorem aOE{d:Addr}{o:Obj}{kvs:List (Key×V)}{g:TG}{tb:TS}{D:Ends}{σ:St}{H:Hp}(Pv:Nat→St→Hp→Prop)(h0:Pv 0 σ H)(hl:∀ i σ H,i≤kvs.length→Pv i σ H→H d=some (.frz o (.dK kvs)))
 (hs:∀ i kv σ H,kvs[i]?=some kv→Pv i σ H→g (kV kv.1) σ H fun σ2 H2=>tb { D with nx:=Pv (i+1),ct:=Pv (i+1),bk:=D.nx } σ2 H2)(hd:∀ σ H,Pv kvs.length σ H→D.nx σ H) :
  ∃ W:Nat→Nat→St→Hp→Prop,(∃ m,W 0 m σ H)∧∀ i m σ H,W i m σ H →
   ((Itd d o kvs).stop i H∧D.nx σ H)∨((Itd d o kvs).go i H∧∃ N:St→Hp→Prop,(∀ σ' H',N σ' H'→∃ m',m'<m∧W (i+1) m' σ' H')∧∀ x H',(Itd d o kvs).yld i H x H'→g x σ H' fun σ2 H2=>tb { D with nx:=N,ct:=N,bk:=D.nx } σ2 H2):=by
 refine⟨fun i m σ H=>m+i=kvs.length∧Pv i σ H,⟨kvs.length,rfl,h0⟩,?_⟩
 intro i m σ H hw
 obtain⟨hm,pv⟩:=hw
 have at_:=hl i σ H (by omega) pv
 rcases Nat.lt_or_ge i kvs.length with lt | ge
 ·refine .inr ⟨⟨at_,lt⟩,Pv (i+1),(fun σ' H' p'=>⟨kvs.length - (i+1),by omega,by omega,p'⟩),fun x H' y=>?_⟩
  obtain⟨eH,kv,ek,ex⟩:=y
  subst eH ex
  exact hs i kv σ _ ek pv
 ·have ei:i=kvs.length:=by omega
  subst ei
  exact .inl ⟨⟨at_,AL _⟩,hd σ H pv⟩
end
end L2
namespace L2
open PySem PySem.Spec PyProof.Rows PySem.W
section
variable{P:Program}{w:World}{K:AE}{mg:Str→Option Value}{base:Heap}
theorem Fun.okC{x qual:Str}{st:Stmt}{f:Addr}{fd:Ba}{N ps:List Str}{k:Nat}{sp:Sp}{c:Addr}(F:Fun K x qual st f fd)(hc:fd.code=.ref c)(S:FnScope N ps (aF st))(len:∀ vs H Q E,sp vs H Q E→vs.length=ps.length)
 (hbody:∀ (A:Around) (outer:List Env) (s:Shared) (H:Hp) (vs:List V) (Q:VK) (E:XK),Room k (A.deeper (envOfC qual (aF st) s.heap.objs.size f (.ref c)))→sp vs H Q E →
   ∃ t,PSs (gZ CX0 P w K mg base N qual (aF st) f (.ref c) A outer s H E).nox (cV st) t∧t { nx:=fun _ H'=>Q .non H',rt:=Q } (start N vs) H):FnOk P w K mg base CX0 (k+1) f fd ps sp:=by
 obtain⟨oc,od,kV,doc,pm,an,cdv,ct,osl,rfl,lk,hcd⟩:=F.ex
 obtain rfl:cdv=.ref c:=hc
 refine aOG lk hcd S len fun A outer s H vs Q E hr hsp=>?_
 obtain⟨t,h,q⟩:=hbody A outer s H vs Q E hr hsp
 exact⟨t,h.nox,q⟩
end
section
variable{X:Cx}{T:Addr}{qual:Str}{params:Dy}{body e:Expr}{scope:Scope}{p pos lp kp:Pos}{te tb:TE}
def aTN(T:Addr)(lp:Pos)(qual:Str)(te:TE):TE:=fun σ H Q=>te σ H fun x H1=>∃ (l:Addr) (ps:List (Addr×List Int)) (π:Array Nat),x=.ref l∧H1 l=some (.lst (ps.map fun p=>V.ref p.1))∧iX H1 ps∧2≤ps.length∧ps.length≤1000 ∧
 sO (ps.map (·.2)) π∧(∀ i∈π.toList,i<ps.length)∧π.size=ps.length∧kE T lp qual H1 ∧
 ∀ (D:Addr) (H2:Hp),eE T H1 H2→kE T lp qual H2→H2 D=some (.lst (π.toList.map fun i=>(ps.map fun p=>V.ref p.1).getD i .non))→Q (.ref D) H2
def aWK(tb:TE):Prop:=∀ (a:Addr) (ns:List Int) (H:Hp) (Q:VK),H a=some (.lst (ns.map V.int))→(∀ (t:Addr) (H':Hp),aH H H'→H' t=some (.tup [.int ns.length,.ref a])→Q (.ref t) H')→tb [some (.ref a)] H Q
theorem aRM{k:Nat}{σ:List (Option V)}{f c':Addr}{y:Str}(hr:Room (k+3) X.A)(S:FnScope [y] [y] scope)(hbind:∀ (pm cdv ct u:Value),Ew (kla_fn "<lambda>" qual params body scope [] pm cdv ct) ⟨[u],[]⟩=pure [(y,u)])
 (hbody:∀ (f:Addr) (cdv:Value) (A:Around) (outer:List Env) (s:Shared) (H:Hp),PE (gZ CX0 X.prog X.w X.K X.mg X.base [y] qual scope f cdv A outer s H E0).nox body tb)(kb:aWK tb) :
  aSN X σ X.A.in1.in1 f (fun H=>H f=some (uK "<lambda>" qual params body scope c' f)∧H c'=some (oV qual c')):=by
 intro pins s H a ns I ⟨ef,ec⟩ ea
 obtain⟨⟨pm,ctv,gf⟩,_⟩:=I.hok f _ ef
 obtain⟨rc,_⟩:=I.hok c' _ ec
 refine Dz (Co (aNR (k:=k) (N:=[y]) (ps:=[y]) (us:=[.ref a]) (vs:=[.ref a]) (Q:=fun v H'=>∃ t,v=.ref t∧aH H H'∧H' t=some (.tup [.int ns.length,.ref a])) hr.in1.in1 I.env0.in1.in1 gf rfl rc S (.of_eq (hbind _ _ _ _)) (.cons rfl .nil) rfl
  fun _=>⟨tb,hbody _ _ _ _ _ _,kb a ns H _ ea fun t H' S' e'=>⟨t,rfl,S',e'⟩⟩) fun r s' hq=>?_)
 cases r with
 | error e=>exact hq.elim
 | ok fl =>
  cases fl with
  | ret u =>
   obtain⟨v,H',I',rv,t,rfl,S',e'⟩:=I.after hq
   cases rv
   exact⟨t,H',I',rfl,S',e'⟩
  | next=>exact BF hq
  | brk=>exact BF hq
  | cont=>exact BF hq
theorem aNB{k:Nat}{y:Str}(hr:Room (k+3) X.A)(hg:Gl X "sorted")(hm:X.mg "sorted"=none)(he:PE X e te)(hlam:PE X (.Lambda params body scope lp) (aWT T lp qual params body scope))(S:FnScope [y] [y] scope)
 (hbind:∀ (pm cdv ct u:Value),Ew (kla_fn "<lambda>" qual params body scope [] pm cdv ct) ⟨[u],[]⟩=pure [(y,u)])
 (hbody:∀ (f:Addr) (cdv:Value) (A:Around) (outer:List Env) (s:Shared) (H:Hp),PE (gZ CX0 X.prog X.w X.K X.mg X.base [y] qual scope f cdv A outer s H E0).nox body tb)(kb:aWK tb)
 (hs:Ak [e] X.env=(false,eval e X.env) :: Ak [] X.env:=by rfl)(hpl:(backTo pos (Ak [e] X.env)).any (·.1)=false:=by rfl) :
  PE X (.Call (.Name "sorted" p) [e] [⟨some "key",.Lambda params body scope lp,kp⟩] pos) (aTN T lp qual te):=by
 intro pins s σ H Q I h
 refine CD (mO I hg hm aCL ?_ (by decide) (by decide))
 have hp2:((backTo pos (Ak [e] X.env)).any (·.1) || (Dj pos (Cl [⟨some "key",.Lambda params body scope lp,kp⟩] X.env)).any (·.1.isNone))=false:=by rw[hpl];rfl
 refine PySem.W.callWith_of (P:=fun _=>True) hp2 (fun h _=>⟨.machine,.inr (.inl rfl),DQ.of_pure rfl⟩) (evalArgs_kw2 rfl ?_ hs)
 refine thn (show wpAny _ _ _ _ _ s from Az (aA he aB hs pos pins s σ H (fun vs H1=>∃ x,vs=[x]∧∃ (l:Addr) (ps:List (Addr×List Int)) (π:Array Nat),x=.ref l∧H1 l=some (.lst (ps.map fun p=>V.ref p.1))∧iX H1 ps∧2≤ps.length∧ps.length≤1000 ∧
  sO (ps.map (·.2)) π∧(∀ i∈π.toList,i<ps.length)∧π.size=ps.length∧kE T lp qual H1 ∧
  ∀ (D:Addr) (H2:Hp),eE T H1 H2→kE T lp qual H2→H2 D=some (.lst (π.toList.map fun i=>(ps.map fun p=>V.ref p.1).getD i .non))→Q (.ref D) H2) I ?_) (fun _ _ z=>z) fun _ _ z=>z) fun us s1 ⟨vs,H1,I1,r,x,e1,l,ps,π,e2,hl,it,h2,h64,hπ,hb,hz,tb0,q⟩=>?_
 ·show te σ H fun x H1=>∃ x',[x]=[x']∧_
  have hmono:∀ (R1 R2:VK),(∀ x H1,R1 x H1→R2 x H1)→R1=R1→True:=fun _ _ _ _=>trivial
  have ee:(fun (x:V) (H1:Hp)=>∃ x',[x]=[x']∧∃ (l:Addr) (ps:List (Addr×List Int)) (π:Array Nat),x'=.ref l∧H1 l=some (.lst (ps.map fun p=>V.ref p.1))∧iX H1 ps∧2≤ps.length∧ps.length≤1000 ∧
   sO (ps.map (·.2)) π∧(∀ i∈π.toList,i<ps.length)∧π.size=ps.length∧kE T lp qual H1 ∧
   ∀ (D:Addr) (H2:Hp),eE T H1 H2→kE T lp qual H2→H2 D=some (.lst (π.toList.map fun i=>(ps.map fun p=>V.ref p.1).getD i .non))→Q (.ref D) H2) =
   (fun (x:V) (H1:Hp)=>∃ (l:Addr) (ps:List (Addr×List Int)) (π:Array Nat),x=.ref l∧H1 l=some (.lst (ps.map fun p=>V.ref p.1))∧iX H1 ps∧2≤ps.length∧ps.length≤1000 ∧
   sO (ps.map (·.2)) π∧(∀ i∈π.toList,i<ps.length)∧π.size=ps.length∧kE T lp qual H1 ∧
   ∀ (D:Addr) (H2:Hp),eE T H1 H2→kE T lp qual H2→H2 D=some (.lst (π.toList.map fun i=>(ps.map fun p=>V.ref p.1).getD i .non))→Q (.ref D) H2):=by
   funext x H1
   refine propext ⟨fun⟨x',a,b⟩=>?_,fun b=>⟨x,rfl,b⟩⟩
   cases a
   exact b
  rw[ee]
  exact h
 subst e1 e2
 obtain⟨u,rfl,ru⟩:=bD.one r
 cases ru
 have eT:l≠T:=fun z=>by
  obtain⟨qs,g,_⟩:=tb0
  rw[z,g] at hl
  cases hl
 have nT:∀ p∈ps,p.1≠T:=fun p m z=>by
  obtain⟨qs,g,_⟩:=tb0
  have:=it p m
  rw[z,g] at this
  cases this
 refine thn (aQV (nm:=some "key") (kpos:=kp) hlam aUP pos pins s1 σ H1 (fun vs H2=>∃ f c',vs=[.ref f]∧eE T H1 H2∧kE T lp qual H2∧H2 c'=some (oV qual c')∧H2 f=some (uK "<lambda>" qual params body scope c' f)) I1 ⟨tb0,fun f c' H' a b c d=>⟨f,c',rfl,a,b,c,d⟩⟩) fun ws s2 ⟨vs,H2,I2,r2,f,c',e1,K2,T2,ec,ef⟩=>⟨trivial,?_⟩
 subst e1
 obtain⟨ud,rfl,rd⟩:=bD.one r2
 cases rd
 show wpAny _ _ (call (.builtin "sorted") [.ref l] [("key",.ref f)]) _ _ s2
 refine aDE (P0:=fun H=>H f=some (uK "<lambda>" qual params body scope c' f)∧H c'=some (oV qual c')) (by have:=hr.un;omega) (fun _ _ Sm a=>⟨Sm _ _ a.1,Sm _ _ a.2⟩) (aRM hr S hbind hbody kb) I2 (SqL.of (K2 _ _ eT hl)) ⟨ef,ec⟩ (fun p m=>K2 _ _ (nT p m) (it p m)) h2 h64 hπ hb hz fun D H3 S3 _ eD=>?_
 exact q D H3 (K2.trans fun b o _ e=>S3 b o e) (T2.keep S3) eD
end
end L2
namespace L2
open PySem PySem.Spec PyProof.Rows PySem.W
def aAQ(K:AE)(T:Addr):Sp:=fun vs H Q _=>∃ x,vs=[x]∧∃ (a:Addr) (ns:List Int),x=.ref a∧SqL K H a (ns.map V.int)∧ns.length≤63∧H T=some (.tbl #[])∧∀ H',Q (.bl true) H'
theorem aKJ{P:Program}{w:World}{K:AE}{mg mb:Str→Option Value}{k:Nat}{fa a c T:Addr}{fd:Ba}{x y:Str}{s₁:Shared}{vs:List Value}{ns:List Int}{p:Program}{loose:List Str}{mean:ExcName→Option Value}
 (KX:K.In s₁.heap)(G:Top p loose mean mg mb s₁.heap)(hg:s₁.gens=#[])
 (ha:s₁.heap.get? a=some { cls:=.type "list",data:=.seq vs.toArray })(hi:IntsAre vs ns)(hl:ns.length≤63)(hr:Room k callerA)
 (hT:s₁.heap.get? T=some (tabObj #[]))(hC:CodeHd s₁.heap c T)(hKT:K.lookup T=none)(ht:tabIn K y=some (c,T))
 (F:∀ base:Heap,K.In base→base.Ns CH mg→TabB K mg base y c T→FnOk P w K mg base CX0 k fa fd [x] (aAQ K T))(hbind:∀ (s:Shared) (u:Value),BindsTo s fd ⟨[u],[]⟩ [(x,u)]) :
  codeAny (model P w) callerA (.call (.ref fa) ⟨[.ref a],[]⟩) (fun r s'=>r=.ok (.ret (.bool true))∧OldK s₁.heap s'.heap∧s'.os=s₁.os∧AllBare s'.gens) s₁:=by
 have rv:=yF hi
 have lenV:=hi.length
 have naT:a≠T:=fun z=>by rw[z,hT] at ha;cases ha
 have core:∀ H:Hp,(∀ b,b≠T→H b=none∨∃ o xs,H b=some (.frz o (.lst xs)))→H T=some (.tbl #[])→SqL K H a (ns.map V.int)→HOk P w H s₁.heap→(∀ b,b≠T→H b≠none→b=a)→(H a≠none→K.lookup a=none) →
   codeAny (model P w) callerA (.call (.ref fa) ⟨[.ref a],[]⟩) (fun r s'=>r=.ok (.ret (.bool true))∧OldK s₁.heap s'.heap∧s'.os=s₁.os∧AllBare s'.gens) s₁:=by
  intro H hO eT hS hok hA hK
  have base_of:∀ {b:Addr} {o:Obj},s₁.heap.get? b=some o→H b=none→(yA s₁.heap H).get? b=some o:=fun e n=>aOA e n
  have none_of:∀ {b:Addr} {o:Obj},s₁.heap.get? b=some o→o≠tabObj #[]→o≠{ cls:=.type "list",data:=.seq vs.toArray }→H b=none:=fun {b o} e n1 n2=>by
   cases q:H b with
   | none=>rfl
   | some u =>
    by_cases z:b=T
    ·rw[z,hT] at e
     exact absurd (Ao e).symm n1
    ·have e':b=a:=hA b z (by rw[q];simp)
     rw[e',ha] at e
     exact absurd (Ao e).symm n2
  have noA:∀ {b:Addr} {o:Obj} {es:Array FC} {ep:Nat},s₁.heap.get? b=some o→o.data=.dict es ep→H b=none:=fun {b o es ep} e d =>
   none_of e (fun z=>by rw[z] at d;cases d) (fun z=>by rw[z] at d;cases d)
  have nsK:∀ {b:Addr} {m:Str→Option Value},s₁.heap.Ns b m→(yA s₁.heap H).Ns b m:=fun {b m} ⟨o,es,ep,e,d,r⟩=>⟨o,es,ep,base_of e (noA e d),d,r⟩
  have hKb:K.In (yA s₁.heap H):=fun b o e=>base_of (KX b o e) (by
   cases q:H b with
   | none=>rfl
   | some u =>
    by_cases z:b=T
    ·rw[z,hKT] at e;cases e
    ·have e':b=a:=hA b z (by rw[q];simp)
     subst e'
     rw[hK (by rw[q];simp)] at e;cases e)
  have hM:Mod K mg (yA s₁.heap H):=⟨hKb,nsK G.g,⟨mb,nsK G.b,G.builtins⟩,let ⟨mc,h1,h2⟩:=G.nolimit;⟨mc,nsK h1,h2⟩⟩
  have e0:Env0 P w K mg (yA s₁.heap H) callerA [] s₁ H:=⟨rfl,hM,fun b o e=>aRD e,EN (aKM _ _),trivial,fun b hb=>absurd (show b∈([]:List Addr) from hb) (by simp),hok,.of_eq hg⟩
  have TB:TabB K mg (yA s₁.heap H) y c T:=by
   refine⟨?_,?_,fun f o fd' h1 h2 h3=>law_code KX G.g ht h1 (KX _ _ h2) h3⟩
   ·obtain⟨bm,ob,b1,b2,b3,b4,b5,b6⟩:=G.bmain
    exact⟨bm,ob,b1,b2,base_of b3 (none_of b3 (fun z=>by rw[z] at b4;cases b4) (fun z=>by rw[z] at b4;have b4:Ce "list"=Ce "module":=b4;injection b4 with b4;exact absurd b4 (by decide))),b4,b5,b6⟩
   ·obtain⟨o,vs',file,tf,flags,tg,inF,text,tt,e1,r1,r⟩:=hC
    exact⟨o,vs',file,tf,flags,tg,inF,text,tt,base_of e1 (none_of e1 (fun z=>by rw[z] at r1;cases r1) (fun z=>by rw[z] at r1;have r1:Ce "list"=Ce "code":=r1;injection r1 with r1;exact absurd r1 (by decide))),r1,r⟩
  refine Co ((F _ hKb (nsK G.g) TB).run callerA [] s₁ H ⟨[.ref a],[]⟩ [.ref a] [.ref a] (fun v _=>v=.bl true) (fun _ _ _=>False) hr e0 (hbind s₁ (.ref a)) (.cons rfl .nil) ⟨_,rfl,a,ns,rfl,hS,hl,eT,fun _=>rfl⟩) fun r s' h=>?_
  cases r with
  | error e=>exact BF h
  | ok fl =>
   cases fl with
   | next=>exact BF h
   | brk=>exact BF h
   | cont=>exact BF h
   | ret u =>
    obtain⟨v,H',os,bare,un,hok',r',q⟩:=h
    have q':v=.bl true:=q
    subst q'
    obtain rfl:u=Em true:=r'
    have kp:∀ b o,b≠T→s₁.heap.get? b=some o→s'.heap.get? b=some o:=fun b o nb e=>by
     cases q:H b with
     | none=>exact un.keep b o e q (by intro z;exact absurd (show b∈([]:List Addr) from z) (by simp)) (by simp)
     | some u =>
      rcases hO b nb with z | ⟨ob,xs,z⟩
      ·rw[q] at z;cases z
      ·have z2:=un.frzs b ob _ z
       obtain⟨e1,_⟩:=hok b _ z
       obtain⟨e2,_⟩:=hok' b _ z2
       rw[e] at e1;cases e1
       exact e2
    obtain⟨more,eT'⟩:=un.tbls T _ eT
    have gT':s'.heap.get? T=some (tabObj (#[]++more)):=hok' T _ eT'
    refine⟨rfl,⟨fun b o e=>?_,fun b o e=>?_⟩,os,bare⟩
    ·by_cases z:b=T
     ·subst z
      rw[hT] at e
      cases e
      exact .inr (.inl ⟨(hC.tab hT).isCodeTable,rfl,#[],more,rfl,gT'⟩)
     ·exact .inl (kp b o z e)
    ·by_cases z:b=T
     ·exact⟨_,z▸gT'⟩
     ·exact⟨o,kp b o z e⟩
 cases hk:K.lookup a with
 | some o =>
  have e:=KX a o hk
  rw[ha] at e
  cases e
  refine core (fun b=>if b=T then some (.tbl #[]) else none) (fun b nb=>.inl (if_neg nb)) (if_pos rfl) (.inr ⟨_,vs.toArray,_,hk,rfl,rfl,rfl,by rw[AK,lenV];exact Av hl (by decide),by simpa using rv⟩) (fun b u z=>?_) (fun b nb z=>absurd (if_neg nb) z) fun z=>absurd (if_neg naT) z
  by_cases hb:b=T
  ·have z':=(if_pos hb).symm.trans z
   cases z'
   subst hb
   exact hT
  ·have z':=(if_neg hb).symm.trans z
   cases z'
 | none =>
  refine core (fun b=>if b=T then some (.tbl #[]) else if b=a then some (.frz { cls:=.type "list",data:=.seq vs.toArray } (.lst (ns.map V.int))) else none) (fun b nb=>?_) (if_pos rfl) (.inl (.inr ⟨{ cls:=.type "list",data:=.seq vs.toArray },by show (if a=T then _ else _)=_;rw[if_neg naT,if_pos rfl]⟩)) (fun b u z=>?_) (fun b nb z=>?_) fun _=>hk
  ·by_cases hb:b=a
   ·exact .inr ⟨_,_,by show (if b=T then _ else _)=_;rw[if_neg nb,if_pos hb]⟩
   ·exact .inl (by show (if b=T then _ else _)=_;rw[if_neg nb,if_neg hb])
  ·by_cases hT':b=T
   ·have z':=(if_pos hT').symm.trans z
    cases z'
    subst hT'
    exact hT
   ·have z0:=(if_neg hT').symm.trans z
    by_cases hb:b=a
    ·have z':=(if_pos hb).symm.trans z0
     cases z'
     subst hb
     exact⟨ha,by rw[AA];exact Av hl (by decide),vs,_,rv,ha⟩
    ·have z':=(if_neg hb).symm.trans z0
     cases z'
  ·by_cases hb:b=a
   ·exact hb
   ·exact absurd (by show (if b=T then _ else _)=_;rw[if_neg nb,if_neg hb]) z
theorem walk_lawT{l:PySem.W.OpenLaw}{q:Program}{loose:List Str}{XP:(Str→Option Value)→Heap→Prop}{YP:World→Heap→Prop}{d:DefRec}{K:Params→AE}(k:Nat)(y:Str)(c T:Addr)(hr:Room k callerA)(hn:l.most=some 63)(hdf:d.params.defaults=[])
 (hY:∀ (w:World) (h:Heap),YP w h→(K w.params).In h)(hT:∀ (w:World) (h:Heap),YP w h→h.get? T=some (tabObj #[]))(hC:∀ (w:World),codeHdIn (K w.params) c T=true)(hK:∀ w:World,(K w.params).lookup T=none)(ht:∀ w:World,tabIn (K w.params) y=some (c,T))
 (F:∀ (w:World) (mg:Str→Option Value) (fa:Addr) (h:Heap),(K w.params).In h→h.Ns CH mg→mg d.name=some (.ref fa) →
   ∃ fd:Ba,(∀ (s:Shared) (u:Value),BindsTo s fd ⟨[u],[]⟩ [("_law_script",u)])∧∀ base:Heap,(K w.params).In base→base.Ns CH mg→TabB (K w.params) mg base y c T→FnOk l.prog w (K w.params) mg base CX0 k fa fd ["_law_script"] (aAQ (K w.params) T)) :
  PySem.W.WalkO q loose XP YP l.row.toRowW d [] (fun f vs=>PySem.call f vs):=by
 refine Att.attach_call hn hdf fun w s₀ s₁ mg mb fa o pm cd doc a vs ns G Y ho hd hcd hmg hobj hints hlen hg=>?_
 have KX:=hY w _ Y
 obtain⟨fd,hb,hF⟩:=F w mg fa _ KX G.T.g hmg
 exact aKJ KX G.T hg hobj hints hlen hr (hT w _ Y) (codeHd_of_K KX (hC w)) (hK w) (ht w) hF hb
end L2
namespace L2
open PySem PySem.Spec PyProof.Rows PySem.W
section
variable{prog:Program}{w:World}{A:Around}{E:Value→Shared→Prop}{s:Shared}{κ:SortKind}{it:Array Keyed}{n:Nat}{lt:Nat→Nat→Bool}
theorem aJX(hk:rB prog w A s κ it n lt){a:As}{ix sa na pw sb nb q k nb' x1 x2 y0:Nat}{c:Ml}{res:Array Nat}(hp0:a.pend[ix]?=some (sa,na,pw))(hp1:a.pend[ix+1]?=some (sb,nb,q))(e1:a.p[sb]?=some x1)(g1:aRT (bfR n lt a.p x1 sa) na 0=some k)(n1:(na - k == 0)=false)
 (e2:a.p[sa+k+(na - k) - 1]?=some x2)(g2:aRU (bfL n lt a.p x2 sb) nb (nb - 1)=some nb')(n2:(nb' == 0)=false)(le:na - k≤nb')(e3:(a.p.extract sb (sb+nb'))[0]?=some y0)(z1:(1 == (a.p.extract sb (sb+nb')).size)=false)(z2:(0+1 == (a.p.extract (sa+k) sb).size)=false)
 (h:dH (aNM n lt (a.p.extract (sa+k) sb) (a.p.extract sb (sb+nb')) a.mg) ((a.p.extract (sa+k) sb).size+(a.p.extract sb (sb+nb')).size) ⟨none,#[y0],0,1,0,0⟩=some c)(hr:c.res=some res)(h1:1≤(a.p.extract (sa+k) sb).size+(a.p.extract sb (sb+nb')).size) :
  Rn prog w A E s (mergeAt' ix) (a.st κ it) true (As.st κ it ⟨aQQ a.p (sa+k) res,(a.pend.setIfInBounds ix (sa,na+nb,pw)).eraseIdxIfInBounds (ix+1),a.mg⟩):=by
 refine aJ gJ ?_
 show Rn prog w A E s (match ((pendingOf (a.st κ it))[ix]?,(pendingOf (a.st κ it))[ix+1]?) with | (some (sa,na,power),some (sb,nb,snd))=>_ | x=>_) _ _ _
 rw[show (pendingOf (a.st κ it))[ix]?=some (sa,na,pw) from hp0,show (pendingOf (a.st κ it))[ix+1]?=some (sb,nb,q) from hp1]
 dsimp only
 refine aJ (a:=()) (st1:=As.st κ it ⟨a.p,(a.pend.setIfInBounds ix (sa,na+nb,pw)).eraseIdxIfInBounds (ix+1),a.mg⟩) (fun Q hQ=>AN hQ) ?_
 generalize hb:(⟨a.p,(a.pend.setIfInBounds ix (sa,na+nb,pw)).eraseIdxIfInBounds (ix+1),a.mg⟩:As)=b
 have bR:∀ i r,bfR n lt a.p x1 sa i=some r→Rn prog w A E s (elem' (a.p.map (BL it)) (sa+i) >>= fun x=>lt' (BL it x1) x >>= fun y=>pure (Option.map (fun x=>!x) y)) (b.st κ it) (some r) (b.st κ it):=fun i r e=>by
  obtain⟨x,ex,hx,hy,rfl⟩:=aPF e
  exact aJ (eG (fL ex)) (aJ (aDR hk hy hx) bC)
 have bL:∀ i r,bfL n lt a.p x2 sb i=some r→Rn prog w A E s (elem' (a.p.map (BL it)) (sb+i) >>= fun x=>lt' x (BL it x2)) (b.st κ it) (some r) (b.st κ it):=fun i r e=>by
  obtain⟨x,ex,hx,hy,rfl⟩:=aPG e
  exact aJ (eG (fL ex)) (aDR hk hx hy)
 refine aJ (eG (fL e1)) ?_
 refine aJ (a:=some k) (st1:=b.st κ it) ?_ ?_
 ·unfold aRT at g1
  split at g1
  ·rename_i b0
   split at g1
   ·cases g1
   ·rename_i x hx
    obtain⟨y,hy,ey⟩:=Ab.mp g1
    refine aJ (bR 0 _ b0) ?_
    refine aJ (a:=(none,x)) (st1:=b.st κ it) ?_ ?_
    ·exact aMN bR hx (fun _ z hz=>if_pos hz) (fun _ z hz=>⟨_,if_neg hz,fun b hb'=>if_pos hb',fun b hb'=>if_neg (by rw[hb'];exact AQ)⟩)
    ·refine aJ (a:=(none,y)) (st1:=b.st κ it) (aTA bR hy (fun _ z hz=>if_pos hz) (fun _ z hz=>⟨_,if_neg hz,rfl,rfl⟩)) ?_
     rw[← ey]
     exact bC
  ·cases g1
 show Rn prog w A E s (if (na - k == 0)=true then pure true else _) _ _ _
 rw[n1]
 refine aJ (eG (fL e2)) ?_
 refine aJ (a:=some nb') (st1:=b.st κ it) ?_ ?_
 ·unfold aRU at g2
  split at g2
  ·rename_i b0
   split at g2
   ·cases g2
   ·rename_i x hx
    obtain⟨y,hy,ey⟩:=Ab.mp g2
    refine aJ (bL (nb - 1) _ b0) ?_
    refine aJ (a:=(none,x)) (st1:=b.st κ it) ?_ ?_
    ·exact aMN bL hx (fun _ z hz=>if_pos hz) (fun _ z hz=>⟨_,if_neg hz,fun b hb'=>if_pos hb',fun b hb'=>if_neg (by rw[hb'];exact AQ)⟩)
    ·refine aJ (a:=(none,y)) (st1:=b.st κ it) (aTA bL hy (fun _ z hz=>if_pos hz) (fun _ z hz=>⟨_,if_neg hz,rfl,rfl⟩)) ?_
     rw[← ey]
     exact bC
  ·cases g2
 show Rn prog w A E s (if (nb' == 0)=true then pure true else if na - k≤nb' then _ else _) _ _ _
 rw[n2,if_neg AQ,if_pos le]
 have ex:∀ i j,(arrOf (a.st κ it)).extract i j=(a.p.extract i j).map (BL it):=fun i j=>by
  show (a.p.map (BL it)).extract i j=_
  simp
 rw[ex,ex]
 subst hb
 generalize a.p.extract (sa+k) sb=X at *
 generalize a.p.extract sb (sb+nb')=Y at *
 refine aJ (a:=res.map (BL it)) (st1:=As.st κ it ⟨a.p,(a.pend.setIfInBounds ix (sa,na+nb,pw)).eraseIdxIfInBounds (ix+1),a.mg⟩) ?_ ?_
 ·refine aJ aIB ?_
  refine aJ (eG (fL e3)) ?_
  show Rn prog w A E s (if (1 == (Y.map (BL it)).size)=true then _ else if (0+1 == (X.map (BL it)).size)=true then _ else _) _ _ _
  rw[FU,FU,z1,z2,if_neg AQ,if_neg AQ]
  refine aJ gJ ?_
  rw[show #[BL it y0]=(#[y0]:Array Nat).map (BL it) by simp]
  refine aJ (a:=(some (res.map (BL it)),c.out.map (BL it),c.ia,c.ib,a.mg)) (st1:=As.st κ it ⟨a.p,(a.pend.setIfInBounds ix (sa,na+nb,pw)).eraseIdxIfInBounds (ix+1),a.mg⟩) ?_ bC
  rw[BO]
  obtain⟨T,hT⟩:∃ T,[:X.size+Y.size].size=T+1:=⟨X.size+Y.size - 1,by simp[CF];omega⟩
  rw[hT]
  refine qF (x:=0) (xs:=DB 1 T) ?_
  refine aJ (a:=(some (res.map (BL it)),c.out.map (BL it),c.ia,c.ib,c.ac,c.bc)) (st1:=As.st κ it ⟨a.p,(a.pend.setIfInBounds ix (sa,na+nb,pw)).eraseIdxIfInBounds (ix+1),a.mg⟩) ?_ bC
  have ec:(some (res.map (BL it)),c.out.map (BL it),c.ia,c.ib,c.ac,c.bc)=((fun c:Ml=>(c.res.map (Array.map (BL it)),c.out.map (BL it),c.ia,c.ib,c.ac,c.bc)) c):=by show _=(c.res.map _,_);rw[hr];rfl
  rw[ec]
  refine vV (c:=⟨none,#[y0],0,1,0,0⟩) (fun c:Ml=>(c.res.map (Array.map (BL it)),c.out.map (BL it),c.ia,c.ib,c.ac,c.bc)) _ h (fun _ c c' e=>?_) (fun _ c c' e=>?_)
  ·unfold aNM at e
   split at e
   ·rename_i y x ey exx
    split at e
    ·rename_i hn
     refine aJ (eG (fL ey)) (aJ (eG (fL exx)) (aJ (aDR hk hn.1 hn.2) ?_))
     cases hl:lt y x with
     | true =>
      rw[hl,if_pos rfl] at e
      refine aJ (eG (fL ey)) ?_
      split at e
      ·rename_i hz
       cases e
       dsimp only
       rw[if_pos hz]
       exact aIA bC (by simp)
      ·split at e <;> cases e
     | false =>
      rw[hl,if_neg AQ] at e
      refine aJ (eG (fL exx)) ?_
      split at e
      ·rename_i hz
       cases e
       dsimp only
       rw[if_pos hz]
       exact aIA bC (by simp)
      ·split at e <;> cases e
    ·cases e
   ·cases e
  ·unfold aNM at e
   split at e
   ·rename_i y x ey exx
    split at e
    ·rename_i hn
     refine aJ (eG (fL ey)) (aJ (eG (fL exx)) (aJ (aDR hk hn.1 hn.2) ?_))
     cases hl:lt y x with
     | true =>
      rw[hl,if_pos rfl] at e
      refine aJ (eG (fL ey)) ?_
      split at e
      ·cases e
      ·rename_i hz
       split at e
       ·cases e
       ·rename_i hm
        cases e
        dsimp only
        rw[if_neg hz]
        exact aIA (yU hm bC) (by simp)
     | false =>
      rw[hl,if_neg AQ] at e
      refine aJ (eG (fL exx)) ?_
      split at e
      ·cases e
      ·rename_i hz
       split at e
       ·cases e
       ·rename_i hm
        cases e
        dsimp only
        rw[if_neg hz]
        exact aIA (yU hm bC) (by simp)
    ·cases e
   ·cases e
 ·refine aJ (a:=()) (st1:=As.st κ it ⟨aQQ a.p (sa+k) res,(a.pend.setIfInBounds ix (sa,na+nb,pw)).eraseIdxIfInBounds (ix+1),a.mg⟩) ?_ (aJ gJ bC)
  intro Q hQ
  refine AN ?_
  have e:=aID (it:=it) (sa+k) res.toList.zipIdx a.p
  unfold As.st aQQ at hQ
  dsimp only at hQ
  rw[← e] at hQ
  have e':(res.map (BL it)).toList.zipIdx=res.toList.zipIdx.map fun x=>(BL it x.1,x.2):=by
   rw[Array.toList_map,List.zipIdx_map]
   rfl
  rw[e']
  exact hQ
noncomputable def aRJ(n:Nat)(lt:Nat→Nat→Bool)(ix:Nat)(a:As):Option As:=match a.pend[ix]?,a.pend[ix+1]? with
 | some (sa,na,pw),some (sb,nb,_)=>match a.p[sb]? with
  | none=>none
  | some x1=>match aRT (bfR n lt a.p x1 sa) na 0 with
   | none=>none
   | some k=>if (na - k == 0)=false then match a.p[sa+k+(na - k) - 1]? with
     | none=>none
     | some x2=>match aRU (bfL n lt a.p x2 sb) nb (nb - 1) with
      | none=>none
      | some nb'=>if (nb' == 0)=false∧na - k≤nb'∧(1 == (a.p.extract sb (sb+nb')).size)=false∧(0+1 == (a.p.extract (sa+k) sb).size)=false∧1≤(a.p.extract (sa+k) sb).size+(a.p.extract sb (sb+nb')).size then match (a.p.extract sb (sb+nb'))[0]? with
        | none=>none
        | some y0=>match dH (aNM n lt (a.p.extract (sa+k) sb) (a.p.extract sb (sb+nb')) a.mg) ((a.p.extract (sa+k) sb).size+(a.p.extract sb (sb+nb')).size) ⟨none,#[y0],0,1,0,0⟩ with
         | none=>none
         | some c=>match c.res with
          | none=>none
          | some res=>some ⟨aQQ a.p (sa+k) res,(a.pend.setIfInBounds ix (sa,na+nb,pw)).eraseIdxIfInBounds (ix+1),a.mg⟩
       else none
    else none
 | _,_=>none
theorem aBD(hk:rB prog w A s κ it n lt){ix:Nat}{a a':As}(h:aRJ n lt ix a=some a'):Rn prog w A E s (mergeAt' ix) (a.st κ it) true (a'.st κ it):=by
 unfold aRJ at h
 split at h
 ·rename_i sa na pw sb nb q hp0 hp1
  split at h
  ·cases h
  ·rename_i x1 e1
   split at h
   ·cases h
   ·rename_i k g1
    split at h
    ·rename_i n1
     split at h
     ·cases h
     ·rename_i x2 e2
      split at h
      ·cases h
      ·rename_i nb' g2
       split at h
       ·rename_i hh
        split at h
        ·cases h
        ·rename_i y0 e3
         split at h
         ·cases h
         ·rename_i c hc
          split at h
          ·cases h
          ·rename_i res hr
           cases h
           exact aJX hk hp0 hp1 e1 g1 n1 e2 g2 hh.1 hh.2.1 e3 hh.2.2.1 hh.2.2.2.1 hc hr hh.2.2.2.2
       ·cases h
    ·cases h
 ·cases h
theorem nL{γ β:Type}(φ:γ→β)(ψ:γ→SortSt)(g:γ→Option (Bool×γ)){f:Nat→β→StateT SortSt Sem (ForInStep β)}{m:Nat}{c c':γ}(h:dH g m c=some c')(hd:∀ x c c',g c=some (true,c')→Rn prog w A E s (f x (φ c)) (ψ c) (.done (φ c')) (ψ c'))(hy:∀ x c c',g c=some (false,c')→Rn prog w A E s (f x (φ c)) (ψ c) (.yield (φ c')) (ψ c')) :
  Rn prog w A E s (forIn [:m] (φ c) f) (ψ c) (φ c') (ψ c'):=by
 rw[BO,show [:m].size=m by simp[CF]]
 have gen:∀ (xs:List Nat) (c c':γ),dH g xs.length c=some c'→Rn prog w A E s (forIn xs (φ c) f) (ψ c) (φ c') (ψ c'):=by
  intro xs
  induction xs with
  | nil=>intro c c' e;cases e;exact bC
  | cons x xs ih =>
   intro c c' e
   rw[Af] at e
   unfold dH at e
   split at e
   ·cases e
   ·rename_i eb
    cases e
    exact qF (hd _ _ _ eb)
   ·rename_i eb
    exact jQ (hy _ _ _ eb) (ih _ _ e)
 exact gen _ _ _ (by rw[Dn];exact h)
noncomputable def aOX(n:Nat)(lt:Nat→Nat→Bool)(pw:Nat)(a:As):Option (Bool×As):=match (if a.pend.size>1 then a.pend[a.pend.size - 2]? else none) with
 | none=>some (true,a)
 | some x=>if x.2.2≤pw then some (true,a) else (aRJ n lt (a.pend.size - 2) a).map fun b=>(false,b)
noncomputable def aIE(n:Nat)(lt:Nat→Nat→Bool)(size lo m:Nat)(a:As):Option As:=match a.pend.back? with
 | none=>some ⟨a.p,a.pend.push (lo,m,0),a.mg⟩
 | some x=>(dH (aOX n lt (power' size (2*x.1+x.2.1) (2*x.1+x.2.1+x.2.1+m) size)) size a).map fun b=>⟨b.p,(b.pend.modify (b.pend.size - 1) fun y=>(y.1,y.2.1,power' size (2*x.1+x.2.1) (2*x.1+x.2.1+x.2.1+m) size)).push (lo,m,0),b.mg⟩
noncomputable def aBC(n:Nat)(lt:Nat→Nat→Bool)(size minrun:Nat)(c:Nat×As):Option (Bool×Nat×As):=if c.1≥size then some (true,c) else match aWA (ask n lt c.2.p) c.1 (size - c.1) with
 | none=>none
 | some m=>if m<minrun then
   match aPE n lt c.1 (DB (max m 1) (min (size - c.1) minrun - max m 1)) c.2.p with
   | none=>none
   | some p'=>(aIE n lt size c.1 (min (size - c.1) minrun) ⟨p',c.2.pend,c.2.mg⟩).map fun b=>(false,c.1+min (size - c.1) minrun,b)
  else (aIE n lt size c.1 m c.2).map fun b=>(false,c.1+m,b)
noncomputable def aEP(n:Nat)(lt:Nat→Nat→Bool)(a:As):Option (Bool×As):=if a.pend.size≤1 then some (true,a) else
 (aRJ n lt (if Option.any (fun x=>decide (x<a.pend[a.pend.size - 2+1]?.elim 0 fun x=>x.2.1)) (if a.pend.size - 2>0 then Option.map (fun x=>x.2.1) a.pend[a.pend.size - 2 - 1]? else none)=true then a.pend.size - 2 - 1 else a.pend.size - 2) a).map fun b=>(false,b)
theorem aQK(hk:rB prog w A s κ it n lt){a b:As}{lo size minrun:Nat}(z:a.p.size=size)(hm:minRun' size size 0=minrun)(h1:dH (aBC n lt size minrun) size (0,a)=some (lo,b)){c:As}(h2:dH (aEP n lt) size b=some c):Rn prog w A E s sortRuns' (a.st κ it) () (c.st κ it):=by
 have hs:(arrOf (a.st κ it)).size=size:=by show (a.p.map (BL it)).size=size;rw[FU,z]
 rw[sortRuns'_eq]
 refine aJ gJ ?_
 dsimp only
 rw[hs,hm]
 refine aJ (a:=(none,lo)) (st1:=b.st κ it) ?_ ?_
 ·refine nL (fun c:Nat×As=>((none:Option Unit),c.1)) (fun c=>c.2.st κ it) _ h1 (fun _ c c' e=>?_) (fun _ c c' e=>?_)
  ·unfold aBC at e
   split at e
   ·rename_i hg
    cases e
    dsimp only
    rw[if_pos hg]
    exact bC
   ·split at e
    ·cases e
    ·split at e
     ·split at e
      ·cases e
      ·obtain⟨_,_,e⟩:=Ab.mp e
       cases e
     ·obtain⟨_,_,e⟩:=Ab.mp e
      cases e
  ·unfold aBC at e
   split at e
   ·cases e
   ·rename_i hg
    split at e
    ·cases e
    ·rename_i m hc
     dsimp only
     rw[if_neg hg]
     refine aJ (aMO hk hc) ?_
     dsimp only
     split at e
     ·rename_i lm
      split at e
      ·cases e
      ·rename_i p' hp
       obtain⟨b1,hb,e⟩:=Ab.mp e
       cases e
       rw[if_pos lm]
       refine aJ aIB ?_
       refine aJ (aUM hk hp) ?_
       unfold aIE at hb
       refine aJ gJ ?_
       split at hb
       ·rename_i eb
        cases hb
        show Rn prog w A E s (match (c.2.pend).back? with | some (s1,n1,snd)=>_ | x=>_) _ _ _
        rw[eb]
        exact aJ (a:=()) (st1:=As.st κ it ⟨p',(c.2.pend).push (c.1,min (size - c.1) minrun,0),c.2.mg⟩) (fun Q hQ=>AN hQ) bC
       ·rename_i x eb
        obtain⟨b',hl,e2⟩:=Ab.mp hb
        cases e2
        show Rn prog w A E s (match (c.2.pend).back? with | some (s1,n1,snd)=>_ | x=>_) _ _ _
        rw[eb]
        obtain⟨x1,x2,x3⟩:=x
        refine aJ (a:=(none,())) (st1:=b'.st κ it) ?_ (aJ (a:=()) (st1:=As.st κ it ⟨b'.p,b'.pend.modify (b'.pend.size - 1) fun y=>(y.1,y.2.1,power' size (2*x1+x2) (2*x1+x2+x2+min (size - c.1) minrun) size),b'.mg⟩) (fun Q hQ=>AN hQ) (aJ (a:=()) (st1:=As.st κ it ⟨b'.p,(b'.pend.modify (b'.pend.size - 1) fun y=>(y.1,y.2.1,power' size (2*x1+x2) (2*x1+x2+x2+min (size - c.1) minrun) size)).push (c.1,min (size - c.1) minrun,0),b'.mg⟩) (fun Q hQ=>AN hQ) bC))
        refine nL (fun _:As=>((none:Option Unit),())) (fun c=>c.st κ it) _ hl (fun _ c c' e=>?_) (fun _ c c' e=>?_)
        ·unfold aOX at e
         refine aJ gJ ?_
         split at e
         ·rename_i en
          cases e
          show Rn prog w A E s (match (if c.pend.size>1 then c.pend[c.pend.size - 2]? else none) with | some (a1,a2,older)=>_ | x=>_) _ _ _
          rw[en]
          exact bC
         ·rename_i y en
          split at e
          ·rename_i ho
           cases e
           obtain⟨y1,y2,y3⟩:=y
           show Rn prog w A E s (match (if c.pend.size>1 then c.pend[c.pend.size - 2]? else none) with | some (a1,a2,older)=>_ | x=>_) _ _ _
           rw[en]
           show Rn prog w A E s (if _ then _ else _) _ _ _
           rw[if_pos ho]
           exact bC
          ·obtain⟨_,_,e⟩:=Ab.mp e
           cases e
        ·unfold aOX at e
         refine aJ gJ ?_
         split at e
         ·cases e
         ·rename_i y en
          split at e
          ·cases e
          ·rename_i ho
           obtain⟨b2,hb2,e⟩:=Ab.mp e
           cases e
           obtain⟨y1,y2,y3⟩:=y
           show Rn prog w A E s (match (if c.pend.size>1 then c.pend[c.pend.size - 2]? else none) with | some (a1,a2,older)=>_ | x=>_) _ _ _
           rw[en]
           show Rn prog w A E s (if _ then _ else _) _ _ _
           rw[if_neg ho]
           exact aJ (aBD hk hb2) bC
     ·rename_i lm
      obtain⟨b1,hb,e⟩:=Ab.mp e
      cases e
      rw[if_neg lm]
      unfold aIE at hb
      refine aJ gJ ?_
      split at hb
      ·rename_i eb
       cases hb
       show Rn prog w A E s (match (c.2.pend).back? with | some (s1,n1,snd)=>_ | x=>_) _ _ _
       rw[eb]
       exact aJ (a:=()) (st1:=As.st κ it ⟨c.2.p,(c.2.pend).push (c.1,m,0),c.2.mg⟩) (fun Q hQ=>AN hQ) bC
      ·rename_i x eb
       obtain⟨b',hl,e2⟩:=Ab.mp hb
       cases e2
       show Rn prog w A E s (match (c.2.pend).back? with | some (s1,n1,snd)=>_ | x=>_) _ _ _
       rw[eb]
       obtain⟨x1,x2,x3⟩:=x
       refine aJ (a:=(none,())) (st1:=b'.st κ it) ?_ (aJ (a:=()) (st1:=As.st κ it ⟨b'.p,b'.pend.modify (b'.pend.size - 1) fun y=>(y.1,y.2.1,power' size (2*x1+x2) (2*x1+x2+x2+m) size),b'.mg⟩) (fun Q hQ=>AN hQ) (aJ (a:=()) (st1:=As.st κ it ⟨b'.p,(b'.pend.modify (b'.pend.size - 1) fun y=>(y.1,y.2.1,power' size (2*x1+x2) (2*x1+x2+x2+m) size)).push (c.1,m,0),b'.mg⟩) (fun Q hQ=>AN hQ) bC))
       refine nL (fun _:As=>((none:Option Unit),())) (fun c=>c.st κ it) _ hl (fun _ c c' e=>?_) (fun _ c c' e=>?_)
       ·unfold aOX at e
        refine aJ gJ ?_
        split at e
        ·rename_i en
         cases e
         show Rn prog w A E s (match (if c.pend.size>1 then c.pend[c.pend.size - 2]? else none) with | some (a1,a2,older)=>_ | x=>_) _ _ _
         rw[en]
         exact bC
        ·rename_i y en
         split at e
         ·rename_i ho
          cases e
          obtain⟨y1,y2,y3⟩:=y
          show Rn prog w A E s (match (if c.pend.size>1 then c.pend[c.pend.size - 2]? else none) with | some (a1,a2,older)=>_ | x=>_) _ _ _
          rw[en]
          show Rn prog w A E s (if _ then _ else _) _ _ _
          rw[if_pos ho]
          exact bC
         ·obtain⟨_,_,e⟩:=Ab.mp e
          cases e
       ·unfold aOX at e
        refine aJ gJ ?_
        split at e
        ·cases e
        ·rename_i y en
         split at e
         ·cases e
         ·rename_i ho
          obtain⟨b2,hb2,e⟩:=Ab.mp e
          cases e
          obtain⟨y1,y2,y3⟩:=y
          show Rn prog w A E s (match (if c.pend.size>1 then c.pend[c.pend.size - 2]? else none) with | some (a1,a2,older)=>_ | x=>_) _ _ _
          rw[en]
          show Rn prog w A E s (if _ then _ else _) _ _ _
          rw[if_neg ho]
          exact aJ (aBD hk hb2) bC
 ·refine aJ (a:=(none,())) (st1:=c.st κ it) ?_ bC
  refine nL (fun _:As=>((none:Option Unit),())) (fun c=>c.st κ it) _ h2 (fun _ c c' e=>?_) (fun _ c c' e=>?_)
  ·unfold aEP at e
   refine aJ gJ ?_
   split at e
   ·rename_i hz
    cases e
    show Rn prog w A E s (if c.pend.size≤1 then _ else _) _ _ _
    rw[if_pos hz]
    exact bC
   ·obtain⟨_,_,e⟩:=Ab.mp e
    cases e
  ·unfold aEP at e
   refine aJ gJ ?_
   split at e
   ·cases e
   ·rename_i hz
    obtain⟨b2,hb2,e⟩:=Ab.mp e
    cases e
    show Rn prog w A E s (if c.pend.size≤1 then _ else _) _ _ _
    rw[if_neg hz]
    exact aJ (aBD hk hb2) bC
end
end L2
set_option maxRecDepth 1000000
namespace L2
open PySem PySem.Spec PyProof.Rows PySem.W
theorem jL:∀ k,(eQ k).length=2 ^ k
 | 0=>rfl
 | k+1=>by unfold eQ;rw[AX,AA,jL k];omega
noncomputable def aKZ:Nat→Nat→List Int
 | 0,_=>[]
 | k+1,i=>if i<2 ^ k then aKZ k i else aKZ k (i - 2 ^ k)++[(k:Int)]
theorem pN:∀ n i,i<2 ^ n→(eQ n).getD i []=aKZ n i
 | 0,i,h=>by
  cases i with
  | zero=>rfl
  | succ i=>exact absurd h (by simp)
 | k+1,i,h=>by
  have e:=jL k
  have e2:2 ^ (k+1)=2 ^ k+2 ^ k:=by rw[Nat.pow_succ,Nat.mul_two]
  unfold eQ aKZ
  rw[AY]
  by_cases l:i<2 ^ k
  ·rw[if_pos l,BK (by omega),← AY]
   exact pN k i l
  ·rw[if_neg l,Be (by omega),AH,e,← pN k (i - 2 ^ k) (by omega),AY,AB (show i - 2 ^ k<(eQ k).length by omega)]
   rfl
noncomputable def ltK(k i j:Nat):Bool:=jH (aKZ k i) (aKZ k j)
noncomputable def qW(l:List Nat)(pd:List (Nat×Nat×Nat)):As:=⟨l.toArray,pd.toArray,7⟩
noncomputable def okS(a:As)(l:List Nat)(pd:List (Nat×Nat×Nat)):Bool:=decide (a.p.toList=l) && decide (a.pend.toList=pd) && decide (a.mg=7)
theorem aNH{a:As}{l:List Nat}{pd:List (Nat×Nat×Nat)}(h:okS a l pd=true):a=qW l pd:=by
 obtain⟨p,d,m⟩:=a
 unfold okS at h
 rw[AV,AV] at h
 cases of_decide_eq_true h.1.1
 cases of_decide_eq_true h.1.2
 cases of_decide_eq_true h.2
 rfl
noncomputable def fE(bs:List (List Nat×Nat))(lo z:Nat):List Nat:=(bs.flatMap fun b=>b.1.map (·+b.2))++DB lo (z - lo)
noncomputable def stB{γ:Type}(g:γ→Option (Bool×γ))(ok:γ→Bool)(c:γ)(e:Bool):Bool:=match g c with
 | some (b,c')=>b == e && ok c'
 | none=>false
theorem aCX{γ:Type}{g:γ→Option (Bool×γ)}{ok:γ→Bool}{c:γ}{e:Bool}(h:stB g ok c e=true):∃ c',g c=some (e,c')∧ok c'=true:=by
 unfold stB at h
 split at h
 ·rename_i b c' hc
  rw[AV] at h
  cases eq_of_beq h.1
  exact⟨c',hc,h.2⟩
 ·cases h
noncomputable def pE(k lo:Nat)(l:List Nat)(pd:List (Nat×Nat×Nat))(lo':Nat)(l':List Nat)(pd':List (Nat×Nat×Nat)):Bool:=stB (aBC (2 ^ k) (ltK k) (2 ^ k) 32) (fun c=>decide (c.1=lo') && okS c.2 l' pd') (lo,qW l pd) false
theorem dO{k lo lo' n:Nat}{l l':List Nat}{pd pd':List (Nat×Nat×Nat)}{r:Option (Nat×As)}(h:pE k lo l pd lo' l' pd'=true)(hr:dH (aBC (2 ^ k) (ltK k) (2 ^ k) 32) n (lo',qW l' pd')=r):dH (aBC (2 ^ k) (ltK k) (2 ^ k) 32) (n+1) (lo,qW l pd)=r:=by
 obtain⟨⟨o,a⟩,e,h⟩:=aCX h
 rw[AV] at h
 cases (show o=lo' from of_decide_eq_true h.1)
 cases aNH h.2
 unfold dH
 rw[e]
 exact hr
theorem aBB{k n:Nat}{a:As}:dH (aBC (2 ^ k) (ltK k) (2 ^ k) 32) (n+1) (2 ^ k,a)=some (2 ^ k,a):=by
 unfold dH
 rw[show aBC (2 ^ k) (ltK k) (2 ^ k) 32 (2 ^ k,a)=some (true,(2 ^ k,a)) from if_pos (AL _)]
noncomputable def aGT(k:Nat)(l:List Nat)(pd:List (Nat×Nat×Nat))(l':List Nat)(pd':List (Nat×Nat×Nat)):Bool:=stB (aEP (2 ^ k) (ltK k)) (fun c=>okS c l' pd') (qW l pd) false
theorem jZ{k n:Nat}{l l':List Nat}{pd pd':List (Nat×Nat×Nat)}{r:Option As}(h:aGT k l pd l' pd'=true)(hr:dH (aEP (2 ^ k) (ltK k)) n (qW l' pd')=r):dH (aEP (2 ^ k) (ltK k)) (n+1) (qW l pd)=r:=by
 obtain⟨a,e,h⟩:=aCX h
 cases aNH h
 unfold dH
 rw[e]
 exact hr
theorem aCA{k n:Nat}{l:List Nat}{x:Nat×Nat×Nat}:dH (aEP (2 ^ k) (ltK k)) (n+1) (qW l [x])=some (qW l [x]):=rfl
theorem aAM{k:Nat}{l:List Nat}{pd:List (Nat×Nat×Nat)}{b:As}(hm:minRun' (2 ^ k) (2 ^ k) 0=32)(h1:dH (aBC (2 ^ k) (ltK k) (2 ^ k) 32) (2 ^ k) (0,qW (Ag (2 ^ k)) [])=some (2 ^ k,b))(h2:dH (aEP (2 ^ k) (ltK k)) (2 ^ k) b=some (qW l pd)):sO (eQ k) l.toArray:=by
 intro prog w A E s κ ks vs e1 e2 hk
 rw[jL] at hk e1 e2
 have hk:rB prog w A s κ (ks.toArray.zip vs.toArray) (2 ^ k) (ltK k):=fun i j C hi hj c=>hk i j C hi hj (by
  unfold kLt
  rw[pN k i hi,pN k j hj]
  exact c)
 have sz:(ks.toArray.zip vs.toArray).size=2 ^ k:=by rw[Array.size_zip,AK,AK,e1,e2,Nat.min_self]
 have e0:=kas_range (ks.toArray.zip vs.toArray)
 rw[sz] at e0
 have hr:=aQK (E:=E) hk (a:=qW (Ag (2 ^ k)) []) (by simp[qW]) hm h1 h2
 have h0:=hr (fun r s'=>s'=s∧arrOf r.2=l.toArray.map (BL (ks.toArray.zip vs.toArray))∧failedOf r.2=none) ⟨rfl,rfl,rfl⟩
 unfold As.st qW at h0
 dsimp only at h0
 rw[e0] at h0
 exact h0
noncomputable def cC:List Nat:=[0,1,2,4,8,16,3,5,9,17,6,10,18,12,20,24,7,11,19,13,21,25,14,22,26,28,15,23,27,29,30,31]
noncomputable def gY:List Nat:=[0,1,2,4,8,16,32,64,3,5,9,17,33,65,6,10,18,34,66,12,20,36,68,24,40,72,48,80,96,7,11,19,35,67,13,21,37,69,25,41,73,49,81,97,14,22,38,70,26,42,74,50,82,98,28,44,76,52,84,100,56,88,104,112,15,23,39,71,27,43,75,51,83,99,29,45,77,53,85,101,57,89,105,113,30,46,78,54,86,102,58,90,106,114,60,92,108,116,120,31,47,79,55,87,103,59,91,107,115,61,93,109,117,121,62,94,110,118,122,124,63,95,111,119,123,125,126,127]
noncomputable def aMZ:List Nat:=[0,1,2,4,8,16,32,64,128,3,5,9,17,33,65,129,6,10,18,34,66,130,12,20,36,68,132,24,40,72,136,48,80,144,96,160,192,7,11,19,35,67,131,13,21,37,69,133,25,41,73,137,49,81,145,97,161,193,14,22,38,70,134,26,42,74,138,50,82,146,98,162,194,28,44,76,140,52,84,148,100,164,196,56,88,152,104,168,200,112,176,208,224,15,23,39,71,135,27,43,75,139,51,83,147,99,163,195,29,45,77,141,53,85,149,101,165,197,57,89,153,105,169,201,113,177,209,225,30,46,78,142,54,86,150,102,166,198,58,90,154,106,170,202,114,178,210,226,60,92,156,108,172,204,116,180,212,228,120,184,216,232,240,31,47,79,143,55,87,151,103,167,199,59,91,155,107,171,203,115,179,211,227,61,93,157,109,173,205,117,181,213,229,121,185,217,233,241,62,94,158,110,174,206,118,182,214,230,122,186,218,234,242,124,188,220,236,244,248,63,95,159,111,175,207,119,183,215,231,123,187,219,235,243,125,189,221,237,245,249,126,190,222,238,246,250,252,127,191,223,239,247,251,253,254,255]
theorem aUL:pE 6 0 (Ag 64) [] 32 (fE [(cC,0)] 32 64) [(0,32,0)]=true:=by decide +kernel
theorem aUK:pE 6 32 (fE [(cC,0)] 32 64) [(0,32,0)] 64 (fE [(cC,0),(cC,32)] 64 64) [(0,32,1),(32,32,0)]=true:=by decide +kernel
theorem aVX:aGT 6 (fE [(cC,0),(cC,32)] 64 64) [(0,32,1),(32,32,0)] eW [(0,64,1)]=true:=by decide +kernel
theorem aWX:sO (eQ 6) eW.toArray:=aAM (by decide +kernel) (dO (n:=63) aUL (dO (n:=62) aUK (aBB (n:=61)))) (jZ (n:=63) aVX (aCA (n:=62)))
theorem aUJ:pE 7 0 (Ag 128) [] 32 (fE [(cC,0)] 32 128) [(0,32,0)]=true:=by decide +kernel
theorem aUI:pE 7 32 (fE [(cC,0)] 32 128) [(0,32,0)] 64 (fE [(cC,0),(cC,32)] 64 128) [(0,32,2),(32,32,0)]=true:=by decide +kernel
theorem aUH:pE 7 64 (fE [(cC,0),(cC,32)] 64 128) [(0,32,2),(32,32,0)] 96 (fE [(eW,0),(cC,64)] 96 128) [(0,64,1),(64,32,0)]=true:=by decide +kernel
theorem aUG:pE 7 96 (fE [(eW,0),(cC,64)] 96 128) [(0,64,1),(64,32,0)] 128 (fE [(eW,0),(cC,64),(cC,96)] 128 128) [(0,64,1),(64,32,2),(96,32,0)]=true:=by decide +kernel
theorem aVW:aGT 7 (fE [(eW,0),(cC,64),(cC,96)] 128 128) [(0,64,1),(64,32,2),(96,32,0)] (fE [(eW,0),(eW,64)] 128 128) [(0,64,1),(64,64,2)]=true:=by decide +kernel
theorem aVV:aGT 7 (fE [(eW,0),(eW,64)] 128 128) [(0,64,1),(64,64,2)] gY [(0,128,1)]=true:=by decide +kernel
theorem aYY:sO (eQ 7) gY.toArray:=aAM (by decide +kernel) (dO (n:=127) aUJ (dO (n:=126) aUI (dO (n:=125) aUH (dO (n:=124) aUG (aBB (n:=123)))))) (jZ (n:=127) aVW (jZ (n:=126) aVV (aCA (n:=125))))
theorem aUF:pE 8 0 (Ag 256) [] 32 (fE [(cC,0)] 32 256) [(0,32,0)]=true:=by decide +kernel
theorem aUE:pE 8 32 (fE [(cC,0)] 32 256) [(0,32,0)] 64 (fE [(cC,0),(cC,32)] 64 256) [(0,32,3),(32,32,0)]=true:=by decide +kernel
theorem aUD:pE 8 64 (fE [(cC,0),(cC,32)] 64 256) [(0,32,3),(32,32,0)] 96 (fE [(eW,0),(cC,64)] 96 256) [(0,64,2),(64,32,0)]=true:=by decide +kernel
theorem aUC:pE 8 96 (fE [(eW,0),(cC,64)] 96 256) [(0,64,2),(64,32,0)] 128 (fE [(eW,0),(cC,64),(cC,96)] 128 256) [(0,64,2),(64,32,3),(96,32,0)]=true:=by decide +kernel
theorem aUB:pE 8 128 (fE [(eW,0),(cC,64),(cC,96)] 128 256) [(0,64,2),(64,32,3),(96,32,0)] 160 (fE [(gY,0),(cC,128)] 160 256) [(0,128,1),(128,32,0)]=true:=by decide +kernel
theorem aUA:pE 8 160 (fE [(gY,0),(cC,128)] 160 256) [(0,128,1),(128,32,0)] 192 (fE [(gY,0),(cC,128),(cC,160)] 192 256) [(0,128,1),(128,32,3),(160,32,0)]=true:=by decide +kernel
theorem aTZ:pE 8 192 (fE [(gY,0),(cC,128),(cC,160)] 192 256) [(0,128,1),(128,32,3),(160,32,0)] 224 (fE [(gY,0),(eW,128),(cC,192)] 224 256) [(0,128,1),(128,64,2),(192,32,0)]=true:=by decide +kernel
theorem aTY:pE 8 224 (fE [(gY,0),(eW,128),(cC,192)] 224 256) [(0,128,1),(128,64,2),(192,32,0)] 256 (fE [(gY,0),(eW,128),(cC,192),(cC,224)] 256 256) [(0,128,1),(128,64,2),(192,32,3),(224,32,0)]=true:=by decide +kernel
theorem aVU:aGT 8 (fE [(gY,0),(eW,128),(cC,192),(cC,224)] 256 256) [(0,128,1),(128,64,2),(192,32,3),(224,32,0)] (fE [(gY,0),(eW,128),(eW,192)] 256 256) [(0,128,1),(128,64,2),(192,64,3)]=true:=by decide +kernel
theorem aVT:aGT 8 (fE [(gY,0),(eW,128),(eW,192)] 256 256) [(0,128,1),(128,64,2),(192,64,3)] (fE [(gY,0),(gY,128)] 256 256) [(0,128,1),(128,128,2)]=true:=by decide +kernel
theorem aVS:aGT 8 (fE [(gY,0),(gY,128)] 256 256) [(0,128,1),(128,128,2)] aMZ [(0,256,1)]=true:=by decide +kernel
theorem aYX:sO (eQ 8) aMZ.toArray:=aAM (by decide +kernel) (dO (n:=255) aUF (dO (n:=254) aUE (dO (n:=253) aUD (dO (n:=252) aUC (dO (n:=251) aUB (dO (n:=250) aUA (dO (n:=249) aTZ (dO (n:=248) aTY (aBB (n:=247)))))))))) (jZ (n:=255) aVU (jZ (n:=254) aVT (jZ (n:=253) aVS (aCA (n:=252)))))
end L2
namespace L2
open PySem PySem.Spec PyProof.Rows PySem.W
theorem DefAt.fcC{P:Program}{w:World}{K:AE}{mg:Str→Option Value}{base:Heap}{x:Str}{st:Stmt}{N ps:List Str}{k:Nat}{sp:Sp}{c T:Addr}(D:DefAt K mg x st ps)(B:TabB K mg base x c T)(S:FnScope N ps (aF st))(len:∀ vs H Q E,sp vs H Q E→vs.length=ps.length)
 (hbody:∀ (f:Addr) (A:Around) (outer:List Env) (s:Shared) (H:Hp) (vs:List V) (Q:VK) (E:XK),Room k (A.deeper (envOfC x (aF st) s.heap.objs.size f (.ref c)))→sp vs H Q E →
   ∃ t,PSs (gZ CX0 P w K mg base N x (aF st) f (.ref c) A outer s H E).nox (cV st) t∧t { nx:=fun _ H'=>Q .non H',rt:=Q } (start N vs) H):Fc P w K mg base (k+1) x ps sp:=by
 obtain⟨f,fd,F,b,m⟩:=D.ex
 have hc:fd.code=.ref c:=by
  obtain⟨oc,od,kV,doc,pm,an,cdv,ct,osl,rfl,lk,hcd⟩:=F.ex
  exact B.cd f _ _ m lk rfl
 exact⟨f,fd,F.okC hc S len fun A outer s H vs Q E hr h=>hbody f A outer s H vs Q E hr h,b,m,F.kp⟩
theorem aEM{H:Hp}:∀ {nss:List (List Int)} {us:List V},IsL H (nss.map fun ns=>Dv.lst (ns.map Dv.int)) us→∃ ps:List (Addr×List Int),us=ps.map (fun p=>V.ref p.1)∧iX H ps∧ps.map (·.2)=nss
 | [],us,h=>⟨[],h,(fun p (m:p∈([]:List (Addr×List Int)))=>absurd m Bg),rfl⟩
 | ns :: nss,us,h=>by
  obtain⟨v,vs,rfl,⟨a,xs,rfl,ha,hx⟩,r⟩:=h
  obtain⟨ps,rfl,it,e⟩:=aEM r
  have ex:xs=ns.map V.int:=by
   clear ha e it r
   induction ns generalizing xs with
   | nil=>exact hx
   | cons n ns ih =>
    obtain⟨v,vs,rfl,e,r⟩:=hx
    cases (show v=.int n from e)
    rw[ih vs r]
    rfl
  subst ex
  refine⟨(a,ns) :: ps,rfl,fun p m=>?_,by rw[AU,e]⟩
  rcases Ac.mp m with rfl | m
  ·exact ha
  ·exact it p m
theorem kF:∀ k,∀ ns∈eQ k,ns.length≤k
 | 0,ns,m=>by rw[AS.mp m];exact AL _
 | k+1,ns,m=>by
  unfold eQ at m
  rcases Ar.mp m with m | m
  ·exact Nat.le_succ_of_le (kF k ns m)
  ·obtain⟨ms,mm,rfl⟩:=AM.mp m
   rw[AX,Bw]
   exact Nat.succ_le_succ (kF k ms mm)
noncomputable def aDX:Nat→List Nat
 | 5=>cC
 | 6=>eW
 | 7=>gY
 | 8=>aMZ
 | n=>aDW n
theorem aQA:yM (eQ 5)=some cC.toArray:=by decide +kernel
theorem aAR:∀ n,1≤n→n≤8→sO (eQ n) (aDX n).toArray∧(∀ i∈aDX n,i<(eQ n).length)∧(aDX n).length=(eQ n).length∧∀ i<(eQ n).length,i∈aDX n
 | 0,h,_=>by omega
 | 1,_,_=>⟨jN aQE (by decide) (by decide),by decide,rfl,by decide⟩
 | 2,_,_=>⟨jN aQD (by decide) (by decide),by decide,rfl,by decide⟩
 | 3,_,_=>⟨jN aQC (by decide) (by decide),by decide,rfl,by decide⟩
 | 4,_,_=>⟨jN aQB (by decide) (by decide),by decide,rfl,by decide⟩
 | 5,_,_=>⟨jN aQA (by decide +kernel) (by decide +kernel),by decide +kernel,by decide +kernel,by decide +kernel⟩
 | 6,_,_=>⟨aWX,by decide +kernel,by decide +kernel,by decide +kernel⟩
 | 7,_,_=>⟨aYY,by decide +kernel,by decide +kernel,by decide +kernel⟩
 | 8,_,_=>⟨aYX,by decide +kernel,by decide +kernel,by decide +kernel⟩
 | n+9,_,h=>by omega
noncomputable def xS(n:Nat):List (List Int):=(aDX n).map fun i=>(eQ n).getD i []
theorem vX{n:Nat}(h1:1≤n)(h4:n≤8){ns:List Int}:ns∈xS n↔ns∈eQ n:=by
 obtain⟨_,a,b,c⟩:=aAR n h1 h4
 unfold xS
 rw[AM]
 constructor
 ·rintro⟨i,m,rfl⟩
  have hi:=a i m
  rw[AY,AB hi]
  exact Cu hi
 ·intro m
  obtain⟨i,hi,e⟩:=List.getElem_of_mem m
  exact⟨i,c i hi,by rw[AY,AB hi];exact e⟩
end L2
namespace Mt74
open PySem L2 Mt22 Mt61
noncomputable def low(a b:Int):Int×Int:=(a / ((Int.gcd a b:Nat):Int),b / ((Int.gcd a b:Nat):Int))
theorem aIQ{a b:Int}(hb:0<b):0<((Int.gcd a b:Nat):Int):=by
 have:0<Int.gcd a b:=Int.gcd_pos_of_ne_zero_right a (by omega)
 omega
theorem aVD{n:Nat}(h:n≤1000000):n.log2<9000:=by
 rcases Nat.eq_zero_or_pos n with h0 | h0
 ·subst h0;decide
 ·exact (Nat.log2_lt (by omega)).mpr (Ey h (by decide +kernel))
open Classical in
noncomputable def cF(G:List Gap)(co:List Str):Int:=if h:∃ c,fS G co c then h.choose else 0
theorem aJD{G:List Gap}{co:List Str}{c:Int}(h:fS G co c):cF G co=c:=by
 have x:∃ c,fS G co c:=⟨c,h⟩
 unfold cF
 rw[dif_pos x]
 exact fS.uniq x.choose_spec h
theorem aPD{G:List Gap}{a b:List Str}(e:∀ z,z∈a↔z∈b):cF G a=cF G b:=by
 have h:fS G a=fS G b:=funext fun c=>by
  unfold fS
  simp only[e]
 unfold cF
 rw[h]
noncomputable def bt(ms:List Nat)(j:Nat):Nat:=if j∈ms then 1 else 0
noncomputable def aBR(ms:List Nat):Nat:=bt ms 0+2*bt ms 1+4*bt ms 2+8*bt ms 3+16*bt ms 4+32*bt ms 5+64*bt ms 6+128*bt ms 7
noncomputable def places(m:Nat):List Nat:=(Ag 8).filter fun i=>decide (m / 2 ^ i % 2=1)
theorem iB(ms:List Nat)(j:Nat):bt ms j≤1:=by unfold bt;split <;> decide
theorem aWC(ms:List Nat)(j:Nat):bt ms j=1↔j∈ms:=by unfold bt;split <;> simp[*]
theorem aRK(ms:List Nat):aBR ms<256:=by
 have h0:=iB ms 0;have h1:=iB ms 1;have h2:=iB ms 2;have h3:=iB ms 3;have h4:=iB ms 4;have h5:=iB ms 5;have h6:=iB ms 6;have h7:=iB ms 7
 unfold aBR
 omega
theorem tJ{ms:List Nat}(h:∀ i∈ms,i<8)(i:Nat):i∈places (aBR ms)↔i∈ms:=by
 unfold places
 rw[Aq,Bm,decide_eq_true_iff]
 have key:i<8→(aBR ms / 2 ^ i % 2=1↔i∈ms):=fun hi=>by
  have h0:=iB ms 0;have h1:=iB ms 1;have h2:=iB ms 2;have h3:=iB ms 3;have h4:=iB ms 4;have h5:=iB ms 5;have h6:=iB ms 6;have h7:=iB ms 7
  rw[← aWC]
  have:i=0∨i=1∨i=2∨i=3∨i=4∨i=5∨i=6∨i=7:=by omega
  obtain⟨M,hM⟩:∃ M,M=aBR ms:=⟨_,rfl⟩
  rw[← hM]
  unfold aBR at hM
  rcases this with rfl | rfl | rfl | rfl | rfl | rfl | rfl | rfl <;> simp only[Nat.reducePow,Nat.div_one] <;> omega
 exact⟨fun⟨a,b⟩=>(key a).mp b,fun m=>⟨h i m,(key (h i m)).mpr m⟩⟩
noncomputable def ev(u:Nat→Int)(L:List (Int×Nat)):Int:=sm L fun p=>p.1*u p.2
noncomputable def xK:List Int→Nat→Int→List Int
 | [],_,_=>[]
 | x :: r,0,c=>(x+c) :: r
 | x :: r,k+1,c=>x :: xK r k c
noncomputable def dot(u:Nat→Int):List Int→Nat→Int
 | [],_=>0
 | x :: r,j=>x*u j+dot u r (j+1)
theorem aAH:∀ (l:List Int) (k:Nat) (c:Int),(xK l k c).length=l.length
 | [],_,_=>rfl
 | x :: r,0,c=>rfl
 | x :: r,k+1,c=>by show (xK r k c).length+1=r.length+1;rw[aAH]
theorem aAI(u:Nat→Int):∀ (l:List Int) (k j:Nat) (c:Int),k<l.length→dot u (xK l k c) j=dot u l j+c*u (j+k)
 | x :: r,0,j,c,_=>by show (x+c)*u j+dot u r (j+1)=x*u j+dot u r (j+1)+c*u j;rw[Int.add_mul];omega
 | x :: r,k+1,j,c,h=>by
  show x*u j+dot u (xK r k c) (j+1)=x*u j+dot u r (j+1)+c*u (j+(k+1))
  rw[aAI u r k (j+1) c (by simpa using h),show j+1+k=j+(k+1) by omega]
  omega
noncomputable def aGO(l:List Int):List (Int×Nat)→List Int
 | []=>l
 | p :: L=>aGO (xK l p.2 p.1) L
theorem wS(u:Nat→Int):∀ (L:List (Int×Nat)) (l:List Int),(∀ p∈L,p.2<l.length)→dot u (aGO l L) 0=dot u l 0+ev u L
 | [],l,_=>by show dot u l 0=dot u l 0+0;omega
 | p :: L,l,h=>by
  show dot u (aGO (xK l p.2 p.1) L) 0=_
  rw[wS u L _ fun q m=>by rw[aAH];exact h q (AJ _ m),aAI u l p.2 0 p.1 (h p AO),Nat.zero_add]
  unfold ev
  rw[bF]
  omega
noncomputable def chk(a b:List (Int×Nat)):Bool:=decide (aGO (BC 256 0) a=aGO (BC 256 0) b)
theorem aWB{a b:List (Int×Nat)}(h:chk a b=true)(ha:∀ p∈a,p.2<256)(hb:∀ p∈b,p.2<256)(u:Nat→Int):ev u a=ev u b:=by
 have e:aGO (BC 256 0) a=aGO (BC 256 0) b:=of_decide_eq_true h
 have h1:=wS u a (BC 256 0) (by rw[DS];exact ha)
 have h2:=wS u b (BC 256 0) (by rw[DS];exact hb)
 rw[e] at h1
 omega
theorem aVY(u:Nat→Int)(a b:List (Int×Nat)):ev u (a++b)=ev u a+ev u b:=vD _ _ _
theorem aCC{α:Type}(u:Nat→Int)(f:α→List (Int×Nat)):∀ l:List α,ev u (l.flatMap f)=sm l fun x=>ev u (f x)
 | []=>rfl
 | x :: l=>by rw[Du,aVY,aCC u f l,bF]
noncomputable def fac:Nat→Nat
 | 0=>1
 | n+1=>fac n*(n+1)
noncomputable def tm(v:List Str→Int)(zs:List Str)(z:Str)(co:List Str):Int:=if z∈co then 0 else ((fac co.length*fac (zs.length - co.length - 1):Nat):Int)*(v (zs.filter fun y=>decide (y=z) || decide (y∈co)) - v co)
noncomputable def tmR(n i:Nat)(ns:List Nat):List (Int×Nat):=if i∈ns then [] else [(((fac ns.length*fac (n - ns.length - 1):Nat):Int),aBR ((Ag n).filter fun y=>decide (y=i) || decide (y∈ns))),(-((fac ns.length*fac (n - ns.length - 1):Nat):Int),aBR ns)]
theorem aTL(n i:Nat)(ns:List Nat):∀ p∈tmR n i ns,p.2<256:=by
 intro p m
 unfold tmR at m
 split at m
 ·cases m
 ·simp only[Ac,AS,Bg,or_false] at m
  rcases m with rfl | rfl <;> exact aRK _
theorem aIV{α:Type}{f:α→List (Int×Nat)}(h:∀ x,∀ p∈f x,p.2<256)(l:List α):∀ p∈l.flatMap f,p.2<256:=fun p m=>by
 obtain⟨x,_,m⟩:=List.mem_flatMap.mp m
 exact h x p m
noncomputable def plN(n:Nat):List (List Nat):=(xS n).map (List.map Int.toNat)
theorem aBG:∀ n,1≤n→n≤8→∀ ns∈plN n,∀ i∈ns,i<n:=by
 intro n n1 n4
 have:n=1∨n=2∨n=3∨n=4∨n=5∨n=6∨n=7∨n=8:=by omega
 rcases this with rfl | rfl | rfl | rfl | rfl | rfl | rfl | rfl <;> decide +kernel
theorem aJZ:∀ n,1≤n→n≤8→(plN n).Nodup:=by
 intro n n1 n4
 have:n=1∨n=2∨n=3∨n=4∨n=5∨n=6∨n=7∨n=8:=by omega
 rcases this with rfl | rfl | rfl | rfl | rfl | rfl | rfl | rfl <;> decide +kernel
theorem aQU:∀ n,1≤n→n≤8→∀ ns∈plN n,∀ i∈Ag n,i∉ns→ns.length<n:=by
 intro n n1 n4
 have:n=1∨n=2∨n=3∨n=4∨n=5∨n=6∨n=7∨n=8:=by omega
 rcases this with rfl | rfl | rfl | rfl | rfl | rfl | rfl | rfl <;> decide +kernel
theorem aMW:∀ n,1≤n→n≤8→(plN n).length≤256:=by
 intro n n1 n4
 have:n=1∨n=2∨n=3∨n=4∨n=5∨n=6∨n=7∨n=8:=by omega
 rcases this with rfl | rfl | rfl | rfl | rfl | rfl | rfl | rfl <;> decide +kernel
theorem lH(p:Nat→Bool):∀ k,((Ag k).filter p).map Int.ofNat∈eQ k
 | 0=>AS.mpr rfl
 | k+1=>by
  rw[EO,Bz,AT]
  unfold eQ
  cases e:p k with
  | true =>
   refine Ah _ (AM.mpr ⟨_,lH p k,?_⟩)
   rw[DU,if_pos e]
   rfl
  | false =>
   refine CC _ ?_
   rw[DU,if_neg (by rw[e];exact AQ)]
   show _++[]∈_
   rw[Bf]
   exact lH p k
theorem aFW(p:Nat→Bool):∀ n,1≤n→n≤8→(Ag n).filter p∈plN n:=fun n n1 n4=>by
 refine AM.mpr ⟨_,(vX n1 n4).mpr (lH p n),?_⟩
 rw[Ai]
 conv=>rhs;rw[← FP ((Ag n).filter p)]
 exact Bk fun i _=>rfl
theorem sK(zs:List Str):zs=(Ag zs.length).map fun i=>zs.getD i "":=by
 refine List.ext_getElem (by simp) fun i h1 h2=>?_
 rw[Ca,List.getElem_range,AY,AB h1]
 rfl
theorem aCM{zs:List Str}(nd:zs.Nodup){a b:Nat}(ha:a<zs.length)(hb:b<zs.length)(e:zs.getD a ""=zs.getD b ""):a=b:=by
 rw[AY,AY,AB ha,AB hb] at e
 have nd':=Dq.mp nd
 rcases Nat.lt_trichotomy a b with h | h | h
 ·exact absurd e (nd' a b ha hb h)
 ·exact h
 ·exact absurd (show zs[b]=zs[a] from (show zs[a]=zs[b] from e).symm) (nd' b a hb ha h)
theorem zO{zs:List Str}(q:Str→Bool):zs.filter q=((Ag zs.length).filter fun i=>q (zs.getD i "")).map fun i=>zs.getD i "":=by
 conv=>lhs;rw[sK zs]
 rw[List.filter_map]
 rfl
theorem aGI{G:List Gap}{a b:List Str}{c d:Int}(h:fS G a c)(h':fS G b d)(sub:∀ z∈a,z∈b):c≤d:=by
 obtain⟨⟨X,s,w,e⟩,_⟩:=h'
 rw[← e]
 exact h.2 X s fun z m=>w z (sub z m)
theorem aVB{P:Nat→Prop}:(∃ n,P n)→∃ n,P n∧∀ m,P m→n≤m:=by
 rintro⟨n,hn⟩
 induction n using Nat.strongRecOn with
 | _ n ih =>
  by_cases h:∃ m,m<n∧P m
  ·obtain⟨m,lt,pm⟩:=h
   exact ih m lt pm
  ·exact⟨n,hn,fun m pm=>Nat.le_of_not_lt fun lt=>h ⟨m,lt,pm⟩⟩
theorem aCF{V0:List Str}{G:List Gap}(GG:Gaps V0 G)(X:Str→Bool):0≤cut G X:=by
 have:sm G (fun _=>(0:Int))≤sm G (oU X):=vC fun g m=>by
  have:=GG.cap g m
  unfold oU
  split <;> omega
 rw[fH fun _ _=>rfl] at this
 exact this
theorem aNP{V0:List Str}{G:List Gap}(GG:Gaps V0 G){co:List Str}(ns:Mt22.sea∉co):∃ c,fS G co c:=by
 obtain⟨n,⟨X,s,w,e⟩,mn⟩:=aVB (P:=fun n=>∃ X:Str→Bool,X Mt22.sea=false∧(∀ z∈co,X z=true)∧(cut G X).toNat=n) ⟨_,fun z=>decide (z∈co),decide_eq_false ns,fun z m=>decide_eq_true m,rfl⟩
 refine⟨cut G X,⟨X,s,w,rfl⟩,fun Y sY wY=>?_⟩
 have h1:=mn _ ⟨Y,sY,wY,rfl⟩
 have h2:=aCF GG X
 have h3:=aCF GG Y
 omega
theorem aFA{V0:List Str}{G:List Gap}(GG:Gaps V0 G){co:List Str}(ns:Mt22.sea∉co):fS G co (cF G co):=by
 obtain⟨c,h⟩:=aNP GG ns
 rw[aJD h]
 exact h
structure Fair (zs:List Str) (v:List Str→Int):Prop where
 cg:∀ a b:List Str,(∀ z,z∈a↔z∈b)→v a=v b
 none:v []=0
 mono:∀ a b:List Str,(∀ z∈a,z∈b)→(∀ z∈b,z∈zs)→v a≤v b
theorem aRX{V0:List Str}{G:List Gap}(GG:Gaps V0 G){zs:List Str}(ns:Mt22.sea∉zs):Fair zs (cF G):=by
 have L:∀ co:List Str,(∀ z∈co,z∈zs)→fS G co (cF G co):=fun co h=>aFA GG fun m=>ns (h _ m)
 exact⟨fun a b e=>aPD e,aJD ⟨⟨fun _=>false,rfl,fun z m=>(nomatch m),fH fun g _=>if_pos rfl⟩,fun X _ _=>aCF GG X⟩,fun a b h1 h2=>aGI (L a fun z m=>h2 z (h1 z m)) (L b h2) h1⟩
noncomputable def shr(v:List Str→Int)(zs:List Str)(z:Str):Int:=sm (plN zs.length) fun ns=>tm v zs z (ns.map fun i=>zs.getD i "")
theorem aTW{zs:List Str}(n1:1≤zs.length)(n4:zs.length≤8){v:List Str→Int}(F:Fair zs v){z:Str}:0≤shr v zs z:=by
 unfold shr
 have h0:sm (plN zs.length) (fun _=>(0:Int))=0:=fH fun _ _=>rfl
 rw[← h0]
 refine vC fun ns mn=>?_
 unfold tm
 split
 ·exact Ef _
 ·refine FX (Int.natCast_nonneg _) (Int.sub_nonneg_of_le (F.mono _ _ (fun y my=>?_) fun y my=>(Aq.mp my).1))
  have mz:y∈zs:=by
   obtain⟨i,mi,rfl⟩:=AM.mp my
   have:=aBG _ n1 n4 ns mn i mi
   rw[AY,AB this]
   exact Cu this
  exact Aq.mpr ⟨mz,by rw[decide_eq_true my,Bool.or_true]⟩
theorem aWM{zs:List Str}(nd:zs.Nodup)(n4:zs.length≤8){v:List Str→Int}(cg:∀ a b:List Str,(∀ z,z∈a↔z∈b)→v a=v b){i:Nat}(hi:i<zs.length){ns:List Nat}(lt:∀ i∈ns,i<zs.length) :
  tm v zs (zs.getD i "") (ns.map fun i=>zs.getD i "")=ev (fun m=>v ((places m).map fun i=>zs.getD i "")) (tmR zs.length i ns):=by
 have vm:∀ ms:List Nat,(∀ i∈ms,i<8)→v (ms.map fun i=>zs.getD i "")=v ((places (aBR ms)).map fun i=>zs.getD i ""):=fun ms h=>by
  refine cg _ _ fun y=>?_
  rw[AM,AM]
  exact⟨fun⟨a,ma,e⟩=>⟨a,(tJ h a).mpr ma,e⟩,fun⟨a,ma,e⟩=>⟨a,(tJ h a).mp ma,e⟩⟩
 have eq:(zs.getD i ""∈ns.map fun i=>zs.getD i "")=(i∈ns):=by
  rw[AM]
  exact propext ⟨fun⟨a,ma,e⟩=>aCM nd (lt a ma) hi e▸ma,fun m=>⟨i,m,rfl⟩⟩
 unfold tm tmR
 rw[AA]
 by_cases m:i∈ns
 ·rw[if_pos m,if_pos (eq▸m)];rfl
 ·rw[if_neg m,if_neg (fun h=>m (eq▸h))]
  have ef:(zs.filter fun y=>decide (y=zs.getD i "") || decide (y∈ns.map fun i=>zs.getD i ""))=((Ag zs.length).filter fun y=>decide (y=i) || decide (y∈ns)).map fun i=>zs.getD i "":=by
   rw[zO]
   congr 1
   refine List.filter_congr fun a ma=>?_
   have ha:=Bm.mp ma
   have e1:(zs.getD a ""=zs.getD i "")=(a=i):=propext ⟨fun e=>aCM nd ha hi e,fun e=>by rw[e]⟩
   have e2:(zs.getD a ""∈ns.map fun i=>zs.getD i "")=(a∈ns):=by
    rw[AM]
    exact propext ⟨fun⟨b,mb,e⟩=>aCM nd (lt b mb) ha e▸mb,fun m=>⟨a,m,rfl⟩⟩
   simp only[e1,e2]
  rw[ef,vm _ (fun a ma=>Ae (Bm.mp (Aq.mp ma).1) n4),vm ns fun a ma=>Ae (lt a ma) n4]
  unfold ev
  rw[bF,bF,lM,Int.mul_sub]
  dsimp only
  rw[Int.neg_mul]
  omega
noncomputable def aYK:List (Int×Nat):=(Ag 8).flatMap fun i=>(plN 8).flatMap (tmR 8 i)
theorem ok8:chk aYK [(40320,255),(-40320,0)]=true:=by decide +kernel
theorem aTU{α β:Type}(f:α→β)(g:β→Int)(l:List α):sm (l.map f) g=sm l fun x=>g (f x):=by
 unfold sm
 rw[Ai]
 rfl
theorem aQH{zs:List Str}(nd:zs.Nodup)(n8:zs.length=8){v:List Str→Int}(F:Fair zs v):sm zs (shr v zs)=40320*v zs:=by
 have key:=aWB ok8 (aIV (fun i=>aIV (aTL 8 i) _) _) (by decide) fun m=>v ((places m).map fun i=>zs.getD i "")
 unfold aYK at key
 rw[aCC] at key
 have e1:sm zs (shr v zs)=sm (Ag 8) fun i=>ev (fun m=>v ((places m).map fun i=>zs.getD i "")) ((plN 8).flatMap (tmR 8 i)):=by
  conv=>lhs;arg 1;rw[sK zs]
  rw[n8,aTU]
  refine eU fun i mi=>?_
  have hi:=Bm.mp mi
  rw[aCC]
  unfold shr
  rw[n8]
  refine eU fun ns mn=>?_
  have:=aWM nd (by omega) F.cg (i:=i) (by omega) (ns:=ns) (by rw[n8];exact aBG 8 (by decide) (by decide) ns mn)
  rw[n8] at this
  exact this
 rw[e1,key]
 unfold ev
 rw[bF,bF,lM]
 have u0:v ((places 0).map fun i=>zs.getD i "")=0:=by
  have:places 0=[]:=by decide
  rw[this]
  exact F.none
 have u1:v ((places 255).map fun i=>zs.getD i "")=v zs:=by
  have:places 255=Ag 8:=by decide
  rw[this]
  conv=>rhs;rw[sK zs,n8]
 dsimp only
 rw[u0,u1]
 omega
end Mt74
namespace Mt61
open PySem L2 Mt22 Mt31
structure CameG (zs:List Str) (S:List Mt22.St) (cm:Cm):Prop where
 nd:(keys cm).Nodup
 le:zs.length≤cm.length
 first:∀ (i:Nat) (z:Str),zs[i]?=some z→cm[i]?=some (z,none)
 prev:∀ (i:Nat) (z:Str) (o:Option Mt22.St),zs.length≤i→cm[i]?=some (z,o)→∃ s,o=some s∧s∈S∧s.far=z∧s.near∈keys (cm.take i)
theorem CameG.snoc{zs:List Str}{S:List Mt22.St}{cm:Cm}(h:CameG zs S cm){s:Mt22.St}(ms:s∈S)(hn:s.near∈keys cm)(hf:s.far∉keys cm):CameG zs S (cm++[(s.far,some s)]) where
 nd:=by
  rw[jW,Dt]
  refine⟨h.nd,by simp[keys],fun a ha b hb=>?_⟩
  have:b=s.far:=by simpa [keys] using hb
  rw[this]
  exact fun e=>hf (e▸ha)
 le:=by
  rw[AX]
  have:=h.le
  omega
 first i z e:=by
  have:=(AC.mp e).1
  have:=h.le
  rw[BK (by omega)]
  exact h.first i z e
 prev i z o hi e:=by
  by_cases hl:i<cm.length
  ·rw[BK hl] at e
   obtain⟨t,h1,h2,h3,h4⟩:=h.prev i z o hi e
   exact⟨t,h1,h2,h3,by rw[List.take_append_of_le_length (FH hl)];exact h4⟩
  ·have hlen:=(AC.mp e).1
   rw[AX] at hlen
   have hi':i=cm.length:=by
    have:([(s.far,some s)]:Cm).length=1:=rfl
    omega
   subst hi'
   rw[Be (AL _),FG] at e
   cases e
   refine⟨s,rfl,ms,rfl,?_⟩
   rw[List.take_append_of_le_length (AL _),AG (AL _)]
   exact hn
theorem CameG.init{zs:List Str}(S:List Mt22.St)(nd:zs.Nodup):CameG zs S (zs.map fun z=>(z,none)) where
 nd:=by
  have:keys (zs.map fun z=>((z,none):Str×Option Mt22.St))=zs:=by unfold keys;rw[Ai];exact FP _
  rw[this]
  exact nd
 le:=by rw[AA];exact AL _
 first i z e:=by rw[AH,e];rfl
 prev i z o hi e:=by
  have:=(AC.mp e).1
  rw[AA] at this
  omega
theorem CameG.came{S:List Mt22.St}{cm:Cm}(h:CameG [Mt22.sea] S cm):Came S cm:=⟨h.nd,h.first 0 _ rfl,fun i z o hi e=>h.prev i z o (by show 1≤i;omega) e⟩
theorem CameG.mem{zs:List Str}{S:List Mt22.St}{cm:Cm}(h:CameG zs S cm){z:Str}(m:z∈keys cm):z∈zs∨∃ s∈S,s.far=z:=by
 unfold keys at m
 obtain⟨x,mx,rfl⟩:=AM.mp m
 obtain⟨i,hi⟩:=BB.mp mx
 by_cases hl:i<zs.length
 ·obtain⟨z,ez⟩:∃ z,zs[i]?=some z:=⟨_,AB hl⟩
  have:=h.first i z ez
  rw[hi] at this
  cases this
  exact .inl (AI ez)
 ·obtain⟨s,_,ms,e,_⟩:=h.prev i x.1 x.2 (by omega) hi
  exact .inr ⟨s,ms,e⟩
theorem CameG.start{zs:List Str}{S:List Mt22.St}{cm:Cm}(h:CameG zs S cm){z:Str}(m:z∈zs):z∈keys cm:=by
 obtain⟨i,hi⟩:=BB.mp m
 exact AM.mpr ⟨_,AI (h.first i z hi),rfl⟩
theorem mC{S:List Mt22.St}{cm:Cm}(c:uJ S cm cm.length):∀ s∈S,s.near∈keys cm→s.far∈keys cm:=fun s ms hn=>by
 obtain⟨i,hi⟩:=BB.mp hn
 have hl:=(AC.mp hi).1
 unfold keys at hl
 rw[AA] at hl
 exact c i _ hl hi s ms rfl
end Mt61
namespace Mt05
open PySem L2 Ld Mt02
def noS(z:Str):Prop:=¬ (115:Nat)∈z.cps.toList
structure NamesS (zs:List Str) (n:Nat):Prop where
 nm:Names zs n
 nos:∀ z∈zs,noS z
end Mt05
namespace Mt53
open PySem L2 Ld Mt02 Mt04
noncomputable def aMR:Dv→Int
 | .tup [_,_,_,_,.int r,_]=>r
 | _=>0
noncomputable def vW(ds:List Dv)(z:Str):Int:=(ds.find? fun d=>decide (aL d=z)).elim 0 aMR
theorem aIC{ds:List Dv}(nd:(ds.map aL).Nodup){d:Dv}(m:d∈ds):vW ds (aL d)=aMR d:=by
 have:(ds.find? fun e=>decide (aL e=aL d))=some d:=by
  induction ds with
  | nil=>cases m
  | cons e ds ih =>
   rw[AU,Aj] at nd
   rw[Bp]
   rcases Ac.mp m with rfl | m
   ·rw[decide_eq_true rfl]
   ·have hne:aL e≠aL d:=fun c=>nd.1 (c▸AM.mpr ⟨d,m,rfl⟩)
    rw[decide_eq_false hne]
    exact ih nd.2 m
 show (ds.find? fun e=>decide (aL e=aL d)).elim 0 aMR=_
 rw[this]
 rfl
noncomputable def aEW(ds:List Dv)(w:Dv):Int:=vW ds (aL w)*(hOf w - gC ds (aL w))
noncomputable def aCG(ds ws:List Dv):Int:=(ws.map (aEW ds)).sum
end Mt53
namespace Mt46
open PySem L2 Ld Mt21
noncomputable def units:List Int:=[1,3,5,7,9,11,15,17,19,21,23,25]
theorem aLD:∀ u∈units,∀ d∈Ag 26,d≠0→((d:Int)*u) % 26≠0:=by decide +kernel
theorem aWI{i j:Int}(e:ab i=ab j):i % 26=j % 26:=by
 unfold ab at e
 have h1:=At i (show (26:Int)≠0 by decide)
 have h2:=At j (show (26:Int)≠0 by decide)
 omega
theorem aHH{u r:Int}(hu:u∈units){k l:Nat}(hl:l<26)(h:k<l)(e:ab ((k:Int)*u+r)=ab ((l:Int)*u+r)):False:=by
 have e1:=(Int.emod_eq_emod_iff_emod_sub_eq_zero).mp (aWI e.symm)
 have e2:(l:Int)*u+r - ((k:Int)*u+r)=((l - k:Nat):Int)*u:=by
  rw[Int.ofNat_sub (by omega),Int.sub_mul]
  omega
 rw[e2] at e1
 exact aLD u hu (l - k) (Bm.mpr (by omega)) (by omega) e1
theorem aLE{u r:Int}(hu:u∈units){k l:Nat}(hk:k<26)(hl:l<26)(e:ab ((k:Int)*u+r)=ab ((l:Int)*u+r)):k=l:=by
 rcases Nat.lt_trichotomy k l with h | h | h
 ·exact (aHH hu hl h e).elim
 ·exact h
 ·exact (aHH hu hk h e.symm).elim
theorem aGG(a:Str):∀ l:List Str,l.Nodup→l.length≤(l.filter fun z=>!decide (z=a)).length+1
 | [],_=>by simp
 | z :: l,nd=>by
  rw[Aj] at nd
  by_cases h:z=a
  ·have e:(l.filter fun z=>!decide (z=a))=l:=by
    rw[List.filter_eq_self]
    intro y my
    have:y≠a:=fun e=>nd.1 (by rw[h,← e];exact my)
    simp[this]
   rw[DD (by simp[h]),e]
   simp
  ·rw[DC (by simp[h])]
   have:=aGG a l nd.2
   simp only[Af]
   omega
structure Nm (zs:List Str):Prop where
 nd:zs.Nodup
 nm:∀ z∈zs,eN z=true
 l1:25≤zs.length
 l2:zs.length≤26
theorem aXO{b:Str}{sz pl:Nat}{u r:Int}{g:Nat→Str}(hb:b.cps.toList.all iT=true)(hl:b.length=sz)(h1:1≤sz)(h8:sz≤8)(hp:pl<sz)(hu:u∈units)
 (pu:∀ k,k<26→(g k).cps.toList=b.cps.toList.take pl++[ab ((k:Int)*u+r)]++b.cps.toList.drop (pl+1)):Nm (((Ag 26).map g).filter fun z=>!decide (z="sea")):=by
 have bl:b.cps.toList.length=sz:=by rw[← iG];exact hl
 have lg:∀ k,k<26→(g k).length=sz:=fun k hk=>by
  rw[iG,pu k hk,AX,AX,AR,Bh,bl]
  show min pl sz+1+(sz - (pl+1))=sz
  omega
 have nd:((Ag 26).map g).Nodup:=aEC fun k l hk hl e=>by
  have e1:(g k).cps.toList=(g l).cps.toList:=by rw[e]
  rw[pu k hk,pu l hl,Bl,Bl] at e1
  have e2:=List.append_cancel_left e1
  rw[EU,EU] at e2
  exact aLE hu hk hl (List.cons.inj e2).1
 have ln:=aGG "sea" _ nd
 rw[AA,CG] at ln
 have lf:=BI (fun z=>!decide (z=("sea":Str))) ((Ag 26).map g)
 rw[AA,CG] at lf
 refine⟨nd.sublist List.filter_sublist,fun z mz=>?_,by omega,lf⟩
 obtain⟨m1,m2⟩:=Aq.mp mz
 obtain⟨k,mk,rfl⟩:=AM.mp m1
 have hk:=Bm.mp mk
 have all:(g k).cps.toList.all iT=true:=by
  rw[pu k hk,FR,FR]
  have hb':=BW.mp hb
  rw[BW.mpr fun x m=>hb' x (CQ m),BW.mpr fun x m=>hb' x (Ea m)]
  simp[aAJ]
 unfold eN
 rw[lg k hk,decide_eq_true h1,decide_eq_true h8,m2,all]
 rfl
theorem aZP{i:Int}(h0:0≤i)(h1:i<12):∃ u∈units,atI ([.int 1,.int 3,.int 5,.int 7,.int 9,.int 11,.int 15,.int 17,.int 19,.int 21,.int 23,.int 25]:List V) i=some (.int u):=by
 obtain⟨k,rfl⟩:=Ap h0
 have hk:k<12:=by omega
 have hk2:k<units.length:=hk
 refine⟨units[k],Cu hk2,aK ?_⟩
 show (units.map V.int)[k]?=some (V.int units[k])
 rw[AH,AB hk2]
 rfl
end Mt46
namespace L2
open PySem PySem.Spec PyProof.Rows
section
variable{X:Cx}{tg:Expr}
def aVQ(td:TE):TI:=fun σ H R=>td σ H fun x H1=>∃ d o kvs,x=.ref d∧H1 d=some (.frz o (.dK kvs))∧R (Itd d o kvs) H1
theorem aMY{l:Expr}{tl:TE}(hl:PE X l tl):PI X tg l (aVQ tl):=by
 intro pins s σ H R I h
 refine thn (hl pins s σ H _ I h) fun v s1 ⟨x,H1,I1,r1,q1⟩=>?_
 obtain⟨d,o,kvs,e,hH,q⟩:=q1
 subst e
 cases r1
 have hok:=I1.hok d _ hH
 obtain⟨ho,hz,lo,vs,kv,hD⟩:=(show bS X.prog X.w H1 s1.heap d (.frz o (.dK kvs)) from hok)
 obtain⟨ep,hat⟩:=hD.dictAt
 refine wpAny_pyIter_dict lo hat ?_
 refine⟨s1.heap.objs.size,[s1.heap.objs.size],_,_,H1,rfl,I1.kept (t':=s1.toks) fun b ob e=>AF _ e,yH kv ho hat,⟨_,AZ _ rfl,rfl,rfl⟩,fun b hb=>?_,q⟩
 have e:b=s1.heap.objs.size:=by simpa using hb
 subst e
 exact I1.fpOk (AL _) (I1.hok.fresh (AL _))
theorem aKV(hc:X.calm=true):eP X (.builtin "min") (fun xs H Q=>∃ (p:Addr) (ns:List Int),xs=[.ref p]∧SqL X.K H p (ns.map V.int)∧0<ns.length∧∀ M,M∈ns→(∀ a∈ns,M≤a)→Q (.int M) H):=by
 intro pins s σ H xs us Q I r h
 obtain⟨p,ns,rfl,hq,h0,q⟩:=h
 obtain⟨u,rfl,ru⟩:=bD.one r
 cases ru
 obtain⟨its,rv,pl,hz⟩:=I.list hq
 have hi:=wR rv
 obtain⟨ys,ey⟩:=hi.allInts.items
 have en:ns=ys.toList.map fun x=>x.1:=by
  have h1:=nums_intItems ys
  rw[← ey] at h1
  rw[← h1]
  exact hi.numsOf.symm
 have hl:s.heap.IsList p (intItems ys):=by rw[← ey];exact pl.isList
 have hlen:ns.length=ys.size:=by rw[en,AA,Bc]
 refine min_intList (I.ok.hd hc) hl (by omega) fun v h' tk hv hk=>?_
 obtain⟨tv,rfl⟩:=intItems_at hv
 obtain⟨g1,g2⟩:=aEJ (numAt ys) (ys.size - 1)
 refine⟨.int _,H,I.kept (t':=tk) hk,⟨_,rfl⟩,q _ ?_ fun a ma=>?_⟩
 ·rw[numAt_eq,← en,AY,AB (show argBest (fun i j=>decide (numAt ys i<numAt ys j)) (ys.size - 1)<ns.length by omega)]
  exact Cu _
 ·obtain⟨j,hj⟩:=BB.mp ma
  have hjl:=(AC.mp hj).1
  have:=g2 j (by omega)
  rw[numAt_eq ys j,← en,AY,hj] at this
  exact this
end
end L2
namespace L2
open PySem PySem.Spec PyProof.Rows
section
variable{prog:Program}{w:World}{A:Around}{E:Value→Shared→Prop}{s:Shared}
theorem aPQ{d:Addr}{o:Obj}{es:Array FC}{ep:Nat}{Q:Value→Shared→Prop}(hd:(d == DN)=false)(ho:s.heap.get? d=some o)(hc:o.ExactDict)(hdat:o.data=.dict es ep)
 (hQ:Q (.ref s.heap.objs.size) { s with heap:=s.heap.push { cls:=.type "dict_keyiterator",data:=.fields #[.ref d,.int 0 0,.int es.size 0,.int ep 0] } }):wpAny (model prog w) A (pyIter (.ref d)) Q E s:=by
 have hT:s.TypeIs (.ref d) "dict":=⟨o,ho,hc.1⟩
 refine wpAny_pyIter_slot hT F.slot_dict_iter (FV F.slot_dict_iter hT F.entry_dict_iter ?_ (F.args_dict_iter_1 _))
 unfold Builtin.«dict.__iter__»
 refine AD ?_
 unfold Builtin.Dict.dictSlotNone
 refine AD (Ek hT (AN ?_))
 show wpAny _ _ (Builtin.Dict.showsAll d >>= _) _ _ s
 unfold Builtin.Dict.showsAll
 rw[if_neg (by rw[hd];exact AQ)]
 refine AD (AN (AD (FS ho hdat (AD (Fb ho hdat ?_)))))
 refine AD (EI (AN ⟨_,rfl,"dict_keyiterator",_,⟨_,AZ _ rfl,rfl⟩,CJ.lookup,?_⟩))
 simpa [rawInt] using hQ
theorem aPR{it d:Addr}{i ep:Nat}{od:Obj}{es:Array FC}{Q:Option Value→Shared→Prop}(hit:s.heap.IsKeyIter it d i es.size ep)(hod:s.heap.get? d=some od)(hdd:od.data=.dict es ep)(hlt:i<es.size)
 (hQ:∀ h',h'.IsKeyIter it d (i+1) es.size ep→DK it s.heap h'→Q (some es[i].key) { s with heap:=h' }):wpAny (model prog w) A (pyNext (.ref it)) Q E s:=by
 obtain⟨o,ho,hc,hd⟩:=id hit
 unfold pyNext
 refine AD (Df (wpAny_callSpecial?_slot (name:=Str.ofString "__next__") hit.typeIs CJ
  (FV CJ hit.typeIs F.entry_dict_keyiterator_next ?_ (F.args_dict_keyiterator_next_1 _))))
 refine AD (AN (AD (AD ?_)))
 first | refine AD (Ck hit.typeIs (AN ?_)) | refine AD (DE hit.typeIs (AN ?_))
 refine AD (wpAny_fieldsOf ho hd ?_)
 simp only[show Builtin.Dict_items.ownsTuple "dict_keyiterator"=false from by decide,Eu,if_false]
 show wpAny _ _ (if (Al d == Bj)=true then _ else _) _ _ s
 rw[if_neg (show ¬ ((Al d == Bj)=true) from AQ)]
 refine AD (AN (AD (FS hod hdd ?_)))
 rw[if_neg (by simp)]
 refine AD (AN (AD (Fb hod hdd ?_)))
 rw[if_neg (by simp)]
 refine AN ?_
 simp only[show ¬ ((i:Int)<0) from by omega,if_false,CU,Array.getElem?_eq_getElem hlt]
 refine AD ?_
 first | refine AD (Ck hit.typeIs (AN ?_)) | refine AD (DE hit.typeIs (AN ?_))
 refine AD (wpAny_isOneOf_keyiter hit.typeIs ?_)
 show wpAny _ _ (setField (.ref it) 1 (rawInt ((i:Int)+1)) >>= _) _ _ s
 refine AD (wpAny_setField ho hd (by simp) ?_)
 have hit':(s.heap.update it (Obj.mapFields (·.setIfInBounds 1 (rawInt ((i:Int)+1))))).IsKeyIter it d (i+1) es.size ep :=
  ⟨_,DT _ ho (Obj.isFreed_of_fields (Obj.data_mapFields hd _)),(Obj.cls_mapFields ..).trans hc,by rw[Obj.data_mapFields hd];simp[rawInt]⟩
 refine AD (Br (AD (wpAny_isOneOf_keyiter (s:={ s with heap:=s.heap.update it (Obj.mapFields (·.setIfInBounds 1 (rawInt ((i:Int)+1)))) }) hit'.typeIs ?_)))
 show wpAny _ _ (pure es[i].key) _ _ _
 exact AN (AN ⟨_,rfl,AN (hQ _ hit' (DK.update ..))⟩)
theorem aTM{it d:Addr}{i ep:Nat}{od:Obj}{es:Array FC}{Q:Option Value→Shared→Prop}(hh:A.handled=none)(hit:s.heap.IsKeyIter it d i es.size ep)(hod:s.heap.get? d=some od)(hdd:od.data=.dict es ep)(hge:es.size≤i)
 (hQ:∀ h',Heap.ExtBut it s.heap h'→Q none { s with heap:=h' }):wpAny (model prog w) A (pyNext (.ref it)) Q E s:=by
 obtain⟨o,ho,hc,hd⟩:=id hit
 unfold pyNext
 refine AD (Df (wpAny_callSpecial?_slot (name:=Str.ofString "__next__") hit.typeIs CJ
  (FV CJ hit.typeIs F.entry_dict_keyiterator_next ?_ (F.args_dict_keyiterator_next_1 _))))
 refine AD (AN (AD (AD ?_)))
 first | refine AD (Ck hit.typeIs (AN ?_)) | refine AD (DE hit.typeIs (AN ?_))
 refine AD (wpAny_fieldsOf ho hd ?_)
 simp only[show Builtin.Dict_items.ownsTuple "dict_keyiterator"=false from by decide,Eu,if_false]
 show wpAny _ _ (if (Al d == Bj)=true then _ else _) _ _ s
 rw[if_neg (show ¬ ((Al d == Bj)=true) from AQ)]
 refine AD (AN (AD (FS hod hdd ?_)))
 rw[if_neg (by simp)]
 refine AD (AN (AD (Fb hod hdd ?_)))
 rw[if_neg (by simp)]
 refine AN ?_
 simp only[show ¬ ((i:Int)<0) from by omega,if_false,CU,Array.getElem?_eq_none hge]
 refine AD ?_
 first | refine AD (Ck hit.typeIs (AN ?_)) | refine AD (DE hit.typeIs (AN ?_))
 show wpAny _ _ (setField (.ref it) 0 .none >>= _) _ _ s
 refine AD (wpAny_setField ho hd (by simp) ?_)
 show wpAny _ _ (newExc (.type "StopIteration") [] >>= _) _ _ _
 refine AD ?_
 simp only[newExc,newTuple]
 refine AD (EI ?_ (by size_fits))
 refine AD (m:=firstArgMember _ _) (wpAny_of_eq (a:=Bj) (by first | rfl | (simp only[firstArgMember];rfl)) ?_)
 refine EI ?_ (by size_fits)
 simp only[raiseNew]
 refine AD (wpAny_handled ?_)
 rw[show A.in1.handled=none from hh]
 refine AD (AN (wpAny_throw ?_))
 refine AD (wpAny_isInstance (T:="StopIteration") (b:=true) ⟨_,AZ _ rfl,rfl⟩ isSubtype_stop ?_)
 exact AN (hQ _ (((DK.update ..).extBut.push _).push _))
end
noncomputable def ItT(d:Addr)(o:Obj)(kvs:List (List Key×V)):It :=
 ⟨fun i H=>H d=some (.frz o (.dT kvs))∧i<kvs.length,fun i H x H'=>H'=H∧∃ kv b,kvs[i]?=some kv∧x=.ref b∧H b=some (.tup (kv.1.map kV)),fun i H=>H d=some (.frz o (.dT kvs))∧kvs.length≤i⟩
theorem KT.get{H:Hp}{P:Program}{w:World}:∀ {kvs:List (List Key×V)} {xs:List (List Key×Addr×Value)} {i:Nat},KT H kvs xs→i<kvs.length→∃ kv x,kvs[i]?=some kv∧xs[i]?=some x∧H x.2.1=some (.tup (kv.1.map kV))
 | _,_,_,.nil,h=>by simp at h
 | _,_,0,.cons a r,_=>⟨_,_,rfl,rfl,a.2.1⟩
 | _,_,i+1,.cons a r,h=>by
  obtain⟨kv,x,e1,e2,e3⟩:=KT.get (P:=P) (w:=w) (i:=i) r (by simpa using h)
  exact⟨kv,x,by simpa using e1,by simpa using e2,e3⟩
theorem KT.len{H:Hp}:∀ {kvs:List (List Key×V)} {xs:List (List Key×Addr×Value)},KT H kvs xs→kvs.length=xs.length
 | _,_,.nil=>rfl
 | _,_,.cons _ r=>by rw[Af,Af,KT.len r]
theorem aPO{P:Program}{w:World}{K:AE}{tg:Expr}{d it:Addr}{o:Obj}{kvs:List (List Key×V)}{es:Array FC}{ep:Nat}(hdat:o.data=.dict es ep)(hz:es.size=kvs.length) :
  Turn P w K tg (ItT d o kvs) [it] it (fun i h=>h.IsKeyIter it d i es.size ep) where
 mem:=by simp
 obj:=fun i h st b hb=>by
  have e:b=it:=by simpa using hb
  subst e
  obtain⟨ob,e,c,dd⟩:=st
  exact⟨ob,e,fun v z=>by rw[dd] at z;cases z⟩
 keep:=fun i h h' st k=>st.at fun ob e=>k it (by simp) ob e
 item:=by
  intro X hP hw hK hc i pins s σ H E I hf st hg
  subst hP hw hK
  obtain⟨hH,hi⟩:=hg
  obtain⟨f0,f1,f2,f3,f4,f5⟩:=hf it (by simp)
  have hok:=(show bS X.prog X.w H s.heap d (.frz o (.dT kvs)) from I.hok d _ hH)
  have hget:s.heap.get? d=some o:=hok.1
  obtain⟨z,y,xs,r,o',es',ep',h1,h2,h3,h4,h5⟩:=(show bS X.prog X.w H s.heap d (.dT kvs) from hok.2)
  rw[hget] at h1
  cases h1
  rw[hdat] at h3
  cases h3
  obtain⟨kv,x,e1,e2,e3⟩:=KT.get (P:=X.prog) (w:=X.w) r hi
  have hlt:i<es.size:=by omega
  refine aPR st hget hdat hlt fun h' st' sb=>?_
  have ek:es[i].key=.ref x.2.1:=by
   have q:=entry_at h4 i
   rw[Array.getElem?_eq_getElem hlt,e2] at q
   have q':=Ao q
   rw[q']
   rfl
  have I1:Inv X pins σ H { s with heap:=h' }:=I.turned (t':=s.toks) (fun b ob hb e=>(sb.2 b hb).trans e) f0 f1 f3 f4 f5
  obtain⟨ob,e,c,dd⟩:=id st'
  refine⟨es[i].key,rfl,aEN (s:={ s with heap:=h' }) e c dd (by decide) ⟨.ref x.2.1,H,I1,?_,⟨rfl,kv,x.2.1,e1,rfl,e3⟩,st',fun b hb=>(hf b hb).1⟩⟩
  rw[ek]
  rfl
 done:=by
  intro X hP hw hK hc i pins s σ H E I hf st hg
  subst hP hw hK
  obtain⟨hH,hi⟩:=hg
  obtain⟨f0,f1,f2,f3,f4,f5⟩:=hf it (by simp)
  have hget:s.heap.get? d=some o:=(show bS X.prog X.w H s.heap d (.frz o (.dT kvs)) from I.hok d _ hH).1
  exact aTM (I.ok.hd hc) st hget hdat (by omega) fun h' eb=>⟨rfl,I.turned (t':=s.toks) (fun b ob hb e=>eb b ob hb e) f0 f1 f3 f4 f5⟩
 self:=fun _ _ _ _ _ st h=>wpAny_pyIter_keyiter st h
section
variable{X:Cx}{tg:Expr}
def aNY(td:TE):TI:=fun σ H R=>td σ H fun x H1=>∃ d kvs,x=.ref d∧((H1 d=some (.dT kvs)∧∀ o,R (ItT d o kvs) (upd H1 d (.frz o (.dT kvs))))∨∃ o,H1 d=some (.frz o (.dT kvs))∧R (ItT d o kvs) H1)
theorem aMX{l:Expr}{tl:TE}(hl:PE X l tl):PI X tg l (aNY tl):=by
 intro pins s σ H R I h
 refine thn (hl pins s σ H _ I h) fun v s1 ⟨x,H1,I1,r1,q1⟩=>?_
 obtain⟨d,kvs,e,q⟩:=q1
 subst e
 cases r1
 have go:∀ (o:Obj) (H2:Hp),Inv X pins σ H2 s1→H2 d=some (.frz o (.dT kvs))→R (ItT d o kvs) H2→wpAny (model X.prog X.w) X.A (pyIter (.ref d)) (PIE X pins σ tg R) X.xe s1:=fun o H2 I2 hH q=>by
  have hok:=(show bS X.prog X.w H2 s1.heap d (.frz o (.dT kvs)) from I2.hok d _ hH)
  obtain⟨z,y,xs,r,o',es,ep,h1,h2,h3,h4,h5⟩:=(show bS X.prog X.w H2 s1.heap d (.dT kvs) from hok.2)
  have h0:=hok.1
  rw[h0] at h1
  cases h1
  have hz:es.size=kvs.length:=by rw[size_of_entries h4,KT.len r]
  refine aPQ y h0 h2 h3 ?_
  refine⟨s1.heap.objs.size,[s1.heap.objs.size],_,_,H2,rfl,I2.kept (t':=s1.toks) fun b ob e=>AF _ e,aPO h3 hz,⟨_,AZ _ rfl,rfl,rfl⟩,fun b hb=>?_,q⟩
  have e:b=s1.heap.objs.size:=by simpa using hb
  subst e
  exact I2.fpOk (AL _) (I2.hok.fresh (AL _))
 rcases q with ⟨hH,q⟩ | ⟨o,hH,q⟩
 ·obtain⟨z,y,xs,r,o,es,ep,h1,h2,h3,h4,h5⟩:=(show bS X.prog X.w H1 s1.heap d (.dT kvs) from I1.hok d _ hH)
  refine go o _ (I1.write (x:=d) (e:=d) (o:=.frz o (.dT kvs)) (h':=s1.heap) (t':=s1.toks) (by rw[hH];exact trivial) (.inl rfl) (fun _ _ _ q=>q) ⟨o,h1⟩ ⟨h1,z,y,xs,?_,o,es,ep,h1,h2,h3,h4,h5⟩) aC (q o)
  exact Paired.mapP r fun p q t=>⟨t.1,by rw[aI (fun e=>by rw[e,hH] at t;cases t.2.1)];exact t.2.1,t.2.2⟩
 ·exact go o H1 I1 hH q
theorem aOF{d:Addr}{o:Obj}{kvs:List (List Key×V)}{g:TG}{tb:TS}{D:Ends}{σ:St}{H:Hp}(Pv:Nat→St→Hp→Prop)(h0:Pv 0 σ H)(hl:∀ i σ H,i≤kvs.length→Pv i σ H→H d=some (.frz o (.dT kvs)))
 (hs:∀ i kv b σ H,kvs[i]?=some kv→H b=some (.tup (kv.1.map kV))→Pv i σ H→g (.ref b) σ H fun σ2 H2=>tb { D with nx:=Pv (i+1),ct:=Pv (i+1),bk:=D.nx } σ2 H2)(hd:∀ σ H,Pv kvs.length σ H→D.nx σ H) :
  ∃ W:Nat→Nat→St→Hp→Prop,(∃ m,W 0 m σ H)∧∀ i m σ H,W i m σ H →
   ((ItT d o kvs).stop i H∧D.nx σ H)∨((ItT d o kvs).go i H∧∃ N:St→Hp→Prop,(∀ σ' H',N σ' H'→∃ m',m'<m∧W (i+1) m' σ' H')∧∀ x H',(ItT d o kvs).yld i H x H'→g x σ H' fun σ2 H2=>tb { D with nx:=N,ct:=N,bk:=D.nx } σ2 H2):=by
 refine⟨fun i m σ H=>m+i=kvs.length∧Pv i σ H,⟨kvs.length,rfl,h0⟩,?_⟩
 intro i m σ H hw
 obtain⟨hm,pv⟩:=hw
 have at_:=hl i σ H (by omega) pv
 rcases Nat.lt_or_ge i kvs.length with lt | ge
 ·refine .inr ⟨⟨at_,lt⟩,Pv (i+1),(fun σ' H' p'=>⟨kvs.length - (i+1),by omega,by omega,p'⟩),fun x H' y=>?_⟩
  obtain⟨eH,kv,b,ek,ex,eb⟩:=y
  subst eH ex
  exact hs i kv b σ _ ek eb pv
 ·have ei:i=kvs.length:=by omega
  subst ei
  exact .inl ⟨⟨at_,AL _⟩,hd σ H pv⟩
end
end L2
namespace L2
open PySem PySem.Spec PyProof.Rows
section
variable{P:Program}{w:World}{A:Around}{R:Result→Shared→Prop}{I:Addr}{fp wr:List Addr}{G:Array Dm→Array Dm→Prop}{n:Nat}{Pv:Nat→Value→Prop}{Stt:Nat→Shared→Prop}
theorem aHD{kvs:List (List Key×Addr×Value)}(nd:(kvs.map (·.1)).Nodup){i:Nat}{x:List Key×Addr×Value}(h:kvs[i]?=some x):atKey (kvs.take i) x.1=none:=by
 unfold atKey
 rw[Option.map_eq_none_iff,List.find?_eq_none]
 intro y m e
 have e':y.1=x.1:=of_decide_eq_true e
 obtain⟨j,hj⟩:=BB.mp m
 rw[List.getElem?_take] at hj
 split at hj
 ·rename_i lt
  have hi:=(AC.mp h).1
  have hj':=(AC.mp hj).1
  rw[CM,Dq] at nd
  refine nd j i (by rw[AA];exact hj') (by rw[AA];exact hi) lt ?_
  rw[Ca,Ca,(AC.mp hj).2,(AC.mp h).2,e']
 ·cases hj
theorem aGX(W:WalksS P w A.in1 I fp wr G n Pv Stt)(hu:A.units+4<cLine)(D:Addr)(hD:D∉fp)(res:Value)(kvs:List (List Key×Addr×Value))(hn:kvs.length=n)(hz:n≤Am)(nd:(kvs.map (·.1)).Nodup)(s₀:Shared)
 (hk:∀ x∈kvs,x.2.1∉D :: wr∧(CP (aU P w)).is s₀.heap x.1 x.2.1)
 (hv:∀ (i:Nat) (v:Value),Pv i v→∃ (a b:Addr) (k:List Key) (x:Value) (ob:Obj) (c:Nat),v=.ref a∧a∉D :: wr∧s₀.heap.get? a=some ob∧ob.cls=.type "tuple"∧ob.data=.seq #[.ref b,x] c∧kvs[i]?=some (k,b,x)) :
  ∀ (m i:Nat) (s:Shared),n - i=m→i≤n→Stt i s→(∀ b o,b∉D :: wr→s₀.heap.get? b=some o→s.heap.get? b=some o)→s.heap.DictOfH (CP (aU P w)) D (kvs.take i) →
   (∀ s',Moved (D :: wr) G s s'→s'.heap.DictOfH (CP (aU P w)) D kvs→R (.ok (.ret res)) s') →
   codeAny (model P w) A (.builtin "dict.update.loop" ⟨[.ref D,.ref I,rawInt i,res],[]⟩) R s:=by
 have hDw:D∉wr:=fun z=>hD (W.sub _ z)
 have sub:∀ b∈wr,b∈D :: wr:=fun b z=>AJ _ z
 have moved:∀ {s s':Shared} {i:Nat},Moved wr G s s'→s.heap.DictOfH (CP (aU P w)) D (kvs.take i)→s'.heap.DictOfH (CP (aU P w)) D (kvs.take i):=fun mv ⟨o,es,ep,ho,h2,h3,h4,h5,h6⟩=>⟨o,es,ep,mv.heap D _ hDw ho,h2,h3,h4,fun x hx=>by
  obtain⟨o,its,n,e,r⟩:=h5 x hx
  exact⟨o,its,n,mv.heap _ _ (fun z=>(hk x (CQ hx)).1 (sub _ z)) e,r⟩,h6⟩
 intro m
 induction m with
 | zero =>
  intro i s e1 e2 st kp hS hR
  obtain rfl:i=n:=by omega
  refine By fU ?_
  rw[Bq cP _]
  show wpAny _ A.in1 (pyNext (.ref I) >>= _) _ _ s
  refine AD (W.done s _ _ st fun s' mv=>?_)
  show wpAny _ A.in1 (Builtin.Dict.addKeywords D [] >>= _) _ _ s'
  refine AD (AN ?_)
  have:=moved mv hS
  rw[AG (by omega)] at this
  exact AN (hR s' (mv.mono sub) this)
 | succ m ih =>
  intro i s e1 e2 st kp hS hR
  have lt:i<n:=by omega
  refine By fU ?_
  rw[Bq cP _]
  show wpAny _ A.in1 (pyNext (.ref I) >>= _) _ _ s
  refine AD (W.item i s _ _ lt st fun v s' pv st' mv=>?_)
  obtain⟨a,b,k,x,ob,c,rfl,ha,hg,hc,hd,hi⟩:=hv i v pv
  have hS1:=moved mv hS
  have hg1:s'.heap.get? a=some ob:=mv.heap a ob (fun z=>ha (sub a z)) (kp a ob ha hg)
  have hT:s'.TypeIs (.ref a) "tuple":=⟨ob,hg1,hc⟩
  refine AD (Br (AD (wpAny_tryCatch ?_)))
  unfold Builtin.Dict.pairItems
  refine AD (Ed hT ?_)
  rw[if_pos (by decide)]
  refine AD (Fd hg1 hd (AN ?_))
  show wpAny _ _ (holding [.ref b,x] (dictSet D (.ref b) x)) _ _ s'
  obtain⟨kb,ki⟩:=hk _ (AI hi)
  have hb:(CP (aU P w)).is s'.heap k b:=by
   obtain⟨o,its,n,e,r⟩:=ki
   exact⟨o,its,n,mv.heap _ _ (fun z=>kb (sub _ z)) (kp _ _ kb e),r⟩
  refine Br (wpAny_dictSet_heap (DM (by omega)) hb hS1 (fun h' hS2 sb=>?_) ?_)
  ·rw[storedH_new (aHD nd hi)] at hS2
   have e:kvs.take i++[(k,b,x)]=kvs.take (i+1):=by rw[Aa,hi];rfl
   rw[e] at hS2
   refine AN ⟨Cb cP _,ih (i+1) _ (by omega) lt (W.frame _ s' _ _ st' (FO _ _) fun b hb o e=>?_) (fun b o hb e=>?_) hS2 fun s2 mv2 hS4=>?_⟩
   ·rw[sb.2 b (fun z:b=D=>hD (by rw[← z];exact hb))]
    exact e
   ·rw[sb.2 b (fun z:b=D=>hb (by rw[z];exact AO))]
    exact mv.heap b o (fun z=>hb (sub b z)) (kp b o hb e)
   ·refine hR s2 (Moved.trans W.gtrans ((mv.mono sub).then_heap (FO _ _) fun b o hb e=>?_) mv2) hS4
    rw[sb.2 b (fun z:b=D=>hb (by rw[z];exact AO))]
    exact e
  ·rw[AR]
   omega
end
section
variable{P:Program}{w:World}{A:Around}{E:Value→Shared→Prop}{s:Shared}
theorem xD{l:Addr}{its:List Value}{kvs:List (List Key×Addr×Value)}{Q:Value→Shared→Prop}(hh:A.handled=none)(hu:A.units+20<cLine)(hl:PlainL s.heap l its.toArray)(hn:its.length=kvs.length)(hz:its.length≤Am)(nd:(kvs.map (·.1)).Nodup)
 (hk:∀ x∈kvs,(CP (aU P w)).is s.heap x.1 x.2.1)
 (hv:∀ (i:Nat) (v:Value),its[i]?=some v→∃ (a b:Addr) (k:List Key) (x:Value) (ob:Obj) (c:Nat),v=.ref a∧s.heap.get? a=some ob∧ob.cls=.type "tuple"∧ob.data=.seq #[.ref b,x] c∧kvs[i]?=some (k,b,x))
 (h:∀ (h':Heap) (tk:Nat),h'.DictOfH (CP (aU P w)) s.heap.objs.size kvs→(∀ b o,s.heap.get? b=some o→h'.get? b=some o)→Q (.ref s.heap.objs.size) { s with heap:=h',toks:=tk }) :
  wpAny (model P w) A (call (.type "dict") [.ref l]) Q E s:=by
 refine Fe (Q₁:=fun (obj:Value) (s₁:Shared)=>obj=Al s.heap.objs.size∧s₁={ s with heap:=s.heap.push { cls:=.type "dict",data:=.dict #[] } }) F.kt_called_dict (F.kt_typeCall_dict_1 _) F.entry_dict_init (kt_code_dict_new _ ⟨rfl,rfl⟩) ?_
 rintro obj s₁ ⟨rfl,rfl⟩
 have hnew:(s.heap.push { cls:=.type "dict",data:=.dict #[] }).DictOfH (CP (aU P w)) s.heap.objs.size []:=⟨_,#[],_,AZ _ rfl,⟨rfl,rfl,rfl⟩,rfl,rfl,(fun _ m=>nomatch m),.nil⟩
 have hty:({ s with heap:=s.heap.push { cls:=.type "dict",data:=.dict #[] } }:Shared).TypeIs (.ref s.heap.objs.size) "dict":=⟨_,AZ _ rfl,rfl⟩
 obtain⟨⟨oc,od,oda,osl⟩,nl,hol,hcl,hod,hdl⟩:=id hl
 simp only at hcl hod hdl
 subst hcl hod hdl
 have lS:l<s.heap.objs.size:=AW hol
 have hol1:=AF (h:=s.heap) { cls:=.type "dict",data:=.dict #[] } hol
 refine⟨hty,F.args_dict_init_2 _ _,?_⟩
 unfold Builtin.«dict.__init__»
 refine AD ?_
 unfold Builtin.Dict.selfAndRest
 refine AD (Ek hty ?_)
 show wpAny _ _ (pure (s.heap.objs.size,[Al l])) _ _ _
 refine AN ?_
 show wpAny _ _ (Cs "dict.__init__" s.heap.objs.size (.ref l) [] .none) _ _ _
 unfold Cs
 refine AD (Ed (T:="list") ⟨_,hol1,rfl⟩ ?_)
 rw[if_pos (by decide)]
 refine AD (qN (by simp[hh]) hol1 fun h1 t1 k1=>?_)
 show wpAny _ _ (rule _ >>= _) _ _ _
 refine AD (FL ?_)
 have hol2:=k1 _ _ hol1
 have hl2:h1.IsList l its.toArray:=⟨_,hol2,rfl,nl,rfl⟩
 refine AD (Ct (s:={ s with heap:=h1,toks:=t1 }) hl2 ?_)
 have sz1:s.heap.objs.size<h1.objs.size:=by
  obtain⟨o,es,ep,ho,_⟩:=hnew
  exact AW (k1 _ _ ho)
 have nI:l≠h1.objs.size:=Ad (AW hol2)
 have nD:s.heap.objs.size∉[h1.objs.size,l]:=by
  simp only[Ac,AS,Bg,or_false,not_or]
  exact⟨Ad sz1,Dk lS⟩
 refine AN ⟨Cb cP _,?_⟩
 have hh2:A.in1.in1.handled=none:=by simp[hh]
 have out:∀ {b:Addr} {o:Obj},s.heap.get? b=some o→b∉[s.heap.objs.size,h1.objs.size]:=fun {b o} e=>by
  have la:=AW e
  simp only[Ac,AS,Bg,or_false,not_or]
  exact⟨Ad la,Ad (Dl la sz1)⟩
 refine aGX ((El hh2 _ l nI its.toArray).toS) ?_ s.heap.objs.size nD .none kvs (by rw[AK,hn]) (by rw[AK];exact hz) nd { s with heap:=h1.push { cls:=.type "list_iterator",data:=.fields #[.ref l,.int 0 0] },toks:=t1 } (fun x m=>?_) (fun i v pv=>?_) (its.toArray.size - 0) 0 _ (by omega) (BN _)
  ⟨⟨_,AZ _ rfl,rfl,rfl⟩,(hl2.push _)⟩ (fun _ _ _ e=>e) ?_ ?_
 ·show A.units+1+4<_
  omega
 ·obtain⟨o,its,n,e,r⟩:=hk x m
  exact⟨out e,o,its,n,AF _ (k1 _ _ (AF _ e)),r⟩
 ·obtain⟨a,b,k,x,ob,c,rfl,hg,hc,hd,hi⟩:=hv i v (by simpa using pv)
  exact⟨a,b,k,x,ob,c,rfl,out hg,AF _ (k1 _ _ (AF _ hg)),hc,hd,hi⟩
 ·obtain⟨o,es,ep,ho,h2,h3,h4,h5,h6⟩:=hnew
  exact⟨o,es,ep,AF _ (k1 _ _ ho),h2,h3,h4,(fun _ m=>nomatch m),h6⟩
 ·intro s3 mv hS3
  obtain⟨h3,g3,d3,t3,o3⟩:=s3
  have e1:g3=s.gens:=mv.gens
  have e2:d3=s.drawn:=mv.drawn
  have e3:o3=s.os:=mv.os
  subst e1 e2 e3
  refine⟨rfl,h h3 t3 hS3 fun b o e=>?_⟩
  exact mv.heap b o (out e) (AF _ (k1 _ _ (AF _ e)))
end
def hU(H:Hp)(ys:List V)(kvs:List (List Key×V)):Prop:=Paired (fun (y:V) (kv:List Key×V)=>∃ a b,y=.ref a∧H a=some (.tup [.ref b,kv.2])∧H b=some (.tup (kv.1.map kV))) ys kvs
theorem hU.nil(H:Hp):hU H [] []:=CL
theorem hU.len{H:Hp}{ys:List V}{kvs:List (List Key×V)}(h:hU H ys kvs):ys.length=kvs.length:=Ci h
theorem hU.same{H H':Hp}(S:aH H H'):∀ {ys:List V} {kvs:List (List Key×V)},hU H ys kvs→hU H' ys kvs
 | _,_,CL=>CL
 | _,_,Cc ⟨a,b,e,o,o'⟩ t=>Cc ⟨a,b,e,S _ _ o,S _ _ o'⟩ (hU.same S t)
section
variable{X:Cx}
theorem oQ{pins:List (Addr×Obj)}{σ:St}{H:Hp}{s:Shared}(I:Inv X pins σ H s):∀ {ys:List V} {kvs:List (List Key×V)} {its:List Value},hU H ys kvs→bD ys its →
  ∃ vk:List (List Key×Addr×Value),KT H kvs vk∧its.length=vk.length∧(∀ x∈vk,(CP (aU X.prog X.w)).is s.heap x.1 x.2.1)∧∀ (i:Nat) (v:Value),its[i]?=some v→∃ (a b:Addr) (k:List Key) (x:Value) (ob:Obj) (c:Nat),v=.ref a∧s.heap.get? a=some ob∧ob.cls=.type "tuple"∧ob.data=.seq #[.ref b,x] c∧vk[i]?=some (k,b,x)
 | _,_,_,CL,CL=>⟨[],CL,rfl,(fun _ m=>nomatch m),fun i v e=>by simp at e⟩
 | _,(k,v0) :: kvs,u :: its,Cc ⟨a,b,e,o,o'⟩ t,Cc r rs=>by
  obtain⟨vk,h1,h2,h3,h4⟩:=oQ I t rs
  subst e
  cases r
  obtain⟨tis,rt,⟨ob,g,hc,c,hd⟩,_⟩:=I.tuple (SqT.of o)
  obtain⟨ku,xu,rfl,rk,rx⟩:=bD.two rt
  cases (show ku=Al b from rk)
  refine⟨(k,b,xu) :: vk,Cc ⟨rfl,o',rx⟩ h1,by simp[h2],fun x m=>?_,fun i v e=>?_⟩
  ·rcases Ac.mp m with rfl | m
   ·exact rV I.hok o'
   ·exact h3 x m
  ·cases i with
   | zero =>
    simp at e
    subst e
    exact⟨a,b,k,xu,ob,c,rfl,g,hc,hd,rfl⟩
   | succ i =>
    obtain⟨a',b',k',x',ob',c',q⟩:=h4 i v (by simpa using e)
    exact⟨a',b',k',x',ob',c',by simpa using q⟩
theorem kB(hc:X.calm=true)(hu:X.A.units+64<cLine):eP X (.type "dict") (fun xs H Q=>∃ (p:Addr) (ys:List V) (kvs:List (List Key×V)),xs=[.ref p]∧SqL X.K H p ys∧hU H ys kvs∧kvs.length≤1000∧(kvs.map (·.1)).Nodup∧∀ l,H l=none→Q (.ref l) (upd H l (.dT kvs))):=by
 intro pins s σ H xs us Q I r h
 obtain⟨p,ys,kvs,rfl,hq,hp,hn,nd,q⟩:=h
 obtain⟨u,rfl,ru⟩:=bD.one r
 cases ru
 obtain⟨its,rv,pl,hz⟩:=I.list hq
 obtain⟨vk,kv,el,hk,hv⟩:=oQ I hp rv
 have big:(1000:Nat)≤Am:=by decide
 have l1:kvs.length=vk.length:=Ci kv
 have ek:vk.map (·.1)=kvs.map (·.1):=by
  clear hk hv el hn nd l1 hp q
  induction kv with
  | nil=>rfl
  | cons a r ih=>rw[AU,AU,ih,a.1]
 refine xD (kvs:=vk) (I.ok.hd hc) (by omega) pl el (by omega) (by rw[ek];exact nd) hk hv fun h' tk hD hk'=>?_
 have fr:=I.hok.fresh (AL _)
 obtain⟨o,es,ep,g1,g2,g3,g4,g5,g6⟩:=hD
 refine⟨.ref s.heap.objs.size,_,I.laid (t':=tk) hk' (AL _) (show bS X.prog X.w _ h' _ (.dT kvs) from⟨by omega,?_,vk,kv.keeps fun b ys e=>aH.upd fr _ _ e,o,es,ep,g1,g2,g3,g4,g6⟩),rfl,q _ fr⟩
 have b:=I.big
 exact beq_eq_false_iff_ne.mpr (Dk b)
theorem aVN:PIp X .Mult (fun x y H Q=>∃ i j,x=.int i∧y=.int j∧IntMulOk i j∧Q (.int (i*j)) H):=by
 intro pins s σ H x y v u Q I r1 r2 h
 obtain⟨i,j,e1,e2,hm,q⟩:=h
 subst e1 e2
 obtain⟨t,rfl⟩:=r1
 obtain⟨t',rfl⟩:=r2
 exact imul_int ⟨.int (i*j),H,I.tok _,⟨_,rfl⟩,q⟩ hm
theorem mZ{K:AE}(h:X.K=K):eP X (.type "tuple") (fun xs H Q=>∃ p ys,xs=[.ref p]∧((SqL K H p ys∧∀ l,H l=none→Q (.ref l) (upd H l (.tup ys)))∨(SqT K H p ys∧Q (.ref p) H))):=by
 subst h
 exact jI
end
end L2
namespace L2
open PySem PySem.Spec PyProof.Rows
section
variable{X:Cx}{K:AE}
theorem vG{a b:TS}{D:Ends}{σ:St}{H:Hp}(h:∀ u:TS,(∀ D' σ' H',b D' σ' H'→u D' σ' H')→iL a u D σ H):iL a b D σ H:=h b fun _ _ _ x=>x
theorem aMH{a1 a2 b:TS}{D:Ends}{σ:St}{H:Hp}(h:∀ u:TS,(∀ D' σ' H',b D' σ' H'→u D' σ' H')→iL a1 (iL a2 u) D σ H):iL a1 (iL a2 b) D σ H:=h b fun _ _ _ x=>x
theorem aMG{a1 a2 a3 b:TS}{D:Ends}{σ:St}{H:Hp}(h:∀ u:TS,(∀ D' σ' H',b D' σ' H'→u D' σ' H')→iL a1 (iL a2 (iL a3 u)) D σ H):iL a1 (iL a2 (iL a3 b)) D σ H:=h b fun _ _ _ x=>x
theorem aMF{a1 a2 a3 a4 b:TS}{D:Ends}{σ:St}{H:Hp}(h:∀ u:TS,(∀ D' σ' H',b D' σ' H'→u D' σ' H')→iL a1 (iL a2 (iL a3 (iL a4 u))) D σ H):iL a1 (iL a2 (iL a3 (iL a4 b))) D σ H:=h b fun _ _ _ x=>x
end
end L2
namespace L2
open PySem PySem.Spec PyProof.Rows
def CX2(P:Program)(w:World):CXT:=fun outer H s E e s'=>∃ (ea:Addr) (cls a0:Value) (B:Heap) (H':Hp),e=.ref ea∧s'.os=s.os∧AllBare s'.gens∧Un (frs outer) [] H H' s.heap s'.heap∧HOk P w H' s'.heap ∧
 EK B outer ea cls a0 s'.heap∧(∀ b o o',s.heap.get? b=some o→s'.heap.get? b=some o'→b∉frs outer→B.get? b=some o')∧(∀ b o',H' b≠none→s'.heap.get? b=some o'→B.get? b=some o')∧E cls none H'
section
variable{X:Cx}{pins:List (Addr×Obj)}{σ:St}{H H':Hp}{s s':Shared}{B h2:Heap}{ea:Addr}{cls a0:Value}
theorem aOH(I:Inv X pins σ H s)(u:Un (frs X.stack) [] H H' s.heap s'.heap)(hB:∀ b o o',s.heap.get? b=some o→s'.heap.get? b=some o'→b∉frs X.stack→B.get? b=some o')
 (k:B.StaysIn h2)(us:s'.heap.UpToSlots h2):Un (frs X.stack) [] H H' s.heap h2 where
 keep:=fun b o e n hb hx=>k b o (hB b o o e (u.keep b o e n hb hx) hb)
 slot:=fun b o e n hb hx=>by
  obtain⟨sl,e1⟩:=u.slot b o e n hb hx
  obtain⟨_,o1,e2,hd⟩:=I.stack.mem hb
  rw[e] at e2
  cases e2
  obtain⟨sl',e3⟩:=us b _ e1 hd
  exact⟨sl',e3⟩
 free:=u.free
 there:=fun b o e hx=>by
  obtain⟨o',e1⟩:=u.there b o e hx
  by_cases hb:b∈frs X.stack
  ·obtain⟨_,o1,e2,hd⟩:=I.stack.mem hb
   rw[e] at e2
   cases e2
   obtain⟨sl,e3⟩:=u.slot b o e (I.stkFree b hb) hb hx
   obtain⟨sl',e4⟩:=us b _ e3 hd
   exact⟨_,e4⟩
  ·exact⟨o',k b o' (hB b o o' e e1 hb)⟩
 tups:=u.tups
 frzs:=u.frzs
 tbls:=u.tbls
theorem aIU{P:Program}{w:World}(ok:HOk P w H' s'.heap)(hT:∀ b o',H' b≠none→s'.heap.get? b=some o'→B.get? b=some o')(k:B.StaysIn h2):HOk P w H' h2:=fun a o e =>
 (ok a o e).stay (fun b v hb q=>k b v (hT b v (by
  rcases hb with rfl | hb
  ·rw[e];simp
  ·rw[hb];simp) q)) (fun _ q=>q) fun _ _ q=>q
theorem aIT(I:Inv X pins σ H s)(os:s'.os=s.os)(bare:AllBare s'.gens)(u:Un (frs X.stack) [] H H' s.heap s'.heap)(ok:HOk X.prog X.w H' s'.heap)(hB:∀ b o o',s.heap.get? b=some o→s'.heap.get? b=some o'→b∉frs X.stack→B.get? b=some o')
 (hT:∀ b o',H' b≠none→s'.heap.get? b=some o'→B.get? b=some o')(k:B.StaysIn h2)(us:s'.heap.UpToSlots h2):Inv X pins σ H' { s' with heap:=h2 } :=
 I.call' (s':={ s' with heap:=h2 }) (ch:=[]) os (aOH I u hB k us) (aIU ok hT k) bare fun b z=>absurd z (by simp)
end
theorem bS.has{P:Program}{w:World}{H:Hp}{h:Heap}{a:Addr}{o:HO}(x:bS P w H h a o):∃ u,h.get? a=some u:=by
 cases o with
 | lst xs=>obtain⟨_,_,_,_,e⟩:=x;exact⟨_,e⟩
 | tup xs=>obtain⟨_,_,_,ob,e,_⟩:=x;exact⟨_,e⟩
 | dK kvs=>obtain⟨_,_,_,_,o,_,_,e,_⟩:=x;exact⟨_,e⟩
 | dT kvs=>obtain⟨_,_,_,_,o,_,_,e,_⟩:=x;exact⟨_,e⟩
 | set S n=>obtain⟨o,_,_,_,e,_⟩:=x;exact⟨_,e⟩
 | ins C dx fs=>obtain⟨_,_,_,e,_⟩:=x;exact⟨_,e⟩
 | own y=>obtain⟨_,e⟩:=x;exact⟨_,e⟩
 | xd fs=>obtain⟨_,⟨_,_,_,e,_⟩,_⟩:=x;exact⟨_,e⟩
 | rng lo hi=>obtain⟨_,_,_,e⟩:=x;exact⟨_,e⟩
 | frz ob u=>obtain⟨e,_⟩:=x;exact⟨_,e⟩
 | tbl ps=>exact⟨_,show h.get? a=some _ from x⟩
 | met f y=>exact⟨_,show h.get? a=some _ from x⟩
 | ext φ=>obtain⟨_,⟨_,e⟩,_⟩:=x;exact⟨_,e⟩
theorem HOk.has{P:Program}{w:World}{H:Hp}{h:Heap}{a:Addr}(x:HOk P w H h)(e:H a≠none):∃ u,h.get? a=some u:=by
 cases q:H a with
 | none=>exact absurd q e
 | some o=>exact (x a o q).has
section
variable{P:Program}{w:World}{K:AE}{mg:Str→Option Value}{base:Heap}{N:List Str}{qual:Str}{scope:Scope}{f:Addr}{cd:Value}{A:Around}{outer:List Env}{s:Shared}{H:Hp}{E:XK}
theorem aIS{pins:List (Addr×Obj)}{σ:St}{H1 H':Hp}{s1 s':Shared}{B h2:Heap}{ea:Addr}{cls a0:Value}(I:Inv (gZ (CX2 P w) P w K mg base N qual scope f cd A outer s H E) pins σ H1 s1)(os:s'.os=s1.os)(bare:AllBare s'.gens)
 (u:Un (frs (envOfC qual scope s.heap.objs.size f cd :: outer)) [] H1 H' s1.heap s'.heap)(ok:HOk P w H' s'.heap)(hB:∀ b o o',s1.heap.get? b=some o→s'.heap.get? b=some o'→b∉frs (envOfC qual scope s.heap.objs.size f cd :: outer)→B.get? b=some o')
 (hT:∀ b o',H' b≠none→s'.heap.get? b=some o'→B.get? b=some o')(fl:EK B outer ea cls a0 h2)(us:s'.heap.UpToSlots h2)(q:E cls none H'):CX2 P w outer H s E (.ref ea) { s' with heap:=h2 }:=by
 have J:=aIT (h2:=h2) I os bare u ok hB hT fl.1 us
 refine⟨ea,cls,a0,B,H',rfl,J.os,J.bare,J.base,J.hok,fl,fun b o o' e e' nb=>?_,fun b o' n e'=>?_,q⟩
 ·obtain⟨o1,e1⟩:=I.base.there b o e (fun z=>absurd z (by simp[gZ]))
  obtain⟨o2,e2⟩:=u.there b o1 e1 (by simp)
  have hb:b∉frs (envOfC qual scope s.heap.objs.size f cd :: outer):=fun z=>by
   have lt:b<s.heap.objs.size:=AW e
   have z':b∈s.heap.objs.size :: frs outer:=z
   rcases Ac.mp z' with r | r
   ·exact absurd lt (by rw[r];exact CY _)
   ·exact nb r
  have e3:=hB b o1 o2 e1 e2 hb
  have e4:=fl.1 b o2 e3
  rw[show h2.get? b=some o' from e'] at e4
  cases e4
  exact e3
 ·obtain⟨o2,e2⟩:=ok.has n
  have e3:=hT b o2 n e2
  have e4:=fl.1 b o2 e3
  rw[show h2.get? b=some o' from e'] at e4
  cases e4
  exact e3
theorem aII:kR (CX2 P w) (gZ (CX2 P w) P w K mg base N qual scope f cd A outer s H E) E:=fun pins σ H1 s1 e s' I h=>by
 obtain⟨ea,cls,a0,B,H',rfl,os,bare,u,ok,fl,hB,hT,q⟩:=h
 exact wpAny_leaves_onW (env:=envOfC qual scope s.heap.objs.size f cd) (outer:=outer) I.ok.frames rfl fl fun h2 fl2 us=>aIS I os bare u ok hB hT fl2 us q
theorem aQO{pins:List (Addr×Obj)}{σ:St}{H1:Hp}{s1:Shared}{h1:Heap}{e:Addr}{cls:Value}{args:List Value}(I:Inv (gZ (CX2 P w) P w K mg base N qual scope f cd A outer s H E) pins σ H1 s1)(hx:Heap.MadeExcOf s1.heap h1 e cls args)(q:E cls none H1) :
  (gZ (CX2 P w) P w K mg base N qual scope f cd A outer s H E).xe (.ref e) { s1 with heap:=h1 }:=by
 have S:s1.heap.FunFrames base (envOfC qual scope s.heap.objs.size f cd :: outer):=I.stack
 have hin:∀ v∈envOfC qual scope s.heap.objs.size f cd :: outer,∀ b,v.frame=some b→b∈frs (envOfC qual scope s.heap.objs.size f cd :: outer):=fun v hv b hb=>Et.mpr ⟨v,hv,hb⟩
 refine wpAny_leaves_madeW (base:=PySem.W.hideAll s1.heap (frs (envOfC qual scope s.heap.objs.size f cd :: outer))) (h:=s1.heap) (env:=envOfC qual scope s.heap.objs.size f cd) (outer:=outer) I.ok.frames rfl (fun b o z=>PySem.W.of_hideAll _ z) (PySem.W.funFrames_hide S hin) hx fun h2 t fl _ _ us=>?_
 refine aIS (s1:=s1) (s':={ s1 with heap:=h1 }) I rfl I.bare (Un.kept hx.keeps) (I.hok.kept hx.keeps) (fun b o o' e1 e2 nb=>?_) (fun b o' n e2=>?_) fl us q
 ·have e3:=hx.keeps b o e1
  rw[show h1.get? b=some o' from e2] at e3
  cases e3
  exact EY _ e1 nb
 ·obtain⟨o,e1⟩:=I.hok.has n
  have e3:=hx.keeps b o e1
  rw[show h1.get? b=some o' from e2] at e3
  cases e3
  exact EY _ e1 fun z=>n (I.stkFree b z)
end
end L2
namespace L2
open PySem PySem.Spec PyProof.Rows
abbrev aSP:List Value:=[.type "ValueError",.type "Exception",.type "BaseException",.type "object"]
structure ExcC (K:AE) (C:Addr):Prop where
 q:PySem.W.excIn K C aSP "ValueError.__new__"=true
theorem ExcC.own{K:AE}{C:Addr}{h:Heap}{x:Str}{mg:Str→Option Value}(E:ExcC K C)(X:K.In h)(hm:mg x=some (.ref C)):OwnCls x C aSP "ValueError.__new__" mg h:=by
 refine⟨hm,?_⟩
 have q:=E.q
 unfold PySem.W.excIn at q
 split at q
 ·rename_i d2 c2 l2 look
  split at q
  ·rename_i C2 tl a0 a1 a2 a3 id2 a5 em es
   have q1:=An.mp q
   have q2:=An.mp q1.1
   have q3:=An.mp q2.1
   have q4:=An.mp q3.1
   have q5:=An.mp q4.1
   obtain rfl:C2=C:=beq_iff_eq.mp q5.1
   obtain rfl:id2="ValueError.__new__":=beq_iff_eq.mp q5.2
   obtain⟨c_1,c_2,c_3,c_4,c_5,c_6,c_7,c_8,c_9,c_10,c_11⟩:=c2
   obtain rfl:c_3=.ref C2 :: tl:=em
   obtain rfl:c_11=false:=by simpa using q4.2
   obtain⟨ll⟩:=l2
   obtain rfl:ll=[a0,a1,a2,a3,some (.builtin "ValueError.__new__"),a5]:=es
   exact⟨tl,c_4,c_1,c_5,c_2,c_6,c_7,c_8,c_9,c_10,d2,a0,a1,a2,a3,a5,_,X _ _ look,.of_isNs (PySem.W.isNs_of_in X q2.2),PySem.W.nsMap_none_of_in X q2.2 (beq_iff_eq.mp q1.2),PySem.W.tail_of_in X q3.2⟩
  ·cases q
 ·cases q
def aPK(X:Cx)(E:XK):Prop:=∀ (pins:List (Addr×Obj)) (σ:St) (H:Hp) (s:Shared) (h1:Heap) (e:Addr) (cls:Value) (args:List Value),Inv X pins σ H s→Heap.MadeExcOf s.heap h1 e cls args→E cls none H→X.xe (.ref e) { s with heap:=h1 }
theorem yV{P:Program}{w:World}{K:AE}{mg:Str→Option Value}{base:Heap}{N:List Str}{qual:Str}{scope:Scope}{f:Addr}{cd:Value}{A:Around}{outer:List Env}{s:Shared}{H:Hp}{E:XK} :
  aPK (gZ (CX2 P w) P w K mg base N qual scope f cd A outer s H E) E:=fun _ _ _ _ _ _ _ _ I hx q=>aQO I hx q
section
variable{X:Cx}{C:Addr}{x:Str}{E:XK}{np cpos pos:Pos}{e:Expr}{es:List Expr}{t:TA}
def aTO(C:Addr)(E:XK)(t:TA):TS:=fun _ σ H=>t σ H fun vs H1=>vs.length≤Am∧E (.ref C) none H1
theorem aDT(hm:X.mg x=some (.ref C))(EC:ExcC X.K C)(hc:X.calm=true)(R:aPK X E)(ha:PA X (e :: es) t)(hg:Gl X x:=by rfl)(hdb:(x == ("__debug__":Str))=false:=by decide)
 (he:Ak (e :: es) X.env=(false,eval e X.env) :: Ak es X.env:=by rfl)(hpl:(backTo cpos (Ak es X.env)).any (·.1)=false:=by rfl) :
  PS X (.Raise (some (.Call (.Name x np) (e :: es) [] cpos)) none pos) (aTO C E t):=by
 intro pins s σ H D I h
 obtain⟨tl,N,nm,qn,bs,hdct,sn,sub,ab,col,dd,k0,k1,k2,k3,k5,mN,hC,hN,hni,T⟩:=(EC.own I.ok.mod.kin hm).obj
 refine wpAny_Raise_call_subT (C:=C) (N:=N) (nm:=nm) (q:=qn) (bs:=bs) (bm:=tl) (hdct:=hdct) (sn:=sn) (sub:=sub) (ab:=ab) (col:=col) (dd:=dd) (k0:=k0) (k1:=k1) (k2:=k2) (k3:=k3) (k5:=k5)
  PySem.F.excBase_ValueError (mN:=mN) (T.hasType PySem.F.excBase_ValueError.hasBase) (I.ok.hd hc) ?_ hni (nR I hg hm ⟨rfl,?_⟩ hdb)
 ·rw[he]
  show (false || (backTo cpos (Ak es X.env)).any (·.1))=false
  rw[hpl]
  rfl
 ·have g:=ha cpos pins s σ H _ I h
  rw[he] at g ⊢
  refine Calls.evalArgs_plain (thn g fun us s2 ⟨vs,H2,I2,rv,hz,q⟩=>?_)
  exact⟨rfl,by rw[← rv.length];exact hz,I2.bk _ _ hC,hN.keeps I2.bk,T.keeps I2.bk,fun h1 ea hx=>R pins σ H2 s2 h1 ea _ _ I2 hx q⟩
end
def CAt(X:Cx)(pins:List (Addr×Obj))(σ:St)(E:XK)(e:Value)(s':Shared):Prop:=∃ s1 H1,Inv X pins σ H1 s1∧CX2 X.prog X.w X.stack H1 s1 E e s'
abbrev TX:=XK→TE
def PX(X:Cx)(e:Expr)(t:TX):Prop :=
 ∀ (pins:List (Addr×Obj)) (s:Shared) (σ:St) (H:Hp) (Q:VK) (E:XK),Inv X pins σ H s→t E σ H Q→wpAny (model X.prog X.w) X.A (eval e X.env) (EP X pins σ Q) (CAt X pins σ E) s
section
variable{X:Cx}{k:Nat}{f C:Addr}{fd:Ba}{ps:List Str}{sp:Sp}{E:XK}{x m:Str}{p pos apos:Pos}{e o:Expr}{es:List Expr}{ta:TE}{t:TA}
theorem aQJ{pins:List (Addr×Obj)}{σ:St}{H:Hp}{s:Shared}{Q:VK}{us:List Value}{vs:List V}(F:FnOk X.prog X.w X.K X.mg X.base (CX2 X.prog X.w) k f fd ps sp)(hr:Room k X.A)(hb:gG X.K fd ps [])
 (I:Inv X pins σ H s)(r:bD vs us)(h:sp vs H Q E):wpAny (model X.prog X.w) X.A (call (.ref f) us) (EP X pins σ Q) (CAt X pins σ E) s:=by
 have I':Inv (X.wish (CAt X pins σ E)) pins σ H s:=I.wish _
 have hl:(us++[]).length=ps.length:=by rw[Bf,← r.length];exact F.len _ _ _ _ h
 have hb':=hb s us I.kIn hl
 rw[Bf] at hb'
 refine Dz (Co (F.run X.A X.stack s H ⟨us,[]⟩ us vs Q E hr I.env0 hb' r h) fun z s' hq=>?_)
 cases z with
 | error e=>exact⟨s,H,I,hq⟩
 | ok fl =>
  cases fl with
  | ret u=>exact I.after hq
  | next=>exact BF hq
  | brk=>exact BF hq
  | cont=>exact BF hq
end
end L2
namespace L2
open PySem PySem.Spec PyProof.Rows
structure FcX (P:Program) (w:World) (K:AE) (mg:Str→Option Value) (base:Heap) (k:Nat) (x:Str) (ps:List Str) (sp:Sp):Prop where
 ex:∃ (f:Addr) (fd:Ba),FnOk P w K mg base (CX2 P w) k f fd ps sp∧gG K fd ps []∧mg x=some (.ref f)∧Bs K (.ref f)=true
structure McX (P:Program) (w:World) (K:AE) (mg:Str→Option Value) (base:Heap) (k:Nat) (C:Addr) (m:Str) (ps:List Str) (sp:Sp):Prop where
 ex:∃ (f:Addr) (fd:Ba),FnOk P w K mg base (CX2 P w) k f fd ps sp∧gG K fd ps []∧Meth K C m f
structure IcX (P:Program) (w:World) (K:AE) (mg:Str→Option Value) (base:Heap) (k:Nat) (C:Addr) (ps:List Str) (sp:Sp):Prop where
 ex:∃ (f:Addr) (fd:Ba),FnOk P w K mg base (CX2 P w) k f fd ps sp∧gG K fd ps []∧Mk K C f
section
variable{P:Program}{w:World}{K:AE}{mg:Str→Option Value}{base:Heap}{C:Addr}{x m qual:Str}{st:Stmt}{N ps:List Str}{k:Nat}{sp sp':Sp}
theorem Fun.okX{f:Addr}{fd:Ba}(F:Fun K x qual st f fd)(S:FnScope N ps (aF st))(len:∀ vs H Q E,sp vs H Q E→vs.length=ps.length)
 (hbody:∀ (cdv:Value) (A:Around) (outer:List Env) (s:Shared) (H:Hp) (vs:List V) (Q:VK) (E:XK),Room k (A.deeper (envOfC qual (aF st) s.heap.objs.size f cdv))→sp vs H Q E →
   ∃ t,PSs (gZ (CX2 P w) P w K mg base N qual (aF st) f cdv A outer s H E) (cV st) t∧t { nx:=fun _ H'=>Q .non H',rt:=Q } (start N vs) H):FnOk P w K mg base (CX2 P w) (k+1) f fd ps sp:=by
 obtain⟨oc,od,kV,doc,pm,an,cdv,ct,osl,rfl,lk,hcd⟩:=F.ex
 exact aOG lk hcd S len fun A outer s H vs Q E hr hsp=>hbody cdv A outer s H vs Q E hr hsp
theorem DefAt.fcX(D:DefAt K mg x st ps)(S:FnScope N ps (aF st))(len:∀ vs H Q E,sp vs H Q E→vs.length=ps.length)
 (hbody:∀ (f:Addr) (cdv:Value) (A:Around) (outer:List Env) (s:Shared) (H:Hp) (vs:List V) (Q:VK) (E:XK),Room k (A.deeper (envOfC x (aF st) s.heap.objs.size f cdv))→sp vs H Q E →
   ∃ t,PSs (gZ (CX2 P w) P w K mg base N x (aF st) f cdv A outer s H E) (cV st) t∧t { nx:=fun _ H'=>Q .non H',rt:=Q } (start N vs) H):FcX P w K mg base (k+1) x ps sp:=by
 obtain⟨f,fd,F,b,mm⟩:=D.ex
 exact⟨f,fd,F.okX S len fun cdv A outer s H vs Q E hr h=>hbody f cdv A outer s H vs Q E hr h,b,mm,F.kp⟩
end
section
variable{X:Cx}{k:Nat}{C:Addr}{ps:List Str}{sp:Sp}{E:XK}{x m:Str}{p pos apos:Pos}{e o:Expr}{es:List Expr}{ta:TE}{t:TA}
theorem PA.cat{pins:List (Addr×Obj)}{σ:St}{H:Hp}{s:Shared}{Q:List V→Hp→Prop}{F:Value→Shared→Prop}(ha:PA X.nox es t)(I:Inv X pins σ H s)(h:t σ H Q):wpAny (model X.prog X.w) X.A (spliced (backTo pos (Ak es X.env))) (AP X pins σ Q) F s :=
 Az (ha pos pins s σ H Q (I.wish _) h) (fun _ _ ⟨vs,H',I',r,q⟩=>⟨vs,H',I'.unwish,r,q⟩) fun _ _ z=>BF z
theorem aXJ(F:FcX X.prog X.w X.K X.mg X.base k x ps sp)(hr:Room k X.A)(ha:PA X.nox (e :: es) t)(hg:Gl X x:=by rfl)(hdb:(x == ("__debug__":Str))=false:=by decide)
 (he:Ak (e :: es) X.env=(false,eval e X.env) :: Ak es X.env:=by rfl)(hpl:(backTo pos (Ak es X.env)).any (·.1)=false:=by rfl) :
  PX X (.Call (.Name x p) (e :: es) [] pos) (fun E=>aHL sp [] E t):=by
 intro pins s σ H Q E I h
 obtain⟨f,fd,G,b,mm,kp⟩:=F.ex
 refine CD (nR I hg mm ?_ hdb)
 refine Dc (h₀:=X.base) I.ok.mod.kin kp (thn (ha.cat I h) fun us s1 ⟨vs,H1,I1,r,q⟩=>⟨I1.kIn,?_⟩) he hpl
 simp only[Bf] at q
 exact aQJ G hr b I1 r q
abbrev TB:=XK→TS
def PB(X:Cx)(body:List Stmt)(t:TB):Prop :=
 ∀ (pins:List (Addr×Obj)) (s:Shared) (σ:St) (H:Hp) (D:Ends) (E:XK),Inv X pins σ H s→t E D σ H→wpAny (model X.prog X.w) X.A (execs body X.env) (SP X pins D) (CAt X pins σ E) s
theorem aIH{t:TX}(he:PX X e t)(hs:Ez e none pos.line X.env=pure false:=by rfl):PB X [.Expr e pos] (fun E=>aST (t E)):=by
 intro pins s σ H D E I h
 refine EW (wpAny_Expr_any (thn (he pins s σ H _ E I h) fun v s1 ⟨y,H1,I1,r1,q1⟩=>?_) I.quiet hs)
 exact Cq ⟨σ,H1,I1,q1⟩
theorem aXK{c:Expr}{a b:List Stmt}{tc:TT}{ta tb:TB}(hc:PT X.nox c tc)(ha:PB X a ta)(hb:PB X b tb):PB X [.If c a b pos] (fun E=>aPU tc (ta E) (tb E)):=by
 intro pins s σ H D E I h
 have go:wpAny (model X.prog X.w) X.A (exec (.If c a b pos) X.env) (SP X pins D) (CAt X pins σ E) s:=by
  refine wpAny_If (Az (hc pins s σ H _ (I.wish _) h) (fun d s1 ⟨H1,I1,q1⟩=>?_) fun _ _ z=>BF z)
  cases d with
  | true=>exact ha pins s1 σ H1 D E I1.unwish q1
  | false=>exact hb pins s1 σ H1 D E I1.unwish q1
 refine EW (thn go fun f s2 q=>?_)
 cases f with
 | next=>exact Cq q
 | ret v=>exact q
 | brk=>exact q
 | cont=>exact q
end
end L2
namespace L2
open PySem PySem.Spec PyProof.Rows
abbrev Cx.held (X:Cx) (ea:Addr):Cx:={ X with A:=X.A.mark (some (.ref ea)),calm:=false,xe:=fun _ _=>False }
section
variable{X:Cx}{pins:List (Addr×Obj)}{σ:St}{H H':Hp}{s s':Shared}{ea:Addr}
theorem Cx.Ok.held(ok:X.Ok)(ea:Addr):(X.held ea).Ok :=
 ⟨ok.mod,ok.kind,ok.glob,ok.blt,ok.above,ok.inj,ok.has,ok.cab,fun z=>absurd z (by simp),ok.frames,ok.stk,ok.exf,ok.bs,ok.bsz,ok.noex,ok.exfs,ok.funs,ok.frf⟩
theorem Inv.held(I:Inv X pins σ H s)(ea:Addr):Inv (X.held ea) pins σ H s:=⟨I.ok.held ea,I.os,I.bare,I.base,I.loc,I.cell,I.free,I.freeC,I.pin,I.hok,I.len⟩
theorem Inv.unheld(ok:X.Ok)(I:Inv (X.held ea) pins σ H s):Inv X pins σ H s:=⟨ok,I.os,I.bare,I.base,I.loc,I.cell,I.free,I.freeC,I.pin,I.hok,I.len⟩
theorem SP.unheld(ok:X.Ok){D:Ends}{f:Flow}(h:SP (X.held ea) pins D f s'):SP X pins D f s':=by
 cases f with
 | next=>obtain⟨σ',H',I,q⟩:=h;exact⟨σ',H',I.unheld ok,q⟩
 | brk=>obtain⟨σ',H',I,q⟩:=h;exact⟨σ',H',I.unheld ok,q⟩
 | cont=>obtain⟨σ',H',I,q⟩:=h;exact⟨σ',H',I.unheld ok,q⟩
 | ret u=>obtain⟨v,σ',H',I,r,q⟩:=h;exact⟨v,σ',H',I.unheld ok,r,q⟩
end
theorem aKH{M:Model}{B h:Heap}{l:List Env}{ea:Addr}{cls a0:Value}(fl:EK B l ea cls a0 h):DQ M h (typeOf (.ref ea)) cls:=by
 obtain⟨ob,hob,hc⟩:=fl.there
 subst hc
 exact (EZ hob).andThen .now
section
variable{X:Cx}{C:Addr}{x:Str}{np hpos pos:Pos}{body suite:List Stmt}{b₀:Stmt}{tb:TB}{ts:TS}
end
end L2
namespace L2
open PySem PySem.Spec PyProof.Rows
def aYE(a:Addr)(cls:Value)(h:Heap):Prop:=∃ o vs,h.get? a=some o∧o.cls=cls∧o.data=.fields vs
noncomputable def uG(a:Addr)(cls:Value):HO:=.ext (aYE a cls)
theorem Un.new{fs ex:List Addr}{H H':Hp}{h h':Heap}{a:Addr}{o:HO}(u:Un fs ex H H' h h')(n:H' a=none)(nn:h.get? a=none):Un fs ex H (upd H' a o) h h' where
 keep:=u.keep
 slot:=u.slot
 free:=fun b ob e nb hx=>by
  rw[aI (fun z=>by rw[z,nn] at e;cases e)]
  exact u.free b ob e nb hx
 there:=u.there
 tups:=fun b xs e=>by rw[aI (aN (u.tups b xs e) n)];exact u.tups b xs e
 frzs:=fun b ob v e=>by rw[aI (aN (u.frzs b ob v e) n)];exact u.frzs b ob v e
 tbls:=fun b ps e=>by
  obtain⟨m,q⟩:=u.tbls b ps e
  exact⟨m,by rw[aI (aN q n)];exact q⟩
theorem HOk.new{P:Program}{w:World}{H:Hp}{h:Heap}{a:Addr}{o:HO}(ok:HOk P w H h)(n:H a=none)(new:bS P w (upd H a o) h a o):HOk P w (upd H a o) h:=fun b u e=>by
 by_cases hb:b=a
 ·subst hb
  rw[aC] at e
  cases e
  exact new
 ·rw[aI hb] at e
  exact (ok b u e).stay (fun _ _ _ q=>q) (fun c q=>by rw[aI (aN q n)];exact q) fun c xs q=>by rw[aI (aN q n)];exact q
section
variable{X:Cx}{pins:List (Addr×Obj)}{σ:St}{H H':Hp}{s s':Shared}{B h2:Heap}{ea:Addr}{cls a0:Value}
theorem aOI(I:Inv X pins σ H s)(os:s'.os=s.os)(bare:AllBare s'.gens)(u:Un (frs X.stack) [] H H' s.heap s'.heap)(ok:HOk X.prog X.w H' s'.heap)(hB:∀ b o o',s.heap.get? b=some o→s'.heap.get? b=some o'→b∉frs X.stack→B.get? b=some o')
 (hT:∀ b o',H' b≠none→s'.heap.get? b=some o'→B.get? b=some o')(fl:EK B X.stack ea cls a0 h2)(us:s'.heap.UpToSlots h2):H' ea=none∧Inv X pins σ (upd H' ea (uG ea cls)) { s' with heap:=h2 }:=by
 obtain⟨oe,ws,he,hc,hd,_⟩:=fl.first
 have u2:=aOH I u hB fl.1 us
 have k2:=aIU (h2:=h2) ok hT fl.1
 have n:H' ea=none:=by
  cases q:H' ea with
  | none=>rfl
  | some o =>
   have q':H' ea≠none:=by rw[q];simp
   obtain⟨o2,e2⟩:=ok.has q'
   have:=hT ea o2 q' e2
   rw[fl.2.1] at this
   cases this
 have nn:s.heap.get? ea=none:=by
  cases q:s.heap.get? ea with
  | none=>rfl
  | some o =>
   obtain⟨o2,e2⟩:=u.there ea o q (by simp)
   by_cases hb:ea∈frs X.stack
   ·obtain⟨_,o1,e1,nd⟩:=fl.2.2.1.mem hb
    rw[he] at e1
    cases e1
    exact absurd hd (nd ws)
   ·have:=hB ea o o2 q e2 hb
    rw[fl.2.1] at this
    cases this
 refine⟨n,I.call' (s':={ s' with heap:=h2 }) (ch:=[]) os (u2.new n nn) (k2.new n ?_) bare fun b z=>absurd z (by simp)⟩
 exact⟨⟨oe,ws,he,hc,hd⟩,⟨oe,he⟩,fun h1 h3 ⟨o,vs,e1,e2,e3⟩ k=>⟨o,vs,k o e1,e2,e3⟩⟩
theorem nQ{M:Model}{A:Around}{E:Value→Shared→Prop}{i:Nat}{n:Str}{pos:Pos}{Q:Unit→Shared→Prop}(I:Inv X pins σ H s)(hN:X.N.Nodup)(hi:X.N[i]?=some n)(hk:X.env.scope.names.lookup n=some .local)
 (h:∀ s',Inv X pins (σ.set i none) H s'→Q () s'):wpAny M A (do bindName X.env n .none;unbindBehindTheSuite X.env n pos) Q E s:=by
 obtain⟨m,hn,hl⟩:=id I.loc
 have hcls:(X.env.scope.kind == .class || (X.env.scope.kind == .module && X.env.locals != X.env.globals))=false:=by rw[I.ok.kind];rfl
 have hiσ:i<σ.length:=by rw[I.len];exact (AC.mp hi).1
 obtain⟨oL,_,_,hoL,_⟩:=id hn
 have neL:∀ b o,X.s₀.heap.get? b=some o→b≠X.env.locals:=fun b o e=>Ad (Ae (AW e) I.ok.above)
 refine PySem.wpAny_nameGoes_keeps hk hn hcls fun h' v hn' hs=>h _ ?_
 refine⟨I.ok,I.os,I.bare,⟨fun b o e nb hb hx=>?_,fun b o e nb hb hx=>?_,I.base.free,fun b o e hx=>?_,I.base.tups,I.base.frzs,I.base.tbls⟩,⟨_,hn',fun j y v' e1 e2 e3=>?_⟩,fun y c e=>?_,I.free,I.freeC,fun p hp=>?_,fun b ob e=>?_,by simpa using I.len⟩
 ·exact (hs.2 b (neL b o e)).trans (I.base.keep b o e nb hb hx)
 ·obtain⟨sl,e1⟩:=I.base.slot b o e nb hb hx
  exact⟨sl,(hs.2 b (neL b o e)).trans e1⟩
 ·obtain⟨o',e1⟩:=I.base.there b o e hx
  exact⟨o',(hs.2 b (neL b o e)).trans e1⟩
 ·have hj:j≠i:=fun z=>by
   subst z
   rw[EJ hiσ] at e2
   cases e2
  rw[DW (Ne.symm hj)] at e2
  obtain⟨u',r',q⟩:=hl j y v' e1 e2 e3
  refine⟨u',r',?_⟩
  rcases q with ⟨k,e⟩ | ⟨k,c,e,z⟩
  ·refine .inl ⟨k,?_⟩
   have ny:y≠n:=fun z=>hj (mJ hN e1 (z▸hi))
   show (if y=n then v else m y)=some u'
   rw[if_neg ny]
   exact e
  ·exact .inr ⟨k,c,e,z.sameBut hs (I.cne y c e)⟩
 ·obtain⟨w',z⟩:=I.cell y c e
  exact⟨w',z.sameBut hs (I.cne y c e)⟩
 ·obtain⟨e,nb,ne,nf,d⟩:=I.pin p hp
  exact⟨(hs.2 p.1 ne).trans e,nb,ne,nf,d⟩
 ·refine (I.hok b ob e).stay (fun c w' hc q=>(hs.2 c ?_).trans q) (fun _ q=>q) fun _ _ q=>q
  rintro rfl
  rcases hc with rfl | hc
  ·rw[I.free] at e;cases e
  ·rw[I.free] at hc;cases hc
end
section
variable{X:Cx}{C:Addr}{x n:Str}{np hpos pos:Pos}{body suite:List Stmt}{b₀:Stmt}{tb:TB}{ts:TS}{i:Nat}
noncomputable def Ends.gone(D:Ends)(i:Nat):Ends:={ nx:=fun σ H=>D.nx (σ.set i none) H,rt:=D.rt,bk:=fun σ H=>D.bk (σ.set i none) H,ct:=fun σ H=>D.ct (σ.set i none) H }
def aWO(K:AE)(C:Addr)(i:Nat)(tb:TB)(ts:TS):TS:=fun D σ H=>tb (fun cls _ H1=>Db K cls (.ref C)=some true∧∀ ea,H1 ea=none→ts (D.gone i) (σ.set i (some (.ref ea))) (upd H1 ea (uG ea cls))) D σ H
theorem aQR(hN:X.N.Nodup)(hi:X.N[i]?=some n)(hk:X.env.scope.names.lookup n=some .local)(hm:X.mg x=some (.ref C))(hb:PB X body tb)(hs:∀ ea,PSs (X.held ea) (b₀ :: suite) ts)(hg:Gl X x:=by rfl)(hdb:(x == ("__debug__":Str))=false:=by decide)
 (hst:X.stack=X.env :: X.outer:=by rfl)(hf:X.env.frame=some X.env.locals:=by rfl) :
  PS X (.Try body [.ExceptHandler (some (.Name x np)) (some n) (b₀ :: suite) hpos] [] [] pos) (aWO X.K C i tb ts):=by
 intro pins s σ H D I h
 refine wpAny_Try_except (Az (hb pins s σ H D _ I h) (fun f s1 q=>?_) fun e s1 q=>?_)
 ·cases f with
  | next=>exact Cq q
  | ret v=>exact q
  | brk=>exact q
  | cont=>exact q
 ·obtain⟨s0,H0,I0,ea,cls,a0,B,H',rfl,os,bare,u,ok,fl,hB,hT,em,q⟩:=q
  have hfr:X.A.frames=some (X.env :: X.outer):=hst▸I.ok.frames
  have fl':EK B (X.env :: X.outer) ea cls a0 s1.heap:=hst▸fl
  refine wpAny_looks_onW hfr hf fl' fun h4 held us4=>?_
  refine wpAny_landsW held fun h5 fl5 us5=>?_
  have J5:=aIT I0 os bare u ok hB hT fl5.1 (us4.trans us5)
  refine wpAny_handleBy_cons (codeAny_handlers_test (nR (X:=X.held ea) (J5.held ea) hg hm ?_ hdb)) (by intro z;cases z)
  refine (PySem.W.exm_one J5.kIn (aKH fl5) em).here ?_
  refine codeAny_handlers_suite_as ?_
  refine lands_againW fl5 fun h6 fl6 us6=>?_
  obtain⟨n6,J6⟩:=aOI I0 os bare u ok hB hT (hst.symm▸fl6) ((us4.trans us5).trans us6)
  refine pP (X:=X.held ea) (i:=i) (v:=.ref ea) (J6.held ea) hN hi (.inl hk) rfl (fun s7 I7=>?_) (.inr hk)
  refine Az (hs ea pins s7 _ _ (D.gone i) I7 (q ea n6)) (fun f s8 z=>?_) fun _ _ z=>BF z
  have z':=z.unheld (X:=X) I.ok
  cases f with
  | next =>
   obtain⟨σ',H2,I2,q2⟩:=z'
   exact nQ I2 hN hi hk fun s9 I9=>⟨_,H2,I9,q2⟩
  | brk =>
   obtain⟨σ',H2,I2,q2⟩:=z'
   exact nQ I2 hN hi hk fun s9 I9=>⟨_,H2,I9,q2⟩
  | cont =>
   obtain⟨σ',H2,I2,q2⟩:=z'
   exact nQ I2 hN hi hk fun s9 I9=>⟨_,H2,I9,q2⟩
  | ret v =>
   obtain⟨y,σ',H2,I2,r2,q2⟩:=z'
   exact nQ I2 hN hi hk fun s9 I9=>⟨y,_,H2,I9,r2,q2⟩
end
end L2
namespace L2
open PySem PySem.Spec PyProof.Rows
section
open PySem.W PySem.Calls PySem.Builtin PySem.Builtin.ObjectAttr PySem.Builtin.Getset_descriptor
variable{prog:Program}{w:World}{A:Around}{E:Value→Shared→Prop}{s:Shared}{K:AE}{x C:Addr}
theorem aGF{M:Model}{h:Heap}{a g:Value}{name:Str}(X:K.In h)(ha:findIn K (.ref C) name=some (some a))(hg:specialIn K a "__get__"=some (some g))(ht:takesIn K a=some true) :
  Looks M h (find (.ref x) (.ref C) name) (.bind g a) :=
 (looks_findIn (M:=M) X ha).andThen ((show Looks M h (getOf (some a)) (some g) from looks_specialIn X hg).andThen
  ((show Looks M h (dataDescriptor? (some a) (some g)) (some (g,a)) from (looks_takesIn (M:=M) X ht).andThen .now).andThen (Looks.tag .now)))
theorem aOZ{R:Result→Shared→Prop}{tp:Value}(X:K.In s.heap)(L0:Looks (model prog w) s.heap (typeOf (.ref x)) (.ref C))(hm:mroIn K C (.type "object")=some true)(h:R (.ok (.ret (.ref C))) s) :
  codeAny (model prog w) A (.call (.builtin "getset_descriptor.__get__") ⟨[.builtin "object.__class__",.ref x,tp],[]⟩) R s:=by
 have L1:=looks_mroIn (M:=model prog w) X hm
 obtain⟨h2,g2,d2,t2,o2⟩:=s
 refine Ev KF.slot_gs.plain KF.entry_gs (KF.slot_gs.check _ _ _ _ _ _ _ _ KF.type_class (KF.args_gs _ _ _) (?_))
 unfold Builtin.«getset_descriptor.__get__»
 unfold descrGet;rw[dga_obj];refine AD (AN ?_)
 unfold descrGetter descrCheckInstance;unfold descrNameAndClass isInstance
 simp only[KF.owner_class]
 repeat lk
 refine⟨Code.quiet_builtin _ (by decide +kernel),(By KF.entry_class ?_)⟩
 unfold Builtin.«object.__class__»;unfold shownTypeOf
 repeat lk
 exact h
end
structure ExA (K:AE) (C:Addr):Prop where
 ex:ExcC K C
 em:Db K (.ref C) (.ref C)=some true
structure ExI (K:AE) (C:Addr):Prop extends ExA K C where
 pg:DO K C "__class__"=true
 ic:InstC K C
end L2
namespace L2
open PySem PySem.Spec PyProof.Rows
section
open PySem.W PySem.Calls PySem.Builtin PySem.Builtin.ObjectAttr PySem.Builtin.Getset_descriptor
variable{prog:Program}{w:World}{A:Around}{E:Value→Shared→Prop}{s:Shared}{K:AE}{x C:Addr}
theorem aCH{Q:Option Value→Shared→Prop}(X:K.In s.heap)(L0:Looks (model prog w) s.heap (typeOf (.ref x)) (.ref C))(hga:findIn K (.ref C) "__getattribute__"=some (some (.builtin "BaseException.__getattribute__")))(hgt:findIn K (.ref C) "__getattr__"=some none)
 (hB:mroIn K C (.type "BaseException")=some true)(I:InstC K C)(h:Q (some (.ref C)) { s with toks:=s.toks+1 }):wpAny (model prog w) A (getAttr? (.ref x) "__class__") Q E s:=by
 have LG:=looks_findIn (M:=model prog w) X hga
 have LF:=aGF (M:=model prog w) (x:=x) X I.ha I.hn I.htk
 have LH:=looks_findIn (M:=model prog w) X hgt
 have LB:=looks_mroIn (M:=model prog w) X hB
 have X':=X
 obtain⟨h2,g2,d2,t2,o2⟩:=s
 unfold getAttr?;unfold getAttrBy?;unfold getAttrBy
 refine AD (wpAny_mkText (AD (Df (Br (AD (L0.at (AD (LG.at (?_)))))))))
 have hx2:(Value.builtin "BaseException.__getattribute__" == Value.builtin "object.__getattribute__")=false:=by decide +kernel
 dsimp only
 rw[hx2,Ec,if_neg AQ]
 unfold getAttrByItsOwn hookBefore
 refine AD (show wpAny _ _ (typeLookup (.ref C) "__getattr__") _ _ _ from LH.at ?_)
 refine AD (Df (Br ?_))
 show wpAny _ _ (boundAndCalled _ _ _) _ _ _
 unfold boundAndCalled
 refine AD (wpAny_of_eq (PySem.F.attr_ValueError.ga.bind (.ref x)) ?_)
 show wpAny _ _ (call (.builtin "BaseException.__getattribute__") [.ref x,.str "__class__" t2]) _ _ _
 refine Dz (Ev PySem.F.attr_ValueError.ga.plain F.entry_bexc_ga ?_)
 have hk:builtinKind "BaseException.__getattribute__"=some .slot:=by decide +kernel
 have hsp:splitId "BaseException.__getattribute__"=some ("BaseException","__getattribute__"):=by decide +kernel
 have hargs:=F.args_bexc_ga (.ref x) (.str "__class__" t2)
 simp only[checkBuiltinCall,hk,hsp]
 refine AD ?_
 unfold isInstance
 refine AD (L0.at (LB.at ?_))
 rw[if_neg (by decide)]
 refine wpAny_of_eq hargs ?_
 unfold Builtin.«object.__getattribute__»
 refine AD (AN ?_)
 refine AD (AN ?_)
 refine AD (L0.at ?_)
 refine AD (LF.at ?_)
 dsimp only
 show wpAny _ _ (holding [.builtin "object.__class__"] (call (.builtin "getset_descriptor.__get__") [.builtin "object.__class__",.ref x,.ref C]) >>= ret) _ _ _
 refine AD (Br (Dz (aOZ (s:=⟨h2,g2,d2,t2+1,o2⟩) X' L0 I.hm (?_))))
 refine AN ?_
 dsimp only
 exact handed_on rfl (AN h)
end
structure ExJ (K:AE) (C:Addr):Prop extends ExA K C where
 ga:BQ K (.ref C) "__getattribute__"=some (some (.builtin "BaseException.__getattribute__"))
 gt:BQ K (.ref C) "__getattr__"=some none
 mb:PySem.W.mroIn K C (.type "BaseException")=some true
 ic:InstC K C
theorem aNS{K:AE}{a C:Addr}(e:ExJ K C):PySem.W.KitX K (.ref a) (.ref C) (aYE a (.ref C)) where
 ty:=fun M h X ⟨o,vs,q,c,d⟩=>c▸(EZ q).andThen .now
 it:=fun M h X _=>by
  have q:=e.em
  unfold Db at q
  split at q
  ·exact (PySem.W.kit_cls (M:=M) X q).2.1
  ·cases q
 ne:=fun h tp dd its n sl X htp=>by
  obtain⟨tl,N,nm,qn,bs,hdct,sn,sub,ab,col,d2,k0,k1,k2,k3,k5,mN,hC,_⟩:=(e.ex.own (x:="") (mg:=fun _=>some (.ref C)) X rfl).obj
  refine Bool.eq_false_iff.mpr fun q=>?_
  have z:C=tp:=Al.inj (beq_iff_eq.mp q)
  rw[z,htp] at hC
  have w:=congrArg Obj.data (Ao hC)
  exact absurd w (by intro w;cases w)
 ca:=fun X ⟨o,vs,q,c,d⟩ k=>aCH X (c▸(EZ q).andThen .now) e.ga e.gt e.mb e.ic k
theorem kQ{X:Cx}{K:AE}(eK:X.K=K):eP X (.builtin "isinstance") (fun xs H Q=>∃ a y c C b,xs=[.ref a,y]∧aSD y=some c∧H a=some (uG a (.ref C))∧ExJ K C∧BD K (.ref C) c=some b∧Q (.bl b) H):=by
 subst eK
 intro pins s σ H xs us Q I r h
 obtain⟨a,y,c,C,b,rfl,hc,ha,e,k,q⟩:=h
 obtain⟨u,v,rfl,ru,rv⟩:=bD.two r
 obtain rfl:=aEX hc rv
 cases ru
 obtain⟨p,_,_⟩:=(show bS X.prog X.w H s.heap a (uG a (.ref C)) from I.hok a _ ha)
 exact Bd (aNS e) I.kIn p k (fun z=>nomatch z) fun tk=>⟨.bl b,H,I.tok tk,rfl,q⟩
end L2
namespace L2
open PySem PySem.Spec PyProof.Rows
section
variable{X:Cx}{k:Nat}{ps:List Str}{sp:Sp}{x:Str}{p pos:Pos}{e:Expr}{es:List Expr}{t:TA}{E:XK}
theorem aTE(F:FcX X.prog X.w X.K X.mg X.base k x ps sp)(hr:Room k X.A)(hx:kR (CX2 X.prog X.w) X E)(ha:PA X (e :: es) t)(hg:Gl X x:=by rfl)(hdb:(x == ("__debug__":Str))=false:=by decide)
 (he:Ak (e :: es) X.env=(false,eval e X.env) :: Ak es X.env:=by rfl)(hpl:(backTo pos (Ak es X.env)).any (·.1)=false:=by rfl):PE X (.Call (.Name x p) (e :: es) [] pos) (aHL sp [] E t):=by
 obtain⟨f,fd,G,b,m,kp⟩:=F.ex
 exact aIG G hr hg m kp b .nil hx ha hdb he hpl
end
end L2
namespace Mt46
open PySem L2 Ld Mt21
noncomputable def noSuch:Str:="nosuchxx"
theorem aBQ:noSuch.cps.toList=[110,111,115,117,99,104,120,120]:=by decide +kernel
theorem aWH{i:Int}{n:Nat}(h:ab i=n)(h1:97≤n):i % 26=(n:Int) - 97:=by
 unfold ab at h
 have h0:=At i (show (26:Int)≠0 by decide)
 omega
theorem aRE{b s:Str}{sz pl:Nat}{q:Int}{x:Nat}(bc:b.cps.toList=(Ag sz).map fun (j:Nat)=>ab (q+(j:Int)*(j:Int)))(hp:pl<sz)(h8:sz≤8)(hs:s.cps.toList=b.cps.toList.take pl++[x]++b.cps.toList.drop (pl+1)):s≠noSuch:=fun e=>by
 have e1:s.cps.toList=[110,111,115,117,99,104,120,120]:=by rw[e];exact aBQ
 have l1:s.cps.toList.length=sz:=by
  rw[hs,AX,AX,AR,Bh,bc,AA,CG]
  show min pl sz+1+(sz - (pl+1))=sz
  omega
 have l8:sz=8:=by rw[← l1,e1];rfl
 subst l8
 have get:∀ j:Nat,j<8→j≠pl→s.cps.toList[j]?=some (ab (q+(j:Int)*(j:Int))):=fun j hj hn=>by
  have hb:b.cps.toList[j]?=some (ab (q+(j:Int)*(j:Int))):=by
   rw[bc,AH,List.getElem?_range hj]
   rfl
  have lb:b.cps.toList.length=8:=by rw[bc,AA,CG]
  rw[hs]
  by_cases h:j<pl
  ·rw[Bl,BK (by rw[AR,lb];omega),List.getElem?_take,if_pos h]
   exact hb
  ·rw[Be (by rw[AX,AR,lb];show min pl 8+1≤j;omega),AX,AR,lb,Do]
   show b.cps.toList[pl+1+(j - (min pl 8+1))]?=_
   rw[show pl+1+(j - (min pl 8+1))=j by omega]
   exact hb
 have at':∀ (j n:Nat),j<8→j≠pl→([110,111,115,117,99,104,120,120]:List Nat)[j]?=some n→97≤n→(q+(j:Int)*(j:Int)) % 26=(n:Int) - 97:=fun j n hj hn he h1=>by
  have:=get j hj hn
  rw[e1,he] at this
  exact aWH (Ao this).symm h1
 by_cases p1:pl=1
 ·have a0:=at' 0 110 (by omega) (by omega) rfl (by omega)
  have a2:=at' 2 115 (by omega) (by omega) rfl (by omega)
  omega
 ·by_cases p2:pl=2
  ·have a0:=at' 0 110 (by omega) (by omega) rfl (by omega)
   have a3:=at' 3 117 (by omega) (by omega) rfl (by omega)
   omega
  ·have a1:=at' 1 111 (by omega) (by omega) rfl (by omega)
   have a2:=at' 2 115 (by omega) (by omega) rfl (by omega)
   omega
end Mt46
namespace K74
open PySem L2
local macro_rules | `(tactic| trivial)=>`(tactic| first | exact .inl rfl | exact .inr rfl | assumption)
noncomputable def top(i:Nat):Stmt:=PySem.Challenge.pw_dykemoot_k74_no_shares.main.body.getD i (.Pass ⟨0,0,0,0⟩)
abbrev aMI:Stmt:=top 0
abbrev pY:Stmt:=top 15
theorem xM:FnScope ["thing"] ["thing"] (aF pY):=⟨rfl,rfl,rfl,by decide +kernel,rfl,by decide +kernel,by decide +kernel⟩
abbrev tE:Stmt:=top 16
theorem aAY:FnScope ["thing"] ["thing"] (aF tE):=⟨rfl,rfl,rfl,by decide +kernel,rfl,by decide +kernel,by decide +kernel⟩
abbrev oH:Stmt:=top 17
theorem vI:FnScope ["thing"] ["thing"] (aF oH):=⟨rfl,rfl,rfl,by decide +kernel,rfl,by decide +kernel,by decide +kernel⟩
abbrev oI:Stmt:=top 18
theorem vJ:FnScope ["thing"] ["thing"] (aF oI):=⟨rfl,rfl,rfl,by decide +kernel,rfl,by decide +kernel,by decide +kernel⟩
abbrev oG:Stmt:=top 19
theorem vH:FnScope ["thing","names"] ["thing","names"] (aF oG):=⟨rfl,rfl,rfl,by decide +kernel,rfl,by decide +kernel,by decide +kernel⟩
abbrev lR:Stmt:=top 20
theorem tW:FnScope ["thing","most"] ["thing","most"] (aF lR):=⟨rfl,rfl,rfl,by decide +kernel,rfl,by decide +kernel,by decide +kernel⟩
abbrev kW:Stmt:=top 21
theorem rF:FnScope ["thing","length"] ["thing","length"] (aF kW):=⟨rfl,rfl,rfl,by decide +kernel,rfl,by decide +kernel,by decide +kernel⟩
abbrev lQ:Stmt:=top 22
theorem tV:FnScope ["rows"] ["rows"] (aF lQ):=⟨rfl,rfl,rfl,by decide +kernel,rfl,by decide +kernel,by decide +kernel⟩
abbrev pZ:Stmt:=top 23
theorem xN:FnScope ["thing"] ["thing"] (aF pZ):=⟨rfl,rfl,rfl,by decide +kernel,rfl,by decide +kernel,by decide +kernel⟩
abbrev lU:Stmt:=top 24
theorem tX:FnScope ["thing"] ["thing"] (aF lU):=⟨rfl,rfl,rfl,by decide +kernel,rfl,by decide +kernel,by decide +kernel⟩
abbrev oN:Stmt:=top 25
theorem vM:FnScope ["one","other","sides"] ["one","other","sides"] (aF oN):=⟨rfl,rfl,rfl,by decide +kernel,rfl,by decide +kernel,by decide +kernel⟩
abbrev tD:Stmt:=top 26
theorem aAX:FnScope ["thing","crown"] ["thing","crown"] (aF tD):=⟨rfl,rfl,rfl,by decide +kernel,rfl,by decide +kernel,by decide +kernel⟩
abbrev tF:Stmt:=top 27
theorem aAZ:FnScope ["thing","sides"] ["thing","sides"] (aF tF):=⟨rfl,rfl,rfl,by decide +kernel,rfl,by decide +kernel,by decide +kernel⟩
abbrev oO:Stmt:=top 28
theorem vN:FnScope ["thing","sides"] ["thing","sides"] (aF oO):=⟨rfl,rfl,rfl,by decide +kernel,rfl,by decide +kernel,by decide +kernel⟩
abbrev sZ:Stmt:=top 29
theorem aAW:FnScope ["land","thing"] ["land","thing"] (aF sZ):=⟨rfl,rfl,rfl,by decide +kernel,rfl,by decide +kernel,by decide +kernel⟩
abbrev oM:Stmt:=top 30
theorem vL:FnScope ["land","thing"] ["land","thing"] (aF oM):=⟨rfl,rfl,rfl,by decide +kernel,rfl,by decide +kernel,by decide +kernel⟩
abbrev hW:Stmt:=top 31
theorem dN:FnScope ["land","thing","names"] ["land","thing"] (aF hW):=⟨rfl,rfl,rfl,by decide +kernel,rfl,by decide +kernel,by decide +kernel⟩
abbrev qD:Stmt:=gO (top 32) 0
theorem xQ:FnScope ["self","fields","dykes"] ["self","fields","dykes"] (aF qD):=⟨rfl,rfl,rfl,by decide +kernel,rfl,by decide +kernel,by decide +kernel⟩
abbrev uA:Stmt:=gO (top 32) 1
abbrev lW:Stmt:=gO (top 32) 2
theorem tY:FnScope ["self"] ["self"] (aF lW):=⟨rfl,rfl,rfl,by decide +kernel,rfl,by decide +kernel,by decide +kernel⟩
abbrev gX:Stmt:=gO (top 32) 3
theorem lB:FnScope ["self"] ["self"] (aF gX):=⟨rfl,rfl,rfl,by decide +kernel,rfl,by decide +kernel,by decide +kernel⟩
abbrev hZ:Stmt:=gO (top 32) 4
theorem lO:FnScope ["self"] ["self"] (aF hZ):=⟨rfl,rfl,rfl,by decide +kernel,rfl,by decide +kernel,by decide +kernel⟩
abbrev rJ:Stmt:=gO (top 32) 5
abbrev kX:Stmt:=gO (top 32) 6
theorem rG:FnScope ["self","field"] ["self","field"] (aF kX):=⟨rfl,rfl,rfl,by decide +kernel,rfl,by decide +kernel,by decide +kernel⟩
abbrev xR:Stmt:=gO (top 32) 7
abbrev oP:Stmt:=gO (top 32) 8
theorem vO:FnScope ["self","name"] ["self","name"] (aF oP):=⟨rfl,rfl,rfl,by decide +kernel,rfl,by decide +kernel,by decide +kernel⟩
abbrev tZ:Stmt:=gO (top 32) 9
abbrev vP:Stmt:=top 34
theorem gU:FnScope ["starts","steps","came","waiting","near","step"] ["starts","steps"] (aF vP):=⟨rfl,rfl,rfl,by decide +kernel,rfl,by decide +kernel,by decide +kernel⟩
abbrev sU:Stmt:=top 35
theorem iC:FnScope ["came","side","path","step"] ["came","side"] (aF sU):=⟨rfl,rfl,rfl,by decide +kernel,rfl,by decide +kernel,by decide +kernel⟩
abbrev lT:Stmt:=top 37
theorem kT:FnScope ["land","fields","height"] ["land","fields","height"] (aF lT):=⟨rfl,rfl,rfl,by decide +kernel,rfl,by decide +kernel,by decide +kernel⟩
abbrev qB:Stmt:=top 38
theorem xO:FnScope ["dyke","height"] ["dyke","height"] (aF qB):=⟨rfl,rfl,rfl,by decide +kernel,rfl,by decide +kernel,by decide +kernel⟩
abbrev qC:Stmt:=top 39
theorem xP:FnScope ["land","works"] ["land","works"] (aF qC):=⟨rfl,rfl,rfl,by decide +kernel,rfl,by decide +kernel,by decide +kernel⟩
abbrev vR:Stmt:=top 40
theorem aDJ:FnScope ["land","side","height"] ["land","side","height"] (aF vR):=⟨rfl,rfl,rfl,by decide +kernel,rfl,by decide +kernel,by decide +kernel⟩
abbrev vS:Stmt:=top 41
theorem aDK:FnScope ["land","dyke","height"] ["land","dyke","height"] (aF vS):=⟨rfl,rfl,rfl,by decide +kernel,rfl,by decide +kernel,by decide +kernel⟩
abbrev oJ:Stmt:=top 42
theorem vK:FnScope ["land","height"] ["land","height"] (aF oJ):=⟨rfl,rfl,rfl,by decide +kernel,rfl,by decide +kernel,by decide +kernel⟩
abbrev lP:Stmt:=top 43
theorem fI:FnScope ["land","names","steps","name","dyke"] ["land","names"] (aF lP):=⟨rfl,rfl,rfl,by decide +kernel,rfl,by decide +kernel,by decide +kernel⟩
abbrev aDM:Stmt:=top 44
theorem aJU:FnScope ["step","most","stream"] ["step","most","stream"] (aF aDM):=⟨rfl,rfl,rfl,by decide +kernel,rfl,by decide +kernel,by decide +kernel⟩
abbrev sT:Stmt:=top 45
theorem aAV:FnScope ["steps","most","stream"] ["steps","most","stream"] (aF sT):=⟨rfl,rfl,rfl,by decide +kernel,rfl,by decide +kernel,by decide +kernel⟩
abbrev iO:Stmt:=top 46
theorem fF:FnScope ["steps","most","stream","fields","came","ends"] ["steps","most","stream","fields"] (aF iO):=⟨rfl,rfl,rfl,by decide +kernel,rfl,by decide +kernel,by decide +kernel⟩
abbrev iP:Stmt:=top 47
theorem cL:FnScope ["steps","most","fields","stream","path","amount","step"] ["steps","most","fields"] (aF iP):=⟨rfl,rfl,rfl,by decide +kernel,rfl,by decide +kernel,by decide +kernel⟩
abbrev kU:Stmt:=top 48
theorem jO:FnScope ["steps","flowed","fields","height","behind"] ["steps","flowed","fields","height"] (aF kU):=⟨rfl,rfl,rfl,by decide +kernel,rfl,by decide +kernel,by decide +kernel⟩
abbrev vT:Stmt:=top 49
theorem fN:FnScope ["land","fields","height","most","steps","stream","works","amounts"] ["land","fields","height"] (aF vT):=⟨rfl,rfl,rfl,by decide +kernel,rfl,by decide +kernel,by decide +kernel⟩
abbrev jP:Stmt:=top 52
theorem pV:FnScope ["height"] ["height"] (aF jP):=⟨rfl,rfl,rfl,by decide +kernel,rfl,by decide +kernel,by decide +kernel⟩
abbrev aDN:Stmt:=top 53
theorem aJV:FnScope ["land","fields","height"] ["land","fields","height"] (aF aDN):=⟨rfl,rfl,rfl,by decide +kernel,rfl,by decide +kernel,by decide +kernel⟩
abbrev hV:Stmt:=top 54
theorem dM:FnScope ["count","lists","place"] ["count"] (aF hV):=⟨rfl,rfl,rfl,by decide +kernel,rfl,by decide +kernel,by decide +kernel⟩
abbrev oK:Stmt:=top 55
theorem eV:FnScope ["land","fields","height","told","places","company"] ["land","fields","height"] (aF oK):=⟨rfl,rfl,rfl,by decide +kernel,rfl,by decide +kernel,by decide +kernel⟩
abbrev gW:Stmt:=top 57
theorem dG:FnScope ["one","other","rest"] ["one","other"] (aF gW):=⟨rfl,rfl,rfl,by decide +kernel,rfl,by decide +kernel,by decide +kernel⟩
abbrev qA:Stmt:=top 58
theorem oE:FnScope ["top","bottom","divisor"] ["top","bottom"] (aF qA):=⟨rfl,rfl,rfl,by decide +kernel,rfl,by decide +kernel,by decide +kernel⟩
abbrev oF:Stmt:=top 59
theorem fV:FnScope ["count","product","number"] ["count"] (aF oF):=⟨rfl,rfl,rfl,by decide +kernel,rfl,by decide +kernel,by decide +kernel⟩
abbrev jB:Stmt:=top 60
theorem oZ:FnScope ["ahead","count"] ["ahead","count"] (aF jB):=⟨rfl,rfl,rfl,by decide +kernel,rfl,by decide +kernel,by decide +kernel⟩
abbrev pX:Stmt:=top 61
theorem fG:FnScope ["field","fields","costs","total","company","joined"] ["field","fields","costs"] (aF pX):=⟨rfl,rfl,rfl,by decide +kernel,rfl,by decide +kernel,by decide +kernel⟩
abbrev vQ:Stmt:=top 62
theorem jA:FnScope ["land","fields","height","costs"] ["land","fields","height"] (aF vQ):=⟨rfl,rfl,rfl,by decide +kernel,rfl,by decide +kernel,by decide +kernel⟩
abbrev yQ:Stmt:=top 64
theorem pA:FnScope ["_law_script","_law_k","_law_number"] ["_law_script","_law_k"] (aF yQ):=⟨rfl,rfl,rfl,by decide +kernel,rfl,by decide +kernel,by decide +kernel⟩
abbrev yP:Stmt:=top 65
theorem eF:FnScope ["_law_cell","_law_letters","_law_size","_law_place","_law_by","_law_base","_law_found","_law_k","_law_sign"] ["_law_cell"] (aF yP):=⟨rfl,rfl,rfl,by decide +kernel,rfl,by decide +kernel,by decide +kernel⟩
abbrev vU:Stmt:=top 66
theorem aDL:FnScope ["_law_cell"] ["_law_cell"] (aF vU):=⟨rfl,rfl,rfl,by decide +kernel,rfl,by decide +kernel,by decide +kernel⟩
abbrev aDO:Stmt:=top 67
theorem nK:FnScope ["_law_script","_law_names_here","_law_fields","_law_k"] ["_law_script"] (aF aDO):=⟨rfl,rfl,rfl,by decide +kernel,rfl,by decide +kernel,by decide +kernel⟩
abbrev yR:Stmt:=top 68
theorem cN:FnScope ["_law_script","_law_at","_law_most","_law_fields","_law_names_here","_law_sides","_law_dykes_here","_law_k","_law_cell","_law_one","_law_others","_law_other","_law_crown","_law_rate","_law_sill"] ["_law_script","_law_at","_law_most","_law_fields"] (aF yR):=⟨rfl,rfl,rfl,by decide +kernel,rfl,by decide +kernel,by decide +kernel⟩
abbrev aDP:Stmt:=top 69
theorem rH:FnScope ["_law_script","_law_fields","_law_dykes_here","_law_k"] ["_law_script","_law_fields"] (aF aDP):=⟨rfl,rfl,rfl,by decide +kernel,rfl,by decide +kernel,by decide +kernel⟩
abbrev tG:Stmt:=top 70
theorem pW:FnScope ["_law_land","_law_wish","_law_height_here","_law_way","e"] ["_law_land","_law_wish","_law_height_here","_law_way"] (aF tG):=⟨rfl,rfl,rfl,by decide +kernel,rfl,by decide +kernel,by decide +kernel⟩
abbrev aBA:Stmt:=top 71
theorem cG:FnScope ["_law_script","_law_fields","_law_land","_law_names_here","_law_height_here","_law_k","_law_cell","_law_way","_law_wish","_law_bad","_law_high","_law_few","_law_eight","_law_found","_law_total","_law_name","_law_top","_law_bottom"] ["_law_script"] (aF aBA):=⟨rfl,rfl,rfl,by decide +kernel,rfl,by decide +kernel,by decide +kernel⟩
structure Txt (K:AE) (mg:Str→Option Value) (C:Addr):Prop where
 cl_Land:Cls K C
 mg_Land:mg "Land"=some (.ref C)
 a_field_rows:nE K C "field_rows"
 a_dyke_rows:nE K C "dyke_rows"
 ci_Land:InstC K C
 i_Land:InitAt K C "Land.__init__" qD ["self","fields","dykes"]
 m_land_p_fields:MethAt K C "fields" "Land.fields" uA ["self"]
 m_land_p_dykes:MethAt K C "dykes" "Land.dykes" lW ["self"]
 m_land_p_field_names:MethAt K C "field_names" "Land.field_names" gX ["self"]
 m_land_p_dyke_names:MethAt K C "dyke_names" "Land.dyke_names" hZ ["self"]
 m_land_p_sluices:MethAt K C "sluices" "Land.sluices" rJ ["self"]
 m_land_p_ground:MethAt K C "ground" "Land.ground" kX ["self","field"]
 m_land_p_dues:MethAt K C "dues" "Land.dues" xR ["self","field"]
 m_land_p_dyke:MethAt K C "dyke" "Land.dyke" oP ["self","name"]
 m_land_p_raised:MethAt K C "raised" "Land.raised" tZ ["self","works"]
 xs:∃ c_NoWish c_TooMany c_DykeError:Addr,(ExJ K c_NoWish)∧(ExJ K c_TooMany)∧mg "NoWish"=some (.ref c_NoWish)∧mg "TooMany"=some (.ref c_TooMany)∧mg "DykeError"=some (.ref c_DykeError)∧BD K (.ref c_NoWish) (.ref c_DykeError)=some true∧BD K (.ref c_NoWish) (.type "ValueError")=some true∧BD K (.ref c_NoWish) (.ref c_NoWish)=some true∧BD K (.ref c_NoWish) (.ref c_TooMany)=some false∧BD K (.ref c_TooMany) (.ref c_DykeError)=some true∧BD K (.ref c_TooMany) (.type "ValueError")=some true∧BD K (.ref c_TooMany) (.ref c_NoWish)=some false∧BD K (.ref c_TooMany) (.ref c_TooMany)=some true∧Db K (.ref c_NoWish) (.ref c_DykeError)=some true∧Db K (.ref c_TooMany) (.ref c_DykeError)=some true
 d_p_wall:DefAt K mg "_wall" aMI ["k"]
 d_p_is_whole:DefAt K mg "is_whole" pY ["thing"]
 d_p_is_name:DefAt K mg "is_name" tE ["thing"]
 d_p_is_height:DefAt K mg "is_height" oH ["thing"]
 d_p_is_amount:DefAt K mg "is_amount" oI ["thing"]
 d_p_is_one_of:DefAt K mg "is_one_of" oG ["thing","names"]
 d_p_is_list_of:DefAt K mg "is_list_of" lR ["thing","most"]
 d_p_is_tuple_of:DefAt K mg "is_tuple_of" kW ["thing","length"]
 d_p_none_twice:DefAt K mg "none_twice" lQ ["rows"]
 d_p_is_field:DefAt K mg "is_field" pZ ["thing"]
 d_p_are_fields:DefAt K mg "are_fields" lU ["thing"]
 d_p_are_sides:DefAt K mg "are_sides" oN ["one","other","sides"]
 d_p_is_sill:DefAt K mg "is_sill" tD ["thing","crown"]
 d_p_is_dyke:DefAt K mg "is_dyke" tF ["thing","sides"]
 d_p_are_dykes:DefAt K mg "are_dykes" oO ["thing","sides"]
 d_p_is_work:DefAt K mg "is_work" sZ ["land","thing"]
 d_p_are_works:DefAt K mg "are_works" oM ["land","thing"]
 d_p_are_some_fields:DefAt K mg "are_some_fields" hW ["land","thing"]
 d_p_spread:DefAt K mg "spread" vP ["starts","steps"]
 d_p_path_to:DefAt K mg "path_to" sU ["came","side"]
 d_p_check_wish:DefAt K mg "check_wish" lT ["land","fields","height"]
 d_p_coins_to:DefAt K mg "coins_to" qB ["dyke","height"]
 d_p_coins_of:DefAt K mg "coins_of" qC ["land","works"]
 d_p_is_low:DefAt K mg "is_low" vR ["land","side","height"]
 d_p_is_gap:DefAt K mg "is_gap" vS ["land","dyke","height"]
 d_p_gap_coins:DefAt K mg "gap_coins" oJ ["land","height"]
 d_p_steps_over:DefAt K mg "steps_over" lP ["land","names"]
 d_p_room:DefAt K mg "room" aDM ["step","most","stream"]
 d_p_reached:DefAt K mg "reached" sT ["steps","most","stream"]
 d_p_path_with_room:DefAt K mg "path_with_room" iO ["steps","most","stream","fields"]
 d_p_fullest_stream:DefAt K mg "fullest_stream" iP ["steps","most","fields"]
 d_p_works_round:DefAt K mg "works_round" kU ["steps","flowed","fields","height"]
 d_p_fewest:DefAt K mg "fewest" vT ["land","fields","height"]
 d_p_cost_of_none:DefAt K mg "cost_of_none" jP ["height"]
 d_p_cost:DefAt K mg "cost" aDN ["land","fields","height"]
 d_p_lists_of_places:DefAt K mg "lists_of_places" hV ["count"]
 d_p_companies:DefAt K mg "companies" oK ["land","fields","height"]
 d_p_greatest_divisor:DefAt K mg "greatest_divisor" gW ["one","other"]
 d_p_fraction:DefAt K mg "fraction" qA ["top","bottom"]
 d_p_orders_of:DefAt K mg "orders_of" oF ["count"]
 d_p_orders_behind:DefAt K mg "orders_behind" jB ["ahead","count"]
 d_p_share_of:DefAt K mg "share_of" pX ["field","fields","costs"]
 d_p_shares:DefAt K mg "shares" vQ ["land","fields","height"]
 d_l_mixed:DefAt K mg "_law_mixed" yQ ["_law_script","_law_k"]
 d_l_names:DefAt K mg "_law_names" yP ["_law_cell"]
 d_l_height:DefAt K mg "_law_height" vU ["_law_cell"]
 d_l_nine:DefAt K mg "_law_nine" aDO ["_law_script"]
 d_l_dykes:DefAt K mg "_law_dykes" yR ["_law_script","_law_at","_law_most","_law_fields"]
 d_l_bare:DefAt K mg "_law_bare" aDP ["_law_script","_law_fields"]
 d_l_refused:DefAt K mg "_law_refused" tG ["_law_land","_law_wish","_law_height_here","_law_way"]
 d_p_law:DefAt K mg "law" aBA ["_law_script"]
 g_SEA:jK mg "SEA" (.str "sea")
 g_LETTERS:jK mg "LETTERS" (.str "abcdefghijklmnopqrstuvwxyz")
 g_MOST_LETTERS:jK mg "MOST_LETTERS" (.int 8)
 g_MOST_HEIGHT:jK mg "MOST_HEIGHT" (.int 1000000)
 g_MOST_AMOUNT:jK mg "MOST_AMOUNT" (.int 1000000)
 g_MOST_FIELDS:jK mg "MOST_FIELDS" (.int 12)
 g_MOST_DYKES:jK mg "MOST_DYKES" (.int 40)
 g_MOST_IN_A_WISH:jK mg "MOST_IN_A_WISH" (.int 8)
 n_ValueError:mg "ValueError"=none
 n_abs:mg "abs"=none
 n_all:mg "all"=none
 n_bool:mg "bool"=none
 n_dict:mg "dict"=none
 n_int:mg "int"=none
 n_isinstance:mg "isinstance"=none
 n_len:mg "len"=none
 n_list:mg "list"=none
 n_max:mg "max"=none
 n_min:mg "min"=none
 n_range:mg "range"=none
 n_reversed:mg "reversed"=none
 n_set:mg "set"=none
 n_sorted:mg "sorted"=none
 n_str:mg "str"=none
 n_sum:mg "sum"=none
 n_tuple:mg "tuple"=none
section
variable{P:Program}{w:World}{K:AE}{mg:Str→Option Value}{base:Heap}{C:Addr}
open Ld
theorem bY:(1000:Nat)≤Am:=by decide
def aAN:Sp:=sp1 fun x H Q=>∃ d,Is H d x∧Q (.bl (isInt d)) H
theorem oR(T:Txt K mg C):Fc P w K mg base 1 "is_whole" ["thing"] aAN:=by
 refine T.d_p_is_whole.fc xM mL (fun f cdv A outer s H vs Q E hr h=>?_)
 obtain⟨x,rfl,d,hd,q⟩:=h
 obtain⟨t,ty,e1,e2,_⟩:=sP K hd
 refine⟨_,(@aG _ _ _ (@aT _ _ _ _ (@cY _ _ _ _ _ _ _ (@aQ _ _ _ _ _ _ _ _ _ (@dQ _ (K) rfl) rfl T.n_isinstance bO (@aA _ _ _ _ _ (pv 0) (@aA _ _ _ _ _ (@qI _ _ _ _ T.n_int sN (by rfl) (by decide) (by decide)) aB (by rfl)) (by rfl)) (by decide) (by decide) (by rfl) (by rfl)) (@eI _ _ _ _ _ (@aUT _ _ _ _ (@aQ _ _ _ _ _ _ _ _ _ (@dQ _ (K) rfl) rfl T.n_isinstance bO (@aA _ _ _ _ _ (pv 0) (@aA _ _ _ _ _ (@qI _ _ _ _ T.n_bool aHC (by rfl) (by decide) (by decide)) aB (by rfl)) (by rfl)) (by decide) (by decide) (by rfl) (by rfl))))))),?_⟩
 refine⟨_,rfl,_,_,_,t,_,rfl,rfl,ty,e1,_,rfl,?_⟩
 refine lF (fun h=>?_) (fun h=>?_)
 ·refine⟨_,rfl,_,_,_,t,_,rfl,rfl,ty,e2,_,rfl,?_⟩
  have e:(!aNV d)=isInt d:=by cases d <;> simp_all [isInt,aNV]
  rw[e]
  exact q
 ·have e:isInt d=false:=by cases d <;> simp_all [isInt,aNV]
  rw[e] at q
  exact q
def aFM:Sp:=sp1 fun x H Q=>∃ d,Is H d x∧cI d=true∧Q (.bl (pJ d)) H
theorem qL(T:Txt K mg C):Fc P w K mg base 1 "is_name" ["thing"] aFM:=by
 refine T.d_p_is_name.fcD aAY mL (fun f cdv A outer s H vs Q E hr h=>?_)
 obtain⟨x,rfl,d,hd,hz,q⟩:=h
 obtain⟨t,ty,e1,e2,e3,_⟩:=sP K hd
 have big:=bY
 refine⟨_,(@aE _ _ _ _ _ (@dX _ _ _ _ _ _ _ _ (@PW.pt _ _ _ (@lX _ _ _ _ _ _ _ (@dR _ _ _ _ (@dI _ _ _ (@aQ _ _ _ _ _ _ _ _ _ (@dQ _ (K) rfl) rfl T.n_isinstance bO (@aA _ _ _ _ _ (pv 0) (@aA _ _ _ _ _ (@qI _ _ _ _ T.n_str aAA (by rfl) (by decide) (by decide)) aB (by rfl)) (by rfl)) (by decide) (by decide) (by rfl) (by rfl)) (by intro _;rfl))) (@jF _ _ _ _ (@dR _ _ _ _ (@aMT _ _ _ _ _ _ _ _ _ _ _ _ tK tK aD (@aQ _ _ _ _ _ _ _ _ _ aCJ rfl T.n_len bG (@aA _ _ _ _ _ (pv 0) aB (by rfl)) (by decide) (by decide) (by rfl) (by rfl)) (@rK _ _ _ _ T.g_MOST_LETTERS (by rfl) (by decide)) (by with_unfolding_all rfl)))))) (@aG _ _ _ (@aT _ _ _ _ jT)) bW) (@aG _ _ _ (@aT _ _ _ _ (@cY _ _ _ _ _ _ _ (@dW _ _ _ _ _ _ _ _ mD (pv 0) (@rK _ _ _ _ T.g_SEA (by rfl) (by decide)) (@bT _ _ (by decide) (by decide))) (@eI _ _ _ _ _ (@aQ _ _ _ _ _ _ _ _ _ (@kC _ rfl) rfl T.n_all iI (@aA _ _ _ _ _ (@cD _ _ _ _ _ _ _ _ _ _ _ ["sign"] 1 [] rfl (@aUQ _ _ _ _ (pv 0)) (fun R=>@bA _ _ (0) _ (show Aw (["sign"]:List Str) by decide +kernel) rfl (Or.inl rfl) (by trivial)) (@aW _ _ (by decide)) (fun R=>bZ) (fun R=>(@dW _ _ _ _ _ _ _ _ aKB (pv 0) (@rK _ _ _ _ T.g_LETTERS (by rfl) (by decide)) (by with_unfolding_all rfl))) (by rfl) (by rfl) (by rfl) (by rfl) (by rfl) (by rfl) (by rfl) (by intro _;rfl)) aB (by rfl)) (by decide) (by decide) (by rfl) (by rfl))))))),?_⟩
 refine⟨_,rfl,_,_,_,t,_,rfl,rfl,ty,e3,_,rfl,?_⟩
 cases d with
 | str z =>
  cases (show x=.str z from hd)
  have hz:z.length≤1000:=of_decide_eq_true hz
  have q:Q (.bl (eN z)) H:=q
  have hzs:z.length≤Am:=by omega
  refine bM ?_
  refine⟨_,rfl,z,rfl,hzs,_,_,rfl,rfl,_,rfl,?_⟩
  refine lF (fun h1=>?_) (fun h1=>?_)
  ·refine⟨_,_,rfl,rfl,_,rfl,?_⟩
   have h1':1≤z.length:=by
    have:=of_decide_eq_true h1
    omega
   refine lF (fun h2=>?_) (fun h2=>?_)
   ·have e:eN z=false:=by
     have h2':¬ z.length≤8:=by
      intro h3
      have:((z.length:Nat):Int)≤8:=by omega
      simp[this] at h2
     simp[eN,h2']
    rw[e] at q
    exact cU.of (.refl _) q
   ·have h2':z.length≤8:=by
     have h3:decide (((z.length:Nat):Int)≤8)=true:=by
      cases h4:decide (((z.length:Nat):Int)≤8) with
      | true=>rfl
      | false=>exact absurd (by rw[h4];rfl) h2
     have:=of_decide_eq_true h3
     omega
    refine⟨_,rfl,rfl,_,rfl,?_⟩
    refine lF (fun h3=>?_) (fun h3=>?_)
    ·have h3':¬ z="sea":=by
      intro h4
      subst h4
      simp at h3
     refine⟨_,rfl,z,rfl,?_⟩
     refine aOW (Av hz (by decide)) (fun i ys H'=>H'=H∧ys=(z.cps.toList.take i).map fun c=>V.bl (iT c)) ⟨rfl,rfl⟩ ?_ ?_ ?_
     ·rintro i ys H' ⟨_,rfl⟩
      rw[AA,AR]
      omega
     ·rintro i c ys H' K1 K2 hc ⟨rfl,rfl⟩ k1 k2
      refine⟨_,rfl,_,_,rfl,rfl,k1 _ _ ⟨rfl,?_⟩⟩
      have hc':z.cps.toList[i]?=some c:=by simpa using hc
      rw[Aa,hc',aGN]
      simp
     ·rintro ys H' ⟨rfl,rfl⟩
      intro p hp'
      refine⟨p,z.cps.toList.map iT,rfl,SqL.of ?_,?_⟩
      ·rw[aC,AG (by simp),Ai]
       rfl
      ·refine⟨H',gF.lst hp',?_⟩
       have e:eN z=(z.cps.toList.map iT).all id:=by
        rw[Dh]
        simp[eN,h1',h2',h3']
       rw[← e]
       exact q
    ·have e:eN z=false:=by
      have h4:z="sea":=by
       apply De
       intro h5
       exact h3 (by simp[h5])
      subst h4
      simp[eN]
     rw[e] at q
     exact cU.of (.refl _) q
  ·have e:eN z=false:=by
    have h1':¬ 1≤z.length:=by
     intro h3
     exact h1 (decide_eq_true (by omega))
    simp[eN,h1']
   rw[e] at q
   exact⟨_,rfl,cU.of (.refl _) q⟩
 | non=>exact cU.of (.refl _) q
 | bl b=>exact cU.of (.refl _) q
 | int i=>exact cU.of (.refl _) q
 | lst a=>exact cU.of (.refl _) q
 | tup a=>exact cU.of (.refl _) q
 | dct a b=>exact cU.of (.refl _) q
def gT:Sp:=sp1 fun x H Q=>∃ d,Is H d x∧Q (.bl (dZ d)) H
theorem dE(T:Txt K mg C):Fc P w K mg base 2 "is_height" ["thing"] gT:=by
 have G_p_is_whole:Fc P w K mg base 1 "is_whole" ["thing"] aAN:=oR T
 refine T.d_p_is_height.fc vI mL (fun f cdv A outer s H vs Q E hr h=>?_)
 obtain⟨x,rfl,d,hd,q⟩:=h
 refine⟨_,(@aG _ _ _ (@aT _ _ _ _ (@cY _ _ _ _ _ _ _ (@bE _ _ _ _ _ _ _ _ _ _ G_p_is_whole (hr.mono (by decide)) (@aA _ _ _ _ _ (pv 0) aB (by rfl)) (by rfl) (by decide) (by rfl) (by rfl)) (@eI _ _ _ _ _ (@vZ _ _ _ _ _ _ _ _ _ _ _ _ tK tK (@aNA _ _ _ _ _ _ aFI (@rK _ _ _ _ T.g_MOST_HEIGHT (by rfl) (by decide))) (pv 0) (@rK _ _ _ _ T.g_MOST_HEIGHT (by rfl) (by decide)) (by with_unfolding_all rfl)))))),?_⟩
 refine⟨_,rfl,_,rfl,d,hd,_,rfl,?_⟩
 cases d with
 | int i =>
  cases (show x=.int i from hd)
  refine cR ?_
  have q:Q (.bl (decide (-1000000≤i) && decide (i≤1000000))) H:=q
  refine⟨_,rfl,_,rfl,_,_,rfl,rfl,_,rfl,?_⟩
  refine lF (fun h1=>?_) (fun h1=>?_)
  ·refine⟨_,_,rfl,rfl,?_⟩
   rw[decide_eq_true (show -1000000≤i from of_decide_eq_true h1),BT] at q
   exact q
  ·rw[show decide (-1000000≤i)=false from by simpa using h1,DL] at q
   exact q
 | _=>exact bM q
def vB:Sp:=sp1 fun x H Q=>∃ d,Is H d x∧Q (.bl (jX d)) H
theorem mF(T:Txt K mg C):Fc P w K mg base 2 "is_amount" ["thing"] vB:=by
 have G_p_is_whole:Fc P w K mg base 1 "is_whole" ["thing"] aAN:=oR T
 refine T.d_p_is_amount.fc vJ mL (fun f cdv A outer s H vs Q E hr h=>?_)
 obtain⟨x,rfl,d,hd,q⟩:=h
 refine⟨_,(@aG _ _ _ (@aT _ _ _ _ (@cY _ _ _ _ _ _ _ (@bE _ _ _ _ _ _ _ _ _ _ G_p_is_whole (hr.mono (by decide)) (@aA _ _ _ _ _ (pv 0) aB (by rfl)) (by rfl) (by decide) (by rfl) (by rfl)) (@eI _ _ _ _ _ (@vZ _ _ _ _ _ _ _ _ _ _ _ _ tK tK aD (pv 0) (@rK _ _ _ _ T.g_MOST_AMOUNT (by rfl) (by decide)) (by with_unfolding_all rfl)))))),?_⟩
 refine⟨_,rfl,_,rfl,d,hd,_,rfl,?_⟩
 cases d with
 | int i =>
  cases (show x=.int i from hd)
  refine cR ?_
  have q:Q (.bl (decide (0≤i) && decide (i≤1000000))) H:=q
  refine⟨_,rfl,_,_,rfl,rfl,_,rfl,?_⟩
  refine lF (fun h1=>?_) (fun h1=>?_)
  ·refine⟨_,_,rfl,rfl,?_⟩
   rw[decide_eq_true (show 0≤i from of_decide_eq_true h1),BT] at q
   exact q
  ·rw[show decide (0≤i)=false from by simpa using h1,DL] at q
   exact q
 | _=>exact bM q
def pU(K:AE):Sp:=sp2 fun x y H Q=>∃ (d:Dv) (p:Addr) (zs:List Str),Is H d x∧y=.ref p∧SqL K H p (zs.map V.str)∧Q (.bl (fO zs d)) H
theorem uS(z:Str)(zs:List Str):inV (.str z) (zs.map V.str)=decide (z∈zs):=by
 unfold inV
 rw[Bb,EF,decide_eq_true_iff]
 constructor
 ·rintro⟨y,hy,e⟩
  obtain⟨u,hu,rfl⟩:=AM.mp hy
  have e':(u == z)=true:=e
  rw[← beq_iff_eq.mp e']
  exact hu
 ·intro h
  exact⟨_,AM.mpr ⟨z,h,rfl⟩,beq_self_eq_true z⟩
theorem nV(zs:List Str):(zs.map V.str).all qT=true:=by
 rw[BW]
 intro y hy
 obtain⟨u,_,rfl⟩:=AM.mp hy
 rfl
theorem fZ(T:Txt K mg C):Fc P w K mg base 1 "is_one_of" ["thing","names"] (pU K):=by
 refine T.d_p_is_one_of.fc vH iU (fun f cdv A outer s H vs Q E hr h=>?_)
 obtain⟨x,y,rfl,d,p,zs,hd,rfl,hp,q⟩:=h
 obtain⟨t,ty,e1,e2,e3,_⟩:=sP K hd
 refine⟨_,(@aG _ _ _ (@aT _ _ _ _ (@cY _ _ _ _ _ _ _ (@aQ _ _ _ _ _ _ _ _ _ (@dQ _ (K) rfl) rfl T.n_isinstance bO (@aA _ _ _ _ _ (pv 0) (@aA _ _ _ _ _ (@qI _ _ _ _ T.n_str aAA (by rfl) (by decide) (by decide)) aB (by rfl)) (by rfl)) (by decide) (by decide) (by rfl) (by rfl)) (@eI _ _ _ _ _ (@dW _ _ _ _ _ _ _ _ (@pG _ (K) rfl) (pv 0) (pv 1) (by with_unfolding_all rfl)))))),?_⟩
 refine⟨_,rfl,_,_,_,t,_,rfl,rfl,ty,e3,_,rfl,?_⟩
 cases d with
 | str z =>
  cases (show x=.str z from hd)
  refine cR ⟨_,rfl,_,rfl,p,_,rfl,.inl hp,rfl,nV zs,?_⟩
  show Q (.bl (inV (.str z) (zs.map V.str))) H
  rw[uS]
  exact q
 | _=>exact bM q
def lK:Sp:=sp2 fun x y H Q=>∃ (d:Dv) (n:Int),Is H d x∧y=.int n∧Q (.bl (zD n d)) H
theorem fJ(T:Txt K mg C):Fc P w K mg base 1 "is_list_of" ["thing","most"] lK:=by
 refine T.d_p_is_list_of.fc tW iU (fun f cdv A outer s H vs Q E hr h=>?_)
 obtain⟨x,y,rfl,d,n,hd,rfl,q⟩:=h
 obtain⟨t,ty,e1,e2,e3,e4,_⟩:=sP K hd
 refine⟨_,(@aG _ _ _ (@aT _ _ _ _ (@cY _ _ _ _ _ _ _ (@aQ _ _ _ _ _ _ _ _ _ (@dQ _ (K) rfl) rfl T.n_isinstance bO (@aA _ _ _ _ _ (pv 0) (@aA _ _ _ _ _ (@qI _ _ _ _ T.n_list dU (by rfl) (by decide) (by decide)) aB (by rfl)) (by rfl)) (by decide) (by decide) (by rfl) (by rfl)) (@eI _ _ _ _ _ (@vZ _ _ _ _ _ _ _ _ _ _ _ _ tK tK aD (@aQ _ _ _ _ _ _ _ _ _ (@aY _ (K) rfl) rfl T.n_len bG (@aA _ _ _ _ _ (pv 0) aB (by rfl)) (by decide) (by decide) (by rfl) (by rfl)) (pv 1) (by with_unfolding_all rfl)))))),?_⟩
 refine⟨_,rfl,_,_,_,t,_,rfl,rfl,ty,e4,_,rfl,?_⟩
 cases d with
 | lst ds =>
  obtain⟨a,vs,rfl,o,hl⟩:=hd
  have hlen:=hl.length
  have q:Q (.bl (decide (1≤ds.length) && decide ((ds.length:Int)≤n))) H:=q
  refine cR ⟨_,rfl,a,vs,rfl,.inl (SqL.of o),_,_,rfl,rfl,_,rfl,?_⟩
  rw[hlen]
  refine lF (fun h1=>?_) (fun h1=>?_)
  ·refine⟨_,rfl,_,_,rfl,rfl,?_⟩
   have h1':1≤ds.length:=by have:=of_decide_eq_true h1;omega
   rw[decide_eq_true h1',BT] at q
   exact q
  ·have h1':¬ 1≤ds.length:=fun c=>h1 (decide_eq_true (by omega))
   rw[decide_eq_false h1',DL] at q
   exact q
 | _=>exact bM q
def uN:Sp:=sp2 fun x y H Q=>∃ (d:Dv) (n:Int),Is H d x∧y=.int n∧Q (.bl (aHI n d)) H
theorem gL(T:Txt K mg C):Fc P w K mg base 1 "is_tuple_of" ["thing","length"] uN:=by
 refine T.d_p_is_tuple_of.fc rF iU (fun f cdv A outer s H vs Q E hr h=>?_)
 obtain⟨x,y,rfl,d,n,hd,rfl,q⟩:=h
 obtain⟨t,ty,e1,e2,e3,e4,e5⟩:=sP K hd
 refine⟨_,(@aG _ _ _ (@aT _ _ _ _ (@cY _ _ _ _ _ _ _ (@aQ _ _ _ _ _ _ _ _ _ (@dQ _ (K) rfl) rfl T.n_isinstance bO (@aA _ _ _ _ _ (pv 0) (@aA _ _ _ _ _ (@qI _ _ _ _ T.n_tuple hE (by rfl) (by decide) (by decide)) aB (by rfl)) (by rfl)) (by decide) (by decide) (by rfl) (by rfl)) (@eI _ _ _ _ _ (@dW _ _ _ _ _ _ _ _ kY (@aQ _ _ _ _ _ _ _ _ _ (@aY _ (K) rfl) rfl T.n_len bG (@aA _ _ _ _ _ (pv 0) aB (by rfl)) (by decide) (by decide) (by rfl) (by rfl)) (pv 1) (@bT _ _ (by decide) (by decide))))))),?_⟩
 refine⟨_,rfl,_,_,_,t,_,rfl,rfl,ty,e5,_,rfl,?_⟩
 cases d with
 | tup ds =>
  obtain⟨a,vs,rfl,o,hl⟩:=hd
  have hlen:=hl.length
  have q:Q (.bl (decide ((ds.length:Int)=n))) H:=q
  refine cR ⟨_,rfl,a,vs,rfl,.inr (SqT.of o),_,rfl,rfl,?_⟩
  rw[hlen]
  have e:decide (V.int (ds.length:Int)=V.int n)=decide ((ds.length:Int)=n):=by rw[gR,Bb];simp
  rw[e]
  exact q
 | _=>exact bM q
def uM:Sp:=sp1 fun x H Q=>∃ (p:Addr) (vs:List V) (ds:List Dv) (zs:List Str),x=.ref p∧H p=some (.lst vs)∧IsL H ds vs∧ds.map cK=zs.map some∧zs.length≤1000∧Q (.bl (decide zs.Nodup)) H
theorem aKR{H:Hp}{d:Dv}{v:V}{z:Str}(h:Is H d v)(e:cK d=some z):∃ a r,v=.ref a∧H a=some (.tup (.str z :: r)):=by
 cases d with
 | tup ds =>
  cases ds with
  | nil=>cases e
  | cons d0 ds =>
   cases d0 with
   | str y =>
    cases e
    obtain⟨a,vs,rfl,o,v0,r,rfl,h0,_⟩:=h
    cases (show v0=.str z from h0)
    exact⟨a,r,rfl,o⟩
   | _=>cases e
 | _=>cases e
theorem fP(zs:List Str):(zs.map (Sum.inr:Str→Key)).Nodup↔zs.Nodup:=by
 induction zs with
 | nil=>simp
 | cons z zs ih =>
  rw[AU,Aj,Aj,ih]
  simp
theorem aBS(zs:List Str):(zs.map (Sum.inr:Str→Key)).map kV=zs.map V.str:=by
 rw[Ai];rfl
theorem hG(T:Txt K mg C):Fc P w K mg base 1 "none_twice" ["rows"] uM:=by
 refine T.d_p_none_twice.fcD tV mL (fun f cdv A outer s H vs Q E hr h=>?_)
 obtain⟨x,rfl,p,us,ds,zs,rfl,hp,hi,hz,hn,q⟩:=h
 have big:=bY
 have l1:=hi.length
 have l2:ds.length=zs.length:=by have:=congrArg CS hz;simpa using this
 refine⟨_,(@aG _ _ _ (@aT _ _ _ _ (@dW _ _ _ _ _ _ _ _ kY (@aQ _ _ _ _ _ _ _ _ _ call_len_set rfl T.n_len bG (@aA _ _ _ _ _ (@bJ _ _ _ _ _ _ _ _ _ (@jJ _ rfl) rfl T.n_set sL (@aA _ _ _ _ _ (@cD _ _ _ _ _ _ _ _ _ _ _ ["row"] 1 [] rfl (@bP _ _ _ _ (pv 0)) (fun R=>@bA _ _ (0) _ (show Aw (["row"]:List Str) by decide +kernel) rfl (Or.inl rfl) (by trivial)) (@aW _ _ (by decide)) (fun R=>bZ) (fun R=>(@aZ _ _ _ _ _ _ _ (@aO _ (K) rfl) (pv 0) aD (fun _ _=>rfl))) (by rfl) (by rfl) (by rfl) (by rfl) (by rfl) (by rfl) (by rfl) (by intro _;rfl)) aB (by rfl)) (by decide) (by decide) (by rfl) (by rfl)) aB (by rfl)) (by decide) (by decide) (by rfl) (by rfl)) (@aQ _ _ _ _ _ _ _ _ _ (@aY _ (K) rfl) rfl T.n_len bG (@aA _ _ _ _ _ (pv 0) aB (by rfl)) (by decide) (by decide) (by rfl) (by rfl)) (@bT _ _ (by decide) (by decide))))),?_⟩
 refine⟨_,rfl,p,rfl,⟨_,SqL.of hp⟩,?_⟩
 refine bH (F:=K) (xs:=us) (by omega) (fun i ys H'=>H'=H∧ys=(zs.take i).map V.str) ⟨rfl,rfl⟩ ?_ ?_ ?_
 ·rintro i ys H' hi' ⟨rfl,rfl⟩
  exact⟨SqL.of hp,by rw[AA,AR];omega⟩
 ·rintro i x ys H' K1 K2 hx ⟨rfl,rfl⟩ k1 k2
  have hil:i<us.length:=(AC.mp hx).1
  obtain⟨d,ed⟩:∃ d,ds[i]?=some d:=⟨_,AB (by omega)⟩
  obtain⟨z,ez⟩:∃ z,zs[i]?=some z:=⟨_,AB (by omega)⟩
  obtain⟨v,ev,iv⟩:=hi.get ed
  rw[hx] at ev
  cases ev
  have ef:cK d=some z:=by
   have:=congrArg (fun l=>l[i]?) hz
   simpa [ed,ez] using this
  obtain⟨a,r,rfl,o⟩:=aKR iv ef
  refine⟨_,rfl,a,_,0,.str z,rfl,rfl,SqT.of o,aK (j:=0) rfl,k1 _ _ ⟨rfl,?_⟩⟩
  rw[Aa,ez]
  simp
 ·rintro ys H' ⟨rfl,rfl⟩
  intro p1 hp1
  have hys:(zs.take us.length).map V.str=(zs.map (Sum.inr:Str→Key)).map kV:=by
   rw[AG (by omega),aBS]
  refine⟨p1,zs.map Sum.inr,rfl,SqL.of (by rw[aC,hys]),by rw[AA];exact hn,fun p2 hp2=>?_⟩
  have hle:=aCE (zs.map (Sum.inr:Str→Key))
  rw[AA] at hle
  have np:p≠p1:=aN hp hp1
  have np2:p≠p2:=aN (show upd H' p1 _ p=_ from (aI np).trans hp) hp2
  refine⟨p2,_,_,rfl,aC,by omega,_,rfl,p,us,rfl,.inl (SqL.of (by rw[aI np2,aI np];exact hp)),rfl,?_⟩
  have e:decide (V.int ((uI (zs.map (Sum.inr:Str→Key))).length:Int)=V.int (us.length:Int))=decide zs.Nodup:=by
   rw[gR,Bb,decide_eq_true_iff,← fP,← sG,AA,beq_iff_eq]
   omega
  rw[e]
  exact cU.of ((gF.new hp2 rfl).trans (gF.lst hp1)) q
def aHT:Sp:=sp1 fun x H Q=>∃ d,Is H d x∧cI d=true∧Q (.bl (cH d)) H
theorem xV(T:Txt K mg C):Fc P w K mg base 3 "is_field" ["thing"] aHT:=by
 have G_p_is_tuple_of:Fc P w K mg base 1 "is_tuple_of" ["thing","length"] uN:=gL T
 have G_p_is_name:Fc P w K mg base 1 "is_name" ["thing"] aFM:=qL T
 have G_p_is_height:Fc P w K mg base 2 "is_height" ["thing"] gT:=dE T
 have G_p_is_amount:Fc P w K mg base 2 "is_amount" ["thing"] vB:=mF T
 refine T.d_p_is_field.fc xN mL (fun f cdv A outer s H vs Q E hr h=>?_)
 obtain⟨x,rfl,d,hd,hs,q⟩:=h
 refine⟨_,(@aE _ _ _ _ _ (@dX _ _ _ _ _ _ _ _ (@dR _ _ _ _ (@dI _ _ _ (@bE _ _ _ _ _ _ _ _ _ _ G_p_is_tuple_of (hr.mono (by decide)) (@aA _ _ _ _ _ (pv 0) (@aA _ _ _ _ _ aD aB (by rfl)) (by rfl)) (by rfl) (by decide) (by rfl) (by rfl)) (by intro _;rfl))) (@aG _ _ _ (@aT _ _ _ _ jT)) bW) (@aG _ _ _ (@aT _ _ _ _ (@cY _ _ _ _ _ _ _ (@bE _ _ _ _ _ _ _ _ _ _ G_p_is_name (hr.mono (by decide)) (@aA _ _ _ _ _ (@aZ _ _ _ _ _ _ _ (@aO _ (K) rfl) (pv 0) aD (fun _ _=>rfl)) aB (by rfl)) (by rfl) (by decide) (by rfl) (by rfl)) (@cY _ _ _ _ _ _ _ (@bE _ _ _ _ _ _ _ _ _ _ G_p_is_height (hr.mono (by decide)) (@aA _ _ _ _ _ (@aZ _ _ _ _ _ _ _ (@aO _ (K) rfl) (pv 0) aD (fun _ _=>rfl)) aB (by rfl)) (by rfl) (by decide) (by rfl) (by rfl)) (@eI _ _ _ _ _ (@bE _ _ _ _ _ _ _ _ _ _ G_p_is_amount (hr.mono (by decide)) (@aA _ _ _ _ _ (@aZ _ _ _ _ _ _ _ (@aO _ (K) rfl) (pv 0) aD (fun _ _=>rfl)) aB (by rfl)) (by rfl) (by decide) (by rfl) (by rfl)))))))),?_⟩
 refine⟨_,rfl,_,_,rfl,d,3,hd,rfl,_,rfl,?_⟩
 by_cases h3:∃ a b c,d=.tup [a,b,c]
 ·obtain⟨a,b,c,rfl⟩:=h3
  obtain⟨t,us,rfl,o,va,r1,rfl,ha,vb,r2,rfl,hb,vc,r3,rfl,hc,h0⟩:=hd
  cases (show r3=[] from h0)
  have sa:cI a=true:=by
   exact iN (yN hs) AO
  have q:Q (.bl (pJ a && (dZ b && jX c))) H:=q
  refine bM ⟨_,rfl,t,_,0,va,rfl,rfl,SqT.of o,aK (j:=0) rfl,_,rfl,a,ha,sa,_,rfl,?_⟩
  cases ea:pJ a with
  | false=>rw[ea] at q;exact bM q
  | true =>
   rw[ea,BT] at q
   refine cR ⟨_,rfl,t,_,1,vb,rfl,rfl,SqT.of o,aK (j:=1) rfl,_,rfl,b,hb,_,rfl,?_⟩
   cases eb:dZ b with
   | false=>rw[eb] at q;exact bM q
   | true =>
    rw[eb,BT] at q
    exact cR ⟨_,rfl,t,_,2,vc,rfl,rfl,SqT.of o,aK (j:=2) rfl,_,rfl,c,hc,q⟩
 ·have e1:cH d=false:=by
   unfold cH
   split
   ·rename_i a b c
    exact absurd ⟨a,b,c,rfl⟩ h3
   ·rfl
  have e2:aHI 3 d=false:=by
   cases d with
   | tup ds =>
    refine decide_eq_false (fun e=>?_)
    have e':ds.length=3:=by omega
    match ds,e',h3 with
    | [a,b,c],_,h3=>exact h3 ⟨a,b,c,rfl⟩
   | _=>rfl
  dsimp only
  rw[e2]
  rw[e1] at q
  exact cR q
theorem nW{p:Dv→Bool}(hp:∀ d,p d=true→∃ z,cK d=some z):∀ {ds:List Dv},ds.all p=true→∃ zs:List Str,ds.map cK=zs.map some
 | [],_=>⟨[],rfl⟩
 | d :: ds,h=>by
  rw[Cy,AV] at h
  obtain⟨z,e⟩:=hp d h.1
  obtain⟨zs,e2⟩:=nW hp h.2
  exact⟨z :: zs,by rw[AU,AU,e,e2]⟩
theorem xZ(d:Dv)(h:cH d=true):∃ z,cK d=some z:=by
 unfold cH at h
 split at h
 ·rename_i a b c
  rw[AV] at h
  cases a with
  | str z=>exact⟨z,rfl⟩
  | _=>cases h.1
 ·cases h
def aDB:Sp:=sp1 fun x H Q=>∃ d,Is H d x∧cI d=true∧Q (.bl (kD d)) H
theorem uC(T:Txt K mg C):Fc P w K mg base 4 "are_fields" ["thing"] aDB:=by
 have G_p_is_list_of:Fc P w K mg base 1 "is_list_of" ["thing","most"] lK:=fJ T
 have G_p_is_field:Fc P w K mg base 3 "is_field" ["thing"] aHT:=xV T
 have G_p_none_twice:Fc P w K mg base 1 "none_twice" ["rows"] uM:=hG T
 refine T.d_p_are_fields.fcD tX mL (fun f cdv A outer s H vs Q E hr h=>?_)
 obtain⟨x,rfl,d,hd,hs,q⟩:=h
 have big:=bY
 refine⟨_,(@aG _ _ _ (@aT _ _ _ _ (@cY _ _ _ _ _ _ _ (@bE _ _ _ _ _ _ _ _ _ _ G_p_is_list_of (hr.mono (by decide)) (@aA _ _ _ _ _ (pv 0) (@aA _ _ _ _ _ (@rK _ _ _ _ T.g_MOST_FIELDS (by rfl) (by decide)) aB (by rfl)) (by rfl)) (by rfl) (by decide) (by rfl) (by rfl)) (@cY _ _ _ _ _ _ _ (@aQ _ _ _ _ _ _ _ _ _ (@kC _ rfl) rfl T.n_all iI (@aA _ _ _ _ _ (@cD _ _ _ _ _ _ _ _ _ _ _ ["row"] 1 [] rfl (@bP _ _ _ _ (pv 0)) (fun R=>@bA _ _ (0) _ (show Aw (["row"]:List Str) by decide +kernel) rfl (Or.inl rfl) (by trivial)) (@aW _ _ (by decide)) (fun R=>bZ) (fun R=>(@bE _ _ _ _ _ _ _ _ _ _ G_p_is_field (hr.mono (by decide)) (@aA _ _ _ _ _ (pv 0) aB (by rfl)) (by rfl) (by decide) (by rfl) (by rfl))) (by rfl) (by rfl) (by rfl) (by rfl) (by rfl) (by rfl) (by rfl) (by intro _;rfl)) aB (by rfl)) (by decide) (by decide) (by rfl) (by rfl)) (@eI _ _ _ _ _ (@bE _ _ _ _ _ _ _ _ _ _ G_p_none_twice (hr.mono (by decide)) (@aA _ _ _ _ _ (pv 0) aB (by rfl)) (by rfl) (by decide) (by rfl) (by rfl))))))),?_⟩
 refine⟨_,rfl,_,_,rfl,d,12,hd,rfl,_,rfl,?_⟩
 cases d with
 | lst ds =>
  obtain⟨p,us,rfl,o,hi⟩:=hd
  have l1:=hi.length
  have hs':=An.mp (show (decide (ds.length≤1000) && dD ds)=true from hs)
  have l2:ds.length≤1000:=of_decide_eq_true hs'.1
  have q:Q (.bl ((decide (1≤ds.length) && decide (ds.length≤12)) && (ds.all cH && decide ((ds.map cK).Nodup)))) H:=q
  have e0:(decide (1≤ds.length) && decide ((ds.length:Int)≤12))=(decide (1≤ds.length) && decide (ds.length≤12)):=by
   congr 1
   rw[Bb,decide_eq_true_iff,decide_eq_true_iff]
   omega
  show if (decide (1≤ds.length) && decide ((ds.length:Int)≤12))=true then _ else _
  rw[e0]
  refine lF (fun h1=>?_) (fun h1=>?_)
  ·rw[h1,BT] at q
   refine⟨_,rfl,p,rfl,⟨_,SqL.of o⟩,?_⟩
   refine bH (F:=K) (xs:=us) (by omega) (fun i ys H'=>H'=H∧ys=(ds.take i).map fun d=>V.bl (cH d)) ⟨rfl,rfl⟩ ?_ ?_ ?_
   ·rintro i ys H' hi' ⟨rfl,rfl⟩
    exact⟨SqL.of o,by rw[AA,AR];omega⟩
   ·rintro i x ys H' K1 K2 hx ⟨rfl,rfl⟩ k1 k2
    have hil:i<us.length:=(AC.mp hx).1
    obtain⟨d,ed⟩:∃ d,ds[i]?=some d:=⟨_,AB (by omega)⟩
    obtain⟨v,ev,iv⟩:=hi.get ed
    rw[hx] at ev
    cases ev
    refine⟨_,rfl,_,rfl,d,iv,iN hs'.2 (AI ed),k1 _ _ ⟨rfl,?_⟩⟩
    rw[Aa,ed]
    simp
   ·rintro ys H' ⟨rfl,rfl⟩
    intro p1 hp1
    have np:p≠p1:=aN o hp1
    refine⟨p1,ds.map cH,rfl,SqL.of ?_,_,rfl,?_⟩
    ·rw[aC,AG (by omega),Ai]
     rfl
    have e1:(ds.map cH).all id=ds.all cH:=by rw[Dh];rfl
    rw[e1]
    refine lF (fun h2=>?_) (fun h2=>?_)
    ·rw[h2,BT] at q
     obtain⟨zs,ez⟩:=nW xZ h2
     have l3:zs.length=ds.length:=by have:=congrArg CS ez;simpa using this.symm
     refine⟨_,rfl,_,rfl,p,us,ds,zs,rfl,by rw[aI np];exact o,IsL.same (aH.upd hp1) _ _ hi,ez,by omega,?_⟩
     have e2:decide zs.Nodup=decide (ds.map cK).Nodup:=by rw[ez,Bb,decide_eq_true_iff,decide_eq_true_iff,eJ]
     rw[e2]
     exact cU.of (gF.lst hp1) q
    ·have h2':ds.all cH=false:=by simpa using h2
     rw[h2'] at q
     exact cU.of (gF.lst hp1) q
  ·have h1':(decide (1≤ds.length) && decide (ds.length≤12))=false:=by simpa using h1
   rw[h1'] at q
   exact cU.of (.refl _) q
 | _=>exact bM (cU.of (.refl _) q)
def aHQ(K:AE):Sp:=sp3 fun x y u H Q=>∃ (a b:Dv) (p:Addr) (zs:List Str),Is H a x∧Is H b y∧u=.ref p∧SqL K H p (zs.map V.str)∧Q (.bl (nB zs a b)) H
theorem wF(T:Txt K mg C):Fc P w K mg base 2 "are_sides" ["one","other","sides"] (aHQ K):=by
 have G_p_is_one_of:Fc P w K mg base 1 "is_one_of" ["thing","names"] (pU K):=fZ T
 refine T.d_p_are_sides.fc vM rR (fun f cdv A outer s H vs Q E hr h=>?_)
 obtain⟨x,y,u,rfl,a,b,p,zs,ha,hb,rfl,hp,q⟩:=h
 refine⟨_,(@aG _ _ _ (@aT _ _ _ _ (@cY _ _ _ _ _ _ _ (@bE _ _ _ _ _ _ _ _ _ _ G_p_is_one_of (hr.mono (by decide)) (@aA _ _ _ _ _ (pv 0) (@aA _ _ _ _ _ (pv 2) aB (by rfl)) (by rfl)) (by rfl) (by decide) (by rfl) (by rfl)) (@cY _ _ _ _ _ _ _ (@bE _ _ _ _ _ _ _ _ _ _ G_p_is_one_of (hr.mono (by decide)) (@aA _ _ _ _ _ (pv 1) (@aA _ _ _ _ _ (pv 2) aB (by rfl)) (by rfl)) (by rfl) (by decide) (by rfl) (by rfl)) (@eI _ _ _ _ _ (@dW _ _ _ _ _ _ _ _ mD (pv 0) (pv 1) (@bT _ _ (by decide) (by decide)))))))),?_⟩
 have q:Q (.bl (fO zs a && (fO zs b && !deq a b))) H:=q
 refine⟨_,rfl,_,rfl,_,_,rfl,a,p,zs,ha,rfl,hp,_,rfl,?_⟩
 cases ea:fO zs a with
 | false=>rw[ea] at q;exact bM q
 | true =>
  rw[ea,BT] at q
  refine cR ⟨_,rfl,_,rfl,_,_,rfl,b,p,zs,hb,rfl,hp,_,rfl,?_⟩
  cases eb:fO zs b with
  | false=>rw[eb] at q;exact bM q
  | true =>
   rw[eb,BT] at q
   cases a with
   | str z =>
    cases b with
    | str z' =>
     cases (show x=.str z from ha)
     cases (show y=.str z' from hb)
     refine cR ⟨_,rfl,_,rfl,rfl,?_⟩
     have e:(!decide (V.str z=V.str z'))=!deq (.str z) (.str z'):=by rw[kP];rfl
     rw[e]
     exact q
    | _=>cases eb
   | _=>cases ea
def aLP:Sp:=sp2 fun x y H Q=>∃ (d:Dv) (j:Int),Is H d x∧y=.int j∧Q (.bl (mR (.int j) d)) H
theorem aBN(T:Txt K mg C):Fc P w K mg base 3 "is_sill" ["thing","crown"] aLP:=by
 have G_p_is_height:Fc P w K mg base 2 "is_height" ["thing"] gT:=dE T
 refine T.d_p_is_sill.fc aAX iU (fun f cdv A outer s H vs Q E hr h=>?_)
 obtain⟨x,y,rfl,d,j,hd,rfl,q⟩:=h
 refine⟨_,(@aG _ _ _ (@aT _ _ _ _ (@aTC _ _ _ _ _ _ _ (@dW _ _ _ _ _ _ _ _ aUY (pv 0) kG (@bT _ _ (by decide) (by decide))) (@eI _ _ _ _ _ (@cY _ _ _ _ _ _ _ (@bE _ _ _ _ _ _ _ _ _ _ G_p_is_height (hr.mono (by decide)) (@aA _ _ _ _ _ (pv 0) aB (by rfl)) (by rfl) (by decide) (by rfl) (by rfl)) (@eI _ _ _ _ _ (@dW _ _ _ _ _ _ _ _ yY (pv 0) (pv 1) (@bT _ _ (by decide) (by decide))))))))),?_⟩
 refine⟨_,rfl,rfl,_,rfl,?_⟩
 cases d with
 | non =>
  cases (show x=.non from hd)
  rw[decide_eq_true rfl]
  exact cR q
 | int i =>
  cases (show x=.int i from hd)
  rw[decide_eq_false (show ¬ V.int i=V.non by intro z;cases z)]
  refine bM ⟨_,rfl,_,rfl,.int i,rfl,_,rfl,?_⟩
  have q:Q (.bl (hgt i && decide (i<j))) H:=q
  show if hgt i=true then _ else _
  cases e:hgt i with
  | false=>rw[e] at q;exact bM q
  | true=>rw[e,BT] at q;exact cR ⟨_,rfl,_,rfl,_,_,rfl,rfl,q⟩
 | bl b =>
  cases (show x=.bl b from hd)
  rw[decide_eq_false (show ¬ V.bl b=V.non by intro z;cases z)]
  exact bM ⟨_,rfl,_,rfl,.bl b,rfl,_,rfl,bM q⟩
 | str b =>
  cases (show x=.str b from hd)
  rw[decide_eq_false (show ¬ V.str b=V.non by intro z;cases z)]
  exact bM ⟨_,rfl,_,rfl,.str b,rfl,_,rfl,bM q⟩
 | lst b =>
  obtain⟨a,us,rfl,o⟩:=id hd
  rw[decide_eq_false (show ¬ V.ref a=V.non by intro z;cases z)]
  exact bM ⟨_,rfl,_,rfl,.lst b,hd,_,rfl,bM q⟩
 | tup b =>
  obtain⟨a,us,rfl,o⟩:=id hd
  rw[decide_eq_false (show ¬ V.ref a=V.non by intro z;cases z)]
  exact bM ⟨_,rfl,_,rfl,.tup b,hd,_,rfl,bM q⟩
 | dct b c =>
  obtain⟨a,us,rfl,o⟩:=id hd
  rw[decide_eq_false (show ¬ V.ref a=V.non by intro z;cases z)]
  exact bM ⟨_,rfl,_,rfl,.dct b c,hd,_,rfl,bM q⟩
def aLY(K:AE):Sp:=sp2 fun x y H Q=>∃ (d:Dv) (p:Addr) (zs:List Str),Is H d x∧cI d=true∧y=.ref p∧SqL K H p (zs.map V.str)∧Q (.bl (cO zs d)) H
theorem aBO(T:Txt K mg C):Fc P w K mg base 4 "is_dyke" ["thing","sides"] (aLY K):=by
 have G_p_is_tuple_of:Fc P w K mg base 1 "is_tuple_of" ["thing","length"] uN:=gL T
 have G_p_is_name:Fc P w K mg base 1 "is_name" ["thing"] aFM:=qL T
 have G_p_are_sides:Fc P w K mg base 2 "are_sides" ["one","other","sides"] (aHQ K):=wF T
 have G_p_is_height:Fc P w K mg base 2 "is_height" ["thing"] gT:=dE T
 have G_p_is_amount:Fc P w K mg base 2 "is_amount" ["thing"] vB:=mF T
 have G_p_is_sill:Fc P w K mg base 3 "is_sill" ["thing","crown"] aLP:=aBN T
 refine T.d_p_is_dyke.fc aAZ iU (fun f cdv A outer s H vs Q E hr h=>?_)
 obtain⟨x,y,rfl,d,p,zs,hd,hs,rfl,hp,q⟩:=h
 refine⟨_,(@aE _ _ _ _ _ (@dX _ _ _ _ _ _ _ _ (@PW.pt _ _ _ (@lX _ _ _ _ _ _ _ (@dR _ _ _ _ (@dI _ _ _ (@bE _ _ _ _ _ _ _ _ _ _ G_p_is_tuple_of (hr.mono (by decide)) (@aA _ _ _ _ _ (pv 0) (@aA _ _ _ _ _ aD aB (by rfl)) (by rfl)) (by rfl) (by decide) (by rfl) (by rfl)) (by intro _;rfl))) (@lX _ _ _ _ _ _ _ (@dR _ _ _ _ (@dI _ _ _ (@bE _ _ _ _ _ _ _ _ _ _ G_p_is_name (hr.mono (by decide)) (@aA _ _ _ _ _ (@aZ _ _ _ _ _ _ _ (@aO _ (K) rfl) (pv 0) aD (fun _ _=>rfl)) aB (by rfl)) (by rfl) (by decide) (by rfl) (by rfl)) (by intro _;rfl))) (@jF _ _ _ _ (@dR _ _ _ _ (@dI _ _ _ (@bE _ _ _ _ _ _ _ _ _ _ G_p_are_sides (hr.mono (by decide)) (@aA _ _ _ _ _ (@aZ _ _ _ _ _ _ _ (@aO _ (K) rfl) (pv 0) aD (fun _ _=>rfl)) (@aA _ _ _ _ _ (@aZ _ _ _ _ _ _ _ (@aO _ (K) rfl) (pv 0) aD (fun _ _=>rfl)) (@aA _ _ _ _ _ (pv 1) aB (by rfl)) (by rfl)) (by rfl)) (by rfl) (by decide) (by rfl) (by rfl)) (by intro _;rfl))))))) (@aG _ _ _ (@aT _ _ _ _ jT)) bW) (@aG _ _ _ (@aT _ _ _ _ (@cY _ _ _ _ _ _ _ (@bE _ _ _ _ _ _ _ _ _ _ G_p_is_height (hr.mono (by decide)) (@aA _ _ _ _ _ (@aZ _ _ _ _ _ _ _ (@aO _ (K) rfl) (pv 0) aD (fun _ _=>rfl)) aB (by rfl)) (by rfl) (by decide) (by rfl) (by rfl)) (@cY _ _ _ _ _ _ _ (@bE _ _ _ _ _ _ _ _ _ _ G_p_is_amount (hr.mono (by decide)) (@aA _ _ _ _ _ (@aZ _ _ _ _ _ _ _ (@aO _ (K) rfl) (pv 0) aD (fun _ _=>rfl)) aB (by rfl)) (by rfl) (by decide) (by rfl) (by rfl)) (@eI _ _ _ _ _ (@bE _ _ _ _ _ _ _ _ _ _ G_p_is_sill (hr.mono (by decide)) (@aA _ _ _ _ _ (@aZ _ _ _ _ _ _ _ (@aO _ (K) rfl) (pv 0) aD (fun _ _=>rfl)) (@aA _ _ _ _ _ (@aZ _ _ _ _ _ _ _ (@aO _ (K) rfl) (pv 0) aD (fun _ _=>rfl)) aB (by rfl)) (by rfl)) (by rfl) (by decide) (by rfl) (by rfl)))))))),?_⟩
 refine⟨_,rfl,_,_,rfl,d,6,hd,rfl,_,rfl,?_⟩
 by_cases h6:∃ n a b c r l,d=.tup [n,a,b,c,r,l]
 ·obtain⟨n,a,b,c,r,l,rfl⟩:=h6
  obtain⟨t,us,rfl,o,v0,r0,rfl,i0,v1,r1,rfl,i1,v2,r2,rfl,i2,v3,r3,rfl,i3,v4,r4,rfl,i4,v5,r5,rfl,i5,h0⟩:=hd
  cases (show r5=[] from h0)
  have sn:cI n=true:=by
   exact iN (yN hs) AO
  have q:Q (.bl (pJ n && nB zs a b && (dZ c && (jX r && mR c l)))) H:=q
  have at_:∀ (j:Nat) (v:V),([v0,v1,v2,v3,v4,v5]:List V)[j]?=some v→atI [v0,v1,v2,v3,v4,v5] (j:Int)=some v:=fun j v e=>aK e
  refine bM ⟨_,rfl,t,_,0,v0,rfl,rfl,SqT.of o,at_ 0 _ rfl,_,rfl,n,i0,sn,_,rfl,?_⟩
  cases en:pJ n with
  | false=>rw[en] at q;exact cR q
  | true =>
   rw[en,BT] at q
   refine bM ⟨_,rfl,t,_,1,v1,rfl,rfl,SqT.of o,at_ 1 _ rfl,_,rfl,t,_,2,v2,rfl,rfl,SqT.of o,at_ 2 _ rfl,_,rfl,_,_,_,rfl,a,b,p,zs,i1,i2,rfl,hp,_,rfl,?_⟩
   cases es:nB zs a b with
   | false=>rw[es] at q;exact cR q
   | true =>
    rw[es,BT] at q
    refine bM ⟨_,rfl,t,_,3,v3,rfl,rfl,SqT.of o,at_ 3 _ rfl,_,rfl,c,i3,_,rfl,?_⟩
    cases ec:dZ c with
    | false=>rw[ec] at q;exact bM q
    | true =>
     rw[ec,BT] at q
     refine cR ⟨_,rfl,t,_,4,v4,rfl,rfl,SqT.of o,at_ 4 _ rfl,_,rfl,r,i4,_,rfl,?_⟩
     cases er:jX r with
     | false=>rw[er] at q;exact bM q
     | true =>
      rw[er,BT] at q
      cases c with
      | int j =>
       cases (show v3=.int j from i3)
       exact cR ⟨_,rfl,t,_,5,v5,rfl,rfl,SqT.of o,at_ 5 _ rfl,_,rfl,t,_,3,_,rfl,rfl,SqT.of o,at_ 3 _ rfl,_,_,rfl,l,j,i5,rfl,q⟩
      | _=>cases ec
 ·have e1:cO zs d=false:=by
   unfold cO
   split
   ·rename_i n a b c r l
    exact absurd ⟨n,a,b,c,r,l,rfl⟩ h6
   ·rfl
  have e2:aHI 6 d=false:=by
   cases d with
   | tup ds =>
    refine decide_eq_false (fun e=>?_)
    have e':ds.length=6:=by omega
    match ds,e',h6 with
    | [n,a,b,c,r,l],_,h6=>exact h6 ⟨n,a,b,c,r,l,rfl⟩
   | _=>rfl
  dsimp only
  rw[e2]
  rw[e1] at q
  exact cR q
theorem aBY{zs:List Str}(d:Dv)(h:cO zs d=true):∃ z,cK d=some z:=by
 unfold cO at h
 split at h
 ·rename_i n a b c r l
  rw[AV,AV] at h
  cases n with
  | str z=>exact⟨z,rfl⟩
  | _=>cases h.1.1
 ·cases h
def aHU(K:AE):Sp:=sp2 fun x y H Q=>∃ (d:Dv) (p:Addr) (zs:List Str),Is H d x∧cI d=true∧y=.ref p∧H p=some (.lst (zs.map V.str))∧Q (.bl (nC zs d)) H
theorem wG(T:Txt K mg C):Fc P w K mg base 5 "are_dykes" ["thing","sides"] (aHU K):=by
 have G_p_is_list_of:Fc P w K mg base 1 "is_list_of" ["thing","most"] lK:=fJ T
 have G_p_is_dyke:Fc P w K mg base 4 "is_dyke" ["thing","sides"] (aLY K):=aBO T
 have G_p_none_twice:Fc P w K mg base 1 "none_twice" ["rows"] uM:=hG T
 refine T.d_p_are_dykes.fcD vN iU (fun f cdv A outer s H vs Q E hr h=>?_)
 obtain⟨x,y,rfl,d,p0,zs0,hd,hs,rfl,hp0,q⟩:=h
 have big:=bY
 refine⟨_,(@aG _ _ _ (@aT _ _ _ _ (@cY _ _ _ _ _ _ _ (@bE _ _ _ _ _ _ _ _ _ _ G_p_is_list_of (hr.mono (by decide)) (@aA _ _ _ _ _ (pv 0) (@aA _ _ _ _ _ (@rK _ _ _ _ T.g_MOST_DYKES (by rfl) (by decide)) aB (by rfl)) (by rfl)) (by rfl) (by decide) (by rfl) (by rfl)) (@cY _ _ _ _ _ _ _ (@aQ _ _ _ _ _ _ _ _ _ (@kC _ rfl) rfl T.n_all iI (@aA _ _ _ _ _ (@cD _ _ _ _ _ _ _ _ _ _ _ ["row","sides"] 1 [1] rfl (@bP _ _ _ _ (pv 0)) (fun R=>@bA _ _ (0) _ (show Aw (["row","sides"]:List Str) by decide +kernel) rfl (Or.inl rfl) (by trivial)) (@aW _ _ (by decide)) (fun R=>bZ) (fun R=>(@bE _ _ _ _ _ _ _ _ _ _ G_p_is_dyke (hr.mono (by decide)) (@aA _ _ _ _ _ (pv 0) (@aA _ _ _ _ _ (pv 1) aB (by rfl)) (by rfl)) (by rfl) (by decide) (by rfl) (by rfl))) (by rfl) (by rfl) (by rfl) (by rfl) (by rfl) (by rfl) (by rfl) (by intro _;rfl)) aB (by rfl)) (by decide) (by decide) (by rfl) (by rfl)) (@eI _ _ _ _ _ (@bE _ _ _ _ _ _ _ _ _ _ G_p_none_twice (hr.mono (by decide)) (@aA _ _ _ _ _ (pv 0) aB (by rfl)) (by rfl) (by decide) (by rfl) (by rfl))))))),?_⟩
 refine⟨_,rfl,_,_,rfl,d,40,hd,rfl,_,rfl,?_⟩
 cases d with
 | lst ds =>
  obtain⟨p,us,rfl,o,hi⟩:=hd
  have l1:=hi.length
  have hs':=An.mp (show (decide (ds.length≤1000) && dD ds)=true from hs)
  have l2:ds.length≤1000:=of_decide_eq_true hs'.1
  have q:Q (.bl ((decide (1≤ds.length) && decide (ds.length≤40)) && (ds.all (cO zs0) && decide ((ds.map cK).Nodup)))) H:=q
  have e0:(decide (1≤ds.length) && decide ((ds.length:Int)≤40))=(decide (1≤ds.length) && decide (ds.length≤40)):=by
   congr 1
   rw[Bb,decide_eq_true_iff,decide_eq_true_iff]
   omega
  show if (decide (1≤ds.length) && decide ((ds.length:Int)≤40))=true then _ else _
  rw[e0]
  refine lF (fun h1=>?_) (fun h1=>?_)
  ·rw[h1,BT] at q
   refine⟨_,rfl,p,rfl,⟨_,SqL.of o⟩,?_⟩
   refine bH (F:=K) (xs:=us) (by omega) (fun i ys H'=>H'=H∧ys=(ds.take i).map fun d=>V.bl (cO zs0 d)) ⟨rfl,rfl⟩ ?_ ?_ ?_
   ·rintro i ys H' hi' ⟨rfl,rfl⟩
    exact⟨SqL.of o,by rw[AA,AR];omega⟩
   ·rintro i x ys H' K1 K2 hx ⟨rfl,rfl⟩ k1 k2
    have hil:i<us.length:=(AC.mp hx).1
    obtain⟨d,ed⟩:∃ d,ds[i]?=some d:=⟨_,AB (by omega)⟩
    obtain⟨v,ev,iv⟩:=hi.get ed
    rw[hx] at ev
    cases ev
    refine⟨_,rfl,_,rfl,_,_,rfl,d,p0,zs0,iv,iN hs'.2 (AI ed),rfl,SqL.of hp0,k1 _ _ ⟨rfl,?_⟩⟩
    rw[Aa,ed]
    simp
   ·rintro ys H' ⟨rfl,rfl⟩
    intro p1 hp1
    have np:p≠p1:=aN o hp1
    refine⟨p1,ds.map (cO zs0),rfl,SqL.of ?_,_,rfl,?_⟩
    ·rw[aC,AG (by omega),Ai]
     rfl
    have e1:(ds.map (cO zs0)).all id=ds.all (cO zs0):=by rw[Dh];rfl
    rw[e1]
    refine lF (fun h2=>?_) (fun h2=>?_)
    ·rw[h2,BT] at q
     obtain⟨zs,ez⟩:=nW aBY h2
     have l3:zs.length=ds.length:=by have:=congrArg CS ez;simpa using this.symm
     refine⟨_,rfl,_,rfl,p,us,ds,zs,rfl,by rw[aI np];exact o,IsL.same (aH.upd hp1) _ _ hi,ez,by omega,?_⟩
     have e2:decide zs.Nodup=decide (ds.map cK).Nodup:=by rw[ez,Bb,decide_eq_true_iff,decide_eq_true_iff,eJ]
     rw[e2]
     exact cU.of (gF.lst hp1) q
    ·have h2':ds.all (cO zs0)=false:=by simpa using h2
     rw[h2'] at q
     exact cU.of (gF.lst hp1) q
  ·have h1':(decide (1≤ds.length) && decide (ds.length≤40))=false:=by simpa using h1
   rw[h1'] at q
   exact cU.of (.refl _) q
 | _=>exact bM (cU.of (.refl _) q)
def aFN(C:Addr):Sp:=sp3 fun x v1 v2 H Q=>∃ (p dx:Addr) (fs ds:List Dv),x=.ref p∧H p=some (.ins C dx [])∧Is H (.lst fs) v1∧Is H (.lst ds) v2∧cI (.lst fs)=true∧cI (.lst ds)=true ∧
 kD (.lst fs)=true∧nC ("sea" :: fs.map aL) (.lst ds)=true∧∀ H',LandAt C H' p fs ds→(∀ b o,H b=some o→b≠p→H' b=some o)→Q .non H'
def aFK(C:Addr)(sel:List Dv→List Dv→List Dv):Sp:=sp1 fun x H Q=>∃ (p:Addr) (fs ds:List Dv),x=.ref p∧LandAt C H p fs ds∧∀ (l:Addr) (vs:List V) (H':Hp),aH H H'→H l=none→H' l=some (.lst vs)→IsL H' (sel fs ds) vs→Q (.ref l) H'
def aAO(C:Addr)(sel:List Dv→List Dv→List Str):Sp:=sp1 fun x H Q=>∃ (p:Addr) (fs ds:List Dv),x=.ref p∧LandAt C H p fs ds∧∀ (l:Addr) (H':Hp),aH H H'→H l=none→H' l=some (.lst ((sel fs ds).map V.str))→Q (.ref l) H'
def aHR(C:Addr)(sel:List Dv→List Dv→List Dv):Sp:=sp1 fun x H Q=>∃ (p:Addr) (fs ds:List Dv),x=.ref p∧LandAt C H p fs ds∧∀ (l:Addr) (vs:List V),H l=none→IsL H (sel fs ds) vs→Q (.ref l) (upd H l (.lst vs))
def uO(C:Addr)(sel:List Dv→List Dv→List Str):Sp:=sp1 fun x H Q=>∃ (p:Addr) (fs ds:List Dv),x=.ref p∧LandAt C H p fs ds∧∀ (l:Addr),H l=none→Q (.ref l) (upd H l (.lst ((sel fs ds).map V.str)))
theorem aMK{C:Addr}{sel:List Dv→List Dv→List Dv}:∀ vs H Q E,aFK C sel vs H Q E→aHR C sel vs H Q E:=by
 rintro vs H Q E ⟨x,rfl,p,fs,ds,rfl,L,q⟩
 exact⟨_,rfl,p,fs,ds,rfl,L,fun l us hl hi=>q l us _ (aH.upd hl) hl aC (IsL.same (aH.upd hl) _ _ hi)⟩
theorem aLL{C:Addr}{sel:List Dv→List Dv→List Str}:∀ vs H Q E,aAO C sel vs H Q E→uO C sel vs H Q E:=by
 rintro vs H Q E ⟨x,rfl,p,fs,ds,rfl,L,q⟩
 exact⟨_,rfl,p,fs,ds,rfl,L,fun l hl=>q l _ (aH.upd hl) hl aC⟩
theorem rO(T:Txt K mg C):Mc P w K mg base 1 C "dykes" ["self"] (aHR C fun _ ds=>ds):=by
 refine T.m_land_p_dykes.mcD tY mL (fun f cdv A outer s H vs Q E hr h=>?_)
 obtain⟨x,rfl,p,fs,ds,rfl,L,q⟩:=h
 obtain⟨dx,d1,d2,hx,t1,⟨k1,h1,e1,i1⟩⟩:=L.ex
 refine⟨_,(@aG _ _ _ (@aT _ _ _ _ (@bJ _ _ _ _ _ _ _ _ _ (@sJ _ rfl) rfl T.n_list dU (@aA _ _ _ _ _ (@aUV _ _ _ _ _ _ _ _ _ PySem.F.plainAttrs_dict PySem.F.slot_dict_values PySem.F.type_dict_values aKG (@vY _ _ _ _ _ (pv 0) rfl) (by rfl) (by rfl)) aB (by rfl)) (by decide) (by decide) (by rfl) (by rfl)))),?_⟩
 refine⟨_,rfl,p,C,dx,_,_,rfl,hx,T.cl_Land,T.a_dyke_rows,aBX _ _,.inr (.inr (.inl ⟨rfl,.inl ⟨_,h1⟩⟩)),d2,k1,rfl,rfl,.inl h1,fun v hv=>?_⟩
 have nv:d2≠v:=aN h1 hv
 refine⟨v,d2,k1,rfl,aC,.inl (by rw[aI nv];exact h1),fun l hl=>?_⟩
 exact cU.of (gF.under hv rfl hl) (q l _ ((aH.upd hv).free hl) i1)
theorem uD(T:Txt K mg C):Mc P w K mg base 1 C "dykes" ["self"] (aFK C fun _ ds=>ds):=(rO T).imp aMK
theorem wN{kvs:List (Key×V)}{ds:List Dv}(e:kvs.map (·.1)=ds.map mQ):(kvs.map fun kv=>kV kv.1)=(ds.map aL).map V.str:=by
 have h:(kvs.map fun kv=>kV kv.1)=(kvs.map (·.1)).map kV:=by rw[Ai];rfl
 rw[h,e,Ai,Ai]
 rfl
theorem kJ(T:Txt K mg C):Mc P w K mg base 1 C "field_names" ["self"] (uO C fun fs _=>fs.map aL):=by
 refine T.m_land_p_field_names.mc lB mL (fun f cdv A outer s H vs Q E hr h=>?_)
 obtain⟨x,rfl,p,fs,ds,rfl,L,q⟩:=h
 obtain⟨dx,d1,d2,hx,⟨k1,h1,e1,i1⟩,t2⟩:=L.ex
 refine⟨_,(@aG _ _ _ (@aT _ _ _ _ (@bJ _ _ _ _ _ _ _ _ _ (@gE _ rfl) rfl T.n_list dU (@aA _ _ _ _ _ (@vY _ _ _ _ _ (pv 0) rfl) aB (by rfl)) (by decide) (by decide) (by rfl) (by rfl)))),?_⟩
 refine⟨_,rfl,p,C,dx,_,_,rfl,hx,T.cl_Land,T.a_field_rows,aIN _ _,d1,k1,rfl,.inl h1,fun l hl=>?_⟩
 have:=q l hl
 rw[wN e1]
 exact this
theorem lE(T:Txt K mg C):Mc P w K mg base 1 C "dyke_names" ["self"] (uO C fun _ ds=>ds.map aL):=by
 refine T.m_land_p_dyke_names.mc lO mL (fun f cdv A outer s H vs Q E hr h=>?_)
 obtain⟨x,rfl,p,fs,ds,rfl,L,q⟩:=h
 obtain⟨dx,d1,d2,hx,t1,⟨k1,h1,e1,i1⟩⟩:=L.ex
 refine⟨_,(@aG _ _ _ (@aT _ _ _ _ (@bJ _ _ _ _ _ _ _ _ _ (@gE _ rfl) rfl T.n_list dU (@aA _ _ _ _ _ (@vY _ _ _ _ _ (pv 0) rfl) aB (by rfl)) (by decide) (by decide) (by rfl) (by rfl)))),?_⟩
 refine⟨_,rfl,p,C,dx,_,_,rfl,hx,T.cl_Land,T.a_dyke_rows,aBX _ _,d2,k1,rfl,.inl h1,fun l hl=>?_⟩
 have:=q l hl
 rw[wN e1]
 exact this
theorem gH(T:Txt K mg C):Mc P w K mg base 1 C "field_names" ["self"] (aAO C fun fs _=>fs.map aL):=(kJ T).imp aLL
theorem kA{H:Hp}{n a b:Str}{c r:Int}{s:Dv}{v:V}(h:Is H (.tup [.str n,.str a,.str b,.int c,.int r,s]) v):∃ t vs,v=.ref t∧H t=some (.tup [.str n,.str a,.str b,.int c,.int r,vs])∧Is H s vs:=by
 obtain⟨t,us,rfl,o,v0,r0,rfl,i0,v1,r1,rfl,i1,v2,r2,rfl,i2,v3,r3,rfl,i3,v4,r4,rfl,i4,v5,r5,rfl,i5,h0⟩:=h
 cases (show r5=[] from h0)
 cases (show v0=_ from i0)
 cases (show v1=_ from i1)
 cases (show v2=_ from i2)
 cases (show v3=_ from i3)
 cases (show v4=_ from i4)
 exact⟨t,v5,rfl,o,i5⟩
theorem iH{H:Hp}{n:Str}{g e:Int}{v:V}(h:Is H (.tup [.str n,.int g,.int e]) v):∃ t,v=.ref t∧H t=some (.tup [.str n,.int g,.int e]):=by
 obtain⟨t,us,rfl,o,v0,r0,rfl,i0,v1,r1,rfl,i1,v2,r2,rfl,i2,h0⟩:=h
 cases (show r2=[] from h0)
 cases (show v0=_ from i0)
 cases (show v1=_ from i1)
 cases (show v2=_ from i2)
 exact⟨t,rfl,o⟩
theorem cJ{C:Addr}{H:Hp}{p:Addr}{fs ds:List Dv}(L:LandAt C H p fs ds):GoodF fs∧GoodD ("sea" :: fs.map aL) ds:=⟨(rZ _).mp L.okf,(sA _ _).mp L.okd⟩
def aDA(C:Addr):Sp:=sp2 fun x y H Q=>∃ (p:Addr) (fs ds:List Dv) (z:Str) (g e:Int),x=.ref p∧y=.str z∧LandAt C H p fs ds∧Dv.tup [.str z,.int g,.int e]∈fs∧Q (.int g) H
theorem rN(T:Txt K mg C):Mc P w K mg base 1 C "ground" ["self","field"] (aDA C):=by
 refine T.m_land_p_ground.mc rG iU (fun f cdv A outer s H vs Q E hr h=>?_)
 obtain⟨x,y,rfl,p,fs,ds,z,g,e,rfl,rfl,L,m,q⟩:=h
 have hu:=lA hr
 obtain⟨dx,d1,d2,hx,⟨k1,h1,e1,i1⟩,t2⟩:=L.ex
 obtain⟨v,ev,iv⟩:=aAK e1 i1 (cJ L).1.nd m
 obtain⟨t,rfl,o⟩:=iH iv
 refine⟨_,(@aG _ _ _ (@aT _ _ _ _ (@aZ _ _ _ _ _ _ _ (@aO _ (K) rfl) (@fX _ _ _ _ _ _ hu (@vY _ _ _ _ _ (pv 0) rfl) (pv 1) (fun _ _=>rfl)) aD (fun _ _=>rfl)))),?_⟩
 refine⟨_,rfl,p,C,dx,_,_,rfl,hx,T.cl_Land,T.a_field_rows,aIN _ _,_,rfl,d1,.ref t,rfl,?_,t,_,1,.int g,rfl,rfl,SqT.of o,aK (j:=1) rfl,q⟩
 rw[← ev]
 exact sR.k (k:=Sum.inr z) h1
def uP(C:Addr):Sp:=sp2 fun x y H Q=>∃ (p:Addr) (fs ds:List Dv) (d:Dv),x=.ref p∧y=.str (aL d)∧LandAt C H p fs ds∧d∈ds∧∀ v,Is H d v→Q v H
theorem iS(T:Txt K mg C):Mc P w K mg base 1 C "dyke" ["self","name"] (uP C):=by
 refine T.m_land_p_dyke.mc vO iU (fun f cdv A outer s H vs Q E hr h=>?_)
 obtain⟨x,y,rfl,p,fs,ds,d,rfl,rfl,L,m,q⟩:=h
 have hu:=lA hr
 obtain⟨dx,d1,d2,hx,t1,⟨k1,h1,e1,i1⟩⟩:=L.ex
 obtain⟨v,ev,iv⟩:=aAK e1 i1 (cJ L).2.nd m
 refine⟨_,(@aG _ _ _ (@aT _ _ _ _ (@fX _ _ _ _ _ _ hu (@vY _ _ _ _ _ (pv 0) rfl) (pv 1) (fun _ _=>rfl)))),?_⟩
 refine⟨_,rfl,p,C,dx,_,_,rfl,hx,T.cl_Land,T.a_dyke_rows,aBX _ _,_,rfl,d2,v,rfl,?_,q v iv⟩
 rw[← ev]
 exact sR.k (k:=Sum.inr (aL d)) h1
theorem aHG{α β:Type}:∀ {xs:List α} {ys:List β},xs.length=ys.length→(xs.zip ys).map (·.1)=xs
 | [],[],_=>rfl
 | x :: xs,y :: ys,h=>by rw[List.zip_cons_cons,AU,aHG (by simpa using h)]
 | [],_ :: _,h=>by simp at h
 | _ :: _,[],h=>by simp at h
theorem aHF{α β:Type}:∀ {xs:List α} {ys:List β},xs.length=ys.length→(xs.zip ys).map (·.2)=ys
 | [],[],_=>rfl
 | x :: xs,y :: ys,h=>by rw[List.zip_cons_cons,AU,aHF (by simpa using h)]
 | [],_ :: _,h=>by simp at h
 | _ :: _,[],h=>by simp at h
noncomputable def cZ(ds:List Dv)(us:List V):List (Key×V):=(ds.map mQ).zip us
theorem kH{ds:List Dv}{us:List V}(h:us.length=ds.length):(cZ ds us).map (·.1)=ds.map mQ:=aHG (by rw[AA];exact h.symm)
theorem wA{ds:List Dv}{us:List V}(h:us.length=ds.length):(cZ ds us).map (·.2)=us:=aHF (by rw[AA];exact h.symm)
theorem nO{ds:List Dv}{us:List V}(h:us.length=ds.length):(cZ ds us).length=us.length:=by
 unfold cZ
 rw[List.length_zip,AA]
 omega
theorem aDY{ds:List Dv}{us:List V}{i:Nat}{d:Dv}{v:V}(e1:ds[i]?=some d)(e2:us[i]?=some v):(cZ ds us)[i]?=some (mQ d,v):=by
 unfold cZ
 rw[List.getElem?_zip_eq_some]
 exact⟨by rw[AH,e1];rfl,e2⟩
theorem zI{ds:List Dv}(h:(ds.map aL).Nodup):(ds.map mQ).Nodup:=by
 have e:ds.map mQ=(ds.map aL).map Sum.inr:=by rw[Ai];rfl
 rw[e,fP]
 exact h
theorem oT(T:Txt K mg C):Ic P w K mg base 6 C ["self","fields","dykes"] (aFN C):=by
 have G_p_are_fields:Fc P w K mg base 4 "are_fields" ["thing"] aDB:=uC T
 have G_p_are_dykes:Fc P w K mg base 5 "are_dykes" ["thing","sides"] (aHU K):=wG T
 refine T.i_Land.ic xQ rR (fun f cdv A outer s H vs Q E hr h=>?_)
 obtain⟨x,v1,v2,rfl,p,dx,fs,ds,rfl,hx,hf,hd,sf,sd,okf,okd,q⟩:=h
 have big:=bY
 have gf:=(rZ _).mp okf
 have gd:=(sA _ _).mp okd
 have lf:=gf.l2
 have ld:=gd.l2
 obtain⟨a1,us,rfl,o1,i1⟩:=id hf
 obtain⟨a2,ws,rfl,o2,i2⟩:=id hd
 have l1:=i1.length
 have l2:=i2.length
 refine⟨_,(@aE _ _ _ _ _ (@dX _ _ _ _ _ _ _ _ (@dR _ _ _ _ (@dI _ _ _ (@bE _ _ _ _ _ _ _ _ _ _ G_p_are_fields (hr.mono (by decide)) (@aA _ _ _ _ _ (pv 1) aB (by rfl)) (by rfl) (by decide) (by rfl) (by rfl)) (by intro _;rfl))) (@aG _ _ _ jS) bW) (@aE _ _ _ _ _ (@dX _ _ _ _ _ _ _ _ (@dR _ _ _ _ (@dI _ _ _ (@bE _ _ _ _ _ _ _ _ _ _ G_p_are_dykes (hr.mono (by decide)) (@aA _ _ _ _ _ (pv 2) (@aA _ _ _ _ _ (@aM _ _ _ _ _ _ _ _ pH (@cX _ _ _ _ (@aA _ _ _ _ _ (@rK _ _ _ _ T.g_SEA (by rfl) (by decide)) aB (by rfl))) (@cD _ _ _ _ _ _ _ _ _ _ _ ["field"] 1 [] rfl (@bP _ _ _ _ (pv 1)) (fun R=>@bA _ _ (0) _ (show Aw (["field"]:List Str) by decide +kernel) rfl (Or.inl rfl) (by trivial)) (@aW _ _ (by decide)) (fun R=>bZ) (fun R=>(@aZ _ _ _ _ _ _ _ (@aO _ (K) rfl) (pv 0) aD (fun _ _=>rfl))) (by rfl) (by rfl) (by rfl) (by rfl) (by rfl) (by rfl) (by rfl) (by intro _;rfl))) aB (by rfl)) (by rfl)) (by rfl) (by decide) (by rfl) (by rfl)) (by intro _;rfl))) (@aG _ _ _ jS) bW) (@aE _ _ _ _ _ (@aMU _ _ _ _ _ _ _ _ (pv 0) (@bJ _ _ _ _ _ _ _ _ _ (@dL _ rfl) rfl T.n_dict fB (@aA _ _ _ _ _ (@cD _ _ _ _ _ _ _ _ _ _ _ ["field"] 1 [] rfl (@bP _ _ _ _ (pv 1)) (fun R=>@bA _ _ (0) _ (show Aw (["field"]:List Str) by decide +kernel) rfl (Or.inl rfl) (by trivial)) (@aW _ _ (by decide)) (fun R=>bZ) (fun R=>(@dJ _ _ _ _ _ (@aA _ _ _ _ _ (@aZ _ _ _ _ _ _ _ (@aO _ (K) rfl) (pv 0) aD (fun _ _=>rfl)) (@aA _ _ _ _ _ (pv 0) aB (by rfl)) (by rfl)))) (by rfl) (by rfl) (by rfl) (by rfl) (by rfl) (by rfl) (by rfl) (by intro _;rfl)) aB (by rfl)) (by decide) (by decide) (by rfl) (by rfl)) rfl) (@aG _ _ _ (@aMU _ _ _ _ _ _ _ _ (pv 0) (@bJ _ _ _ _ _ _ _ _ _ (@dL _ rfl) rfl T.n_dict fB (@aA _ _ _ _ _ (@cD _ _ _ _ _ _ _ _ _ _ _ ["dyke"] 1 [] rfl (@bP _ _ _ _ (pv 2)) (fun R=>@bA _ _ (0) _ (show Aw (["dyke"]:List Str) by decide +kernel) rfl (Or.inl rfl) (by trivial)) (@aW _ _ (by decide)) (fun R=>bZ) (fun R=>(@dJ _ _ _ _ _ (@aA _ _ _ _ _ (@aZ _ _ _ _ _ _ _ (@aO _ (K) rfl) (pv 0) aD (fun _ _=>rfl)) (@aA _ _ _ _ _ (pv 0) aB (by rfl)) (by rfl)))) (by rfl) (by rfl) (by rfl) (by rfl) (by rfl) (by rfl) (by rfl) (by intro _;rfl)) aB (by rfl)) (by decide) (by decide) (by rfl) (by rfl)) rfl))))),?_⟩
 refine⟨_,rfl,_,rfl,.lst fs,hf,sf,_,rfl,?_⟩
 rw[okf]
 refine bM ?_
 refine⟨_,rfl,aS rfl,fun p1 hp1=>?_⟩
 have S1:=aH.upd (o:=.lst [.str "sea"]) hp1
 refine⟨_,rfl,a1,rfl,⟨_,SqL.of (S1 _ _ o1)⟩,?_⟩
 refine bH (F:=K) (xs:=us) (by omega) (fun i ys H'=>H'=upd H p1 (.lst [.str "sea"])∧ys=((fs.take i).map aL).map V.str) ⟨rfl,rfl⟩ ?_ ?_ ?_
 ·rintro i ys H' hi' ⟨rfl,rfl⟩
  exact⟨SqL.of (S1 _ _ o1),by rw[AA,AA,AR];omega⟩
 ·rintro i x ys H' K1 K2 hx' ⟨rfl,rfl⟩ k1 k2
  have hil:i<us.length:=(AC.mp hx').1
  obtain⟨d,ed⟩:∃ d,fs[i]?=some d:=⟨_,AB (by omega)⟩
  obtain⟨v,ev,iv⟩:=i1.get ed
  rw[hx'] at ev
  cases ev
  obtain⟨z,g,e,rfl,_⟩:=bK (gf.all d (AI ed))
  obtain⟨t,rfl,o⟩:=iH iv
  refine⟨_,rfl,t,_,0,.str z,rfl,rfl,SqT.of (S1 _ _ o),aK (j:=0) rfl,k1 _ _ ⟨rfl,?_⟩⟩
  rw[Aa,ed]
  simp[aL,cK]
 ·rintro ys H' ⟨rfl,rfl⟩
  intro p2 hp2
  rw[AG (by omega)]
  have S2:=aH.upd (o:=.lst ((fs.map aL).map V.str)) hp2
  refine⟨p1,p2,_,_,rfl,rfl,S2 _ _ aC,aC,by simp only[AA,Af,ER];omega,fun p3 hp3=>?_⟩
  have S3:=aH.upd (o:=.lst ([.str "sea"]++(fs.map aL).map V.str)) hp3
  have S:=S1.trans (S2.trans S3)
  generalize hH3:upd (upd (upd H p1 (.lst [.str "sea"])) p2 (.lst ((fs.map aL).map V.str))) p3 (.lst ([.str "sea"]++(fs.map aL).map V.str))=H3 at S
  have hp3':H3 p3=some (.lst ((("sea":Str) :: fs.map aL).map V.str)):=by rw[← hH3,aC];rfl
  refine⟨_,_,rfl,.lst ds,p3,_,Is.same S _ _ hd,sd,rfl,hp3',_,rfl,?_⟩
  rw[okd]
  refine bM ?_
  refine⟨_,rfl,a1,rfl,⟨_,SqL.of (S _ _ o1)⟩,?_⟩
  refine bH (F:=K) (xs:=us) (by omega) (fun i ys H'=>aH H3 H'∧bQ H' ys ((cZ fs us).take i)) ⟨aH.refl _,bQ.nil _⟩ ?_ ?_ ?_
  ·rintro i ys H' hi' ⟨S4,pr⟩
   exact⟨SqL.of (S4 _ _ (S _ _ o1)),by have:=pr.len;rw[AR] at this;omega⟩
  ·rintro i x ys H' K1 K2 hx' ⟨S4,pr⟩ k1 k2
   have hil:i<us.length:=(AC.mp hx').1
   obtain⟨d,ed⟩:∃ d,fs[i]?=some d:=⟨_,AB (by omega)⟩
   obtain⟨v,ev,iv⟩:=i1.get ed
   rw[hx'] at ev
   cases ev
   obtain⟨z,g,e,rfl,_⟩:=bK (gf.all d (AI ed))
   obtain⟨t,rfl,o⟩:=iH iv
   have ot:=S4 _ _ (S _ _ o)
   refine⟨_,rfl,t,_,0,.str z,rfl,rfl,SqT.of ot,aK (j:=0) rfl,_,rfl,aS rfl,fun pt hpt=>k1 _ _ ⟨S4.trans (aH.upd hpt),?_⟩⟩
   rw[Aa,aDY ed hx']
   exact pr.snoc (k:=Sum.inr z) hpt
  ·rintro ys H4 ⟨S4,pr⟩
   rw[AG (by rw[nO l1];omega)] at pr
   intro p4 hp4
   have S5:=aH.upd (o:=.lst ys) hp4
   refine⟨p4,ys,cZ fs us,rfl,SqL.of aC,pr.same S5,by rw[nO l1];omega,by rw[kH l1];exact zI gf.nd,fun d1 hd1=>?_⟩
   have S6:=aH.upd (o:=.dK (cZ fs us)) hd1
   have SA:=S.trans (S4.trans (S5.trans S6))
   have hd1':upd (upd H4 p4 (.lst ys)) d1 (.dK (cZ fs us)) d1=some (.dK (cZ fs us)):=aC
   generalize upd (upd H4 p4 (.lst ys)) d1 (.dK (cZ fs us))=H6 at SA hd1'
   refine⟨_,rfl,p,C,dx,[],rfl,SA _ _ hx,T.cl_Land,T.a_field_rows,(by show 0<1000;decide),?_⟩
   have SB:∀ b o,H b=some o→b≠p→upd H6 p (.ins C dx (iD "field_rows" (.ref d1) [])) b=some o:=fun b o e hb=>by rw[aI hb];exact SA _ _ e
   have nd1:d1≠p:=zB hd1' (SA _ _ hx) (by intro z;cases z)
   have SD:aFF H (upd H6 p (.ins C dx (iD "field_rows" (.ref d1) []))):=fun b o e dt=>SB b o e (fun z=>by subst z;rw[hx] at e;cases e;cases dt)
   have hp7:upd H6 p (.ins C dx (iD "field_rows" (.ref d1) [])) p=some (.ins C dx (iD "field_rows" (.ref d1) [])):=aC
   have hd7:upd H6 p (.ins C dx (iD "field_rows" (.ref d1) [])) d1=some (.dK (cZ fs us)):=by rw[aI nd1];exact hd1'
   generalize upd H6 p (.ins C dx (iD "field_rows" (.ref d1) []))=H7 at SB SD hp7 hd7
   refine⟨_,rfl,a2,rfl,⟨_,SqL.of (SD _ _ o2 rfl)⟩,?_⟩
   refine bH (F:=K) (xs:=ws) (by omega) (fun i ys H'=>aH H7 H'∧bQ H' ys ((cZ ds ws).take i)) ⟨aH.refl _,bQ.nil _⟩ ?_ ?_ ?_
   ·rintro i ys H' hi' ⟨S8,pr⟩
    exact⟨SqL.of (S8 _ _ (SD _ _ o2 rfl)),by have:=pr.len;rw[AR] at this;omega⟩
   ·rintro i x ys H' K1 K2 hx' ⟨S8,pr⟩ k1 k2
    have hil:i<ws.length:=(AC.mp hx').1
    obtain⟨d,ed⟩:∃ d,ds[i]?=some d:=⟨_,AB (by omega)⟩
    obtain⟨v,ev,iv⟩:=i2.get ed
    rw[hx'] at ev
    cases ev
    obtain⟨n,a,b,c,r,sl,rfl,_⟩:=bU (gd.all d (AI ed))
    obtain⟨t,vs,rfl,o,_⟩:=kA iv
    have ot:=S8 _ _ (SD _ _ o rfl)
    refine⟨_,rfl,t,_,0,.str n,rfl,rfl,SqT.of ot,aK (j:=0) rfl,_,rfl,aS rfl,fun pt hpt=>k1 _ _ ⟨S8.trans (aH.upd hpt),?_⟩⟩
    rw[Aa,aDY ed hx']
    exact pr.snoc (k:=Sum.inr n) hpt
   ·rintro ys H8 ⟨S8,pr⟩
    rw[AG (by rw[nO l2];omega)] at pr
    intro p9 hp9
    have S9:=aH.upd (o:=.lst ys) hp9
    refine⟨p9,ys,cZ ds ws,rfl,SqL.of aC,pr.same S9,by rw[nO l2];omega,by rw[kH l2];exact zI gd.nd,fun d2 hd2=>?_⟩
    have S10:=aH.upd (o:=.dK (cZ ds ws)) hd2
    have SC:=S8.trans (S9.trans S10)
    have hd2':upd (upd H8 p9 (.lst ys)) d2 (.dK (cZ ds ws)) d2=some (.dK (cZ ds ws)):=aC
    generalize upd (upd H8 p9 (.lst ys)) d2 (.dK (cZ ds ws))=H10 at SC hd2'
    refine⟨_,rfl,p,C,dx,_,rfl,SC _ _ hp7,T.cl_Land,T.a_dyke_rows,(by show 1<1000;decide),?_⟩
    have nd2:d2≠p:=zB hd2' (SC _ _ hp7) (by intro z;cases z)
    have SE:aFF H (upd H10 p (.ins C dx (mP d1 d2))):=fun b o e dt=>by
     have hb:b≠p:=fun z=>by subst z;rw[hx] at e;cases e;cases dt
     rw[aI hb]
     exact SC _ _ (SB _ _ e hb)
    refine q _ ⟨⟨dx,d1,d2,aC,⟨_,(aI nd1).trans (SC _ _ hd7),kH l1,?_⟩,⟨_,(aI nd2).trans hd2',kH l2,?_⟩⟩,okf,okd⟩ fun b o e hb=>?_
    ·rw[wA l1]
     exact IsL.sameD SE _ _ i1
    ·rw[wA l2]
     exact IsL.sameD SE _ _ i2
    ·show upd H10 p (.ins C dx (mP d1 d2)) b=some o
     rw[aI hb]
     exact SC _ _ (SB _ _ e hb)
open Mt02
def Scr(K:AE)(H:Hp)(x:V):Prop:=∃ (a:Addr) (ns:List Int),x=.ref a∧SqL K H a (ns.map V.int)∧ns.length≤63
theorem Scr.same{K:AE}{H H':Hp}{x:V}(S:aH H H')(h:Scr K H x):Scr K H' x:=by
 obtain⟨a,ns,e,q,l⟩:=h
 exact⟨a,ns,e,S.seq q,l⟩
theorem at4{a b c d i:Int}(h0:0≤i)(h1:i<4):∃ m:Int,atI ([.int a,.int b,.int c,.int d]:List V) i=some (.int m)∧(m=a∨m=b∨m=c∨m=d):=by
 obtain⟨k,rfl⟩:=Ap h0
 have hk:k<4:=by omega
 match k,hk with
 | 0,_=>exact⟨a,aK rfl,.inl rfl⟩
 | 1,_=>exact⟨b,aK rfl,.inr (.inl rfl)⟩
 | 2,_=>exact⟨c,aK rfl,.inr (.inr (.inl rfl))⟩
 | 3,_=>exact⟨d,aK rfl,.inr (.inr (.inr rfl))⟩
structure Fds (fs:List Dv) (n:Nat):Prop where
 l1:1≤fs.length
 l2:fs.length≤n
 all:∀ d∈fs,cH d=true
 nd:(fs.map aL).Nodup
theorem aGU{d:Dv}(h:cH d=true):yB d=true:=by
 obtain⟨z,g,e,rfl,_⟩:=bK h
 rfl
theorem aOO{z:Str}{g e:Int}(hz:eN z=true)(g0:-1000000≤g)(g1:g≤1000000)(e0:0≤e)(e1:e≤1000000):cH (.tup [.str z,.int g,.int e])=true:=by
 show (eN z && (hgt g && amt e))=true
 unfold hgt amt
 rw[hz,decide_eq_true g0,decide_eq_true g1,decide_eq_true e0,decide_eq_true e1]
 rfl
structure Dks (zs:List Str) (ds:List Dv) (n:Nat):Prop where
 l1:1≤ds.length
 l2:ds.length≤n
 all:∀ d∈ds,cO zs d=true
 nd:(ds.map aL).Nodup
theorem aJR{c s:Dv}(h:mR c s=true):yB s=true:=by
 cases s with
 | non=>rfl
 | int i=>rfl
 | _=>cases h
theorem zQ{zs:List Str}{d:Dv}(h:cO zs d=true):yB d=true:=by
 obtain⟨n,a,b,c,r,s,rfl,_,_,_,_,_,_,hs⟩:=bU h
 have:=aJR hs
 show (true && (true && (true && (true && (true && (yB s && true))))))=true
 rw[this]
 rfl
theorem aCD{zs:List Str}{n a b:Str}{c r:Int}{s:Dv}(hn:eN n=true)(ha:a∈zs)(hb:b∈zs)(hab:a≠b)(hc:hgt c=true)(hr:amt r=true)(hs:mR (.int c) s=true):cO zs (.tup [.str n,.str a,.str b,.int c,.int r,s])=true:=by
 show (eN n && (decide (a∈zs) && (decide (b∈zs) && !(a == b))) && (hgt c && (amt r && mR (.int c) s)))=true
 rw[hn,decide_eq_true ha,decide_eq_true hb,hc,hr,hs,beq_eq_false_iff_ne.mpr hab]
 rfl
theorem aGP{i:Int}(h0:-1000000≤i)(h1:i≤1000000):hgt i=true:=by
 unfold hgt
 rw[decide_eq_true h0,decide_eq_true h1]
 rfl
theorem aWF{i:Int}(h0:0≤i)(h1:i≤1000000):amt i=true:=by
 unfold amt
 rw[decide_eq_true h0,decide_eq_true h1]
 rfl
theorem aAU{z:Str}(h:eN z=true):z≠"sea":=by
 intro e
 subst e
 simp[eN] at h
theorem aMD{fs:List Dv}{n:Nat}(h:Fds fs n):("sea" :: fs.map aL:List Str).Nodup:=by
 rw[Aj]
 refine⟨fun m=>?_,h.nd⟩
 obtain⟨d,md,e⟩:=AM.mp m
 obtain⟨z,g,e',rfl,hz,_⟩:=bK (h.all d md)
 exact aAU hz e
theorem zP{fs:List Dv}{n:Nat}(h:Fds fs n)(hn:n≤12):kD (.lst fs)=true:=(rZ fs).mpr ⟨h.l1,Av h.l2 hn,h.all,h.nd⟩
theorem aEQ{zs:List Str}{ds:List Dv}{n:Nat}(h:Dks zs ds n)(hn:n≤40):nC zs (.lst ds)=true:=(sA zs ds).mpr ⟨h.l1,Av h.l2 hn,h.all,h.nd⟩
theorem kL{z:Str}(h:eN z=true):z.length≤1000:=by
 unfold eN at h
 rw[AV,AV,AV] at h
 have:=of_decide_eq_true h.1.1.2
 omega
theorem tS{d:Dv}(h:cH d=true):cI d=true:=by
 obtain⟨z,g,e,rfl,hz,_⟩:=bK h
 show (decide (3≤1000) && (decide (z.length≤1000) && (true && (true && true))))=true
 rw[decide_eq_true (kL hz)]
 rfl
theorem vE{fs:List Dv}(hf:∀ d∈fs,cH d=true){a:Str}(h:a∈("sea" :: fs.map aL:List Str)):a.length≤1000:=by
 rcases Ac.mp h with rfl | h
 ·decide +kernel
 ·obtain⟨d,m,rfl⟩:=AM.mp h
  obtain⟨z,g,e,rfl,hz,_⟩:=bK (hf d m)
  exact kL hz
theorem xA{fs:List Dv}(hf:∀ d∈fs,cH d=true){d:Dv}(h:cO ("sea" :: fs.map aL) d=true):cI d=true:=by
 obtain⟨n,a,b,c,r,s,rfl,hn,ha,hb,_,_,_,hs⟩:=bU h
 have e:cI s=true:=by
  cases s with
  | non=>rfl
  | int i=>rfl
  | _=>cases hs
 show (decide (6≤1000) && (decide (n.length≤1000) && (decide (a.length≤1000) && (decide (b.length≤1000) && (true && (true && (cI s && true)))))))=true
 rw[decide_eq_true (kL hn),decide_eq_true (vE hf ha),decide_eq_true (vE hf hb),e]
 rfl
theorem jU{ds:List Dv}(h:∀ d∈ds,cI d=true)(hl:ds.length≤1000):cI (.lst ds)=true:=by
 show (decide (ds.length≤1000) && dD ds)=true
 rw[decide_eq_true hl,yO h]
 rfl
theorem aOJ{ds:List Dv}(h:∀ d∈ds,bB 29 d=true):bB 30 (.lst ds)=true:=by
 have:=wZ h
 simpa [bB] using this
theorem fQ(zs:List Str):bB 30 (.lst (zs.map Dv.str))=true:=aOJ fun d m=>by
 obtain⟨z,_,rfl⟩:=AM.mp m
 rfl
theorem aOU(xs:List V)(k:Nat):pL xs (some (k:Int)) none=xs.drop k:=by
 unfold pL
 rw[HT.sIx_nat,HT.sIx_none]
 by_cases h:k≤xs.length
 ·rw[Cz h,AG (by rw[Bh];exact AL _)]
 ·rw[Nat.min_eq_right (by omega),FG,List.take_zero,Ch (by omega)]
theorem aPX{H:Hp}{l:Addr}{zs:List Str}(h:H l=some (.lst (zs.map V.str))):Is H (.lst (zs.map Dv.str)) (.ref l):=⟨l,_,rfl,h,IsL.strs H zs⟩
open Mt04
def aLN(C:Addr):Sp:=sp2 fun x y H Q=>∃ (p:Addr) (fs ds:List Dv) (d:Dv),x=.ref p∧LandAt C H p fs ds∧Is H d y∧Q (.bl (dY ds d)) H
theorem aBM(T:Txt K mg C):Fc P w K mg base 3 "is_work" ["land","thing"] (aLN C):=by
 have G_p_is_tuple_of:Fc P w K mg base 1 "is_tuple_of" ["thing","length"] uN:=gL T
 have G_p_is_one_of:Fc P w K mg base 1 "is_one_of" ["thing","names"] (pU K):=fZ T
 have G_p_is_height:Fc P w K mg base 2 "is_height" ["thing"] gT:=dE T
 have G_land_p_dyke_names:Mc P w K mg base 1 C "dyke_names" ["self"] (uO C fun _ ds=>ds.map aL):=lE T
 have G_land_p_dyke:Mc P w K mg base 1 C "dyke" ["self","name"] (uP C):=iS T
 refine T.d_p_is_work.fcD aAW iU (fun f cdv A outer s H vs Q E hr h=>?_)
 obtain⟨x,y,rfl,p,fs,ds,d,rfl,L,hd,q⟩:=h
 obtain⟨dx,e1,e2,hx,_⟩:=L.ex
 have no:∀ m:Str,¬ m="dyke_rows"→¬ m="field_rows"→(mP e1 e2).lookup m=none:=fun m h1 h2=>iV _ _ h1 h2
 refine⟨_,(@aE _ _ _ _ _ (@dX _ _ _ _ _ _ _ _ (@PW.pt _ _ _ (@lX _ _ _ _ _ _ _ (@dR _ _ _ _ (@dI _ _ _ (@bE _ _ _ _ _ _ _ _ _ _ G_p_is_tuple_of (hr.mono (by decide)) (@aA _ _ _ _ _ (pv 1) (@aA _ _ _ _ _ aD aB (by rfl)) (by rfl)) (by rfl) (by decide) (by rfl) (by rfl)) (by intro _;rfl))) (@jF _ _ _ _ (@dR _ _ _ _ (@dI _ _ _ (@bE _ _ _ _ _ _ _ _ _ _ G_p_is_one_of (hr.mono (by decide)) (@aA _ _ _ _ _ (@aZ _ _ _ _ _ _ _ (@aO _ (K) rfl) (pv 1) aD (fun _ _=>rfl)) (@aA _ _ _ _ _ (@aIF _ _ _ _ _ _ _ _ _ _ _ T.cl_Land G_land_p_dyke_names (hr.mono (by decide)) (pv 0) (by rfl)) aB (by rfl)) (by rfl)) (by rfl) (by decide) (by rfl) (by rfl)) (by intro _;rfl)))))) (@aG _ _ _ (@aT _ _ _ _ jT)) bW) (@aG _ _ _ (@aT _ _ _ _ (@cY _ _ _ _ _ _ _ (@bE _ _ _ _ _ _ _ _ _ _ G_p_is_height (hr.mono (by decide)) (@aA _ _ _ _ _ (@aZ _ _ _ _ _ _ _ (@aO _ (K) rfl) (pv 1) aD (fun _ _=>rfl)) aB (by rfl)) (by rfl) (by decide) (by rfl) (by rfl)) (@eI _ _ _ _ _ (@dW _ _ _ _ _ _ _ _ aXL (@aZ _ _ _ _ _ _ _ (@aO _ (K) rfl) (pv 1) aD (fun _ _=>rfl)) (@aZ _ _ _ _ _ _ _ (@aO _ (K) rfl) (@aQZ _ _ _ _ _ _ _ _ _ _ _ _ _ _ T.cl_Land G_land_p_dyke (hr.mono (by decide)) (pv 0) (@aA _ _ _ _ _ (@aZ _ _ _ _ _ _ _ (@aO _ (K) rfl) (pv 1) aD (fun _ _=>rfl)) aB (by rfl)) (by rfl) (by rfl) (by rfl)) aD (fun _ _=>rfl)) (@bT _ _ (by decide) (by decide)))))))),?_⟩
 refine⟨_,rfl,_,_,rfl,d,2,hd,rfl,_,rfl,?_⟩
 by_cases h2:∃ a b,d=.tup [a,b]
 ·obtain⟨a,b,rfl⟩:=h2
  obtain⟨t,us,rfl,o,va,r1,rfl,ha,vb,r2,rfl,hb,h0⟩:=hd
  cases (show r2=[] from h0)
  refine bM ⟨_,rfl,t,_,0,va,rfl,rfl,SqT.of o,aK (j:=0) rfl,_,rfl,p,dx,_,rfl,hx,no _ (by decide +kernel) (by decide +kernel),_,rfl,p,fs,ds,rfl,L,fun l hl=>?_⟩
  have S:=aH.upd (o:=.lst ((ds.map aL).map V.str)) hl
  refine⟨_,_,rfl,a,l,ds.map aL,Is.same S _ _ ha,rfl,SqL.of aC,_,rfl,?_⟩
  have dr:=gF.lst (xs:=(ds.map aL).map V.str) hl
  cases ea:fO (ds.map aL) a with
  | false =>
   have e:dY ds (.tup [a,b])=false:=by
    unfold dY
    split
    ·rename_i z v hq
     cases hq
     have:decide (z∈ds.map aL)=false:=ea
     rw[this]
     rfl
    ·rfl
   rw[e] at q
   exact cR (cU.of dr q)
  | true =>
   refine bM ⟨_,rfl,t,_,1,vb,rfl,rfl,SqT.of (S _ _ o),aK (j:=1) rfl,_,rfl,b,Is.same S _ _ hb,_,rfl,?_⟩
   cases eb:dZ b with
   | false =>
    have e:dY ds (.tup [a,b])=false:=by
     unfold dY
     split
     ·rename_i z v hq
      cases hq
      have:hgt v=false:=eb
      rw[this]
      simp
     ·rfl
    rw[e] at q
    exact bM (cU.of dr q)
   | true =>
    cases a with
    | str z =>
     cases b with
     | int v =>
      have mz:z∈ds.map aL:=of_decide_eq_true ea
      obtain⟨d',md,rfl⟩:=AM.mp mz
      cases (show va=.str (aL d') from ha)
      cases (show vb=.int v from hb)
      have gd:=(cJ L).2
      refine cR ⟨_,rfl,t,_,1,_,rfl,rfl,SqT.of (S _ _ o),aK (j:=1) rfl,_,rfl,p,dx,_,rfl,S _ _ hx,no _ (by decide +kernel) (by decide +kernel),_,rfl,t,_,0,_,rfl,rfl,SqT.of (S _ _ o),aK (j:=0) rfl,_,_,rfl,p,fs,ds,d',rfl,rfl,L.same S,md,fun v1 iv1=>?_⟩
      have ec:=xF gd.nd md
      obtain⟨n,a',b',c,r,sl,rfl,_⟩:=bU (gd.all d' md)
      obtain⟨t',sv,rfl,o',_⟩:=kA iv1
      refine⟨t',_,3,.int c,rfl,rfl,SqT.of o',aK (j:=3) rfl,_,_,rfl,rfl,cU.of dr ?_⟩
      have e:dY ds (.tup [.str (aL (.tup [.str n,.str a',.str b',.int c,.int r,sl])),.int v])=decide (c≤v):=by
       show (decide (_∈ds.map aL) && (hgt v && decide (gC ds _≤v)))=_
       rw[decide_eq_true mz,show hgt v=true from eb,ec]
       rfl
      rw[e] at q
      exact q
     | _=>cases eb
    | _=>cases ea
 ·have e1':dY ds d=false:=by
   unfold dY
   split
   ·rename_i z v
    exact absurd ⟨_,_,rfl⟩ h2
   ·rfl
  have e2':aHI 2 d=false:=by
   cases d with
   | tup ds' =>
    refine decide_eq_false (fun e=>?_)
    have e':ds'.length=2:=by omega
    match ds',e',h2 with
    | [a,b],_,h2=>exact h2 ⟨a,b,rfl⟩
   | _=>rfl
  dsimp only
  rw[e2']
  rw[e1'] at q
  exact cR (cU.of (.refl _) q)
def aHN(C:Addr):Sp:=sp2 fun x y H Q=>∃ (p:Addr) (fs ds:List Dv) (d:Dv),x=.ref p∧LandAt C H p fs ds∧Is H d y∧cI d=true∧Q (.bl (aFB ds d)) H
theorem wE(T:Txt K mg C):Fc P w K mg base 4 "are_works" ["land","thing"] (aHN C):=by
 have G_p_is_work:Fc P w K mg base 3 "is_work" ["land","thing"] (aLN C):=aBM T
 have G_p_none_twice:Fc P w K mg base 1 "none_twice" ["rows"] uM:=hG T
 refine T.d_p_are_works.fcD vL iU (fun f cdv A outer s H vs Q E hr h=>?_)
 obtain⟨x,y,rfl,p0,fs,ds0,d,rfl,L,hd,hs,q⟩:=h
 have big:=bY
 obtain⟨t,ty,e1,e2,e3,e4,_⟩:=sP K hd
 refine⟨_,(@aG _ _ _ (@aT _ _ _ _ (@cY _ _ _ _ _ _ _ (@aQ _ _ _ _ _ _ _ _ _ (@dQ _ (K) rfl) rfl T.n_isinstance bO (@aA _ _ _ _ _ (pv 1) (@aA _ _ _ _ _ (@qI _ _ _ _ T.n_list dU (by rfl) (by decide) (by decide)) aB (by rfl)) (by rfl)) (by decide) (by decide) (by rfl) (by rfl)) (@cY _ _ _ _ _ _ _ (@aQ _ _ _ _ _ _ _ _ _ (@kC _ rfl) rfl T.n_all iI (@aA _ _ _ _ _ (@cD _ _ _ _ _ _ _ _ _ _ _ ["row","land"] 1 [0] rfl (@bP _ _ _ _ (pv 1)) (fun R=>@bA _ _ (0) _ (show Aw (["row","land"]:List Str) by decide +kernel) rfl (Or.inl rfl) (by trivial)) (@aW _ _ (by decide)) (fun R=>bZ) (fun R=>(@bE _ _ _ _ _ _ _ _ _ _ G_p_is_work (hr.mono (by decide)) (@aA _ _ _ _ _ (pv 1) (@aA _ _ _ _ _ (pv 0) aB (by rfl)) (by rfl)) (by rfl) (by decide) (by rfl) (by rfl))) (by rfl) (by rfl) (by rfl) (by rfl) (by rfl) (by rfl) (by rfl) (by intro _;rfl)) aB (by rfl)) (by decide) (by decide) (by rfl) (by rfl)) (@eI _ _ _ _ _ (@bE _ _ _ _ _ _ _ _ _ _ G_p_none_twice (hr.mono (by decide)) (@aA _ _ _ _ _ (pv 1) aB (by rfl)) (by rfl) (by decide) (by rfl) (by rfl))))))),?_⟩
 refine⟨_,rfl,_,_,_,t,_,rfl,rfl,ty,e4,_,rfl,?_⟩
 cases d with
 | lst ds =>
  obtain⟨p,us,rfl,o,hi⟩:=hd
  have l1:=hi.length
  have hs':=An.mp (show (decide (ds.length≤1000) && dD ds)=true from hs)
  have l2:ds.length≤1000:=of_decide_eq_true hs'.1
  have q:Q (.bl (ds.all (dY ds0) && decide ((ds.map cK).Nodup))) H:=q
  refine cR ⟨_,rfl,p,rfl,⟨_,SqL.of o⟩,?_⟩
  refine bH (F:=K) (xs:=us) (by omega) (fun i ys H'=>H'=H∧ys=(ds.take i).map fun d=>V.bl (dY ds0 d)) ⟨rfl,rfl⟩ ?_ ?_ ?_
  ·rintro i ys H' hi' ⟨rfl,rfl⟩
   exact⟨SqL.of o,by rw[AA,AR];omega⟩
  ·rintro i x ys H' K1 K2 hx ⟨rfl,rfl⟩ k1 k2
   have hil:i<us.length:=(AC.mp hx).1
   obtain⟨d,ed⟩:∃ d,ds[i]?=some d:=⟨_,AB (by omega)⟩
   obtain⟨v,ev,iv⟩:=hi.get ed
   rw[hx] at ev
   cases ev
   refine⟨_,rfl,_,rfl,_,_,rfl,p0,fs,ds0,d,rfl,L,iv,k1 _ _ ⟨rfl,?_⟩⟩
   rw[Aa,ed]
   simp
  ·rintro ys H' ⟨rfl,rfl⟩
   intro p1 hp1
   have np:p≠p1:=aN o hp1
   refine⟨p1,ds.map (dY ds0),rfl,SqL.of ?_,_,rfl,?_⟩
   ·rw[aC,AG (by omega),Ai]
    rfl
   have e1:(ds.map (dY ds0)).all id=ds.all (dY ds0):=by rw[Dh];rfl
   rw[e1]
   refine lF (fun h2=>?_) (fun h2=>?_)
   ·rw[h2,BT] at q
    obtain⟨zs,ez⟩:=nW oX h2
    have l3:zs.length=ds.length:=by have:=congrArg CS ez;simpa using this.symm
    refine⟨_,rfl,_,rfl,p,us,ds,zs,rfl,by rw[aI np];exact o,IsL.same (aH.upd hp1) _ _ hi,ez,by omega,?_⟩
    have e2:decide zs.Nodup=decide (ds.map cK).Nodup:=by rw[ez,Bb,decide_eq_true_iff,decide_eq_true_iff,eJ]
    rw[e2]
    exact cU.of (gF.lst hp1) q
   ·have h2':ds.all (dY ds0)=false:=by simpa using h2
    rw[h2'] at q
    exact cU.of (gF.lst hp1) q
 | _=>exact bM (cU.of (.refl _) q)
theorem aLB{H:Hp}{z:Str}{v:Int}{x:V}(h:Is H (.tup [.str z,.int v]) x):∃ t,x=.ref t∧H t=some (.tup [.str z,.int v]):=by
 obtain⟨t,us,rfl,o,v0,r0,rfl,i0,v1,r1,rfl,i1,h0⟩:=h
 cases (show r1=[] from h0)
 cases (show v0=_ from i0)
 cases (show v1=_ from i1)
 exact⟨t,rfl,o⟩
def rA(p:Addr)(H H':Hp):Prop:=∀ b o,H b=some o→b≠p→H' b=some o
theorem rA.then{p:Addr}{H H' H'':Hp}(X:rA p H H')(S:aH H' H''):rA p H H'':=fun b o e n=>S _ _ (X b o e n)
theorem rA.put{p:Addr}{H H':Hp}{o:HO}(X:rA p H H'):rA p H (upd H' p o):=fun b o' e n=>by rw[aI n];exact X b o' e n
def sp4(f:V→V→V→V→Hp→VK→Prop):Sp:=fun vs H Q _=>∃ x y z u,vs=[x,y,z,u]∧f x y z u H Q
theorem aXQ{f:V→V→V→V→Hp→VK→Prop}:∀ vs H Q E,sp4 f vs H Q E→vs.length=4:=fun vs H Q E ⟨x,y,z,u,e,_⟩=>by rw[e];rfl
open Mt21 Mt46
def aLU(K:AE):Sp:=sp2 fun x y H Q=>∃ k:Int,Scr K H x∧y=.int k∧0≤k∧∀ m:Int,0≤m→Q (.int m) H
theorem kK(T:Txt K mg C):Fc P w K mg base 1 "_law_mixed" ["_law_script","_law_k"] (aLU K):=by
 refine T.d_l_mixed.fc pA iU (fun f cdv A outer s H vs Q E hr h=>?_)
 obtain⟨x,y,rfl,k,⟨a,ns,rfl,hS,hl⟩,rfl,hk,q⟩:=h
 obtain⟨j,rfl⟩:=Ap hk
 refine⟨_,(@aE _ _ _ _ _ (@aV _ _ (2) _ _ _ _ pA.nd rfl (Or.inl rfl) aD (by rfl) (by trivial)) (@aE _ _ _ _ _ (@dX _ _ _ _ _ _ _ _ (@cB _ _ _ _ _ _ _ _ yY (pv 1) (@aQ _ _ _ _ _ _ _ _ _ (@aY _ (K) rfl) rfl T.n_len bG (@aA _ _ _ _ _ (pv 0) aB (by rfl)) (by decide) (by decide) (by rfl) (by rfl)) (@bT _ _ (by decide) (by decide))) (@aG _ _ _ (@aV _ _ (2) _ _ _ _ pA.nd rfl (Or.inl rfl) (@aZ _ _ _ _ _ _ _ (@cW _ (K) rfl) (pv 0) (pv 1) (fun _ _=>rfl)) (by rfl) (by trivial))) bW) (@aG _ _ _ (@aT _ _ _ _ (@aM _ _ _ _ _ _ _ _ dC (@aM _ _ _ _ _ _ _ _ jG (pv 2) aD) (@aM _ _ _ _ _ _ _ _ fY aD aD)))))),?_⟩
 have p24:(0:Int)<10 ^ (24:Int).toNat:=by decide
 have fin:∀ m:Int,Q (.int (m % 10 ^ (24:Int).toNat)) H:=fun m=>q _ (At _ (by decide))
 refine⟨_,rfl,_,rfl,a,_,rfl,.inl hS,_,_,rfl,rfl,_,rfl,?_⟩
 rw[AA]
 refine lF (fun h1=>?_) (fun h1=>?_)
 ·have h1':j<ns.length:=by
   have:=of_decide_eq_true h1
   omega
  refine⟨_,rfl,_,rfl,a,_,_,.int (ns.getD j 0),rfl,rfl,hS,aK ?_,?_⟩
  ·rw[AH,AB h1',AY,AB h1']
   rfl
  exact⟨_,rfl,_,_,rfl,rfl,.inr ⟨by decide,by decide⟩,_,_,rfl,rfl,⟨by decide,by decide,by decide⟩,_,_,rfl,rfl,p24,fin _⟩
 ·exact⟨_,rfl,_,_,rfl,rfl,.inr ⟨by decide,by decide⟩,_,_,rfl,rfl,⟨by decide,by decide,by decide⟩,_,_,rfl,rfl,p24,fin _⟩
def aPZ:Sp:=sp1 fun x H Q=>∃ n:Int,x=.int n∧∀ m:Int,hgt m=true→Q (.int m) H
theorem mI(T:Txt K mg C):Fc P w K mg base 1 "_law_height" ["_law_cell"] aPZ:=by
 refine T.d_l_height.fc aDL mL (fun f cdv A outer s H vs Q E hr h=>?_)
 obtain⟨x,rfl,n,rfl,q⟩:=h
 have p6':(10:Int) ^ (6:Int).toNat=1000000:=by decide
 refine⟨_,(@aE _ _ _ _ _ (@dX _ _ _ _ _ _ _ _ (@cB _ _ _ _ _ _ _ _ kY (@aM _ _ _ _ _ _ _ _ dC (pv 0) aD) aD (@bT _ _ (by decide) (by decide))) (@aG _ _ _ (@aT _ _ _ _ (@aM _ _ _ _ _ _ _ _ eY (@aM _ _ _ _ _ _ _ _ dC (@aM _ _ _ _ _ _ _ _ cE (pv 0) aD) aD) (@aM _ _ _ _ _ _ _ _ fY aD aD)))) bW) (@aG _ _ _ (@aT _ _ _ _ (@aM _ _ _ _ _ _ _ _ eY (@aM _ _ _ _ _ _ _ _ dC (@aM _ _ _ _ _ _ _ _ cE (pv 0) aD) aD) aD)))),?_⟩
 refine⟨_,rfl,_,_,rfl,rfl,(lY rfl),rfl,_,rfl,?_⟩
 rw[gR]
 refine lF (fun h1=>?_) (fun h1=>?_)
 ·refine⟨_,rfl,_,_,rfl,rfl,⟨by decide,by decide⟩,_,_,rfl,rfl,(lY rfl),_,_,rfl,rfl,⟨by decide,by decide,by decide⟩,_,_,rfl,rfl,q _ ?_⟩
  rw[p6']
  have a0:=At (n / 4) (show (2000001:Int)≠0 by decide)
  have a1:=Au (n / 4) (show (0:Int)<2000001 by decide)
  exact aGP (by omega) (by omega)
 ·refine⟨_,rfl,_,_,rfl,rfl,⟨by decide,by decide⟩,_,_,rfl,rfl,(lY rfl),_,_,rfl,rfl,q _ ?_⟩
  have a0:=At (n / 4) (show (7:Int)≠0 by decide)
  have a1:=Au (n / 4) (show (0:Int)<7 by decide)
  exact aGP (by omega) (by omega)
theorem aXR:("abcdefghijklmnopqrstuvwxyz":Str).length=26:=by decide +kernel
def aTT:Sp:=sp1 fun x H Q=>∃ c:Int,x=.int c∧∀ (zs:List Str) (l:Addr) (H':Hp),Nm zs→(∀ z∈zs,z≠noSuch)→aH H H'→H l=none→H' l=some (.lst (zs.map V.str))→Q (.ref l) H'
theorem wH(T:Txt K mg C):Fc P w K mg base 1 "_law_names" ["_law_cell"] aTT:=by
 refine T.d_l_names.fc eF mL (fun f cdv A outer s H vs Q E hr h=>?_)
 obtain⟨x,rfl,c,rfl,q⟩:=h
 have big:=bY
 have l26:=aXR
 have hss:("abcdefghijklmnopqrstuvwxyz":Str).length≤Am:=by rw[l26];omega
 refine⟨_,(@aE _ _ _ _ _ (@aV _ _ (1) _ _ _ _ eF.nd rfl (Or.inr rfl) dS (by rfl) (by trivial)) (@aE _ _ _ _ _ (@aV _ _ (2) _ _ _ _ eF.nd rfl (Or.inl rfl) (@aM _ _ _ _ _ _ _ _ fK aD (@aM _ _ _ _ _ _ _ _ dC (pv 0) aD)) (by rfl) (by trivial)) (@aE _ _ _ _ _ (@aV _ _ (3) _ _ _ _ eF.nd rfl (Or.inl rfl) (@aM _ _ _ _ _ _ _ _ dC (@aM _ _ _ _ _ _ _ _ cE (pv 0) aD) (pv 2)) (by rfl) (by trivial)) (@aE _ _ _ _ _ (@aV _ _ (4) _ _ _ _ eF.nd rfl (Or.inl rfl) (@aZ _ _ _ _ _ _ _ (@cW _ (K) rfl) (@cX _ _ _ _ (@aA _ _ _ _ _ aD (@aA _ _ _ _ _ aD (@aA _ _ _ _ _ aD (@aA _ _ _ _ _ aD (@aA _ _ _ _ _ aD (@aA _ _ _ _ _ aD (@aA _ _ _ _ _ aD (@aA _ _ _ _ _ aD (@aA _ _ _ _ _ aD (@aA _ _ _ _ _ aD (@aA _ _ _ _ _ aD (@aA _ _ _ _ _ aD aB (by rfl)) (by rfl)) (by rfl)) (by rfl)) (by rfl)) (by rfl)) (by rfl)) (by rfl)) (by rfl)) (by rfl)) (by rfl)) (by rfl))) (@aM _ _ _ _ _ _ _ _ dC (@aM _ _ _ _ _ _ _ _ cE (pv 0) aD) aD) (fun _ _=>rfl)) (by rfl) (by trivial)) (@aE _ _ _ _ _ (@aV _ _ (5) _ _ _ _ eF.nd rfl (Or.inl rfl) (@mB _ _ _ _ _ _ _ _ _ _ _ _ PySem.F.plainAttrs_str PySem.F.slot_str_join PySem.F.type_str_join aRI dS (@aA _ _ _ _ _ (@cD _ _ _ _ _ _ _ _ _ _ _ ["_law_j","_law_cell","_law_letters"] 1 [0,1] rfl (@iE _ _ _ _ _ _ rfl T.n_range (@aA _ _ _ _ _ (pv 2) aB (by rfl)) (by rfl)) (fun R=>@bA _ _ (0) _ (show Aw (["_law_j","_law_cell","_law_letters"]:List Str) by decide +kernel) rfl (Or.inl rfl) (by trivial)) (@aW _ _ (by decide)) (fun R=>bZ) (fun R=>(@aZ _ _ _ _ _ _ _ aGL (pv 2) (@aM _ _ _ _ _ _ _ _ dC (@aM _ _ _ _ _ _ _ _ fK (@aM _ _ _ _ _ _ _ _ cE (pv 1) aD) (@aM _ _ _ _ _ _ _ _ jG (pv 0) (pv 0))) aD) (fun _ _=>rfl))) (by rfl) (by rfl) (by rfl) (by rfl) (by rfl) (by rfl) (by rfl) (by intro _;rfl)) aB (by rfl)) (by rfl) (by rfl) (by rfl) (by rfl) (by rfl)) (by rfl) (by trivial)) (@aE _ _ _ _ _ (@aV _ _ (6) _ _ _ _ eF.nd rfl (Or.inl rfl) (@cX _ _ _ _ aB) (by rfl) (by trivial)) (@aE _ _ _ _ _ (@gK _ _ _ _ _ _ _ _ BG rfl (@iE _ _ _ _ _ _ rfl T.n_range (@aA _ _ _ _ _ aD aB (by rfl)) (by rfl)) (@bA _ _ (7) _ eF.nd rfl (Or.inl rfl) (by trivial)) (@aE _ _ _ _ _ (@aV _ _ (8) _ _ _ _ eF.nd rfl (Or.inl rfl) (@aZ _ _ _ _ _ _ _ aGL (pv 1) (@aM _ _ _ _ _ _ _ _ dC (@aM _ _ _ _ _ _ _ _ fK (@aM _ _ _ _ _ _ _ _ jG (pv 7) (pv 4)) (@aM _ _ _ _ _ _ _ _ cE (pv 0) aD)) aD) (fun _ _=>rfl)) (by rfl) (by trivial)) (@aG _ _ _ (@fC _ _ _ _ (@mB _ _ _ _ _ _ _ _ _ _ _ _ BP BS BR fD (pv 6) (@aA _ _ _ _ _ (@aM _ _ _ _ _ _ _ _ kI (@aM _ _ _ _ _ _ _ _ kI (@iR _ _ _ _ _ _ _ _ _ _ aMC (pv 5) nN (@jC _ _ _ (pv 3))) (pv 8)) (@iR _ _ _ _ _ _ _ _ _ _ aMC (pv 5) (@jC _ _ _ (@aM _ _ _ _ _ _ _ _ fK (pv 3) aD)) nN)) aB (by rfl)) (by rfl) (by rfl) (by rfl) (by rfl) (by rfl)) (by rfl)))) (by intro _;rfl)) (@aG _ _ _ (@aT _ _ _ _ (@cD _ _ _ _ _ _ _ _ _ _ _ ["_law_name"] 1 [] rfl (@bP _ _ _ _ (pv 6)) (fun R=>@bA _ _ (0) _ (show Aw (["_law_name"]:List Str) by decide +kernel) rfl (Or.inl rfl) (by trivial)) (@aW _ _ (by decide)) (fun R=>@fW _ _ _ (@cB _ _ _ _ _ _ _ _ mD (pv 0) dS (@bT _ _ (by decide) (by decide)))) (fun R=>(pv 0)) (by rfl) (by rfl) (by rfl) (by rfl) (by rfl) (by rfl) (by rfl) (by intro _;rfl))))))))))),?_⟩
 have z0:0≤c % 8:=At _ (by decide)
 have z1:c % 8<8:=Au _ (by decide)
 obtain⟨sz,hsz⟩:=Ap (show 0≤1+c % 8 by omega)
 refine⟨_,rfl,_,_,rfl,rfl,(lY rfl),_,_,rfl,rfl,?_⟩
 dsimp only
 rw[hsz]
 have szp:(0:Int)<(sz:Int):=by omega
 refine⟨_,rfl,_,_,rfl,rfl,⟨by decide,by decide⟩,_,rfl,_,_,rfl,rfl,szp,?_⟩
 have a0:0≤c / 8 % (sz:Int):=At _ (by omega)
 have a1:c / 8 % (sz:Int)<(sz:Int):=Au _ (by omega)
 obtain⟨at',hat⟩:=Ap a0
 dsimp only
 rw[hat]
 refine⟨aS rfl,fun pb hpb=>?_⟩
 have S0:=aH.upd (o:=.lst [.int 1,.int 3,.int 5,.int 7,.int 9,.int 11,.int 15,.int 17,.int 19,.int 21,.int 23,.int 25]) hpb
 obtain⟨u,mu,eu⟩:=aZP (i:=c / 64 % 12) (At _ (by decide)) (Au _ (by decide))
 refine⟨_,rfl,_,_,rfl,rfl,⟨by decide,by decide⟩,_,_,rfl,rfl,(lY rfl),pb,_,_,.int u,rfl,rfl,SqL.of aC,eu,?_⟩
 generalize upd H pb (.lst [.int 1,.int 3,.int 5,.int 7,.int 9,.int 11,.int 15,.int 17,.int 19,.int 21,.int 23,.int 25])=H0 at S0
 refine⟨rfl,_,rfl,_,rfl,by omega,by omega,?_⟩
 refine aHA (lo:=0) (n:=sz) (by omega) (fun i ys H'=>H0=H'∧ys=((Ag i).map fun (j:Nat)=>wC (c / 768+(j:Int)*(j:Int))).map V.str) ⟨rfl,rfl⟩ ?_ ?_ ?_
 ·rintro i ys H' ⟨rfl,rfl⟩
  simp
 ·rintro i ys H' K1 K2 hi ⟨rfl,rfl⟩ k1 k2
  refine⟨_,rfl,_,rfl,_,_,rfl,rfl,⟨by decide,by decide⟩,_,rfl,_,rfl,_,_,rfl,rfl,.inl ⟨by omega,by omega⟩,_,_,rfl,rfl,_,_,rfl,rfl,(lY rfl),_,_,ab (c / 768+(0+(i:Int))*(0+(i:Int))),rfl,rfl,hss,aTI _,k1 _ _ ⟨rfl,?_⟩⟩
  rw[EO,AT,AT]
  show _++[V.str (wC _)]=_++[V.str (wC _)]
  rw[ET]
 rintro ys H' ⟨rfl,rfl⟩
 intro p1 hp1
 have S1:=aH.upd (o:=.lst (((Ag sz).map fun (j:Nat)=>wC (c / 768+(j:Int)*(j:Int))).map V.str)) hp1
 have lsum:((((Ag sz).map fun (j:Nat)=>wC (c / 768+(j:Int)*(j:Int)))).map fun y=>y.length).sum=sz:=by
  rw[Ai]
  show ((Ag sz).map fun _=>1).sum=sz
  have e:∀ m:Nat,((Ag m).map fun _=>1).sum=m:=fun m=>by
   induction m with
   | zero=>rfl
   | succ m ih=>rw[EO,AT,List.sum_append,ih];rfl
  exact e sz
 refine⟨"",p1,(Ag sz).map fun (j:Nat)=>wC (c / 768+(j:Int)*(j:Int)),rfl,rfl,SqL.of aC,by rw[lsum,AA,CG,show ("":Str).length=0 by decide +kernel];omega,?_⟩
 generalize hb:Txt.join "" ((Ag sz).map fun (j:Nat)=>wC (c / 768+(j:Int)*(j:Int)))=b
 have bc:b.cps.toList=(Ag sz).map fun (j:Nat)=>ab (c / 768+(j:Int)*(j:Int)):=by
  rw[← hb,aGK,Ai]
  show (((Ag sz).map fun j=>[ab _]).flatten)=_
  induction (Ag sz) with
  | nil=>rfl
  | cons x r ih=>rw[AU,DI,ih,AU];rfl
 have bl:b.length=sz:=by rw[iG,bc,AA,CG]
 have ball:b.cps.toList.all iT=true:=by
  rw[bc,BW]
  intro x hx
  obtain⟨j,_,rfl⟩:=AM.mp hx
  exact aAJ _
 have bs:b.length≤Am:=by omega
 refine⟨aS rfl,fun l hl=>?_⟩
 have S2:=aH.upd (o:=.lst []) hl
 have hl0:=S1.free hl
 have ub:1≤u∧u≤25:=(show ∀ u∈units,1≤u∧u≤25 by decide +kernel) u mu
 refine⟨_,rfl,by omega,by omega,?_⟩
 refine gM (lo:=0) (n:=26) (fun i σ H'=>∃ (v7 v8:Option V) (g:Nat→Str),σ=[some (.int c),some (.str "abcdefghijklmnopqrstuvwxyz"),some (.int sz),some (.int at'),some (.int u),some (.str b),some (.ref l),v7,v8]∧aH H0 H'∧H' l=some (.lst (((Ag i).map g).map V.str))∧∀ k,k<i→(g k).cps.toList=b.cps.toList.take at'++[ab ((k:Int)*u+c / 19968)]++b.cps.toList.drop (at'+1))
  ⟨_,_,fun _=>"",rfl,S1.trans S2,aC,(fun k hk=>absurd hk (by omega))⟩ ?_ ?_
 ·rintro i σ H3 hi ⟨v7,v8,g,rfl,S3,hl3,pu⟩
  have ku:0≤(0+(i:Int))*u:=FX (by omega) (by omega)
  refine⟨_,rfl,_,rfl,_,rfl,_,_,rfl,rfl,.inl ⟨by omega,by omega⟩,_,rfl,_,_,rfl,rfl,⟨by decide,by decide⟩,_,_,rfl,rfl,_,_,rfl,rfl,(lY rfl),_,_,ab ((0+(i:Int))*u+c / 19968),rfl,rfl,hss,aTI _,?_⟩
  have tl:(Cn b none (some (at':Int))).length≤8:=by
   rw[iG,uX b at' (by omega),AR]
   omega
  have dl:(Cn b (some ((at':Int)+1)) none).length≤8:=by
   rw[show ((at':Int)+1)=((at'+1:Nat):Int) from rfl,iG,xC b (at'+1) (by omega),Bh,← iG]
   omega
  have ia:(wC ((0+(i:Int))*u+c / 19968)).length=1:=rfl
  have sh1:(wC ((0+(i:Int))*u+c / 19968)).cps.toList=[ab ((0+(i:Int))*u+c / 19968)]:=rfl
  refine⟨_,rfl,.inl ⟨rfl,_,SqL.of hl3⟩,_,rfl,_,rfl,_,rfl,b,rfl,bs,_,rfl,_,_,rfl,rfl,?_,_,rfl,_,rfl,_,_,rfl,rfl,_,rfl,b,rfl,bs,_,_,rfl,rfl,?_,l,_,_,rfl,rfl,hl3,by rw[AA,AA,CG];omega,?_⟩
  ·refine Av (FW tl (EN ia)) (by omega)
  ·rw[Tx.app_len]
   refine Av (FW (FW tl (EN ia)) dl) (by omega)
  ·refine⟨_,_,fun k=>if k=i then Cn b none (some (at':Int))++wC ((0+(i:Int))*u+c / 19968)++Cn b (some ((at':Int)+1)) none else g k,rfl,S3.over ?_,?_,fun k hk=>?_⟩
   ·exact hl0
   ·rw[aC,EO,AT,AT]
    have e1:(Ag i).map (fun k=>if k=i then Cn b none (some (at':Int))++wC ((0+(i:Int))*u+c / 19968)++Cn b (some ((at':Int)+1)) none else g k)=(Ag i).map g:=Bk fun k m=>by
     rw[if_neg (by have:=Bm.mp m;omega)]
    rw[e1]
    show _=some (HO.lst (_++[V.str (if i=i then _ else _)]))
    rw[if_pos rfl]
    rfl
   ·by_cases hki:k=i
    ·subst hki
     dsimp only
     rw[if_pos rfl]
     rw[Tx.app_codes,Tx.app_codes,uX b at' (by omega),show ((at':Int)+1)=((at'+1:Nat):Int) from rfl,xC b (at'+1) (by omega),sh1,ET]
    ·dsimp only
     rw[if_neg hki]
     exact pu k (by omega)
 ·rintro σ H3 ⟨v7,v8,g,rfl,S3,hl3,pu⟩
  have NM:=aXO (g:=g) (r:=c / 19968) ball bl (by omega) (by omega) (by omega) mu pu
  have NX:∀ z∈((Ag 26).map g).filter (fun z=>!decide (z=("sea":Str))),z≠noSuch:=fun z m=>by
   obtain⟨k,mk,rfl⟩:=AM.mp (Aq.mp m).1
   exact aRE bc (by omega) (by omega) (pu k (Bm.mp mk))
  refine⟨_,rfl,l,rfl,⟨_,SqL.of hl3⟩,?_⟩
  generalize hzs:(Ag 26).map g=zs at *
  have lz:zs.length=26:=by rw[← hzs,AA,CG]
  refine bH (F:=K) (xs:=zs.map V.str) (by rw[AA];omega) (fun i ys H'=>H3=H'∧ys=((zs.take i).filter fun z=>!decide (z=("sea":Str))).map V.str∧ys.length≤i) ⟨rfl,rfl,AL _⟩ ?_ ?_ ?_
  ·rintro i ys H' hi' ⟨rfl,rfl,hy⟩
   exact⟨SqL.of hl3,hy⟩
  ·rintro i xv ys H' K1 K2 hx ⟨rfl,rfl,hy⟩ k1 k2
   obtain⟨z,ez⟩:∃ z,zs[i]?=some z:=by
    have:=(AC.mp hx).1
    rw[AA] at this
    exact⟨_,AB this⟩
   rw[AH,ez] at hx
   cases hx
   refine⟨_,rfl,rfl,_,rfl,?_⟩
   show if (!decide (V.str z=V.str "sea"))=true then _ else _
   rw[kP]
   have et:((zs.take (i+1)).filter fun z=>!decide (z=("sea":Str)))=((zs.take i).filter fun z=>!decide (z=("sea":Str)))++(if (!decide (z=("sea":Str)))=true then [z] else []):=by
    rw[Aa,ez,Bz]
    cases hb:(!decide (z=("sea":Str))) <;> simp_all
   cases hb:(!decide (z=("sea":Str))) with
   | true =>
    rw[hb] at et
    refine cR ⟨_,rfl,k1 _ _ ⟨rfl,?_,by rw[AX,Bw];omega⟩⟩
    rw[et,AT]
    rfl
   | false =>
    rw[hb] at et
    refine bM (k2 _ ⟨rfl,?_,by omega⟩)
    rw[et]
    simp
  rintro ys H' ⟨rfl,rfl,hy⟩
  rw[AA,AG (AL _)]
  intro l2 hl2
  exact q _ l2 _ NM NX (S0.trans (S3.trans (aH.upd hl2))) (S0.free (S3.free hl2)) aC
theorem uT{i:Int}(h:hgt i=true):-1000000≤i∧i≤1000000:=by
 unfold hgt at h
 rw[AV,decide_eq_true_iff,decide_eq_true_iff] at h
 exact h
theorem fA:∀ {ds:List Dv},(∀ d∈ds,yB d=true)→zM ds=true
 | [],_=>rfl
 | d :: ds,h=>by
  rw[zM,h d AO,fA fun e m=>h e (AJ _ m)]
  rfl
open Mt21 Mt46
theorem aJS{c:TT}{a b u:TS}{D:Ends}{σ:L2.St}{H:Hp}(R:L2.St→Hp→Prop)(h:∀ σ' H',R σ' H'→u D σ' H')(k:∀ D':Ends,(∀ σ' H',R σ' H'→D'.nx σ' H')→aPU c a b D' σ H):iL (aPU c a b) u D σ H:=k { D with nx:=u D } h
theorem aZH{b:Bool}{A B X:Prop}(hA:A)(hX:A→b=false→X):if b=true then (if true=true then A else B) else X:=by
 cases b with
 | true=>rw[if_pos rfl,if_pos rfl];exact hA
 | false=>rw[if_neg (by intro z;cases z)];exact hX hA rfl
def aSZ(K:AE):Sp:=sp4 fun x y z u H Q=>∃ (ia im:Nat) (lf:Addr) (vf:List V) (fs:List Dv) (nf:Nat),Scr K H x∧y=.int ia∧ia≤63∧z=.int im∧1≤im∧im≤20∧u=.ref lf∧H lf=some (.lst vf)∧IsL H fs vf∧Fds fs nf∧nf≤12 ∧
 ∀ (l:Addr) (us:List V) (ds:List Dv) (H':Hp),aH H H'→H l=none→H' l=some (.lst us)→IsL H' ds us→Dks ("sea" :: fs.map aL) ds im→Q (.ref l) H'
theorem aGA(T:Txt K mg C):Fc P w K mg base 2 "_law_dykes" ["_law_script","_law_at","_law_most","_law_fields"] (aSZ K):=by
 have G_l_names:Fc P w K mg base 1 "_law_names" ["_law_cell"] aTT:=wH T
 have G_l_mixed:Fc P w K mg base 1 "_law_mixed" ["_law_script","_law_k"] (aLU K):=kK T
 have G_l_height:Fc P w K mg base 1 "_law_height" ["_law_cell"] aPZ:=mI T
 refine T.d_l_dykes.fc cN aXQ (fun f cdv A outer s H vs Q E hr h=>?_)
 obtain⟨x,y,z,u,rfl,ia,im,lf,vf,fs,nf,⟨a,ns,rfl,hS,hns⟩,rfl,ia63,rfl,im1,im20,rfl,hlf,iff,gf,nf12,q⟩:=h
 have scr:Scr K H (.ref a):=⟨a,ns,rfl,hS,hns⟩
 have big:=bY
 have lvf:=iff.length
 have f1:=gf.l1
 have f2:=gf.l2
 have snd:=aMD gf
 refine⟨_,(@aE _ _ _ _ _ (@aV _ _ (4) _ _ _ _ cN.nd rfl (Or.inl rfl) (@bE _ _ _ _ _ _ _ _ _ _ G_l_names (hr.mono (by decide)) (@aA _ _ _ _ _ (@aM _ _ _ _ _ _ _ _ cE (@bE _ _ _ _ _ _ _ _ _ _ G_l_mixed (hr.mono (by decide)) (@aA _ _ _ _ _ (pv 0) (@aA _ _ _ _ _ aD aB (by rfl)) (by rfl)) (by rfl) (by decide) (by rfl) (by rfl)) (@aM _ _ _ _ _ _ _ _ fY aD aD)) aB (by rfl)) (by rfl) (by decide) (by rfl) (by rfl)) (by rfl) (by trivial)) (@aE _ _ _ _ _ (@aV _ _ (5) _ _ _ _ cN.nd rfl (Or.inl rfl) (@aM _ _ _ _ _ _ _ _ pH (@cX _ _ _ _ (@aA _ _ _ _ _ dS aB (by rfl))) (@cD _ _ _ _ _ _ _ _ _ _ _ ["_law_field"] 1 [] rfl (@bP _ _ _ _ (pv 3)) (fun R=>@bA _ _ (0) _ (show Aw (["_law_field"]:List Str) by decide +kernel) rfl (Or.inl rfl) (by trivial)) (@aW _ _ (by decide)) (fun R=>bZ) (fun R=>(@aZ _ _ _ _ _ _ _ (@aO _ (K) rfl) (pv 0) aD (fun _ _=>rfl))) (by rfl) (by rfl) (by rfl) (by rfl) (by rfl) (by rfl) (by rfl) (by intro _;rfl))) (by rfl) (by trivial)) (@aE _ _ _ _ _ (@aV _ _ (6) _ _ _ _ cN.nd rfl (Or.inl rfl) (@cX _ _ _ _ aB) (by rfl) (by trivial)) (@aE _ _ _ _ _ (@gK _ _ _ _ _ _ _ _ BG rfl (@iE _ _ _ _ _ _ rfl T.n_range (@aA _ _ _ _ _ (@aQ _ _ _ _ _ _ _ _ _ (@zY _ rfl) rfl T.n_max aAB (@aA _ _ _ _ _ aD (@aA _ _ _ _ _ (@aQ _ _ _ _ _ _ _ _ _ (@zX _ rfl) rfl T.n_min sM (@aA _ _ _ _ _ (pv 2) (@aA _ _ _ _ _ (@aM _ _ _ _ _ _ _ _ eY (@aQ _ _ _ _ _ _ _ _ _ (@aY _ (K) rfl) rfl T.n_len bG (@aA _ _ _ _ _ (pv 0) aB (by rfl)) (by decide) (by decide) (by rfl) (by rfl)) (pv 1)) aB (by rfl)) (by rfl)) (by decide) (by decide) (by rfl) (by rfl)) aB (by rfl)) (by rfl)) (by decide) (by decide) (by rfl) (by rfl)) aB (by rfl)) (by rfl)) (@bA _ _ (7) _ cN.nd rfl (Or.inl rfl) (by trivial)) (@aE _ _ _ _ _ (@aV _ _ (8) _ _ _ _ cN.nd rfl (Or.inl rfl) (@bE _ _ _ _ _ _ _ _ _ _ G_l_mixed (hr.mono (by decide)) (@aA _ _ _ _ _ (pv 0) (@aA _ _ _ _ _ (@aM _ _ _ _ _ _ _ _ fK (pv 1) (pv 7)) aB (by rfl)) (by rfl)) (by rfl) (by decide) (by rfl) (by rfl)) (by rfl) (by trivial)) (@aE _ _ _ _ _ (@aV _ _ (9) _ _ _ _ cN.nd rfl (Or.inr rfl) (@aZ _ _ _ _ _ _ _ (@cW _ (K) rfl) (pv 5) (@aM _ _ _ _ _ _ _ _ dC (pv 8) (@aQ _ _ _ _ _ _ _ _ _ (@aY _ (K) rfl) rfl T.n_len bG (@aA _ _ _ _ _ (pv 5) aB (by rfl)) (by decide) (by decide) (by rfl) (by rfl))) (fun _ _=>rfl)) (by rfl) (by trivial)) (@aE _ _ _ _ _ (@iQ _ (10) _ _ _ _ _ _ _ _ _ _ _ _ _ cN.nd rfl ["_law_side","_law_one"] 1 [9] rfl (@bP _ _ _ _ (pv 5)) (fun R=>@bA _ _ (0) _ (show Aw (["_law_side","_law_one"]:List Str) by decide +kernel) rfl (Or.inl rfl) (by trivial)) (@aW _ _ (by decide)) (fun R=>@fW _ _ _ (@cB _ _ _ _ _ _ _ _ mD (pv 0) (pv 1) (@bT _ _ (by decide) (by decide)))) (fun R=>(pv 0)) (by exact Or.inl rfl) (by trivial) (by rfl) (by rfl) (by rfl) (by rfl) (by rfl) (by rfl) (by rfl) (by rfl) (by intro _;rfl)) (@aE _ _ _ _ _ (@aV _ _ (11) _ _ _ _ cN.nd rfl (Or.inl rfl) (@aZ _ _ _ _ _ _ _ (@cW _ (K) rfl) (pv 10) (@aM _ _ _ _ _ _ _ _ dC (@aM _ _ _ _ _ _ _ _ cE (pv 8) aD) (@aQ _ _ _ _ _ _ _ _ _ (@aY _ (K) rfl) rfl T.n_len bG (@aA _ _ _ _ _ (pv 10) aB (by rfl)) (by decide) (by decide) (by rfl) (by rfl))) (fun _ _=>rfl)) (by rfl) (by trivial)) (@aE _ _ _ _ _ (@aV _ _ (12) _ _ _ _ cN.nd rfl (Or.inl rfl) (@bE _ _ _ _ _ _ _ _ _ _ G_l_height (hr.mono (by decide)) (@aA _ _ _ _ _ (@aM _ _ _ _ _ _ _ _ cE (pv 8) aD) aB (by rfl)) (by rfl) (by decide) (by rfl) (by rfl)) (by rfl) (by trivial)) (@aE _ _ _ _ _ (@aV _ _ (13) _ _ _ _ cN.nd rfl (Or.inl rfl) (@aZ _ _ _ _ _ _ _ (@cW _ (K) rfl) (@cX _ _ _ _ (@aA _ _ _ _ _ aD (@aA _ _ _ _ _ aD (@aA _ _ _ _ _ (@aM _ _ _ _ _ _ _ _ fK aD (@aM _ _ _ _ _ _ _ _ dC (@aM _ _ _ _ _ _ _ _ cE (pv 8) (@aM _ _ _ _ _ _ _ _ fY aD aD)) aD)) (@aA _ _ _ _ _ (@aM _ _ _ _ _ _ _ _ dC (@aM _ _ _ _ _ _ _ _ cE (pv 8) (@aM _ _ _ _ _ _ _ _ fY aD aD)) (@aM _ _ _ _ _ _ _ _ fK (@aM _ _ _ _ _ _ _ _ fY aD aD) aD)) aB (by rfl)) (by rfl)) (by rfl)) (by rfl))) (@aM _ _ _ _ _ _ _ _ dC (@aM _ _ _ _ _ _ _ _ cE (pv 8) (@aM _ _ _ _ _ _ _ _ fY aD aD)) aD) (fun _ _=>rfl)) (by rfl) (by trivial)) (@aE _ _ _ _ _ (@aV _ _ (14) _ _ _ _ cN.nd rfl (Or.inl rfl) (@aM _ _ _ _ _ _ _ _ eY (@aM _ _ _ _ _ _ _ _ eY (pv 12) aD) (@aZ _ _ _ _ _ _ _ (@cW _ (K) rfl) (@cX _ _ _ _ (@aA _ _ _ _ _ aD (@aA _ _ _ _ _ aD (@aA _ _ _ _ _ aD (@aA _ _ _ _ _ (@aM _ _ _ _ _ _ _ _ fY aD aD) aB (by rfl)) (by rfl)) (by rfl)) (by rfl))) (@aM _ _ _ _ _ _ _ _ dC (@aM _ _ _ _ _ _ _ _ cE (pv 8) (@aM _ _ _ _ _ _ _ _ fY aD aD)) aD) (fun _ _=>rfl))) (by rfl) (by trivial)) (@aE _ _ _ _ _ (@dX _ _ _ _ _ _ _ _ (@PW.pt _ _ _ (@lX _ _ _ _ _ _ _ (@cB _ _ _ _ _ _ _ _ kY (@aM _ _ _ _ _ _ _ _ dC (@aM _ _ _ _ _ _ _ _ cE (pv 8) (@aM _ _ _ _ _ _ _ _ fY aD aD)) aD) aD (@bT _ _ (by decide) (by decide))) (@jF _ _ _ _ (@cB _ _ _ _ _ _ _ _ yY (pv 14) (@aM _ _ _ _ _ _ _ _ eY aD (@aM _ _ _ _ _ _ _ _ fY aD aD)) (@bT _ _ (by decide) (by decide)))))) (@aG _ _ _ (@aV _ _ (14) _ _ _ _ cN.nd rfl (Or.inl rfl) kG (by rfl) (by trivial))) bW) (@aG _ _ _ (@fC _ _ _ _ (@mB _ _ _ _ _ _ _ _ _ _ _ _ BP BS BR fD (pv 6) (@aA _ _ _ _ _ (@dJ _ _ _ _ _ (@aA _ _ _ _ _ (@aZ _ _ _ _ _ _ _ (@cW _ (K) rfl) (pv 4) (pv 7) (fun _ _=>rfl)) (@aA _ _ _ _ _ (pv 9) (@aA _ _ _ _ _ (pv 11) (@aA _ _ _ _ _ (pv 12) (@aA _ _ _ _ _ (pv 13) (@aA _ _ _ _ _ (pv 14) aB (by rfl)) (by rfl)) (by rfl)) (by rfl)) (by rfl)) (by rfl))) aB (by rfl)) (by rfl) (by rfl) (by rfl) (by rfl) (by rfl)) (by rfl))))))))))) (by intro _;rfl)) (@aG _ _ _ (@aT _ _ _ _ (pv 6))))))),?_⟩
 refine⟨_,rfl,_,_,rfl,1,scr,rfl,by decide,fun m0 hm0=>?_⟩
 refine⟨_,_,rfl,rfl,⟨by decide,by decide,by decide⟩,_,_,rfl,rfl,⟨by decide,by decide⟩,_,rfl,_,rfl,fun zs ln H1 NM _ S1 nln hln=>?_⟩
 refine⟨aS rfl,fun p1 hp1=>?_⟩
 have A1:=aH.upd (o:=.lst [.str "sea"]) hp1
 have B1:=S1.trans A1
 refine⟨_,rfl,lf,rfl,⟨_,SqL.of (B1 _ _ hlf)⟩,?_⟩
 refine bH (F:=K) (xs:=vf) (by omega) (fun i ys H'=>upd H1 p1 (.lst [.str "sea"])=H'∧ys=((fs.take i).map aL).map V.str) ⟨rfl,rfl⟩ ?_ ?_ ?_
 ·rintro i ys H' hi' ⟨rfl,rfl⟩
  exact⟨SqL.of (B1 _ _ hlf),by rw[AA,AA,AR];omega⟩
 ·rintro i xv ys H' K1 K2 hx ⟨rfl,rfl⟩ k1 k2
  have hil:i<vf.length:=(AC.mp hx).1
  obtain⟨d,ed⟩:∃ d,fs[i]?=some d:=⟨_,AB (by omega)⟩
  obtain⟨v,ev,iv⟩:=iff.get ed
  rw[hx] at ev
  cases ev
  obtain⟨z,g,e,rfl,_⟩:=bK (gf.all d (AI ed))
  obtain⟨t,rfl,o⟩:=iH iv
  refine⟨_,rfl,t,_,0,.str z,rfl,rfl,SqT.of (B1 _ _ o),aK (j:=0) rfl,k1 _ _ ⟨rfl,?_⟩⟩
  rw[Aa,ed]
  simp[aL,cK]
 rintro ys H' ⟨rfl,rfl⟩
 rw[AG (by omega)]
 intro p2 hp2
 have A2:=aH.upd (o:=.lst ((fs.map aL).map V.str)) hp2
 refine⟨p1,p2,_,_,rfl,rfl,A2 _ _ aC,aC,by simp only[AA,Af,ER];omega,fun ls hls=>?_⟩
 have A3:=aH.upd (o:=.lst ([.str "sea"]++(fs.map aL).map V.str)) hls
 have B3:=B1.trans (A2.trans A3)
 have C3:=A1.trans (A2.trans A3)
 have hls3:upd (upd (upd H1 p1 (.lst [.str "sea"])) p2 (.lst ((fs.map aL).map V.str))) ls (.lst ([.str "sea"]++(fs.map aL).map V.str)) ls=some (.lst ((("sea":Str) :: fs.map aL).map V.str)):=aC
 have hln3:=C3 _ _ hln
 generalize upd (upd (upd H1 p1 (.lst [.str "sea"])) p2 (.lst ((fs.map aL).map V.str))) ls (.lst ([.str "sea"]++(fs.map aL).map V.str))=H3 at B3 hls3 hln3
 generalize hsd:(("sea":Str) :: fs.map aL)=sd at *
 have lsd:2≤sd.length∧sd.length≤13:=by rw[← hsd,Af,AA];omega
 refine⟨aS rfl,fun l hl=>?_⟩
 have S4:=aH.upd (o:=.lst []) hl
 have T4:=B3.trans S4
 have nl:H l=none:=B3.free hl
 have hl4:upd H3 l (.lst []) l=some (.lst []):=aC
 have hls4:=S4 _ _ hls3
 have hln4:=S4 _ _ hln3
 have nls:ls≠l:=fun z=>by rw[z,hl] at hls3;cases hls3
 have nll:ln≠l:=fun z=>by rw[z,hl] at hln3;cases hln3
 generalize upd H3 l (.lst [])=H4 at T4 hl4 hls4 hln4
 have lns:(ns.map V.int).length=ns.length:=AA ..
 refine⟨_,rfl,_,rfl,a,_,rfl,.inl (T4.seq hS),_,rfl,_,_,rfl,rfl,_,_,rfl,_,_,rfl,?_⟩
 obtain⟨cnt,hcnt,c1,c2⟩:∃ cnt:Nat,(if (if (((ns.map V.int).length:Nat):Int) - (ia:Int)<(im:Int) then (((ns.map V.int).length:Nat):Int) - (ia:Int) else (im:Int))>1 then (if (((ns.map V.int).length:Nat):Int) - (ia:Int)<(im:Int) then (((ns.map V.int).length:Nat):Int) - (ia:Int) else (im:Int)) else 1)=(cnt:Int)∧1≤cnt∧cnt≤im:=by
  generalize (((ns.map V.int).length:Nat):Int) - (ia:Int)=w
  by_cases h1:w<(im:Int)
  ·rw[if_pos h1]
   by_cases h2:w>1
   ·rw[if_pos h2]
    exact⟨w.toNat,by omega,by omega,by omega⟩
   ·rw[if_neg h2]
    exact⟨1,rfl,by omega,by omega⟩
  ·rw[if_neg h1]
   by_cases h2:(im:Int)>1
   ·rw[if_pos h2]
    exact⟨im,rfl,by omega,by omega⟩
   ·rw[if_neg h2]
    exact⟨1,rfl,by omega,by omega⟩
 refine⟨(cnt:Int),congrArg (fun x=>[V.int x]) hcnt,by omega,by omega,?_⟩
 rw[CU]
 have nz:=NM.l1
 refine gM (lo:=0) (n:=cnt) (fun i σ H'=>∃ (w7 w8 w9 w10 w11 w12 w13 w14:Option V) (vs:List V) (es:List Dv),σ=[some (.ref a),some (.int ia),some (.int im),some (.ref lf),some (.ref ln),some (.ref ls),some (.ref l),w7,w8,w9,w10,w11,w12,w13,w14]∧rA l H4 H'∧H' l=some (.lst vs)∧IsL H' es vs∧es.map aL=zs.take i∧es.length=i∧∀ d∈es,cO sd d=true) ⟨_,_,_,_,_,_,_,_,[],[],rfl,(fun b o e _=>e),hl4,rfl,rfl,rfl,fun d m=>by cases m⟩ ?_ ?_
 ·rintro i σ H' hi ⟨w7,w8,w9,w10,w11,w12,w13,w14,ys,es,rfl,X,hly,iy,en,le,all⟩
  have SH:aH H H':=fun b o e=>X _ _ (T4 _ _ e) (fun z=>by rw[z,nl] at e;cases e)
  have ly:=iy.length
  obtain⟨z,ez⟩:∃ z,zs[i]?=some z:=⟨_,AB (by omega)⟩
  have nmz:=NM.nm z (AI ez)
  have zi:(0:Int)+(i:Int)=(i:Int):=ET _
  refine⟨_,rfl,_,rfl,_,rfl,_,_,rfl,rfl,_,_,rfl,_,scr.same SH,rfl,by show 0≤(ia:Int)+(0+(i:Int));omega,fun mc hmc=>?_⟩
  have hls5:=X _ _ hls4 nls
  have psd:(0:Int)<(((sd.map V.str).length:Nat):Int):=by rw[AA];omega
  have o0:0≤mc % (((sd.map V.str).length:Nat):Int):=At _ (by omega)
  have o1:mc % (((sd.map V.str).length:Nat):Int)<(((sd.map V.str).length:Nat):Int):=Au _ psd
  obtain⟨k1',hk1⟩:=Ap o0
  have lk1:k1'<sd.length:=by rw[hk1,AA] at o1;omega
  obtain⟨one,eone⟩:∃ z,sd[k1']?=some z:=⟨_,AB lk1⟩
  refine⟨_,rfl,_,rfl,_,rfl,ls,_,rfl,.inl (SqL.of hls5),_,_,rfl,rfl,psd,ls,_,_,.str one,rfl,rfl,SqL.of hls5,by rw[hk1];exact aK (by rw[AH,eone];rfl),?_⟩
  refine⟨_,rfl,ls,rfl,⟨_,SqL.of hls5⟩,?_⟩
  refine bH (F:=K) (xs:=sd.map V.str) (by rw[AA];omega) (fun i ys Hx=>H'=Hx∧ys=((sd.take i).filter fun y=>!decide (y=one)).map V.str∧ys.length≤i) ⟨rfl,rfl,AL _⟩ ?_ ?_ ?_
  ·rintro i ys Hx hi' ⟨rfl,rfl,hy⟩
   exact⟨SqL.of hls5,hy⟩
  ·rintro i xv ys Hx K1 K2 hx ⟨rfl,rfl,hy⟩ k1 k2
   obtain⟨y,ey⟩:∃ y,sd[i]?=some y:=by
    have:=(AC.mp hx).1
    rw[AA] at this
    exact⟨_,AB this⟩
   rw[AH,ey] at hx
   cases hx
   refine⟨_,rfl,_,rfl,rfl,_,rfl,?_⟩
   show if (!decide (V.str y=V.str one))=true then _ else _
   rw[kP]
   have et:((sd.take (i+1)).filter fun y=>!decide (y=one))=((sd.take i).filter fun y=>!decide (y=one))++(if (!decide (y=one))=true then [y] else []):=by
    rw[Aa,ey,Bz]
    cases hb:(!decide (y=one)) <;> simp_all
   cases hb:(!decide (y=one)) with
   | true =>
    rw[hb] at et
    refine cR ⟨_,rfl,k1 _ _ ⟨rfl,?_,by rw[AX,Bw];omega⟩⟩
    rw[et,AT]
    rfl
   | false =>
    rw[hb] at et
    refine bM (k2 _ ⟨rfl,?_,by omega⟩)
    rw[et]
    simp
  rintro ys' Hx ⟨rfl,rfl,hy⟩
  rw[AA,AG (AL _)]
  intro po hpo
  have A5:=aH.upd (o:=.lst ((sd.filter fun y=>!decide (y=one)).map V.str)) hpo
  have hpo5:upd H' po (.lst ((sd.filter fun y=>!decide (y=one)).map V.str)) po=some (.lst ((sd.filter fun y=>!decide (y=one)).map V.str)):=aC
  have lot:=aGG one sd snd
  have pot:(0:Int)<((((sd.filter fun y=>!decide (y=one)).map V.str).length:Nat):Int):=by rw[AA];omega
  generalize hot:(sd.filter fun y=>!decide (y=one))=ot at *
  generalize upd H' po (.lst (ot.map V.str))=H5 at A5 hpo5 ⊢
  have q0:0≤mc / 16 % (((ot.map V.str).length:Nat):Int):=At _ (by omega)
  have q1:mc / 16 % (((ot.map V.str).length:Nat):Int)<(((ot.map V.str).length:Nat):Int):=Au _ pot
  obtain⟨k2',hk2⟩:=Ap q0
  have lk2:k2'<ot.length:=by rw[hk2,AA] at q1;omega
  obtain⟨oth,eoth⟩:∃ z,ot[k2']?=some z:=⟨_,AB lk2⟩
  have moth:=AI eoth
  rw[← hot] at moth
  obtain⟨moth1,moth2⟩:=Aq.mp moth
  have noth:one≠oth:=fun e=>by rw[e] at moth2;simp at moth2
  refine⟨_,rfl,_,rfl,_,_,rfl,rfl,⟨by decide,by decide⟩,_,rfl,po,_,rfl,.inl (SqL.of hpo5),_,_,rfl,rfl,pot,po,_,_,.str oth,rfl,rfl,SqL.of hpo5,by rw[hk2];exact aK (by rw[AH,eoth];rfl),?_⟩
  refine⟨_,rfl,_,_,rfl,rfl,⟨by decide,by decide⟩,_,rfl,_,rfl,fun cr hcr=>?_⟩
  have hcr':=uT hcr
  have p6':(10:Int) ^ (6:Int).toNat=1000000:=by decide
  have pm6:(0:Int)<10 ^ (6:Int).toNat+1:=by decide
  refine⟨_,rfl,_,_,rfl,rfl,⟨by decide,by decide,by decide⟩,_,_,rfl,rfl,⟨by decide,by decide⟩,_,_,rfl,rfl,(lY rfl),_,_,rfl,rfl,_,rfl,_,_,rfl,rfl,⟨by decide,by decide,by decide⟩,_,_,rfl,rfl,⟨by decide,by decide⟩,_,_,rfl,rfl,⟨by decide,by decide,by decide⟩,_,_,rfl,rfl,_,_,rfl,rfl,pm6,aS rfl,fun p6 hp6=>?_⟩
  have A6:=aH.upd (o:=.lst [.int 0,.int 1,.int (1+mc / 10 ^ (9:Int).toNat % 4),.int (mc / 10 ^ (9:Int).toNat % (10 ^ (6:Int).toNat+1))]) hp6
  obtain⟨rt,ert,hrt⟩:=at4 (a:=0) (b:=1) (c:=1+mc / 10 ^ (9:Int).toNat % 4) (d:=mc / 10 ^ (9:Int).toNat % (10 ^ (6:Int).toNat+1)) (i:=mc / 10 ^ (8:Int).toNat % 4) (At _ (by decide)) (Au _ (by decide))
  have rt01:0≤rt∧rt≤1000000:=by
   have b0:=At (mc / 10 ^ (9:Int).toNat) (show (4:Int)≠0 by decide)
   have b1:=Au (mc / 10 ^ (9:Int).toNat) (show (0:Int)<4 by decide)
   rw[p6'] at hrt
   have c0:=At (mc / 10 ^ (9:Int).toNat) (show (1000000+1:Int)≠0 by decide)
   have c1:=Au (mc / 10 ^ (9:Int).toNat) (show (0:Int)<1000000+1 by decide)
   rcases hrt with rfl | rfl | rfl | rfl <;> omega
  refine⟨_,rfl,_,_,rfl,rfl,⟨by decide,by decide,by decide⟩,_,_,rfl,rfl,⟨by decide,by decide⟩,_,_,rfl,rfl,(lY rfl),p6,_,_,.int rt,rfl,rfl,SqL.of aC,ert,?_⟩
  generalize upd H5 p6 (.lst [.int 0,.int 1,.int (1+mc / 10 ^ (9:Int).toNat % 4),.int (mc / 10 ^ (9:Int).toNat % (10 ^ (6:Int).toNat+1))])=H6 at A6 ⊢
  refine⟨_,rfl,_,_,rfl,rfl,_,_,rfl,rfl,⟨by decide,by decide,by decide⟩,aS rfl,fun p7 hp7=>?_⟩
  have A7:=aH.upd (o:=.lst [.int 0,.int 1,.int 2,.int (10 ^ (5:Int).toNat)]) hp7
  obtain⟨sx,esx,hsx⟩:=at4 (a:=0) (b:=1) (c:=2) (d:=10 ^ (5:Int).toNat) (i:=mc / 10 ^ (15:Int).toNat % 4) (At _ (by decide)) (Au _ (by decide))
  have sx0:0≤sx:=by rcases hsx with rfl | rfl | rfl | rfl <;> decide
  refine⟨_,rfl,_,_,rfl,rfl,⟨by decide,by decide,by decide⟩,_,_,rfl,rfl,⟨by decide,by decide⟩,_,_,rfl,rfl,(lY rfl),p7,_,_,.int sx,rfl,rfl,SqL.of aC,esx,_,_,rfl,rfl,?_⟩
  generalize upd H6 p7 (.lst [.int 0,.int 1,.int 2,.int (10 ^ (5:Int).toNat)])=H7 at A7 ⊢
  have A57:=A5.trans (A6.trans A7)
  unfold wU
  dsimp only
  refine aJS (fun σ' Hz=>Hz=H7∧∃ (sv:V) (sl:Dv),σ'=[some (.ref a),some (.int ia),some (.int im),some (.ref lf),some (.ref ln),some (.ref ls),some (.ref l),some (.int (0+(i:Int))),some (.int mc),some (.str one),some (.ref po),some (.str oth),some (.int cr),some (.int rt),some sv]∧(∀ G:Hp,Is G sl sv)∧mR (.int cr) sl=true∧yB sl=true) (fun σ' Hz hR=>?_) (fun D' hD=>?_)
  rotate_left
  ·refine⟨_,rfl,_,_,rfl,rfl,⟨by decide,by decide,by decide⟩,_,_,rfl,rfl,⟨by decide,by decide⟩,_,_,rfl,rfl,(lY rfl),rfl,_,rfl,?_⟩
   rw[gR]
   dsimp only
   refine aZH ?_ (fun none' c1'=>?_)
   ·exact hD _ _ ⟨rfl,.non,.non,rfl,(fun _=>rfl),rfl,rfl⟩
   refine⟨_,rfl,_,_,rfl,rfl,⟨by decide,by decide,by decide⟩,_,_,rfl,rfl,_,_,rfl,rfl,_,rfl,?_⟩
   refine lF (fun _=>none') (fun h2=>?_)
   have h2':¬ (cr - 1 - sx<0 - 10 ^ (6:Int).toNat):=fun h=>h2 (decide_eq_true h)
   rw[p6'] at h2'
   refine hD _ _ ⟨rfl,.int (cr - 1 - sx),.int (cr - 1 - sx),rfl,(fun _=>rfl),?_,rfl⟩
   show (hgt _ && decide _)=true
   rw[aGP (by omega) (by omega),decide_eq_true (by omega)]
   rfl
  obtain⟨rfl,sv,sl,rfl,isv,okS,hrdS⟩:=hR
  have hly7:=A57 _ _ hly
  refine⟨_,rfl,.inl ⟨rfl,_,SqL.of hly7⟩,?_⟩
  refine⟨_,rfl,_,rfl,ln,_,_,.str z,rfl,rfl,SqL.of (A57 _ _ (X _ _ hln4 nll)),(by rw[zi];exact aK (by rw[AH,ez];rfl)),_,rfl,_,rfl,_,rfl,_,rfl,_,rfl,aS rfl,fun t ht=>?_⟩
  have A8:=aH.upd (o:=.tup [.str z,.str one,.str oth,.int cr,.int rt,sv]) ht
  have A58:=A57.trans A8
  refine⟨l,_,_,rfl,rfl,A58 _ _ hly,by omega,?_⟩
  have ntl:t≠l:=fun e=>by rw[e,hly7] at ht;cases ht
  have kp:gI H' (upd (upd Hz t (.tup [.str z,.str one,.str oth,.int cr,.int rt,sv])) l (.lst (ys++[.ref t]))):=fun b xs e=>by
   rw[aI (fun z=>by rw[z,hly] at e;cases e)]
   exact A58 _ _ e
  refine⟨_,_,_,_,_,_,_,_,ys++[.ref t],es++[.tup [.str z,.str one,.str oth,.int cr,.int rt,sl]],rfl,(X.then A58).put,aC,IsL.snoc ?_ (IsL.keep kp _ _ (fA fun d m=>zQ (all d m)) iy),?_,by rw[AX,le];rfl,?_⟩
  ·exact⟨t,_,rfl,by rw[aI ntl,aC],_,_,rfl,rfl,_,_,rfl,rfl,_,_,rfl,rfl,_,_,rfl,rfl,_,_,rfl,rfl,_,_,rfl,isv _,rfl⟩
  ·rw[AT,en,Aa,ez]
   rfl
  ·intro d md
   rcases Ar.mp md with md | md
   ·exact all d md
   ·rw[AS.mp md]
    exact aCD nmz (AI eone) moth1 noth hcr (aWF rt01.1 rt01.2) okS
 ·rintro σ H' ⟨w7,w8,w9,w10,w11,w12,w13,w14,ys,es,rfl,X,hly,iy,en,le,all⟩
  have SH:aH H H':=fun b o e=>X _ _ (T4 _ _ e) (fun z=>by rw[z,nl] at e;cases e)
  refine⟨_,rfl,q l ys es H' SH nl hly iy ⟨by omega,by omega,all,?_⟩⟩
  rw[en]
  exact NM.nd.sublist (DH _ _)
open Mt53
theorem gR(a b:Int):decide (V.int a=V.int b)=decide (a=b):=by
 by_cases h:a=b
 ·subst h;simp
 ·rw[decide_eq_false h,decide_eq_false (fun c=>h (by cases c;rfl))]
def rE:Sp:=sp2 fun x y H Q=>∃ (t:Addr) (n a b:Str) (c r h:Int) (sv:V),x=.ref t∧y=.int h∧H t=some (.tup [.str n,.str a,.str b,.int c,.int r,sv])∧0≤r∧r≤1000000∧Q (.int (r*(h - c))) H
theorem oS(T:Txt K mg C):Fc P w K mg base 1 "coins_to" ["dyke","height"] rE:=by
 refine T.d_p_coins_to.fc xO iU (fun f cdv A outer s H vs Q E hr h=>?_)
 obtain⟨x,y,rfl,t,n,a,b,c,r,h,sv,rfl,rfl,o,r0,r1,q⟩:=h
 refine⟨_,(@aG _ _ _ (@aT _ _ _ _ (@aM _ _ _ _ _ _ _ _ jG (@aZ _ _ _ _ _ _ _ (@aO _ (K) rfl) (pv 0) aD (fun _ _=>rfl)) (@aM _ _ _ _ _ _ _ _ eY (pv 1) (@aZ _ _ _ _ _ _ _ (@aO _ (K) rfl) (pv 0) aD (fun _ _=>rfl)))))),?_⟩
 exact⟨_,rfl,t,_,4,.int r,rfl,rfl,SqT.of o,aK (j:=4) rfl,_,rfl,_,rfl,t,_,3,.int c,rfl,rfl,SqT.of o,aK (j:=3) rfl,_,_,rfl,rfl,_,_,rfl,rfl,.inl ⟨by omega,by omega⟩,q⟩
theorem aWG{r:Int}(h:amt r=true):0≤r∧r≤1000000:=by
 have:=An.mp h
 exact⟨of_decide_eq_true this.1,of_decide_eq_true this.2⟩
theorem aCR{zs:List Str}{ds ws:List Dv}(gd:GoodD zs ds)(gw:GoodW ds ws)(lw:ws.length≤1000):cI (.lst ws)=true:=jU (fun d m=>by
  obtain⟨z,v,rfl,hz,_⟩:=oW (gw.all d m)
  obtain⟨d',md,rfl⟩:=AM.mp hz
  obtain⟨n,a,b,c,r,sl,rfl,hn,_⟩:=bU (gd.all d' md)
  have e:=kL hn
  show (decide (2≤1000) && (decide (n.length≤1000) && (true && true)))=true
  rw[decide_eq_true e]
  rfl) lw
def yL(C:Addr):Sp:=sp2 fun x y H Q=>∃ (p:Addr) (fs ds ws:List Dv),x=.ref p∧LandAt C H p fs ds∧Is H (.lst ws) y∧ws.length≤1000∧GoodW ds ws∧Q (.int (aCG ds ws)) H
theorem xX(T:Txt K mg C):Fc P w K mg base 5 "coins_of" ["land","works"] (yL C):=by
 have G_p_are_works:Fc P w K mg base 4 "are_works" ["land","thing"] (aHN C):=wE T
 have G_p_coins_to:Fc P w K mg base 1 "coins_to" ["dyke","height"] rE:=oS T
 have G_land_p_dyke:Mc P w K mg base 1 C "dyke" ["self","name"] (uP C):=iS T
 refine T.d_p_coins_of.fcD xP iU (fun f cdv A outer s H vs Q E hr h=>?_)
 obtain⟨x,y,rfl,p,fs,ds,ws,rfl,L,hw,lw,gw,q⟩:=h
 have big:=bY
 obtain⟨dx,e1,e2,hx,_⟩:=L.ex
 have no:∀ m:Str,¬ m="dyke_rows"→¬ m="field_rows"→(mP e1 e2).lookup m=none:=fun m h1 h2=>iV _ _ h1 h2
 have gd:=(cJ L).2
 refine⟨_,(@aE _ _ _ _ _ (@dX _ _ _ _ _ _ _ _ (@dR _ _ _ _ (@dI _ _ _ (@bE _ _ _ _ _ _ _ _ _ _ G_p_are_works (hr.mono (by decide)) (@aA _ _ _ _ _ (pv 0) (@aA _ _ _ _ _ (pv 1) aB (by rfl)) (by rfl)) (by rfl) (by decide) (by rfl) (by rfl)) (by intro _;rfl))) (@aG _ _ _ jS) bW) (@aG _ _ _ (@aT _ _ _ _ (@aQ _ _ _ _ _ _ _ _ _ (@aPB _ rfl) rfl T.n_sum aKW (@aA _ _ _ _ _ (@cD _ _ _ _ _ _ _ _ _ _ _ ["work","land"] 1 [0] rfl (@bP _ _ _ _ (pv 1)) (fun R=>@bA _ _ (0) _ (show Aw (["work","land"]:List Str) by decide +kernel) rfl (Or.inl rfl) (by trivial)) (@aW _ _ (by decide)) (fun R=>bZ) (fun R=>(@bE _ _ _ _ _ _ _ _ _ _ G_p_coins_to (hr.mono (by decide)) (@aA _ _ _ _ _ (@aQZ _ _ _ _ _ _ _ _ _ _ _ _ _ _ T.cl_Land G_land_p_dyke (hr.mono (by decide)) (pv 1) (@aA _ _ _ _ _ (@aZ _ _ _ _ _ _ _ (@aO _ (K) rfl) (pv 0) aD (fun _ _=>rfl)) aB (by rfl)) (by rfl) (by rfl) (by rfl)) (@aA _ _ _ _ _ (@aZ _ _ _ _ _ _ _ (@aO _ (K) rfl) (pv 0) aD (fun _ _=>rfl)) aB (by rfl)) (by rfl)) (by rfl) (by decide) (by rfl) (by rfl))) (by rfl) (by rfl) (by rfl) (by rfl) (by rfl) (by rfl) (by rfl) (by intro _;rfl)) aB (by rfl)) (by decide) (by decide) (by rfl) (by rfl))))),?_⟩
 refine⟨_,rfl,_,rfl,_,_,rfl,p,fs,ds,.lst ws,rfl,L,hw,aCR gd gw lw,_,rfl,?_⟩
 rw[(aKP ds ws).mpr gw]
 refine bM ?_
 obtain⟨a,us,rfl,ho,hi⟩:=hw
 have lu:=hi.length
 refine⟨_,rfl,a,rfl,⟨_,SqL.of ho⟩,?_⟩
 refine bH (F:=K) (xs:=us) (by omega) (fun i ys H'=>H'=H∧ys=((ws.take i).map (aEW ds)).map V.int) ⟨rfl,rfl⟩ ?_ ?_ ?_
 ·rintro i ys H' hi' ⟨rfl,rfl⟩
  exact⟨SqL.of ho,by rw[AA,AA,AR];omega⟩
 ·rintro i x ys H' K1 K2 hx' ⟨rfl,rfl⟩ k1 k2
  have hil:i<us.length:=(AC.mp hx').1
  obtain⟨d,ed⟩:∃ d,ws[i]?=some d:=⟨_,AB (by omega)⟩
  obtain⟨v,ev,iv⟩:=hi.get ed
  rw[hx'] at ev
  cases ev
  obtain⟨z,h,rfl,mz,_⟩:=oW (gw.all d (AI ed))
  obtain⟨d',md,rfl⟩:=AM.mp mz
  obtain⟨t,rfl,o⟩:=aLB iv
  have ec:=xF gd.nd md
  have er:=aIC gd.nd md
  refine⟨_,rfl,p,dx,_,rfl,hx,no _ (by decide +kernel) (by decide +kernel),_,rfl,t,_,0,_,rfl,rfl,SqT.of o,aK (j:=0) rfl,_,_,rfl,p,fs,ds,d',rfl,rfl,L,md,fun v1 iv1=>?_⟩
  obtain⟨n,a',b',c,r,sl,rfl,_,_,_,_,_,hr',_⟩:=bU (gd.all d' md)
  obtain⟨t',sv,rfl,o',_⟩:=kA iv1
  obtain⟨r0,r1⟩:=aWG hr'
  refine⟨_,rfl,t,_,1,.int h,rfl,rfl,SqT.of o,aK (j:=1) rfl,_,_,rfl,t',n,a',b',c,r,h,sv,rfl,rfl,o',r0,r1,k1 _ _ ⟨rfl,?_⟩⟩
  rw[Aa,ed,AT,AT]
  have e:aEW ds (.tup [.str n,.int h])=r*(h - c):=by
   show vW ds n*(h - gC ds n)=_
   rw[show gC ds n=c from ec,show vW ds n=r from er]
  show _++[V.int _]=_++[V.int (aEW ds (.tup [.str n,.int h]))]
  rw[e]
 ·rintro ys H' ⟨rfl,rfl⟩
  intro p1 hp1
  rw[AG (by omega)] at *
  exact⟨p1,_,rfl,SqL.of aC,cU.of (gF.lst hp1) q⟩
open Mt22 MtF
theorem aVC{zs:List Str}{n:Int}(h1:1≤zs.length)(h2:(zs.length:Int)≤n):zD n (.lst (zs.map Dv.str))=true:=by
 unfold zD
 simp only[AA]
 rw[decide_eq_true (by omega),decide_eq_true (by omega)]
 rfl
def aLO(C:Addr):Sp:=sp2 fun x y H Q=>∃ (p l:Addr) (fs ds:List Dv) (zs:List Str),x=.ref p∧LandAt C H p fs ds∧y=.ref l∧H l=some (.lst (zs.map V.str))∧1≤zs.length∧zs.Nodup∧(∀ z∈zs,z∈fs.map aL)∧∀ H',aH H H'→Q (.bl true) H'
theorem mH(T:Txt K mg C):Fc P w K mg base 2 "are_some_fields" ["land","thing"] (aLO C):=by
 have G_land_p_field_names:Mc P w K mg base 1 C "field_names" ["self"] (aAO C fun fs _=>fs.map aL):=gH T
 have G_p_is_list_of:Fc P w K mg base 1 "is_list_of" ["thing","most"] lK:=fJ T
 have G_p_is_one_of:Fc P w K mg base 1 "is_one_of" ["thing","names"] (pU K):=fZ T
 refine T.d_p_are_some_fields.fc dN iU (fun f cdv A outer s H vs Q E hr h=>?_)
 obtain⟨x,y,rfl,p,l,fs,ds,zs,rfl,L,rfl,hl,l1,nd,sub,q⟩:=h
 have big:=bY
 have gf:=(cJ L).1
 have f2:=gf.l2
 have lz:zs.length≤fs.length:=by
  have:=aBW nd sub
  rw[AA] at this
  exact this
 obtain⟨dx,d1,d2,hx,_⟩:=L.ex
 refine⟨_,(@aE _ _ _ _ _ (@aV _ _ (2) _ _ _ _ dN.nd rfl (Or.inr rfl) (@aIF _ _ _ _ _ _ _ _ _ _ _ T.cl_Land G_land_p_field_names (hr.mono (by decide)) (pv 0) (by rfl)) (by rfl) (by trivial)) (@aE _ _ _ _ _ (@dX _ _ _ _ _ _ _ _ (@PW.pt _ _ _ (@lX _ _ _ _ _ _ _ (@dR _ _ _ _ (@dI _ _ _ (@bE _ _ _ _ _ _ _ _ _ _ G_p_is_list_of (hr.mono (by decide)) (@aA _ _ _ _ _ (pv 1) (@aA _ _ _ _ _ (@aQ _ _ _ _ _ _ _ _ _ (@aY _ (K) rfl) rfl T.n_len bG (@aA _ _ _ _ _ (pv 2) aB (by rfl)) (by decide) (by decide) (by rfl) (by rfl)) aB (by rfl)) (by rfl)) (by rfl) (by decide) (by rfl) (by rfl)) (by intro _;rfl))) (@jF _ _ _ _ (@dR _ _ _ _ (@dI _ _ _ (@aQ _ _ _ _ _ _ _ _ _ (@kC _ rfl) rfl T.n_all iI (@aA _ _ _ _ _ (@cD _ _ _ _ _ _ _ _ _ _ _ ["name","names"] 1 [2] rfl (@bP _ _ _ _ (pv 1)) (fun R=>@bA _ _ (0) _ (show Aw (["name","names"]:List Str) by decide +kernel) rfl (Or.inl rfl) (by trivial)) (@aW _ _ (by decide)) (fun R=>bZ) (fun R=>(@bE _ _ _ _ _ _ _ _ _ _ G_p_is_one_of (hr.mono (by decide)) (@aA _ _ _ _ _ (pv 0) (@aA _ _ _ _ _ (pv 1) aB (by rfl)) (by rfl)) (by rfl) (by decide) (by rfl) (by rfl))) (by rfl) (by rfl) (by rfl) (by rfl) (by rfl) (by rfl) (by rfl) (by intro _;rfl)) aB (by rfl)) (by decide) (by decide) (by rfl) (by rfl)) (by intro _;rfl)))))) (@aG _ _ _ (@aT _ _ _ _ jT)) bW) (@aG _ _ _ (@aT _ _ _ _ (@dW _ _ _ _ _ _ _ _ kY (@aQ _ _ _ _ _ _ _ _ _ call_len_set rfl T.n_len bG (@aA _ _ _ _ _ (@bJ _ _ _ _ _ _ _ _ _ (@jJ _ rfl) rfl T.n_set sL (@aA _ _ _ _ _ (pv 1) aB (by rfl)) (by decide) (by decide) (by rfl) (by rfl)) aB (by rfl)) (by decide) (by decide) (by rfl) (by rfl)) (@aQ _ _ _ _ _ _ _ _ _ (@aY _ (K) rfl) rfl T.n_len bG (@aA _ _ _ _ _ (pv 1) aB (by rfl)) (by decide) (by decide) (by rfl) (by rfl)) (@bT _ _ (by decide) (by decide))))))),?_⟩
 refine⟨_,rfl,p,dx,_,rfl,hx,iV _ _ (by decide +kernel) (by decide +kernel),_,rfl,p,fs,ds,rfl,L,fun ln H1 S1 fln hln=>?_⟩
 have hl1:=S1 _ _ hl
 refine⟨_,rfl,_,rfl,ln,_,rfl,.inl (SqL.of hln),_,_,rfl,.lst (zs.map Dv.str),_,aPX hl1,rfl,_,rfl,?_⟩
 rw[aVC l1 (by rw[AA,AA];omega)]
 refine bM ?_
 refine⟨_,rfl,l,rfl,⟨_,SqL.of hl1⟩,?_⟩
 refine bH (F:=K) (xs:=zs.map V.str) (by rw[AA];omega) (fun i ys H'=>H1=H'∧ys=(zs.take i).map fun z=>V.bl true) ⟨rfl,rfl⟩ ?_ ?_ ?_
 ·rintro i ys H' hi' ⟨rfl,rfl⟩
  exact⟨SqL.of hl1,by rw[AA,AR];omega⟩
 ·rintro i xv ys H' K1 K2 hx ⟨rfl,rfl⟩ k1 k2
  obtain⟨z,ez⟩:∃ z,zs[i]?=some z:=by
   have:=(AC.mp hx).1
   rw[AA] at this
   exact⟨_,AB this⟩
  rw[AH,ez] at hx
  cases hx
  refine⟨_,rfl,_,rfl,_,_,rfl,.str z,ln,_,rfl,rfl,SqL.of hln,?_⟩
  rw[show fO (fs.map aL) (.str z)=true from decide_eq_true (sub z (AI ez))]
  refine k1 _ _ ⟨rfl,?_⟩
  rw[Aa,ez,AT]
  rfl
 rintro ys H' ⟨rfl,rfl⟩
 rw[AA,AG (AL _)]
 intro p4 hp4
 have S4:=aH.upd (o:=.lst (zs.map fun z=>V.bl true)) hp4
 refine⟨p4,zs.map fun _=>true,rfl,SqL.of ?_,_,rfl,?_⟩
 ·rw[aC,Ai]
  rfl
 rw[show (zs.map fun _=>true).all id=true from BW.mpr fun b m=>by obtain⟨z,_,rfl⟩:=AM.mp m;rfl]
 refine bM ?_
 have hl4:=S4 _ _ hl1
 refine⟨_,rfl,l,zs.map Sum.inr,rfl,SqL.of (by rw[hl4,aBS]),by rw[AA];omega,fun p5 hp5=>?_⟩
 have hle:=aCE (zs.map (Sum.inr:Str→Key))
 rw[AA] at hle
 refine⟨p5,_,_,rfl,aC,by omega,_,rfl,l,zs.map V.str,rfl,.inl (SqL.of (by rw[aI (aN hl4 hp5)];exact hl4)),rfl,?_⟩
 have e:decide (V.int ((uI (zs.map (Sum.inr:Str→Key))).length:Int)=V.int ((zs.map V.str).length:Int))=true:=by
  rw[gR,AA,(sG _).mpr ((fP zs).mpr nd),AA]
  first | exact decide_eq_true rfl | exact beq_self_eq_true _
 rw[e]
 exact q _ (S1.trans (S4.trans (aH.upd hp5)))
def pT(C:Addr):Sp:=sp3 fun x y u H Q=>∃ (p l:Addr) (fs ds:List Dv) (zs:List Str) (L:Int),x=.ref p∧LandAt C H p fs ds∧y=.ref l∧H l=some (.lst (zs.map V.str))∧1≤zs.length∧zs.Nodup∧(∀ z∈zs,z∈fs.map aL)∧u=.int L∧hgt L=true∧∀ H',aH H H'→Q .non H'
theorem hJ(T:Txt K mg C):Fc P w K mg base 3 "check_wish" ["land","fields","height"] (pT C):=by
 have G_p_are_some_fields:Fc P w K mg base 2 "are_some_fields" ["land","thing"] (aLO C):=mH T
 have G_p_is_height:Fc P w K mg base 2 "is_height" ["thing"] gT:=dE T
 refine T.d_p_check_wish.fc kT rR (fun f cdv A outer s H vs Q E hr h=>?_)
 obtain⟨x,y,u,rfl,p,l,fs,ds,zs,lv,rfl,L,rfl,hl,l1,nd,sub,rfl,hL,q⟩:=h
 refine⟨_,(@aG _ _ _ (@dX _ _ _ _ _ _ _ _ (@PW.pt _ _ _ (@lX _ _ _ _ _ _ _ (@dR _ _ _ _ (@dI _ _ _ (@bE _ _ _ _ _ _ _ _ _ _ G_p_are_some_fields (hr.mono (by decide)) (@aA _ _ _ _ _ (pv 0) (@aA _ _ _ _ _ (pv 1) aB (by rfl)) (by rfl)) (by rfl) (by decide) (by rfl) (by rfl)) (by intro _;rfl))) (@jF _ _ _ _ (@dR _ _ _ _ (@dI _ _ _ (@bE _ _ _ _ _ _ _ _ _ _ G_p_is_height (hr.mono (by decide)) (@aA _ _ _ _ _ (pv 2) aB (by rfl)) (by rfl) (by decide) (by rfl) (by rfl)) (by intro _;rfl)))))) (@aG _ _ _ jS) bW)),?_⟩
 refine⟨_,rfl,_,rfl,_,_,rfl,p,l,fs,ds,zs,rfl,L,rfl,hl,l1,nd,sub,fun H1 S1=>⟨_,rfl,bM ?_⟩⟩
 refine⟨_,rfl,_,rfl,.int lv,rfl,_,rfl,?_⟩
 rw[show dZ (.int lv)=true from hL]
 exact bM (q H1 S1)
open Mt53 Mt22 MtF Mt31 Mt61
noncomputable def uE(fs:List Dv)(L:Int)(z:Str):Bool:=decide (z="sea") || decide (qQ fs z<L)
noncomputable def gOf(L:Int):Dv→Gap
 | .tup [.str n,.str a,.str b,.int c,.int r,_]=>⟨n,a,b,r*(L - c)⟩
 | _=>⟨"","","",0⟩
noncomputable def isG(fs:List Dv)(L:Int):Dv→Bool
 | .tup [.str _,.str a,.str b,.int c,.int _,_]=>decide (c<L) && (uE fs L a && uE fs L b)
 | _=>false
noncomputable def aP(fs ds:List Dv)(L:Int):List Gap:=(ds.filter (isG fs L)).map (gOf L)
noncomputable def dP(G:List Gap):List (Key×V):=G.map fun g=>(Sum.inr g.nm,V.int g.cap)
theorem aOD{zs:List Str}{d:Dv}(h:cO zs d=true)(L:Int):(gOf L d).nm=aL d:=by
 obtain⟨n,a,b,c,r,s,rfl,_⟩:=bU h
 rfl
theorem nU{fs ds:List Dv}(gf:GoodF fs)(gd:GoodD ("sea" :: fs.map aL) ds)(L:Int):Gaps ("sea" :: fs.map aL) (aP fs ds L):=by
 have mem:∀ g∈aP fs ds L,∃ d∈ds,isG fs L d=true∧g=gOf L d:=fun g m=>by
  obtain⟨d,md,rfl⟩:=AM.mp m
  rw[Aq] at md
  exact⟨d,md.1,md.2,rfl⟩
 refine⟨?_,fun g m=>?_,fun g m=>?_,?_,AO⟩
 ·have e:(aP fs ds L).map (·.nm)=(ds.filter (isG fs L)).map aL:=by
   unfold aP
   rw[Ai]
   refine Bk fun d md=>?_
   exact aOD (gd.all d (Aq.mp md).1) L
  rw[e]
  exact DX (List.Sublist.map _ List.filter_sublist) gd.nd
 ·obtain⟨d,md,_,rfl⟩:=mem g m
  obtain⟨n,a,b,c,r,s,rfl,_,ha,hb,hab,_⟩:=bU (gd.all d md)
  exact⟨ha,hb,hab⟩
 ·obtain⟨d,md,hg,rfl⟩:=mem g m
  obtain⟨n,a,b,c,r,s,rfl,_,ha,hb,hab,hc,hr,_⟩:=bU (gd.all d md)
  have h1:c<L:=of_decide_eq_true (An.mp (show (decide (c<L) && (uE fs L a && uE fs L b))=true from hg)).1
  have h2:0≤r:=by
   have:=An.mp (show (decide (0≤r) && decide (r≤1000000))=true from hr)
   exact of_decide_eq_true this.1
  show 0≤r*(L - c)
  exact FX h2 (by omega)
 ·rw[Aj]
  refine⟨fun m=>?_,gf.nd⟩
  obtain⟨d,md,e⟩:=AM.mp m
  obtain⟨z,g,u,rfl,hz,_⟩:=bK (gf.all d md)
  exact aAU hz e
def aSV(C:Addr):Sp:=sp3 fun x y u H Q=>∃ (p:Addr) (fs ds:List Dv) (z:Str) (L:Int),x=.ref p∧LandAt C H p fs ds∧y=.str z∧z∈(("sea":Str) :: fs.map aL)∧u=.int L∧Q (.bl (uE fs L z)) H
theorem aEA(T:Txt K mg C):Fc P w K mg base 2 "is_low" ["land","side","height"] (aSV C):=by
 have G_land_p_ground:Mc P w K mg base 1 C "ground" ["self","field"] (aDA C):=rN T
 refine T.d_p_is_low.fc aDJ rR (fun f cdv A outer s H vs Q E hr h=>?_)
 obtain⟨x,y,u,rfl,p,fs,ds,z,lv,rfl,L,rfl,mz,rfl,q⟩:=h
 obtain⟨dx,d1,d2,hx,_⟩:=L.ex
 have gf:=(cJ L).1
 refine⟨_,(@aG _ _ _ (@aT _ _ _ _ (@aTC _ _ _ _ _ _ _ (@dW _ _ _ _ _ _ _ _ kY (pv 1) (@rK _ _ _ _ T.g_SEA (by rfl) (by decide)) (@bT _ _ (by decide) (by decide))) (@eI _ _ _ _ _ (@dW _ _ _ _ _ _ _ _ yY (@aQZ _ _ _ _ _ _ _ _ _ _ _ _ _ _ T.cl_Land G_land_p_ground (hr.mono (by decide)) (pv 0) (@aA _ _ _ _ _ (pv 1) aB (by rfl)) (by rfl) (by rfl) (by rfl)) (pv 2) (@bT _ _ (by decide) (by decide))))))),?_⟩
 refine⟨_,rfl,rfl,?_⟩
 by_cases hz:z="sea"
 ·subst hz
  rw[decide_eq_true rfl]
  exact⟨_,rfl,cR q⟩
 ·rw[decide_eq_false (fun c=>hz (V.str.inj c))]
  have mf:z∈fs.map aL:=by
   rcases Ac.mp mz with h | h
   ·exact absurd h hz
   ·exact h
  obtain⟨d,md,e⟩:=AM.mp mf
  obtain⟨z',g,u,rfl,hz',_⟩:=bK (gf.all d md)
  have e':z'=z:=e
  subst e'
  have eg:qQ fs z'=g:=aKO gf.nd md
  refine⟨_,rfl,bM ?_⟩
  refine⟨_,rfl,p,dx,_,rfl,hx,iV _ _ (by decide +kernel) (by decide +kernel),_,rfl,_,_,rfl,p,fs,ds,z',g,u,rfl,rfl,L,md,_,rfl,_,_,rfl,rfl,?_⟩
  have:uE fs lv z'=decide (g<lv):=by
   unfold uE
   rw[decide_eq_false hz,eg]
   rfl
  show Q (V.bl (decide (g<lv))) H
  rw[← this]
  exact q
def aSY(C:Addr):Sp:=sp3 fun x y u H Q=>∃ (p:Addr) (fs ds:List Dv) (d:Dv) (L:Int),x=.ref p∧LandAt C H p fs ds∧Is H d y∧d∈ds∧u=.int L∧Q (.bl (isG fs L d)) H
theorem aEB(T:Txt K mg C):Fc P w K mg base 3 "is_gap" ["land","dyke","height"] (aSY C):=by
 have G_p_is_low:Fc P w K mg base 2 "is_low" ["land","side","height"] (aSV C):=aEA T
 refine T.d_p_is_gap.fc aDK rR (fun f cdv A outer s H vs Q E hr h=>?_)
 obtain⟨x,y,u,rfl,p,fs,ds,d,lv,rfl,L,hd,md,rfl,q⟩:=h
 have gd:=(cJ L).2
 obtain⟨n,a,b,c,r,sl,rfl,_,ha,hb,hab,hc,hr',_⟩:=bU (gd.all d md)
 obtain⟨t,sv,rfl,o,isv⟩:=kA hd
 refine⟨_,(@aG _ _ _ (@aT _ _ _ _ (@cY _ _ _ _ _ _ _ (@dW _ _ _ _ _ _ _ _ yY (@aZ _ _ _ _ _ _ _ (@aO _ (K) rfl) (pv 1) aD (fun _ _=>rfl)) (pv 2) (@bT _ _ (by decide) (by decide))) (@cY _ _ _ _ _ _ _ (@bE _ _ _ _ _ _ _ _ _ _ G_p_is_low (hr.mono (by decide)) (@aA _ _ _ _ _ (pv 0) (@aA _ _ _ _ _ (@aZ _ _ _ _ _ _ _ (@aO _ (K) rfl) (pv 1) aD (fun _ _=>rfl)) (@aA _ _ _ _ _ (pv 2) aB (by rfl)) (by rfl)) (by rfl)) (by rfl) (by decide) (by rfl) (by rfl)) (@eI _ _ _ _ _ (@bE _ _ _ _ _ _ _ _ _ _ G_p_is_low (hr.mono (by decide)) (@aA _ _ _ _ _ (pv 0) (@aA _ _ _ _ _ (@aZ _ _ _ _ _ _ _ (@aO _ (K) rfl) (pv 1) aD (fun _ _=>rfl)) (@aA _ _ _ _ _ (pv 2) aB (by rfl)) (by rfl)) (by rfl)) (by rfl) (by decide) (by rfl) (by rfl))))))),?_⟩
 refine⟨_,rfl,t,_,3,.int c,rfl,rfl,SqT.of o,aK (j:=3) rfl,_,rfl,_,_,rfl,rfl,?_⟩
 have q:Q (.bl (decide (c<lv) && (uE fs lv a && uE fs lv b))) H:=q
 refine⟨_,rfl,?_⟩
 cases h1:decide (c<lv) with
 | false =>
  rw[h1] at q
  exact bM q
 | true =>
  rw[h1] at q
  refine cR ?_
  refine⟨_,rfl,_,rfl,t,_,1,.str a,rfl,rfl,SqT.of o,aK (j:=1) rfl,_,rfl,_,_,_,rfl,p,fs,ds,a,lv,rfl,L,rfl,ha,rfl,?_⟩
  refine⟨_,rfl,?_⟩
  cases h2:uE fs lv a with
  | false =>
   rw[h2] at q
   exact bM q
  | true =>
   rw[h2] at q
   refine cR ?_
   exact⟨_,rfl,_,rfl,t,_,2,.str b,rfl,rfl,SqT.of o,aK (j:=2) rfl,_,rfl,_,_,_,rfl,p,fs,ds,b,lv,rfl,L,rfl,hb,rfl,q⟩
theorem jY(G:List Gap):(dP G).length=G.length:=AA _
theorem aGR(G:List Gap):(dP G).map (·.1)=(G.map (·.nm)).map Sum.inr:=by
 unfold dP
 rw[Ai,Ai]
 rfl
theorem qR(fs ds:List Dv)(L:Int):(aP fs ds L).length≤ds.length:=by
 unfold aP
 rw[AA]
 exact BI _ _
def aLV(C:Addr):Sp:=sp2 fun x y H Q=>∃ (p:Addr) (fs ds:List Dv) (L:Int),x=.ref p∧LandAt C H p fs ds∧y=.int L∧∀ (cd:Addr) (H':Hp),aH H H'→H cd=none→H' cd=some (.dK (dP (aP fs ds L)))→Q (.ref cd) H'
theorem wD(T:Txt K mg C):Fc P w K mg base 4 "gap_coins" ["land","height"] (aLV C):=by
 have G_p_is_gap:Fc P w K mg base 3 "is_gap" ["land","dyke","height"] (aSY C):=aEB T
 have G_p_coins_to:Fc P w K mg base 1 "coins_to" ["dyke","height"] rE:=oS T
 have G_land_p_dykes:Mc P w K mg base 1 C "dykes" ["self"] (aFK C fun _ ds=>ds):=uD T
 refine T.d_p_gap_coins.fc vK iU (fun f cdv A outer s H vs Q E hr h=>?_)
 obtain⟨x,y,rfl,p,fs,ds,lv,rfl,L,rfl,q⟩:=h
 have big:=bY
 have gf:=(cJ L).1
 have gd:=(cJ L).2
 have d2:=gd.l2
 have GG:=nU gf gd lv
 have gl:=qR fs ds lv
 obtain⟨dx,d1,d2',hx,_⟩:=L.ex
 refine⟨_,(@aG _ _ _ (@aT _ _ _ _ (@bJ _ _ _ _ _ _ _ _ _ (@dL _ rfl) rfl T.n_dict fB (@aA _ _ _ _ _ (@cD _ _ _ _ _ _ _ _ _ _ _ ["dyke","land","height"] 1 [0,1] rfl (@bP _ _ _ _ (@aIF _ _ _ _ _ _ _ _ _ _ _ T.cl_Land G_land_p_dykes (hr.mono (by decide)) (pv 0) (by rfl))) (fun R=>@bA _ _ (0) _ (show Aw (["dyke","land","height"]:List Str) by decide +kernel) rfl (Or.inl rfl) (by trivial)) (@aW _ _ (by decide)) (fun R=>@fW _ _ _ (@dI _ _ _ (@bE _ _ _ _ _ _ _ _ _ _ G_p_is_gap (hr.mono (by decide)) (@aA _ _ _ _ _ (pv 1) (@aA _ _ _ _ _ (pv 0) (@aA _ _ _ _ _ (pv 2) aB (by rfl)) (by rfl)) (by rfl)) (by rfl) (by decide) (by rfl) (by rfl)) (by intro _;rfl))) (fun R=>(@dJ _ _ _ _ _ (@aA _ _ _ _ _ (@aZ _ _ _ _ _ _ _ (@aO _ (K) rfl) (pv 0) aD (fun _ _=>rfl)) (@aA _ _ _ _ _ (@bE _ _ _ _ _ _ _ _ _ _ G_p_coins_to (hr.mono (by decide)) (@aA _ _ _ _ _ (pv 0) (@aA _ _ _ _ _ (pv 2) aB (by rfl)) (by rfl)) (by rfl) (by decide) (by rfl) (by rfl)) aB (by rfl)) (by rfl)))) (by rfl) (by rfl) (by rfl) (by rfl) (by rfl) (by rfl) (by rfl) (by intro _;rfl)) aB (by rfl)) (by decide) (by decide) (by rfl) (by rfl)))),?_⟩
 refine⟨_,rfl,p,dx,_,rfl,hx,iV _ _ (by decide +kernel) (by decide +kernel),_,rfl,p,fs,ds,rfl,L,fun lb vb H2 S2 flb hlb hib=>?_⟩
 have lvb:vb.length=ds.length:=hib.length
 refine⟨lb,rfl,⟨_,SqL.of hlb⟩,?_⟩
 refine bH (F:=K) (xs:=vb) (by omega) (fun i ys H'=>aH H2 H'∧bQ H' ys (dP (aP fs (ds.take i) lv))) ⟨aH.refl _,bQ.nil _⟩ ?_ ?_ ?_
 ·rintro i ys H' hi' ⟨S',pa⟩
  have:=pa.len
  have:=qR fs (ds.take i) lv
  rw[jY] at *
  rw[AR] at this
  exact⟨SqL.of (S' _ _ hlb),by omega⟩
 ·rintro i xv ys H' K1 K2 hx' ⟨S',pa⟩ k1 k2
  have hil:i<vb.length:=(AC.mp hx').1
  obtain⟨d,ed⟩:∃ d,ds[i]?=some d:=⟨_,AB (by omega)⟩
  obtain⟨v,ev,iv⟩:=hib.get ed
  rw[hx'] at ev
  cases ev
  have md:=AI ed
  have iv':=Is.same S' _ _ iv
  refine⟨_,rfl,_,rfl,_,rfl,_,_,_,rfl,p,fs,ds,d,lv,rfl,L.same (S2.trans S'),iv',md,rfl,_,rfl,?_⟩
  have et:aP fs (ds.take (i+1)) lv=aP fs (ds.take i) lv++(if isG fs lv d=true then [gOf lv d] else []):=by
   unfold aP
   rw[Aa,ed,Bz,AT]
   cases h:isG fs lv d <;> simp[h]
  cases hg:isG fs lv d with
  | false =>
   rw[hg] at et
   refine bM (k2 _ ⟨S',?_⟩)
   rw[et]
   simpa using pa
  | true =>
   rw[hg] at et
   refine cR ?_
   obtain⟨n,a,b,c,r,sl,rfl,_,ha,hb,hab,hc,hr',_⟩:=bU (gd.all d md)
   obtain⟨t,sv,rfl,o,isv⟩:=kA iv'
   have h2:=An.mp (show (decide (0≤r) && decide (r≤1000000))=true from hr')
   refine⟨_,rfl,t,_,0,.str n,rfl,rfl,SqT.of o,aK (j:=0) rfl,_,rfl,_,rfl,_,_,rfl,t,n,a,b,c,r,lv,sv,rfl,rfl,o,of_decide_eq_true h2.1,of_decide_eq_true h2.2,aS rfl,fun p3 hp3=>k1 _ _ ⟨S'.trans (aH.upd hp3),?_⟩⟩
   rw[et]
   have e2:dP (aP fs (ds.take i) lv++[gOf lv (.tup [.str n,.str a,.str b,.int c,.int r,sl])])=dP (aP fs (ds.take i) lv)++[(Sum.inr n,V.int (r*(lv - c)))]:=by
    unfold dP
    rw[AT]
    rfl
   rw[if_pos rfl,e2]
   exact bQ.snoc (k:=Sum.inr n) pa hp3
 rintro ys H3 ⟨S3,pa⟩
 rw[AG (by omega)] at pa
 intro p4 hp4
 have S4:=aH.upd (o:=.lst ys) hp4
 refine⟨p4,ys,dP (aP fs ds lv),rfl,SqL.of aC,pa.same S4,by rw[jY];omega,by rw[aGR];exact (fP _).mpr GG.nd,fun cd hcd=>?_⟩
 have T4:=S2.trans (S3.trans S4)
 exact q cd _ (T4.trans (aH.upd hcd)) (T4.free hcd) aC
open Mt22 MtF
theorem aGW{zs:List Str}{d:Dv}(h:cO zs d=true):yB d=true:=by
 obtain⟨n,a,b,c,r,s,rfl,_,_,_,_,_,_,hs⟩:=bU h
 cases s with
 | non=>rfl
 | int i=>rfl
 | _=>cases hs
theorem fM(s:Mt22.St):yB (bV s)=true:=rfl
open Mt22 MtF
theorem aHJ{H:Hp}{d d1:Addr}{fs:List Dv}{kvs:List (Key×V)}{o:Obj}(h:qY H d1 fs)(hd:H d=some (.dK kvs))(nr:∀ v∈kvs.map (·.2),∀ a,v≠.ref a)(l1:1≤fs.length)(ht:∀ f∈fs,∃ us,f=.tup us)(hh:zM fs=true):qY (upd H d (.frz o (.dK kvs))) d1 fs:=by
 obtain⟨kv1,e,k,i⟩:=h
 have nd:d1≠d:=fun c=>by
  rw[c,hd] at e
  cases e
  cases fs with
  | nil=>exact absurd l1 (by decide)
  | cons f fs =>
   obtain⟨us,rfl⟩:=ht f AO
   obtain⟨v,r,ev,⟨a,w,ea,_⟩,_⟩:=i
   exact nr v (by rw[ev];exact AO) a ea
 refine⟨kv1,by rw[aI nd];exact e,k,IsL.keep (fun b xs hb=>?_) fs _ hh i⟩
 rw[aI (fun c=>by rw[c,hd] at hb;cases hb)]
 exact hb
theorem aNQ{H:Hp}{x d:Addr}{fs ds:List Dv}{kvs:List (Key×V)}{o:Obj}(L:LandAt C H x fs ds)(hd:H d=some (.dK kvs))(nr:∀ v∈kvs.map (·.2),∀ a,v≠.ref a):LandAt C (upd H d (.frz o (.dK kvs))) x fs ds:=by
 obtain⟨gf,gd⟩:=cJ L
 obtain⟨⟨dx,d1,d2,e,t1,t2⟩,a,b⟩:=L
 refine⟨⟨dx,d1,d2,by rw[aI (fun c=>by rw[c,hd] at e;cases e)];exact e,aHJ t1 hd nr gf.l1 (fun f m=>?_) (fA fun f m=>?_),aHJ t2 hd nr gd.l1 (fun f m=>?_) (fA fun d m=>aGW (gd.all d m))⟩,a,b⟩
 ·obtain⟨z,g,e,rfl,_⟩:=bK (gf.all f m)
  exact⟨_,rfl⟩
 ·obtain⟨z,g,e,rfl,_⟩:=bK (gf.all f m)
  rfl
 ·obtain⟨n,a,b,c,r,s,rfl,_⟩:=bU (gd.all f m)
  exact⟨_,rfl⟩
open Mt53 Mt22 MtF Mt31 Mt61
theorem aEO{fs ds:List Dv}{L:Int}{zs:List Str}(gd:GoodD zs ds){g:Gap}(m:g∈aP fs ds L):∃ d∈ds,isG fs L d=true∧g=gOf L d∧aL d=g.nm:=by
 obtain⟨d,md,rfl⟩:=AM.mp m
 rw[Aq] at md
 exact⟨d,md.1,md.2,rfl,(aOD (gd.all d md.1) L).symm⟩
theorem nG(G:List Gap):(Mt61.stepsOf G).length=2*G.length:=by
 unfold Mt61.stepsOf
 induction G with
 | nil=>rfl
 | cons g G ih =>
  rw[Du,AX,ih]
  show 2+2*G.length=2*(G.length+1)
  omega
theorem yJ{H:Hp}{t:Addr}{s:Mt22.St}(h:H t=some (.tup [.str s.nm,.str s.near,.str s.far,.int s.h])):Is H (bV s) (.ref t):=⟨t,_,rfl,h,_,_,rfl,rfl,_,_,rfl,rfl,_,_,rfl,rfl,_,_,rfl,rfl,rfl⟩
def aCY(C:Addr):Sp:=sp2 fun x y H Q=>∃ (p d:Addr) (fs ds:List Dv) (L:Int),x=.ref p∧LandAt C H p fs ds∧y=.ref d∧H d=some (.dK (dP (aP fs ds L)))∧∀ (o:Obj) (l:Addr) (us:List V) (H':Hp),aH (upd H d (.frz o (.dK (dP (aP fs ds L))))) H'→H l=none→H' l=some (.lst us)→IsL H' ((Mt61.stepsOf (aP fs ds L)).map bV) us→Q (.ref l) H'
theorem uB(T:Txt K mg C):Fc P w K mg base 2 "steps_over" ["land","names"] (aCY C):=by
 have G_land_p_dyke:Mc P w K mg base 1 C "dyke" ["self","name"] (uP C):=iS T
 refine T.d_p_steps_over.fc fI iU (fun f cdv A outer s H vs Q E hr h=>?_)
 obtain⟨x,y,rfl,p,d,fs,ds,lv,rfl,L,rfl,hd,q⟩:=h
 have big:=bY
 have gf:=(cJ L).1
 have gd:=(cJ L).2
 have d2:=gd.l2
 have GG:=nU gf gd lv
 have gl:=qR fs ds lv
 refine⟨_,(@aE _ _ _ _ _ (@aV _ _ (2) _ _ _ _ fI.nd rfl (Or.inl rfl) (@cX _ _ _ _ aB) (by rfl) (by trivial)) (@aE _ _ _ _ _ (@gK _ _ _ _ _ _ _ _ BG rfl (@aBH _ _ _ _ (pv 1)) (@bA _ _ (3) _ fI.nd rfl (Or.inl rfl) (by trivial)) (@aE _ _ _ _ _ (@aV _ _ (4) _ _ _ _ fI.nd rfl (Or.inl rfl) (@aQZ _ _ _ _ _ _ _ _ _ _ _ _ _ _ T.cl_Land G_land_p_dyke (hr.mono (by decide)) (pv 0) (@aA _ _ _ _ _ (pv 3) aB (by rfl)) (by rfl) (by rfl) (by rfl)) (by rfl) (by trivial)) (@aE _ _ _ _ _ (@fC _ _ _ _ (@mB _ _ _ _ _ _ _ _ _ _ _ _ BP BS BR fD (pv 2) (@aA _ _ _ _ _ (@dJ _ _ _ _ _ (@aA _ _ _ _ _ (pv 3) (@aA _ _ _ _ _ (@aZ _ _ _ _ _ _ _ (@aO _ (K) rfl) (pv 4) aD (fun _ _=>rfl)) (@aA _ _ _ _ _ (@aZ _ _ _ _ _ _ _ (@aO _ (K) rfl) (pv 4) aD (fun _ _=>rfl)) (@aA _ _ _ _ _ aD aB (by rfl)) (by rfl)) (by rfl)) (by rfl))) aB (by rfl)) (by rfl) (by rfl) (by rfl) (by rfl) (by rfl)) (by rfl)) (@aG _ _ _ (@fC _ _ _ _ (@mB _ _ _ _ _ _ _ _ _ _ _ _ BP BS BR fD (pv 2) (@aA _ _ _ _ _ (@dJ _ _ _ _ _ (@aA _ _ _ _ _ (pv 3) (@aA _ _ _ _ _ (@aZ _ _ _ _ _ _ _ (@aO _ (K) rfl) (pv 4) aD (fun _ _=>rfl)) (@aA _ _ _ _ _ (@aZ _ _ _ _ _ _ _ (@aO _ (K) rfl) (pv 4) aD (fun _ _=>rfl)) (@aA _ _ _ _ _ (@aNA _ _ _ _ _ _ aFI aD) aB (by rfl)) (by rfl)) (by rfl)) (by rfl))) aB (by rfl)) (by rfl) (by rfl) (by rfl) (by rfl) (by rfl)) (by rfl))))) (by intro _;rfl)) (@aG _ _ _ (@aT _ _ _ _ (pv 2))))),?_⟩
 refine⟨aS rfl,fun l hl=>?_⟩
 have S1:=aH.upd (o:=.lst []) hl
 have nld:d≠l:=aN hd hl
 refine⟨_,rfl,d,_,rfl,by rw[aI nld];exact hd,fun o=>?_⟩
 have nr:∀ v∈(dP (aP fs ds lv)).map (·.2),∀ a,v≠.ref a:=fun v m a e=>by
  obtain⟨kv,mk,rfl⟩:=AM.mp m
  obtain⟨g,_,rfl⟩:=AM.mp mk
  cases e
 have L0:LandAt C (upd H d (.frz o (.dK (dP (aP fs ds lv))))) p fs ds:=aNQ L hd nr
 have hl0:upd H d (.frz o (.dK (dP (aP fs ds lv)))) l=none:=by rw[aI (Ne.symm nld)];exact hl
 have SS:aH (upd H d (.frz o (.dK (dP (aP fs ds lv))))) (upd (upd H l (.lst [])) d (.frz o (.dK (dP (aP fs ds lv))))):=fun b u e=>by
  by_cases hb:b=d
  ·subst hb
   rw[aC] at e ⊢
   exact e
  ·rw[aI hb] at e ⊢
   exact S1 _ _ e
 have r1:upd (upd H l (.lst [])) d (.frz o (.dK (dP (aP fs ds lv)))) l=some (.lst []):=by rw[aI (Ne.symm nld),aC]
 have qq:=fun us H'=>q o l us H'
 have dF:upd H d (.frz o (.dK (dP (aP fs ds lv)))) d=some (.frz o (.dK (dP (aP fs ds lv)))):=aC
 generalize upd (upd H l (.lst [])) d (.frz o (.dK (dP (aP fs ds lv))))=H2 at SS r1
 generalize upd H d (.frz o (.dK (dP (aP fs ds lv))))=H0 at L0 hl0 SS qq dF
 refine aOE (fun i σ H'=>∃ (v3 v4:Option V) (us:List V),σ=[some (.ref p),some (.ref d),some (.ref l),v3,v4]∧aH H0 H'∧H' l=some (.lst us)∧IsL H' ((Mt61.stepsOf ((aP fs ds lv).take i)).map bV) us) ⟨_,_,[],rfl,SS,r1,rfl⟩ (fun i σ H' _ ⟨_,_,_,_,S',_⟩=>S' _ _ dF) ?_ ?_
 ·rintro i kv σ H' hk ⟨v3,v4,us,rfl,S',hl',ius⟩
  unfold dP at hk
  rw[AH] at hk
  obtain⟨g,eg,ekv⟩:=Ab.mp hk
  have hil:=(AC.mp eg).1
  have mg':=AI eg
  obtain⟨dk,mdk,hg,rfl,en⟩:=aEO gd mg'
  have L':=L0.same S'
  obtain⟨dx,d1,d2',hx,_⟩:=L'.ex
  have lus:=ius.length
  rw[AA,nG,AR] at lus
  have et:Mt61.stepsOf ((aP fs ds lv).take (i+1))=Mt61.stepsOf ((aP fs ds lv).take i)++[up (gOf lv dk),dn (gOf lv dk)]:=by
   unfold Mt61.stepsOf
   rw[Aa,eg,List.flatMap_append]
   rfl
  obtain⟨n,a,b,c,r,sl,rfl,_⟩:=bU (gd.all dk mdk)
  have ek:kV kv.1=V.str n:=by rw[← ekv];rfl
  rw[ek]
  refine⟨_,rfl,p,dx,_,rfl,hx,iV _ _ (by decide +kernel) (by decide +kernel),_,rfl,_,_,rfl,p,fs,ds,_,rfl,rfl,L',mdk,fun v iv=>?_⟩
  obtain⟨t,sv,rfl,ot,isv⟩:=kA iv
  refine⟨_,rfl,.inl ⟨rfl,_,SqL.of hl'⟩,_,rfl,_,rfl,t,_,1,.str a,rfl,rfl,SqT.of ot,aK (j:=1) rfl,_,rfl,t,_,2,.str b,rfl,rfl,SqT.of ot,aK (j:=2) rfl,aS rfl,fun ta hta=>?_⟩
  have Sa:=aH.upd (o:=.tup [.str n,.str a,.str b,.int 1]) hta
  have ra:upd H' ta (.tup [.str n,.str a,.str b,.int 1]) ta=_:=aC
  generalize upd H' ta (.tup [.str n,.str a,.str b,.int 1])=Ha at Sa ra
  have hla:=Sa _ _ hl'
  refine⟨l,us,.ref ta,rfl,rfl,hla,by omega,?_⟩
  have KT:=gI.lst (o:=.lst (us++[.ref ta])) hla
  have Sb:aH H0 (upd Ha l (.lst (us++[.ref ta]))):=(S'.trans Sa).over hl0
  have rb:upd Ha l (.lst (us++[.ref ta])) l=some (.lst (us++[.ref ta])):=aC
  have ib:IsL (upd Ha l (.lst (us++[.ref ta]))) ((Mt61.stepsOf ((aP fs ds lv).take i)).map bV++[bV (up ⟨n,a,b,r*(lv - c)⟩)]) (us++[.ref ta]):=by
   refine IsL.keep KT _ _ (fA fun d m=>?_) (IsL.snoc (yJ ra) (IsL.same Sa _ _ ius))
   rcases Ar.mp m with m | m
   ·obtain⟨s,_,rfl⟩:=AM.mp m
    exact fM s
   ·rw[AS.mp m]
    exact fM _
  have ob:=KT _ _ (Sa _ _ ot)
  generalize upd Ha l (.lst (us++[.ref ta]))=Hb at Sb rb ib ob
  refine⟨_,rfl,.inl ⟨rfl,_,SqL.of rb⟩,_,rfl,_,rfl,t,_,2,.str b,rfl,rfl,SqT.of ob,aK (j:=2) rfl,_,rfl,t,_,1,.str a,rfl,rfl,SqT.of ob,aK (j:=1) rfl,_,rfl,aS rfl,fun tb htb=>?_⟩
  have Sc:=aH.upd (o:=.tup [.str n,.str b,.str a,.int (-1)]) htb
  have rc:upd Hb tb (.tup [.str n,.str b,.str a,.int (-1)]) tb=_:=aC
  generalize upd Hb tb (.tup [.str n,.str b,.str a,.int (-1)])=Hc at Sc rc
  have hlc:=Sc _ _ rb
  refine⟨l,us++[.ref ta],.ref tb,rfl,rfl,hlc,by rw[AX];show _+1<_;omega,?_⟩
  have KT2:=gI.lst (o:=.lst (us++[.ref ta]++[.ref tb])) hlc
  refine⟨_,_,us++[.ref ta]++[.ref tb],rfl,(Sb.trans Sc).over hl0,aC,?_⟩
  rw[et,AT]
  show IsL _ (_++[bV (up ⟨n,a,b,r*(lv - c)⟩),bV (dn ⟨n,a,b,r*(lv - c)⟩)]) _
  rw[show ∀ (xs:List Dv) (p q:Dv),xs++[p,q]=xs++[p]++[q] from fun xs p q=>by simp]
  refine IsL.keep KT2 _ _ (fA fun d m=>?_) (IsL.snoc (yJ (s:=dn ⟨n,a,b,r*(lv - c)⟩) rc) (IsL.same Sc _ _ ib))
  rcases Ar.mp m with m | m
  ·rcases Ar.mp m with m | m
   ·obtain⟨s,_,rfl⟩:=AM.mp m
    exact fM s
   ·rw[AS.mp m]
    exact fM _
  ·rw[AS.mp m]
   exact fM _
 ·rintro σ H' ⟨v3,v4,us,rfl,S',hl',ius⟩
  rw[jY,AG (AL _)] at ius
  exact⟨_,rfl,qq us H' S' hl hl' ius⟩
open Mt22 MtF Mt31 Mt61
def CV(H:Hp)(o:Option Mt22.St)(v:V):Prop:=match o with
 | none=>v=.non
 | some s=>Is H (bV s) v
theorem CV.same{H H':Hp}(S:aH H H'){o:Option Mt22.St}{v:V}(h:CV H o v):CV H' o v:=by
 cases o with
 | none=>exact h
 | some s=>exact Is.same S _ _ h
theorem CV.keep{H H':Hp}(S:gI H H'){o:Option Mt22.St}{v:V}(h:CV H o v):CV H' o v:=by
 cases o with
 | none=>exact h
 | some s=>exact Is.keep S _ _ (fM s) h
structure CamKV (H:Hp) (kvs:List (Key×V)) (cm:Cm):Prop where
 len:kvs.length=cm.length
 at':∀ (i:Nat) (z:Str) (o:Option Mt22.St),cm[i]?=some (z,o)→∃ v,kvs[i]?=some (Sum.inr z,v)∧CV H o v
theorem CamKV.keys{H:Hp}{kvs:List (Key×V)}{cm:Cm}(h:CamKV H kvs cm):kvs.map (·.1)=(Mt31.keys cm).map Sum.inr:=by
 apply List.ext_getElem?
 intro i
 unfold Mt31.keys
 rw[AH,AH,AH]
 cases e:cm[i]? with
 | none =>
  rw[List.getElem?_eq_none_iff] at e
  rw[List.getElem?_eq_none (by rw[h.len];exact e)]
  rfl
 | some x =>
  obtain⟨z,o⟩:=x
  obtain⟨v,ev,_⟩:=h.at' i z o e
  rw[ev]
  rfl
theorem CamKV.same{H H':Hp}(S:aH H H'){kvs:List (Key×V)}{cm:Cm}(h:CamKV H kvs cm):CamKV H' kvs cm :=
 ⟨h.len,fun i z o e=>by obtain⟨v,e1,c⟩:=h.at' i z o e;exact⟨v,e1,c.same S⟩⟩
theorem CamKV.keep{H H':Hp}(S:gI H H'){kvs:List (Key×V)}{cm:Cm}(h:CamKV H kvs cm):CamKV H' kvs cm :=
 ⟨h.len,fun i z o e=>by obtain⟨v,e1,c⟩:=h.at' i z o e;exact⟨v,e1,c.keep S⟩⟩
theorem aCT{κ:Type}[DecidableEq κ]:∀ {kvs:List (κ×V)} {i:Nat} {k:κ} {v:V},(kvs.map (·.1)).Nodup→kvs[i]?=some (k,v)→eS kvs k=some v
 | p :: r,0,k,v,nd,e=>by cases e;exact iJ rfl
 | p :: r,i+1,k,v,nd,e=>by
  rw[AU,Aj] at nd
  have e':r[i]?=some (k,v):=e
  rw[iK (fun c=>nd.1 (by rw[c];exact AM.mpr ⟨_,AI e',rfl⟩))]
  exact aCT nd.2 e'
theorem aGC{zs:List Str}(h:zs.Nodup):(zs.map (Sum.inr:Str→Key)).Nodup:=(fP zs).mpr h
theorem CamKV.val{H:Hp}{S:List Mt22.St}{kvs:List (Key×V)}{cm:Cm}(h:CamKV H kvs cm)(c:Came S cm){i:Nat}{z:Str}{o:Option Mt22.St}(e:cm[i]?=some (z,o)):∃ v,eS kvs (Sum.inr z)=some v∧CV H o v:=by
 obtain⟨v,ev,cv⟩:=h.at' i z o e
 exact⟨v,aCT (by rw[h.keys];exact aGC c.nd) ev,cv⟩
theorem CamKV.none{H:Hp}{kvs:List (Key×V)}{cm:Cm}(h:CamKV H kvs cm){z:Str}(n:¬ z∈Mt31.keys cm):eS kvs (Sum.inr z)=none:=by
 cases e:eS kvs (Sum.inr z) with
 | none=>rfl
 | some v =>
  have:=aPN e
  rw[h.keys] at this
  obtain⟨y,my,ey⟩:=AM.mp this
  cases ey
  exact absurd my n
theorem CamKV.some{H:Hp}{kvs:List (Key×V)}{cm:Cm}(h:CamKV H kvs cm){z:Str}(n:z∈Mt31.keys cm):(eS kvs (Sum.inr z)).isSome=true:=by
 cases e:eS kvs (Sum.inr z) with
 | some v=>rfl
 | none =>
  have:=aLC e
  rw[h.keys] at this
  exact absurd (AM.mpr ⟨z,n,rfl⟩) this
theorem aZI(x:V)(r:List V):seqIndex? 0 (x :: r).length=some 0:=by
 rw[Af]
 unfold seqIndex?
 simp
 try omega
theorem jM{H:Hp}{s:Mt22.St}{v:V}(h:Is H (bV s) v):∃ t,v=.ref t∧H t=some (.tup [.str s.nm,.str s.near,.str s.far,.int s.h]):=by
 obtain⟨t,us,rfl,o,v0,r0,rfl,i0,v1,r1,rfl,i1,v2,r2,rfl,i2,v3,r3,rfl,i3,h0⟩:=h
 cases (show r3=[] from h0)
 cases (show v0=_ from i0)
 cases (show v1=_ from i1)
 cases (show v2=_ from i2)
 cases (show v3=_ from i3)
 exact⟨t,rfl,o⟩
theorem kP(a b:Str):decide (V.str a=V.str b)=decide (a=b):=by
 by_cases h:a=b
 ·subst h;simp
 ·rw[decide_eq_false h,decide_eq_false (fun c=>h (by cases c;rfl))]
def rC:Sp:=sp2 fun x y H Q=>∃ (ls lt:Addr) (us:List V) (S:List Mt22.St) (zs V0:List Str),x=.ref ls∧y=.ref lt∧zs.Nodup∧(∀ z∈zs,z∈V0)∧H ls=some (.lst (zs.map V.str))∧H lt=some (.lst us)∧IsL H (S.map bV) us∧S.length≤80∧V0.length≤13∧(∀ s∈S,s.far∈V0) ∧
 ∀ (d:Addr) (cm:Cm) (kvs:List (Key×V)) (H':Hp),aH H H'→H d=none→H' d=some (.dK kvs)→CamKV H' kvs cm→CameG zs S cm→uJ S cm cm.length→cm.length≤13→Q (.ref d) H'
theorem tM(T:Txt K mg C):Fc P w K mg base 1 "spread" ["starts","steps"] rC:=by
 refine T.d_p_spread.fc gU iU (fun f cdv A outer s H vs Q E hr h=>?_)
 obtain⟨x,y,rfl,ls,lt,us,S,zs,V0,rfl,rfl,ndz,sV,hls,hlt,ius,lS,lV,farV,q⟩:=h
 have lz:zs.length≤13:=by have:=aBW ndz sV;omega
 have big:=bY
 have hu:=lA hr
 have lus:=ius.length
 rw[AA] at lus
 have lcm:∀ cm:Cm,CameG zs S cm→(∀ z∈keys cm,z∈V0)→cm.length≤13:=fun cm c sub=>by
  have:=aBW c.nd sub
  unfold keys at this
  rw[AA] at this
  omega
 refine⟨_,(@aE _ _ _ _ _ (@aV _ _ (2) _ _ _ _ gU.nd rfl (Or.inl rfl) (@bJ _ _ _ _ _ _ _ _ _ (@dL _ rfl) rfl T.n_dict fB (@aA _ _ _ _ _ (@cD _ _ _ _ _ _ _ _ _ _ _ ["side"] 1 [] rfl (@bP _ _ _ _ (pv 0)) (fun R=>@bA _ _ (0) _ (show Aw (["side"]:List Str) by decide +kernel) rfl (Or.inl rfl) (by trivial)) (@aW _ _ (by decide)) (fun R=>bZ) (fun R=>(@dJ _ _ _ _ _ (@aA _ _ _ _ _ (pv 0) (@aA _ _ _ _ _ kG aB (by rfl)) (by rfl)))) (by rfl) (by rfl) (by rfl) (by rfl) (by rfl) (by rfl) (by rfl) (by intro _;rfl)) aB (by rfl)) (by decide) (by decide) (by rfl) (by rfl)) (by rfl) (by trivial)) (@aE _ _ _ _ _ (@aV _ _ (3) _ _ _ _ gU.nd rfl (Or.inl rfl) (@bJ _ _ _ _ _ _ _ _ _ (@yD _ (K) rfl) rfl T.n_list dU (@aA _ _ _ _ _ (pv 0) aB (by rfl)) (by decide) (by decide) (by rfl) (by rfl)) (by rfl) (by trivial)) (@aE _ _ _ _ _ (@qH _ _ _ _ _ _ BG (@aFV _ _ _ (pv 3) (by intro _;rfl)) (@aE _ _ _ _ _ (@aV _ _ (4) _ _ _ _ gU.nd rfl (Or.inl rfl) (@mB _ _ _ _ _ _ _ _ _ _ _ _ BP PySem.F.slot_list_pop PySem.F.type_list_pop aNL (pv 3) (@aA _ _ _ _ _ aD aB (by rfl)) (by rfl) (by rfl) (by rfl) (by rfl) (by rfl)) (by rfl) (by trivial)) (@aG _ _ _ (@gK _ _ _ _ _ _ _ _ BG rfl (@bP _ _ _ _ (pv 1)) (@bA _ _ (5) _ gU.nd rfl (Or.inl rfl) (by trivial)) (@aG _ _ _ (@dX _ _ _ _ _ _ _ _ (@PW.pt _ _ _ (@aFU _ _ _ _ _ _ _ (@cB _ _ _ _ _ _ _ _ kY (@aZ _ _ _ _ _ _ _ (@aO _ (K) rfl) (pv 5) aD (fun _ _=>rfl)) (pv 4) (@bT _ _ (by decide) (by decide))) (@aBE _ _ _ _ (@aBF _ _ _ _ _ _ (@yX _ _ _ _ _ hu (@aZ _ _ _ _ _ _ _ (@aO _ (K) rfl) (pv 5) aD (fun _ _=>rfl)) (pv 2)) (by first | exact nobehind _ (by decide) (by decide) | rfl))))) (@aE _ _ _ _ _ (@aQS _ _ _ _ _ _ _ _ _ hu (pv 2) (@aZ _ _ _ _ _ _ _ (@aO _ (K) rfl) (pv 5) aD (fun _ _=>rfl)) (pv 5) rfl) (@aG _ _ _ (@fC _ _ _ _ (@mB _ _ _ _ _ _ _ _ _ _ _ _ BP BS BR fD (pv 3) (@aA _ _ _ _ _ (@aZ _ _ _ _ _ _ _ (@aO _ (K) rfl) (pv 5) aD (fun _ _=>rfl)) aB (by rfl)) (by rfl) (by rfl) (by rfl) (by rfl) (by rfl)) (by rfl)))) bW)) (by intro _;rfl))))) (@aG _ _ _ (@aT _ _ _ _ (pv 2)))))),?_⟩
 refine⟨_,rfl,ls,rfl,⟨_,SqL.of hls⟩,?_⟩
 refine bH (F:=K) (xs:=zs.map V.str) (by rw[AA];omega) (fun i ys H'=>aH H H'∧bQ H' ys ((zs.take i).map fun z=>((Sum.inr z,.non):Key×V))) ⟨aH.refl _,bQ.nil _⟩ ?_ ?_ ?_
 ·rintro i ys H' hi' ⟨S',pa⟩
  have:=pa.len
  rw[AA,AR] at this
  exact⟨SqL.of (S' _ _ hls),by omega⟩
 ·rintro i xv ys H' K1 K2 hx' ⟨S',pa⟩ k1 k2
  rw[AH] at hx'
  obtain⟨z,ez,rfl⟩:=Ab.mp hx'
  refine⟨_,rfl,aS rfl,fun p3 hp3=>k1 _ _ ⟨S'.trans (aH.upd hp3),?_⟩⟩
  rw[Aa,ez,AT]
  exact bQ.snoc (k:=Sum.inr z) pa hp3
 rintro ys H1 ⟨S1,pa⟩
 rw[AA,AG (AL _)] at pa
 intro p4 hp4
 have S2:=aH.upd (o:=.lst ys) hp4
 have kz:(zs.map fun z=>((Sum.inr z,.non):Key×V)).map (·.1)=zs.map Sum.inr:=by rw[Ai];rfl
 refine⟨p4,ys,zs.map fun z=>((Sum.inr z,.non):Key×V),rfl,SqL.of aC,pa.same S2,by rw[AA];omega,by rw[kz];exact (fP zs).mpr ndz,fun d hd=>?_⟩
 have S3:=aH.upd (o:=.dK (zs.map fun z=>((Sum.inr z,.non):Key×V))) hd
 have T3:=S1.trans (S2.trans S3)
 have hd0:=(S1.trans S2).free hd
 refine⟨_,rfl,ls,_,rfl,.inl (SqL.of (T3 _ _ hls)),fun lw hlw=>?_⟩
 have S4:=aH.upd (o:=.lst (zs.map V.str)) hlw
 have T4:=T3.trans S4
 have hd4:upd (upd (upd H1 p4 (.lst ys)) d (.dK (zs.map fun z=>((Sum.inr z,.non):Key×V)))) lw (.lst (zs.map V.str)) d=some (.dK (zs.map fun z=>((Sum.inr z,.non):Key×V))):=S4 _ _ aC
 have hw4:upd (upd (upd H1 p4 (.lst ys)) d (.dK (zs.map fun z=>((Sum.inr z,.non):Key×V)))) lw (.lst (zs.map V.str)) lw=some (.lst (zs.map V.str)):=aC
 have hlw0:=T3.free hlw
 have ndw:d≠lw:=aN (show upd (upd H1 p4 (.lst ys)) d (.dK (zs.map fun z=>((Sum.inr z,.non):Key×V))) d=some _ from aC) hlw
 generalize upd (upd (upd H1 p4 (.lst ys)) d (.dK (zs.map fun z=>((Sum.inr z,.non):Key×V)))) lw (.lst (zs.map V.str))=H4 at T4 hd4 hw4
 have c0:CameG zs S (zs.map fun z=>(z,none)):=CameG.init S ndz
 have k00:keys (zs.map fun z=>((z,none):Str×Option Mt22.St))=zs:=by unfold keys;rw[Ai];exact FP _
 have k0:CamKV H4 (zs.map fun z=>((Sum.inr z,.non):Key×V)) (zs.map fun z=>(z,none)):=⟨by rw[AA,AA],fun i z o e=>by
  rw[AH] at e
  obtain⟨z',ez,e'⟩:=Ab.mp e
  cases e'
  exact⟨.non,by rw[AH,ez];rfl,rfl⟩⟩
 refine pM (fun σ H'=>∃ (v4 v5:Option V) (p:Nat) (cm:Cm) (kvs:List (Key×V)),σ=[some (.ref ls),some (.ref lt),some (.ref d),some (.ref lw),v4,v5]∧aH H H'∧H' d=some (.dK kvs)∧CamKV H' kvs cm∧CameG zs S cm∧(∀ z∈keys cm,z∈V0)∧p≤cm.length∧H' lw=some (.lst (((keys cm).drop p).map V.str))∧uJ S cm p)
  (fun _ H'=>match H' d,H' lw with | some (.dK kvs),some (.lst ws)=>14 - (kvs.length - ws.length) | _,_=>0) ⟨_,_,0,zs.map fun z=>(z,none),_,rfl,T4,hd4,k0,c0,(fun z m=>by rw[k00] at m;exact sV z m),BN _,by rw[k00,Eb];exact hw4,(fun i u hi=>absurd hi (by omega))⟩ ?_ ?_
 ·rintro σ H5 ⟨v4,v5,p,cm,kvs,rfl,S5,hd5,ck,c,sub,hp,hw5,op⟩
  have l13:=lcm cm c sub
  refine⟨_,rfl,lw,_,rfl,SqL.of hw5,?_⟩
  have kl:(keys cm).length=cm.length:=by unfold keys;rw[AA]
  by_cases hpl:p<cm.length
  ·obtain⟨u,eu⟩:∃ u,(keys cm)[p]?=some u:=⟨_,AB (by omega)⟩
   have ed:(keys cm).drop p=u :: (keys cm).drop (p+1):=by
    obtain⟨h1,h2⟩:=AC.mp eu
    rw[← h2]
    exact (List.getElem_cons_drop h1).symm
   rw[ed] at hw5 ⊢
   refine cR ?_
   refine⟨_,rfl,.inl ⟨rfl,_,SqL.of hw5⟩,lw,_,0,0,.str u,rfl,rfl,hw5,by decide,by decide,aZI _ _,rfl,?_⟩
   have hw6:upd H5 lw (.lst (((u :: (keys cm).drop (p+1)).map V.str).eraseIdx 0)) lw=some (.lst (((keys cm).drop (p+1)).map V.str)):=aC
   have hd6:upd H5 lw (.lst (((u :: (keys cm).drop (p+1)).map V.str).eraseIdx 0)) d=some (.dK kvs):=by rw[aI ndw];exact hd5
   have ck6:=ck.keep (gI.lst (o:=.lst (((u :: (keys cm).drop (p+1)).map V.str).eraseIdx 0)) hw5)
   have S6:aH H (upd H5 lw (.lst (((u :: (keys cm).drop (p+1)).map V.str).eraseIdx 0))):=S5.over hlw0
   generalize upd H5 lw (.lst (((u :: (keys cm).drop (p+1)).map V.str).eraseIdx 0))=H6 at hw6 hd6 ck6 S6
   refine⟨_,rfl,lt,rfl,⟨_,SqL.of (S6 _ _ hlt)⟩,qS (K:=K) (a:=lt) (xs:=us)
    (fun j σ H'=>∃ (v5:Option V) (more:Cm) (kvs:List (Key×V)),σ=[some (.ref ls),some (.ref lt),some (.ref d),some (.ref lw),some (.str u),v5]∧aH H H'∧H' d=some (.dK kvs)∧CamKV H' kvs (cm++more)∧CameG zs S (cm++more)∧(∀ z∈keys (cm++more),z∈V0)∧H' lw=some (.lst (((keys (cm++more)).drop (p+1)).map V.str))∧uJ S (cm++more) p∧∀ s∈S.take j,s.near=u→s.far∈keys (cm++more))
    ⟨_,[],kvs,rfl,S6,hd6,by rw[Bf];exact ck6,by rw[Bf];exact c,by rw[Bf];exact sub,by rw[Bf];exact hw6,by rw[Bf];exact op,(fun s m=>by cases m)⟩ (fun j σ H' _ ⟨_,_,_,_,S',_⟩=>SqL.of (S' _ _ hlt)) ?_ ?_⟩
   ·rintro j xv σ H7 hj ⟨w5,more,kvs7,rfl,S7,hd7,ck7,c7,sub7,hw7,op7,cl7⟩
    have hjl:j<us.length:=(AC.mp hj).1
    obtain⟨st,es⟩:∃ st,S[j]?=some st:=⟨_,AB (by omega)⟩
    obtain⟨v,ev,iv⟩:=ius.get (show (S.map bV)[j]?=some (bV st) by rw[AH,es];rfl)
    rw[hj] at ev
    cases ev
    have ms:=AI es
    obtain⟨t,rfl,o⟩:=jM iv
    have o7:=S7 _ _ o
    have et:S.take (j+1)=S.take j++[st]:=by rw[Aa,es];rfl
    have l7:=lcm _ c7 sub7
    have kl7:(keys (cm++more)).length=(cm++more).length:=by unfold keys;rw[AA]
    have lw7:(((keys (cm++more)).drop (p+1)).map V.str).length≤13:=by rw[AA,Bh];omega
    have uk:u∈keys (cm++more):=by rw[jW];exact CC _ (AI eu)
    refine⟨_,rfl,t,_,1,.str st.near,rfl,rfl,SqT.of o7,aK (j:=1) rfl,_,rfl,rfl,_,rfl,?_⟩
    rw[kP]
    refine lF (fun c1=>?_) (fun c1=>?_)
    ·have e1:st.near=u:=of_decide_eq_true c1
     refine⟨_,rfl,t,_,2,.str st.far,rfl,rfl,SqT.of o7,aK (j:=2) rfl,_,rfl,d,_,rfl,.inl ⟨kvs7,Sum.inr st.far,.inl hd7,rfl,rfl⟩,_,rfl,?_⟩
     by_cases hk:st.far∈keys (cm++more)
     ·rw[ck7.some hk]
      refine bM ⟨_,more,kvs7,rfl,S7,hd7,ck7,c7,sub7,hw7,op7,fun s m en=>?_⟩
      rw[et] at m
      rcases Ar.mp m with m | m
      ·exact cl7 s m en
      ·rw[AS.mp m];exact hk
     ·have hno:=ck7.none hk
      rw[hno]
      refine cR ?_
      have lkv:kvs7.length<Am:=by rw[ck7.len];omega
      refine⟨_,rfl,_,rfl,_,rfl,t,_,2,.str st.far,rfl,rfl,SqT.of o7,aK (j:=2) rfl,d,_,rfl,.inl ⟨kvs7,Sum.inr st.far,hd7,rfl,lkv,rfl⟩,?_⟩
      rw[aMS _ hno]
      have KT1:gI H7 (upd H7 d (.dK (kvs7++[(Sum.inr st.far,.ref t)]))):=fun b ys e=>by
       rw[aI (fun eb=>by rw[eb,hd7] at e;cases e)]
       exact e
      have hw8:upd H7 d (.dK (kvs7++[(Sum.inr st.far,.ref t)])) lw=some (.lst (((keys (cm++more)).drop (p+1)).map V.str)):=by rw[aI (Ne.symm ndw)];exact hw7
      have o8:upd H7 d (.dK (kvs7++[(Sum.inr st.far,.ref t)])) t=some (.tup [.str st.nm,.str st.near,.str st.far,.int st.h]):=KT1 _ _ o7
      have hd8:upd H7 d (.dK (kvs7++[(Sum.inr st.far,.ref t)])) d=some (.dK (kvs7++[(Sum.inr st.far,.ref t)])):=aC
      have S8:aH H (upd H7 d (.dK (kvs7++[(Sum.inr st.far,.ref t)]))):=S7.over hd0
      have ck8:=ck7.keep KT1
      generalize upd H7 d (.dK (kvs7++[(Sum.inr st.far,.ref t)]))=H8 at hw8 o8 hd8 S8 ck8
      refine⟨_,rfl,.inl ⟨rfl,_,SqL.of hw8⟩,_,rfl,t,_,2,.str st.far,rfl,rfl,SqT.of o8,aK (j:=2) rfl,lw,_,.str st.far,rfl,rfl,hw8,by omega,?_⟩
      have KT2:=gI.lst (o:=.lst (((keys (cm++more)).drop (p+1)).map V.str++[.str st.far])) hw8
      have c9:=c7.snoc ms (by rw[e1];exact uk) hk
      rw[Bl] at c9
      have kk:keys (cm++(more++[(st.far,some st)]))=keys (cm++more)++[st.far]:=by rw[← Bl,jW];rfl
      refine⟨_,more++[(st.far,some st)],kvs7++[(Sum.inr st.far,.ref t)],rfl,S8.over hlw0,by rw[aI ndw];exact hd8,?_,c9,?_,?_,?_,?_⟩
      ·rw[← Bl]
       have ck9:=ck8.keep KT2
       refine⟨by rw[AX,AX,ck9.len];rfl,fun i z o' e=>?_⟩
       by_cases hi:i<(cm++more).length
       ·rw[BK hi] at e
        obtain⟨v,ev,cv⟩:=ck9.at' i z o' e
        exact⟨v,by rw[BK (by rw[ck9.len];exact hi)];exact ev,cv⟩
       ·have hle:=(AC.mp e).1
        rw[AX] at hle
        have h1':([(st.far,some st)]:Cm).length=1:=rfl
        have hie:i=(cm++more).length:=by omega
        subst hie
        rw[Be (AL _),FG] at e
        cases e
        refine⟨.ref t,by rw[Be (by rw[ck9.len];exact AL _),ck9.len,FG];rfl,?_⟩
        exact⟨t,_,rfl,KT2 _ _ o8,_,_,rfl,rfl,_,_,rfl,rfl,_,_,rfl,rfl,_,_,rfl,rfl,rfl⟩
      ·intro z m
       rw[kk] at m
       rcases Ar.mp m with m | m
       ·exact sub7 z m
       ·rw[AS.mp m];exact farV st ms
      ·rw[aC,kk,List.drop_append_of_le_length (by rw[kl7,AX];omega),AT]
       rfl
      ·rw[← Bl]
       exact op7.snoc (by rw[AX];omega) _
      ·intro s m en
       rw[kk]
       rw[et] at m
       rcases Ar.mp m with m | m
       ·exact CC _ (cl7 s m en)
       ·rw[AS.mp m];exact Ah _ (AS.mpr rfl)
    ·refine⟨_,more,kvs7,rfl,S7,hd7,ck7,c7,sub7,hw7,op7,fun s m en=>?_⟩
     rw[et] at m
     rcases Ar.mp m with m | m
     ·exact cl7 s m en
     ·rw[AS.mp m] at en
      exact absurd (decide_eq_true en) c1
   ·rintro σ H7 ⟨w5,more,kvs7,rfl,S7,hd7,ck7,c7,sub7,hw7,op7,cl7⟩
    rw[AG (by omega)] at cl7
    have l7:=lcm _ c7 sub7
    have kl7:(keys (cm++more)).length=(cm++more).length:=by unfold keys;rw[AA]
    have ca:(cm++more).length=cm.length+more.length:=AX
    refine⟨⟨_,_,p+1,cm++more,kvs7,rfl,S7,hd7,ck7,c7,sub7,by omega,hw7,fun i u' hi e s ms en=>?_⟩,?_⟩
    ·by_cases hip:i<p
     ·exact op7 i u' hip e s ms en
     ·have hie:i=p:=by omega
      subst hie
      rw[jW,BK (by omega),eu] at e
      cases e
      exact cl7 s ms en
    ·rw[hd7,hw7,hd5,hw5]
     dsimp only
     rw[ck7.len,ck.len,AA,AA,Bh,Af,Bh]
     omega
  ·have hpe:p=cm.length:=by omega
   subst hpe
   rw[show (keys cm).drop cm.length=[] from Ch (by omega)]
   refine bM ⟨_,rfl,q d cm kvs H5 S5 hd0 hd5 ck c op l13⟩
 ·intro σ H Q Q' h hc
  obtain⟨v,e,p,xs,e2,hq,q⟩:=hc
  exact⟨v,e,p,xs,e2,hq,h _ _ q⟩
open Mt53 Mt22 MtF Mt31 Mt61
theorem zF{f:Gap→V}:∀ {G:List Gap} {g:Gap},(G.map (·.nm)).Nodup→g∈G→eS (G.map fun g=>((Sum.inr g.nm:Key),f g)) (Sum.inr g.nm)=some (f g)
 | e :: G,g,nd,m=>by
  rw[AU] at nd ⊢
  rw[Aj] at nd
  rcases Ac.mp m with rfl | m
  ·exact iJ rfl
  ·rw[iK (fun c=>nd.1 (by rw[DR c];exact AM.mpr ⟨g,m,rfl⟩))]
   exact zF nd.2 m
noncomputable def eC(G:List Gap)(f:Fl):List (Key×V):=G.map fun g=>(Sum.inr g.nm,V.int (f g.nm))
theorem qG{H H':Hp}{a:Addr}{u:HO}(r:Rd H a u)(S:aH H H'):Rd H' a u:=by
 rcases r with h | ⟨o,h⟩
 ·exact .inl (S _ _ h)
 ·exact .inr ⟨o,S _ _ h⟩
theorem pQ{G:List Gap}{s:Mt22.St}(m:s∈Mt61.stepsOf G):∃ g∈G,g.nm=s.nm∧(s.h=1∨s.h=-1):=by
 obtain⟨g,mg,e⟩:=iF.mp m
 rcases e with rfl | rfl
 ·exact⟨g,mg,rfl,.inl rfl⟩
 ·exact⟨g,mg,rfl,.inr rfl⟩
def aFL:Sp:=sp3 fun x y u H Q=>∃ (dm de:Addr) (V0:List Str) (G:List Gap) (f:Fl) (s:Mt22.St),Is H (bV s) x∧s∈Mt61.stepsOf G∧Gaps V0 G∧y=.ref dm∧Rd H dm (.dK (dP G))∧u=.ref de∧Rd H de (.dK (eC G f))∧Q (.int (Mt61.room G f s)) H
theorem yZ(T:Txt K mg C):Fc P w K mg base 1 "room" ["step","most","stream"] aFL:=by
 refine T.d_p_room.fc aJU rR (fun f cdv A outer s H vs Q E hr h=>?_)
 obtain⟨x,y,u,rfl,dm,de,V0,G,fl,st,hx,ms,GG,rfl,hm,rfl,he,q⟩:=h
 have hu:=lA hr
 obtain⟨t,rfl,o⟩:=jM hx
 obtain⟨g,mg',en,hh⟩:=pQ ms
 have v1:eS (dP G) (Sum.inr st.nm)=some (.int g.cap):=by rw[← en];exact zF (f:=fun g=>V.int g.cap) GG.nd mg'
 have v2:eS (eC G fl) (Sum.inr st.nm)=some (.int (fl st.nm)):=by rw[← en];exact zF (f:=fun g=>V.int (fl g.nm)) GG.nd mg'
 refine⟨_,(@aG _ _ _ (@aT _ _ _ _ (@aM _ _ _ _ _ _ _ _ eY (@fX _ _ _ _ _ _ hu (pv 1) (@aZ _ _ _ _ _ _ _ (@aO _ (K) rfl) (pv 0) aD (fun _ _=>rfl)) (fun _ _=>rfl)) (@aM _ _ _ _ _ _ _ _ jG (@aZ _ _ _ _ _ _ _ (@aO _ (K) rfl) (pv 0) aD (fun _ _=>rfl)) (@fX _ _ _ _ _ _ hu (pv 2) (@aZ _ _ _ _ _ _ _ (@aO _ (K) rfl) (pv 0) aD (fun _ _=>rfl)) (fun _ _=>rfl)))))),?_⟩
 refine⟨_,rfl,_,rfl,t,_,0,.str st.nm,rfl,rfl,SqT.of o,aK (j:=0) rfl,dm,_,rfl,.inl ⟨_,Sum.inr st.nm,hm,rfl,v1.symm⟩,?_⟩
 refine⟨_,rfl,t,_,3,.int st.h,rfl,rfl,SqT.of o,aK (j:=3) rfl,_,rfl,_,rfl,t,_,0,.str st.nm,rfl,rfl,SqT.of o,aK (j:=0) rfl,de,_,rfl,.inl ⟨_,Sum.inr st.nm,he,rfl,v2.symm⟩,?_⟩
 refine⟨_,_,rfl,rfl,.inl (by rcases hh with h | h <;> rw[h] <;> exact⟨by decide,by decide⟩),_,_,rfl,rfl,?_⟩
 have e:Mt61.room G fl st=g.cap - st.h*fl st.nm:=by
  unfold Mt61.room
  rw[← en,mY GG mg']
 rw[e] at q
 exact q
noncomputable def wW(G:List Gap)(f:Fl):List Mt22.St:=(Mt61.stepsOf G).filter fun s=>decide (0<Mt61.room G f s)
theorem aIZ{V0:List Str}{G:List Gap}(GG:Gaps V0 G){s:Mt22.St}(m:s∈Mt61.stepsOf G):s.near∈V0∧s.far∈V0:=by
 obtain⟨g,mg,e⟩:=iF.mp m
 obtain⟨ha,hb,_⟩:=GG.ends g mg
 rcases e with rfl | rfl
 ·exact⟨ha,hb⟩
 ·exact⟨hb,ha⟩
def rD:Sp:=sp3 fun x y u H Q=>∃ (l dm de:Addr) (us:List V) (V0:List Str) (G:List Gap) (f:Fl),x=.ref l∧H l=some (.lst us)∧IsL H ((Mt61.stepsOf G).map bV) us∧G.length≤40∧V0.length≤13∧Gaps V0 G∧y=.ref dm∧Rd H dm (.dK (dP G))∧u=.ref de∧Rd H de (.dK (eC G f)) ∧
 ∀ (d:Addr) (cm:Cm) (kvs:List (Key×V)) (H':Hp),aH H H'→H d=none→H' d=some (.dK kvs)→CamKV H' kvs cm→CameG [Mt22.sea] (wW G f) cm→uJ (wW G f) cm cm.length→cm.length≤13→Q (.ref d) H'
theorem qK(T:Txt K mg C):Fc P w K mg base 2 "reached" ["steps","most","stream"] rD:=by
 have G_p_room:Fc P w K mg base 1 "room" ["step","most","stream"] aFL:=yZ T
 have G_p_spread:Fc P w K mg base 1 "spread" ["starts","steps"] rC:=tM T
 refine T.d_p_reached.fc aAV rR (fun f cdv A outer s H vs Q E hr h=>?_)
 obtain⟨x,y,u,rfl,l,dm,de,us,V0,G,fl,rfl,hl,ius,g40,v13,GG,rfl,hm,rfl,he,q⟩:=h
 have big:=bY
 have lus:=ius.length
 have sl:=nG G
 rw[AA,sl] at lus
 refine⟨_,(@aG _ _ _ (@aT _ _ _ _ (@bE _ _ _ _ _ _ _ _ _ _ G_p_spread (hr.mono (by decide)) (@aA _ _ _ _ _ (@cX _ _ _ _ (@aA _ _ _ _ _ (@rK _ _ _ _ T.g_SEA (by rfl) (by decide)) aB (by rfl))) (@aA _ _ _ _ _ (@cD _ _ _ _ _ _ _ _ _ _ _ ["step","most","stream"] 1 [1,2] rfl (@bP _ _ _ _ (pv 0)) (fun R=>@bA _ _ (0) _ (show Aw (["step","most","stream"]:List Str) by decide +kernel) rfl (Or.inl rfl) (by trivial)) (@aW _ _ (by decide)) (fun R=>@fW _ _ _ (@cB _ _ _ _ _ _ _ _ aNG (@bE _ _ _ _ _ _ _ _ _ _ G_p_room (hr.mono (by decide)) (@aA _ _ _ _ _ (pv 0) (@aA _ _ _ _ _ (pv 1) (@aA _ _ _ _ _ (pv 2) aB (by rfl)) (by rfl)) (by rfl)) (by rfl) (by decide) (by rfl) (by rfl)) aD (@bT _ _ (by decide) (by decide)))) (fun R=>(pv 0)) (by rfl) (by rfl) (by rfl) (by rfl) (by rfl) (by rfl) (by rfl) (by intro _;rfl)) aB (by rfl)) (by rfl)) (by rfl) (by decide) (by rfl) (by rfl)))),?_⟩
 refine⟨aS rfl,fun l1 h1=>?_⟩
 have S1:=aH.upd (o:=.lst [.str "sea"]) h1
 have r1:upd H l1 (.lst [.str "sea"]) l1=some (.lst (([Mt22.sea]:List Str).map V.str)):=aC
 generalize upd H l1 (.lst [.str "sea"])=H1 at S1 r1
 refine⟨_,rfl,l,rfl,⟨_,SqL.of (S1 _ _ hl)⟩,?_⟩
 refine bH (F:=K) (xs:=us) (by omega) (fun i ys H'=>H1=H'∧IsL H' ((((Mt61.stepsOf G).take i).filter fun s=>decide (0<Mt61.room G fl s)).map bV) ys) ⟨rfl,rfl⟩ ?_ ?_ ?_
 ·rintro i ys H' hi ⟨rfl,iy⟩
  refine⟨SqL.of (S1 _ _ hl),?_⟩
  have:=iy.length
  have:=BI (fun s=>decide (0<Mt61.room G fl s)) ((Mt61.stepsOf G).take i)
  rw[AR] at this
  rw[AA] at *
  omega
 ·rintro i xv ys H' K1 K2 hx' ⟨rfl,iy⟩ k1 k2
  have hil:i<us.length:=(AC.mp hx').1
  obtain⟨st,es⟩:∃ st,(Mt61.stepsOf G)[i]?=some st:=⟨_,AB (by omega)⟩
  obtain⟨v,ev,iv⟩:=(IsL.same S1 _ _ ius).get (show ((Mt61.stepsOf G).map bV)[i]?=some (bV st) by rw[AH,es];rfl)
  rw[hx'] at ev
  cases ev
  refine⟨_,rfl,_,rfl,_,rfl,_,_,_,rfl,dm,de,V0,G,fl,st,iv,AI es,GG,rfl,qG hm S1,rfl,qG he S1,_,_,rfl,rfl,_,rfl,?_⟩
  have et:((Mt61.stepsOf G).take (i+1)).filter (fun s=>decide (0<Mt61.room G fl s))=((Mt61.stepsOf G).take i).filter (fun s=>decide (0<Mt61.room G fl s))++(if decide (0<Mt61.room G fl st)=true then [st] else []):=by
   rw[Aa,es,Bz]
   cases h:decide (0<Mt61.room G fl st) <;> simp[h]
   all_goals simpa using h
  cases hg:decide (0<Mt61.room G fl st) with
  | false =>
   rw[hg] at et
   refine bM (k2 _ ⟨rfl,?_⟩)
   rw[et]
   simpa using iy
  | true =>
   rw[hg] at et
   refine cR ⟨_,rfl,k1 _ _ ⟨rfl,?_⟩⟩
   rw[et,if_pos rfl,AT]
   exact IsL.snoc iv iy
 rintro ys H2 ⟨rfl,iy⟩
 rw[AG (by omega)] at iy
 intro l2 h2
 have S2:=aH.upd (o:=.lst ys) h2
 refine⟨_,_,rfl,l1,l2,ys,wW G fl,[Mt22.sea],V0,rfl,rfl,by simp,(fun z m=>by rw[AS.mp m];exact GG.sea),S2 _ _ r1,aC,IsL.same S2 _ _ iy,?_,v13,fun s m=>(aIZ GG (Aq.mp m).1).2,fun d cm kvs H' S3 nd hd ck cg op l13=>?_⟩
 ·have:=BI (fun s=>decide (0<Mt61.room G fl s)) (Mt61.stepsOf G)
  unfold wW
  omega
 ·exact q d cm kvs H' (S1.trans (S2.trans S3)) ((S1.trans S2).free nd) hd ck cg op l13
open Mt53 Mt22 MtF Mt31 Mt61
def aLS:Sp:=sp2 fun x y H Q=>∃ (d:Addr) (kvs:List (Key×V)) (cm:Cm) (S:List Mt22.St) (side:Str),x=.ref d∧y=.str side∧Rd H d (.dK kvs)∧CamKV H kvs cm∧Came S cm∧cm.length≤13∧side∈keys cm ∧
 ∀ (l:Addr) (us:List V) (ss:List Mt22.St) (H':Hp),aH H H'→H l=none→H' l=some (.lst us)→IsL H' (ss.map bV) us→Chain S ss side→ss.length≤13→Q (.ref l) H'
theorem aNU{cm:Cm}{z:Str}(m:z∈keys cm):∃ (i:Nat) (o:Option Mt22.St),cm[i]?=some (z,o):=by
 obtain⟨i,hi⟩:=BB.mp m
 unfold keys at hi
 rw[AH] at hi
 cases e:cm[i]? with
 | none=>rw[e] at hi;cases hi
 | some x =>
  rw[e] at hi
  obtain⟨a,o⟩:=x
  cases hi
  exact⟨i,o,e⟩
theorem aBL(T:Txt K mg C):Fc P w K mg base 1 "path_to" ["came","side"] aLS:=by
 refine T.d_p_path_to.fc iC iU (fun f cdv A outer s H vs Q E hr h=>?_)
 obtain⟨x,y,rfl,d,kvs,cm,S,side,rfl,rfl,hd,ck,c,l13,ms,q⟩:=h
 have big:=bY
 have hu:=lA hr
 obtain⟨j0,o0,e0⟩:=aNU ms
 obtain⟨v0,ev0,cv0⟩:=ck.val c e0
 have hj0:=(AC.mp e0).1
 refine⟨_,(@aE _ _ _ _ _ (@aV _ _ (2) _ _ _ _ iC.nd rfl (Or.inl rfl) (@cX _ _ _ _ aB) (by rfl) (by trivial)) (@aE _ _ _ _ _ (@aV _ _ (3) _ _ _ _ iC.nd rfl (Or.inl rfl) (@fX _ _ _ _ _ _ hu (pv 0) (pv 1) (fun _ _=>rfl)) (by rfl) (by trivial)) (@aE _ _ _ _ _ (@qH _ _ _ _ _ _ BG (@cB _ _ _ _ _ _ _ _ aRB (pv 3) kG (@bT _ _ (by decide) (by decide))) (@aE _ _ _ _ _ (@fC _ _ _ _ (@mB _ _ _ _ _ _ _ _ _ _ _ _ BP BS BR fD (pv 2) (@aA _ _ _ _ _ (pv 3) aB (by rfl)) (by rfl) (by rfl) (by rfl) (by rfl) (by rfl)) (by rfl)) (@aG _ _ _ (@aV _ _ (3) _ _ _ _ iC.nd rfl (Or.inl rfl) (@fX _ _ _ _ _ _ hu (pv 0) (@aZ _ _ _ _ _ _ _ (@aO _ (K) rfl) (pv 3) aD (fun _ _=>rfl)) (fun _ _=>rfl)) (by rfl) (by trivial))))) (@aG _ _ _ (@aT _ _ _ _ (@aFX _ _ _ _ _ _ _ rfl rfl T.n_list rfl T.n_reversed (@aA _ _ _ _ _ (pv 2) aB (by rfl)) (by rfl) (by rfl))))))),?_⟩
 refine⟨aS rfl,fun lp hlp=>?_⟩
 have S1:=aH.upd (o:=.lst []) hlp
 have h1:upd H lp (.lst []) lp=some (.lst []):=aC
 generalize upd H lp (.lst [])=H1 at S1 h1
 refine⟨_,rfl,_,rfl,d,v0,rfl,.inl ⟨kvs,Sum.inr side,qG hd S1,rfl,ev0.symm⟩,?_⟩
 refine pM (fun σ H'=>∃ (j:Nat) (z:Str) (o:Option Mt22.St) (v:V) (ps:List Mt22.St) (us:List V),σ=[some (.ref d),some (.str side),some (.ref lp),some v]∧aH H H'∧H' lp=some (.lst us)∧IsL H' (ps.map bV) us∧cm[j]?=some (z,o)∧CV H' o v∧aWJ S cm j z ps.reverse side∧ps.length+j<cm.length)
  (fun _ H'=>match H' lp with | some (.lst us)=>14 - us.length | _=>0) ⟨j0,side,o0,v0,[],[],rfl,S1,h1,rfl,e0,cv0.same S1,(fun ss ch _=>by rw[List.reverse_nil,Bf];exact ch),by show 0+j0<_;omega⟩ ?_ ?_
 ·rintro σ H2 ⟨j,z,o,v,ps,us,rfl,S2,h2,ius,ej,cv,tl,lj⟩
  have lus:=ius.length
  rw[AA] at lus
  refine⟨_,rfl,rfl,_,rfl,?_⟩
  cases o with
  | none =>
   have hv:v=.non:=cv
   subst hv
   have hj:j=0:=by
    cases j with
    | zero=>rfl
    | succ j =>
     obtain⟨s',h',_⟩:=c.prev (j+1) z none (by omega) ej
     cases h'
   subst hj
   have hz:z=Mt22.sea:=by
    have:=c.first
    rw[ej] at this
    cases this
    rfl
   subst hz
   have ch:=tl [] .nil (fun y m=>by cases m)
   rw[DY] at ch
   rw[decide_eq_true rfl]
   refine bM ⟨_,rfl,lp,us,rfl,SqL.of h2,fun l hl=>?_⟩
   refine q l us.reverse ps.reverse _ (S2.trans (aH.upd hl)) (S2.free hl) aC ?_ ch (by rw[Dd];omega)
   rw[List.map_reverse]
   exact IsL.rev (IsL.same (aH.upd hl) _ _ ius)
  | some s =>
   obtain⟨t,rfl,ot⟩:=jM cv
   have hj:0<j:=by
    cases j with
    | zero =>
     have:=c.first
     rw[ej] at this
     cases this
    | succ j=>omega
   obtain⟨s',es',mS,hf,hn⟩:=c.prev j z (some s) hj ej
   cases es'
   obtain⟨i,oi,ei⟩:=aNU hn
   have hil:=(AC.mp ei).1
   rw[AR] at hil
   have hij:i<j:=by omega
   rw[Bn hij] at ei
   obtain⟨v',ev',cv'⟩:=ck.val c ei
   have ki:(keys cm)[i]?=some s.near:=by unfold keys;rw[AH,ei];rfl
   have hne:(!decide (V.ref t=V.non))=true:=by rw[decide_eq_false (by intro c;cases c)];rfl
   rw[hne]
   refine cR ?_
   refine⟨_,rfl,.inl ⟨rfl,_,SqL.of h2⟩,_,rfl,lp,us,.ref t,rfl,rfl,h2,by omega,?_⟩
   have KT:=gI.lst (o:=.lst (us++[.ref t])) h2
   have S3:aH H (upd H2 lp (.lst (us++[.ref t]))):=S2.over hlp
   refine⟨_,rfl,_,rfl,t,_,1,.str s.near,rfl,rfl,SqT.of (KT _ _ ot),aK (j:=1) rfl,d,v',rfl,.inl ⟨kvs,Sum.inr s.near,qG hd S3,rfl,ev'.symm⟩,?_⟩
   refine⟨⟨i,s.near,oi,v',ps++[s],us++[.ref t],rfl,S3,aC,?_,ei,cv'.same S3,?_,by rw[AX];show _+1+_<_;omega⟩,?_⟩
   ·refine IsL.keep KT _ _ (fA fun d m=>?_) ?_
    ·obtain⟨s,_,rfl⟩:=AM.mp m
     exact fM s
    ·rw[AT]
     exact IsL.snoc (d:=bV s) (v:=.ref t) cv ius
   ·rw[List.reverse_append]
    exact aJL c ej mS hf hij ki tl
   ·rw[h2,aC]
    dsimp only
    rw[AX]
    show 14 - (us.length+1)<14 - us.length
    omega
 ·intro σ H Q Q' h hc
  obtain⟨v,e,hq,k,e2,q⟩:=hc
  exact⟨v,e,hq,k,e2,h _ _ q⟩
theorem aKU{S ss:List Mt22.St}{z:Str}(c:Chain S ss z):ss=[]→z=Mt22.sea:=by
 induction c with
 | nil=>intro _;rfl
 | snoc c m n ih=>intro e;simp at e
def aPM(G:List Gap)(f:Fl)(ws:List Str):Prop:=∃ cm:Cm,CameG [Mt22.sea] (wW G f) cm∧uJ (wW G f) cm cm.length∧∀ z∈ws,z∉keys cm
def aYN(G:List Gap)(f:Fl)(ws:List Str)(ss:List Mt22.St):Prop:=(ss=[]∧aPM G f ws)∨∃ z,Chain (wW G f) ss z∧z∈ws∧ss≠[]∧ss.length≤13
def aAP:Sp:=fun vs H Q _=>∃ (x y u v:V) (l dm de lw:Addr) (us:List V) (V0:List Str) (G:List Gap) (f:Fl) (ws:List Str),vs=[x,y,u,v]∧x=.ref l∧H l=some (.lst us)∧IsL H ((Mt61.stepsOf G).map bV) us∧G.length≤40∧V0.length≤13∧Gaps V0 G∧y=.ref dm∧Rd H dm (.dK (dP G))∧u=.ref de∧Rd H de (.dK (eC G f))∧v=.ref lw∧H lw=some (.lst (ws.map V.str))∧Mt22.sea∉ws ∧
 ∀ (lp:Addr) (us:List V) (ss:List Mt22.St) (H':Hp),aH H H'→H lp=none→H' lp=some (.lst us)→IsL H' (ss.map bV) us→aYN G f ws ss→Q (.ref lp) H'
theorem aXP:∀ vs H Q E,aAP vs H Q E→vs.length=4:=fun vs H Q E ⟨x,y,u,v,l,dm,de,lw,us,V0,G,f,ws,e,_⟩=>by rw[e];rfl
theorem nZ(T:Txt K mg C):Fc P w K mg base 3 "path_with_room" ["steps","most","stream","fields"] aAP:=by
 have G_p_reached:Fc P w K mg base 2 "reached" ["steps","most","stream"] rD:=qK T
 have G_p_path_to:Fc P w K mg base 1 "path_to" ["came","side"] aLS:=aBL T
 refine T.d_p_path_with_room.fc fF aXP (fun f cdv A outer s H vs Q E hr h=>?_)
 obtain⟨x,y,u,v,l,dm,de,lw,us,V0,G,fl,ws,rfl,rfl,hl,ius,g40,v13,GG,rfl,hm,rfl,he,rfl,hlw,ns,q⟩:=h
 have big:=bY
 have hu:=lA hr
 refine⟨_,(@aE _ _ _ _ _ (@aV _ _ (4) _ _ _ _ fF.nd rfl (Or.inl rfl) (@bE _ _ _ _ _ _ _ _ _ _ G_p_reached (hr.mono (by decide)) (@aA _ _ _ _ _ (pv 0) (@aA _ _ _ _ _ (pv 1) (@aA _ _ _ _ _ (pv 2) aB (by rfl)) (by rfl)) (by rfl)) (by rfl) (by decide) (by rfl) (by rfl)) (by rfl) (by trivial)) (@aE _ _ _ _ _ (@iQ _ (5) _ _ _ _ _ _ _ _ _ _ _ _ _ fF.nd rfl ["side","fields"] 1 [3] rfl (@aBH _ _ _ _ (pv 4)) (fun R=>@bA _ _ (0) _ (show Aw (["side","fields"]:List Str) by decide +kernel) rfl (Or.inl rfl) (by trivial)) (@aW _ _ (by decide)) (fun R=>@fW _ _ _ (@cB _ _ _ _ _ _ _ _ (@pG _ (K) rfl) (pv 0) (pv 1) (by with_unfolding_all rfl))) (fun R=>(pv 0)) (by exact Or.inl rfl) (by trivial) (by rfl) (by rfl) (by rfl) (by rfl) (by rfl) (by rfl) (by rfl) (by rfl) (by intro _;rfl)) (@aG _ _ _ (@aT _ _ _ _ (@aND _ _ _ _ _ _ _ _ (@aFV _ _ _ (pv 5) (by intro _;rfl)) (@bE _ _ _ _ _ _ _ _ _ _ G_p_path_to (hr.mono (by decide)) (@aA _ _ _ _ _ (pv 4) (@aA _ _ _ _ _ (@aZ _ _ _ _ _ _ _ (@cW _ (K) rfl) (pv 5) aD (fun _ _=>rfl)) aB (by rfl)) (by rfl)) (by rfl) (by decide) (by rfl) (by rfl)) (@cX _ _ _ _ aB)))))),?_⟩
 refine⟨_,rfl,_,rfl,_,rfl,_,_,_,rfl,l,dm,de,us,V0,G,fl,rfl,hl,ius,g40,v13,GG,rfl,hm,rfl,he,fun d cm kvs H1 S1 nd hd ck cg op l13=>?_⟩
 refine⟨_,rfl,d,kvs,rfl,hd,fun o=>?_⟩
 have SF:aH H (upd H1 d (.frz o (.dK kvs))):=S1.over nd
 have KF:gI H1 (upd H1 d (.frz o (.dK kvs))):=fun b ys e=>by
  rw[aI (fun c=>by rw[c,hd] at e;cases e)]
  exact e
 have ckF:=ck.keep KF
 have dF:upd H1 d (.frz o (.dK kvs)) d=some (.frz o (.dK kvs)):=aC
 generalize upd H1 d (.frz o (.dK kvs))=H2 at SF ckF dF
 have lk:kvs.length=cm.length:=ck.len
 have hlw2:=SF _ _ hlw
 refine sI (by omega) (fun i ys H'=>H2=H'∧ys=(((keys cm).take i).filter fun z=>decide (z∈ws)).map V.str) ⟨rfl,rfl⟩ ?_ ?_ ?_
 ·rintro i ys H' hi ⟨rfl,rfl⟩
  refine⟨dF,?_⟩
  have:=BI (fun z=>decide (z∈ws)) ((keys cm).take i)
  rw[AR] at this
  rw[AA]
  omega
 ·rintro i kv ys H' K1 K2 hk ⟨rfl,rfl⟩ k1 k2
  have hil:=(AC.mp hk).1
  obtain⟨⟨z,oo⟩,ez⟩:∃ x,cm[i]?=some x:=⟨_,AB (by omega)⟩
  obtain⟨vv,ev,_⟩:=ckF.at' i z oo ez
  rw[hk] at ev
  cases ev
  have kz:(keys cm)[i]?=some z:=by unfold keys;rw[AH,ez];rfl
  refine⟨_,rfl,_,rfl,lw,_,rfl,.inl (SqL.of hlw2),rfl,nV ws,_,rfl,?_⟩
  show (if inV (V.str z) (ws.map V.str)=true then _ else _)
  rw[uS]
  have et:((keys cm).take (i+1)).filter (fun z=>decide (z∈ws))=((keys cm).take i).filter (fun z=>decide (z∈ws))++(if decide (z∈ws)=true then [z] else []):=by
   rw[Aa,kz,Bz]
   cases h:decide (z∈ws) <;> simp[h]
   all_goals simpa using h
  cases hg:decide (z∈ws) with
  | false =>
   rw[hg] at et
   refine bM (k2 _ ⟨rfl,?_⟩)
   rw[et]
   simp
  | true =>
   rw[hg] at et
   refine cR ⟨_,rfl,k1 _ _ ⟨rfl,?_⟩⟩
   rw[et,if_pos rfl,AT]
   rfl
 rintro ys H3 ⟨rfl,rfl⟩
 rw[AG (by unfold keys;rw[AA];omega)]
 intro le hle
 have S3:=aH.upd (o:=.lst (((keys cm).filter fun z=>decide (z∈ws)).map V.str)) hle
 have r3:upd H2 le (.lst (((keys cm).filter fun z=>decide (z∈ws)).map V.str)) le=some (.lst (((keys cm).filter fun z=>decide (z∈ws)).map V.str)):=aC
 have T3:=SF.trans S3
 have ck3:=ckF.same S3
 have d3:=S3 _ _ dF
 generalize upd H2 le (.lst (((keys cm).filter fun z=>decide (z∈ws)).map V.str))=H3 at S3 r3 T3 ck3 d3
 refine⟨_,rfl,le,_,rfl,SqL.of r3,?_⟩
 cases ef:(keys cm).filter fun z=>decide (z∈ws) with
 | nil =>
  refine bM ⟨aS rfl,fun lp hlp=>?_⟩
  refine q lp [] [] _ (T3.trans (aH.upd hlp)) (T3.free hlp) aC rfl (.inl ⟨rfl,cm,cg,op,fun z mz mk=>?_⟩)
  have:z∈(keys cm).filter fun z=>decide (z∈ws):=Aq.mpr ⟨mk,decide_eq_true mz⟩
  rw[ef] at this
  cases this
 | cons z zr =>
  have mz:z∈(keys cm).filter fun z=>decide (z∈ws):=by rw[ef];exact AO
  rw[Aq] at mz
  have zw:z∈ws:=of_decide_eq_true mz.2
  rw[ef] at r3
  refine cR ?_
  refine⟨_,rfl,_,rfl,le,_,0,.str z,rfl,rfl,SqL.of r3,aK (j:=0) rfl,_,_,rfl,d,kvs,cm,wW G fl,z,rfl,rfl,.inr ⟨o,d3⟩,ck3,cg.came,l13,mz.1,fun lp us' ss H4 S4 nlp hlp iss ch s13=>?_⟩
  refine q lp us' ss H4 (T3.trans S4) (T3.free nlp) hlp iss (.inr ⟨z,ch,zw,fun e=>?_,s13⟩)
  have:=aKU ch e
  rw[this] at zw
  exact ns zw
open Mt53 Mt22 MtF Mt31 Mt61
noncomputable def aOM(kvs:List (Key×V)):Fl:=fun n=>match eS kvs (Sum.inr n) with
 | some (.int i)=>i
 | _=>0
theorem aIP{H:Hp}{ds:List Dv}{us:List V}(h:IsL H ds us):ds.length=us.length:=by have:=h.length;omega
theorem aIW{G:List Gap}(nd:(G.map (·.nm)).Nodup)(f:Fl){g:Gap}(m:g∈G):aOM (eC G f) g.nm=f g.nm:=by
 unfold aOM
 rw[show eS (eC G f) (Sum.inr g.nm)=some (.int (f g.nm)) from zF (f:=fun g=>V.int (f g.nm)) nd m]
theorem yG{G:List Gap}{f f':Fl}(h:∀ g∈G,f g.nm=f' g.nm):val G f=val G f':=by
 unfold val net
 rw[eU fun g m=>show aED f Mt22.sea g=aED f' Mt22.sea g by unfold aED;rw[h g m]]
theorem aOK{G:List Gap}{f:Fl}{n:Str}{x:Int}(m:n∈G.map (·.nm)):nY (eC G f) (Sum.inr n) (.int x)=eC G (fun k=>if k=n then x else f k):=by
 unfold nY
 have ha:((eC G f).any fun kv=>decide (kv.1=(Sum.inr n:Key)))=true:=by
  obtain⟨g,mg,e⟩:=AM.mp m
  refine EF.mpr ⟨_,AM.mpr ⟨g,mg,rfl⟩,?_⟩
  rw[← e]
  exact decide_eq_true rfl
 rw[if_pos ha]
 unfold eC
 rw[Ai]
 refine Bk fun g _=>?_
 show (if (Sum.inr g.nm:Key)=Sum.inr n then ((Sum.inr g.nm:Key),V.int x) else (Sum.inr g.nm,V.int (f g.nm)))=(Sum.inr g.nm,V.int (if g.nm=n then x else f g.nm))
 by_cases e:g.nm=n
 ·rw[if_pos (by rw[e]),if_pos e]
 ·rw[if_neg (fun c=>e (DR c)),if_neg e]
theorem aOL{G:List Gap}{f:Fl}{s:Mt22.St}{m:Int}(ms:s∈Mt61.stepsOf G):nY (eC G f) (Sum.inr s.nm) (.int (f s.nm+s.h*m))=eC G (iY m f s):=by
 obtain⟨g,mg,en,_⟩:=pQ ms
 rw[aOK (by rw[← en];exact AM.mpr ⟨g,mg,rfl⟩)]
 unfold eC
 refine Bk fun g _=>?_
 show (Sum.inr g.nm,V.int (if g.nm=s.nm then f s.nm+s.h*m else f g.nm))=(Sum.inr g.nm,V.int (if g.nm=s.nm then f g.nm+s.h*m else f g.nm))
 by_cases e:g.nm=s.nm
 ·rw[if_pos e,if_pos e,e]
 ·rw[if_neg e,if_neg e]
theorem mX(G:List Gap)(f:Fl):(eC G f).length=G.length:=AA _
theorem aKQ(G:List Gap)(f:Fl):(eC G f).map (·.1)=(G.map (·.nm)).map Sum.inr:=by
 unfold eC
 rw[Ai,Ai]
 rfl
theorem wV{G:List Gap}{f:Fl}:∀ s∈wW G f,s∈Mt61.stepsOf G:=fun s m=>(Aq.mp m).1
def aLW:Sp:=sp3 fun x y u H Q=>∃ (l dm lw:Addr) (o:Obj) (us:List V) (V0:List Str) (G:List Gap) (ws:List Str),x=.ref l∧H l=some (.lst us)∧IsL H ((Mt61.stepsOf G).map bV) us∧G.length≤40∧V0.length≤13∧Gaps V0 G∧y=.ref dm∧H dm=some (.frz o (.dK (dP G)))∧u=.ref lw∧H lw=some (.lst (ws.map V.str))∧Mt22.sea∉ws ∧
 ∀ (de:Addr) (f:Fl) (H':Hp),aH H H'→H de=none→H' de=some (.dK (eC G f))→Stream V0 G ws f→aPM G f ws→Q (.ref de) H'
theorem oA(T:Txt K mg C):Fc P w K mg base 4 "fullest_stream" ["steps","most","fields"] aLW:=by
 have G_p_path_with_room:Fc P w K mg base 3 "path_with_room" ["steps","most","stream","fields"] aAP:=nZ T
 have G_p_room:Fc P w K mg base 1 "room" ["step","most","stream"] aFL:=yZ T
 refine T.d_p_fullest_stream.fc cL rR (fun f cdv A outer s H vs Q E hr h=>?_)
 obtain⟨x,y,u,rfl,l,dm,lw,o,us,V0,G,ws,rfl,hl,ius,g40,v13,GG,rfl,hm,rfl,hlw,ns,q⟩:=h
 have big:=bY
 have hu:=lA hr
 refine⟨_,(@aE _ _ _ _ _ (@aV _ _ (3) _ _ _ _ cL.nd rfl (Or.inr rfl) (@bJ _ _ _ _ _ _ _ _ _ (@dL _ rfl) rfl T.n_dict fB (@aA _ _ _ _ _ (@cD _ _ _ _ _ _ _ _ _ _ _ ["name"] 1 [] rfl (@aMY _ _ _ _ (pv 1)) (fun R=>@bA _ _ (0) _ (show Aw (["name"]:List Str) by decide +kernel) rfl (Or.inl rfl) (by trivial)) (@aW _ _ (by decide)) (fun R=>bZ) (fun R=>(@dJ _ _ _ _ _ (@aA _ _ _ _ _ (pv 0) (@aA _ _ _ _ _ aD aB (by rfl)) (by rfl)))) (by rfl) (by rfl) (by rfl) (by rfl) (by rfl) (by rfl) (by rfl) (by intro _;rfl)) aB (by rfl)) (by decide) (by decide) (by rfl) (by rfl)) (by rfl) (by trivial)) (@aE _ _ _ _ _ (@aV _ _ (4) _ _ _ _ cL.nd rfl (Or.inl rfl) (@bE _ _ _ _ _ _ _ _ _ _ G_p_path_with_room (hr.mono (by decide)) (@aA _ _ _ _ _ (pv 0) (@aA _ _ _ _ _ (pv 1) (@aA _ _ _ _ _ (pv 3) (@aA _ _ _ _ _ (pv 2) aB (by rfl)) (by rfl)) (by rfl)) (by rfl)) (by rfl) (by decide) (by rfl) (by rfl)) (by rfl) (by trivial)) (@aE _ _ _ _ _ (@qH _ _ _ _ _ _ BG (@aFV _ _ _ (pv 4) (by intro _;rfl)) (@aE _ _ _ _ _ (@aV _ _ (5) _ _ _ _ cL.nd rfl (Or.inl rfl) (@aQ _ _ _ _ _ _ _ _ _ (@aKV _ rfl) rfl T.n_min sM (@aA _ _ _ _ _ (@cD _ _ _ _ _ _ _ _ _ _ _ ["step","most","stream"] 1 [1,3] rfl (@bP _ _ _ _ (pv 4)) (fun R=>@bA _ _ (0) _ (show Aw (["step","most","stream"]:List Str) by decide +kernel) rfl (Or.inl rfl) (by trivial)) (@aW _ _ (by decide)) (fun R=>bZ) (fun R=>(@bE _ _ _ _ _ _ _ _ _ _ G_p_room (hr.mono (by decide)) (@aA _ _ _ _ _ (pv 0) (@aA _ _ _ _ _ (pv 1) (@aA _ _ _ _ _ (pv 2) aB (by rfl)) (by rfl)) (by rfl)) (by rfl) (by decide) (by rfl) (by rfl))) (by rfl) (by rfl) (by rfl) (by rfl) (by rfl) (by rfl) (by rfl) (by intro _;rfl)) aB (by rfl)) (by decide) (by decide) (by rfl) (by rfl)) (by rfl) (by trivial)) (@aE _ _ _ _ _ (@gK _ _ _ _ _ _ _ _ BG rfl (@bP _ _ _ _ (pv 4)) (@bA _ _ (6) _ cL.nd rfl (Or.inl rfl) (by trivial)) (@aG _ _ _ (@aQT _ _ _ _ _ _ _ _ _ _ _ hu (pv 3) (@aZ _ _ _ _ _ _ _ (@aO _ (K) rfl) (pv 6) aD (fun _ _=>rfl)) (@aM _ _ _ _ _ _ _ _ jG (@aZ _ _ _ _ _ _ _ (@aO _ (K) rfl) (pv 6) aD (fun _ _=>rfl)) (pv 5)) aVP (fun _ _ _=>rfl))) (by intro _;rfl)) (@aG _ _ _ (@aV _ _ (4) _ _ _ _ cL.nd rfl (Or.inl rfl) (@bE _ _ _ _ _ _ _ _ _ _ G_p_path_with_room (hr.mono (by decide)) (@aA _ _ _ _ _ (pv 0) (@aA _ _ _ _ _ (pv 1) (@aA _ _ _ _ _ (pv 3) (@aA _ _ _ _ _ (pv 2) aB (by rfl)) (by rfl)) (by rfl)) (by rfl)) (by rfl) (by decide) (by rfl) (by rfl)) (by rfl) (by trivial)))))) (@aG _ _ _ (@aT _ _ _ _ (pv 3)))))),?_⟩
 refine⟨_,rfl,dm,o,_,rfl,hm,?_⟩
 refine sI (by rw[jY];omega) (fun i ys H'=>aH H H'∧bQ H' ys (eC (G.take i) fun _=>0)) ⟨aH.refl _,bQ.nil _⟩ ?_ ?_ ?_
 ·rintro i ys H' hi ⟨S',pa⟩
  have:=pa.len
  rw[mX,AR] at this
  exact⟨S' _ _ hm,by omega⟩
 ·rintro i kv ys H' K1 K2 hk ⟨S',pa⟩ k1 k2
  unfold dP at hk
  rw[AH] at hk
  obtain⟨g,eg,ekv⟩:=Ab.mp hk
  have ek:kV kv.1=V.str g.nm:=by rw[← ekv];rfl
  rw[ek]
  refine⟨_,rfl,aS rfl,fun p3 hp3=>k1 _ _ ⟨S'.trans (aH.upd hp3),?_⟩⟩
  have e2:eC (G.take (i+1)) (fun _=>0)=eC (G.take i) (fun _=>0)++[(Sum.inr g.nm,V.int 0)]:=by
   unfold eC
   rw[Aa,eg,AT]
   rfl
  rw[e2]
  exact bQ.snoc (k:=Sum.inr g.nm) pa hp3
 rintro ys H1 ⟨S1,pa⟩
 rw[jY,AG (AL _)] at pa
 intro p4 hp4
 have S2:=aH.upd (o:=.lst ys) hp4
 refine⟨p4,ys,eC G fun _=>0,rfl,SqL.of aC,pa.same S2,by rw[mX];omega,by rw[aKQ];exact (fP _).mpr GG.nd,fun de hde=>?_⟩
 have S3:=aH.upd (o:=.dK (eC G fun _=>0)) hde
 have T3:=S1.trans (S2.trans S3)
 have nde:=(S1.trans S2).free hde
 have he3:upd (upd H1 p4 (.lst ys)) de (.dK (eC G fun _=>0)) de=some (.dK (eC G fun _=>0)):=aC
 generalize upd (upd H1 p4 (.lst ys)) de (.dK (eC G fun _=>0))=H3 at S3 T3 he3
 have st0:Stream V0 G ws (fun _=>0):=Stream.none GG ws fun _ _=>rfl
 refine⟨_,rfl,_,rfl,_,rfl,_,rfl,_,_,_,_,l,dm,de,lw,us,V0,G,fun _=>0,ws,rfl,rfl,T3 _ _ hl,IsL.same T3 _ _ ius,g40,v13,GG,rfl,.inr ⟨o,T3 _ _ hm⟩,rfl,.inl he3,rfl,T3 _ _ hlw,ns,fun lp us4 ss H4 S4 nlp hlp iss go=>?_⟩
 refine pM (fun σ H'=>∃ (f5:Fl) (lp:Addr) (us5:List V) (ss:List Mt22.St) (v5 v6:Option V),σ=[some (.ref l),some (.ref dm),some (.ref lw),some (.ref de),some (.ref lp),v5,v6]∧aH H H'∧H' de=some (.dK (eC G f5))∧Stream V0 G ws f5∧H' lp=some (.lst us5)∧IsL H' (ss.map bV) us5∧aYN G f5 ws ss)
  (fun _ H'=>match H' de with | some (.dK kvs)=>(total G - val G (aOM kvs)).toNat | _=>0) ⟨fun _=>0,lp,us4,ss,_,_,rfl,T3.trans S4,S4 _ _ he3,st0,hlp,iss,go⟩ ?_ ?_
 ·rintro σ H5 ⟨f5,lp,us5,ss,v5,v6,rfl,S5,he5,st5,hlp5,iss5,go5⟩
  have lss:=aIP iss5
  rw[AA] at lss
  refine⟨_,rfl,lp,us5,rfl,SqL.of hlp5,?_⟩
  rcases go5 with ⟨rfl,en⟩ | ⟨z,ch,mz,ne,s13⟩
  ·have:us5=[]:=List.eq_nil_of_length_eq_zero lss.symm
   subst this
   exact bM ⟨_,rfl,q de f5 H5 S5 nde he5 st5 en⟩
  have une:us5.isEmpty=false:=by
   cases us5 with
   | nil=>exact absurd (List.eq_nil_of_length_eq_zero lss) ne
   | cons a b=>rfl
  rw[une]
  refine cR ?_
  obtain⟨csub,cnd⟩:=zW ch
  have rpos:∀ s∈ss,0<Mt61.room G f5 s:=fun s m=>of_decide_eq_true (Aq.mp (csub s m)).2
  have hm5:=S5 _ _ hm
  refine⟨_,rfl,lp,rfl,⟨_,SqL.of hlp5⟩,?_⟩
  refine bH (F:=K) (xs:=us5) (by omega) (fun i ys H'=>H5=H'∧ys=((ss.take i).map (Mt61.room G f5)).map V.int) ⟨rfl,rfl⟩ ?_ ?_ ?_
  ·rintro i ys H' hi ⟨rfl,rfl⟩
   exact⟨SqL.of hlp5,by rw[AA,AA,AR];omega⟩
  ·rintro i xv ys H' K1 K2 hx' ⟨rfl,rfl⟩ k1 k2
   have hil:i<us5.length:=(AC.mp hx').1
   obtain⟨st,es⟩:∃ st,ss[i]?=some st:=⟨_,AB (by omega)⟩
   obtain⟨v,ev,iv⟩:=iss5.get (show (ss.map bV)[i]?=some (bV st) by rw[AH,es];rfl)
   rw[hx'] at ev
   cases ev
   have ms:=AI es
   refine⟨_,rfl,_,rfl,_,rfl,_,_,_,rfl,dm,de,V0,G,f5,st,iv,wV _ (csub st ms),GG,rfl,.inr ⟨o,hm5⟩,rfl,.inl he5,k1 _ _ ⟨rfl,?_⟩⟩
   rw[Aa,es,AT,AT]
   rfl
  rintro ys H6 ⟨rfl,rfl⟩
  rw[AG (by omega)]
  intro la hla
  have S6:=aH.upd (o:=.lst ((ss.map (Mt61.room G f5)).map V.int)) hla
  have r6:upd H5 la (.lst ((ss.map (Mt61.room G f5)).map V.int)) la=some (.lst ((ss.map (Mt61.room G f5)).map V.int)):=aC
  generalize upd H5 la (.lst ((ss.map (Mt61.room G f5)).map V.int))=H6 at S6 r6
  have T6:=S5.trans S6
  refine⟨la,ss.map (Mt61.room G f5),rfl,SqL.of r6,by rw[AA];exact List.length_pos_iff.mpr ne,fun M mM least=>?_⟩
  have M0:0<M:=by
   obtain⟨s,ms,rfl⟩:=AM.mp mM
   exact rpos s ms
  have hM:∀ s∈ss,M≤Mt61.room G f5 s:=fun s m=>least _ (AM.mpr ⟨s,m,rfl⟩)
  have he6:=S6 _ _ he5
  have hlp6:=S6 _ _ hlp5
  have iss6:=IsL.same S6 _ _ iss5
  refine⟨_,rfl,lp,rfl,⟨_,SqL.of hlp6⟩,qS (K:=K) (a:=lp) (xs:=us5) (fun i σ H'=>∃ v6,σ=[some (.ref l),some (.ref dm),some (.ref lw),some (.ref de),some (.ref lp),some (.int M),v6]∧aH H H'∧H' de=some (.dK (eC G ((ss.take i).foldl (iY M) f5)))∧H' lp=some (.lst us5)∧IsL H' (ss.map bV) us5) ⟨_,rfl,T6,he6,hlp6,iss6⟩ ?_ ?_ ?_⟩
  ·rintro i σ H' hi ⟨v6,rfl,S',he',hl',is'⟩
   exact SqL.of hl'
  ·rintro i xv σ H' hx ⟨v6,rfl,S',he',hl',is'⟩
   have hil:i<us5.length:=(AC.mp hx).1
   obtain⟨st,es⟩:∃ st,ss[i]?=some st:=⟨_,AB (by omega)⟩
   obtain⟨v,ev,iv⟩:=is'.get (show (ss.map bV)[i]?=some (bV st) by rw[AH,es];rfl)
   rw[hx] at ev
   cases ev
   have ms:=wV _ (csub st (AI es))
   obtain⟨t,rfl,ot⟩:=jM iv
   obtain⟨g,mg',en,hh⟩:=pQ ms
   have v2:eS (eC G ((ss.take i).foldl (iY M) f5)) (Sum.inr st.nm)=some (.int (((ss.take i).foldl (iY M) f5) st.nm)):=by rw[← en];exact zF (f:=fun g=>V.int (((ss.take i).foldl (iY M) f5) g.nm)) GG.nd mg'
   refine⟨_,rfl,_,rfl,t,_,0,.str st.nm,rfl,rfl,SqT.of ot,aK (j:=0) rfl,de,_,rfl,.inl ⟨_,Sum.inr st.nm,.inl he',rfl,v2.symm⟩,?_⟩
   refine⟨_,rfl,t,_,3,.int st.h,rfl,rfl,SqT.of ot,aK (j:=3) rfl,_,rfl,_,_,rfl,rfl,.inl (by rcases hh with h | h <;> rw[h] <;> exact⟨by decide,by decide⟩),_,_,rfl,rfl,_,.inl ⟨_,Sum.inr st.nm,he',rfl,by rw[mX];omega,rfl⟩,?_⟩
   rw[aOL ms]
   have nlp':lp≠de:=zB hl' he' (by intro c;cases c)
   have KT:gI H' (upd H' de (.dK (eC G (iY M ((ss.take i).foldl (iY M) f5) st)))):=fun b ys e=>by
    rw[aI (fun c=>by rw[c,he'] at e;cases e)]
    exact e
   refine⟨_,rfl,S'.over nde,?_,by rw[aI nlp'];exact hl',IsL.keep KT _ _ (fA fun d m=>?_) is'⟩
   ·rw[aC,Aa,es,List.foldl_append]
    rfl
   ·obtain⟨s,_,rfl⟩:=AM.mp m
    exact fM s
  ·rintro σ H7 ⟨v6,rfl,S7,he7,hl7,is7⟩
   rw[← lss,AG (AL _)] at he7
   obtain⟨st7,va7⟩:=st5.more GG ch wV (FI M0) hM mz ns
   refine⟨_,rfl,_,rfl,_,rfl,_,rfl,_,_,_,_,l,dm,de,lw,us,V0,G,ss.foldl (iY M) f5,ws,rfl,rfl,S7 _ _ hl,IsL.same S7 _ _ ius,g40,v13,GG,rfl,.inr ⟨o,S7 _ _ hm⟩,rfl,.inl he7,rfl,S7 _ _ hlw,ns,fun lp8 us8 ss8 H8 S8 nlp8 hlp8 iss8 go8=>?_⟩
   refine⟨⟨_,lp8,us8,ss8,_,_,rfl,S7.trans S8,S8 _ _ he7,st7,hlp8,iss8,go8⟩,?_⟩
   rw[he5,S8 _ _ he7]
   show (total G - val G (aOM (eC G (ss.foldl (iY M) f5)))).toNat<(total G - val G (aOM (eC G f5))).toNat
   rw[yG fun g m=>aIW GG.nd _ m,yG fun g m=>aIW GG.nd f5 m,va7]
   have:=aJI GG st7.fits
   omega
 ·intro σ H Q Q' h hc
  obtain⟨v,e,p,xs,e2,hq,q⟩:=hc
  exact⟨v,e,p,xs,e2,hq,h _ _ q⟩
open Mt53 Mt22 MtF Mt31 Mt61
theorem aHB{H:Hp}{kvs:List (Key×V)}{cm:Cm}(h:CamKV H kvs cm)(z:Str):(eS kvs (Sum.inr z)).isSome=decide (z∈keys cm):=by
 by_cases m:z∈keys cm
 ·rw[h.some m,decide_eq_true m]
 ·rw[h.none m,decide_eq_false m]
  rfl
noncomputable def aKA(G:List Gap)(R:List Str):List Mt22.St:=(Mt61.stepsOf G).filter fun s=>!decide (s.far∈R)
noncomputable def jE(L:Int)(s:Mt22.St):Dv:=.tup [.str s.nm,.int L]
theorem nX{α:Type}{P:α→Bool}{xs:List α}{i:Nat}{x:α}(e:xs[i]?=some x):(xs.take (i+1)).filter P=(xs.take i).filter P++(if P x=true then [x] else []):=by
 rw[Aa,e,Bz]
 cases h:P x <;> simp[h]
def aLQ:Sp:=fun vs H Q _=>∃ (x y u v:V) (l df lw:Addr) (us:List V) (V0:List Str) (G:List Gap) (kvs:List (Key×V)) (cm:Cm) (ws:List Str) (L:Int),vs=[x,y,u,v]∧x=.ref l∧H l=some (.lst us)∧IsL H ((Mt61.stepsOf G).map bV) us∧G.length≤40∧V0.length≤13∧Gaps V0 G∧y=.ref df∧Rd H df (.dK kvs)∧CamKV H kvs cm∧u=.ref lw∧H lw=some (.lst (ws.map V.str))∧ws.Nodup∧(∀ z∈ws,z∈V0)∧v=.int L ∧
 ∀ (cmB:Cm) (lr:Addr) (us':List V) (H':Hp),aH H H'→H lr=none→H' lr=some (.lst us')→IsL H' ((eR G (keys cm) (keys cmB)).map (jE L)) us'→CameG ws (aKA G (keys cm)) cmB→uJ (aKA G (keys cm)) cmB cmB.length→Q (.ref lr) H'
theorem aVE:∀ vs H Q E,aLQ vs H Q E→vs.length=4:=fun vs H Q E ⟨x,y,u,v,l,df,lw,us,V0,G,kvs,cm,ws,L,e,_⟩=>by rw[e];rfl
theorem rL(T:Txt K mg C):Fc P w K mg base 2 "works_round" ["steps","flowed","fields","height"] aLQ:=by
 have G_p_spread:Fc P w K mg base 1 "spread" ["starts","steps"] rC:=tM T
 refine T.d_p_works_round.fc jO aVE (fun f cdv A outer s H vs Q E hr h=>?_)
 obtain⟨x,y,u,v,l,df,lw,us,V0,G,kvs,cm,ws,lv,rfl,rfl,hl,ius,g40,v13,GG,rfl,hf,ck,rfl,hlw,ndw,subw,rfl,q⟩:=h
 have big:=bY
 have hu:=lA hr
 have lus:=aIP ius
 have sl:=nG G
 rw[AA,sl] at lus
 refine⟨_,(@aE _ _ _ _ _ (@aV _ _ (4) _ _ _ _ jO.nd rfl (Or.inr rfl) (@bE _ _ _ _ _ _ _ _ _ _ G_p_spread (hr.mono (by decide)) (@aA _ _ _ _ _ (pv 2) (@aA _ _ _ _ _ (@cD _ _ _ _ _ _ _ _ _ _ _ ["step","flowed"] 1 [1] rfl (@bP _ _ _ _ (pv 0)) (fun R=>@bA _ _ (0) _ (show Aw (["step","flowed"]:List Str) by decide +kernel) rfl (Or.inl rfl) (by trivial)) (@aW _ _ (by decide)) (fun R=>@fW _ _ _ (@aBF _ _ _ _ _ _ (@yX _ _ _ _ _ hu (@aZ _ _ _ _ _ _ _ (@aO _ (K) rfl) (pv 0) aD (fun _ _=>rfl)) (pv 1)) (by first | exact nobehind _ (by decide) (by decide) | rfl))) (fun R=>(pv 0)) (by rfl) (by rfl) (by rfl) (by rfl) (by rfl) (by rfl) (by rfl) (by intro _;rfl)) aB (by rfl)) (by rfl)) (by rfl) (by decide) (by rfl) (by rfl)) (by rfl) (by trivial)) (@aG _ _ _ (@aT _ _ _ _ (@cD _ _ _ _ _ _ _ _ _ _ _ ["step","flowed","height","behind"] 1 [1,3,4] rfl (@bP _ _ _ _ (pv 0)) (fun R=>@bA _ _ (0) _ (show Aw (["step","flowed","height","behind"]:List Str) by decide +kernel) rfl (Or.inl rfl) (by trivial)) (@aW _ _ (by decide)) (fun R=>@fW _ _ _ (@PW.pt _ _ _ (@aFU _ _ _ _ _ _ _ (@aBF _ _ _ _ _ _ (@aNE _ _ _ _ _ hu (@aZ _ _ _ _ _ _ _ (@aO _ (K) rfl) (pv 0) aD (fun _ _=>rfl)) (pv 1)) (by first | exact nobehind _ (by decide) (by decide) | rfl)) (@aBE _ _ _ _ (@aBF _ _ _ _ _ _ (@aNE _ _ _ _ _ hu (@aZ _ _ _ _ _ _ _ (@aO _ (K) rfl) (pv 0) aD (fun _ _=>rfl)) (pv 3)) (by first | exact nobehind _ (by decide) (by decide) | rfl)))))) (fun R=>(@dJ _ _ _ _ _ (@aA _ _ _ _ _ (@aZ _ _ _ _ _ _ _ (@aO _ (K) rfl) (pv 0) aD (fun _ _=>rfl)) (@aA _ _ _ _ _ (pv 2) aB (by rfl)) (by rfl)))) (by rfl) (by rfl) (by rfl) (by rfl) (by rfl) (by rfl) (by rfl) (by intro _;rfl))))),?_⟩
 refine⟨_,rfl,_,rfl,l,rfl,⟨_,SqL.of hl⟩,?_⟩
 refine bH (F:=K) (xs:=us) (by omega) (fun i ys H'=>H=H'∧IsL H' ((((Mt61.stepsOf G).take i).filter fun s=>!decide (s.far∈keys cm)).map bV) ys) ⟨rfl,rfl⟩ ?_ ?_ ?_
 ·rintro i ys H' hi ⟨rfl,iy⟩
  refine⟨SqL.of hl,?_⟩
  have:=iy.length
  have:=BI (fun s:Mt22.St=>!decide (s.far∈keys cm)) ((Mt61.stepsOf G).take i)
  rw[AR] at this
  rw[AA] at *
  omega
 ·rintro i xv ys H' K1 K2 hx' ⟨rfl,iy⟩ k1 k2
  have hil:i<us.length:=(AC.mp hx').1
  obtain⟨st,es⟩:∃ st,(Mt61.stepsOf G)[i]?=some st:=⟨_,AB (by omega)⟩
  obtain⟨v,ev,iv⟩:=ius.get (show ((Mt61.stepsOf G).map bV)[i]?=some (bV st) by rw[AH,es];rfl)
  rw[hx'] at ev
  cases ev
  obtain⟨t,rfl,o⟩:=jM iv
  have et:=nX (P:=fun s:Mt22.St=>!decide (s.far∈keys cm)) es
  refine⟨_,rfl,t,_,2,.str st.far,rfl,rfl,SqT.of o,aK (j:=2) rfl,_,rfl,df,_,rfl,.inl ⟨kvs,Sum.inr st.far,hf,rfl,rfl⟩,_,rfl,?_⟩
  rw[aHB ck]
  cases hg:(!decide (st.far∈keys cm)) with
  | false =>
   rw[hg] at et
   refine bM (k2 _ ⟨rfl,?_⟩)
   rw[et]
   simpa using iy
  | true =>
   rw[hg] at et
   refine cR ⟨_,rfl,k1 _ _ ⟨rfl,?_⟩⟩
   rw[et,if_pos rfl,AT]
   exact IsL.snoc iv iy
 rintro ys H2 ⟨rfl,iy⟩
 rw[AG (by omega)] at iy
 intro l2 h2
 have S2:=aH.upd (o:=.lst ys) h2
 refine⟨_,_,rfl,lw,l2,ys,aKA G (keys cm),ws,V0,rfl,rfl,ndw,subw,S2 _ _ hlw,aC,IsL.same S2 _ _ iy,?_,v13,fun s m=>(aIZ GG (Aq.mp m).1).2,fun db cmB kvB H3 S3 ndb hdb ckB cgB opB l13=>?_⟩
 ·have:=BI (fun s:Mt22.St=>!decide (s.far∈keys cm)) (Mt61.stepsOf G)
  unfold aKA
  omega
 have T3:=S2.trans S3
 have ius3:=IsL.same T3 _ _ ius
 refine⟨_,rfl,l,rfl,⟨_,SqL.of (T3 _ _ hl)⟩,?_⟩
 refine bH (F:=K) (xs:=us) (by omega) (fun i ys H'=>aH H3 H'∧IsL H' ((((Mt61.stepsOf G).take i).filter fun s=>decide (s.near∈keys cm) && decide (s.far∈keys cmB)).map (jE lv)) ys) ⟨aH.refl _,rfl⟩ ?_ ?_ ?_
 ·rintro i ys H' hi ⟨S',iy⟩
  refine⟨SqL.of (S' _ _ (T3 _ _ hl)),?_⟩
  have:=iy.length
  have:=BI (fun s:Mt22.St=>decide (s.near∈keys cm) && decide (s.far∈keys cmB)) ((Mt61.stepsOf G).take i)
  rw[AR] at this
  rw[AA] at *
  omega
 ·rintro i xv ys H' K1 K2 hx' ⟨S',iy⟩ k1 k2
  have hil:i<us.length:=(AC.mp hx').1
  obtain⟨st,es⟩:∃ st,(Mt61.stepsOf G)[i]?=some st:=⟨_,AB (by omega)⟩
  obtain⟨v,ev,iv⟩:=(IsL.same S' _ _ ius3).get (show ((Mt61.stepsOf G).map bV)[i]?=some (bV st) by rw[AH,es];rfl)
  rw[hx'] at ev
  cases ev
  obtain⟨t,rfl,o⟩:=jM iv
  have et:=nX (P:=fun s:Mt22.St=>decide (s.near∈keys cm) && decide (s.far∈keys cmB)) es
  have no:(decide (st.near∈keys cm) && decide (st.far∈keys cmB))=false→K2 H':=fun hg=>by
   refine k2 _ ⟨S',?_⟩
   rw[et,hg]
   simpa using iy
  refine⟨_,rfl,t,_,1,.str st.near,rfl,rfl,SqT.of o,aK (j:=1) rfl,_,rfl,df,_,rfl,.inl ⟨kvs,Sum.inr st.near,qG hf (T3.trans S'),rfl,rfl⟩,_,rfl,?_⟩
  rw[aHB ck]
  cases h1:decide (st.near∈keys cm) with
  | false=>exact bM (no (by rw[h1];rfl))
  | true =>
   refine cR ?_
   refine⟨_,rfl,t,_,2,.str st.far,rfl,rfl,SqT.of o,aK (j:=2) rfl,_,rfl,db,_,rfl,.inl ⟨kvB,Sum.inr st.far,.inl (S' _ _ hdb),rfl,rfl⟩,_,rfl,?_⟩
   rw[aHB ckB]
   cases h2:decide (st.far∈keys cmB) with
   | false=>exact bM (no (by rw[h1,h2];rfl))
   | true =>
    refine cR ⟨_,rfl,t,_,0,.str st.nm,rfl,rfl,SqT.of o,aK (j:=0) rfl,_,rfl,aS rfl,fun ta hta=>k1 _ _ ⟨S'.trans (aH.upd hta),?_⟩⟩
    rw[h1,h2] at et
    rw[et,AT]
    exact IsL.snoc (show Is _ (jE lv st) (.ref ta) from⟨ta,_,rfl,aC,_,_,rfl,rfl,_,_,rfl,rfl,rfl⟩) (IsL.same (aH.upd hta) _ _ iy)
 rintro ys4 H4 ⟨S4,iy4⟩
 rw[AG (by omega)] at iy4
 intro lr hlr
 have S5:=aH.upd (o:=.lst ys4) hlr
 exact q cmB lr ys4 _ (T3.trans (S4.trans S5)) ((T3.trans S4).free hlr) aC (IsL.same S5 _ _ iy4) cgB opB
open Mt53 Mt22 MtF Mt31 Mt61
theorem aPA{zs:List Str}{S:List Mt22.St}{cm:Cm}(h:CameG zs S cm){R:List Str}(hz:∀ z∈zs,z∈R)(cl:∀ s∈S,s.near∈R→s.far∈R):∀ z∈keys cm,z∈R:=by
 have:∀ (n i:Nat) (z:Str),i<n→(keys cm)[i]?=some z→z∈R:=by
  intro n
  induction n with
  | zero=>intro i z hi;omega
  | succ n ih =>
   intro i z hi e
   unfold keys at e
   rw[AH] at e
   obtain⟨⟨z',o⟩,e',rfl⟩:=Ab.mp e
   by_cases hl:i<zs.length
   ·obtain⟨y,ey⟩:∃ y,zs[i]?=some y:=⟨_,AB hl⟩
    have:=h.first i y ey
    rw[e'] at this
    cases this
    exact hz _ (AI ey)
   ·obtain⟨s,_,ms,ef,hn⟩:=h.prev i z' o (by omega) e'
    obtain⟨j,hj⟩:=BB.mp hn
    have hjl:=(AC.mp hj).1
    unfold keys at hjl
    rw[AA,AR] at hjl
    have hj':(keys cm)[j]?=some s.near:=by
     unfold keys at hj ⊢
     rw[AH,Bn (by omega)] at hj
     rw[AH]
     exact hj
    show z'∈R
    rw[← ef]
    exact cl s ms (ih j _ (by omega) hj')
 intro z m
 obtain⟨i,hi⟩:=BB.mp m
 exact this (i+1) i z (by omega) hi
theorem aMM{V0:List Str}{G:List Gap}(GG:Gaps V0 G){f:Fl}{ws:List Str}(en:aPM G f ws){cm cmB:Cm}(cg:CameG [Mt22.sea] (wW G f) cm)(op:uJ (wW G f) cm cm.length)(cgB:CameG ws (aKA G (keys cm)) cmB)(opB:uJ (aKA G (keys cm)) cmB cmB.length):Round G f ws (keys cm) (keys cmB):=by
 obtain⟨cm1,cg1,op1,out⟩:=en
 have sub:=aPA cg (R:=keys cm1) (fun z m=>by rw[AS.mp m];exact cg1.start (AS.mpr rfl)) (mC op1)
 have wout:∀ z∈ws,z∉keys cm:=fun z m k=>out z m (sub z k)
 refine⟨cg.start (AS.mpr rfl),fun s ms hr hn=>?_,wout,fun z m=>cgB.start m,fun z m=>?_,fun s ms hf hn=>?_⟩
 ·exact mC op s (Aq.mpr ⟨ms,decide_eq_true hr⟩) hn
 ·rcases cgB.mem m with m | ⟨s,ms,rfl⟩
  ·exact wout z m
  ·have:=(Aq.mp ms).2
   simpa using this
 ·exact mC opB s (Aq.mpr ⟨ms,by simpa using hf⟩) hn
theorem aDQ{R B:List Str}(out:∀ z∈B,z∉R):∀ {G:List Gap},(G.map (·.nm)).Nodup→((eR G R B).map (·.nm)).Nodup∧∀ n∈(eR G R B).map (·.nm),n∈G.map (·.nm)
 | [],_=>⟨by simp[eR,Mt61.stepsOf],fun n m=>by simp[eR,Mt61.stepsOf] at m⟩
 | g :: G,nd=>by
  rw[AU,Aj] at nd
  obtain⟨h1,h2⟩:=aDQ out nd.2
  have e:eR (g :: G) R B=([up g,dn g].filter fun s=>decide (s.near∈R) && decide (s.far∈B))++eR G R B:=by
   unfold eR Mt61.stepsOf
   rw[Du,Bz]
  have hf:([up g,dn g].filter fun s=>decide (s.near∈R) && decide (s.far∈B))=[]∨∃ s,s.nm=g.nm∧([up g,dn g].filter fun s=>decide (s.near∈R) && decide (s.far∈B))=[s]:=by
   rw[DU]
   cases hu:(decide ((up g).near∈R) && decide ((up g).far∈B)) with
   | true =>
    rw[AV] at hu
    have ub:g.b∈B:=of_decide_eq_true hu.2
    have:(decide ((dn g).near∈R) && decide ((dn g).far∈B))=false:=by
     have:(dn g).near∉R:=out _ ub
     rw[decide_eq_false this]
     rfl
    rw[DU,this]
    exact .inr ⟨up g,rfl,rfl⟩
   | false =>
    rw[DU]
    cases hd:(decide ((dn g).near∈R) && decide ((dn g).far∈B)) with
    | true=>exact .inr ⟨dn g,rfl,rfl⟩
    | false=>exact .inl rfl
  rw[e]
  rcases hf with hf | ⟨s,en,hf⟩
  ·rw[hf,DY]
   exact⟨h1,fun n m=>AJ _ (h2 n m)⟩
  ·rw[hf]
   refine⟨?_,fun n m=>?_⟩
   ·rw[AT,AU,Cg,EU,Aj,en]
    exact⟨fun m=>nd.1 (h2 _ m),h1⟩
   ·rw[AT] at m
    rcases Ar.mp m with m | m
    ·rw[AU,Cg,AS,en] at m
     rw[m]
     exact AO
    ·exact AJ _ (h2 n m)
theorem yT{G:List Gap}{R B:List Str}:∀ s∈eR G R B,s∈Mt61.stepsOf G:=fun s m=>(Aq.mp m).1
theorem aEV{fs ds:List Dv}{zs:List Str}(gd:GoodD zs ds){L:Int}{V0:List Str}(GG:Gaps V0 (aP fs ds L)){s:Mt22.St}(m:s∈Mt61.stepsOf (aP fs ds L)):aEW ds (jE L s)=qV (aP fs ds L) s.nm∧s.nm∈ds.map aL∧gC ds s.nm≤L:=by
 obtain⟨g,mg,en,_⟩:=pQ m
 obtain⟨d,md,hg,rfl,ed⟩:=aEO gd mg
 have ec:=xF gd.nd md
 have er:=aIC gd.nd md
 have cap:=mY GG mg
 rw[← en,← ed]
 rw[← ed] at cap
 refine⟨?_,AM.mpr ⟨d,md,rfl⟩,?_⟩
 ·show vW ds s.nm*(L - gC ds s.nm)=_
  rw[← en,← ed,cap,ec,er]
  obtain⟨n,a,b,c,r,sl,rfl,_⟩:=bU (gd.all d md)
  rfl
 ·rw[ec]
  obtain⟨n,a,b,c,r,sl,rfl,_⟩:=bU (gd.all d md)
  have h1:c<L:=of_decide_eq_true (An.mp (show (decide (c<L) && (uE fs L a && uE fs L b))=true from hg)).1
  show c≤L
  omega
theorem aFG{fs ds:List Dv}{zs:List Str}(gd:GoodD zs ds){L:Int}(hL:hgt L=true){V0:List Str}(GG:Gaps V0 (aP fs ds L)){R B:List Str}(out:∀ z∈B,z∉R):GoodW ds ((eR (aP fs ds L) R B).map (jE L)):=by
 refine⟨fun d m=>?_,?_⟩
 ·obtain⟨s,ms,rfl⟩:=AM.mp m
  obtain⟨_,h2,h3⟩:=aEV gd GG (yT s ms)
  show (decide (s.nm∈ds.map aL) && (hgt L && decide (gC ds s.nm≤L)))=true
  rw[decide_eq_true h2,hL,decide_eq_true h3]
  rfl
 ·rw[Ai]
  exact (aDQ out GG.nd).1
theorem aFH{fs ds:List Dv}{zs:List Str}(gd:GoodD zs ds){L:Int}{V0:List Str}(GG:Gaps V0 (aP fs ds L)){f:Fl}{ws R B:List Str}(st:Stream V0 (aP fs ds L) ws f)(r:Round (aP fs ds L) f ws R B):aCG ds ((eR (aP fs ds L) R B).map (jE L))=val (aP fs ds L) f:=by
 rw[← aFT GG st r]
 unfold aCG
 rw[Ai]
 show sm _ _=_
 exact eU fun s m=>(aEV gd GG (yT s m)).1
theorem aJW{G:List Gap}{R B:List Str}:(eR G R B).length≤2*G.length:=by
 rw[← nG]
 exact BI _ _
noncomputable def aTH(f:Fl)(g:Gap):Dv:=.tup [.str g.nm,.int (f g.nm)]
noncomputable def aPJ(G:List Gap)(f:Fl):List Dv:=(G.filter fun g=>!decide (f g.nm=0)).map (aTH f)
def vA(C:Addr):Sp:=sp3 fun x y u H Q=>∃ (p l:Addr) (fs ds:List Dv) (zs:List Str) (L:Int),x=.ref p∧LandAt C H p fs ds∧y=.ref l∧H l=some (.lst (zs.map V.str))∧1≤zs.length∧zs.Nodup∧(∀ z∈zs,z∈fs.map aL)∧u=.int L∧hgt L=true ∧
 ∀ (t lk la:Addr) (uk ua:List V) (f:Fl) (R B:List Str) (H':Hp),aH H H'→H t=none→H lk=none→H la=none→lk≠la→H' t=some (.tup [.int (val (aP fs ds L) f),.ref lk,.ref la])→H' lk=some (.lst uk)→IsL H' ((eR (aP fs ds L) R B).map (jE L)) uk→H' la=some (.lst ua)→IsL H' (aPJ (aP fs ds L) f) ua→Stream ("sea" :: fs.map aL) (aP fs ds L) zs f→Round (aP fs ds L) f zs R B→Q (.ref t) H'
theorem tO(T:Txt K mg C):Fc P w K mg base 6 "fewest" ["land","fields","height"] (vA C):=by
 have G_p_check_wish:Fc P w K mg base 3 "check_wish" ["land","fields","height"] (pT C):=hJ T
 have G_p_gap_coins:Fc P w K mg base 4 "gap_coins" ["land","height"] (aLV C):=wD T
 have G_p_steps_over:Fc P w K mg base 2 "steps_over" ["land","names"] (aCY C):=uB T
 have G_p_fullest_stream:Fc P w K mg base 4 "fullest_stream" ["steps","most","fields"] aLW:=oA T
 have G_p_reached:Fc P w K mg base 2 "reached" ["steps","most","stream"] rD:=qK T
 have G_p_works_round:Fc P w K mg base 2 "works_round" ["steps","flowed","fields","height"] aLQ:=rL T
 have G_p_coins_of:Fc P w K mg base 5 "coins_of" ["land","works"] (yL C):=xX T
 refine T.d_p_fewest.fc fN rR (fun f cdv A outer s H vs Q E hr h=>?_)
 obtain⟨x,y,u,rfl,p,l,fs,ds,zs,lv,rfl,L,rfl,hl,l1,nd,sub,rfl,hL,q⟩:=h
 have big:=bY
 have hu:=lA hr
 have gf:=(cJ L).1
 have gd:=(cJ L).2
 have d2:=gd.l2
 have f2:=gf.l2
 have GG:=nU gf gd lv
 have gl:=qR fs ds lv
 have v13:(("sea":Str) :: fs.map aL).length≤13:=by rw[Af,AA];omega
 have ns:Mt22.sea∉zs:=fun m=>by
  obtain⟨d,md,e⟩:=AM.mp (sub _ m)
  obtain⟨z,g,u,rfl,hz,_⟩:=bK (gf.all d md)
  exact aAU hz e
 refine⟨_,(@aE _ _ _ _ _ (@fC _ _ _ _ (@bE _ _ _ _ _ _ _ _ _ _ G_p_check_wish (hr.mono (by decide)) (@aA _ _ _ _ _ (pv 0) (@aA _ _ _ _ _ (pv 1) (@aA _ _ _ _ _ (pv 2) aB (by rfl)) (by rfl)) (by rfl)) (by rfl) (by decide) (by rfl) (by rfl)) (by rfl)) (@aE _ _ _ _ _ (@aV _ _ (3) _ _ _ _ fN.nd rfl (Or.inl rfl) (@bE _ _ _ _ _ _ _ _ _ _ G_p_gap_coins (hr.mono (by decide)) (@aA _ _ _ _ _ (pv 0) (@aA _ _ _ _ _ (pv 2) aB (by rfl)) (by rfl)) (by rfl) (by decide) (by rfl) (by rfl)) (by rfl) (by trivial)) (@aE _ _ _ _ _ (@aV _ _ (4) _ _ _ _ fN.nd rfl (Or.inl rfl) (@bE _ _ _ _ _ _ _ _ _ _ G_p_steps_over (hr.mono (by decide)) (@aA _ _ _ _ _ (pv 0) (@aA _ _ _ _ _ (pv 3) aB (by rfl)) (by rfl)) (by rfl) (by decide) (by rfl) (by rfl)) (by rfl) (by trivial)) (@aE _ _ _ _ _ (@aV _ _ (5) _ _ _ _ fN.nd rfl (Or.inr rfl) (@bE _ _ _ _ _ _ _ _ _ _ G_p_fullest_stream (hr.mono (by decide)) (@aA _ _ _ _ _ (pv 4) (@aA _ _ _ _ _ (pv 3) (@aA _ _ _ _ _ (pv 1) aB (by rfl)) (by rfl)) (by rfl)) (by rfl) (by decide) (by rfl) (by rfl)) (by rfl) (by trivial)) (@aE _ _ _ _ _ (@aV _ _ (6) _ _ _ _ fN.nd rfl (Or.inl rfl) (@bE _ _ _ _ _ _ _ _ _ _ G_p_works_round (hr.mono (by decide)) (@aA _ _ _ _ _ (pv 4) (@aA _ _ _ _ _ (@bE _ _ _ _ _ _ _ _ _ _ G_p_reached (hr.mono (by decide)) (@aA _ _ _ _ _ (pv 4) (@aA _ _ _ _ _ (pv 3) (@aA _ _ _ _ _ (pv 5) aB (by rfl)) (by rfl)) (by rfl)) (by rfl) (by decide) (by rfl) (by rfl)) (@aA _ _ _ _ _ (pv 1) (@aA _ _ _ _ _ (pv 2) aB (by rfl)) (by rfl)) (by rfl)) (by rfl)) (by rfl) (by decide) (by rfl) (by rfl)) (by rfl) (by trivial)) (@aE _ _ _ _ _ (@iQ _ (7) _ _ _ _ _ _ _ _ _ _ _ _ _ fN.nd rfl ["name","stream"] 1 [5] rfl (@aBH _ _ _ _ (pv 5)) (fun R=>@bA _ _ (0) _ (show Aw (["name","stream"]:List Str) by decide +kernel) rfl (Or.inl rfl) (by trivial)) (@aW _ _ (by decide)) (fun R=>@fW _ _ _ (@cB _ _ _ _ _ _ _ _ mD (@fX _ _ _ _ _ _ hu (pv 1) (pv 0) (fun _ _=>rfl)) aD (@bT _ _ (by decide) (by decide)))) (fun R=>(@dJ _ _ _ _ _ (@aA _ _ _ _ _ (pv 0) (@aA _ _ _ _ _ (@fX _ _ _ _ _ _ hu (pv 1) (pv 0) (fun _ _=>rfl)) aB (by rfl)) (by rfl)))) (by exact Or.inl rfl) (by trivial) (by rfl) (by rfl) (by rfl) (by rfl) (by rfl) (by rfl) (by rfl) (by rfl) (by intro _;rfl)) (@aG _ _ _ (@aT _ _ _ _ (@dJ _ _ _ _ _ (@aA _ _ _ _ _ (@bE _ _ _ _ _ _ _ _ _ _ G_p_coins_of (hr.mono (by decide)) (@aA _ _ _ _ _ (pv 0) (@aA _ _ _ _ _ (pv 6) aB (by rfl)) (by rfl)) (by rfl) (by decide) (by rfl) (by rfl)) (@aA _ _ _ _ _ (pv 6) (@aA _ _ _ _ _ (pv 7) aB (by rfl)) (by rfl)) (by rfl))))))))))),?_⟩
 refine⟨_,rfl,_,rfl,_,rfl,_,_,_,rfl,p,l,fs,ds,zs,lv,rfl,L,rfl,hl,l1,nd,sub,rfl,hL,fun H1 S1=>?_⟩
 refine⟨_,rfl,_,rfl,_,_,rfl,p,fs,ds,lv,rfl,L.same S1,rfl,fun dm H2 S2 nm2 hm2=>?_⟩
 have T2:=S1.trans S2
 refine⟨_,rfl,_,rfl,_,_,rfl,p,dm,fs,ds,lv,rfl,L.same T2,rfl,hm2,fun o ls us H3 S3 nls hls ius=>?_⟩
 have nmH:H dm=none:=S1.free nm2
 have T3:aH H H3:=fun b u e=>S3 _ _ (by rw[aI (fun c=>by rw[c,nmH] at e;cases e)];exact T2 _ _ e)
 have hm3:H3 dm=some (.frz o (.dK (dP (aP fs ds lv)))):=S3 _ _ aC
 refine⟨_,rfl,_,rfl,_,rfl,_,_,_,rfl,ls,dm,l,o,us,"sea" :: fs.map aL,aP fs ds lv,zs,rfl,hls,ius,by omega,v13,GG,rfl,hm3,rfl,T3 _ _ hl,ns,fun de fl H4 S4 nde hde st en=>?_⟩
 have T4:=T3.trans S4
 have ius4:=IsL.same S4 _ _ ius
 refine⟨_,rfl,_,rfl,_,rfl,_,rfl,_,_,_,rfl,ls,dm,de,us,"sea" :: fs.map aL,aP fs ds lv,fl,rfl,S4 _ _ hls,ius4,by omega,v13,GG,rfl,.inr ⟨o,S4 _ _ hm3⟩,rfl,.inl hde,fun df cm kvs H5 S5 ndf hdf ck cg op l13=>?_⟩
 have T5:=T4.trans S5
 refine⟨_,rfl,_,rfl,_,_,_,_,ls,df,l,us,"sea" :: fs.map aL,aP fs ds lv,kvs,cm,zs,lv,rfl,rfl,(S4.trans S5) _ _ hls,IsL.same S5 _ _ ius4,by omega,v13,GG,rfl,.inl hdf,ck,rfl,T5 _ _ hl,nd,fun z m=>AJ _ (sub z m),rfl,fun cmB lk uk H6 S6 nlk hlk iuk cgB opB=>?_⟩
 have rd:=aMM GG en cg op cgB opB
 have T6:=T5.trans S6
 have hde6:=(S5.trans S6) _ _ hde
 have ndeH:H de=none:=T3.free nde
 refine⟨_,rfl,de,_,rfl,hde6,fun o2=>?_⟩
 have T7:aH H (upd H6 de (.frz o2 (.dK (eC (aP fs ds lv) fl)))):=T6.over ndeH
 have K7:gI H6 (upd H6 de (.frz o2 (.dK (eC (aP fs ds lv) fl)))):=fun b ys e=>by
  rw[aI (fun c=>by rw[c,hde6] at e;cases e)]
  exact e
 have iuk7:IsL (upd H6 de (.frz o2 (.dK (eC (aP fs ds lv) fl)))) ((eR (aP fs ds lv) (keys cm) (keys cmB)).map (jE lv)) uk:=IsL.keep K7 _ _ (fA fun d m=>by obtain⟨s,_,rfl⟩:=AM.mp m;rfl) iuk
 have hlk7:upd H6 de (.frz o2 (.dK (eC (aP fs ds lv) fl))) lk=some (.lst uk):=by rw[aI (zB hlk hde6 (by intro c;cases c))];exact hlk
 have dF:upd H6 de (.frz o2 (.dK (eC (aP fs ds lv) fl))) de=some (.frz o2 (.dK (eC (aP fs ds lv) fl))):=aC
 generalize upd H6 de (.frz o2 (.dK (eC (aP fs ds lv) fl)))=H7 at T7 iuk7 hlk7 dF
 refine sI (by rw[mX];omega) (fun i ys H'=>aH H7 H'∧IsL H' (aPJ ((aP fs ds lv).take i) fl) ys) ⟨aH.refl _,rfl⟩ ?_ ?_ ?_
 ·rintro i ys H' hi ⟨S',iy⟩
  refine⟨S' _ _ dF,?_⟩
  have:=iy.length
  unfold aPJ at this
  have:=BI (fun g:Gap=>!decide (fl g.nm=0)) ((aP fs ds lv).take i)
  rw[AR] at this
  rw[AA] at *
  omega
 ·rintro i kv ys H' K1 K2 hk ⟨S',iy⟩ k1 k2
  unfold eC at hk
  rw[AH] at hk
  obtain⟨g,eg,ekv⟩:=Ab.mp hk
  have mg':=AI eg
  have ek:kV kv.1=V.str g.nm:=by rw[← ekv];rfl
  rw[ek]
  have v2:eS (eC (aP fs ds lv) fl) (Sum.inr g.nm)=some (.int (fl g.nm)):=zF (f:=fun g=>V.int (fl g.nm)) GG.nd mg'
  have et:=nX (P:=fun g:Gap=>!decide (fl g.nm=0)) eg
  refine⟨_,rfl,_,rfl,de,_,rfl,.inl ⟨_,Sum.inr g.nm,.inr ⟨o2,S' _ _ dF⟩,rfl,v2.symm⟩,rfl,_,rfl,?_⟩
  rw[gR]
  cases hg:(!decide (fl g.nm=0)) with
  | false =>
   rw[hg] at et
   refine bM (k2 _ ⟨S',?_⟩)
   unfold aPJ at iy ⊢
   rw[et]
   simpa using iy
  | true =>
   rw[hg] at et
   refine cR ⟨_,rfl,_,rfl,_,rfl,de,_,rfl,.inl ⟨_,Sum.inr g.nm,.inr ⟨o2,S' _ _ dF⟩,rfl,v2.symm⟩,aS rfl,fun ta hta=>k1 _ _ ⟨S'.trans (aH.upd hta),?_⟩⟩
   unfold aPJ
   rw[et,if_pos rfl,AT]
   exact IsL.snoc (show Is _ (aTH fl g) (.ref ta) from⟨ta,_,rfl,aC,_,_,rfl,rfl,_,_,rfl,rfl,rfl⟩) (IsL.same (aH.upd hta) _ _ iy)
 rintro ua H8 ⟨S8,iua⟩
 rw[mX,AG (AL _)] at iua
 intro la hla
 have S9:=aH.upd (o:=.lst ua) hla
 have r9:upd H8 la (.lst ua) la=some (.lst ua):=aC
 have T9:=T7.trans (S8.trans S9)
 have nla:=(T7.trans S8).free hla
 have U9:=S8.trans S9
 have iua9:=IsL.same S9 _ _ iua
 have nlka:lk≠la:=aN (S8 _ _ hlk7) hla
 generalize upd H8 la (.lst ua)=H9 at S9 r9 T9 U9 iua9
 have iuk9:=IsL.same U9 _ _ iuk7
 have hlk9:=U9 _ _ hlk7
 have rl:=aJW (G:=aP fs ds lv) (R:=keys cm) (B:=keys cmB)
 refine⟨_,rfl,_,rfl,_,_,rfl,p,fs,ds,(eR (aP fs ds lv) (keys cm) (keys cmB)).map (jE lv),rfl,L.same T9,⟨lk,uk,rfl,hlk9,iuk9⟩,by rw[AA];omega,aFG gd hL GG rd.bout,_,rfl,_,rfl,aS rfl,fun t ht=>?_⟩
 have S10:=aH.upd (o:=.tup [.int (aCG ds ((eR (aP fs ds lv) (keys cm) (keys cmB)).map (jE lv))),.ref lk,.ref la]) ht
 refine q t lk la uk ua fl (keys cm) (keys cmB) _ (T9.trans S10) (T9.free ht) (T5.free nlk) nla nlka ?_ (S10 _ _ hlk9) (IsL.same S10 _ _ iuk9) (S10 _ _ r9) (IsL.same S10 _ _ iua9) st rd
 rw[aC,aFH gd GG st rd]
open Mt53 Mt22 MtF Mt31 Mt61
theorem aGH{V0:List Str}{G:List Gap}(GG:Gaps V0 G):fS G [] 0:=by
 refine⟨⟨fun _=>false,rfl,fun z m=>(nomatch m),fH fun g _=>if_pos rfl⟩,fun X _ _=>?_⟩
 have:sm G (fun _=>(0:Int))≤sm G (oU X):=vC fun g m=>by
  have:=GG.cap g m
  unfold oU
  split <;> omega
 rw[fH fun _ _=>rfl] at this
 exact this
def aHV:Sp:=sp1 fun x H Q=>∃ L:Int,x=.int L∧hgt L=true∧Q (.int 0) H
theorem qM(T:Txt K mg C):Fc P w K mg base 3 "cost_of_none" ["height"] aHV:=by
 have G_p_is_height:Fc P w K mg base 2 "is_height" ["thing"] gT:=dE T
 refine T.d_p_cost_of_none.fc pV mL (fun f cdv A outer s H vs Q E hr h=>?_)
 obtain⟨x,rfl,lv,rfl,hL,q⟩:=h
 refine⟨_,(@aE _ _ _ _ _ (@dX _ _ _ _ _ _ _ _ (@dR _ _ _ _ (@dI _ _ _ (@bE _ _ _ _ _ _ _ _ _ _ G_p_is_height (hr.mono (by decide)) (@aA _ _ _ _ _ (pv 0) aB (by rfl)) (by rfl) (by decide) (by rfl) (by rfl)) (by intro _;rfl))) (@aG _ _ _ jS) bW) (@aG _ _ _ (@aT _ _ _ _ aD))),?_⟩
 refine⟨_,rfl,_,rfl,.int lv,rfl,_,rfl,?_⟩
 rw[show dZ (.int lv)=true from hL]
 exact bM q
def aLZ(C:Addr):Sp:=sp3 fun x y u H Q=>∃ (p l:Addr) (fs ds:List Dv) (zs:List Str) (L:Int),x=.ref p∧LandAt C H p fs ds∧y=.ref l∧H l=some (.lst (zs.map V.str))∧zs.Nodup∧(∀ z∈zs,z∈fs.map aL)∧u=.int L∧hgt L=true ∧
 ∀ (c:Int) (H':Hp),aH H H'→fS (aP fs ds L) zs c→Q (.int c) H'
theorem aKD(T:Txt K mg C):Fc P w K mg base 7 "cost" ["land","fields","height"] (aLZ C):=by
 have G_p_cost_of_none:Fc P w K mg base 3 "cost_of_none" ["height"] aHV:=qM T
 have G_p_fewest:Fc P w K mg base 6 "fewest" ["land","fields","height"] (vA C):=tO T
 refine T.d_p_cost.fc aJV rR (fun f cdv A outer s H vs Q E hr h=>?_)
 obtain⟨x,y,u,rfl,p,l,fs,ds,zs,lv,rfl,L,rfl,hl,nd,sub,rfl,hL,q⟩:=h
 have gf:=(cJ L).1
 have gd:=(cJ L).2
 have GG:=nU gf gd lv
 refine⟨_,(@aE _ _ _ _ _ (@dX _ _ _ _ _ _ _ _ (@PW.pt _ _ _ (@aFU _ _ _ _ _ _ _ (@dI _ _ _ (@aQ _ _ _ _ _ _ _ _ _ (@dQ _ (K) rfl) rfl T.n_isinstance bO (@aA _ _ _ _ _ (pv 1) (@aA _ _ _ _ _ (@qI _ _ _ _ T.n_list dU (by rfl) (by decide) (by decide)) aB (by rfl)) (by rfl)) (by decide) (by decide) (by rfl) (by rfl)) (by intro _;rfl)) (@aBE _ _ _ _ (@cB _ _ _ _ _ _ _ _ kY (@aQ _ _ _ _ _ _ _ _ _ (@aY _ (K) rfl) rfl T.n_len bG (@aA _ _ _ _ _ (pv 1) aB (by rfl)) (by decide) (by decide) (by rfl) (by rfl)) aD (@bT _ _ (by decide) (by decide)))))) (@aG _ _ _ (@aT _ _ _ _ (@bE _ _ _ _ _ _ _ _ _ _ G_p_cost_of_none (hr.mono (by decide)) (@aA _ _ _ _ _ (pv 2) aB (by rfl)) (by rfl) (by decide) (by rfl) (by rfl)))) bW) (@aG _ _ _ (@aT _ _ _ _ (@aZ _ _ _ _ _ _ _ (@aO _ (K) rfl) (@bE _ _ _ _ _ _ _ _ _ _ G_p_fewest (hr.mono (by decide)) (@aA _ _ _ _ _ (pv 0) (@aA _ _ _ _ _ (pv 1) (@aA _ _ _ _ _ (pv 2) aB (by rfl)) (by rfl)) (by rfl)) (by rfl) (by decide) (by rfl) (by rfl)) aD (fun _ _=>rfl))))),?_⟩
 refine⟨_,rfl,_,_,_,_,_,rfl,rfl,TyOf.lst hl,jV _ _,_,rfl,?_⟩
 refine cR ?_
 refine⟨_,rfl,l,_,rfl,.inl (SqL.of hl),rfl,_,rfl,?_⟩
 cases zs with
 | nil =>
  show (if true=true then _ else _)
  exact cR ⟨_,rfl,_,rfl,lv,rfl,hL,q 0 H (aH.refl _) (aGH GG)⟩
 | cons z zr =>
  rw[decide_eq_false (fun e=>by have:=V.int.inj e;rw[AA,Af] at this;omega)]
  refine bM ?_
  refine⟨_,rfl,_,rfl,_,rfl,_,_,_,rfl,p,l,fs,ds,z :: zr,lv,rfl,L,rfl,hl,by rw[Af];omega,nd,sub,rfl,hL,fun t lk la uk ua f' R B H' S' nt nlk nla nka ht hk ik ha ia st rd=>?_⟩
  exact⟨t,_,0,_,rfl,rfl,SqT.of ht,aK (j:=0) rfl,q _ H' S' (tH GG st rd)⟩
open Mt53 Mt22 MtF Mt31 Mt61
noncomputable def aZF:Str:=("lists_of_places":Str)++".<locals>."++"<lambda>"
abbrev qZ (Tb:Addr) (H:Hp):Prop:=kE Tb ⟨187,29,187,59⟩ aZF H
def aHS(Tb:Addr):Sp:=sp1 fun x H Q=>∃ n:Nat,x=.int n∧1≤n∧n≤8∧qZ Tb H ∧
 ∀ (D:Addr) (ps:List (Addr×List Int)) (H':Hp),eE Tb H H'→qZ Tb H'→H' D=some (.lst (ps.map fun p=>V.ref p.1))→iX H' ps→(∀ p∈ps,H p.1=none)→ps.map (·.2)=xS n→Q (.ref D) H'
theorem nxσ{f:L2.St→Hp→Prop}{σ σ':L2.St}{H:Hp}(e:σ=σ')(h:f σ' H):f σ H:=e▸h
theorem gσ{i:Nat}{v:V}{σ σ':L2.St}{H:Hp}{Q:L2.St→Hp→Prop}(e:σ.set i (some v)=σ')(h:Q σ' H):wU i v σ H Q:=by
 unfold wU
 rw[e]
 exact h
theorem tR{H:Hp}:∀ {ns:List Int} {xs:List V},IsL H (ns.map Dv.int) xs→xs=ns.map V.int
 | [],xs,h=>h
 | n :: ns,xs,h=>by
  obtain⟨v,vs,rfl,e,r⟩:=h
  cases (show v=.int n from e)
  rw[tR r]
  rfl
theorem aFZ(T:Txt K mg C){c Tb:Addr}(B:TabB K mg base "lists_of_places" c Tb):Fc P w K mg base 5 "lists_of_places" ["count"] (aHS Tb):=by
 refine T.d_p_lists_of_places.fcC B dM mL (fun f A outer s H vs Q E hr h=>?_)
 obtain⟨x,rfl,n,rfl,n1,n4,tab,q⟩:=h
 have big:=bY
 have KB:aWK (aWN (aCV (tCB (fun xs H Q=>∃ a ys,xs=[.ref a]∧(SqL K H a ys∨SqT K H a ys)∧Q (.int ys.length) H) (aCV (aPS 0) aJN)) (aCV (aPS 0) aJN))):=fun a ns H Q ea q=>⟨_,rfl,a,_,rfl,.inl (SqL.of ea),_,rfl,aS rfl,fun t nt=>q t _ (aH.upd nt) (by rw[aC,AA])⟩
 refine⟨_,(@aE _ _ _ _ _ (@aV _ _ (1) _ _ _ _ dM.nd rfl (Or.inl rfl) (@cX _ _ _ _ (@aA _ _ _ _ _ (@cX _ _ _ _ aB) aB (by rfl))) (by rfl) (by trivial)) (@aE _ _ _ _ _ (@gK _ _ _ _ _ _ _ _ BG rfl (@iE _ _ _ _ _ _ rfl T.n_range (@aA _ _ _ _ _ (pv 0) aB (by rfl)) (by rfl)) (@bA _ _ (2) _ dM.nd rfl (Or.inr rfl) (by trivial)) (@aG _ _ _ (@aV _ _ (1) _ _ _ _ dM.nd rfl (Or.inl rfl) (@aM _ _ _ _ _ _ _ _ pH (pv 1) (@cD _ _ _ _ _ _ _ _ _ _ _ ["some","place"] 1 [2] rfl (@bP _ _ _ _ (pv 1)) (fun R=>@bA _ _ (0) _ (show Aw (["some","place"]:List Str) by decide +kernel) rfl (Or.inl rfl) (by trivial)) (@aW _ _ (by decide)) (fun R=>bZ) (fun R=>(@aM _ _ _ _ _ _ _ _ pH (pv 0) (@cX _ _ _ _ (@aA _ _ _ _ _ (pv 1) aB (by rfl))))) (by rfl) (by rfl) (by rfl) (by rfl) (by rfl) (by rfl) (by rfl) (by intro _;rfl))) (by rfl) (by trivial))) (by intro _;rfl)) (@aG _ _ _ (@aT _ _ _ _ (@aNB _ _ _ _ _ _ _ _ _ _ _ _ _ (0) _ (hr.mono (by decide)) rfl T.n_sorted (pv 1) (@aUU _ _ _ _ _ _ _ _ _ B rfl rfl rfl rfl) ⟨rfl,rfl,rfl,by decide +kernel,rfl,by decide +kernel,by decide +kernel⟩ (fun _ _ _ _=>rfl) (fun _ _ _ _ _ _=>(dJ (aA (aQ (aY (K:=K) rfl) rfl T.n_len bG (aA (pv 0) aB)) (aA (pv 0) aB)))) KB (by rfl) (by rfl)))))),?_⟩
 refine⟨aS rfl,fun a0 m0=>?_⟩
 have S0:=aH.upd (o:=.lst []) m0
 have r0:upd H a0 (.lst []) a0=some (.lst []):=aC
 generalize upd H a0 (.lst [])=H0 at S0 r0
 refine⟨aS rfl,fun l0 m1=>?_⟩
 have S1:=aH.upd (o:=.lst [.ref a0]) m1
 have r1:upd H0 l0 (.lst [.ref a0]) l0=some (.lst [.ref a0]):=aC
 have i1:IsL (upd H0 l0 (.lst [.ref a0])) ((eQ 0).map fun ns=>Dv.lst (ns.map Dv.int)) [.ref a0]:=⟨_,_,rfl,⟨a0,_,rfl,S1 _ _ r0,rfl⟩,rfl⟩
 generalize upd H0 l0 (.lst [.ref a0])=H1 at S1 r1 i1
 have T1:=S0.trans S1
 refine gσ (σ':=[some (.int n),some (.ref l0),none]) rfl ?_
 refine⟨_,rfl,n,rfl,by omega,by omega,gM (n:=n) (fun i σ H'=>∃ (l:Addr) (us:List V) (v2:Option V),σ=[some (.int n),some (.ref l),v2]∧aH H1 H'∧H' l=some (.lst us)∧IsL H' ((eQ i).map fun ns=>Dv.lst (ns.map Dv.int)) us∧∀ v∈us,∃ a,v=.ref a∧H a=none) ⟨l0,[.ref a0],_,rfl,aH.refl _,r1,i1,fun v m=>⟨a0,AS.mp m,m0⟩⟩ ?_ ?_⟩
 ·rintro i σ H' hi ⟨l,us,v2,rfl,S',hl,ic,fr⟩
  have cl:(eQ i).length≤256:=by
   rw[jL]
   have:2 ^ i≤2 ^ 8:=CT (by decide) (by omega)
   omega
  have il:∀ ns∈eQ i,ns.length≤8:=fun ns m=>by have:=kF i ns m;omega
  have es:eQ (i+1)=eQ i++(eQ i).map (·++[(i:Int)]):=rfl
  rw[es]
  generalize eQ i=cs at ic cl il
  have luc:=ic.length
  rw[AA] at luc
  refine⟨_,rfl,_,rfl,l,rfl,⟨_,SqL.of hl⟩,?_⟩
  refine bH (F:=K) (xs:=us) (by omega) (fun j ys H''=>aH H' H''∧IsL H'' ((cs.take j).map fun ns=>Dv.lst ((ns++[(i:Int)]).map Dv.int)) ys∧∀ v∈ys,∃ a,v=.ref a∧H a=none) ⟨aH.refl _,rfl,fun _ m=>nomatch m⟩ ?_ ?_ ?_
  ·rintro j ys H'' hj ⟨S2,iy,_⟩
   refine⟨SqL.of (S2 _ _ hl),?_⟩
   have:=iy.length
   rw[AA,AR] at this
   omega
  ·rintro j xv ys H'' K1 K2 hx2 ⟨S2,iy,fy⟩ k1 k2
   have hjl:j<us.length:=(AC.mp hx2).1
   obtain⟨ns,ec⟩:∃ c,cs[j]?=some c:=⟨_,AB (by omega)⟩
   obtain⟨v,ev,iv⟩:=(IsL.same S2 _ _ ic).get (show (cs.map fun ns=>Dv.lst (ns.map Dv.int))[j]?=some (Dv.lst (ns.map Dv.int)) by rw[AH,ec];rfl)
   rw[hx2] at ev
   cases ev
   obtain⟨li,xs,rfl,oi,hx⟩:=iv
   have ex:xs=ns.map V.int:=tR hx
   subst ex
   have:=il ns (AI ec)
   refine⟨_,rfl,_,rfl,aS rfl,fun l1 h1=>?_⟩
   have S3:=aH.upd (o:=.lst [.int (0+(i:Int))]) h1
   refine⟨li,l1,_,_,rfl,rfl,S3 _ _ oi,aC,by rw[AA];show _+1≤_;omega,fun l2 h2=>k1 _ _ ⟨S2.trans (S3.trans (aH.upd h2)),?_,fun v m=>?_⟩⟩
   rotate_left
   ·rcases Ar.mp m with m | m
    ·exact fy v m
    ·exact⟨l2,AS.mp m,(T1.trans (S'.trans (S2.trans S3))).free h2⟩
   rw[Aa,ec,AT]
   refine IsL.snoc (show Is _ (Dv.lst ((ns++[(i:Int)]).map Dv.int)) (.ref l2) from⟨l2,_,rfl,aC,?_⟩) (IsL.same (S3.trans (aH.upd h2)) _ _ iy)
   rw[show ns.map V.int++[V.int (0+(i:Int))]=(ns++[(i:Int)]).map V.int by rw[AT,ET];rfl]
   exact qP _
  rintro ys H2' ⟨S2,iy,fy⟩
  rw[AG (by omega)] at iy
  intro l3 h3
  have S3:=aH.upd (o:=.lst ys) h3
  have ly:=iy.length
  rw[AA] at ly
  refine⟨l,l3,_,_,rfl,rfl,(S2.trans S3) _ _ hl,aC,by omega,fun l4 h4=>?_⟩
  have S4':=aH.upd (o:=.lst (us++ys)) h4
  refine⟨l4,us++ys,_,rfl,S'.trans (S2.trans (S3.trans S4')),aC,?_,fun v m=>(Ar.mp m).elim (fr v) (fy v)⟩
  rw[AT,Ai]
  exact IsL.app (IsL.same (S3.trans S4') _ _ iy) (IsL.same (S2.trans (S3.trans S4')) _ _ ic)
 ·rintro σ H2 ⟨l,us,v2,rfl,S2,hl,ic,fr⟩
  obtain⟨ps,rfl,it,ep⟩:=aEM ic
  obtain⟨o1,o2,o3,_⟩:=aAR n n1 n4
  have lp:ps.length=(eQ n).length:=by rw[← ep,AA]
  have l2:2≤ps.length∧ps.length≤256:=by
   rw[lp,jL]
   have:2 ^ 1≤2 ^ n:=CT (by decide) n1
   have:2 ^ n≤2 ^ 8:=CT (by decide) n4
   omega
  have T2:=T1.trans S2
  refine⟨_,rfl,l,ps,(aDX n).toArray,rfl,hl,it,l2.1,by omega,by rw[ep];exact o1,fun i m=>by rw[lp];exact o2 i (by simpa using m),by rw[lp,AK];exact o3,tab.keep T2,fun D H3 K3 t3 eD=>?_⟩
  have eps:(aDX n).toArray.toList.map (fun i=>(ps.map fun p=>V.ref p.1).getD i .non)=((aDX n).map fun i=>ps.getD i (0,[])).map fun p=>V.ref p.1:=by
   rw[Ai]
   refine Bk fun i m=>?_
   have hi:=o2 i m
   rw[← lp] at hi
   show (ps.map fun p=>V.ref p.1).getD i .non=V.ref (ps.getD i (0,[])).1
   rw[iW,AY,AB hi]
   rfl
  rw[eps] at eD
  obtain⟨qs,eT,_⟩:=tab.keep T2
  refine q D _ H3 (fun b o nb e=>K3 b o nb (T2 _ _ e)) t3 eD (fun p m=>?_) (fun p m=>?_) ?_
  ·obtain⟨i,mi,rfl⟩:=AM.mp m
   have hi:=o2 i mi
   rw[← lp] at hi
   have mm:ps.getD i (0,[])∈ps:=by
    rw[AY,AB hi]
    exact Cu hi
   refine K3 _ _ (fun z=>?_) (it _ mm)
   have e2:=it _ mm
   rw[z,eT] at e2
   cases e2
  ·obtain⟨i,mi,rfl⟩:=AM.mp m
   have hi:=o2 i mi
   rw[← lp] at hi
   have mm:ps.getD i (0,[])∈ps:=by
    rw[AY,AB hi]
    exact Cu hi
   obtain⟨a,ea,na⟩:=fr _ (AM.mpr ⟨_,mm,rfl⟩)
   cases ea
   exact na
  ·unfold xS
   rw[Ai]
   refine Bk fun i m=>?_
   have hi:=o2 i m
   rw[← ep]
   rw[← lp] at hi
   show (ps.getD i (0,[])).2=(ps.map (·.2)).getD i []
   rw[iW,AY,AB hi]
   rfl
open Mt53 Mt22 MtF Mt31 Mt61
theorem aTF{Tb:Addr}{H H':Hp}(k:eE Tb H H')(t:qZ Tb H):aFF H H':=fun b o e d=>k b o (fun z=>by
 obtain⟨ps,eT,_⟩:=t
 rw[z,eT] at e
 cases e
 cases d) e
theorem rS{Tb:Addr}{H H':Hp}(k:eE Tb H H')(t:qZ Tb H){x:Addr}{fs ds:List Dv}(h:LandAt C H x fs ds):LandAt C H' x fs ds:=by
 have D:=aTF k t
 have tb:∀ {a:Addr} {ds:List Dv},qY H a ds→qY H' a ds:=fun⟨kvs,e,k1,i⟩=>⟨kvs,D _ _ e rfl,k1,IsL.sameD D _ _ i⟩
 obtain⟨⟨dx,d1,d2,e,t1,t2⟩,a,b⟩:=h
 refine⟨⟨dx,d1,d2,k _ _ (fun z=>?_) e,tb t1,tb t2⟩,a,b⟩
 obtain⟨ps,eT,_⟩:=t
 rw[z,eT] at e
 cases e
theorem aAL:∀ k,∀ ns∈eQ k,ns.Nodup∧∀ i∈ns,0≤i∧i<(k:Int)
 | 0,ns,m=>by rw[AS.mp m];exact⟨.nil,fun _ m=>nomatch m⟩
 | k+1,ns,m=>by
  unfold eQ at m
  rcases Ar.mp m with m | m
  ·obtain⟨a,b⟩:=aAL k ns m
   exact⟨a,fun i mi=>by have:=b i mi;omega⟩
  ·obtain⟨ms,mm,rfl⟩:=AM.mp m
   obtain⟨a,b⟩:=aAL k ms mm
   refine⟨Dt.mpr ⟨a,List.pairwise_singleton _ _,fun x hx y hy e=>?_⟩,fun i mi=>?_⟩
   ·have:=b x hx
    rw[e,AS.mp hy] at this
    omega
   ·rcases Ar.mp mi with mi | mi
    ·have:=b i mi
     omega
    ·rw[AS.mp mi]
     omega
noncomputable def atZ(zs:List Str)(i:Int):Str:=zs.getD i.toNat ""
theorem aCN{zs:List Str}{i:Int}(h0:0≤i)(h1:i<zs.length):atI (zs.map V.str) i=some (.str (atZ zs i))∧zs[i.toNat]?=some (atZ zs i):=by
 obtain⟨k,rfl⟩:=Ap h0
 have hk:k<zs.length:=by omega
 have e:zs[k]?=some (atZ zs (k:Int)):=by
  unfold atZ
  rw[CU,AY,AB hk]
  rfl
 exact⟨aK (by rw[AH,e];rfl),by rw[CU];exact e⟩
theorem aYI{zs:List Str}(nd:zs.Nodup):∀ {ns:List Int},ns.Nodup→(∀ i∈ns,0≤i∧i<(zs.length:Int))→(ns.map (atZ zs)).Nodup∧∀ z∈ns.map (atZ zs),z∈zs:=fun {ns} h1 h2=>by
 refine⟨?_,fun z m=>?_⟩
 ·induction ns with
  | nil=>exact .nil
  | cons i ns ih =>
   rw[AU]
   refine Aj.mpr ⟨fun m=>?_,ih (Aj.mp h1).2 fun j mj=>h2 j (AJ _ mj)⟩
   obtain⟨j,mj,e⟩:=AM.mp m
   have a:=(aCN (h2 i AO).1 (h2 i AO).2).2
   have b:=(aCN (h2 j (AJ _ mj)).1 (h2 j (AJ _ mj)).2).2
   rw[e] at b
   have:=mJ nd a b
   have:=h2 i AO
   have:=h2 j (AJ _ mj)
   have ij:i=j:=by omega
   exact (Aj.mp h1).1 (ij▸mj)
 ·obtain⟨i,mi,rfl⟩:=AM.mp m
  exact AI (aCN (h2 i mi).1 (h2 i mi).2).2
noncomputable def del(X:Addr)(H:Hp):Hp:=fun b=>if b=X then none else H b
theorem aOR(X:Addr)(H:Hp):aH (del X H) H:=fun b o e=>by
 unfold del at e
 by_cases h:b=X
 ·rw[if_pos h] at e;cases e
 ·rw[if_neg h] at e;exact e
theorem aOS{X:Addr}{H:Hp}{b:Addr}{o:HO}(n:b≠X)(e:H b=some o):del X H b=some o:=by
 unfold del
 rw[if_neg n]
 exact e
theorem aYG{X:Addr}{H H':Hp}(S:aH H H'):aH (del X H) (del X H'):=fun b o e=>by
 unfold del at e ⊢
 by_cases h:b=X
 ·rw[if_pos h] at e;cases e
 ·rw[if_neg h] at e ⊢;exact S _ _ e
theorem aZN{X:Addr}{H:Hp}{o:HO}:aH (del X H) (del X (upd H X o)):=fun b o' e=>by
 unfold del at e ⊢
 by_cases h:b=X
 ·rw[if_pos h] at e;cases e
 ·rw[if_neg h] at e ⊢;rw[aI h];exact e
theorem aLH{T lt:Addr}{pos:Pos}{qual:Str}{H:Hp}{us vs:List V}(x:kE T pos qual H)(h:H lt=some (.lst us)):kE T pos qual (upd H lt (.lst vs)):=by
 obtain⟨ps,e,t,r⟩:=x
 refine⟨ps,by rw[aI (fun z=>by rw[z,h] at e;cases e)];exact e,t,r.imp id fun⟨c,e1,e2⟩=>⟨c,e1,by rw[aI (fun z=>by rw[z,h] at e2;cases e2)];exact e2⟩⟩
noncomputable def aOY(r:List Str×Int):Dv:=.tup [.lst (r.1.map Dv.str),.int r.2]
structure Told (G:List Gap) (zs:List Str) (rs:List (List Str×Int)):Prop where
 cos:rs.map (·.1)=(xS zs.length).map fun ns=>ns.map (atZ zs)
 lst:∀ r∈rs,fS G r.1 r.2
def lL(C Tb:Addr):Sp:=sp3 fun x y u H Q=>∃ (p l:Addr) (fs ds:List Dv) (zs:List Str) (L:Int),x=.ref p∧LandAt C H p fs ds∧y=.ref l∧H l=some (.lst (zs.map V.str))∧1≤zs.length∧zs.length≤8∧zs.Nodup∧(∀ z∈zs,z∈fs.map aL)∧u=.int L∧hgt L=true∧qZ Tb H ∧
 ∀ (D:Addr) (us:List V) (rs:List (List Str×Int)) (H':Hp),eE Tb H H'→qZ Tb H'→H' D=some (.lst us)→IsL H' (rs.map aOY) us→Told (aP fs ds L) zs rs→Q (.ref D) H'
theorem mG(T:Txt K mg C){c Tb:Addr}(B:TabB K mg base "lists_of_places" c Tb):Fc P w K mg base 8 "companies" ["land","fields","height"] (lL C Tb):=by
 have G_p_check_wish:Fc P w K mg base 3 "check_wish" ["land","fields","height"] (pT C):=hJ T
 have G_p_lists_of_places:Fc P w K mg base 5 "lists_of_places" ["count"] (aHS Tb):=aFZ T B
 have G_p_cost:Fc P w K mg base 7 "cost" ["land","fields","height"] (aLZ C):=aKD T
 refine T.d_p_companies.fc eV rR (fun f cdv A outer s H vs Q E hr h=>?_)
 obtain⟨x,y,u,rfl,p,l,fs,ds,zs,lv,rfl,L,rfl,hl,l1,l4,nd,sub,rfl,hL,tab,q⟩:=h
 have big:=bY
 refine⟨_,(@aE _ _ _ _ _ (@fC _ _ _ _ (@bE _ _ _ _ _ _ _ _ _ _ G_p_check_wish (hr.mono (by decide)) (@aA _ _ _ _ _ (pv 0) (@aA _ _ _ _ _ (pv 1) (@aA _ _ _ _ _ (pv 2) aB (by rfl)) (by rfl)) (by rfl)) (by rfl) (by decide) (by rfl) (by rfl)) (by rfl)) (@aE _ _ _ _ _ (@dX _ _ _ _ _ _ _ _ (@cB _ _ _ _ _ _ _ _ aNG (@aQ _ _ _ _ _ _ _ _ _ (@aY _ (K) rfl) rfl T.n_len bG (@aA _ _ _ _ _ (pv 1) aB (by rfl)) (by decide) (by decide) (by rfl) (by rfl)) (@rK _ _ _ _ T.g_MOST_IN_A_WISH (by rfl) (by decide)) (@bT _ _ (by decide) (by decide))) (@aG _ _ _ jS) bW) (@aE _ _ _ _ _ (@aV _ _ (3) _ _ _ _ eV.nd rfl (Or.inl rfl) (@cX _ _ _ _ aB) (by rfl) (by trivial)) (@aE _ _ _ _ _ (@gK _ _ _ _ _ _ _ _ BG rfl (@bP _ _ _ _ (@bE _ _ _ _ _ _ _ _ _ _ G_p_lists_of_places (hr.mono (by decide)) (@aA _ _ _ _ _ (@aQ _ _ _ _ _ _ _ _ _ (@aY _ (K) rfl) rfl T.n_len bG (@aA _ _ _ _ _ (pv 1) aB (by rfl)) (by decide) (by decide) (by rfl) (by rfl)) aB (by rfl)) (by rfl) (by decide) (by rfl) (by rfl))) (@bA _ _ (4) _ eV.nd rfl (Or.inl rfl) (by trivial)) (@aE _ _ _ _ _ (@iQ _ (5) _ _ _ _ _ _ _ _ _ _ _ _ _ eV.nd rfl ["place","fields"] 1 [1] rfl (@bP _ _ _ _ (pv 4)) (fun R=>@bA _ _ (0) _ (show Aw (["place","fields"]:List Str) by decide +kernel) rfl (Or.inl rfl) (by trivial)) (@aW _ _ (by decide)) (fun R=>bZ) (fun R=>(@aZ _ _ _ _ _ _ _ (@cW _ (K) rfl) (pv 1) (pv 0) (fun _ _=>rfl))) (by exact Or.inl rfl) (by trivial) (by rfl) (by rfl) (by rfl) (by rfl) (by rfl) (by rfl) (by rfl) (by rfl) (by intro _;rfl)) (@aG _ _ _ (@fC _ _ _ _ (@mB _ _ _ _ _ _ _ _ _ _ _ _ BP BS BR fD (pv 3) (@aA _ _ _ _ _ (@dJ _ _ _ _ _ (@aA _ _ _ _ _ (pv 5) (@aA _ _ _ _ _ (@bE _ _ _ _ _ _ _ _ _ _ G_p_cost (hr.mono (by decide)) (@aA _ _ _ _ _ (pv 0) (@aA _ _ _ _ _ (pv 5) (@aA _ _ _ _ _ (pv 2) aB (by rfl)) (by rfl)) (by rfl)) (by rfl) (by decide) (by rfl) (by rfl)) aB (by rfl)) (by rfl))) aB (by rfl)) (by rfl) (by rfl) (by rfl) (by rfl) (by rfl)) (by rfl)))) (by intro _;rfl)) (@aG _ _ _ (@aT _ _ _ _ (pv 3))))))),?_⟩
 refine⟨_,rfl,_,rfl,_,rfl,_,_,_,rfl,p,l,fs,ds,zs,lv,rfl,L,rfl,hl,l1,nd,sub,rfl,hL,fun H1 S1=>?_⟩
 refine⟨_,rfl,l,_,rfl,.inl (SqL.of (S1 _ _ hl)),_,_,rfl,rfl,_,rfl,?_⟩
 have e8:decide ((8:Int)<((zs.map V.str).length:Int))=false:=decide_eq_false (by rw[AA];omega)
 rw[e8]
 refine bM ?_
 refine⟨aS rfl,fun lt m1=>?_⟩
 have S2:=aH.upd (o:=.lst []) m1
 have r2:upd H1 lt (.lst []) lt=some (.lst []):=aC
 have nlt:∀ b o,H1 b=some o→b≠lt:=fun b o e=>aN e m1
 generalize upd H1 lt (.lst [])=H2 at S2 r2
 refine gσ (σ':=[some (.ref p),some (.ref l),some (.int lv),some (.ref lt),none,none]) rfl ?_
 have T2:=S1.trans S2
 refine⟨_,rfl,l,_,rfl,.inl (SqL.of (T2 _ _ hl)),_,rfl,zs.length,by rw[AA],l1,l4,tab.keep T2,fun D ps H3 K3 tab3 hD it fr ep=>?_⟩
 have tab2:qZ Tb H2:=tab.keep T2
 have eTb:∀ b (ys:List V),H2 b=some (.lst ys)→b≠Tb:=fun b ys e z=>by
  obtain⟨qs,eT,_⟩:=tab2
  rw[z,eT] at e
  cases e
 have hl3:=K3 _ _ (eTb _ _ (T2 _ _ hl)) (T2 _ _ hl)
 have ht3:=K3 _ _ (eTb _ _ r2) r2
 have L3:=rS K3 tab2 (L.same T2)
 have psz:ps.length≤256∧1≤ps.length:=by
  have:=congrArg CS ep
  rw[AA] at this
  unfold xS at this
  rw[AA] at this
  obtain⟨_,_,o3,_⟩:=aAR zs.length l1 l4
  rw[o3,jL] at this
  have:2 ^ 1≤2 ^ zs.length:=CT (by decide) l1
  have:2 ^ zs.length≤2 ^ 8:=CT (by decide) l4
  omega
 have nDt:D≠lt:=fun z=>by
  rw[z,ht3] at hD
  have:=congrArg CS (HO.lst.inj (Ao hD))
  rw[AA] at this
  simp at this
  omega
 have KH:∀ (H':Hp),eE Tb H2 H'→eE Tb H H':=fun H' k b o n e=>k b o n (T2 _ _ e)
 have K1:eE Tb H1 H3:=fun b o n e=>K3 b o n (S2 _ _ e)
 have tab1:qZ Tb H1:=tab.keep S1
 have ipt:∀ q∈ps,q.1≠lt:=fun q m z=>by
  have:=fr q m
  rw[z,r2] at this
  cases this
 have iok:∀ q∈ps,q.2.Nodup∧∀ i∈q.2,0≤i∧i<(zs.length:Int):=fun q m=>by
  have:q.2∈xS zs.length:=by rw[← ep];exact AM.mpr ⟨q,m,rfl⟩
  exact aAL _ _ ((vX l1 l4).mp this)
 refine⟨D,rfl,⟨_,SqL.of hD⟩,qS (K:=K) (a:=D) (xs:=ps.map fun q=>V.ref q.1) (fun i σ H'=>∃ (v4 v5:Option V) (us:List V) (rs:List (List Str×Int)),σ=[some (.ref p),some (.ref l),some (.int lv),some (.ref lt),v4,v5]∧eE Tb H1 H'∧qZ Tb H'∧H' D=some (.lst (ps.map fun q=>V.ref q.1))∧iX H' ps∧H' lt=some (.lst us)∧IsL (del lt H') (rs.map aOY) us∧rs.map (·.1)=(ps.take i).map (fun q=>q.2.map (atZ zs))∧∀ r∈rs,fS (aP fs ds lv) r.1 r.2)
  ⟨_,_,[],[],rfl,K1,tab3,hD,it,ht3,rfl,rfl,fun _ m=>nomatch m⟩ ?_ ?_ ?_⟩
 ·rintro i σ H' hi ⟨v4,v5,us,rs,rfl,k',tb',d',it',t',ir,er,lr⟩
  exact SqL.of d'
 ·rintro i xv σ H' hx ⟨v4,v5,us,rs,rfl,k',tb',d',it',t',ir,er,lr⟩
  rw[AH] at hx
  obtain⟨⟨pa,ns⟩,ez,rfl⟩:=Ab.mp hx
  have mp:(pa,ns)∈ps:=AI ez
  have hpa:H' pa=some (.lst (ns.map V.int)):=it' _ mp
  obtain⟨nnd,nin⟩:=iok _ mp
  have hns:ns.length≤8:=by
   have:ns∈xS zs.length:=by rw[← ep];exact AM.mpr ⟨_,mp,rfl⟩
   have:=kF _ _ ((vX l1 l4).mp this)
   omega
  have eTl:l≠Tb:=fun z=>by
   obtain⟨qs,eT,_⟩:=tab1
   have:=S1 _ _ hl
   rw[z,eT] at this
   cases this
  have hl':H' l=some (.lst (zs.map V.str)):=k' _ _ eTl (S1 _ _ hl)
  refine gσ (σ':=[some (.ref p),some (.ref l),some (.int lv),some (.ref lt),some (.ref pa),v5]) rfl ?_
  refine⟨_,rfl,pa,rfl,⟨_,SqL.of hpa⟩,?_⟩
  refine bH (F:=K) (xs:=ns.map V.int) (by rw[AA];omega) (fun j ys H''=>H'=H''∧ys=((ns.take j).map (atZ zs)).map V.str) ⟨rfl,rfl⟩ ?_ ?_ ?_
  ·rintro j ys H'' hj ⟨rfl,rfl⟩
   exact⟨SqL.of hpa,by rw[AA,AA,AR];omega⟩
  ·rintro j yv ys H'' K1' K2' hx2 ⟨rfl,rfl⟩ k1 k2
   rw[AH] at hx2
   obtain⟨iz,ei,rfl⟩:=Ab.mp hx2
   have hz:=nin iz (AI ei)
   refine⟨_,rfl,_,rfl,l,_,iz,_,rfl,rfl,SqL.of hl',(aCN hz.1 hz.2).1,k1 _ _ ⟨rfl,?_⟩⟩
   rw[Aa,ei,AT,AT]
   rfl
  rintro ys H'' ⟨rfl,rfl⟩
  rw[AA,AG (AL _)]
  intro lc mc
  obtain⟨cnd,csub⟩:=aYI nd nnd nin
  have S4:=aH.upd (o:=.lst ((ns.map (atZ zs)).map V.str)) mc
  have r4:upd H' lc (.lst ((ns.map (atZ zs)).map V.str)) lc=some (.lst ((ns.map (atZ zs)).map V.str)):=aC
  have nlc:lc≠lt:=fun z=>by rw[z,t'] at mc;cases mc
  generalize upd H' lc (.lst ((ns.map (atZ zs)).map V.str))=H4 at S4 r4
  refine gσ (σ':=[some (.ref p),some (.ref l),some (.int lv),some (.ref lt),some (.ref pa),some (.ref lc)]) rfl ?_
  have L4:LandAt C H4 p fs ds:=(rS k' tab1 (L.same S1)).same S4
  refine⟨_,rfl,.inl ⟨rfl,_,SqL.of (S4 _ _ t')⟩,_,rfl,_,rfl,_,rfl,_,rfl,_,_,_,rfl,p,lc,fs,ds,_,lv,rfl,L4,rfl,r4,cnd,(fun z m=>sub z (csub z m)),rfl,hL,fun cst H5 S5 lst5=>?_⟩
  refine⟨aS rfl,fun tt mt=>?_⟩
  have S6:=aH.upd (o:=.tup [.ref lc,.int cst]) mt
  have r6:upd H5 tt (.tup [.ref lc,.int cst]) tt=some (.tup [.ref lc,.int cst]):=aC
  have T5:=S4.trans S5
  have ntt:tt≠lt:=fun z=>by have:=T5 _ _ t';rw[z,this] at mt;cases mt
  generalize upd H5 tt (.tup [.ref lc,.int cst])=H6 at S6 r6
  have T6:=T5.trans S6
  have lus:=ir.length
  rw[AA] at lus
  have lrs:=congrArg CS er
  rw[AA,AA,AR] at lrs
  refine⟨lt,us,.ref tt,rfl,rfl,T6 _ _ t',by omega,?_⟩
  refine⟨_,_,us++[.ref tt],rs++[(ns.map (atZ zs),cst)],rfl,(fun b o n e=>by rw[aI (nlt b o e)];exact T6 _ _ (k' b o n e)),aLH (tb'.keep T6) (T6 _ _ t'),by rw[aI nDt];exact T6 _ _ d',(fun r m=>by rw[aI (ipt r m)];exact T6 _ _ (it' r m)),aC,?_,?_,?_⟩
  ·rw[AT]
   refine IsL.same aZN _ _ (IsL.snoc (show Is _ (aOY (ns.map (atZ zs),cst)) (.ref tt) from⟨tt,_,rfl,aOS ntt r6,_,_,rfl,⟨lc,_,rfl,aOS nlc ((S5.trans S6) _ _ r4),IsL.strs _ _⟩,_,_,rfl,rfl,rfl⟩) (IsL.same (aYG T6) _ _ ir))
  ·rw[AT,er,Aa,ez,AT]
   rfl
  ·intro r m
   rcases Ar.mp m with m | m
   ·exact lr r m
   ·rw[AS.mp m]
    exact lst5
 ·rintro σ H' ⟨v4,v5,us,rs,rfl,k',tb',d',it',t',ir,er,lr⟩
  rw[AA,AG (AL _)] at er
  refine⟨_,rfl,q lt us rs H' (fun b o n e=>k' b o n (S1 _ _ e)) tb' t' (IsL.same (aOR _ _) _ _ ir) ⟨?_,lr⟩⟩
  rw[er,← ep,Ai]
  rfl
open Mt53 Mt22 MtF Mt31 Mt61 Mt74
def aSX:Sp:=sp2 fun x y H Q=>∃ i j:Nat,x=.int i∧y=.int j∧Q (.int (Nat.gcd i j:Nat)) H
theorem aOC{a b:Nat}(h:b≠0):((a:Int) % (b:Int))=((a % b:Nat):Int)∧Nat.gcd b (a % b)=Nat.gcd a b∧a % b<b :=
 ⟨(Int.natCast_emod a b).symm,by rw[Nat.gcd_comm b,← Nat.gcd_rec,Nat.gcd_comm],Nat.mod_lt _ (by omega)⟩
theorem aRH(a b:Int):(!decide (V.int a=V.int b))=!decide (a=b):=by
 by_cases h:a=b
 ·subst h;simp
 ·rw[decide_eq_false h,decide_eq_false (fun c=>h (by cases c;rfl))]
theorem lC(T:Txt K mg C):Fc P w K mg base 1 "greatest_divisor" ["one","other"] aSX:=by
 refine T.d_p_greatest_divisor.fc dG iU (fun f cdv A outer s H vs Q E hr h=>?_)
 obtain⟨x,y,rfl,i,j,rfl,rfl,q⟩:=h
 refine⟨_,(@aE _ _ _ _ _ (@qH _ _ _ _ _ _ BG (@cB _ _ _ _ _ _ _ _ mD (pv 1) aD (@bT _ _ (by decide) (by decide))) (@aE _ _ _ _ _ (@aV _ _ (2) _ _ _ _ dG.nd rfl (Or.inl rfl) (@aM _ _ _ _ _ _ _ _ dC (pv 0) (pv 1)) (by rfl) (by trivial)) (@aE _ _ _ _ _ (@aV _ _ (0) _ _ _ _ dG.nd rfl (Or.inl rfl) (pv 1) (by rfl) (by trivial)) (@aG _ _ _ (@aV _ _ (1) _ _ _ _ dG.nd rfl (Or.inl rfl) (pv 2) (by rfl) (by trivial)))))) (@aG _ _ _ (@aT _ _ _ _ (pv 0)))),?_⟩
 refine pM (fun σ H'=>∃ (a b:Nat) (v:Option V),σ=[some (.int a),some (.int b),v]∧H'=H∧Nat.gcd a b=Nat.gcd i j) (fun σ _=>match σ with | [_,some (.int b),_]=>b.toNat | _=>0) ⟨i,j,_,rfl,rfl,rfl⟩ ?_ ?_
 ·rintro σ H' ⟨a,b,v,rfl,rfl,e⟩
  refine⟨_,rfl,rfl,_,rfl,?_⟩
  rw[aRH]
  by_cases hb:b=0
  ·subst hb
   rw[Nat.gcd_zero_right] at e
   refine bM ⟨_,rfl,?_⟩
   rw[e]
   exact q
  ·obtain⟨e1,e2,e3⟩:=aOC (a:=a) hb
   have hd:(!decide ((b:Int)=0))=true:=by
    rw[decide_eq_false (by omega)];rfl
   rw[hd]
   refine cR ⟨_,rfl,_,rfl,_,_,rfl,rfl,(by omega),_,rfl,_,rfl,⟨b,a % b,some (.int ((a:Int) % (b:Int))),?_,rfl,by rw[e2,e]⟩,?_⟩
   ·show [some (V.int b),some (V.int ((a:Int) % (b:Int))),some (V.int ((a:Int) % (b:Int)))]=_
    rw[e1]
   ·show ((a:Int) % (b:Int)).toNat<b
    rw[e1];exact e3
 ·intro σ H Q Q' h hc
  obtain⟨v,e,hq,k,e2,q⟩:=hc
  exact⟨v,e,hq,k,e2,h _ _ q⟩
def Fr(H:Hp)(x:V)(a b:Int):Prop:=∃ l,x=.ref l∧H l=some (.tup [.int a,.int b])
theorem Fr.same{H H':Hp}{x:V}{a b:Int}(S:aH H H')(h:Fr H x a b):Fr H' x a b:=by
 obtain⟨l,rfl,e⟩:=h
 exact⟨l,rfl,S _ _ e⟩
def aSW:Sp:=sp2 fun x y H Q=>∃ a b:Int,x=.int a∧y=.int b∧0<b∧b.natAbs≤1000000∧∀ v H',aH H H'→Fr H' v (low a b).1 (low a b).2→Q v H'
theorem aSK(a:Int):(if a<0 then -a else a)=((a.natAbs:Nat):Int):=by split <;> omega
theorem aRR{a b:Int}(hb:0<b):∃ n:Nat,b=n∧Nat.gcd a.natAbs n=Int.gcd a b:=by
 obtain⟨n,rfl⟩:=Ap (FI hb)
 exact⟨n,rfl,rfl⟩
theorem aVR{a b:Int}(hb:0<b)(h:b.natAbs≤1000000):(((Int.gcd a b:Nat):Int)).natAbs.log2<9000:=by
 refine aVD ?_
 have h1:Int.gcd a b≤b.natAbs:=Nat.gcd_le_right _ (by omega)
 show Int.gcd a b≤_
 exact Av h1 h
theorem xW(T:Txt K mg C):Fc P w K mg base 2 "fraction" ["top","bottom"] aSW:=by
 have G_p_greatest_divisor:Fc P w K mg base 1 "greatest_divisor" ["one","other"] aSX:=lC T
 refine T.d_p_fraction.fc oE iU (fun f cdv A outer s H vs Q E hr h=>?_)
 obtain⟨x,y,rfl,a,b,rfl,rfl,hb,hs,q⟩:=h
 obtain⟨n,rfl,eg⟩:=aRR (a:=a) hb
 have g0:=aIQ (a:=a) hb
 have g1:=aVR (a:=a) hb hs
 refine⟨_,(@aE _ _ _ _ _ (@aV _ _ (2) _ _ _ _ oE.nd rfl (Or.inl rfl) (@bE _ _ _ _ _ _ _ _ _ _ G_p_greatest_divisor (hr.mono (by decide)) (@aA _ _ _ _ _ (@aQ _ _ _ _ _ _ _ _ _ aPC rfl T.n_abs aKX (@aA _ _ _ _ _ (pv 0) aB (by rfl)) (by decide) (by decide) (by rfl) (by rfl)) (@aA _ _ _ _ _ (pv 1) aB (by rfl)) (by rfl)) (by rfl) (by decide) (by rfl) (by rfl)) (by rfl) (by trivial)) (@aG _ _ _ (@aT _ _ _ _ (@dJ _ _ _ _ _ (@aA _ _ _ _ _ (@aM _ _ _ _ _ _ _ _ cE (pv 0) (pv 2)) (@aA _ _ _ _ _ (@aM _ _ _ _ _ _ _ _ cE (pv 1) (pv 2)) aB (by rfl)) (by rfl)))))),?_⟩
 refine⟨_,rfl,_,rfl,_,rfl,_,_,rfl,a.natAbs,n,by rw[aSK],rfl,?_⟩
 rw[eg]
 refine⟨_,rfl,_,rfl,_,_,rfl,rfl,⟨g0,g1⟩,_,rfl,_,rfl,_,_,rfl,rfl,⟨g0,g1⟩,aS rfl,fun p hp=>?_⟩
 exact q _ _ (aH.upd hp) ⟨p,rfl,aC⟩
def aLX:Sp:=sp1 fun x H Q=>∃ n:Nat,x=.int n∧n≤8∧Q (.int (fac n:Nat)) H
theorem aCB:∀ n,n≤8→fac n≤40320:=by
 intro n h
 have:n=0∨n=1∨n=2∨n=3∨n=4∨n=5∨n=6∨n=7∨n=8:=by omega
 rcases this with rfl | rfl | rfl | rfl | rfl | rfl | rfl | rfl | rfl <;> decide
theorem mE(T:Txt K mg C):Fc P w K mg base 1 "orders_of" ["count"] aLX:=by
 refine T.d_p_orders_of.fc fV mL (fun f cdv A outer s H vs Q E hr h=>?_)
 obtain⟨x,rfl,n,rfl,n8,q⟩:=h
 refine⟨_,(@aE _ _ _ _ _ (@aV _ _ (1) _ _ _ _ fV.nd rfl (Or.inl rfl) aD (by rfl) (by trivial)) (@aE _ _ _ _ _ (@gK _ _ _ _ _ _ _ _ BG rfl (@yW _ _ _ _ _ _ _ rfl T.n_range (@aA _ _ _ _ _ aD (@aA _ _ _ _ _ (@aM _ _ _ _ _ _ _ _ fK (pv 0) aD) aB (by rfl)) (by rfl)) (by rfl) (by rfl)) (@bA _ _ (2) _ fV.nd rfl (Or.inl rfl) (by trivial)) (@aG _ _ _ (@aMV _ _ (1) _ _ _ _ _ _ fV.nd rfl (Or.inl rfl) (pv 2) aVN (by trivial))) (by intro _;rfl)) (@aG _ _ _ (@aT _ _ _ _ (pv 1))))),?_⟩
 refine⟨_,rfl,_,_,rfl,rfl,_,_,rfl,⟨by decide,by decide,by omega,by omega⟩,?_⟩
 have en:((n:Int)+1 - 1).toNat=n:=by omega
 rw[en]
 refine gM (lo:=1) (n:=n) (fun i σ H'=>∃ v2:Option V,σ=[some (.int n),some (.int (fac i:Nat)),v2]∧H'=H) ⟨_,rfl,rfl⟩ ?_ ?_
 ·rintro i σ H' hi ⟨v2,rfl,rfl⟩
  refine⟨_,rfl,_,rfl,_,_,rfl,rfl,(show aSO _ _ from .inr ⟨by omega,by omega⟩).ok,some (.int (1+(i:Int))),?_,rfl⟩
  show [some (V.int n),some (V.int ((fac i:Nat)*(1+(i:Int)))),some (V.int (1+(i:Int)))]=_
  rw[show ((fac i:Nat):Int)*(1+(i:Int))=((fac (i+1):Nat):Int) by rw[show fac (i+1)=fac i*(i+1) from rfl,EV,Int.add_comm];rfl]
 ·rintro σ H' ⟨v2,rfl,rfl⟩
  exact⟨_,rfl,q⟩
def aDD:Sp:=sp2 fun x y H Q=>∃ a n:Nat,x=.int a∧y=.int n∧a<n∧n≤8∧Q (.int (fac a*fac (n - a - 1):Nat)) H
theorem pI(T:Txt K mg C):Fc P w K mg base 2 "orders_behind" ["ahead","count"] aDD:=by
 have G_p_orders_of:Fc P w K mg base 1 "orders_of" ["count"] aLX:=mE T
 refine T.d_p_orders_behind.fc oZ iU (fun f cdv A outer s H vs Q E hr h=>?_)
 obtain⟨x,y,rfl,a,n,rfl,rfl,an,n4,q⟩:=h
 refine⟨_,(@aG _ _ _ (@aT _ _ _ _ (@aM _ _ _ _ _ _ _ _ jG (@bE _ _ _ _ _ _ _ _ _ _ G_p_orders_of (hr.mono (by decide)) (@aA _ _ _ _ _ (pv 0) aB (by rfl)) (by rfl) (by decide) (by rfl) (by rfl)) (@bE _ _ _ _ _ _ _ _ _ _ G_p_orders_of (hr.mono (by decide)) (@aA _ _ _ _ _ (@aM _ _ _ _ _ _ _ _ eY (@aM _ _ _ _ _ _ _ _ eY (pv 1) (pv 0)) aD) aB (by rfl)) (by rfl) (by decide) (by rfl) (by rfl))))),?_⟩
 refine⟨_,rfl,_,rfl,a,rfl,by omega,_,rfl,_,rfl,_,_,rfl,rfl,_,_,rfl,rfl,_,rfl,n - a - 1,?_,by omega,_,_,rfl,rfl,?_,?_⟩
 ·show V.int _=V.int _
  congr 1
  omega
 ·have:=aCB a (by omega)
  exact .inl ⟨by omega,by omega⟩
 ·show Q (.int (((fac a:Nat):Int)*((fac (n - a - 1):Nat):Int))) H
  rw[← EV]
  exact q
open Mt53 Mt22 MtF Mt31 Mt61 Mt74
noncomputable def wO(ss:List Str):List Key:=ss.map Sum.inr
theorem aGJ(ss:List Str):(wO ss).map kV=ss.map V.str:=by
 unfold wO
 rw[Ai]
 rfl
theorem aEK{a b:List Str}(h:wO a=wO b):a=b:=by
 induction a generalizing b with
 | nil=>cases b with
  | nil=>rfl
  | cons y b=>cases h
 | cons x a ih=>cases b with
  | nil=>cases h
  | cons y b =>
   have:=List.cons.inj h
   rw[DR this.1,ih this.2]
theorem aXD{H H':Hp}(S:aH H H'){d:Addr}{u:HO}(r:Rd H d u):Rd H' d u:=r.imp (S _ _) fun⟨o,e⟩=>⟨o,S _ _ e⟩
theorem nF{t:Hp→Prop}{H:Hp}{l:Addr}{o:HO}(n:H l=none)(h:∀ H',aH H H'→H' l=some o→t H'):t (upd H l o):=h _ (aH.upd n) aC
noncomputable def eO(zs:List Str):List (List Str):=(plN zs.length).map (List.map fun i=>zs.getD i "")
noncomputable def fR(G:List Gap)(zs:List Str):List (List Key×V):=(eO zs).map fun co=>(wO co,V.int (cF G co))
theorem zU{G:List Gap}{co:List Str}:∀ {cs:List (List Str)},co∈cs→eS (cs.map fun co=>(wO co,V.int (cF G co))) (wO co)=some (.int (cF G co))
 | x :: r,m=>by
  rw[AU]
  by_cases e:x=co
  ·subst e
   exact iJ rfl
  ·rw[iK (fun h=>e (aEK h))]
   rcases Ac.mp m with h | h
   ·exact absurd h.symm e
   ·exact zU h
theorem zV{G:List Gap}{zs co:List Str}(m:co∈eO zs):eS (fR G zs) (wO co)=some (.int (cF G co)):=zU m
theorem aGZ{zs:List Str}(n1:1≤zs.length)(n4:zs.length≤8)(q:Str→Bool):zs.filter q∈eO zs:=by
 rw[zO]
 exact AM.mpr ⟨_,aFW _ _ n1 n4,rfl⟩
theorem aSC{zs co:List Str}(n1:1≤zs.length)(n4:zs.length≤8)(m:co∈eO zs){z:Str}(mz:z∈zs)(nz:z∉co):co.length<zs.length:=by
 obtain⟨ns,mn,rfl⟩:=AM.mp m
 obtain⟨i,hi,rfl⟩:=List.getElem_of_mem mz
 rw[AA]
 refine aQU _ n1 n4 ns mn i (Bm.mpr hi) fun h=>nz (AM.mpr ⟨i,h,?_⟩)
 rw[AY,AB hi]
 rfl
theorem aRY(y z:Str):decide (V.str y=V.str z)=decide (y=z):=by
 by_cases h:y=z
 ·subst h;simp
 ·rw[decide_eq_false h,decide_eq_false fun e=>h (V.str.inj e)]
theorem aIX:∀ n,0<fac n
 | 0=>Nat.one_pos
 | n+1=>Nat.mul_pos (aIX n) (Nat.succ_pos n)
theorem aYD:∀ n,n≤8→fac n≤40320:=aCB
noncomputable def total(G:List Gap)(zs:List Str)(z:Str)(k:Nat):Int:=sm ((eO zs).take k) fun co=>tm (cF G) zs z co
theorem uW{G:List Gap}{zs co:List Str}{z:Str}{i:Nat}(e:(eO zs)[i]?=some co):total G zs z (i+1)=total G zs z i+tm (cF G) zs z co:=by
 unfold total
 rw[Aa,e,vD]
 show _+sm [co] _=_
 rw[bF,lM]
 omega
theorem aZM{td:TE}{g:TG}{tb:TS}{D:Ends}{σ:L2.St}{H:Hp}{d:Addr}{kvs:List (List Key×V)}{u:TS}(htd:∀ R,R (.ref d) H→td σ H R)(rd:Rd H d (.dT kvs))(Pv:Obj→Nat→L2.St→Hp→Prop)(h0:∀ o H',eE d H H'→H' d=some (.frz o (.dT kvs))→Pv o 0 σ H')
 (hl:∀ o i σ H,i≤kvs.length→Pv o i σ H→H d=some (.frz o (.dT kvs)))(hs:∀ o i kv b σ H,kvs[i]?=some kv→H b=some (.tup (kv.1.map kV))→Pv o i σ H→g (.ref b) σ H fun σ2 H2=>tb { D with nx:=Pv o (i+1),ct:=Pv o (i+1),bk:=u D } σ2 H2)
 (hd:∀ o σ H,Pv o kvs.length σ H→u D σ H):iL (aWU (aNY td) g tb) u D σ H:=by
 refine htd _ ?_
 rcases rd with e | ⟨o,e⟩
 ·exact⟨d,kvs,rfl,.inl ⟨e,fun o=>aOF (Pv o) (h0 o _ (fun b u n e=>by rw[aI n];exact e) aC) (hl o) (hs o) (hd o)⟩⟩
 ·exact⟨d,kvs,rfl,.inr ⟨o,e,aOF (Pv o) (h0 o H (fun _ _ _ e=>e) e) (hl o) (hs o) (hd o)⟩⟩
theorem aJA{H:Hp}{d b:Addr}{kvs:List (List Key×V)}{ss:List Str}{c:Int}(r:Rd H d (.dT kvs))(hb:H b=some (.tup (ss.map V.str)))(e:eS kvs (wO ss)=some (.int c)):sR H d (.ref b) (some (.int c)) :=
 .inr ⟨kvs,wO ss,b,r,rfl,by rw[hb,aGJ],e.symm⟩
def yK:Sp:=sp3 fun x y u H Q=>∃ (z:Str) (l d:Addr) (G:List Gap) (zs:List Str),x=.str z∧y=.ref l∧H l=some (.lst (zs.map V.str))∧1≤zs.length∧zs.length≤8∧zs.Nodup∧z∈zs∧u=.ref d∧Rd H d (.dT (fR G zs)) ∧
 ∀ v H',eE d H H'→Rd H' d (.dT (fR G zs))→Fr H' v (low (total G zs z (eO zs).length) (fac zs.length:Nat)).1 (low (total G zs z (eO zs).length) (fac zs.length:Nat)).2→Q v H'
theorem xU(T:Txt K mg C):Fc P w K mg base 3 "share_of" ["field","fields","costs"] yK:=by
 have G_p_orders_of:Fc P w K mg base 1 "orders_of" ["count"] aLX:=mE T
 have G_p_orders_behind:Fc P w K mg base 2 "orders_behind" ["ahead","count"] aDD:=pI T
 have G_p_fraction:Fc P w K mg base 2 "fraction" ["top","bottom"] aSW:=xW T
 refine T.d_p_share_of.fc fG rR (fun f cdv A outer s H vs Q E hr h=>?_)
 obtain⟨x,y,u,rfl,z,l,d,G,zs,rfl,rfl,hl,n1,n4,nd,mz,rfl,rd,q⟩:=h
 have big:=bY
 have hu:=lA hr
 refine⟨_,(@aE _ _ _ _ _ (@aV _ _ (3) _ _ _ _ fG.nd rfl (Or.inl rfl) aD (by rfl) (by trivial)) (@aE _ _ _ _ _ (@gK _ _ _ _ _ _ _ _ BG rfl (@aMX _ _ _ _ (pv 2)) (@bA _ _ (4) _ fG.nd rfl (Or.inr rfl) (by trivial)) (@aG _ _ _ (@dX _ _ _ _ _ _ _ _ (@cB _ _ _ _ _ _ _ _ (@xT _ (K) rfl) (pv 0) (pv 4) (by with_unfolding_all rfl)) (@aE _ _ _ _ _ (@aV _ _ (5) _ _ _ _ fG.nd rfl (Or.inl rfl) (@bJ _ _ _ _ _ _ _ _ _ jI rfl T.n_tuple hE (@aA _ _ _ _ _ (@cD _ _ _ _ _ _ _ _ _ _ _ ["name","field","company"] 1 [0,4] rfl (@bP _ _ _ _ (pv 1)) (fun R=>@bA _ _ (0) _ (show Aw (["name","field","company"]:List Str) by decide +kernel) rfl (Or.inl rfl) (by trivial)) (@aW _ _ (by decide)) (fun R=>@fW _ _ _ (@PW.pt _ _ _ (@lX _ _ _ _ _ _ _ (@cB _ _ _ _ _ _ _ _ kY (pv 0) (pv 1) (@bT _ _ (by decide) (by decide))) (@jF _ _ _ _ (@cB _ _ _ _ _ _ _ _ (@pG _ (K) rfl) (pv 0) (pv 2) (by with_unfolding_all rfl)))))) (fun R=>(pv 0)) (by rfl) (by rfl) (by rfl) (by rfl) (by rfl) (by rfl) (by rfl) (by intro _;rfl)) aB (by rfl)) (by decide) (by decide) (by rfl) (by rfl)) (by rfl) (by trivial)) (@aG _ _ _ (@aMV _ _ (3) _ _ _ _ _ _ fG.nd rfl (Or.inl rfl) (@aM _ _ _ _ _ _ _ _ jG (@bE _ _ _ _ _ _ _ _ _ _ G_p_orders_behind (hr.mono (by decide)) (@aA _ _ _ _ _ (@aQ _ _ _ _ _ _ _ _ _ (@aY _ (K) rfl) rfl T.n_len bG (@aA _ _ _ _ _ (pv 4) aB (by rfl)) (by decide) (by decide) (by rfl) (by rfl)) (@aA _ _ _ _ _ (@aQ _ _ _ _ _ _ _ _ _ (@aY _ (K) rfl) rfl T.n_len bG (@aA _ _ _ _ _ (pv 1) aB (by rfl)) (by decide) (by decide) (by rfl) (by rfl)) aB (by rfl)) (by rfl)) (by rfl) (by decide) (by rfl) (by rfl)) (@aM _ _ _ _ _ _ _ _ eY (@fX _ _ _ _ _ _ hu (pv 2) (pv 5) (fun _ _=>rfl)) (@fX _ _ _ _ _ _ hu (pv 2) (pv 4) (fun _ _=>rfl)))) aVO (by trivial)))) bW)) (by intro _;rfl)) (@aG _ _ _ (@aT _ _ _ _ (@bE _ _ _ _ _ _ _ _ _ _ G_p_fraction (hr.mono (by decide)) (@aA _ _ _ _ _ (pv 3) (@aA _ _ _ _ _ (@bE _ _ _ _ _ _ _ _ _ _ G_p_orders_of (hr.mono (by decide)) (@aA _ _ _ _ _ (@aQ _ _ _ _ _ _ _ _ _ (@aY _ (K) rfl) rfl T.n_len bG (@aA _ _ _ _ _ (pv 1) aB (by rfl)) (by decide) (by decide) (by rfl) (by rfl)) aB (by rfl)) (by rfl) (by decide) (by rfl) (by rfl)) aB (by rfl)) (by rfl)) (by rfl) (by decide) (by rfl) (by rfl)))))),?_⟩
 have nl:l≠d:=fun e=>by rw[e] at hl;rcases rd with h | ⟨_,h⟩ <;> rw[hl] at h <;> cases h
 refine gσ (σ':=[some (.str z),some (.ref l),some (.ref d),some (.int 0),none,none]) rfl ?_
 dsimp only
 refine aZM (d:=d) (kvs:=fR G zs) (fun R h=>⟨_,rfl,h⟩) rd (fun o i σ H'=>∃ v4 v5:Option V,σ=[some (.str z),some (.ref l),some (.ref d),some (.int (total G zs z i)),v4,v5]∧eE d H H'∧H' d=some (.frz o (.dT (fR G zs)))) (fun o H1 K1 e1=>⟨_,_,rfl,K1,e1⟩) ?_ ?_ ?_
 ·rintro o i σ H' hi ⟨v4,v5,rfl,k',e'⟩
  exact e'
 ·rintro o i kv b σ H' ek hb ⟨v4,v5,rfl,k',e'⟩
  unfold fR at ek
  rw[AH] at ek
  obtain⟨co,ec,rfl⟩:=Ab.mp ek
  have mc:co∈eO zs:=AI ec
  have hb:H' b=some (.tup (co.map V.str)):=by rw[hb,aGJ]
  have hl':=k' _ _ nl hl
  refine gσ (σ':=[some (.str z),some (.ref l),some (.ref d),some (.int (total G zs z i)),some (.ref b),v5]) rfl ?_
  refine⟨_,rfl,_,rfl,b,_,rfl,.inr (SqT.of hb),rfl,nV co,_,rfl,?_⟩
  rw[if_pos rfl,uS]
  by_cases mz':z∈co
  ·rw[decide_eq_true mz']
   refine bM ⟨some (.ref b),v5,?_,k',e'⟩
   rw[uW ec]
   unfold tm
   rw[if_pos mz',Int.add_zero]
  ·rw[decide_eq_false mz']
   refine cR ?_
   have lc:=aSC n1 n4 mc mz mz'
   refine⟨_,rfl,l,rfl,⟨_,SqL.of hl'⟩,?_⟩
   refine bH (F:=K) (xs:=zs.map V.str) (by rw[AA];omega) (fun j ys H''=>H'=H''∧ys=((zs.take j).filter fun y=>decide (y=z) || decide (y∈co)).map V.str) ⟨rfl,rfl⟩ ?_ ?_ ?_
   ·rintro j ys H'' hj ⟨rfl,rfl⟩
    have:=BI (fun y:Str=>decide (y=z) || decide (y∈co)) (zs.take j)
    rw[AR] at this
    exact⟨SqL.of hl',by rw[AA];omega⟩
   ·rintro j xv ys H'' K1 K2 hx' ⟨rfl,rfl⟩ k1 k2
    rw[AH] at hx'
    obtain⟨y,ey,rfl⟩:=Ab.mp hx'
    have et:=nX (P:=fun y:Str=>decide (y=z) || decide (y∈co)) ey
    refine⟨_,rfl,_,rfl,rfl,_,rfl,?_⟩
    rw[aRY]
    by_cases eyz:y=z
    ·rw[decide_eq_true eyz] at et ⊢
     exact cR (cR ⟨_,rfl,k1 _ _ ⟨rfl,by rw[et,Bool.true_or,if_pos rfl,AT];rfl⟩⟩)
    ·rw[decide_eq_false eyz] at et ⊢
     refine bM ⟨_,rfl,_,rfl,b,_,rfl,.inr (SqT.of hb),rfl,nV co,_,rfl,?_⟩
     rw[if_neg AQ,uS]
     cases hg:decide (y∈co) with
     | false =>
      rw[hg] at et
      exact bM (k2 _ ⟨rfl,by rw[et];simp⟩)
     | true =>
      rw[hg] at et
      exact cR ⟨_,rfl,k1 _ _ ⟨rfl,by rw[et,Bool.or_true,if_pos rfl,AT];rfl⟩⟩
   rintro ys H'' ⟨rfl,rfl⟩
   rw[AA,AG (AL _)]
   intro lj mj
   refine nF mj fun H2 S2 r2=>?_
   refine⟨lj,_,rfl,.inl ⟨SqL.of r2,fun tj mt=>?_⟩⟩
   refine nF mt fun H3 S3 r3=>?_
   have T3:=S2.trans S3
   refine gσ (σ':=[some (.str z),some (.ref l),some (.ref d),some (.int (total G zs z i)),some (.ref b),some (.ref tj)]) rfl ?_
   have e3:=T3 _ _ e'
   have rd3:Rd H3 d (.dT (fR G zs)):=.inr ⟨o,e3⟩
   refine⟨_,rfl,_,rfl,b,_,rfl,.inr (SqT.of (T3 _ _ hb)),_,rfl,l,_,rfl,.inl (SqL.of (T3 _ _ hl')),_,_,rfl,co.length,zs.length,by rw[AA],by rw[AA],lc,n4,?_⟩
   refine⟨_,rfl,_,rfl,d,_,rfl,aJA rd3 r3 (zV (aGZ n1 n4 _)),_,rfl,_,rfl,d,_,rfl,aJA rd3 (T3 _ _ hb) (zV mc),_,_,rfl,rfl,_,_,rfl,rfl,?_,_,_,rfl,rfl,some (.ref b),some (.ref tj),?_,(fun b' u' n' e=>T3 _ _ (k' b' u' n' e)),e3⟩
   ·have h1:=aCB co.length (by omega)
    have h2:=aCB (zs.length - co.length - 1) (by omega)
    have h3:fac co.length*fac (zs.length - co.length - 1)≤40320*40320:=Nat.mul_le_mul h1 h2
    generalize fac co.length*fac (zs.length - co.length - 1)=x at h3
    exact .inl ⟨by omega,by omega⟩
   ·rw[uW ec]
    unfold tm
    rw[if_neg mz']
    rfl
 ·rintro o σ H' ⟨v4,v5,rfl,k',e'⟩
  have ecl:(fR G zs).length=(eO zs).length:=by unfold fR;rw[AA]
  rw[ecl]
  refine⟨_,rfl,_,rfl,l,_,rfl,.inl (SqL.of (k' _ _ nl hl)),_,rfl,zs.length,by rw[AA],by omega,?_⟩
  have f0:0<fac zs.length:=aIX _
  exact⟨_,_,rfl,_,_,rfl,rfl,by omega,by have:=aYD _ n4;omega,fun v H2 S2 fr=>q v H2 (fun b u n e=>S2 _ _ (k' b u n e)) (.inr ⟨o,S2 _ _ e'⟩) fr⟩
open Mt53 Mt22 MtF Mt31 Mt61 Mt74
theorem aPP{G:List Gap}{zs:List Str}{rs:List (List Str×Int)}(t:Told G zs rs):rs=(eO zs).map fun co=>(co,cF G co):=by
 have e:rs.map (·.1)=eO zs:=by
  rw[t.cos]
  unfold eO plN
  rw[Ai]
  refine Bk fun ns _=>?_
  show ns.map (atZ zs)=(ns.map Int.toNat).map fun i=>zs.getD i ""
  rw[Ai]
  rfl
 rw[← e,Ai]
 conv=>lhs;rw[← FP rs]
 refine Bk fun r m=>?_
 show r=(r.1,cF G r.1)
 rw[aJD (t.lst r m)]
theorem rP{α β:Type}{f:α→β}:∀ {l:List α},(∀ a∈l,∀ b∈l,f a=f b→a=b)→l.Nodup→(l.map f).Nodup
 | [],_,_=>.nil
 | x :: r,inj,nd=>by
  rw[AU]
  refine Aj.mpr ⟨fun m=>?_,rP (fun a ma b mb=>inj a (AJ _ ma) b (AJ _ mb)) (Aj.mp nd).2⟩
  obtain⟨y,my,e⟩:=AM.mp m
  exact (Aj.mp nd).1 (inj y (AJ _ my) x AO e▸my)
theorem aIM{f:Nat→Str}{n:Nat}(inj:∀ a b,a<n→b<n→f a=f b→a=b):∀ {a b:List Nat},(∀ i∈a,i<n)→(∀ i∈b,i<n)→a.map f=b.map f→a=b
 | [],[],_,_,_=>rfl
 | [],_ :: _,_,_,e=>by cases e
 | _ :: _,[],_,_,e=>by cases e
 | x :: a,y :: b,ha,hb,e=>by
  rw[AU,AU] at e
  obtain⟨e1,e2⟩:=List.cons.inj e
  rw[inj x y (ha x AO) (hb y AO) e1,aIM inj (fun i m=>ha i (AJ _ m)) (fun i m=>hb i (AJ _ m)) e2]
theorem aOV{G:List Gap}{zs:List Str}(nd:zs.Nodup)(n1:1≤zs.length)(n4:zs.length≤8):((fR G zs).map (·.1)).Nodup:=by
 unfold fR eO
 rw[Ai,Ai]
 exact rP (fun a ma b mb e=>aIM (fun i j hi hj h=>aCM nd hi hj h) (aBG _ n1 n4 a ma) (aBG _ n1 n4 b mb) (aEK e)) (aJZ _ n1 n4)
theorem aKT{G:List Gap}{zs:List Str}(n1:1≤zs.length)(n4:zs.length≤8):(fR G zs).length≤256:=by
 unfold fR eO
 rw[AA,AA]
 exact aMW _ n1 n4
theorem lJ{H:Hp}:∀ {zs:List Str} {vs:List V},IsL H (zs.map Dv.str) vs→vs=zs.map V.str
 | [],_,h=>h
 | z :: zs,_,h=>by
  obtain⟨v,r,rfl,e,t⟩:=h
  cases (show v=.str z from e)
  rw[lJ t]
  rfl
def yE(H:Hp)(G:List Gap)(zs ws:List Str)(kvs:List (Key×V)):Prop:=Paired (fun (z:Str) (kv:Key×V)=>kv.1=Sum.inr z∧Fr H kv.2 (low (total G zs z (eO zs).length) (fac zs.length:Nat)).1 (low (total G zs z (eO zs).length) (fac zs.length:Nat)).2) ws kvs
theorem yE.mono{H H':Hp}{G:List Gap}{zs ws:List Str}{kvs:List (Key×V)}(h:yE H G zs ws kvs)(k:∀ a xs,H a=some (.tup xs)→H' a=some (.tup xs)):yE H' G zs ws kvs :=
 Paired.mapP h fun _ _ ⟨e,a,e1,e2⟩=>⟨e,a,e1,k _ _ e2⟩
theorem aFY{H H':Hp}{ys:List V}{kvs:List (Key×V)}(h:bQ H ys kvs)(k:∀ a xs,H a=some (.tup xs)→H' a=some (.tup xs)):bQ H' ys kvs :=
 Paired.mapP h fun _ _ ⟨a,e1,e2⟩=>⟨a,e1,k _ _ e2⟩
theorem aLG{d:Addr}{H H':Hp}{kvs:List (List Key×V)}(k:eE d H H')(rd:Rd H d (.dT kvs)):∀ a xs,H a=some (.tup xs)→H' a=some (.tup xs):=fun a xs e=>k _ _ (fun z=>by
 rw[z] at e
 rcases rd with h | ⟨o,h⟩ <;> rw[e] at h <;> cases h) e
theorem aJM{T d:Addr}{pos:Pos}{qual:Str}{H H':Hp}{kvs:List (List Key×V)}(k:eE d H H')(rd:Rd H d (.dT kvs))(x:kE T pos qual H):kE T pos qual H':=by
 have nd:∀ {b:Addr} {o:HO},H b=some o→(∀ kvs,o≠.dT kvs)→(∀ q kvs,o≠.frz q (.dT kvs))→H' b=some o:=fun {b o} e n1 n2=>k _ _ (fun z=>by
  rw[z] at e
  rcases rd with h | ⟨q,h⟩ <;> rw[e] at h
  ·exact n1 _ (Ao h)
  ·exact n2 _ _ (Ao h)) e
 obtain⟨ps,e,t,r⟩:=x
 exact⟨ps,nd e (fun _=>nofun) (fun _ _=>nofun),t,r.imp id fun⟨c,e1,e2⟩=>⟨c,e1,nd e2 (fun _=>nofun) (fun _ _=>nofun)⟩⟩
theorem vF{H:Hp}{G:List Gap}{zs ws:List Str}{kvs:List (Key×V)}(h:yE H G zs ws kvs):kvs.map (·.1)=ws.map Sum.inr:=by
 induction h with
 | nil=>rfl
 | cons a r ih=>rw[AU,AU,ih,a.1]
def aCZ(C Tb:Addr):Sp:=sp3 fun x y u H Q=>∃ (p l:Addr) (fs ds:List Dv) (zs:List Str) (L:Int),x=.ref p∧LandAt C H p fs ds∧y=.ref l∧H l=some (.lst (zs.map V.str))∧1≤zs.length∧zs.length≤8∧zs.Nodup∧(∀ z∈zs,z∈fs.map aL)∧u=.int L∧hgt L=true∧qZ Tb H ∧
 ∀ (d:Addr) (kvs:List (Key×V)) (H':Hp),eE Tb H H'→qZ Tb H'→H d=none→H' d=some (.dK kvs)→yE H' (aP fs ds L) zs zs kvs→Q (.ref d) H'
theorem aDZ(T:Txt K mg C){c Tb:Addr}(B:TabB K mg base "lists_of_places" c Tb):Fc P w K mg base 9 "shares" ["land","fields","height"] (aCZ C Tb):=by
 have G_p_companies:Fc P w K mg base 8 "companies" ["land","fields","height"] (lL C Tb):=mG T B
 have G_p_share_of:Fc P w K mg base 3 "share_of" ["field","fields","costs"] yK:=xU T
 refine T.d_p_shares.fc jA rR (fun f cdv A outer s H vs Q E hr h=>?_)
 obtain⟨x,y,u,rfl,p,l,fs,ds,zs,lv,rfl,L,rfl,hl,l1,l4,nd,sub,rfl,hL,tab,q⟩:=h
 have big:=bY
 have hu:=lA hr
 refine⟨_,(@aE _ _ _ _ _ (@aV _ _ (3) _ _ _ _ jA.nd rfl (Or.inr rfl) (@bJ _ _ _ _ _ _ _ _ _ (@kB _ rfl hr.units) rfl T.n_dict fB (@aA _ _ _ _ _ (@cD _ _ _ _ _ _ _ _ _ _ _ ["row"] 1 [] rfl (@bP _ _ _ _ (@bE _ _ _ _ _ _ _ _ _ _ G_p_companies (hr.mono (by decide)) (@aA _ _ _ _ _ (pv 0) (@aA _ _ _ _ _ (pv 1) (@aA _ _ _ _ _ (pv 2) aB (by rfl)) (by rfl)) (by rfl)) (by rfl) (by decide) (by rfl) (by rfl))) (fun R=>@bA _ _ (0) _ (show Aw (["row"]:List Str) by decide +kernel) rfl (Or.inl rfl) (by trivial)) (@aW _ _ (by decide)) (fun R=>bZ) (fun R=>(@dJ _ _ _ _ _ (@aA _ _ _ _ _ (@bJ _ _ _ _ _ _ _ _ _ (@mZ _ (K) rfl) rfl T.n_tuple hE (@aA _ _ _ _ _ (@aZ _ _ _ _ _ _ _ (@aO _ (K) rfl) (pv 0) aD (fun _ _=>rfl)) aB (by rfl)) (by decide) (by decide) (by rfl) (by rfl)) (@aA _ _ _ _ _ (@aZ _ _ _ _ _ _ _ (@aO _ (K) rfl) (pv 0) aD (fun _ _=>rfl)) aB (by rfl)) (by rfl)))) (by rfl) (by rfl) (by rfl) (by rfl) (by rfl) (by rfl) (by rfl) (by intro _;rfl)) aB (by rfl)) (by decide) (by decide) (by rfl) (by rfl)) (by rfl) (by trivial)) (@aG _ _ _ (@aT _ _ _ _ (@bJ _ _ _ _ _ _ _ _ _ (@dL _ rfl) rfl T.n_dict fB (@aA _ _ _ _ _ (@cD _ _ _ _ _ _ _ _ _ _ _ ["field","fields","costs"] 1 [1,3] rfl (@bP _ _ _ _ (pv 1)) (fun R=>@bA _ _ (0) _ (show Aw (["field","fields","costs"]:List Str) by decide +kernel) rfl (Or.inl rfl) (by trivial)) (@aW _ _ (by decide)) (fun R=>bZ) (fun R=>(@dJ _ _ _ _ _ (@aA _ _ _ _ _ (pv 0) (@aA _ _ _ _ _ (@bE _ _ _ _ _ _ _ _ _ _ G_p_share_of (hr.mono (by decide)) (@aA _ _ _ _ _ (pv 0) (@aA _ _ _ _ _ (pv 1) (@aA _ _ _ _ _ (pv 2) aB (by rfl)) (by rfl)) (by rfl)) (by rfl) (by decide) (by rfl) (by rfl)) aB (by rfl)) (by rfl)))) (by rfl) (by rfl) (by rfl) (by rfl) (by rfl) (by rfl) (by rfl) (by intro _;rfl)) aB (by rfl)) (by decide) (by decide) (by rfl) (by rfl))))),?_⟩
 refine⟨_,rfl,_,rfl,_,rfl,_,_,_,rfl,p,l,fs,ds,zs,lv,rfl,L,rfl,hl,l1,l4,nd,sub,rfl,hL,tab,fun D us rs H1 K1 tab1 hD ir told=>?_⟩
 have ers:=aPP told
 subst ers
 have eTl:l≠Tb:=fun z=>by
  obtain⟨qs,eT,_⟩:=tab
  rw[z,eT] at hl
  cases hl
 have hl1:=K1 _ _ eTl hl
 have lus:=ir.length
 rw[AA,AA] at lus
 have n16:(eO zs).length≤256:=by have:=aKT (G:=aP fs ds lv) l1 l4;unfold fR at this;rw[AA] at this;exact this
 refine⟨D,rfl,⟨_,SqL.of hD⟩,?_⟩
 refine bH (F:=K) (xs:=us) (by omega) (fun j ys H'=>aH H1 H'∧hU H' ys ((fR (aP fs ds lv) zs).take j)) ⟨aH.refl _,hU.nil _⟩ ?_ ?_ ?_
 ·rintro j ys H' hj ⟨S',pr⟩
  have:=pr.len
  rw[AR] at this
  exact⟨SqL.of (S' _ _ hD),by omega⟩
 ·rintro j xv ys H' K1' K2' hx ⟨S',pr⟩ k1 k2
  have hjl:=(AC.mp hx).1
  obtain⟨co,ec⟩:∃ co,(eO zs)[j]?=some co:=⟨_,AB (by omega)⟩
  obtain⟨v,ev,iv⟩:=ir.get (show (((eO zs).map fun co=>(co,cF (aP fs ds lv) co)).map aOY)[j]?=some (aOY (co,cF (aP fs ds lv) co)) by rw[AH,AH,ec];rfl)
  rw[hx] at ev
  cases ev
  obtain⟨t,ts,rfl,ht,v1,r1',rfl,⟨lc,xs,rfl,hlc,hxs⟩,v2,r2',rfl,e2,e3⟩:=iv
  cases (show v2=.int (cF (aP fs ds lv) co) from e2)
  cases (show r2'=[] from e3)
  have exs:xs=co.map V.str:=lJ hxs
  subst exs
  refine⟨_,rfl,t,_,0,_,rfl,rfl,SqT.of (S' _ _ ht),aK (j:=0) rfl,lc,_,rfl,.inl ⟨SqL.of (S' _ _ hlc),fun tk mt=>?_⟩⟩
  have S2:=aH.upd (o:=.tup (co.map V.str)) mt
  have r2:upd H' tk (.tup (co.map V.str)) tk=some (.tup (co.map V.str)):=aC
  generalize upd H' tk (.tup (co.map V.str))=H2 at S2 r2
  refine⟨_,rfl,t,_,1,_,rfl,rfl,SqT.of (S2 _ _ (S' _ _ ht)),aK (j:=1) rfl,aS rfl,fun tp mp=>?_⟩
  refine nF mp fun H3 S3 r3=>k1 _ _ ⟨S'.trans (S2.trans S3),?_⟩
  have eck:(fR (aP fs ds lv) zs)[j]?=some (wO co,V.int (cF (aP fs ds lv) co)):=by unfold fR;rw[AH,ec];rfl
  rw[Aa,eck]
  exact Dp (pr.same (S2.trans S3)) ⟨tp,tk,rfl,r3,by rw[S3 _ _ r2,aGJ]⟩
 rintro ys H' ⟨S',pr⟩
 have ecl:(fR (aP fs ds lv) zs).length=(eO zs).length:=by unfold fR;rw[AA]
 rw[AG (by omega)] at pr
 intro lp mp
 refine nF mp fun H2 S2 r2=>?_
 refine⟨lp,ys,_,rfl,SqL.of r2,pr.same S2,by omega,aOV nd l1 l4,fun d md=>?_⟩
 refine nF md fun H3 S3 r3=>?_
 have T3:=S'.trans (S2.trans S3)
 refine gσ (σ':=[some (.ref p),some (.ref l),some (.int lv),some (.ref d)]) rfl ?_
 have hl3:=T3 _ _ hl1
 have nTd:Tb≠d:=fun z=>by
  obtain⟨qs,eT,_⟩:=tab1
  have:=T3 _ _ eT
  rw[z,r3] at this
  cases this
 have nld:l≠d:=fun z=>by rw[z,r3] at hl3;cases hl3
 have nH:H d=none:=by
  cases e:H d with
  | none=>rfl
  | some o =>
   have a:=K1 _ _ (fun z=>nTd z.symm) e
   have:=(S'.trans S2) _ _ a
   rw[this] at md
   cases md
 refine⟨_,rfl,l,rfl,⟨_,SqL.of hl3⟩,?_⟩
 refine bH (F:=K) (xs:=zs.map V.str) (by rw[AA];omega) (fun j ys H'=>∃ kvs,eE d H3 H'∧Rd H' d (.dT (fR (aP fs ds lv) zs))∧bQ H' ys kvs∧yE H' (aP fs ds lv) zs (zs.take j) kvs) ⟨[],(fun _ _ _ e=>e),.inl r3,bQ.nil _,CL⟩ ?_ ?_ ?_
 ·rintro j ys H' hj ⟨kvs,k',rd',pr',sh'⟩
  have h1:=pr'.len
  have h2:(zs.take j).length=kvs.length:=Ci sh'
  rw[AR] at h2
  exact⟨SqL.of (k' _ _ nld hl3),by omega⟩
 ·rintro j xv ys H' K1' K2' hx ⟨kvs,k',rd',pr',sh'⟩ k1 k2
  rw[AH] at hx
  obtain⟨z,ez,rfl⟩:=Ab.mp hx
  refine⟨_,rfl,_,rfl,_,rfl,_,rfl,_,_,_,rfl,z,l,d,aP fs ds lv,zs,rfl,rfl,k' _ _ nld hl3,l1,l4,nd,AI ez,rfl,rd',fun v H4 K4 rd4 fr=>?_⟩
  have tk:=aLG K4 rd'
  refine⟨aS rfl,fun tp mp=>?_⟩
  refine nF mp fun H5 S5 r5=>k1 _ _ ⟨kvs++[(Sum.inr z,v)],(fun b u n e=>S5 _ _ (K4 _ _ n (k' _ _ n e))),aXD S5 rd4,Dp ((aFY pr' tk).same S5) ⟨tp,rfl,r5⟩,?_⟩
  rw[Aa,ez]
  exact Dp (yE.mono sh' fun a xs e=>S5 _ _ (tk _ _ e)) ⟨rfl,fr.same S5⟩
 rintro ys H' ⟨kvs,k',rd',pr',sh'⟩
 rw[AA,AG (AL _)] at sh'
 intro lq mq
 have lk:zs.length=kvs.length:=Ci sh'
 have S6:=aH.upd (o:=.lst ys) mq
 have r6:upd H' lq (.lst ys) lq=some (.lst ys):=aC
 generalize upd H' lq (.lst ys)=H6 at S6 r6
 refine⟨lq,ys,kvs,rfl,SqL.of r6,pr'.same S6,by omega,?_,fun dd mdd=>?_⟩
 ·rw[vF sh']
  exact rP (fun a _ b _ e=>DR e) nd
 have S7:=aH.upd (o:=.dK kvs) mdd
 have r7:upd H6 dd (.dK kvs) dd=some (.dK kvs):=aC
 generalize upd H6 dd (.dK kvs)=H7 at S7 r7
 have T7:=S6.trans S7
 have KK:∀ b o,b≠Tb→H b=some o→H6 b=some o:=fun b o n e=>S6 _ _ (k' _ _ (fun z=>by rw[z,nH] at e;cases e) (T3 _ _ (K1 _ _ n e)))
 have tab6:qZ Tb H6:=(aJM k' (.inl r3) (tab1.keep T3)).keep S6
 refine q dd kvs H7 (fun b o n e=>S7 _ _ (KK b o n e)) (tab6.keep S7) ?_ r7 (yE.mono sh' fun a xs e=>T7 _ _ e)
 cases e:H dd with
 | none=>rfl
 | some o =>
  by_cases z:dd=Tb
  ·obtain⟨qs,eT,_⟩:=tab6
   rw[z,eT] at mdd
   cases mdd
  ·rw[KK _ _ z e] at mdd
   cases mdd
open Mt22 MtF
noncomputable def aFD(zs:List Str):Dv→Bool
 | .lst ds=>ds.all (fO zs)
 | _=>false
noncomputable def iM:List Dv→List Str
 | []=>[]
 | .str z :: ds=>z :: iM ds
 | _ :: ds=>iM ds
noncomputable def iZ(zs:List Str)(d:Dv):Bool:=zD (zs.length:Int) d && aFD zs d && (match d with | .lst ds=>decide ((iM ds).Nodup) | _=>false)
theorem aFC{zs:List Str}:∀ {ds:List Dv},ds.all (fO zs)=true→ds=(iM ds).map Dv.str∧∀ z∈iM ds,z∈zs
 | [],_=>⟨rfl,fun z m=>by cases m⟩
 | d :: ds,h=>by
  rw[Cy,AV] at h
  obtain⟨e,s⟩:=aFC h.2
  cases d with
  | str z =>
   refine⟨?_,fun y m=>?_⟩
   ·show Dv.str z :: ds=Dv.str z :: (iM ds).map Dv.str
    rw[← e]
   ·rcases Ac.mp m with rfl | m
    ·exact of_decide_eq_true h.1
    ·exact s y m
  | _=>cases h.1
theorem aHM{H:Hp}:∀ {zs:List Str} {us:List V},IsL H (zs.map Dv.str) us→us=zs.map V.str
 | [],us,h=>h
 | z :: zs,us,⟨v,r,e,hv,t⟩=>by
  rw[e,show v=.str z from hv,aHM t]
  rfl
def aHP(C:Addr):Sp:=sp2 fun x y H Q=>∃ (p:Addr) (fs ds:List Dv) (d:Dv),x=.ref p∧LandAt C H p fs ds∧Is H d y∧cI d=true∧∀ H',aH H H'→Q (.bl (iZ (fs.map aL) d)) H'
theorem lD(T:Txt K mg C):Fc P w K mg base 2 "are_some_fields" ["land","thing"] (aHP C):=by
 have G_land_p_field_names:Mc P w K mg base 1 C "field_names" ["self"] (aAO C fun fs _=>fs.map aL):=gH T
 have G_p_is_list_of:Fc P w K mg base 1 "is_list_of" ["thing","most"] lK:=fJ T
 have G_p_is_one_of:Fc P w K mg base 1 "is_one_of" ["thing","names"] (pU K):=fZ T
 refine T.d_p_are_some_fields.fc dN iU (fun f cdv A outer s H vs Q E hr h=>?_)
 obtain⟨x,y,rfl,p,fs,ds,d,rfl,L,hd,sm,q⟩:=h
 have big:=bY
 have gf:=(cJ L).1
 have f2:=gf.l2
 obtain⟨dx,d1,d2,hx,_⟩:=L.ex
 refine⟨_,(@aE _ _ _ _ _ (@aV _ _ (2) _ _ _ _ dN.nd rfl (Or.inr rfl) (@aIF _ _ _ _ _ _ _ _ _ _ _ T.cl_Land G_land_p_field_names (hr.mono (by decide)) (pv 0) (by rfl)) (by rfl) (by trivial)) (@aE _ _ _ _ _ (@dX _ _ _ _ _ _ _ _ (@PW.pt _ _ _ (@lX _ _ _ _ _ _ _ (@dR _ _ _ _ (@dI _ _ _ (@bE _ _ _ _ _ _ _ _ _ _ G_p_is_list_of (hr.mono (by decide)) (@aA _ _ _ _ _ (pv 1) (@aA _ _ _ _ _ (@aQ _ _ _ _ _ _ _ _ _ (@aY _ (K) rfl) rfl T.n_len bG (@aA _ _ _ _ _ (pv 2) aB (by rfl)) (by decide) (by decide) (by rfl) (by rfl)) aB (by rfl)) (by rfl)) (by rfl) (by decide) (by rfl) (by rfl)) (by intro _;rfl))) (@jF _ _ _ _ (@dR _ _ _ _ (@dI _ _ _ (@aQ _ _ _ _ _ _ _ _ _ (@kC _ rfl) rfl T.n_all iI (@aA _ _ _ _ _ (@cD _ _ _ _ _ _ _ _ _ _ _ ["name","names"] 1 [2] rfl (@bP _ _ _ _ (pv 1)) (fun R=>@bA _ _ (0) _ (show Aw (["name","names"]:List Str) by decide +kernel) rfl (Or.inl rfl) (by trivial)) (@aW _ _ (by decide)) (fun R=>bZ) (fun R=>(@bE _ _ _ _ _ _ _ _ _ _ G_p_is_one_of (hr.mono (by decide)) (@aA _ _ _ _ _ (pv 0) (@aA _ _ _ _ _ (pv 1) aB (by rfl)) (by rfl)) (by rfl) (by decide) (by rfl) (by rfl))) (by rfl) (by rfl) (by rfl) (by rfl) (by rfl) (by rfl) (by rfl) (by intro _;rfl)) aB (by rfl)) (by decide) (by decide) (by rfl) (by rfl)) (by intro _;rfl)))))) (@aG _ _ _ (@aT _ _ _ _ jT)) bW) (@aG _ _ _ (@aT _ _ _ _ (@dW _ _ _ _ _ _ _ _ kY (@aQ _ _ _ _ _ _ _ _ _ call_len_set rfl T.n_len bG (@aA _ _ _ _ _ (@bJ _ _ _ _ _ _ _ _ _ (@jJ _ rfl) rfl T.n_set sL (@aA _ _ _ _ _ (pv 1) aB (by rfl)) (by decide) (by decide) (by rfl) (by rfl)) aB (by rfl)) (by decide) (by decide) (by rfl) (by rfl)) (@aQ _ _ _ _ _ _ _ _ _ (@aY _ (K) rfl) rfl T.n_len bG (@aA _ _ _ _ _ (pv 1) aB (by rfl)) (by decide) (by decide) (by rfl) (by rfl)) (@bT _ _ (by decide) (by decide))))))),?_⟩
 refine⟨_,rfl,p,dx,_,rfl,hx,iV _ _ (by decide +kernel) (by decide +kernel),_,rfl,p,fs,ds,rfl,L,fun ln H1 S1 fln hln=>?_⟩
 have hd1:=Is.same S1 _ _ hd
 have ln0:((fs.map aL).map V.str).length=(fs.map aL).length:=AA ..
 refine⟨_,rfl,_,rfl,ln,_,rfl,.inl (SqL.of hln),_,_,rfl,d,_,hd1,rfl,_,rfl,?_⟩
 rw[ln0]
 cases hb:zD ((fs.map aL).length:Int) d with
 | false =>
  refine cR (cR ?_)
  have e:iZ (fs.map aL) d=false:=by unfold iZ;rw[hb];rfl
  rw[e] at q
  exact q _ S1
 | true =>
  refine bM ?_
  cases d with
  | lst es =>
   obtain⟨l,us,rfl,ol,iu⟩:=hd1
   have lu:=iu.length
   have les:es.length≤1000:=of_decide_eq_true (An.mp sm).1
   refine⟨_,rfl,l,rfl,⟨_,SqL.of ol⟩,?_⟩
   refine bH (F:=K) (xs:=us) (by omega) (fun i ys H'=>H1=H'∧ys=((es.take i).map (fO (fs.map aL))).map V.bl) ⟨rfl,rfl⟩ ?_ ?_ ?_
   ·rintro i ys H' hi' ⟨rfl,rfl⟩
    exact⟨SqL.of ol,by rw[AA,AA,AR];omega⟩
   ·rintro i xv ys H' K1 K2 hx ⟨rfl,rfl⟩ k1 k2
    have hil:i<us.length:=(AC.mp hx).1
    obtain⟨e,ee⟩:∃ e,es[i]?=some e:=⟨_,AB (by omega)⟩
    obtain⟨v,ev,iv⟩:=(show IsL H1 es us from iu).get ee
    rw[hx] at ev
    cases ev
    refine⟨_,rfl,_,rfl,_,_,rfl,e,ln,_,iv,rfl,SqL.of hln,?_⟩
    refine k1 _ _ ⟨rfl,?_⟩
    rw[Aa,ee,AT,AT]
    rfl
   rintro ys H' ⟨rfl,rfl⟩
   rw[lu,AG (AL _)]
   intro p4 hp4
   have S4:=aH.upd (o:=.lst ((es.map (fO (fs.map aL))).map V.bl)) hp4
   refine⟨p4,es.map (fO (fs.map aL)),rfl,SqL.of aC,_,rfl,?_⟩
   have eall:(es.map (fO (fs.map aL))).all id=es.all (fO (fs.map aL)):=by rw[Dh];rfl
   rw[eall]
   cases ha:es.all (fO (fs.map aL)) with
   | false =>
    refine cR ?_
    have e:iZ (fs.map aL) (.lst es)=false:=by unfold iZ;rw[show aFD (fs.map aL) (.lst es)=false from ha];simp
    rw[e] at q
    exact q _ (S1.trans S4)
   | true =>
    refine bM ?_
    obtain⟨ees,sub⟩:=aFC ha
    generalize hz:iM es=zs at ees sub
    have e:iZ (fs.map aL) (.lst es)=decide (zs.Nodup):=by
     show (zD ((fs.map aL).length:Int) (.lst es) && aFD (fs.map aL) (.lst es) && decide ((iM es).Nodup))=_
     rw[hb,show aFD (fs.map aL) (.lst es)=true from ha,hz]
     rfl
    rw[e] at q
    have eus:us=zs.map V.str:=by
     rw[ees] at iu
     exact aHM iu
    have lz:zs.length≤1000:=by rw[eus,AA] at lu;omega
    rw[eus] at ol
    have hl4:=S4 _ _ ol
    refine⟨_,rfl,l,zs.map Sum.inr,rfl,SqL.of (by rw[hl4,aBS]),by rw[AA];omega,fun p5 hp5=>?_⟩
    have hle:=aCE (zs.map (Sum.inr:Str→Key))
    rw[AA] at hle
    refine⟨p5,_,_,rfl,aC,by omega,_,rfl,l,zs.map V.str,rfl,.inl (SqL.of (by rw[aI (aN hl4 hp5)];exact hl4)),rfl,?_⟩
    have e:decide (V.int ((uI (zs.map (Sum.inr:Str→Key))).length:Int)=V.int ((zs.map V.str).length:Int))=decide zs.Nodup:=by
     rw[gR,AA,Bb,decide_eq_true_eq,decide_eq_true_eq,← fP,← sG,AA]
     omega
    rw[e]
    exact q _ (S1.trans (S4.trans (aH.upd hp5)))
  | _=>cases hb
open Mt53 Mt22 MtF Mt31 Mt61
def aHO(mg:Str→Option Value)(C:Addr):Sp:=fun vs H Q E=>∃ (x y u:V) (p:Addr) (fs ds:List Dv) (d e:Dv) (c:Addr),vs=[x,y,u]∧x=.ref p∧LandAt C H p fs ds∧Is H d y∧cI d=true∧Is H e u∧(iZ (fs.map aL) d=false∨dZ e=false)∧mg "NoWish"=some (.ref c)∧∀ H',aH H H'→E (.ref c) none H'
theorem rM(T:Txt K mg C):FcX P w K mg base 3 "check_wish" ["land","fields","height"] (aHO mg C):=by
 obtain⟨c_NoWish,c_TooMany,c_DykeError,ex_NoWish,ex_TooMany,hm_NoWish,hm_TooMany,hm_DykeError,kx_NoWish_DykeError,kx_NoWish_ValueError,kx_NoWish_NoWish,kx_NoWish_TooMany,kx_TooMany_DykeError,kx_TooMany_ValueError,kx_TooMany_NoWish,kx_TooMany_TooMany,xc_NoWish_DykeError,xc_TooMany_DykeError⟩:=T.xs
 have G_p_are_some_fields:Fc P w K mg base 2 "are_some_fields" ["land","thing"] (aHP C):=lD T
 have G_p_is_height:Fc P w K mg base 2 "is_height" ["thing"] gT:=dE T
 refine T.d_p_check_wish.fcX kT (fun vs H Q E h=>?_) (fun f cdv A outer s H vs Q E hr h=>?_)
 ·obtain⟨x,y,u,p,fs,ds,d,e,c,rfl,_⟩:=h
  rfl
 obtain⟨x,y,u,p,fs,ds,d,e,c,rfl,rfl,L,hd,sm,he,bad,hc,q⟩:=h
 rw[hm_NoWish] at hc
 cases hc
 refine⟨_,(@aE _ _ _ _ _ (@dX _ _ _ _ _ _ _ _ (@PW.pt _ _ _ (@lX _ _ _ _ _ _ _ (@dR _ _ _ _ (@dI _ _ _ (@bE _ _ _ _ _ _ _ _ _ _ G_p_are_some_fields (hr.mono (by decide)) (@aA _ _ _ _ _ (pv 0) (@aA _ _ _ _ _ (pv 1) aB (by rfl)) (by rfl)) (by rfl) (by decide) (by rfl) (by rfl)) (by intro _;rfl))) (@jF _ _ _ _ (@dR _ _ _ _ (@dI _ _ _ (@bE _ _ _ _ _ _ _ _ _ _ G_p_is_height (hr.mono (by decide)) (@aA _ _ _ _ _ (pv 2) aB (by rfl)) (by rfl) (by decide) (by rfl) (by rfl)) (by intro _;rfl)))))) (@aG _ _ _ (@aDT _ _ _ _ _ _ _ _ _ _ hm_NoWish ex_NoWish.ex rfl yV (@aA _ _ _ _ _ dS aB (by rfl)) (by rfl) (by decide) (by rfl) (by rfl))) bW) nM),?_⟩
 refine⟨_,rfl,_,rfl,_,_,rfl,p,fs,ds,d,rfl,L,hd,sm,fun H1 S1=>⟨_,rfl,?_⟩⟩
 cases hq:iZ (fs.map aL) d with
 | false=>exact cR (cR ⟨aS rfl,q _ S1⟩)
 | true =>
  refine bM ?_
  rcases bad with b | b
  ·rw[hq] at b
   cases b
  ·refine⟨_,rfl,_,rfl,e,Is.same S1 _ _ he,_,rfl,?_⟩
   rw[b]
   exact cR ⟨aS rfl,q _ S1⟩
open Mt53 Mt22 MtF Mt31 Mt61 Mt74
def aJG(zs:List Str)(d e:Dv)(x:Str):Prop:=(x="NoWish"∧(iZ zs d=false∨dZ e=false))∨(x="TooMany"∧∃ (ws:List Str) (L:Int),d=.lst (ws.map Dv.str)∧ws.Nodup∧(∀ z∈ws,z∈zs)∧8<ws.length∧e=.int L∧hgt L=true)
def aDC(mg:Str→Option Value)(C:Addr):Sp:=fun vs H Q E=>∃ (x y u:V) (p:Addr) (fs ds:List Dv) (d e:Dv) (nm:Str) (c:Addr),vs=[x,y,u]∧x=.ref p∧LandAt C H p fs ds∧Is H d y∧cI d=true∧Is H e u∧aJG (fs.map aL) d e nm∧mg nm=some (.ref c)∧∀ H',aH H H'→E (.ref c) none H'
theorem kZ(T:Txt K mg C):FcX P w K mg base 8 "companies" ["land","fields","height"] (aDC mg C):=by
 obtain⟨c_NoWish,c_TooMany,c_DykeError,ex_NoWish,ex_TooMany,hm_NoWish,hm_TooMany,hm_DykeError,kx_NoWish_DykeError,kx_NoWish_ValueError,kx_NoWish_NoWish,kx_NoWish_TooMany,kx_TooMany_DykeError,kx_TooMany_ValueError,kx_TooMany_NoWish,kx_TooMany_TooMany,xc_NoWish_DykeError,xc_TooMany_DykeError⟩:=T.xs
 refine T.d_p_companies.fcX eV (fun vs H Q E h=>?_) (fun f cdv A outer s H vs Q E hr h=>?_)
 ·obtain⟨x,y,u,p,fs,ds,d,e,nm,c,rfl,_⟩:=h
  rfl
 obtain⟨x,y,u,p,fs,ds,d,e,nm,c,rfl,rfl,L,hd,sm,he,bad,hc,q⟩:=h
 rcases bad with ⟨rfl,bad⟩ | ⟨rfl,ws,lv,rfl,nd,sub,l8,rfl,hL⟩
 ·have G_p_check_wish:FcX P w K mg base 3 "check_wish" ["land","fields","height"] (aHO mg C):=rM T
  refine⟨_,(@aE _ _ _ _ _ (@fC _ _ _ _ (aTE G_p_check_wish (hr.mono (by decide)) aII (@aA _ _ _ _ _ (pv 0) (@aA _ _ _ _ _ (pv 1) (@aA _ _ _ _ _ (pv 2) aB (by rfl)) (by rfl)) (by rfl))) (by rfl)) nM),?_⟩
  exact⟨_,rfl,_,rfl,_,rfl,_,_,_,p,fs,ds,d,e,c,rfl,rfl,L,hd,sm,he,bad,hc,q⟩
 ·have G_p_check_wish:Fc P w K mg base 3 "check_wish" ["land","fields","height"] (pT C):=hJ T
  rw[hm_TooMany] at hc
  cases hc
  obtain⟨l,us,rfl,hl,hi⟩:=hd
  have eu:=lJ hi
  subst eu
  have eh:u=.int lv:=he
  subst eh
  refine⟨_,(@aE _ _ _ _ _ (@fC _ _ _ _ (@bE _ _ _ _ _ _ _ _ _ _ G_p_check_wish (hr.mono (by decide)) (@aA _ _ _ _ _ (pv 0) (@aA _ _ _ _ _ (pv 1) (@aA _ _ _ _ _ (pv 2) aB (by rfl)) (by rfl)) (by rfl)) (by rfl) (by decide) (by rfl) (by rfl)) (by rfl)) (@aE _ _ _ _ _ (@dX _ _ _ _ _ _ _ _ (@cB _ _ _ _ _ _ _ _ aNG (@aQ _ _ _ _ _ _ _ _ _ (@aY _ (K) rfl) rfl T.n_len bG (@aA _ _ _ _ _ (pv 1) aB (by rfl)) (by decide) (by decide) (by rfl) (by rfl)) (@rK _ _ _ _ T.g_MOST_IN_A_WISH (by rfl) (by decide)) (@bT _ _ (by decide) (by decide))) (@aG _ _ _ (@aDT _ _ _ _ _ _ _ _ _ _ hm_TooMany ex_TooMany.ex rfl yV (@aA _ _ _ _ _ dS aB (by rfl)) (by rfl) (by decide) (by rfl) (by rfl))) bW) nM)),?_⟩
  refine⟨_,rfl,_,rfl,_,rfl,_,_,_,rfl,p,l,fs,ds,ws,lv,rfl,L,rfl,hl,by omega,nd,sub,rfl,hL,fun H1 S1=>?_⟩
  refine⟨_,rfl,l,_,rfl,.inl (SqL.of (S1 _ _ hl)),_,_,rfl,rfl,_,rfl,?_⟩
  have e8:decide ((8:Int)<((ws.map V.str).length:Int))=true:=decide_eq_true (by rw[AA];omega)
  rw[e8]
  exact cR ⟨aS rfl,q _ S1⟩
theorem aBK(T:Txt K mg C):FcX P w K mg base 9 "shares" ["land","fields","height"] (aDC mg C):=by
 have G_p_companies:FcX P w K mg base 8 "companies" ["land","fields","height"] (aDC mg C):=kZ T
 refine T.d_p_shares.fcX jA (fun vs H Q E h=>?_) (fun f cdv A outer s H vs Q E hr h=>?_)
 ·obtain⟨x,y,u,p,fs,ds,d,e,nm,c,rfl,_⟩:=h
  rfl
 obtain⟨x,y,u,p,fs,ds,d,e,nm,c,rfl,rfl,L,hd,sm,he,bad,hc,q⟩:=h
 refine⟨_,(@aE _ _ _ _ _ (@aV _ _ (3) _ _ _ _ jA.nd rfl (Or.inr rfl) (@bJ _ _ _ _ _ _ _ _ _ (@kB _ rfl hr.units) rfl T.n_dict fB (@aA _ _ _ _ _ (@cD _ _ _ _ _ _ _ _ _ _ _ ["row"] 1 [] rfl (@bP _ _ _ _ (aTE G_p_companies (hr.mono (by decide)) aII (@aA _ _ _ _ _ (pv 0) (@aA _ _ _ _ _ (pv 1) (@aA _ _ _ _ _ (pv 2) aB (by rfl)) (by rfl)) (by rfl)))) (fun R=>@bA _ _ (0) _ (show Aw (["row"]:List Str) by decide +kernel) rfl (Or.inl rfl) (by trivial)) (@aW _ _ (by decide)) (fun R=>bZ) (fun R=>(@dJ _ _ _ _ _ (@aA _ _ _ _ _ (@bJ _ _ _ _ _ _ _ _ _ (@mZ _ (K) rfl) rfl T.n_tuple hE (@aA _ _ _ _ _ (@aZ _ _ _ _ _ _ _ (@aO _ (K) rfl) (pv 0) aD (fun _ _=>rfl)) aB (by rfl)) (by decide) (by decide) (by rfl) (by rfl)) (@aA _ _ _ _ _ (@aZ _ _ _ _ _ _ _ (@aO _ (K) rfl) (pv 0) aD (fun _ _=>rfl)) aB (by rfl)) (by rfl)))) (by rfl) (by rfl) (by rfl) (by rfl) (by rfl) (by rfl) (by rfl) (by intro _;rfl)) aB (by rfl)) (by decide) (by decide) (by rfl) (by rfl)) (by rfl) (by trivial)) nM),?_⟩
 exact⟨_,rfl,_,rfl,_,rfl,_,_,_,p,fs,ds,d,e,nm,c,rfl,rfl,L,hd,sm,he,bad,hc,q⟩
open Mt53 Mt22 MtF Mt31 Mt61 Mt74
def aLT(K:AE):Sp:=sp1 fun x H Q=>Scr K H x∧∀ (l:Addr) (vs:List V) (fs:List Dv) (H':Hp),aH H H'→H l=none→H' l=some (.lst vs)→IsL H' fs vs→Fds fs 12→9≤fs.length→(∀ d∈fs,aL d≠Mt46.noSuch)→Q (.ref l) H'
theorem aKE(T:Txt K mg C):Fc P w K mg base 2 "_law_nine" ["_law_script"] (aLT K):=by
 have G_l_names:Fc P w K mg base 1 "_law_names" ["_law_cell"] aTT:=wH T
 have G_l_mixed:Fc P w K mg base 1 "_law_mixed" ["_law_script","_law_k"] (aLU K):=kK T
 have G_l_height:Fc P w K mg base 1 "_law_height" ["_law_cell"] aPZ:=mI T
 refine T.d_l_nine.fc nK mL (fun f cdv A outer s H vs Q E hr h=>?_)
 obtain⟨x,rfl,⟨a,ns,rfl,hS,hns⟩,q⟩:=h
 have scr:Scr K H (.ref a):=⟨a,ns,rfl,hS,hns⟩
 have big:=bY
 refine⟨_,(@aE _ _ _ _ _ (@aV _ _ (1) _ _ _ _ nK.nd rfl (Or.inl rfl) (@bE _ _ _ _ _ _ _ _ _ _ G_l_names (hr.mono (by decide)) (@aA _ _ _ _ _ (@bE _ _ _ _ _ _ _ _ _ _ G_l_mixed (hr.mono (by decide)) (@aA _ _ _ _ _ (pv 0) (@aA _ _ _ _ _ aD aB (by rfl)) (by rfl)) (by rfl) (by decide) (by rfl) (by rfl)) aB (by rfl)) (by rfl) (by decide) (by rfl) (by rfl)) (by rfl) (by trivial)) (@aE _ _ _ _ _ (@aV _ _ (2) _ _ _ _ nK.nd rfl (Or.inl rfl) (@cX _ _ _ _ aB) (by rfl) (by trivial)) (@aE _ _ _ _ _ (@gK _ _ _ _ _ _ _ _ BG rfl (@iE _ _ _ _ _ _ rfl T.n_range (@aA _ _ _ _ _ (@aM _ _ _ _ _ _ _ _ fK aD (@aM _ _ _ _ _ _ _ _ dC (@bE _ _ _ _ _ _ _ _ _ _ G_l_mixed (hr.mono (by decide)) (@aA _ _ _ _ _ (pv 0) (@aA _ _ _ _ _ aD aB (by rfl)) (by rfl)) (by rfl) (by decide) (by rfl) (by rfl)) aD)) aB (by rfl)) (by rfl)) (@bA _ _ (3) _ nK.nd rfl (Or.inl rfl) (by trivial)) (@aG _ _ _ (@fC _ _ _ _ (@mB _ _ _ _ _ _ _ _ _ _ _ _ BP BS BR fD (pv 2) (@aA _ _ _ _ _ (@dJ _ _ _ _ _ (@aA _ _ _ _ _ (@aZ _ _ _ _ _ _ _ (@cW _ (K) rfl) (pv 1) (pv 3) (fun _ _=>rfl)) (@aA _ _ _ _ _ (@bE _ _ _ _ _ _ _ _ _ _ G_l_height (hr.mono (by decide)) (@aA _ _ _ _ _ (@bE _ _ _ _ _ _ _ _ _ _ G_l_mixed (hr.mono (by decide)) (@aA _ _ _ _ _ (pv 0) (@aA _ _ _ _ _ (@aM _ _ _ _ _ _ _ _ fK aD (pv 3)) aB (by rfl)) (by rfl)) (by rfl) (by decide) (by rfl) (by rfl)) aB (by rfl)) (by rfl) (by decide) (by rfl) (by rfl)) (@aA _ _ _ _ _ (pv 3) aB (by rfl)) (by rfl)) (by rfl))) aB (by rfl)) (by rfl) (by rfl) (by rfl) (by rfl) (by rfl)) (by rfl))) (by intro _;rfl)) (@aG _ _ _ (@aT _ _ _ _ (pv 2)))))),?_⟩
 refine⟨_,rfl,_,_,rfl,0,scr,rfl,by decide,fun m0 hm0=>?_⟩
 refine⟨_,rfl,m0,rfl,fun zs ln H1 NM NX S1 nln hln=>?_⟩
 refine⟨aS rfl,fun l hl=>?_⟩
 have S2:=aH.upd (o:=.lst []) hl
 have nl:H l=none:=S1.free hl
 have hl2:upd H1 l (.lst []) l=some (.lst []):=aC
 have T2:=S1.trans S2
 have hln2:=S2 _ _ hln
 have nll:ln≠l:=fun z=>by rw[z,hl2] at hln2;have:=(HO.lst.inj (Ao hln2));have h1:=NM.l1;rw[← AA (f:=V.str),← this] at h1;exact absurd h1 (by decide)
 generalize upd H1 l (.lst [])=H2 at T2 hl2 hln2
 refine⟨_,rfl,_,_,rfl,1,scr.same T2,rfl,by decide,fun m1 hm1=>?_⟩
 have r0:0≤m1 % 4:=At _ (by decide)
 have r1:m1 % 4<4:=Au _ (by decide)
 obtain⟨cnt,hcnt⟩:=Ap (show 0≤9+m1 % 4 by omega)
 refine⟨_,_,rfl,rfl,(lY rfl),_,_,rfl,rfl,_,rfl,by show -(2 ^ 62)≤9+m1 % 4;omega,by show 9+m1 % 4<2 ^ 62;omega,?_⟩
 rw[show (9+m1 % 4).toNat=cnt by omega]
 have nz:=NM.l1
 refine gM (lo:=0) (n:=cnt) (fun i σ H'=>∃ (v3:Option V) (vs:List V) (es:List Dv),σ=[some (.ref a),some (.ref ln),some (.ref l),v3]∧rA l H2 H'∧H' l=some (.lst vs)∧IsL H' es vs∧es.map aL=zs.take i∧es.length=i∧∀ d∈es,cH d=true) ⟨_,[],[],rfl,(fun b o e _=>e),hl2,rfl,rfl,rfl,fun d m=>by cases m⟩ ?_ ?_
 ·rintro i σ H' hi ⟨v3,ys,es,rfl,X,hly,iy,en,le,all⟩
  have SH:aH H H':=fun b o e=>X _ _ (T2 _ _ e) (fun z=>by rw[z,nl] at e;cases e)
  have ly:=iy.length
  obtain⟨z,ez⟩:∃ z,zs[i]?=some z:=⟨_,AB (by omega)⟩
  have zi:(0:Int)+(i:Int)=(i:Int):=ET _
  refine gσ (σ':=[some (.ref a),some (.ref ln),some (.ref l),some (.int (0+(i:Int)))]) rfl ?_
  refine⟨_,rfl,.inl ⟨rfl,_,SqL.of hly⟩,?_⟩
  refine⟨_,rfl,_,rfl,ln,_,_,.str z,rfl,rfl,SqL.of (X _ _ hln2 nll),(by rw[zi];exact aK (by rw[AH,ez];rfl)),?_⟩
  refine⟨_,rfl,_,rfl,_,_,rfl,rfl,_,_,rfl,_,scr.same SH,rfl,by show 0≤2+(0+(i:Int));omega,fun mc hmc=>⟨_,rfl,_,rfl,fun g hg=>?_⟩⟩
  refine⟨_,rfl,aS rfl,fun t ht=>?_⟩
  have A2:=aH.upd (o:=.tup [.str z,.int g,.int (0+(i:Int))]) ht
  have hl5:=A2 _ _ hly
  refine⟨l,_,_,rfl,rfl,hl5,by omega,?_⟩
  have nmz:=NM.nm z (AI ez)
  have ntl:t≠l:=fun e=>by rw[e,hly] at ht;cases ht
  have kp:gI H' (upd (upd H' t (.tup [.str z,.int g,.int (0+(i:Int))])) l (.lst (ys++[.ref t]))):=fun b xs e=>by
   rw[aI (fun z=>by rw[z,hly] at e;cases e)]
   exact A2 _ _ e
  have hh:=uT hg
  refine⟨_,ys++[.ref t],es++[.tup [.str z,.int g,.int (0+(i:Int))]],rfl,(X.then A2).put,aC,IsL.snoc ?_ (IsL.keep kp _ _ (fA fun d m=>aGU (all d m)) iy),?_,by rw[AX,le];rfl,?_⟩
  ·exact⟨t,_,rfl,by rw[aI ntl,aC],_,_,rfl,rfl,_,_,rfl,rfl,_,_,rfl,rfl,rfl⟩
  ·rw[AT,en,Aa,ez]
   rfl
  ·intro d md
   rcases Ar.mp md with md | md
   ·exact all d md
   ·rw[AS.mp md]
    exact aOO nmz hh.1 hh.2 (by omega) (by omega)
 ·rintro σ H' ⟨v3,ys,es,rfl,X,hly,iy,en,le,all⟩
  have SH:aH H H':=fun b o e=>X _ _ (T2 _ _ e) (fun z=>by rw[z,nl] at e;cases e)
  refine⟨_,rfl,q l ys es H' SH nl hly iy ⟨by omega,by omega,all,?_⟩ (by omega) fun d md=>?_⟩
  ·rw[en]
   exact NM.nd.sublist (DH _ _)
  ·have:aL d∈zs.take cnt:=by rw[← en];exact AM.mpr ⟨d,md,rfl⟩
   exact NX _ (CQ this)
open Mt53 Mt22 MtF Mt31 Mt61 Mt74
noncomputable def uU(nm:Str):Str:=if nm="NoWish" then "wish" else "many"
def aLR(C:Addr):Sp:=sp4 fun x y u v H Q=>∃ (p:Addr) (fs ds:List Dv) (d e:Dv) (nm:Str) (k:Int),x=.ref p∧LandAt C H p fs ds∧Is H d y∧cI d=true∧Is H e u∧aJG (fs.map aL) d e nm∧v=.int k∧∀ H',aH H H'→Q (.str (uU nm)) H'
theorem aBP(T:Txt K mg C):Fc P w K mg base 10 "_law_refused" ["_law_land","_law_wish","_law_height_here","_law_way"] (aLR C):=by
 obtain⟨c_NoWish,c_TooMany,c_DykeError,ex_NoWish,ex_TooMany,hm_NoWish,hm_TooMany,hm_DykeError,kx_NoWish_DykeError,kx_NoWish_ValueError,kx_NoWish_NoWish,kx_NoWish_TooMany,kx_TooMany_DykeError,kx_TooMany_ValueError,kx_TooMany_NoWish,kx_TooMany_TooMany,xc_NoWish_DykeError,xc_TooMany_DykeError⟩:=T.xs
 have G_p_companies:FcX P w K mg base 8 "companies" ["land","fields","height"] (aDC mg C):=kZ T
 have G_p_shares:FcX P w K mg base 9 "shares" ["land","fields","height"] (aDC mg C):=aBK T
 refine T.d_l_refused.fc pW aXQ (fun f cdv A outer s H vs Q E hr h=>?_)
 obtain⟨x,y,u,v,rfl,p,fs,ds,d,e,nm,k,rfl,L,hd,sm,he,bad,rfl,q⟩:=h
 refine⟨_,(@aE _ _ _ _ _ (@aQR _ _ _ _ _ _ _ _ _ _ _ _ (4) pW.nd rfl rfl hm_DykeError (@aXK _ _ _ _ _ _ _ _ (@cB _ _ _ _ _ _ _ _ kY (pv 3) aD (@bT _ _ (by decide) (by decide))) (@aIH _ _ _ _ (@aXJ _ _ _ _ _ _ _ _ _ _ G_p_shares (hr.mono (by decide)) (@aA _ _ _ _ _ (pv 0) (@aA _ _ _ _ _ (pv 1) (@aA _ _ _ _ _ (pv 2) aB (by rfl)) (by rfl)) (by rfl)) (by rfl) (by decide) (by rfl) (by rfl)) (by rfl)) (@aIH _ _ _ _ (@aXJ _ _ _ _ _ _ _ _ _ _ G_p_companies (hr.mono (by decide)) (@aA _ _ _ _ _ (pv 0) (@aA _ _ _ _ _ (pv 1) (@aA _ _ _ _ _ (pv 2) aB (by rfl)) (by rfl)) (by rfl)) (by rfl) (by decide) (by rfl) (by rfl)) (by rfl))) (fun ea=>(@aE _ _ _ _ _ (@dX _ _ _ _ _ _ _ _ (@dR _ _ _ _ (@dI _ _ _ (@aQ _ _ _ _ _ _ _ _ _ (@kQ _ (K) rfl) rfl T.n_isinstance bO (@aA _ _ _ _ _ (pv 4) (@aA _ _ _ _ _ (@qI _ _ _ _ T.n_ValueError PyProof.Rows.Boot.«ValueError» (by rfl) (by decide) (by decide)) aB (by rfl)) (by rfl)) (by decide) (by decide) (by rfl) (by rfl)) (by intro _;rfl))) (@aG _ _ _ (@aT _ _ _ _ dS)) bW) (@aG _ _ _ (@aT _ _ _ _ (@aM _ _ _ _ _ _ _ _ kI (@aM _ _ _ _ _ _ _ _ wB dS (@bJ _ _ _ _ _ _ _ _ _ zZ rfl T.n_int sN (@aA _ _ _ _ _ (@aQ _ _ _ _ _ _ _ _ _ (@kQ _ (K) rfl) rfl T.n_isinstance bO (@aA _ _ _ _ _ (pv 4) (@aA _ _ _ _ _ (@aBI _ _ (.ref c_NoWish) _ _ rfl hm_NoWish rfl (by decide)) aB (by rfl)) (by rfl)) (by decide) (by decide) (by rfl) (by rfl)) aB (by rfl)) (by decide) (by decide) (by rfl) (by rfl))) (@aM _ _ _ _ _ _ _ _ wB dS (@bJ _ _ _ _ _ _ _ _ _ zZ rfl T.n_int sN (@aA _ _ _ _ _ (@aQ _ _ _ _ _ _ _ _ _ (@kQ _ (K) rfl) rfl T.n_isinstance bO (@aA _ _ _ _ _ (pv 4) (@aA _ _ _ _ _ (@aBI _ _ (.ref c_TooMany) _ _ rfl hm_TooMany rfl (by decide)) aB (by rfl)) (by rfl)) (by decide) (by decide) (by rfl) (by rfl)) aB (by rfl)) (by decide) (by decide) (by rfl) (by rfl)))))))) (by rfl) (by decide) (by rfl) (by rfl)) (@aG _ _ _ (@aT _ _ _ _ dS))),?_⟩
 rcases bad with ⟨rfl,b⟩ | ⟨rfl,b⟩
 ·have bad:aJG (fs.map aL) d e "NoWish":=.inl ⟨rfl,b⟩
  refine⟨_,rfl,rfl,_,rfl,?_⟩
  refine lF (fun _=>?_) (fun _=>?_)
  all_goals refine⟨_,rfl,_,rfl,_,rfl,_,_,_,p,fs,ds,d,e,_,c_NoWish,rfl,rfl,L,hd,sm,he,bad,hm_NoWish,fun H1 S1=>⟨xc_NoWish_DykeError,fun ea hea=>?_⟩⟩
  all_goals
   have S2:=aH.upd (o:=uG ea (.ref c_NoWish)) hea
   have hee:upd H1 ea (uG ea (.ref c_NoWish)) ea=some (uG ea (.ref c_NoWish)):=aC
   generalize upd H1 ea (uG ea (.ref c_NoWish))=H2 at hee S2
   refine⟨_,rfl,ea,_,_,c_NoWish,true,rfl,rfl,hee,ex_NoWish,kx_NoWish_ValueError,_,rfl,bM ?_⟩
   refine⟨_,rfl,ea,_,_,c_NoWish,true,rfl,rfl,hee,ex_NoWish,kx_NoWish_NoWish,.inr ⟨_,rfl,_,_,rfl,rfl,by decide,by decide,by decide,?_⟩⟩
   refine⟨_,rfl,ea,_,_,c_NoWish,false,rfl,rfl,hee,ex_NoWish,kx_NoWish_TooMany,.inr ⟨_,rfl,_,_,rfl,rfl,by decide,by decide,by decide,?_⟩⟩
   exact⟨_,_,rfl,rfl,by decide +kernel,q _ (S1.trans S2)⟩
 ·have bad:aJG (fs.map aL) d e "TooMany":=.inr ⟨rfl,b⟩
  refine⟨_,rfl,rfl,_,rfl,?_⟩
  refine lF (fun _=>?_) (fun _=>?_)
  all_goals refine⟨_,rfl,_,rfl,_,rfl,_,_,_,p,fs,ds,d,e,_,c_TooMany,rfl,rfl,L,hd,sm,he,bad,hm_TooMany,fun H1 S1=>⟨xc_TooMany_DykeError,fun ea hea=>?_⟩⟩
  all_goals
   have S2:=aH.upd (o:=uG ea (.ref c_TooMany)) hea
   have hee:upd H1 ea (uG ea (.ref c_TooMany)) ea=some (uG ea (.ref c_TooMany)):=aC
   generalize upd H1 ea (uG ea (.ref c_TooMany))=H2 at hee S2
   refine⟨_,rfl,ea,_,_,c_TooMany,true,rfl,rfl,hee,ex_TooMany,kx_TooMany_ValueError,_,rfl,bM ?_⟩
   refine⟨_,rfl,ea,_,_,c_TooMany,false,rfl,rfl,hee,ex_TooMany,kx_TooMany_NoWish,.inr ⟨_,rfl,_,_,rfl,rfl,by decide,by decide,by decide,?_⟩⟩
   refine⟨_,rfl,ea,_,_,c_TooMany,true,rfl,rfl,hee,ex_TooMany,kx_TooMany_TooMany,.inr ⟨_,rfl,_,_,rfl,rfl,by decide,by decide,by decide,?_⟩⟩
   exact⟨_,_,rfl,rfl,by decide +kernel,q _ (S1.trans S2)⟩
def aMA(K:AE)(C:Addr):Sp:=sp2 fun x y H Q=>∃ (l:Addr) (vf:List V) (fs:List Dv),Scr K H x∧y=.ref l∧H l=some (.lst vf)∧IsL H fs vf∧Fds fs 12∧9≤fs.length∧∀ (p:Addr) (ds:List Dv) (H':Hp),aH H H'→LandAt C H' p fs ds→Q (.ref p) H'
theorem aKF(T:Txt K mg C):Fc P w K mg base 8 "_law_bare" ["_law_script","_law_fields"] (aMA K C):=by
 have G_l_mixed:Fc P w K mg base 1 "_law_mixed" ["_law_script","_law_k"] (aLU K):=kK T
 have G_land_pinit:Ic P w K mg base 6 C ["self","fields","dykes"] (aFN C):=oT T
 refine T.d_l_bare.fc rH iU (fun f cdv A outer s H vs Q E hr h=>?_)
 obtain⟨x,y,rfl,lf,vf,fs,scr,rfl,hf,hi,gf,f9,q⟩:=h
 have big:=bY
 obtain⟨a,ns,rfl,hS,hns⟩:=id scr
 have at_:∀ i:Nat,i<9→∃ (d:Dv) (t:Addr) (g e:Int),fs[i]?=some d∧vf[i]?=some (.ref t)∧H t=some (.tup [.str (aL d),.int g,.int e]):=fun i hi9=>by
  obtain⟨d,ed⟩:∃ d,fs[i]?=some d:=⟨_,AB (by omega)⟩
  obtain⟨v,ev,iv⟩:=hi.get ed
  obtain⟨z,g,e,rfl,_⟩:=bK (gf.all d (AI ed))
  obtain⟨t,rfl,o⟩:=iH iv
  exact⟨_,t,g,e,ed,ev,o⟩
 obtain⟨d0,t0,g0,e0,ed0,ev0,ht0⟩:=at_ 0 (by decide)
 obtain⟨d1,t1,g1,e1,ed1,ev1,ht1⟩:=at_ 1 (by decide)
 obtain⟨d2,t2,g2,e2,ed2,ev2,ht2⟩:=at_ 2 (by decide)
 refine⟨_,(@aE _ _ _ _ _ (@aV _ _ (2) _ _ _ _ rH.nd rfl (Or.inl rfl) (@cX _ _ _ _ (@aA _ _ _ _ _ (@dJ _ _ _ _ _ (@aA _ _ _ _ _ dS (@aA _ _ _ _ _ dS (@aA _ _ _ _ _ (@aZ _ _ _ _ _ _ _ (@aO _ (K) rfl) (@aZ _ _ _ _ _ _ _ (@cW _ (K) rfl) (pv 1) aD (fun _ _=>rfl)) aD (fun _ _=>rfl)) (@aA _ _ _ _ _ aD (@aA _ _ _ _ _ aD (@aA _ _ _ _ _ kG aB (by rfl)) (by rfl)) (by rfl)) (by rfl)) (by rfl)) (by rfl))) aB (by rfl))) (by rfl) (by trivial)) (@aE _ _ _ _ _ (@gK _ _ _ _ _ _ _ _ BG rfl (@yW _ _ _ _ _ _ _ rfl T.n_range (@aA _ _ _ _ _ aD (@aA _ _ _ _ _ aD aB (by rfl)) (by rfl)) (by rfl) (by rfl)) (@bA _ _ (3) _ rH.nd rfl (Or.inl rfl) (by trivial)) (@aG _ _ _ (@fC _ _ _ _ (@mB _ _ _ _ _ _ _ _ _ _ _ _ BP BS BR fD (pv 2) (@aA _ _ _ _ _ (@dJ _ _ _ _ _ (@aA _ _ _ _ _ (@aM _ _ _ _ _ _ _ _ kI dS (@aZ _ _ _ _ _ _ _ aGL dS (@aM _ _ _ _ _ _ _ _ eY (pv 3) aD) (fun _ _=>rfl))) (@aA _ _ _ _ _ (@aZ _ _ _ _ _ _ _ (@aO _ (K) rfl) (@aZ _ _ _ _ _ _ _ (@cW _ (K) rfl) (pv 1) (@aM _ _ _ _ _ _ _ _ eY (pv 3) aD) (fun _ _=>rfl)) aD (fun _ _=>rfl)) (@aA _ _ _ _ _ (@aZ _ _ _ _ _ _ _ (@aO _ (K) rfl) (@aZ _ _ _ _ _ _ _ (@cW _ (K) rfl) (pv 1) (pv 3) (fun _ _=>rfl)) aD (fun _ _=>rfl)) (@aA _ _ _ _ _ (@aM _ _ _ _ _ _ _ _ eY (@aM _ _ _ _ _ _ _ _ dC (@bE _ _ _ _ _ _ _ _ _ _ G_l_mixed (hr.mono (by decide)) (@aA _ _ _ _ _ (pv 0) (@aA _ _ _ _ _ (pv 3) aB (by rfl)) (by rfl)) (by rfl) (by decide) (by rfl) (by rfl)) aD) aD) (@aA _ _ _ _ _ (@aM _ _ _ _ _ _ _ _ fK aD (pv 3)) (@aA _ _ _ _ _ kG aB (by rfl)) (by rfl)) (by rfl)) (by rfl)) (by rfl)) (by rfl))) aB (by rfl)) (by rfl) (by rfl) (by rfl) (by rfl) (by rfl)) (by rfl))) (by intro _;rfl)) (@aG _ _ _ (@aT _ _ _ _ (@aTD _ _ _ _ _ _ _ _ _ _ _ T.mg_Land G_land_pinit (hr.mono (by decide)) (@aA _ _ _ _ _ (pv 1) (@aA _ _ _ _ _ (pv 2) aB (by rfl)) (by rfl)) (by rfl) (by decide) (by rfl) (by rfl)))))),?_⟩
 refine⟨_,rfl,lf,_,0,_,rfl,rfl,SqL.of hf,aK (j:=0) ev0,t0,_,0,_,rfl,rfl,SqT.of ht0,aK (j:=0) rfl,aS rfl,fun ta ma=>?_⟩
 have S1:=aH.upd (o:=.tup [.str "dk",.str "sea",.str (aL d0),.int 0,.int 1,.non]) ma
 have r1:upd H ta (.tup [.str "dk",.str "sea",.str (aL d0),.int 0,.int 1,.non]) ta=some (.tup [.str "dk",.str "sea",.str (aL d0),.int 0,.int 1,.non]):=aC
 generalize upd H ta (.tup [.str "dk",.str "sea",.str (aL d0),.int 0,.int 1,.non])=H1 at S1 r1
 refine⟨aS rfl,fun ld md=>?_⟩
 have S2:=aH.upd (o:=.lst [.ref ta]) md
 have r2:upd H1 ld (.lst [.ref ta]) ld=some (.lst [.ref ta]):=aC
 have nld:H ld=none:=S1.free md
 generalize upd H1 ld (.lst [.ref ta])=H2 at S2 r2
 refine gσ (σ':=[some (.ref a),some (.ref lf),some (.ref ld),none]) rfl ?_
 have T2:=S1.trans S2
 have nm0:∀ {i:Nat} {d:Dv},fs[i]?=some d→aL d∈fs.map aL:=fun e=>AM.mpr ⟨_,AI e,rfl⟩
 have nsea:∀ {i:Nat} {d:Dv},fs[i]?=some d→("sea":Str)≠aL d:=fun {i d} e z=>by
  obtain⟨y,g,e',rfl,hn,_⟩:=bK (gf.all d (AI e))
  exact absurd hn (by rw[show y=("sea":Str) from z.symm];decide +kernel)
 have hd0:cO ("sea" :: fs.map aL) (.tup [.str "dk",.str "sea",.str (aL d0),.int 0,.int 1,.non])=true:=aCD (by decide +kernel) AO (AJ _ (nm0 ed0)) (nsea ed0) (by decide) (by decide) rfl
 refine⟨_,_,rfl,⟨by decide,by decide,by decide,by decide⟩,?_⟩
 rw[show ((3:Int) - 1).toNat=2 from rfl]
 refine gM (lo:=1) (n:=2) (fun i σ H'=>∃ (v3:Option V) (vs:List V) (es:List Dv),σ=[some (.ref a),some (.ref lf),some (.ref ld),v3]∧rA ld H2 H'∧H' ld=some (.lst vs)∧IsL H' es vs∧es.map aL=(["dk","dka","dkb"]:List Str).take (i+1)∧∀ d∈es,cO ("sea" :: fs.map aL) d=true) ⟨_,_,[.tup [.str "dk",.str "sea",.str (aL d0),.int 0,.int 1,.non]],rfl,(fun b o e _=>e),r2,⟨_,_,rfl,⟨ta,_,rfl,S2 _ _ r1,_,_,rfl,rfl,_,_,rfl,rfl,_,_,rfl,rfl,_,_,rfl,rfl,_,_,rfl,rfl,_,_,rfl,rfl,rfl⟩,rfl⟩,rfl,fun d m=>by rw[AS.mp m];exact hd0⟩ ?_ ?_
 ·rintro i σ H' hi2 ⟨v3,ys,es,rfl,X,hly,iy,en,all⟩
  have SH:aH H H':=fun b o e=>X _ _ (T2 _ _ e) (aN e nld)
  obtain⟨dA,tA,gA,eA,edA,evA,htA⟩:=at_ i (by omega)
  obtain⟨dB,tB,gB,eB,edB,evB,htB⟩:=at_ (i+1) (by omega)
  refine gσ (σ':=[some (.ref a),some (.ref lf),some (.ref ld),some (.int (1+(i:Int)))]) rfl ?_
  refine⟨_,rfl,.inl ⟨rfl,_,SqL.of hly⟩,?_⟩
  have i1:(1:Int)+(i:Int) - 1=(i:Int):=by omega
  obtain⟨c,nm,ec,enm,hnm,ent⟩:∃ (c:Nat) (nm:Str),atI ("ab":Str).cps.toList ((1:Int)+(i:Int) - 1)=some c∧("dk":Str)++(⟨#[c]⟩:Str)=nm∧eN nm=true∧(["dk","dka","dkb"]:List Str).take (i+1+1)=(["dk","dka","dkb"]:List Str).take (i+1)++[nm]:=by
   have:i=0∨i=1:=by omega
   rcases this with rfl | rfl
   ·exact⟨97,"dka",by decide +kernel,by decide +kernel,by decide +kernel,by decide +kernel⟩
   ·exact⟨98,"dkb",by decide +kernel,by decide +kernel,by decide +kernel,by decide +kernel⟩
  refine⟨_,rfl,_,_,rfl,rfl,_,_,c,rfl,rfl,by decide +kernel,ec,_,_,rfl,rfl,?_,?_⟩
  ·have:(("dk":Str).length+(⟨#[c]⟩:Str).length)=3:=rfl
   omega
  rw[enm]
  refine⟨_,rfl,_,rfl,_,_,rfl,rfl,lf,_,_,_,rfl,rfl,SqL.of (SH _ _ hf),(by rw[i1];exact aK evA),tA,_,0,_,rfl,rfl,SqT.of (SH _ _ htA),aK (j:=0) rfl,?_⟩
  refine⟨_,rfl,_,rfl,lf,_,_,_,rfl,rfl,SqL.of (SH _ _ hf),(by rw[show (1:Int)+(i:Int)=((i+1:Nat):Int) by omega];exact aK evB),tB,_,0,_,rfl,rfl,SqT.of (SH _ _ htB),aK (j:=0) rfl,?_⟩
  refine⟨_,rfl,_,rfl,_,_,rfl,_,scr.same SH,rfl,by show 0≤1+(i:Int);omega,fun mc hmc=>?_⟩
  have c0:=At mc (show (9:Int)≠0 by decide)
  have c9:=Au mc (show (0:Int)<9 by decide)
  refine⟨_,_,rfl,rfl,(lY rfl),_,_,rfl,rfl,_,rfl,_,_,rfl,rfl,aS rfl,fun t ht=>?_⟩
  have nAB:aL dA≠aL dB:=fun e=>by
   have:=mJ gf.nd (i:=i) (j:=i+1) (x:=aL dA) (by rw[AH,edA];rfl) (by rw[AH,edB,e];rfl)
   omega
  have hdk:cO ("sea" :: fs.map aL) (.tup [.str nm,.str (aL dA),.str (aL dB),.int (mc % 9 - 4),.int (1+(1+(i:Int))),.non])=true:=aCD hnm (AJ _ (nm0 edA)) (AJ _ (nm0 edB)) nAB (by unfold hgt;rw[decide_eq_true (by omega),decide_eq_true (by omega)];rfl) (by unfold amt;rw[decide_eq_true (by omega),decide_eq_true (by omega)];rfl) rfl
  have ly:=iy.length
  have les:=congrArg CS en
  rw[AA,AR] at les
  have A2:=aH.upd (o:=.tup [.str nm,.str (aL dA),.str (aL dB),.int (mc % 9 - 4),.int (1+(1+(i:Int))),.non]) ht
  have hl5:=A2 _ _ hly
  refine⟨ld,_,_,rfl,rfl,hl5,by have:(["dk","dka","dkb"]:List Str).length=3:=rfl;omega,?_⟩
  have ntl:t≠ld:=fun e=>by rw[e,hly] at ht;cases ht
  have kp:gI H' (upd (upd H' t (.tup [.str nm,.str (aL dA),.str (aL dB),.int (mc % 9 - 4),.int (1+(1+(i:Int))),.non])) ld (.lst (ys++[.ref t]))):=fun b xs e=>by
   rw[aI (fun z=>by rw[z,hly] at e;cases e)]
   exact A2 _ _ e
  refine⟨_,ys++[.ref t],es++[.tup [.str nm,.str (aL dA),.str (aL dB),.int (mc % 9 - 4),.int (1+(1+(i:Int))),.non]],rfl,(X.then A2).put,aC,IsL.snoc ?_ (IsL.keep kp _ _ (fA fun d m=>zQ (all d m)) iy),?_,?_⟩
  ·exact⟨t,_,rfl,by rw[aI ntl,aC],_,_,rfl,rfl,_,_,rfl,rfl,_,_,rfl,rfl,_,_,rfl,rfl,_,_,rfl,rfl,_,_,rfl,rfl,rfl⟩
  ·rw[AT,en,ent]
   rfl
  ·intro d md'
   rcases Ar.mp md' with md' | md'
   ·exact all d md'
   ·rw[AS.mp md']
    exact hdk
 ·rintro σ H3 ⟨v3,ys,es,rfl,X,hly,iy,en,all⟩
  have SH:aH H H3:=fun b o e=>X _ _ (T2 _ _ e) (aN e nld)
  have les:=congrArg CS en
  rw[AA] at les
  have l3:es.length=3:=les
  have gd:Dks ("sea" :: fs.map aL) es 3:=⟨by omega,by omega,all,by rw[en];decide +kernel⟩
  refine⟨_,rfl,_,rfl,fun p dx np ndx nex=>?_⟩
  have S3':aH H3 (upd (upd H3 dx (.own p)) p (.ins C dx [])):=fun b o e=>by
   rw[aI (aN e np),aI (aN e ndx)]
   exact e
  have f2:=gf.l2
  have smf:cI (.lst fs)=true:=jU (fun d m=>tS (gf.all d m)) (by omega)
  have smd:cI (.lst es)=true:=jU (fun d m=>xA gf.all (gd.all d m)) (by omega)
  exact⟨_,_,_,rfl,p,dx,fs,es,rfl,aC,⟨lf,vf,rfl,S3' _ _ (SH _ _ hf),IsL.same S3' _ _ (IsL.same SH _ _ hi)⟩,⟨ld,ys,rfl,S3' _ _ hly,IsL.same S3' _ _ iy⟩,smf,smd,zP gf (by decide),aEQ gd (by decide),fun H4 L4 fr=>⟨rfl,q p es H4 (SH.trans fun b o e=>fr b o (S3' _ _ e) (aN e np)) L4⟩⟩
open Mt53 Mt22 MtF Mt31 Mt61 Mt74
noncomputable def aSF(ws:List Str)(w0:Str):List Dv:=[.lst (ws.map Dv.str++[.str w0]),.lst (ws.map Dv.str++[.str "nosuchxx"]),.lst (ws.map Dv.str++[.non]),.tup (ws.map Dv.str),.non,.lst [.lst (ws.map Dv.str)],.str "a",.lst ([.str w0]++[.str w0]),.lst []]
theorem uY{ws:List Str}(h:∀ z∈ws,z.length≤8):dD (ws.map Dv.str)=true:=by
 induction ws with
 | nil=>rfl
 | cons z r ih =>
  rw[AU,dD,ih fun y m=>h y (AJ _ m),cI,decide_eq_true (by have:=h z AO;omega)]
  rfl
theorem oY{a b:List Dv}(ha:dD a=true)(hb:dD b=true):dD (a++b)=true:=by
 induction a with
 | nil=>exact hb
 | cons x r ih =>
  rw[dD,AV] at ha
  rw[List.cons_append,dD,ha.1,ih ha.2]
  rfl
theorem aCW(ws:List Str):iM (ws.map Dv.str)=ws:=by
 induction ws with
 | nil=>rfl
 | cons z r ih=>rw[AU];show z :: iM (r.map Dv.str)=_;rw[ih]
theorem aJE{zs:List Str}{a:List Dv}{x:Dv}(hx:fO zs x=false):(a++[x]).all (fO zs)=false:=by
 rw[FR,Cy,hx,DL,Ec]
theorem aGB{zs:List Str}{ds:List Dv}(h:ds.all (fO zs)=false):iZ zs (.lst ds)=false:=by
 unfold iZ
 rw[show aFD zs (.lst ds)=false from h,Ec,DL]
theorem aNJ{zs:List Str}{ds:List Dv}(h:(iM ds).Nodup→False):iZ zs (.lst ds)=false:=by
 unfold iZ
 show (_ && decide _)=false
 rw[decide_eq_false h,Ec]
theorem aEH{ds:List Dv}(h:dD ds=true)(hl:ds.length≤1000):cI (.lst ds)=true:=by
 rw[cI,h,decide_eq_true hl]
 rfl
theorem aSG{zs ws:List Str}{w0:Str}(nz:∀ z∈zs,z≠Mt46.noSuch)(l8:∀ z∈zs,z.length≤8)(sub:∀ z∈ws,z∈zs)(h0:w0∈ws)(hl:ws.length≤12):∀ d∈aSF ws w0,iZ zs d=false∧cI d=true:=by
 have s0:=uY fun z m=>l8 z (sub z m)
 have w8:=l8 w0 (sub _ h0)
 have dup:∀ a:List Str,w0∈a→(a++[w0]).Nodup→False:=fun a m nd=>(Dt.mp nd).2.2 w0 m w0 (AS.mpr rfl) rfl
 intro d m
 unfold aSF at m
 simp only[Ac,Bg,or_false] at m
 rcases m with rfl | rfl | rfl | rfl | rfl | rfl | rfl | rfl | rfl
 ·refine⟨aNJ ?_,aEH (oY s0 (by rw[dD,cI,decide_eq_true (by omega)];rfl)) (by rw[AX,AA];show _+1≤_;omega)⟩
  rw[show ws.map Dv.str++[Dv.str w0]=(ws++[w0]).map Dv.str by rw[AT];rfl,aCW]
  exact dup ws h0
 ·refine⟨aGB (aJE (decide_eq_false fun m=>nz _ m rfl)),aEH (oY s0 rfl) (by rw[AX,AA];show _+1≤_;omega)⟩
 ·refine⟨aGB (aJE rfl),aEH (oY s0 rfl) (by rw[AX,AA];show _+1≤_;omega)⟩
 ·refine⟨rfl,?_⟩
  rw[cI,s0,decide_eq_true (by rw[AA];omega)]
  rfl
 ·exact⟨rfl,rfl⟩
 ·refine⟨aGB rfl,aEH (by rw[dD,aEH s0 (by rw[AA];omega)];rfl) (by show 1≤1000;decide)⟩
 ·exact⟨rfl,rfl⟩
 ·refine⟨aNJ (dup [w0] (AS.mpr rfl)),aEH (by show (cI (.str w0) && (cI (.str w0) && true))=true;rw[cI,decide_eq_true (by omega)];rfl) (by show 2≤1000;decide)⟩
 ·exact⟨rfl,rfl⟩
noncomputable def aWE:List Dv:=[.non,.bl true,.int (10 ^ 6+1),.str "1",.int (-(10 ^ 6) - 1)]
theorem aPH:∀ d∈aWE,dZ d=false:=by decide +kernel
theorem aYJ(x:Int):∃ cnt:Nat,(if (if x<16 then x else 16)>1 then (if x<16 then x else 16) else 1)=(cnt:Int)∧cnt≤16:=by
 refine⟨(if (if x<16 then x else 16)>1 then (if x<16 then x else 16) else 1).toNat,?_,?_⟩ <;> split <;> split <;> omega
theorem sH(xs:List V)(k:Nat):pL xs none (some (k:Int))=xs.take k:=by
 unfold pL
 rw[HT.sIx_nat,HT.sIx_none,Eb,Nat.sub_zero]
 by_cases h:k≤xs.length
 ·rw[Cz h]
 ·rw[Nat.min_eq_right (by omega),AG (AL _),AG (by omega)]
theorem aNO(a:Int){b:Int}(hb:0<b):∃ g:Int,0<g∧a=g*(low a b).1∧b=g*(low a b).2∧0<(low a b).2∧(low a b).2≤b:=by
 have hg:=aIQ (a:=a) hb
 have h1:((Int.gcd a b:Nat):Int)*(low a b).1=a:=Int.mul_ediv_cancel' (Int.gcd_dvd_left _ _)
 have h2:((Int.gcd a b:Nat):Int)*(low a b).2=b:=Int.mul_ediv_cancel' (Int.gcd_dvd_right _ _)
 have h3:0<(low a b).2:=by
  refine Int.pos_of_mul_pos_right (a:=((Int.gcd a b:Nat):Int)) ?_ hg
  rw[h2]
  exact hb
 refine⟨_,hg,h1.symm,h2.symm,h3,?_⟩
 have:1*(low a b).2≤((Int.gcd a b:Nat):Int)*(low a b).2:=Cd (by omega) (FI h3)
 rw[h2] at this
 omega
theorem aJK{G:List Gap}{zs:List Str}{z:Str}:total G zs z (eO zs).length=shr (cF G) zs z:=by
 unfold total shr
 rw[AG (AL _)]
 unfold eO sm
 rw[Ai]
 rfl
theorem aQG{H:Hp}{G:List Gap}{zs ws:List Str}{kvs:List (Key×V)}(h:yE H G zs ws kvs){z:Str}:z∈ws→∃ v,eS kvs (Sum.inr z)=some v∧Fr H v (low (total G zs z (eO zs).length) (fac zs.length:Nat)).1 (low (total G zs z (eO zs).length) (fac zs.length:Nat)).2:=by
 induction h with
 | nil=>intro m;cases m
 | @cons y kv ws kvs h r ih =>
  intro m
  by_cases e:y=z
  ·subst e
   exact⟨kv.2,iJ h.1,h.2⟩
  ·rw[iK (fun h'=>e (DR (h.1.symm.trans h')))]
   rcases Ac.mp m with m | m
   ·exact absurd m.symm e
   ·exact ih m
theorem aDG{α:Type}{f:α→Int}{B:Int}:∀ {xs:List α},(∀ x∈xs,f x≤B)→sm xs f≤(xs.length:Int)*B
 | [],_=>by show (0:Int)≤((0:Nat):Int)*B;omega
 | x :: xs,h=>by
  rw[bF,Af,Int.natCast_add,Int.add_mul]
  have:=aDG fun y m=>h y (AJ _ m)
  have:=h x AO
  omega
theorem aSB{fs ds:List Dv}{L:Int}{zs:List Str}(gf:GoodF fs)(gd:GoodD ("sea" :: fs.map aL) ds)(hL:hgt L=true)(ns:Mt22.sea∉zs):0≤cF (aP fs ds L) zs∧cF (aP fs ds L) zs≤10 ^ 14:=by
 have GG:=nU gf gd L
 have Ls:=aFA GG ns
 have hl:=uT hL
 obtain⟨⟨X,sX,wX,eX⟩,lo⟩:=Ls
 refine⟨by rw[← eX];exact aCF GG X,?_⟩
 refine Int.le_trans (lo X sX wX) ?_
 have h1:cut (aP fs ds L) X≤((aP fs ds L).length:Int)*(2*10 ^ 12):=aDG fun g m=>by
  have h0:=GG.cap g m
  have:g.cap≤2*10 ^ 12:=by
   unfold aP at m
   obtain⟨d,md,rfl⟩:=AM.mp m
   obtain⟨n,a,b,c,r,s,rfl,_,_,_,_,hc,hr,_⟩:=bU (gd.all d (Aq.mp md).1)
   have c1:=uT hc
   unfold amt at hr
   rw[AV,decide_eq_true_iff,decide_eq_true_iff] at hr
   show r*(L - c)≤_
   refine Int.le_trans (Int.mul_le_mul_of_nonneg_left (show L - c≤2000000 by omega) hr.1) ?_
   have:r*2000000≤1000000*2000000:=Cd hr.2 (by decide)
   omega
  unfold oU
  split
  ·omega
  ·exact this
 have h2:((aP fs ds L).length:Int)≤40:=by
  unfold aP
  rw[AA]
  have:=BI (isG fs L) ds
  have:=gd.l2
  omega
 have h3:((aP fs ds L).length:Int)*(2*10 ^ 12)≤40*(2*10 ^ 12):=Cd h2 (by decide)
 omega
theorem aSE{x:Int}(h0:0≤x)(h:x≤10 ^ 60):x.natAbs<2 ^ 4096:=Ey (show x.natAbs≤10 ^ 60 by omega) (by decide +kernel)
open Mt53 Mt22 MtF Mt31 Mt61 Mt74
theorem aPY{Tb:Addr}{H H':Hp}(k:eE Tb H H')(t:qZ Tb H){a:Addr}{xs:List V}(h:SqL K H a xs):SqL K H' a xs:=by
 obtain⟨ps,eT,_⟩:=t
 rcases h with h | h
 ·refine .inl (h.imp (fun e=>k _ _ (fun z=>?_) e) fun⟨o,e⟩=>⟨o,k _ _ (fun z=>?_) e⟩)
  ·rw[z,eT] at e;cases e
  ·rw[z,eT] at e;cases e
 ·exact .inr h
theorem aMB{f:Str→Int}(nn:∀ z,0≤f z):∀ {xs:List Str} {z:Str},z∈xs→f z≤sm xs f
 | x :: xs,z,m=>by
  rw[bF]
  have n1:=nn x
  have n2:0≤sm xs f:=by
   have h:sm xs (fun _=>(0:Int))≤sm xs f:=vC fun y _=>nn y
   rw[fH fun _ _=>rfl] at h
   exact h
  rcases Ac.mp m with rfl | m
  ·omega
  ·have:=aMB nn m
   omega
theorem aSA{xs:List V}(h:9≤xs.length):pL xs (some 1) (some 9)=(xs.drop 1).take 8:=by
 unfold pL
 rw[show (1:Int)=((1:Nat):Int) from rfl,show (9:Int)=((9:Nat):Int) from rfl,HT.sIx_nat,HT.sIx_nat,Cz (by omega),Cz (by omega)]
theorem aVA{f:Addr}{fd:Ba}(T:Txt K mg C){c Tb:Addr}(B:TabB K mg base "lists_of_places" c Tb)(F:Fun K "law" "law" aBA f fd):FnOk P w K mg base CX0 12 f fd ["_law_script"] (aAQ K Tb):=by
 have G_l_nine:Fc P w K mg base 2 "_law_nine" ["_law_script"] (aLT K):=aKE T
 have G_l_dykes:Fc P w K mg base 2 "_law_dykes" ["_law_script","_law_at","_law_most","_law_fields"] (aSZ K):=aGA T
 have G_land_pinit:Ic P w K mg base 6 C ["self","fields","dykes"] (aFN C):=oT T
 have G_l_height:Fc P w K mg base 1 "_law_height" ["_law_cell"] aPZ:=mI T
 have G_l_mixed:Fc P w K mg base 1 "_law_mixed" ["_law_script","_law_k"] (aLU K):=kK T
 have G_l_refused:Fc P w K mg base 10 "_law_refused" ["_law_land","_law_wish","_law_height_here","_law_way"] (aLR C):=aBP T
 have G_l_bare:Fc P w K mg base 8 "_law_bare" ["_law_script","_law_fields"] (aMA K C):=aKF T
 have G_p_shares:Fc P w K mg base 9 "shares" ["land","fields","height"] (aCZ C Tb):=aDZ T B
 have G_p_companies:Fc P w K mg base 8 "companies" ["land","fields","height"] (lL C Tb):=mG T B
 have G_p_fewest:Fc P w K mg base 6 "fewest" ["land","fields","height"] (vA C):=tO T
 refine F.ok cG mL (fun cdv A outer s H vs Q E hr h=>?_)
 obtain⟨x,rfl,a,ns,rfl,hS,hns,eT,q⟩:=h
 have big:=bY
 have hu:=lA hr
 have scr:Scr K H (.ref a):=⟨a,ns,rfl,hS,hns⟩
 refine⟨_,(@aE _ _ _ _ _ (@aV _ _ (1) _ _ _ _ cG.nd rfl (Or.inl rfl) (@bE _ _ _ _ _ _ _ _ _ _ G_l_nine (hr.mono (by decide)) (@aA _ _ _ _ _ (pv 0) aB (by rfl)) (by rfl) (by decide) (by rfl) (by rfl)) (by rfl) (by trivial)) (@aE _ _ _ _ _ (@aV _ _ (2) _ _ _ _ cG.nd rfl (Or.inl rfl) (@aTD _ _ _ _ _ _ _ _ _ _ _ T.mg_Land G_land_pinit (hr.mono (by decide)) (@aA _ _ _ _ _ (pv 1) (@aA _ _ _ _ _ (@bE _ _ _ _ _ _ _ _ _ _ G_l_dykes (hr.mono (by decide)) (@aA _ _ _ _ _ (pv 0) (@aA _ _ _ _ _ aD (@aA _ _ _ _ _ aD (@aA _ _ _ _ _ (pv 1) aB (by rfl)) (by rfl)) (by rfl)) (by rfl)) (by rfl) (by decide) (by rfl) (by rfl)) aB (by rfl)) (by rfl)) (by rfl) (by decide) (by rfl) (by rfl)) (by rfl) (by trivial)) (@aE _ _ _ _ _ (@iQ _ (3) _ _ _ _ _ _ _ _ _ _ _ _ _ cG.nd rfl ["_law_field"] 1 [] rfl (@bP _ _ _ _ (pv 1)) (fun R=>@bA _ _ (0) _ (show Aw (["_law_field"]:List Str) by decide +kernel) rfl (Or.inl rfl) (by trivial)) (@aW _ _ (by decide)) (fun R=>bZ) (fun R=>(@aZ _ _ _ _ _ _ _ (@aO _ (K) rfl) (pv 0) aD (fun _ _=>rfl))) (by exact Or.inl rfl) (by trivial) (by rfl) (by rfl) (by rfl) (by rfl) (by rfl) (by rfl) (by rfl) (by rfl) (by intro _;rfl)) (@aE _ _ _ _ _ (@aV _ _ (4) _ _ _ _ cG.nd rfl (Or.inl rfl) (@bE _ _ _ _ _ _ _ _ _ _ G_l_height (hr.mono (by decide)) (@aA _ _ _ _ _ (@aM _ _ _ _ _ _ _ _ cE (@bE _ _ _ _ _ _ _ _ _ _ G_l_mixed (hr.mono (by decide)) (@aA _ _ _ _ _ (pv 0) (@aA _ _ _ _ _ aD aB (by rfl)) (by rfl)) (by rfl) (by decide) (by rfl) (by rfl)) (@aM _ _ _ _ _ _ _ _ fY aD aD)) aB (by rfl)) (by rfl) (by decide) (by rfl) (by rfl)) (by rfl) (by trivial)) (@aE _ _ _ _ _ (@gK _ _ _ _ _ _ _ _ BG rfl (@iE _ _ _ _ _ _ rfl T.n_range (@aA _ _ _ _ _ (@aQ _ _ _ _ _ _ _ _ _ (@zY _ rfl) rfl T.n_max aAB (@aA _ _ _ _ _ aD (@aA _ _ _ _ _ (@aQ _ _ _ _ _ _ _ _ _ (@zX _ rfl) rfl T.n_min sM (@aA _ _ _ _ _ aD (@aA _ _ _ _ _ (@aM _ _ _ _ _ _ _ _ eY (@aQ _ _ _ _ _ _ _ _ _ (@aY _ (K) rfl) rfl T.n_len bG (@aA _ _ _ _ _ (pv 0) aB (by rfl)) (by decide) (by decide) (by rfl) (by rfl)) aD) aB (by rfl)) (by rfl)) (by decide) (by decide) (by rfl) (by rfl)) aB (by rfl)) (by rfl)) (by decide) (by decide) (by rfl) (by rfl)) aB (by rfl)) (by rfl)) (@bA _ _ (5) _ cG.nd rfl (Or.inl rfl) (by trivial)) (@aE _ _ _ _ _ (@aV _ _ (6) _ _ _ _ cG.nd rfl (Or.inl rfl) (@bE _ _ _ _ _ _ _ _ _ _ G_l_mixed (hr.mono (by decide)) (@aA _ _ _ _ _ (pv 0) (@aA _ _ _ _ _ (@aM _ _ _ _ _ _ _ _ fK aD (pv 5)) aB (by rfl)) (by rfl)) (by rfl) (by decide) (by rfl) (by rfl)) (by rfl) (by trivial)) (@aE _ _ _ _ _ (@aV _ _ (7) _ _ _ _ cG.nd rfl (Or.inl rfl) (@aM _ _ _ _ _ _ _ _ dC (pv 6) aD) (by rfl) (by trivial)) (@aE _ _ _ _ _ (@aV _ _ (8) _ _ _ _ cG.nd rfl (Or.inl rfl) (@iR _ _ _ _ _ _ _ _ _ _ (@lN _ (K) rfl) (pv 3) (@jC _ _ _ (@aM _ _ _ _ _ _ _ _ dC (@aM _ _ _ _ _ _ _ _ cE (pv 6) aD) (@aM _ _ _ _ _ _ _ _ eY (@aQ _ _ _ _ _ _ _ _ _ (@aY _ (K) rfl) rfl T.n_len bG (@aA _ _ _ _ _ (pv 3) aB (by rfl)) (by decide) (by decide) (by rfl) (by rfl)) aD))) nN) (by rfl) (by trivial)) (@aE _ _ _ _ _ (@dX _ _ _ _ _ _ _ _ (@cB _ _ _ _ _ _ _ _ mD (@bE _ _ _ _ _ _ _ _ _ _ G_l_refused (hr.mono (by decide)) (@aA _ _ _ _ _ (pv 2) (@aA _ _ _ _ _ (pv 8) (@aA _ _ _ _ _ (pv 4) (@aA _ _ _ _ _ (pv 7) aB (by rfl)) (by rfl)) (by rfl)) (by rfl)) (by rfl) (by decide) (by rfl) (by rfl)) dS (@bT _ _ (by decide) (by decide))) (@aG _ _ _ (@aT _ _ _ _ jT)) bW) (@aE _ _ _ _ _ (@aV _ _ (9) _ _ _ _ cG.nd rfl (Or.inl rfl) (@cX _ _ _ _ (@aA _ _ _ _ _ (@aM _ _ _ _ _ _ _ _ pH (pv 8) (@cX _ _ _ _ (@aA _ _ _ _ _ (@aZ _ _ _ _ _ _ _ (@cW _ (K) rfl) (pv 8) aD (fun _ _=>rfl)) aB (by rfl)))) (@aA _ _ _ _ _ (@aM _ _ _ _ _ _ _ _ pH (pv 8) (@cX _ _ _ _ (@aA _ _ _ _ _ dS aB (by rfl)))) (@aA _ _ _ _ _ (@aM _ _ _ _ _ _ _ _ pH (pv 8) (@cX _ _ _ _ (@aA _ _ _ _ _ kG aB (by rfl)))) (@aA _ _ _ _ _ (@bJ _ _ _ _ _ _ _ _ _ jI rfl T.n_tuple hE (@aA _ _ _ _ _ (pv 8) aB (by rfl)) (by decide) (by decide) (by rfl) (by rfl)) (@aA _ _ _ _ _ kG (@aA _ _ _ _ _ (@cX _ _ _ _ (@aA _ _ _ _ _ (pv 8) aB (by rfl))) (@aA _ _ _ _ _ dS (@aA _ _ _ _ _ (@aM _ _ _ _ _ _ _ _ aUW (@iR _ _ _ _ _ _ _ _ _ _ (@lN _ (K) rfl) (pv 8) nN (@jC _ _ _ aD)) aD) (@aA _ _ _ _ _ (@cX _ _ _ _ aB) aB (by rfl)) (by rfl)) (by rfl)) (by rfl)) (by rfl)) (by rfl)) (by rfl)) (by rfl)) (by rfl))) (by rfl) (by trivial)) (@aE _ _ _ _ _ (@dX _ _ _ _ _ _ _ _ (@cB _ _ _ _ _ _ _ _ mD (@bE _ _ _ _ _ _ _ _ _ _ G_l_refused (hr.mono (by decide)) (@aA _ _ _ _ _ (pv 2) (@aA _ _ _ _ _ (@aZ _ _ _ _ _ _ _ (@cW _ (K) rfl) (pv 9) (@aM _ _ _ _ _ _ _ _ dC (@aM _ _ _ _ _ _ _ _ cE (pv 6) aD) aD) (fun _ _=>rfl)) (@aA _ _ _ _ _ (pv 4) (@aA _ _ _ _ _ (pv 7) aB (by rfl)) (by rfl)) (by rfl)) (by rfl)) (by rfl) (by decide) (by rfl) (by rfl)) dS (@bT _ _ (by decide) (by decide))) (@aG _ _ _ (@aT _ _ _ _ jT)) bW) (@aE _ _ _ _ _ (@aV _ _ (10) _ _ _ _ cG.nd rfl (Or.inl rfl) (@aZ _ _ _ _ _ _ _ (@cW _ (K) rfl) (@cX _ _ _ _ (@aA _ _ _ _ _ kG (@aA _ _ _ _ _ jT (@aA _ _ _ _ _ (@aM _ _ _ _ _ _ _ _ fK (@aM _ _ _ _ _ _ _ _ fY aD aD) aD) (@aA _ _ _ _ _ dS (@aA _ _ _ _ _ (@aM _ _ _ _ _ _ _ _ eY (@aNA _ _ _ _ _ _ aFI (@aM _ _ _ _ _ _ _ _ fY aD aD)) aD) aB (by rfl)) (by rfl)) (by rfl)) (by rfl)) (by rfl))) (@aM _ _ _ _ _ _ _ _ dC (@aM _ _ _ _ _ _ _ _ cE (pv 6) aD) aD) (fun _ _=>rfl)) (by rfl) (by trivial)) (@aG _ _ _ (@dX _ _ _ _ _ _ _ _ (@PW.pt _ _ _ (@lX _ _ _ _ _ _ _ (@cB _ _ _ _ _ _ _ _ mD (@bE _ _ _ _ _ _ _ _ _ _ G_l_refused (hr.mono (by decide)) (@aA _ _ _ _ _ (pv 2) (@aA _ _ _ _ _ (pv 8) (@aA _ _ _ _ _ (pv 10) (@aA _ _ _ _ _ (pv 7) aB (by rfl)) (by rfl)) (by rfl)) (by rfl)) (by rfl) (by decide) (by rfl) (by rfl)) dS (@bT _ _ (by decide) (by decide))) (@jF _ _ _ _ (@cB _ _ _ _ _ _ _ _ mD (@bE _ _ _ _ _ _ _ _ _ _ G_l_refused (hr.mono (by decide)) (@aA _ _ _ _ _ (pv 2) (@aA _ _ _ _ _ (@iR _ _ _ _ _ _ _ _ _ _ (@lN _ (K) rfl) (pv 3) nN (@jC _ _ _ aD)) (@aA _ _ _ _ _ (pv 10) (@aA _ _ _ _ _ (pv 7) aB (by rfl)) (by rfl)) (by rfl)) (by rfl)) (by rfl) (by decide) (by rfl) (by rfl)) dS (@bT _ _ (by decide) (by decide)))))) (@aG _ _ _ (@aT _ _ _ _ jT)) bW))))))))) (by intro _;rfl)) (@aE _ _ _ _ _ (@aV _ _ (11) _ _ _ _ cG.nd rfl (Or.inl rfl) (@iR _ _ _ _ _ _ _ _ _ _ (@lN _ (K) rfl) (pv 3) nN (@jC _ _ _ (@aM _ _ _ _ _ _ _ _ fK aD (@aM _ _ _ _ _ _ _ _ dC (@aM _ _ _ _ _ _ _ _ cE (@bE _ _ _ _ _ _ _ _ _ _ G_l_mixed (hr.mono (by decide)) (@aA _ _ _ _ _ (pv 0) (@aA _ _ _ _ _ aD aB (by rfl)) (by rfl)) (by rfl) (by decide) (by rfl) (by rfl)) aD) aD)))) (by rfl) (by trivial)) (@aE _ _ _ _ _ (@dX _ _ _ _ _ _ _ _ (@cB _ _ _ _ _ _ _ _ (@aUX _ hr.units) (@bJ _ _ _ _ _ _ _ _ _ (@gE _ rfl) rfl T.n_list dU (@aA _ _ _ _ _ (@bE _ _ _ _ _ _ _ _ _ _ G_p_shares (hr.mono (by decide)) (@aA _ _ _ _ _ (pv 2) (@aA _ _ _ _ _ (pv 11) (@aA _ _ _ _ _ (pv 4) aB (by rfl)) (by rfl)) (by rfl)) (by rfl) (by decide) (by rfl) (by rfl)) aB (by rfl)) (by decide) (by decide) (by rfl) (by rfl)) (pv 11) (@bT _ _ (by decide) (by decide))) (@aG _ _ _ (@aT _ _ _ _ jT)) bW) (@aE _ _ _ _ _ (@aV _ _ (2) _ _ _ _ cG.nd rfl (Or.inl rfl) (@bE _ _ _ _ _ _ _ _ _ _ G_l_bare (hr.mono (by decide)) (@aA _ _ _ _ _ (pv 0) (@aA _ _ _ _ _ (pv 1) aB (by rfl)) (by rfl)) (by rfl) (by decide) (by rfl) (by rfl)) (by rfl) (by trivial)) (@aE _ _ _ _ _ (@aV _ _ (12) _ _ _ _ cG.nd rfl (Or.inl rfl) (@iR _ _ _ _ _ _ _ _ _ _ (@lN _ (K) rfl) (pv 3) (@jC _ _ _ aD) (@jC _ _ _ aD)) (by rfl) (by trivial)) (@aE _ _ _ _ _ (@aV _ _ (13) _ _ _ _ cG.nd rfl (Or.inl rfl) (@bE _ _ _ _ _ _ _ _ _ _ G_p_shares (hr.mono (by decide)) (@aA _ _ _ _ _ (pv 2) (@aA _ _ _ _ _ (pv 12) (@aA _ _ _ _ _ (pv 4) aB (by rfl)) (by rfl)) (by rfl)) (by rfl) (by decide) (by rfl) (by rfl)) (by rfl) (by trivial)) (@aE _ _ _ _ _ (@aV _ _ (14) _ _ _ _ cG.nd rfl (Or.inl rfl) (@dJ _ _ _ _ _ (@aA _ _ _ _ _ aD (@aA _ _ _ _ _ aD aB (by rfl)) (by rfl))) (by rfl) (by trivial)) (@aE _ _ _ _ _ (@gK _ _ _ _ _ _ _ _ BG rfl (@bP _ _ _ _ (pv 12)) (@bA _ _ (15) _ cG.nd rfl (Or.inl rfl) (by trivial)) (@aE _ _ _ _ _ (@aUO _ _ _ _ _ _ (@fX _ _ _ _ _ _ hu (pv 13) (pv 15) (fun _ _=>rfl)) (@aUR _ _ _ _ _ _ rfl (@aDV _ _ _ _ _ (@bA _ _ (16) _ cG.nd rfl (Or.inl rfl) (by trivial)) (@aDV _ _ _ _ _ (@bA _ _ (17) _ cG.nd rfl (Or.inl rfl) (by trivial)) aQW (by rfl)) (by rfl)) (by rfl) (by rfl)) (by rfl) (by rfl) (by rfl)) (@aE _ _ _ _ _ (@dX _ _ _ _ _ _ _ _ (@cB _ _ _ _ _ _ _ _ yY (pv 16) aD (@bT _ _ (by decide) (by decide))) (@aG _ _ _ (@aT _ _ _ _ jT)) bW) (@aG _ _ _ (@aV _ _ (14) _ _ _ _ cG.nd rfl (Or.inl rfl) (@dJ _ _ _ _ _ (@aA _ _ _ _ _ (@aM _ _ _ _ _ _ _ _ fK (@aM _ _ _ _ _ _ _ _ jG (@aZ _ _ _ _ _ _ _ (@aO _ (K) rfl) (pv 14) aD (fun _ _=>rfl)) (pv 17)) (@aM _ _ _ _ _ _ _ _ aIK (pv 16) (@aZ _ _ _ _ _ _ _ (@aO _ (K) rfl) (pv 14) aD (fun _ _=>rfl)))) (@aA _ _ _ _ _ (@aM _ _ _ _ _ _ _ _ jG (@aZ _ _ _ _ _ _ _ (@aO _ (K) rfl) (pv 14) aD (fun _ _=>rfl)) (pv 17)) aB (by rfl)) (by rfl))) (by rfl) (by trivial))))) (by intro _;rfl)) (@aE _ _ _ _ _ (@dX _ _ _ _ _ _ _ _ (@cB _ _ _ _ _ _ _ _ mD (@aZ _ _ _ _ _ _ _ (@aO _ (K) rfl) (pv 14) aD (fun _ _=>rfl)) (@aM _ _ _ _ _ _ _ _ aIK (@aZ _ _ _ _ _ _ _ (@aO _ (K) rfl) (pv 14) aD (fun _ _=>rfl)) (@aZ _ _ _ _ _ _ _ (@aO _ (K) rfl) (@bE _ _ _ _ _ _ _ _ _ _ G_p_fewest (hr.mono (by decide)) (@aA _ _ _ _ _ (pv 2) (@aA _ _ _ _ _ (pv 12) (@aA _ _ _ _ _ (pv 4) aB (by rfl)) (by rfl)) (by rfl)) (by rfl) (by decide) (by rfl) (by rfl)) aD (fun _ _=>rfl))) (@bT _ _ (by decide) (by decide))) (@aG _ _ _ (@aT _ _ _ _ jT)) bW) (@aG _ _ _ (@aT _ _ _ _ (@cY _ _ _ _ _ _ _ (@dW _ _ _ _ _ _ _ _ (@aUZ _ hr.units) (@bJ _ _ _ _ _ _ _ _ _ (@gE _ rfl) rfl T.n_list dU (@aA _ _ _ _ _ (pv 13) aB (by rfl)) (by decide) (by decide) (by rfl) (by rfl)) (pv 12) (@bT _ _ (by decide) (by decide))) (@eI _ _ _ _ _ (@dW _ _ _ _ _ _ _ _ kY (@aQ _ _ _ _ _ _ _ _ _ (@aY _ (K) rfl) rfl T.n_len bG (@aA _ _ _ _ _ (@bE _ _ _ _ _ _ _ _ _ _ G_p_companies (hr.mono (by decide)) (@aA _ _ _ _ _ (pv 2) (@aA _ _ _ _ _ (pv 12) (@aA _ _ _ _ _ (pv 4) aB (by rfl)) (by rfl)) (by rfl)) (by rfl) (by decide) (by rfl) (by rfl)) aB (by rfl)) (by decide) (by decide) (by rfl) (by rfl)) aD (@bT _ _ (by decide) (by decide)))))))))))))))))))),?_⟩
 refine aMF fun u0 hu0=>?_
 refine⟨_,rfl,_,rfl,scr,fun lf vf fs H1 S1 nlf hf0 hif0 gf f9 nx=>?_⟩
 refine gσ (σ':=[some (.ref a),some (.ref lf),none,none,none,none,none,none,none,none,none,none,none,none,none,none,none,none]) rfl ?_
 refine⟨_,rfl,_,rfl,_,rfl,_,_,_,_,rfl,8,10,lf,vf,fs,12,scr.same S1,rfl,by decide,rfl,by decide,by decide,rfl,hf0,hif0,gf,by decide,fun ld vd ds H2 S2 nld hd0 hid0 gd=>?_⟩
 have okf:=zP gf (by decide)
 have okd:=aEQ gd (by decide)
 have f2:=gf.l2
 have d2:=gd.l2
 have smf:cI (.lst fs)=true:=jU (fun d m=>tS (gf.all d m)) (by omega)
 have smd:cI (.lst ds)=true:=jU (fun d m=>xA gf.all (gd.all d m)) (by omega)
 have T2:=S1.trans S2
 have hf2:=S2 _ _ hf0
 have hif2:=IsL.same S2 _ _ hif0
 intro p dx np ndx nex
 have S3':aH H2 (upd (upd H2 dx (.own p)) p (.ins C dx [])):=fun b o e=>by
  rw[aI (aN e np),aI (aN e ndx)]
  exact e
 refine⟨_,_,_,rfl,p,dx,fs,ds,rfl,aC,⟨lf,vf,rfl,S3' _ _ hf2,IsL.same S3' _ _ hif2⟩,⟨ld,vd,rfl,S3' _ _ hd0,IsL.same S3' _ _ hid0⟩,smf,smd,okf,okd,fun H3 L3 fr=>⟨rfl,?_⟩⟩
 have Z3:aH H2 H3:=fun b o e=>fr b o (S3' _ _ e) (aN e np)
 have T3:=T2.trans Z3
 have hf3:=Z3 _ _ hf2
 have hif3:=IsL.same Z3 _ _ hif2
 have lvf:=hif3.length
 refine gσ (σ':=[some (.ref a),some (.ref lf),some (.ref p),none,none,none,none,none,none,none,none,none,none,none,none,none,none,none]) rfl ?_
 refine⟨_,rfl,lf,rfl,⟨_,SqL.of hf3⟩,?_⟩
 refine bH (F:=K) (xs:=vf) (by omega) (fun i ys H'=>H3=H'∧ys=((fs.take i).map aL).map V.str) ⟨rfl,rfl⟩ ?_ ?_ ?_
 ·rintro i ys H' hi' ⟨rfl,rfl⟩
  exact⟨SqL.of hf3,by rw[AA,AA,AR];omega⟩
 ·rintro i xv ys H' K1 K2 hx ⟨rfl,rfl⟩ k1 k2
  have hil:i<vf.length:=(AC.mp hx).1
  obtain⟨d,ed⟩:∃ d,fs[i]?=some d:=⟨_,AB (by omega)⟩
  obtain⟨v,ev,iv⟩:=hif3.get ed
  rw[hx] at ev
  cases ev
  obtain⟨z,g,e,rfl,_⟩:=bK (gf.all d (AI ed))
  obtain⟨t,rfl,o⟩:=iH iv
  refine⟨_,rfl,t,_,0,.str z,rfl,rfl,SqT.of o,aK (j:=0) rfl,k1 _ _ ⟨rfl,?_⟩⟩
  rw[Aa,ed]
  simp[aL,cK]
 rintro ys H' ⟨rfl,rfl⟩
 rw[AG (by omega)]
 intro ln mln
 have S4:=aH.upd (o:=.lst ((fs.map aL).map V.str)) mln
 have r4:upd H3 ln (.lst ((fs.map aL).map V.str)) ln=some (.lst ((fs.map aL).map V.str)):=aC
 generalize upd H3 ln (.lst ((fs.map aL).map V.str))=H4 at S4 r4
 have T4:=T3.trans S4
 have L4:=L3.same S4
 refine gσ (σ':=[some (.ref a),some (.ref lf),some (.ref p),some (.ref ln),none,none,none,none,none,none,none,none,none,none,none,none,none,none]) rfl ?_
 refine⟨_,rfl,_,_,rfl,3,scr.same T4,rfl,by decide,fun mh hmh=>?_⟩
 refine⟨_,_,rfl,rfl,⟨by decide,by decide,by decide⟩,_,_,rfl,rfl,⟨by decide,by decide⟩,_,rfl,_,rfl,fun lv hL=>?_⟩
 refine gσ (σ':=[some (.ref a),some (.ref lf),some (.ref p),some (.ref ln),some (.int lv),none,none,none,none,none,none,none,none,none,none,none,none,none]) rfl ?_
 refine hu0 _ _ _ ?_
 have n8:∀ z∈fs.map aL,z.length≤8:=fun z m=>by
  obtain⟨d,md,rfl⟩:=AM.mp m
  obtain⟨y,g,e,rfl,hn,_⟩:=bK (gf.all d md)
  unfold eN at hn
  simp only[AV,decide_eq_true_eq] at hn
  exact hn.1.1.2
 have nxz:∀ z∈fs.map aL,z≠Mt46.noSuch:=fun z m=>by
  obtain⟨d,md,rfl⟩:=AM.mp m
  exact nx d md
 obtain⟨cnt,ec,c16⟩:=aYJ (((ns.map V.int).length:Int) - 4)
 have scr4:=scr.same T4
 have hS4:=T4.seq hS
 have lzs:(fs.map aL).length=fs.length:=AA _
 have znd:=gf.nd
 generalize hzs:fs.map aL=zs at r4 n8 nxz lzs znd
 refine vG fun u1 hu1=>?_
 refine⟨_,rfl,a,_,rfl,.inl hS4,_,_,rfl,rfl,_,_,rfl,_,_,rfl,_,rfl,?_⟩
 show -(2 ^ 62)≤(if (if ((ns.map V.int).length:Int) - 4<16 then ((ns.map V.int).length:Int) - 4 else 16)>1 then (if ((ns.map V.int).length:Int) - 4<16 then ((ns.map V.int).length:Int) - 4 else 16) else 1)∧_
 rw[ec]
 refine⟨by omega,by omega,?_⟩
 rw[CU]
 refine gM (lo:=0) (n:=cnt) (fun i σ H'=>∃ v5 v6 v7 v8 v9 v10,σ=[some (.ref a),some (.ref lf),some (.ref p),some (.ref ln),some (.int lv),v5,v6,v7,v8,v9,v10,none,none,none,none,none,none,none]∧aH H4 H') ⟨_,_,_,_,_,_,rfl,aH.refl _⟩ ?_ ?_
 ·rintro i σ H' hi ⟨v5,v6,v7,v8,v9,v10,rfl,S'⟩
  refine gσ (σ':=[some (.ref a),some (.ref lf),some (.ref p),some (.ref ln),some (.int lv),some (.int (0+(i:Int))),v6,v7,v8,v9,v10,none,none,none,none,none,none,none]) rfl ?_
  refine⟨_,rfl,_,rfl,_,_,rfl,rfl,_,_,rfl,_,scr4.same S',rfl,by show 0≤4+(0+(i:Int));omega,fun mc hmc=>?_⟩
  refine gσ (σ':=[some (.ref a),some (.ref lf),some (.ref p),some (.ref ln),some (.int lv),some (.int (0+(i:Int))),some (.int mc),v7,v8,v9,v10,none,none,none,none,none,none,none]) rfl ?_
  refine⟨_,rfl,_,_,rfl,rfl,(lY rfl),?_⟩
  refine gσ (σ':=[some (.ref a),some (.ref lf),some (.ref p),some (.ref ln),some (.int lv),some (.int (0+(i:Int))),some (.int mc),some (.int (mc % 2)),v8,v9,v10,none,none,none,none,none,none,none]) rfl ?_
  have hn':=S' _ _ r4
  obtain⟨dk,ek⟩:=Ap (At (mc / 2) (show ((zs.map V.str).length:Int) - 8≠0 by rw[AA];omega))
  have dkl:dk<zs.length - 8:=by have:=Au (mc / 2) (show (0:Int)<((zs.map V.str).length:Int) - 8 by rw[AA];omega);rw[AA] at this ek;omega
  refine⟨_,rfl,_,rfl,_,_,rfl,rfl,⟨by decide,by decide⟩,_,rfl,ln,_,rfl,.inl (SqL.of hn'),_,_,rfl,rfl,_,_,rfl,rfl,by show (0:Int)<((zs.map V.str).length:Int) - 8;rw[AA];omega,_,rfl,?_⟩
  refine⟨ln,_,rfl,SqL.of hn',fun lw mlw=>?_⟩
  have ecut:pL (zs.map V.str) (some (mc / 2 % (((zs.map V.str).length:Int) - 8))) none=(zs.drop dk).map V.str:=by rw[ek,List.map_drop];exact aOU _ dk
  rw[ecut]
  have A1:=aH.upd (o:=.lst ((zs.drop dk).map V.str)) mlw
  have w1:upd H' lw (.lst ((zs.drop dk).map V.str)) lw=some (.lst ((zs.drop dk).map V.str)):=aC
  generalize upd H' lw (.lst ((zs.drop dk).map V.str))=H5 at A1 w1
  refine gσ (σ':=[some (.ref a),some (.ref lf),some (.ref p),some (.ref ln),some (.int lv),some (.int (0+(i:Int))),some (.int mc),some (.int (mc % 2)),some (.ref lw),v9,v10,none,none,none,none,none,none,none]) rfl ?_
  have lws:9≤(zs.drop dk).length∧(zs.drop dk).length≤12:=by rw[Bh];omega
  have wnd:(zs.drop dk).Nodup:=DX (List.drop_sublist _ _) znd
  have wsub:∀ z∈zs.drop dk,z∈zs:=fun z m=>Ea m
  generalize zs.drop dk=ws at w1 lws wnd wsub
  have T5:=S'.trans A1
  have sms:cI (.lst (ws.map Dv.str))=true:=aEH (uY fun z m=>n8 z (wsub z m)) (by rw[AA];omega)
  refine⟨_,rfl,_,rfl,_,rfl,_,rfl,_,_,_,_,rfl,p,fs,ds,.lst (ws.map Dv.str),.int lv,"TooMany",_,rfl,L4.same T5,⟨lw,_,rfl,w1,IsL.strs _ _⟩,sms,rfl,.inr ⟨rfl,ws,lv,rfl,wnd,(fun z m=>by rw[hzs];exact wsub z m),by omega,rfl,hL⟩,rfl,fun H6 S6=>?_⟩
  refine⟨rfl,_,rfl,?_⟩
  rw[show (!decide (V.str (uU "TooMany")=V.str "many"))=false by decide +kernel]
  refine bM ?_
  have T6:=T5.trans S6
  have w6:=S6 _ _ w1
  obtain⟨w0,wr,ew⟩:∃ w0 wr,ws=w0 :: wr:=by
   cases ws with
   | nil=>exact absurd lws.1 (by decide)
   | cons w r=>exact⟨w,r,rfl⟩
  have e0:ws[0]?=some w0:=by rw[ew];rfl
  have m0:w0∈ws:=AI e0
  refine⟨_,rfl,_,rfl,lw,_,0,.str w0,rfl,rfl,SqL.of w6,aK (j:=0) (by rw[AH,e0];rfl),aS rfl,fun l1 m1=>?_⟩
  have B1:=aH.upd (o:=.lst [.str w0]) m1
  have q1:upd H6 l1 (.lst [.str w0]) l1=some (.lst [.str w0]):=aC
  generalize upd H6 l1 (.lst [.str w0])=G1 at B1 q1
  refine⟨lw,l1,_,_,rfl,rfl,B1 _ _ w6,q1,by rw[AA];show _+1≤_;omega,fun b1 n1=>?_⟩
  have B2:=aH.upd (o:=.lst (ws.map V.str++[.str w0])) n1
  have k1:upd G1 b1 (.lst (ws.map V.str++[.str w0])) b1=some (.lst (ws.map V.str++[.str w0])):=aC
  generalize upd G1 b1 (.lst (ws.map V.str++[.str w0]))=G2 at B2 k1
  have w2:=(B1.trans B2) _ _ w6
  refine⟨_,rfl,aS rfl,fun l2 m2=>?_⟩
  have B3:=aH.upd (o:=.lst [.str "nosuchxx"]) m2
  have q2:upd G2 l2 (.lst [.str "nosuchxx"]) l2=some (.lst [.str "nosuchxx"]):=aC
  generalize upd G2 l2 (.lst [.str "nosuchxx"])=G3 at B3 q2
  refine⟨lw,l2,_,_,rfl,rfl,B3 _ _ w2,q2,by rw[AA];show _+1≤_;omega,fun b2 n2=>?_⟩
  have B4:=aH.upd (o:=.lst (ws.map V.str++[.str "nosuchxx"])) n2
  have k2:upd G3 b2 (.lst (ws.map V.str++[.str "nosuchxx"])) b2=some (.lst (ws.map V.str++[.str "nosuchxx"])):=aC
  generalize upd G3 b2 (.lst (ws.map V.str++[.str "nosuchxx"]))=G4 at B4 k2
  have w4:=(B3.trans B4) _ _ w2
  refine⟨_,rfl,aS rfl,fun l3 m3=>?_⟩
  have B5:=aH.upd (o:=.lst [.non]) m3
  have q3:upd G4 l3 (.lst [.non]) l3=some (.lst [.non]):=aC
  generalize upd G4 l3 (.lst [.non])=G5 at B5 q3
  refine⟨lw,l3,_,_,rfl,rfl,B5 _ _ w4,q3,by rw[AA];show _+1≤_;omega,fun b3 n3=>?_⟩
  have B6:=aH.upd (o:=.lst (ws.map V.str++[.non])) n3
  have k3:upd G5 b3 (.lst (ws.map V.str++[.non])) b3=some (.lst (ws.map V.str++[.non])):=aC
  generalize upd G5 b3 (.lst (ws.map V.str++[.non]))=G6 at B6 k3
  have w6':=(B5.trans B6) _ _ w4
  refine⟨_,rfl,lw,_,rfl,.inl ⟨SqL.of w6',fun b4 n4=>?_⟩⟩
  have B7:=aH.upd (o:=.tup (ws.map V.str)) n4
  have k4:upd G6 b4 (.tup (ws.map V.str)) b4=some (.tup (ws.map V.str)):=aC
  generalize upd G6 b4 (.tup (ws.map V.str))=G7 at B7 k4
  have w7:=B7 _ _ w6'
  refine⟨_,rfl,aS rfl,fun b6 n6=>?_⟩
  have B8:=aH.upd (o:=.lst [.ref lw]) n6
  have k6:upd G7 b6 (.lst [.ref lw]) b6=some (.lst [.ref lw]):=aC
  generalize upd G7 b6 (.lst [.ref lw])=G8 at B8 k6
  have w8:=B8 _ _ w7
  refine⟨_,rfl,1,rfl,lw,_,rfl,SqL.of w8,fun l8 m8=>?_⟩
  have e8:pL (ws.map V.str) none (some 1)=[.str w0]:=by rw[show (1:Int)=((1:Nat):Int) from rfl,sH,ew];rfl
  rw[e8]
  have B9:=aH.upd (o:=.lst [.str w0]) m8
  have q8:upd G8 l8 (.lst [.str w0]) l8=some (.lst [.str w0]):=aC
  generalize upd G8 l8 (.lst [.str w0])=G9 at B9 q8
  refine⟨l8,2,_,rfl,rfl,q8,by decide,by decide,aS rfl,fun b8 n8'=>?_⟩
  rw[show (BC (2:Int).toNat [V.str w0]).flatten=[.str w0]++[.str w0] from rfl]
  have B10:=aH.upd (o:=.lst ([.str w0]++[.str w0])) n8'
  have k8:upd G9 b8 (.lst ([.str w0]++[.str w0])) b8=some (.lst ([.str w0]++[.str w0])):=aC
  generalize upd G9 b8 (.lst ([.str w0]++[.str w0]))=G10 at B10 k8
  refine⟨aS rfl,fun b9 n9=>?_⟩
  have B11:=aH.upd (o:=.lst []) n9
  have k9:upd G10 b9 (.lst []) b9=some (.lst []):=aC
  generalize upd G10 b9 (.lst [])=G11 at B11 k9
  refine⟨aS rfl,fun lb mlb=>?_⟩
  have B12:=aH.upd (o:=.lst [.ref b1,.ref b2,.ref b3,.ref b4,.non,.ref b6,.str "a",.ref b8,.ref b9]) mlb
  have kb:upd G11 lb (.lst [.ref b1,.ref b2,.ref b3,.ref b4,.non,.ref b6,.str "a",.ref b8,.ref b9]) lb=some (.lst [.ref b1,.ref b2,.ref b3,.ref b4,.non,.ref b6,.str "a",.ref b8,.ref b9]):=aC
  generalize upd G11 lb (.lst [.ref b1,.ref b2,.ref b3,.ref b4,.non,.ref b6,.str "a",.ref b8,.ref b9])=G12 at B12 kb
  refine gσ (σ':=[some (.ref a),some (.ref lf),some (.ref p),some (.ref ln),some (.int lv),some (.int (0+(i:Int))),some (.int mc),some (.int (mc % 2)),some (.ref lw),some (.ref lb),v10,none,none,none,none,none,none,none]) rfl ?_
  have C11:=B11.trans B12
  have C10:=B10.trans C11
  have C9:=B9.trans C10
  have C8:=B8.trans C9
  have C7:=B7.trans C8
  have C6:=B6.trans C7
  have C5:=B5.trans C6
  have C4:=B4.trans C5
  have C3:=B3.trans C4
  have C2:=B2.trans C3
  have C1:=B1.trans C2
  have w12:=C8 _ _ w7
  have T12:=T6.trans C1
  have sW:∀ x:Str,IsL G12 (ws.map Dv.str++[.str x]) (ws.map V.str++[.str x]):=fun x=>by
   have h:=IsL.strs G12 (ws++[x])
   rw[AT,AT] at h
   exact h
  have isB:IsL G12 (aSF ws w0) [.ref b1,.ref b2,.ref b3,.ref b4,.non,.ref b6,.str "a",.ref b8,.ref b9]:=⟨_,_,rfl,⟨b1,_,rfl,C3 _ _ k1,sW w0⟩,_,_,rfl,⟨b2,_,rfl,C5 _ _ k2,sW "nosuchxx"⟩,_,_,rfl,⟨b3,_,rfl,C7 _ _ k3,IsL.snoc (show Is G12 Dv.non V.non from rfl) (IsL.strs _ _)⟩,_,_,rfl,⟨b4,_,rfl,C8 _ _ k4,IsL.strs _ _⟩,_,_,rfl,rfl,_,_,rfl,⟨b6,_,rfl,C9 _ _ k6,_,_,rfl,⟨lw,_,rfl,w12,IsL.strs _ _⟩,rfl⟩,_,_,rfl,rfl,_,_,rfl,⟨b8,_,rfl,C11 _ _ k8,_,_,rfl,rfl,_,_,rfl,rfl,rfl⟩,_,_,rfl,⟨b9,_,rfl,B12 _ _ k9,rfl⟩,rfl⟩
  have BA:=aSG nxz n8 wsub m0 lws.2
  obtain⟨i9,e9⟩:=Ap (At (mc / 16) (show (9:Int)≠0 by decide))
  have i9l:i9<9:=by have:=Au (mc / 16) (show (0:Int)<9 by decide);omega
  obtain⟨db,edb⟩:∃ d,(aSF ws w0)[i9]?=some d:=⟨_,AB i9l⟩
  obtain⟨vb,evb,ivb⟩:=isB.get edb
  obtain⟨bf,bs⟩:=BA db (AI edb)
  refine⟨_,rfl,_,rfl,_,rfl,_,_,rfl,rfl,⟨by decide,by decide⟩,_,_,rfl,rfl,(lY rfl),lb,_,_,vb,rfl,rfl,SqL.of kb,(by rw[e9];exact aK evb),?_⟩
  refine⟨_,rfl,_,rfl,_,_,_,_,rfl,p,fs,ds,db,.int lv,"NoWish",_,rfl,L4.same T12,ivb,bs,rfl,.inl ⟨rfl,.inl (by rw[hzs];exact bf)⟩,rfl,fun H13 S13=>?_⟩
  refine⟨rfl,_,rfl,?_⟩
  rw[show (!decide (V.str (uU "NoWish")=V.str "wish"))=false by decide +kernel]
  refine bM ?_
  have T13:=T12.trans S13
  refine⟨_,_,rfl,rfl,⟨by decide,by decide,by decide⟩,_,_,rfl,rfl,_,_,rfl,rfl,⟨by decide,by decide,by decide⟩,_,rfl,_,_,rfl,rfl,aS rfl,fun lh mlh=>?_⟩
  have S14:=aH.upd (o:=.lst [.non,.bl true,.int (10 ^ (6:Int).toNat+1),.str "1",.int (-(10 ^ (6:Int).toNat) - 1)]) mlh
  have kh:upd H13 lh (.lst [.non,.bl true,.int (10 ^ (6:Int).toNat+1),.str "1",.int (-(10 ^ (6:Int).toNat) - 1)]) lh=some (.lst [.non,.bl true,.int (10 ^ (6:Int).toNat+1),.str "1",.int (-(10 ^ (6:Int).toNat) - 1)]):=aC
  generalize upd H13 lh (.lst [.non,.bl true,.int (10 ^ (6:Int).toNat+1),.str "1",.int (-(10 ^ (6:Int).toNat) - 1)])=H14 at S14 kh
  have isH:IsL H14 aWE [.non,.bl true,.int (10 ^ (6:Int).toNat+1),.str "1",.int (-(10 ^ (6:Int).toNat) - 1)]:=⟨_,_,rfl,rfl,_,_,rfl,rfl,_,_,rfl,rfl,_,_,rfl,rfl,_,_,rfl,rfl,rfl⟩
  obtain⟨i5,e5⟩:=Ap (At (mc / 256) (show (5:Int)≠0 by decide))
  have i5l:i5<5:=by have:=Au (mc / 256) (show (0:Int)<5 by decide);omega
  obtain⟨dh,edh⟩:∃ d,aWE[i5]?=some d:=⟨_,AB i5l⟩
  obtain⟨vh,evh,ivh⟩:=isH.get edh
  have bh:=aPH dh (AI edh)
  refine⟨_,rfl,_,_,rfl,rfl,⟨by decide,by decide⟩,_,_,rfl,rfl,(lY rfl),lh,_,_,vh,rfl,rfl,SqL.of kh,(by rw[e5];exact aK evh),?_⟩
  refine gσ (σ':=[some (.ref a),some (.ref lf),some (.ref p),some (.ref ln),some (.int lv),some (.int (0+(i:Int))),some (.int mc),some (.int (mc % 2)),some (.ref lw),some (.ref lb),some vh,none,none,none,none,none,none,none]) rfl ?_
  have T14:=T13.trans S14
  have w14:=(S13.trans S14) _ _ w12
  have flH:∀ {G:Hp},aH H14 G→Is G dh vh:=fun S=>Is.same S _ _ ivh
  refine⟨_,rfl,_,rfl,_,rfl,_,rfl,_,_,_,_,rfl,p,fs,ds,.lst (ws.map Dv.str),dh,"NoWish",_,rfl,L4.same T14,⟨lw,_,rfl,w14,IsL.strs _ _⟩,sms,ivh,.inl ⟨rfl,.inr bh⟩,rfl,fun H15 S15=>?_⟩
  refine⟨rfl,_,rfl,?_⟩
  rw[show (!decide (V.str (uU "NoWish")=V.str "wish"))=false by decide +kernel]
  refine bM ?_
  have T15:=T14.trans S15
  have n15:=T15 _ _ r4
  refine⟨_,rfl,_,rfl,1,rfl,ln,_,rfl,SqL.of n15,fun lo mlo=>?_⟩
  have e1:pL (zs.map V.str) none (some 1)=(zs.take 1).map V.str:=by rw[show (1:Int)=((1:Nat):Int) from rfl,sH,Er]
  rw[e1]
  have S16:=aH.upd (o:=.lst ((zs.take 1).map V.str)) mlo
  have ko:upd H15 lo (.lst ((zs.take 1).map V.str)) lo=some (.lst ((zs.take 1).map V.str)):=aC
  generalize upd H15 lo (.lst ((zs.take 1).map V.str))=H16 at S16 ko
  have sm1:cI (.lst ((zs.take 1).map Dv.str))=true:=aEH (uY fun z m=>n8 z (CQ m)) (by rw[AA,AR];omega)
  have T16:=T15.trans S16
  refine⟨_,rfl,_,rfl,_,_,_,_,rfl,p,fs,ds,.lst ((zs.take 1).map Dv.str),dh,"NoWish",_,rfl,L4.same T16,⟨lo,_,rfl,ko,IsL.strs _ _⟩,sm1,flH (S15.trans S16),.inl ⟨rfl,.inr bh⟩,rfl,fun H17 S17=>?_⟩
  refine⟨rfl,_,rfl,?_⟩
  rw[show (!decide (V.str (uU "NoWish")=V.str "wish"))=false by decide +kernel]
  exact bM ⟨_,_,_,_,_,_,rfl,T16.trans S17⟩
 ·rintro σ H5 ⟨v5,v6,v7,v8,v9,v10,rfl,S5⟩
  refine hu1 _ _ _ ?_
  have L5:=L4.same S5
  have n5:=S5 _ _ r4
  have scr5:=scr4.same S5
  have T5:=T4.trans S5
  have tab:qZ Tb H:=⟨#[],eT,trivial,.inl rfl⟩
  have tab5:=tab.keep T5
  refine vG fun u2 hu2=>?_
  refine⟨_,rfl,_,rfl,_,_,rfl,4,scr5,rfl,by decide,fun mf hmf=>?_⟩
  obtain⟨kf,ekf⟩:=Ap (show 0≤1+mf / 2 % 5 by have:=At (mf / 2) (show (5:Int)≠0 by decide);omega)
  have kf5:1≤kf∧kf≤5:=by have:=At (mf / 2) (show (5:Int)≠0 by decide);have:=Au (mf / 2) (show (0:Int)<5 by decide);omega
  refine⟨_,_,rfl,rfl,⟨by decide,by decide⟩,_,_,rfl,rfl,(lY rfl),_,_,rfl,rfl,_,rfl,ln,_,rfl,SqL.of n5,fun lq mlq=>?_⟩
  have ecf:pL (zs.map V.str) none (some (1+mf / 2 % 5))=(zs.take kf).map V.str:=by rw[ekf,sH,Er]
  rw[ecf]
  have S6:=aH.upd (o:=.lst ((zs.take kf).map V.str)) mlq
  have kq:upd H5 lq (.lst ((zs.take kf).map V.str)) lq=some (.lst ((zs.take kf).map V.str)):=aC
  generalize upd H5 lq (.lst ((zs.take kf).map V.str))=H6 at S6 kq
  refine gσ (σ':=[some (.ref a),some (.ref lf),some (.ref p),some (.ref ln),some (.int lv),v5,v6,v7,v8,v9,v10,some (.ref lq),none,none,none,none,none,none]) rfl ?_
  refine hu2 _ _ _ ?_
  have qnd:(zs.take kf).Nodup:=DX (DH _ _) znd
  have qlen:(zs.take kf).length=kf:=by rw[AR];omega
  have qsub:∀ z∈zs.take kf,z∈fs.map aL:=fun z m=>by rw[hzs];exact CQ m
  generalize zs.take kf=qs at kq qnd qlen qsub
  have tab6:=tab5.keep S6
  have hf6:H6 lf=some (.lst vf):=(S4.trans (S5.trans S6)) _ _ hf3
  have hif6:IsL H6 fs vf:=IsL.same (S4.trans (S5.trans S6)) _ _ hif3
  have n6:=S6 _ _ n5
  have scr6:=scr5.same S6
  refine vG fun u3 hu3=>?_
  refine⟨_,rfl,_,rfl,_,rfl,_,_,_,rfl,p,lq,fs,ds,qs,lv,rfl,L5.same S6,rfl,kq,by omega,by omega,qnd,qsub,rfl,hL,tab6,fun d7 kv7 H7 K7 tab7 nd7 hd7 sh7=>?_⟩
  have nT:∀ {b:Addr} {xs:List V},H6 b=some (.lst xs)→b≠Tb:=fun {b xs} e z=>by
   obtain⟨q0,eT0,_⟩:=tab6
   rw[z,eT0] at e
   cases e
  have hk7:=K7 _ _ (nT kq) kq
  have ek7:kv7.map (fun kv=>kV kv.1)=qs.map V.str:=by
   have:=vF sh7
   have e2:kv7.map (fun kv=>kV kv.1)=(kv7.map (·.1)).map kV:=by rw[Ai];rfl
   rw[e2,this,Ai]
   rfl
  refine⟨d7,kv7,rfl,.inl hd7,fun l8 m8=>?_⟩
  rw[ek7]
  have S8:=aH.upd (o:=.lst (qs.map V.str)) m8
  have k8:upd H7 l8 (.lst (qs.map V.str)) l8=some (.lst (qs.map V.str)):=aC
  generalize upd H7 l8 (.lst (qs.map V.str))=H8 at S8 k8
  refine⟨_,rfl,.lst (qs.map Dv.str),.lst (qs.map Dv.str),⟨l8,_,rfl,k8,IsL.strs _ _⟩,⟨lq,_,rfl,S8 _ _ hk7,IsL.strs _ _⟩,fQ _,fQ _,?_⟩
  rw[if_pos rfl,show deq (.lst (qs.map Dv.str)) (.lst (qs.map Dv.str))=true from qU 30 _ (fQ _)]
  refine⟨_,rfl,bM ?_⟩
  refine hu3 _ _ _ ?_
  have hf8:=S8 _ _ (K7 _ _ (nT hf6) hf6)
  have hif8:=IsL.same S8 _ _ (IsL.sameD (aTF K7 tab6) _ _ hif6)
  have n8':=S8 _ _ (K7 _ _ (nT n6) n6)
  obtain⟨a',ns',ea',hS',hn'⟩:=scr6
  cases ea'
  have scr8:Scr K H8 (.ref a):=⟨a,ns',rfl,S8.seq (aPY K7 tab6 hS'),hn'⟩
  have tab8:=tab7.keep S8
  refine aMG fun u4 hu4=>?_
  refine⟨_,rfl,_,rfl,_,_,rfl,lf,vf,fs,scr8,rfl,hf8,hif8,gf,f9,fun p' ds' H9 S9 L9=>?_⟩
  refine gσ (σ':=[some (.ref a),some (.ref lf),some (.ref p'),some (.ref ln),some (.int lv),v5,v6,v7,v8,v9,v10,some (.ref lq),none,none,none,none,none,none]) rfl ?_
  have n9:=S9 _ _ n8'
  refine⟨_,rfl,1,rfl,9,rfl,ln,_,rfl,SqL.of n9,fun le mle=>?_⟩
  have ece:pL (zs.map V.str) (some 1) (some 9)=((zs.drop 1).take 8).map V.str:=by rw[Er,List.map_drop];exact aSA (by rw[AA];omega)
  rw[ece]
  have S10:=aH.upd (o:=.lst (((zs.drop 1).take 8).map V.str)) mle
  have k10:upd H9 le (.lst (((zs.drop 1).take 8).map V.str)) le=some (.lst (((zs.drop 1).take 8).map V.str)):=aC
  generalize upd H9 le (.lst (((zs.drop 1).take 8).map V.str))=H10 at S10 k10
  refine gσ (σ':=[some (.ref a),some (.ref lf),some (.ref p'),some (.ref ln),some (.int lv),v5,v6,v7,v8,v9,v10,some (.ref lq),some (.ref le),none,none,none,none,none]) rfl ?_
  have end_:((zs.drop 1).take 8).Nodup:=DX ((DH _ _).trans (List.drop_sublist _ _)) znd
  have elen:((zs.drop 1).take 8).length=8:=by rw[AR,Bh];omega
  have esub:∀ z∈(zs.drop 1).take 8,z∈fs.map aL:=fun z m=>by rw[hzs];exact Ea (CQ m)
  generalize (zs.drop 1).take 8=es at k10 end_ elen esub
  have tab10:=tab8.keep (S9.trans S10)
  have L10:=L9.same S10
  refine⟨_,rfl,_,rfl,_,rfl,_,_,_,rfl,p',le,fs,ds',es,lv,rfl,L10,rfl,k10,by omega,by omega,end_,esub,rfl,hL,tab10,fun d8 kv8 H11 K11 tab11 nd11 hd11 sh11=>?_⟩
  refine gσ (σ':=[some (.ref a),some (.ref lf),some (.ref p'),some (.ref ln),some (.int lv),v5,v6,v7,v8,v9,v10,some (.ref lq),some (.ref le),some (.ref d8),none,none,none,none]) rfl ?_
  refine hu4 _ _ _ ?_
  have GF:=(cJ L10).1
  have GD:=(cJ L10).2
  have GG:=nU GF GD lv
  have nse:Mt22.sea∉es:=fun m=>(Aj.mp GG.vnd).1 (esub _ m)
  have FA:=aRX GG nse
  have CB:=aSB GF GD hL nse
  have ALL:=aQH end_ elen FA
  have NN:∀ z,0≤shr (cF (aP fs ds' lv)) es z:=fun z=>aTW (by omega) (by omega) FA
  have e40:((fac es.length:Nat):Int)=40320:=by rw[elen];rfl
  have hk11:=K11 _ _ (fun z=>by obtain⟨q0,eT0,_⟩:=tab10;rw[z,eT0] at k10;cases k10) k10
  have L11:=rS K11 tab10 L10
  refine aMH fun u5 hu5=>?_
  refine⟨aS rfl,fun t0 mt0=>?_⟩
  have S12:=aH.upd (o:=.tup [.int 0,.int 1]) mt0
  have k12:upd H11 t0 (.tup [.int 0,.int 1]) t0=some (.tup [.int 0,.int 1]):=aC
  generalize upd H11 t0 (.tup [.int 0,.int 1])=H12 at S12 k12
  refine gσ (σ':=[some (.ref a),some (.ref lf),some (.ref p'),some (.ref ln),some (.int lv),v5,v6,v7,v8,v9,v10,some (.ref lq),some (.ref le),some (.ref d8),some (.ref t0),none,none,none]) rfl ?_
  have hk12:=S12 _ _ hk11
  refine⟨_,rfl,le,rfl,⟨_,SqL.of hk12⟩,qS (K:=K) (a:=le) (xs:=es.map V.str) (fun i σ H'=>∃ (tt:V) (v15 v16 v17:Option V) (x0:Int) (m1:Nat),σ=[some (.ref a),some (.ref lf),some (.ref p'),some (.ref ln),some (.int lv),v5,v6,v7,v8,v9,v10,some (.ref lq),some (.ref le),some (.ref d8),some tt,v15,v16,v17]∧aH H12 H'∧Fr H' tt x0 m1∧1≤m1∧m1≤40320 ^ i∧x0*40320=(m1:Int)*sm (es.take i) (shr (cF (aP fs ds' lv)) es)) ⟨_,_,_,_,0,1,rfl,aH.refl _,⟨t0,rfl,k12⟩,AL _,AL _,rfl⟩ ?_ ?_ ?_⟩
  ·rintro i σ H' hi ⟨tt,v15,v16,v17,x0,m1,rfl,S',fr,hm1,hm2,ex⟩
   exact SqL.of (S' _ _ hk12)
  ·rintro i xv σ H' hx ⟨tt,v15,v16,v17,x0,m1,rfl,S',⟨tA,rfl,htA⟩,hm1,hm2,ex⟩
   rw[AH] at hx
   obtain⟨z,ez,rfl⟩:=Ab.mp hx
   have hi8:i<8:=by have:=(AC.mp ez).1;omega
   have T':=S12.trans S'
   obtain⟨v,ev,pt,rfl,hp⟩:=aQG (yE.mono sh11 fun b xs e=>T' _ _ e) (AI ez)
   rw[aJK,e40] at hp
   obtain⟨g,hg,g1,g2,b1,b2⟩:=aNO (shr (cF (aP fs ds' lv)) es z) (show (0:Int)<40320 by decide)
   have zn:=NN z
   have zle:shr (cF (aP fs ds' lv)) es z≤40320*10 ^ 14:=by
    have h1:shr (cF (aP fs ds' lv)) es z≤sm es (shr (cF (aP fs ds' lv)) es):=aMB NN (AI ez)
    rw[ALL] at h1
    omega
   have es':sm (es.take (i+1)) (shr (cF (aP fs ds' lv)) es)=sm (es.take i) (shr (cF (aP fs ds' lv)) es)+shr (cF (aP fs ds' lv)) es z:=by
    rw[Aa,ez,vD]
    show _+sm [z] _=_
    rw[bF,lM,Int.add_zero]
   rw[es']
   generalize sm (es.take i) (shr (cF (aP fs ds' lv)) es)=XS at ex
   generalize shr (cF (aP fs ds' lv)) es z=X1 at *
   generalize (low X1 40320).1=aX at *
   generalize (low X1 40320).2=bX at *
   have a0:0≤aX:=by
    rcases Int.lt_or_le aX 0 with h | h
    ·have:g*aX<0:=Int.mul_neg_of_pos_of_neg hg h
     omega
    ·exact h
   have a1:aX≤40320*10 ^ 14:=by
    have:1*aX≤g*aX:=Cd (by omega) a0
    omega
   refine gσ (σ':=[some (.ref a),some (.ref lf),some (.ref p'),some (.ref ln),some (.int lv),v5,v6,v7,v8,v9,v10,some (.ref lq),some (.ref le),some (.ref d8),some (.ref tA),some (.str z),v16,v17]) rfl ?_
   refine⟨_,rfl,_,rfl,d8,_,rfl,.inl ⟨_,Sum.inr z,.inl (T' _ _ hd11),rfl,ev.symm⟩,?_⟩
   refine⟨pt,_,rfl,SqT.of hp,rfl,_,_,rfl,_,_,rfl,rfl,?_⟩
   refine nxσ (σ':=[some (.ref a),some (.ref lf),some (.ref p'),some (.ref ln),some (.int lv),v5,v6,v7,v8,v9,v10,some (.ref lq),some (.ref le),some (.ref d8),some (.ref tA),some (.str z),some (.int aX),some (.int bX)]) rfl ?_
   refine⟨_,rfl,_,_,rfl,rfl,_,rfl,?_⟩
   rw[decide_eq_false (by omega)]
   refine bM ?_
   have mb:(m1:Int)≤40320 ^ 8:=by
    have h1:40320 ^ i≤40320 ^ 8:=CT (by decide) (by omega)
    have h2:m1≤40320 ^ 8:=Av hm2 h1
    have h3:((40320 ^ 8:Nat):Int)=40320 ^ 8:=by decide +kernel
    omega
   refine⟨_,rfl,tA,_,0,_,rfl,rfl,SqT.of htA,aK (j:=0) rfl,_,rfl,_,_,rfl,rfl,.inr ⟨by omega,by omega⟩,_,rfl,_,rfl,tA,_,1,_,rfl,rfl,SqT.of htA,aK (j:=1) rfl,_,_,rfl,rfl,⟨aSE a0 (by omega),aSE (by omega) (by omega)⟩,_,_,rfl,rfl,?_⟩
   refine⟨_,rfl,tA,_,1,_,rfl,rfl,SqT.of htA,aK (j:=1) rfl,_,rfl,_,_,rfl,rfl,.inr ⟨by omega,by omega⟩,aS rfl,fun tN mN=>?_⟩
   obtain⟨bN,rfl⟩:=Ap (FI b1)
   refine⟨.ref tN,_,_,_,x0*(bN:Int)+aX*(m1:Int),m1*bN,rfl,S'.trans (aH.upd mN),⟨tN,rfl,by rw[aC,EV]⟩,Nat.mul_pos hm1 (by omega),?_,?_⟩
   ·have:bN≤40320:=by omega
    rw[Nat.pow_succ]
    exact Nat.mul_le_mul hm2 this
   ·rw[EV,Int.add_mul,Int.mul_add,g1]
    have h1:x0*(bN:Int)*40320=(m1:Int)*(bN:Int)*XS:=by
     rw[show x0*(bN:Int)*40320=x0*40320*(bN:Int) by ac_rfl,ex]
     ac_rfl
    have h2:aX*(m1:Int)*40320=(m1:Int)*(bN:Int)*(g*aX):=by
     conv=>lhs;rw[g2]
     ac_rfl
    rw[h1,h2]
  rintro σ H13 ⟨tt,v15,v16,v17,x0,m1,rfl,S13,⟨tA,rfl,htA⟩,hm1,hm2,ex⟩
  refine hu5 _ _ _ ?_
  rw[AA] at hm2 ex
  rw[AG (AL _),ALL] at ex
  rw[elen] at hm2
  have mb:(m1:Int)≤40320 ^ 8:=by
   have h3:((40320 ^ 8:Nat):Int)=40320 ^ 8:=by decide +kernel
   omega
  have T13:=S12.trans S13
  have hk13:=S13 _ _ hk12
  have L13:=L11.same T13
  refine⟨_,rfl,tA,_,0,_,rfl,rfl,SqT.of htA,aK (j:=0) rfl,_,rfl,tA,_,1,_,rfl,rfl,SqT.of htA,aK (j:=1) rfl,?_⟩
  refine⟨_,rfl,_,rfl,_,rfl,_,_,_,rfl,p',le,fs,ds',es,lv,rfl,L13,rfl,hk13,by omega,end_,esub,rfl,hL,fun t lk la uk ua f' R B' H14 S14 nt nlk nla nka ht hk ik ha ia st rd=>?_⟩
  have ecf:=aJD (tH GG st rd)
  refine⟨t,_,0,_,rfl,rfl,SqT.of ht,aK (j:=0) rfl,?_⟩
  rw[← ecf]
  have x0e:x0=(m1:Int)*cF (aP fs ds' lv) es:=by
   refine Int.eq_of_mul_eq_mul_right (show (40320:Int)≠0 by decide) ?_
   rw[ex]
   ac_rfl
  refine⟨_,_,rfl,rfl,⟨aSE (by omega) (by omega),aSE CB.1 (by have:=CB.2;omega)⟩,rfl,_,rfl,?_⟩
  rw[x0e,show (!decide (V.int ((m1:Int)*cF (aP fs ds' lv) es)=V.int ((m1:Int)*cF (aP fs ds' lv) es)))=false by rw[decide_eq_true rfl];rfl]
  refine bM ?_
  have T14:=T13.trans S14
  have ek8:kv8.map (fun kv=>kV kv.1)=es.map V.str:=by
   have:=vF sh11
   have e2:kv8.map (fun kv=>kV kv.1)=(kv8.map (·.1)).map kV:=by rw[Ai];rfl
   rw[e2,this,Ai]
   rfl
  refine⟨_,rfl,d8,kv8,rfl,.inl (T14 _ _ hd11),fun l15 m15=>?_⟩
  rw[ek8]
  have S15:=aH.upd (o:=.lst (es.map V.str)) m15
  have k15:upd H14 l15 (.lst (es.map V.str)) l15=some (.lst (es.map V.str)):=aC
  generalize upd H14 l15 (.lst (es.map V.str))=H15 at S15 k15
  refine⟨_,rfl,.lst (es.map Dv.str),.lst (es.map Dv.str),⟨l15,_,rfl,k15,IsL.strs _ _⟩,⟨le,_,rfl,(S14.trans S15) _ _ hk13,IsL.strs _ _⟩,fQ _,fQ _,?_⟩
  rw[if_neg AQ,show deq (.lst (es.map Dv.str)) (.lst (es.map Dv.str))=true from qU 30 _ (fQ _)]
  refine⟨_,rfl,cR ?_⟩
  have T15:=T14.trans S15
  refine⟨_,rfl,_,rfl,_,rfl,_,_,_,rfl,p',le,fs,ds',es,lv,rfl,L11.same T15,rfl,(S14.trans S15) _ _ hk13,by omega,by omega,end_,esub,rfl,hL,tab11.keep T15,fun D us rs H16 K16 tab16 hD ir told=>?_⟩
  refine⟨D,us,rfl,.inl (SqL.of hD),rfl,?_⟩
  have lr:us.length=256:=by
   have h1:=ir.length
   have h2:=congrArg CS told.cos
   rw[AA] at h1
   rw[AA,AA,elen] at h2
   have h3:(xS 8).length=256:=by decide +kernel
   omega
  rw[lr]
  show Q (.bl (decide (V.int ((256:Nat):Int)=V.int 256))) H16
  rw[show decide (V.int ((256:Nat):Int)=V.int 256)=true from decide_eq_true rfl]
  exact q H16
theorem law_mk{fa c Tb:Addr}(hmg:mg "law"=some (.ref fa))(T:Txt K mg C) :
  ∃ fd:Ba,(∀ (s:Shared) (u:Value),BindsTo s fd ⟨[u],[]⟩ [("_law_script",u)])∧∀ base:Heap,K.In base→base.Ns CH mg→TabB K mg base "lists_of_places" c Tb→FnOk P w K mg base CX0 12 fa fd ["_law_script"] (aAQ K Tb):=by
 obtain⟨f,fd,F,b,m⟩:=T.d_p_law.ex
 rw[hmg] at m
 cases m
 refine⟨fd,fun s u=>?_,fun base _ _ B=>aVA T B F⟩
 obtain⟨oc,od,kV,doc,pm,an,cdv,ct,osl,rfl,lk,hcd⟩:=F.ex
 exact .of_eq rfl
end
end K74
namespace PySem.W.Fast
def tw7097596092839549651:=0
def tw3636115618705748607:=0
def tw1774861964983355856:=0
def tw13143554145141594341:=0
def tw18124184217657576410:=0
def tw8608155437490788193:=0
def tw6471109301452769950:=0
def tw18310803121025339767:=0
def tw13260982701216200318:=0
def tw16728326963036223344:=0
def tw6417485356774299450:=0
def tw171293616404217350:=0
def tw8432601697360558105:=0
def tw9468350255078817748:=0
def tw2688610100885847472:=0
def tw9180288097766198306:=0
def tw3955632845002406548:=0
def tw5204566702228926012:=0
def tw2826986606383980772:=0
def tw14944067227265807597:=0
def tw7888890598372648633:=0
def tw17510279001594870707:=0
def tw10640258799429007590:=0
def tw12784548288109983788:=0
def tw14237198112250530678:=0
def tw6877207259351302572:=0
def tw12680297733774177762:=0
def tw3525237637318656422:=0
def tw7540095507592295781:=0
def tw8458301984481377539:=0
def tw5284007198620127208:=0
def tw1024753469927521834:=0
def tw13074299840099397016:=0
def tw13582654448968028230:=0
def tw6177247108798268717:=0
def tw16810667481673687651:=0
def tw12326263690395774679:=0
def tw6732054173239055458:=0
def tw16089492137965701097:=0
def tw9831222894385561839:=0
def tw10931593632575178269:=0
def tw1850662231536634110:=0
def tw7795328772012407531:=0
def tw10754064585402522511:=0
def tw4066611374196602034:=0
def tw12235502279128216450:=0
def tw12800813143211892298:=0
def tw8854085997657263808:=0
def tw12622944071940866722:=0
def tw13495210473901177486:=0
def tw8651899357396086932:=0
def tw12894425824686197925:=0
def tw4257380029116890586:=0
def tw8298409997460086569:=0
def tw2030325238036472579:=0
def tw14940785769229109802:=0
def tw7000670401921024127:=0
def tw6306162697787042343:=0
def tw15222335540168142436:=0
def tw15175601983112346472:=0
def tw4708056387812673138:=0
def tw16578930179731472740:=0
def tw6623577822845736625:=0
def tw2455587267859776370:=0
def tw11704263877957064217:=0
def tw10757619502815213811:=0
def tw13868556351290317747:=0
def tw11846871776180844408:=0
def tw5595150246461413309:=0
def tw12558796423969229475:=0
def tw15457104581474089970:=0
def tw11519210238634876422:=0
def tw17057898022308038332:=0
def tw150015142610245812:=0
def tw15320732259210384201:=0
def tw290111615079543923:=0
def tw16568293362394694399:=0
def tw17804989801732068113:=0
def tw205416827677714793:=0
def tw17436450496286850509:=0
def tw12832408978873442447:=0
def tw1803431364384978503:=0
def tw4924398724633536543:=0
def tw10476455530455810835:=0
def tw1892362101899694672:=0
def tw9759321202629209302:=0
def tw4127626677711718604:=0
def tw6208108036840507882:=0
def tw8831421951188263524:=0
def tw2833384668879229526:=0
def tw7796711992077717246:=0
def tw4512144524595460259:=0
def tw6247385021874965943:=0
def tw10567751535871057816:=0
def tw9755932178619097790:=0
def tw6296957256041603597:=0
def tw3611846076711956659:=0
def tw2248890053831029897:=0
def tw3922349396839205713:=0
def tw3975624187315099180:=0
def tw7699049867982482142:=0
def tw4834971329379700953:=0
def tw12212060681554158924:=0
def tw1288668227563462634:=0
def tw5892072674512495087:=0
def tw12784691237982599220:=0
def tw14709539840721818949:=0
def tw2559424037685634191:=0
def tw3966484159245136398:=0
def tw9460639195893519753:=0
def tw3935350730159478410:=0
def tw15385179532667004521:=0
def tw1285428752005098528:=0
def tw1748981811734753773:=0
def tw18158700837997977635:=0
def tw4706884661744794730:=0
def tw300846202849822450:=0
def tw11743624410015851449:=0
def tw16938918296021800041:=0
def tw14276603999316887832:=0
def tw12075119569582895827:=0
def tw15906387761908908770:=0
def tw1770743162254914601:=0
def tw15152873821243578133:=0
def tw3288779059256073266:=0
def tw7519363999687132778:=0
def tw15436998796632638319:=0
def tw7588420336024236601:=0
def tw6987907983568385770:=0
def tw298933904540175096:=0
def tw2460075400216077312:=0
def tw14164042789829227066:=0
def tw8117076272449357888:=0
def tw1845216939115613519:=0
def tw8439154425194047259:=0
def tw13881565670513498498:=0
def tw13046471544812806063:=0
def tw3845859550296125212:=0
def tw10369775596513758393:=0
def tw8445790253828379917:=0
def tw108973469397522076:=0
def tw8887806222704729979:=0
def tw16280268273100281942:=0
def tw2472762112887129073:=0
def tw1290314466709259927:=0
def tw13197935927973090515:=0
def tw12331412097309885016:=0
def tw17923211018526962919:=0
def tw9969451094409301902:=0
def tw10740627694998297817:=0
def tw5075161786764515933:=0
def tw15213316420892198123:=0
def tw15036253301351084484:=0
def tw2995198608260447365:=0
def tw13395416253602811187:=0
def tw17204233274904462410:=0
def tw6164226079192707507:=0
def tw12240519265230802365:=0
def tw1589590477803112510:=0
def tw1315768565184767908:=0
def tw11753479697087472571:=0
def tw1489851632709968463:=0
def tw5215101773024760202:=0
def tw9155060035169144276:=0
def tw16619868069950894154:=0
def tw17353947329744915043:=0
def tw15211238893350521704:=0
def tw3595447985457484733:=0
def tw14149254014717886817:=0
def tw2332182521151317957:=0
def tw13649095098700464564:=0
def tw7334757615865620492:=0
def tw4454144646988324522:=0
def tw17040758182222880947:=0
def tw15839926039126767926:=0
def tw8997023257011949474:=0
def tw7563768311062296914:=0
def tw14647794830834359292:=0
def tw10330627800291264917:=0
def tw10054179468755683419:=0
def tw10289162712394751724:=0
def tw156784850618789850:=0
def tw1119497647021243804:=0
def tw1808922675637669175:=0
def tw16589696575334837296:=0
def tw9177302980489191786:=0
def tw3672949560103050972:=0
def tw2241017617977891557:=0
def tw2446472793223928427:=0
def tw90169948557543483:=0
def tw12167006290010748915:=0
def tw6169877407875455963:=0
def tw205191357965759155:=0
def tw13410875465865952441:=0
def tw655997875059955295:=0
def tw13027006830029349522:=0
def tw17447222887984666004:=0
def tw8700178278717134519:=0
def tw12945763861783094302:=0
def tw7131453592392370136:=0
def tw760916998129408276:=0
def tw16843411304013149486:=0
def tw4494824254567737122:=0
def tw7625500021628859297:=0
def tw1015006637224605200:=0
def tw8600796641508261242:=0
def tw16855338764162996244:=0
def tw9836544924644923921:=0
def tw928703959556358256:=0
def tw10702321893820080093:=0
def tw16530770903812629330:=0
def tw7732933251397668926:=0
def tw17052184928341619195:=0
def tw4247731830631132642:=0
def tw15407421628946952810:=0
def tw10193918442125557301:=0
def tw15852872999824629445:=0
def tw10081057981096277797:=0
def tw8690365688817037030:=0
def tw788356133286929285:=0
def tw14078181883736693137:=0
def tw14709340196186925827:=0
def tw15480873282272099517:=0
def tw12272687519800684065:=0
def tw18173888339032930245:=0
def tw3716844406950502106:=0
def tw7886218382424890247:=0
def tw17671154175516221086:=0
def tw2318106052502858058:=0
def tw1566510328827794560:=0
def tw15308603717590017912:=0
def tw3013368507748800931:=0
def tw13331337629707519594:=0
def tw13539761058736962671:=0
def tw9974996099586687960:=0
def tw11836145708026792250:=0
def tw7402577816716448440:=0
def tw5657569567984834625:=0
def tw17040228134661119105:=0
def tw11403426316419998173:=0
def tw9962710255706331177:=0
def tw3181264762317777491:=0
def tw8813186217845433160:=0
def tw16203629045578860624:=0
def tw2598913342270103393:=0
def tw7250352887183753932:=0
def tw12176468804125325676:=0
def tw8852181330371706304:=0
def tw1035930363833936356:=0
def tw12585136650275515176:=0
def tw14668689627333452844:=0
def tw17658261590902468802:=0
def tw9900490097327558051:=0
def tw3393624240873939181:=0
def tw9718530029667272230:=0
def tw4128844078539334674:=0
def tw9062006702943855085:=0
def tw17439233522934545634:=0
def tw12538245454463614500:=0
def tw2622689996575732742:=0
def tw3884771192166445101:=0
def tw7034687557457634508:=0
def tw10272199629768176843:=0
def tw14071043956865099495:=0
def tw1146222955247903094:=0
def tw11657819524510041109:=0
def tw2379345378947444411:=0
def tw13269985124657008625:=0
def tw18234327287327749715:=0
def tw3240249225929114115:=0
def tw17336422916768418677:=0
def tw1250615231628679810:=0
def tw13633694939153171135:=0
def tw225065867605416574:=0
end PySem.W.Fast
open PySem PySem.W PyProof.Rows
set_option maxRecDepth 100000 in
set_option maxHeartbeats 0 in
theorem PySem.Challenge.cw_dykemoot_k74_no_shares_holds : PySem.Challenge.rw_dykemoot_k74_no_shares.Holds := by
  w_on;o_law;k_head;(case hw=>w_witness2)
  k_fill
  refine L2.walk_lawT (l:=PySem.Challenge.rw_dykemoot_k74_no_shares) 12 "lists_of_places" 378 376 ⟨rfl,by decide,by decide⟩ rfl rfl (fun w h Y=>PySem.W.km_in_of Y) (fun w h Y=>PySem.W.km_tabs_of Y 376 (by k_mem)) (fun w=>by kernel_rfl) (fun w=>by kernel_rfl) (fun w=>by kernel_rfl) ?F
  case F =>
    intro w mg fa h KX G hmg
    refine' K74.law_mk hmg ⟨⟨?B0,?C0,?D0,?E0⟩,
   PySem.W.mg_of KX G ?A0,
   (show PySem.W.findIn _ (.ref _) "field_rows" = some none from ?H0),
   (show PySem.W.findIn _ (.ref _) "dyke_rows" = some none from ?I0),
   ⟨?J0,?K0,?L0,?M0⟩,
   L2.init_mk ?N0 ?O0 ?P0 ?Q0 ?R0 ?F0 ?G0 (fun _ _ _ _ _ _ us hl=>match us,hl with|[_,_,_],_=>rfl),
   L2.meth_mk ?S0 ?T0 ?U0 ?V0 ?W0 (fun _ _ _ _ _ _ us hl=>match us,hl with|[_],_=>rfl),
   L2.meth_mk ?X0 ?Y0 ?Z0 ?A1 ?B1 (fun _ _ _ _ _ _ us hl=>match us,hl with|[_],_=>rfl),
   L2.meth_mk ?C1 ?D1 ?E1 ?F1 ?G1 (fun _ _ _ _ _ _ us hl=>match us,hl with|[_],_=>rfl),
   L2.meth_mk ?H1 ?I1 ?J1 ?K1 ?L1 (fun _ _ _ _ _ _ us hl=>match us,hl with|[_],_=>rfl),
   L2.meth_mk ?M1 ?N1 ?O1 ?P1 ?Q1 (fun _ _ _ _ _ _ us hl=>match us,hl with|[_],_=>rfl),
   L2.meth_mk ?R1 ?S1 ?T1 ?U1 ?V1 (fun _ _ _ _ _ _ us hl=>match us,hl with|[_,_],_=>rfl),
   L2.meth_mk ?W1 ?X1 ?Y1 ?Z1 ?A2 (fun _ _ _ _ _ _ us hl=>match us,hl with|[_,_],_=>rfl),
   L2.meth_mk ?B2 ?C2 ?D2 ?E2 ?F2 (fun _ _ _ _ _ _ us hl=>match us,hl with|[_,_],_=>rfl),
   L2.meth_mk ?G2 ?H2 ?I2 ?J2 ?K2 (fun _ _ _ _ _ _ us hl=>match us,hl with|[_,_],_=>rfl),
   ⟨_,_,31,⟨⟨⟨?O2⟩,?P2⟩,?Q2,?R2,?S2,⟨?T2,?U2,?V2,?W2⟩⟩,⟨⟨⟨?X2⟩,?Y2⟩,?Z2,?A3,?B3,⟨?C3,?D3,?E3,?F3⟩⟩,PySem.W.mg_of KX G ?L2,PySem.W.mg_of KX G ?M2,PySem.W.mg_of KX G ?N2,?G3,?H3,?I3,?J3,?K3,?L3,?M3,?N3,?O3,?P3⟩,
   L2.def_mk KX G ?Q3 ?R3 ?S3 ?T3 (fun _ _ _ _ _ _ us hl=>match us,hl with|[_],_=>rfl),
   L2.def_mk KX G ?U3 ?V3 ?W3 ?X3 (fun _ _ _ _ _ _ us hl=>match us,hl with|[_],_=>rfl),
   L2.def_mk KX G ?Y3 ?Z3 ?A4 ?B4 (fun _ _ _ _ _ _ us hl=>match us,hl with|[_],_=>rfl),
   L2.def_mk KX G ?C4 ?D4 ?E4 ?F4 (fun _ _ _ _ _ _ us hl=>match us,hl with|[_],_=>rfl),
   L2.def_mk KX G ?G4 ?H4 ?I4 ?J4 (fun _ _ _ _ _ _ us hl=>match us,hl with|[_],_=>rfl),
   L2.def_mk KX G ?K4 ?L4 ?M4 ?N4 (fun _ _ _ _ _ _ us hl=>match us,hl with|[_,_],_=>rfl),
   L2.def_mk KX G ?O4 ?P4 ?Q4 ?R4 (fun _ _ _ _ _ _ us hl=>match us,hl with|[_,_],_=>rfl),
   L2.def_mk KX G ?S4 ?T4 ?U4 ?V4 (fun _ _ _ _ _ _ us hl=>match us,hl with|[_,_],_=>rfl),
   L2.def_mk KX G ?W4 ?X4 ?Y4 ?Z4 (fun _ _ _ _ _ _ us hl=>match us,hl with|[_],_=>rfl),
   L2.def_mk KX G ?A5 ?B5 ?C5 ?D5 (fun _ _ _ _ _ _ us hl=>match us,hl with|[_],_=>rfl),
   L2.def_mk KX G ?E5 ?F5 ?G5 ?H5 (fun _ _ _ _ _ _ us hl=>match us,hl with|[_],_=>rfl),
   L2.def_mk KX G ?I5 ?J5 ?K5 ?L5 (fun _ _ _ _ _ _ us hl=>match us,hl with|[_,_,_],_=>rfl),
   L2.def_mk KX G ?M5 ?N5 ?O5 ?P5 (fun _ _ _ _ _ _ us hl=>match us,hl with|[_,_],_=>rfl),
   L2.def_mk KX G ?Q5 ?R5 ?S5 ?T5 (fun _ _ _ _ _ _ us hl=>match us,hl with|[_,_],_=>rfl),
   L2.def_mk KX G ?U5 ?V5 ?W5 ?X5 (fun _ _ _ _ _ _ us hl=>match us,hl with|[_,_],_=>rfl),
   L2.def_mk KX G ?Y5 ?Z5 ?A6 ?B6 (fun _ _ _ _ _ _ us hl=>match us,hl with|[_,_],_=>rfl),
   L2.def_mk KX G ?C6 ?D6 ?E6 ?F6 (fun _ _ _ _ _ _ us hl=>match us,hl with|[_,_],_=>rfl),
   L2.def_mk KX G ?G6 ?H6 ?I6 ?J6 (fun _ _ _ _ _ _ us hl=>match us,hl with|[_,_],_=>rfl),
   L2.def_mk KX G ?K6 ?L6 ?M6 ?N6 (fun _ _ _ _ _ _ us hl=>match us,hl with|[_,_],_=>rfl),
   L2.def_mk KX G ?O6 ?P6 ?Q6 ?R6 (fun _ _ _ _ _ _ us hl=>match us,hl with|[_,_],_=>rfl),
   L2.def_mk KX G ?S6 ?T6 ?U6 ?V6 (fun _ _ _ _ _ _ us hl=>match us,hl with|[_,_,_],_=>rfl),
   L2.def_mk KX G ?W6 ?X6 ?Y6 ?Z6 (fun _ _ _ _ _ _ us hl=>match us,hl with|[_,_],_=>rfl),
   L2.def_mk KX G ?A7 ?B7 ?C7 ?D7 (fun _ _ _ _ _ _ us hl=>match us,hl with|[_,_],_=>rfl),
   L2.def_mk KX G ?E7 ?F7 ?G7 ?H7 (fun _ _ _ _ _ _ us hl=>match us,hl with|[_,_,_],_=>rfl),
   L2.def_mk KX G ?I7 ?J7 ?K7 ?L7 (fun _ _ _ _ _ _ us hl=>match us,hl with|[_,_,_],_=>rfl),
   L2.def_mk KX G ?M7 ?N7 ?O7 ?P7 (fun _ _ _ _ _ _ us hl=>match us,hl with|[_,_],_=>rfl),
   L2.def_mk KX G ?Q7 ?R7 ?S7 ?T7 (fun _ _ _ _ _ _ us hl=>match us,hl with|[_,_],_=>rfl),
   L2.def_mk KX G ?U7 ?V7 ?W7 ?X7 (fun _ _ _ _ _ _ us hl=>match us,hl with|[_,_,_],_=>rfl),
   L2.def_mk KX G ?Y7 ?Z7 ?A8 ?B8 (fun _ _ _ _ _ _ us hl=>match us,hl with|[_,_,_],_=>rfl),
   L2.def_mk KX G ?C8 ?D8 ?E8 ?F8 (fun _ _ _ _ _ _ us hl=>match us,hl with|[_,_,_,_],_=>rfl),
   L2.def_mk KX G ?G8 ?H8 ?I8 ?J8 (fun _ _ _ _ _ _ us hl=>match us,hl with|[_,_,_],_=>rfl),
   L2.def_mk KX G ?K8 ?L8 ?M8 ?N8 (fun _ _ _ _ _ _ us hl=>match us,hl with|[_,_,_,_],_=>rfl),
   L2.def_mk KX G ?O8 ?P8 ?Q8 ?R8 (fun _ _ _ _ _ _ us hl=>match us,hl with|[_,_,_],_=>rfl),
   L2.def_mk KX G ?S8 ?T8 ?U8 ?V8 (fun _ _ _ _ _ _ us hl=>match us,hl with|[_],_=>rfl),
   L2.def_mk KX G ?W8 ?X8 ?Y8 ?Z8 (fun _ _ _ _ _ _ us hl=>match us,hl with|[_,_,_],_=>rfl),
   L2.def_mk KX G ?A9 ?B9 ?C9 ?D9 (fun _ _ _ _ _ _ us hl=>match us,hl with|[_],_=>rfl),
   L2.def_mk KX G ?E9 ?F9 ?G9 ?H9 (fun _ _ _ _ _ _ us hl=>match us,hl with|[_,_,_],_=>rfl),
   L2.def_mk KX G ?I9 ?J9 ?K9 ?L9 (fun _ _ _ _ _ _ us hl=>match us,hl with|[_,_],_=>rfl),
   L2.def_mk KX G ?M9 ?N9 ?O9 ?P9 (fun _ _ _ _ _ _ us hl=>match us,hl with|[_,_],_=>rfl),
   L2.def_mk KX G ?Q9 ?R9 ?S9 ?T9 (fun _ _ _ _ _ _ us hl=>match us,hl with|[_],_=>rfl),
   L2.def_mk KX G ?U9 ?V9 ?W9 ?X9 (fun _ _ _ _ _ _ us hl=>match us,hl with|[_,_],_=>rfl),
   L2.def_mk KX G ?Y9 ?Z9 ?A10 ?B10 (fun _ _ _ _ _ _ us hl=>match us,hl with|[_,_,_],_=>rfl),
   L2.def_mk KX G ?C10 ?D10 ?E10 ?F10 (fun _ _ _ _ _ _ us hl=>match us,hl with|[_,_,_],_=>rfl),
   L2.def_mk KX G ?G10 ?H10 ?I10 ?J10 (fun _ _ _ _ _ _ us hl=>match us,hl with|[_,_],_=>rfl),
   L2.def_mk KX G ?K10 ?L10 ?M10 ?N10 (fun _ _ _ _ _ _ us hl=>match us,hl with|[_],_=>rfl),
   L2.def_mk KX G ?O10 ?P10 ?Q10 ?R10 (fun _ _ _ _ _ _ us hl=>match us,hl with|[_],_=>rfl),
   L2.def_mk KX G ?S10 ?T10 ?U10 ?V10 (fun _ _ _ _ _ _ us hl=>match us,hl with|[_],_=>rfl),
   L2.def_mk KX G ?W10 ?X10 ?Y10 ?Z10 (fun _ _ _ _ _ _ us hl=>match us,hl with|[_,_,_,_],_=>rfl),
   L2.def_mk KX G ?A11 ?B11 ?C11 ?D11 (fun _ _ _ _ _ _ us hl=>match us,hl with|[_,_],_=>rfl),
   L2.def_mk KX G ?E11 ?F11 ?G11 ?H11 (fun _ _ _ _ _ _ us hl=>match us,hl with|[_,_,_,_],_=>rfl),
   L2.def_mk KX G ?I11 ?J11 ?K11 ?L11 (fun _ _ _ _ _ _ us hl=>match us,hl with|[_],_=>rfl),
   L2.glob_mk KX G ?M11 ?N11,
   L2.glob_mk KX G ?O11 ?P11,
   L2.glob_mk KX G ?Q11 ?R11,
   L2.glob_mk KX G ?S11 ?T11,
   L2.glob_mk KX G ?U11 ?V11,
   L2.glob_mk KX G ?W11 ?X11,
   L2.glob_mk KX G ?Y11 ?Z11,
   L2.glob_mk KX G ?A12 ?B12,
   PySem.W.mg_none_of KX G ?C12,
   PySem.W.mg_none_of KX G ?D12,
   PySem.W.mg_none_of KX G ?E12,
   PySem.W.mg_none_of KX G ?F12,
   PySem.W.mg_none_of KX G ?G12,
   PySem.W.mg_none_of KX G ?H12,
   PySem.W.mg_none_of KX G ?I12,
   PySem.W.mg_none_of KX G ?J12,
   PySem.W.mg_none_of KX G ?K12,
   PySem.W.mg_none_of KX G ?L12,
   PySem.W.mg_none_of KX G ?M12,
   PySem.W.mg_none_of KX G ?N12,
   PySem.W.mg_none_of KX G ?O12,
   PySem.W.mg_none_of KX G ?P12,
   PySem.W.mg_none_of KX G ?Q12,
   PySem.W.mg_none_of KX G ?R12,
   PySem.W.mg_none_of KX G ?S12,
   PySem.W.mg_none_of KX G ?T12⟩
    case A0=>k_is
    case B0=>k_is
    case C0=>k_is
    case D0=>k_is
    case E0=>k_is
    case F0=>k_is
    case G0=>k_is
    case H0=>k_is
    case I0=>k_is
    case J0=>k_is
    case K0=>k_is
    case L0=>k_is
    case M0=>k_is
    case N0=>k_is
    case O0=>k_is
    case P0=>k_is
    case Q0=>k_is
    case R0=>k_is
    case S0=>k_is
    case T0=>k_is
    case U0=>k_is
    case V0=>k_is
    case W0=>k_is
    case X0=>k_is
    case Y0=>k_is
    case Z0=>k_is
    case A1=>k_is
    case B1=>k_is
    case C1=>k_is
    case D1=>k_is
    case E1=>k_is
    case F1=>k_is
    case G1=>k_is
    case H1=>k_is
    case I1=>k_is
    case J1=>k_is
    case K1=>k_is
    case L1=>k_is
    case M1=>k_is
    case N1=>k_is
    case O1=>k_is
    case P1=>k_is
    case Q1=>k_is
    case R1=>k_is
    case S1=>k_is
    case T1=>k_is
    case U1=>k_is
    case V1=>k_is
    case W1=>k_is
    case X1=>k_is
    case Y1=>k_is
    case Z1=>k_is
    case A2=>k_is
    case B2=>k_is
    case C2=>k_is
    case D2=>k_is
    case E2=>k_is
    case F2=>k_is
    case G2=>k_is
    case H2=>k_is
    case I2=>k_is
    case J2=>k_is
    case K2=>k_is
    case L2=>k_is
    case M2=>k_is
    case N2=>k_is
    case O2=>k_exc
    case P2=>kts_exm
    case Q2=>k_is
    case R2=>k_is
    case S2=>k_is
    case T2=>k_is
    case U2=>k_is
    case V2=>k_is
    case W2=>k_is
    case X2=>k_exc
    case Y2=>kts_exm
    case Z2=>k_is
    case A3=>k_is
    case B3=>k_is
    case C3=>k_is
    case D3=>k_is
    case E3=>k_is
    case F3=>k_is
    case G3=>kit_is
    case H3=>kit_is
    case I3=>kit_is
    case J3=>kit_is
    case K3=>kit_is
    case L3=>kit_is
    case M3=>kit_is
    case N3=>kit_is
    case O3=>kts_exm
    case P3=>kts_exm
    case Q3=>k_is
    case R3=>k_is
    case S3=>k_is
    case T3=>k_is
    case U3=>k_is
    case V3=>k_is
    case W3=>k_is
    case X3=>k_is
    case Y3=>k_is
    case Z3=>k_is
    case A4=>k_is
    case B4=>k_is
    case C4=>k_is
    case D4=>k_is
    case E4=>k_is
    case F4=>k_is
    case G4=>k_is
    case H4=>k_is
    case I4=>k_is
    case J4=>k_is
    case K4=>k_is
    case L4=>k_is
    case M4=>k_is
    case N4=>k_is
    case O4=>k_is
    case P4=>k_is
    case Q4=>k_is
    case R4=>k_is
    case S4=>k_is
    case T4=>k_is
    case U4=>k_is
    case V4=>k_is
    case W4=>k_is
    case X4=>k_is
    case Y4=>k_is
    case Z4=>k_is
    case A5=>k_is
    case B5=>k_is
    case C5=>k_is
    case D5=>k_is
    case E5=>k_is
    case F5=>k_is
    case G5=>k_is
    case H5=>k_is
    case I5=>k_is
    case J5=>k_is
    case K5=>k_is
    case L5=>k_is
    case M5=>k_is
    case N5=>k_is
    case O5=>k_is
    case P5=>k_is
    case Q5=>k_is
    case R5=>k_is
    case S5=>k_is
    case T5=>k_is
    case U5=>k_is
    case V5=>k_is
    case W5=>k_is
    case X5=>k_is
    case Y5=>k_is
    case Z5=>k_is
    case A6=>k_is
    case B6=>k_is
    case C6=>k_is
    case D6=>k_is
    case E6=>k_is
    case F6=>k_is
    case G6=>k_is
    case H6=>k_is
    case I6=>k_is
    case J6=>k_is
    case K6=>k_is
    case L6=>k_is
    case M6=>k_is
    case N6=>k_is
    case O6=>k_is
    case P6=>k_is
    case Q6=>k_is
    case R6=>k_is
    case S6=>k_is
    case T6=>k_is
    case U6=>k_is
    case V6=>k_is
    case W6=>k_is
    case X6=>k_is
    case Y6=>k_is
    case Z6=>k_is
    case A7=>k_is
    case B7=>k_is
    case C7=>k_is
    case D7=>k_is
    case E7=>k_is
    case F7=>k_is
    case G7=>k_is
    case H7=>k_is
    case I7=>k_is
    case J7=>k_is
    case K7=>k_is
    case L7=>k_is
    case M7=>k_is
    case N7=>k_is
    case O7=>k_is
    case P7=>k_is
    case Q7=>k_is
    case R7=>k_is
    case S7=>k_is
    case T7=>k_is
    case U7=>k_is
    case V7=>k_is
    case W7=>k_is
    case X7=>k_is
    case Y7=>k_is
    case Z7=>k_is
    case A8=>k_is
    case B8=>k_is
    case C8=>k_is
    case D8=>k_is
    case E8=>k_is
    case F8=>k_is
    case G8=>k_is
    case H8=>k_is
    case I8=>k_is
    case J8=>k_is
    case K8=>k_is
    case L8=>k_is
    case M8=>k_is
    case N8=>k_is
    case O8=>k_is
    case P8=>k_is
    case Q8=>k_is
    case R8=>k_is
    case S8=>k_is
    case T8=>k_is
    case U8=>k_is
    case V8=>k_is
    case W8=>k_is
    case X8=>k_is
    case Y8=>k_is
    case Z8=>k_is
    case A9=>k_is
    case B9=>k_is
    case C9=>k_is
    case D9=>k_is
    case E9=>k_is
    case F9=>k_is
    case G9=>k_is
    case H9=>k_is
    case I9=>k_is
    case J9=>k_is
    case K9=>k_is
    case L9=>k_is
    case M9=>k_is
    case N9=>k_is
    case O9=>k_is
    case P9=>k_is
    case Q9=>k_is
    case R9=>k_is
    case S9=>k_is
    case T9=>k_is
    case U9=>k_is
    case V9=>k_is
    case W9=>k_is
    case X9=>k_is
    case Y9=>k_is
    case Z9=>k_is
    case A10=>k_is
    case B10=>k_is
    case C10=>k_is
    case D10=>k_is
    case E10=>k_is
    case F10=>k_is
    case G10=>k_is
    case H10=>k_is
    case I10=>k_is
    case J10=>k_is
    case K10=>k_is
    case L10=>k_is
    case M10=>k_is
    case N10=>k_is
    case O10=>k_is
    case P10=>k_is
    case Q10=>k_is
    case R10=>k_is
    case S10=>k_is
    case T10=>k_is
    case U10=>k_is
    case V10=>k_is
    case W10=>k_is
    case X10=>k_is
    case Y10=>k_is
    case Z10=>k_is
    case A11=>k_is
    case B11=>k_is
    case C11=>k_is
    case D11=>k_is
    case E11=>k_is
    case F11=>k_is
    case G11=>k_is
    case H11=>k_is
    case I11=>k_is
    case J11=>k_is
    case K11=>k_is
    case L11=>k_is
    case M11=>k_is
    case N11=>exact ⟨_,rfl⟩
    case O11=>k_is
    case P11=>exact ⟨_,rfl⟩
    case Q11=>k_is
    case R11=>exact ⟨_,rfl⟩
    case S11=>k_is
    case T11=>exact ⟨_,rfl⟩
    case U11=>k_is
    case V11=>exact ⟨_,rfl⟩
    case W11=>k_is
    case X11=>exact ⟨_,rfl⟩
    case Y11=>k_is
    case Z11=>exact ⟨_,rfl⟩
    case A12=>k_is
    case B12=>exact ⟨_,rfl⟩
    case C12=>k_is
    case D12=>k_is
    case E12=>k_is
    case F12=>k_is
    case G12=>k_is
    case H12=>k_is
    case I12=>k_is
    case J12=>k_is
    case K12=>k_is
    case L12=>k_is
    case M12=>k_is
    case N12=>k_is
    case O12=>k_is
    case P12=>k_is
    case Q12=>k_is
    case R12=>k_is
    case S12=>k_is
    case T12=>k_is
