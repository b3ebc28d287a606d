import PyProof.Rows.All
import Wide.All
import OpenK.AllK
import Wide.FinOn
import Lean
import PyProof.EqAt
import PyProof.EqKinds
import PyProof.TupleCall
import PyProof.StrBlockI
import PyProof.SliceList
import PyProof.StrLawsIn
import PyProof.StrLaws
import PyProof.DictValues
import KE.KItemsList
import KE.KEqDict
import PyProof.DictItems
import PyProof.MeetsDictList
import PySem.Challenge.RW_dykemoot_k82_what_is_due_first
open List renaming length_map→aS,getElem?_eq_getElem→cY,getElem?_eq_some_iff→dI,take_of_length_le→dY,mem_of_getElem?→dN,getElem?_map→dO,mem_map→cP,mem_cons_self→eJ,mem_cons_of_mem→eY,length_take→dU,map_append→dP,take_add_one→eL,length_append→eW,size_toArray→eO,mem_singleton→fG,map_cons→dW,mem_cons→eM,getD_eq_getElem?_getD→jV,Nodup→eG,mem_append→gQ,length_cons→hJ,mem_append_right→jx,map_map→fS,nodup_cons→iL,range→fH,mem_filter→jD,all_eq_true→j9,mem_iff_getElem?→lh,length_singleton→li,getElem?_take_of_lt→mC,lookup_cons→kF,length_filter_le→l3,append_nil→kG,filter_append→lE,map_congr_left→l4,getElem?_append_left→nN,find?_cons→kN,mem_append_left→nO,not_mem_nil→mF,append_assoc→nc,map_nil→lF,getElem?_append_right→qz,length_drop→nR,filter_cons→nS,mem_of_mem_take→pz,lookup→lG,length_range→oy,nodup_iff_pairwise_ne→rY,length→mI,getElem?_set_ne→qB,mem_range→oB,getElem_map→pD,filter_cons_of_pos→r1,filter_cons_of_neg→r2,filter_eq_nil_iff→r3,any_cons→oD,getElem_mem→qF,all_map→oE,zipWith→pK,toArray→pL,drop_eq_nil_of_le→t8,getElem_inj→sb,any_eq_true→sd,all_cons→qK,length_reverse→ug,mem_filterMap→uj,map_inj_right→ul,getElem?_drop→um,pairwise_iff_getElem→w3,drop_eq_getElem_cons→w4,take_sublist→ur,nodup_append→ut,getElem?_set_self→xa,range_succ→uz,of_mem_zip→uA,nil_append→uB,length_nil→uC,forIn_cons→uD,filter_nil→uE,singleton_append→xb,getElem?_eq_none→xc,replicate→uG,nodup_iff_count→xh,drop_zero→uH,filterMap_cons→xj,map_take→uO,zip_cons_cons→xo,flatMap_cons→xt,map_id→uS
open PySem renaming wpAny_bind→aO,wpAny_pure→bH,starEach→dA,sizeLine→dH,wpAny_ite_false→iN,wpAny_mono→fL,NameKind→mB,wpAny_holding→jn,bootBuiltins→jE,compareOp→iO,wpAny_of_eq→kb,FuncData→iW,wpAny_truthy_bool→mE,wpAny_loadPart'→l8,PassesOwn→tW,wpAny_newObj_type→ng,sizeLine_eq→kP,wpAny_loadPart_at→nQ,codeAny_builtin→nh,mainGlobals→lH,keywordEach→lI,codeAny_call_builtin→pA,tupleKind→kH,wpAny_call→lK,wpAny_Call_Name_kw→pC,codeAny_mono→nl,plainId_quiet→nV,wpAny_call_entry→pE,binaryOp→kR,wpAny_typeNameOfWhole_keyiter→tZ,wpAny_field→nr,tupleKind_room_in1→qD,sysModules→mL,wpAny_passesOwn→pF,wpAny_pyIter_list→qE,mem_of_lookup→r7,wpAny_loadPart→pH,backToKw→lL,wpAny_typeNameOf_keyiter→t5,wpAny_attempt→pI,attributeBase→pJ,wpAny_execs_nil→qH,wpAny_getItem_str_slice→t9,getMethod→nu,wpAny_setField→qI,wpAny_ite_true→qJ,GenState→mM,wpAny_notOrdered_dict→ue,typeLookup→oH,assignEach→oI,wpAny_standAt→qL,sliceBounds→pN,wpAny_isSubtype_exc→uq,wpAny_typeOf→qQ,DictEntry→oJ,Arguments→oK,boundAndCalled→sk,Within→su,excClassObj→qS,behindInMarks→sw,wpAny_callSpecial?_slot→xf,swapsWith→pP,checkBuiltinCall→uF,wpAny_rule→qT,typeIs_str→qU,isInstance→qV,wpAny_specialOf→uK,post_val_or_str→uL,letOwnedTupleGo→uM,callWith→pR,bindArgs→pS,fastLookup→sC,closureFor→sD,wpAny_dictEntries→xC,foldedSetIterable→xD,call_meetsIn→uT,wpAny_isInstance→xH,wpAny_execs_cons→xI,subscripted→uU,builtinKind→uW,wpAny_updateSeq→xK,wpAny_dictEpoch→xL,getAttrByItsOwn→xM,wpAny_seqItems→xN,callType_codes→xO,Addr→aB,Value→aE,Shared→aK,Str→aA,Heap→bE,Expr→bJ,Stmt→bS,Program→bT,World→bN,Around→bX,Obj→aY,Env→eP,Scope→jI,wpAny→aU,model→aX
open PySem.W renaming Frag→bI,kitOne→jW,findIn→ka,kia_one→l7,Looks→rU,looks_findIn→ll,keepIn→mG,emptyDict→nP,fnOf→l9,instObj→oA,hideAll_get→r6,codeIn→qG,methodCall_KW→t7,plainGet→r9,looks_clsIn→ub,callWith_K→uf,hasDictIn→ui,isFn→sr,cellsFrom_some→w6,lookIn→ux,exmOne→uy,plainGet_of→xg,of_hideAll→xi,specialIn→xl,methodObj→xm,takerIn→xu,makesIn→xv,hideAll→xw,looks_mroIn→uV
open PySem.Heap renaming get?_push_of_some→dM,lt_size→dQ,get?_push_size→gF,get?_update_other→kE,get?_update_self→ov,size_push→pG,SameBut→oF,get?_none_of_le→uc,size_update→xz,MadeExcOf→xG
open Nat renaming le_refl→bQ,ne_of_lt→eF,lt_of_lt_of_le→iK,le_trans→fF,zero_le→jo,lt_irrefl→nj,pow_le_pow_right→qC,ne_of_gt→nk,le_succ→nq,lt_succ_self→sf,lt_trans→qM,le_of_lt→qN,mul_le_mul→si,lt_trichotomy→uu,lt_succ_of_lt→uv,le_add_right→uw,le_of_eq→sx,lt_of_le_of_lt→xq,le_of_not_lt→xA,min_eq_left→xE,add_le_add→xJ
open Bool renaming false_ne_true→fX,and_eq_true→fK,and_eq_true_iff→iV,true_and→jX,eq_iff_iff→lj,false_and→sg,or_eq_true_iff→xk,false_eq_true→xp,true→aC,false→aJ
open PySem.Value renaming ref→cZ,none→iZ,type→mJ,str→nW,builtin→sj,int→pO,bool→sB
open Option.some renaming inj→gK
open Int renaming emod_lt_of_pos→je,emod_nonneg→iM,eq_ofNat_of_zero_le→kC,toNat_natCast→oz,zero_add→qO,natAbs_mul→uJ,le_refl→sy,mul_left_comm→xy,le_of_lt→uQ,natCast_mul→xF
open Option renaming some→UA,map_eq_some_iff→kD,toList→uI,isSome_map→xn,none→aG
open PySem.F renaming plainAttrs_list→lg,type_list_append→m9,slot_list_append→nb,excBase_ValueError→py,called_set→ox,slot_dict_keyiterator_next→rW,plainAttrs_dict→r0,attr_ValueError→t4,slot_dict_values→w2,slot_dict_items→w5,slot_dict_get→w8,slot_list_getattribute→w9
open PySem.NameKind renaming free→jm,cell→ni
open False renaming elim→gZ
open PySem.PassesOwn renaming never→kt
open PySem.Obj renaming mapSeq→ja,mapFields→kO,data_mapFields→pB,isFreed_of_fields→r4,cls_mapFields→xx
open Array renaming length_toList→mD,getElem?_toList→qA,getElem?_eq_some_iff→t1,getElem?_eq_getElem→t3,size_push→xB
open PySem.SeqAt renaming EqAt→jF
open ForInStep renaming yield→l5
open PySem.Around renaming under_plainId→ow
open PyProof.Rows renaming callWith_type1→rV,slot_tuple_getitem→wZ,get?_update_seq→uN,listUpdate_at→uR
open PySem.Paired renaming nil→lm,cons→nn,length→oC,snoc→qP
open Classical renaming byContradiction→rX
open True renaming intro→mK
open PyProof.Rows.F renaming plain_set_update_loop→wY
open PySem.Builtin.Slice renaming slicePlaces→tY,sliceAdjust→w1
open PySem.Txt renaming slice→ma,slice_le→uP
open PySem.Builtin.Tuple renaming tupleExact→t0
open PySem.Calls renaming evalArgs_plain→r5,callWith_builtin→t6,spliced_cons→uh,spliced_nil→xr
open PySem.Builtin.Dict renaming updateFrom→t2
open Sum.inr renaming inj→oG
open PySem.W.Looks renaming ld→r8,here→w7
open PySem.Str renaming ofString→pM
open PySem.Code renaming quiet_builtin→uo
open PySem.Walks renaming list→sA
set_option Elab.async false
set_option linter.all false
set_option maxRecDepth 100000
theorem O.{u}{α:Sort u}{a:α}:a=a:=.refl a
theorem VD{p:Prop}(h:p:=by decide):p:=h
theorem VE{p:Prop}(h:p:=by decide +kernel):p:=h
theorem VF{p:Prop}(h:p:=by omega):p:=h
local macro_rules|`(tactic|trivial)=>`(tactic|first|exact Or.inl rfl|exact Or.inr rfl|exact Or.inr (Or.inl rfl)|exact Or.inr (Or.inr rfl)|exact j _ VD VD|assumption)
theorem VG.{u}{α:Sort u}{a:α}{q:Prop}:a=a\/q:=.inl O
noncomputable section
namespace L2
open PySem PySem.Spec PyProof.Rows
abbrev aW:=Sum Int aA
def pq:aW->aE->Bool
 |.inl k,v=>aE.isInt k v
 |.inr x,v=>aE.isStrOf x v
def RI(w:bN):aW->Int
 |.inl k=>hashInt k
 |.inr x=>hashStr w x
theorem mW:∀{k:aW} {v:aE},pq k v=aC->(∃i t,k=Sum.inl i/\v=pO i t)\/(∃x t,k=Sum.inr x/\v=nW x t)
 |.inl i,v,h=>by
  obtain⟨t,e⟩:=aE.isInt_shape (k:=i) (v:=v) h;exact .inl ⟨i,t,O,e⟩
 |.inr x,v,h=>by
  obtain⟨t,e⟩:=aE.isStrOf_shape (x:=x) (v:=v) h;exact .inr ⟨x,t,O,e⟩
theorem zX(i:Int)(t:Tok):pq (.inl i) (.int i t)=aC:=by simp[pq,aE.isInt]
theorem zW(x:aA)(t:Tok):pq (.inr x) (.str x t)=aC:=by simp[pq,aE.isStrOf]
theorem Qe(a b:Int):decide ((Sum.inl a:aW)=Sum.inl b)=(a==b):=by
 by_cases e:a=b
 .subst e;simp
 .have h:¬(Sum.inl a:aW)=Sum.inl b:=λq=>e (Sum.inl.inj q);rw[decide_eq_false h];exact(beq_eq_false_iff_ne.mpr e).symm
theorem Qa(a b:aA):decide ((Sum.inr a:aW)=Sum.inr b)=decide (a=b):=by
 by_cases e:a=b
 .subst e;simp
 .have h:¬(Sum.inr a:aW)=Sum.inr b:=λq=>e (oG q);rw[decide_eq_false h,decide_eq_false e]
theorem Qd(a:Int)(b:aA):decide ((Sum.inl a:aW)=Sum.inr b)=aJ:=decide_eq_false (λq=>nomatch q)
theorem Qb(a:aA)(b:Int):decide ((Sum.inr a:aW)=Sum.inl b)=aJ:=decide_eq_false (λq=>nomatch q)
noncomputable def dZ(prog:bT)(w:bN):PySem.KeyKind prog w aW where
 is:=pq
 hash:=RI w
 inj:=λv a b ha f=>by
  rcases mW ha with ⟨i,t,rfl,rfl⟩|⟨x,t,rfl,rfl⟩
  .rcases mW f with ⟨j,u,rfl,e⟩|⟨y,u,rfl,e⟩
   .injection e with c _;rw[c]
   .exact nomatch e
  .rcases mW f with ⟨j,u,rfl,e⟩|⟨y,u,rfl,e⟩
   .exact nomatch e
   .injection e with c _;rw[c]
 byValue:=λk v h=>by
  rcases mW h with ⟨i,t,rfl,rfl⟩|⟨x,t,rfl,rfl⟩<;>rfl
 pyHash:=λd h=>by
  rcases mW d with ⟨i,t,rfl,rfl⟩|⟨x,t,rfl,rfl⟩
  .exact wpAny_pyHash_int h
  .exact wpAny_pyHash_str h
 eqBool:=λg d h=>by
  rcases mW g with ⟨i,t,rfl,rfl⟩|⟨x,t,rfl,rfl⟩
  .rcases mW d with ⟨j,u,rfl,rfl⟩|⟨y,u,rfl,rfl⟩
   .rw[Qe]at h;exact wpAny_eqBool_int h
   .rw[Qd]at h;exact jF.int_str i t y u _ _ _ _ h
  .rcases mW d with ⟨j,u,rfl,rfl⟩|⟨y,u,rfl,rfl⟩
   .rw[Qb]at h;exact jF.str_int x t j u _ _ _ _ h
   .rw[Qa]at h;exact wpAny_eqBool_str h
 «strs»:=λk x t v h=>by
  rcases mW h with ⟨i,u,rfl,e⟩|⟨y,u,rfl,e⟩
  .exact nomatch e
  .injection e with c _;subst c;cases v<;>rfl
theorem KW(prog:bT)(w:bN)(i:Int)(t:Tok):(dZ prog w).is (.inl i) (.int i t)=aC:=zX i t
theorem KV(prog:bT)(w:bN)(x:aA)(t:Tok):(dZ prog w).is (.inr x) (.str x t)=aC:=zW x t
inductive V where
 |non|bl (b:Bool)|int (i:Int)|str (x:aA)|byt (b:Array UInt8)|flt (b:UInt64)|ref (a:aB)|ty (n:String)
 deriving DecidableEq
def cK:V->aE->Prop
 |.non,u=>u=iZ
 |.bl b,u=>u=sB b
 |.int i,u=>∃t,u=pO i t
 |.str x,u=>∃t,u=nW x t
 |.byt b,u=>∃t,u=aE.bytes b t
 |.flt b,u=>∃t,u=aE.float b t
 |.ref a,u=>u=cZ a
 |.ty n,u=>u=mJ n
abbrev cB:List V->List aE->Prop:=Paired cK
theorem cB.length(r:cB xs us):xs.length=us.length:=oC r
theorem cB.get:∀{xs:List V} {us:List aE} {i:Nat} {x:V},cB xs us->xs[i]?=some x->∃u,us[i]?=some u/\cK x u
 |_,_,_,_,.nil,e=>by simp at e
 |_,_,0,_,.cons r _,e=>by simp at e;subst e;exact⟨_,O,r⟩
 |_,_,i+1,x,.cons _ t,e=>by
  obtain⟨u,h1,h2⟩:=cB.get (i:=i) (x:=x) t (by simpa using e);exact⟨u,by simpa using h1,h2⟩
theorem cB.append:∀{xs ys:List V} {us a:List aE},cB xs us->cB ys a->cB (xs++ys) (us++a)
 |_,_,_,_,.nil,s=>s
 |_,_,_,_,.cons r t,s=>.cons r (cB.append t s)
theorem cB.take:∀{xs:List V} {us:List aE} (n:Nat),cB xs us->cB (xs.take n) (us.take n)
 |_,_,0,_=>.nil
 |_,_,_+1,.nil=>.nil
 |_,_,n+1,.cons r t=>.cons r (cB.take n t)
theorem cB.drop:∀{xs:List V} {us:List aE} (n:Nat),cB xs us->cB (xs.drop n) (us.drop n)
 |_,_,0,r=>r
 |_,_,_+1,.nil=>.nil
 |_,_,n+1,.cons _ t=>cB.drop n t
def kr:Option V->Option aE->Prop
 |some v,some u=>cK v u
 |none,aG=>True
 |_,_=>False
def fJ{f:Type}:List (f×V)->List (f×aE)->Prop:=Paired λ(p:f×V)(q:f×aE)=>p.1=q.1/\cK p.2 q.2
def kV:aW->V
 |.inl i=>.int i
 |.inr x=>.str x
inductive dX where
 |lst (xs:List V)
 |tup (xs:List V)
 |dK (J:List (aW×V))|dT (J:List (List aW×V))
 |set (S:Int->Bool) (n:Nat)
 |ins (C dx:aB) (fs:List (aA×V))
 |own (x:aB)
 |xd (fs:List (aA×V))
 |met (f x:aB)
 |rng (lo hi:Int)
 |frz (o:aY) (u:dX)
 |tbl (ps:Array aE)
 |ext (φ:bE->Prop)
abbrev aD:=aB->Option dX
noncomputable def aI(H:aD)(a:aB)(o:dX):aD:=λb=>if b=a then some o else H b
theorem aV:aI H a o a=some o:=by unfold aI;rw[if_pos O]
theorem bD(h:b≠a):aI H a o b=H b:=by unfold aI;rw[if_neg h]
theorem Ob:aI (aI H a o) a u=aI H a u:=by
 funext b;unfold aI;split<;>rfl
theorem q9{H:aD}{a b:aB}{o u:dX}(h:H a=some o)(h':H b=some u)(d:o≠u):a≠b:=by
 intro e;subst e;rw[h]at h';exact d (gK h')
theorem dC{H:aD}{a b:aB}{o:dX}(h:H a=some o)(h':H b=aG):a≠b:=by
 intro e;subst e;rw[h]at h';cases h'
def pc(h:bE)(a:aB)(b:Array aE):Prop:=∃o,h.get? a=some o/\o.cls=.type "tuple"/\∃n,o.data=.seq b n/\o.dict=aG
theorem pc.tup(x:pc h a b):IsTup h a b:=by
 obtain⟨o,e,c,n,d,_⟩:=x;exact⟨o,e,c,n,d⟩
theorem pc.new(h:bE)(a:Array aE):pc (h.push {cls:=.type "tuple",data:=.seq a}) h.objs.size a:=⟨_,gF _ O,O,_,O,O⟩
section
variable(P:bT)(w:bN)
def dR(H:aD)(h:bE)(a:aB):dX->Prop
 |.lst xs=>xs.length<=dH/\∃(b:List aE)(n:Nat),cB xs b/\h.get? a=some {cls:=.type "list",data:=.seq b.toArray n}
 |.tup xs=>xs.length<=dH/\∃b:List aE,cB xs b/\pc h a b.toArray
 |.dK J=>J.length<=dH/\(a==mL)=aJ/\∃vs,fJ J vs/\h.DictOf (dZ P w) a vs
 |.dT J=>J.length<=dH/\(a==mL)=aJ/\∃xs:List (List aW×aB×aE),
   Paired (λ(p:List aW×V)(q:List aW×aB×aE)=>p.1=q.1/\H q.2.1=some (.tup (p.1.map kV))/\cK p.2 q.2.2) J xs /\
   ∃o es ep,h.get? a=some o/\o.ExactDict/\o.data=.dict es ep/\es.toList=xs.map (entryOfKey (kH (dZ P w)))/\(xs.map (·.1)).Nodup
 |.set S n=>h.SetOf (intKind P w) a S n
 |.ins C dx fs=>H dx=some (.own a)/\fs.length<=1000/\dx≠a/\h.get? a=some (oA C dx) /\
   ∃T,h.Ns1 dx T/\(∀f,kr (fs.lookup f) (T f))/\su T (fs.map (·.1))
 |.own _=>∃o,h.get? a=some o
 |.xd fs=>∃T,h.Ns1 a T/\∀f,kr (fs.lookup f) (T f)
 |.rng lo hi=>∃t u v,h.get? a=some {cls:=.type "range",data:=.fields #[.int lo t,.int hi u,.int 1 v]}
 |.frz o u=>h.get? a=some o/\dR H h a u
 |.tbl ps=>h.get? a=some {cls:=.none,data:=.fields ps}
 |.met f x=>h.get? a=some (xm (.ref f) (.ref x))
 |.ext c=>c h/\(∃o,h.get? a=some o)/\∀h1 h2:bE,c h1->(∀o,h1.get? a=some o->h2.get? a=some o)->c h2
def eB(H:aD)(h:bE):Prop:=∀a o,H a=some o->dR P w H h a o
end
section
variable{P:bT}{w:bN}{H H':aD}{h h':bE}{a:aB}{o:dX}
theorem dR.lt(x:dR P w H h a o):a<h.objs.size:=by
 cases o with
 |lst xs=>obtain⟨_,_,_,_,e⟩:=x;exact dQ e
 |tup xs=>obtain⟨_,_,_,_,e,_⟩:=x;exact dQ e
 |dK J=>obtain⟨_,_,_,_,o,_,_,e,_⟩:=x;exact dQ e
 |dT J=>obtain⟨_,_,_,_,o,_,_,e,_⟩:=x;exact dQ e
 |set S n=>obtain⟨o,_,_,_,e,_⟩:=x;exact dQ e
 |ins C dx fs=>obtain⟨_,_,_,e,_⟩:=x;exact dQ e
 |own y=>obtain⟨_,e⟩:=x;exact dQ e
 |xd fs=>obtain⟨_,⟨_,_,_,e,_⟩,_⟩:=x;exact dQ e
 |rng lo hi=>obtain⟨_,_,_,e⟩:=x;exact dQ e
 |frz b u=>obtain⟨e,_⟩:=x;exact dQ e
 |tbl ps=>exact dQ (show h.get? a=some _ from x)
 |met f y=>exact dQ (show h.get? a=some _ from x)
 |ext c=>obtain⟨_,⟨_,e⟩,_⟩:=x;exact dQ e
theorem Paired.mapP{q n:Type}{F G:q->n->Prop}:∀{c:List q} {d:List n},Paired F c d->(∀a b,F a b->G a b)->Paired G c d
 |_,_,.nil,_=>.nil
 |_,_,.cons r t,f=>.cons (f _ _ r) (Paired.mapP t f)
theorem dR.stay(x:dR P w H h a o)(k:∀b u,(b=a\/H b=some (.own a))->h.get? b=some u->h'.get? b=some u)
 (m:∀b,H b=some (.own a)->H' b=some (.own a))(s:∀b xs,H b=some (.tup xs)->H' b=some (.tup xs)):dR P w H' h' a o:=by
 induction o with
 |lst xs=>obtain⟨g,j,n,r,e⟩:=x;exact⟨g,j,n,r,k _ _ VG e⟩
 |tup xs=>obtain⟨g,j,r,i,e,c⟩:=x;exact⟨g,j,r,i,k _ _ VG e,c⟩
 |dK J=>obtain⟨g,y,vs,r,i,es,ep,e,c⟩:=x;exact⟨g,y,vs,r,i,es,ep,k _ _ VG e,c⟩
 |dT J=>
  obtain⟨g,y,xs,r,i,es,ep,e,c⟩:=x;exact⟨g,y,xs,Paired.mapP r λp q g=>⟨g.1,s _ _ g.2.1,g.2.2⟩,i,es,ep,k _ _ VG e,c⟩
 |set S n=>obtain⟨i,es,ep,t,e,c⟩:=x;exact⟨i,es,ep,t,k _ _ VG e,c⟩
 |ins C dx fs=>
  obtain⟨d,g,z,e,T,⟨l,es,ep,A,c⟩,r⟩:=x;exact⟨m _ d,g,z,k _ _ VG e,T,⟨l,es,ep,k _ _ (.inr d) A,c⟩,r⟩
 |own y=>obtain⟨i,e⟩:=x;exact⟨i,k _ _ VG e⟩
 |xd fs=>obtain⟨T,⟨l,es,ep,e,c⟩,r⟩:=x;exact⟨T,⟨l,es,ep,k _ _ VG e,c⟩,r⟩
 |rng lo hi=>obtain⟨t,u,v,e⟩:=x;exact⟨t,u,v,k _ _ VG e⟩
 |frz i u B=>obtain⟨e,q⟩:=x;exact⟨k _ _ VG e,B q⟩
 |tbl ps=>
  have e:h.get? a=some {cls:=.none,data:=.fields ps}:=x;show h'.get? a=some {cls:=.none,data:=.fields ps};exact k a _ VG e
 |met f y=>
  have e:h.get? a=some (xm (.ref f) (.ref y)):=x;show h'.get? a=some (xm (.ref f) (.ref y));exact k a _ VG e
 |ext D=>obtain⟨p,⟨o,e⟩,st⟩:=x;exact⟨st _ _ p λo q=>k _ _ VG q,⟨o,k _ _ VG e⟩,st⟩
theorem eB.lt(x:eB P w H h)(e:H a=some o):a<h.objs.size:=(x a o e).lt
theorem eB.fresh(x:eB P w H h)(e:h.objs.size<=a):H a=aG:=by
 cases q:H a with
 |none=>rfl
 |some u=>exact absurd (iK (x.lt q) e) (nj _)
theorem eB.kept(x:eB P w H h)(k:∀b u,h.get? b=some u->h'.get? b=some u):eB P w H h':=λa o e=>
 (x a o e).stay (λb u _ q=>k b u q) (λ_ q=>q) λ_ _ q=>q
theorem eB.laid(x:eB P w H h)(k:∀b u,h.get? b=some u->h'.get? b=some u)(f:h.objs.size<=a)(new:dR P w (aI H a o) h' a o):eB P w (aI H a o) h':=λb u e=>by
 have hn:=x.fresh f;by_cases d:b=a
 .subst d;rw[aV]at e;cases e;exact new
 .rw[bD d]at e;exact(x b u e).stay (λc v _ q=>k c v q) (λc q=>by rw[bD (dC q hn)];exact q) λc xs q=>by rw[bD (dC q hn)];exact q
end
def fB(H:aD)(a:aB)(u:dX):Prop:=H a=some u\/∃o,H a=some (.frz o u)
theorem fB.ok(r:fB H a u)(x:eB P w H h):dR P w H h a u:=by
 rcases r with r|⟨o,r⟩
 .exact x a u r
 .obtain⟨_,q⟩:=x a _ r;exact q
def q0:Option dX->Prop
 |some (.lst _)=>True
 |some (.dK _)=>True
 |some (.dT _)=>True
 |some (.set _ _)=>True
 |some (.ins _ _ _)=>True
 |some (.ext _)=>True
 |_=>False
section
variable{P:bT}{w:bN}{H:aD}{h h':bE}{x e:aB}{G:dX}
theorem eB.write(m:eB P w H h)(a:q0 (H x))(i:e=x\/H e=some (.own x))(k:∀b u,b≠e->h.get? b=some u->h'.get? b=some u)(n:∃u,h'.get? e=some u)
 (new:dR P w (aI H x G) h' x G):eB P w (aI H x G) h':=λb u q=>by
 have j:∀c y,H c=some (.own y)->c≠x:=λc y r z=>by subst z;rw[r]at a;exact a
 have o:∀c xs,H c=some (.tup xs)->c≠x:=λc xs r z=>by subst z;rw[r]at a;exact a
 by_cases d:b=x
 .subst d;rw[aV]at q;cases q;exact new
 .rw[bD d]at q;by_cases f:b=e
  .have l:H b=some (.own x):=by
    rcases i with z|z
    .exact absurd (f.trans z) d
    .rw[f];exact z
   rw[q]at l;cases l;obtain⟨v,p⟩:=n;exact⟨v,by rw[f];exact p⟩
  .refine(m b u q).stay (λc v g r=>k c v ?_ r) (λc r=>by rw[bD (j c b r)];exact r) λc xs r=>by rw[bD (o c xs r)];exact r
   rcases g with rfl|g
   .exact f
   .rintro rfl;rcases i with z|z
    .exact j c b g z
    .rw[g]at z;cases z;exact d O
end
structure eC (fs ex:List aB) (H H':aD) (h h':bE):Prop where
 keep:∀b o,h.get? b=some o->H b=aG->b∉fs->b∉ex->h'.get? b=some o
 slot:∀b o,h.get? b=some o->H b=aG->b∈fs->b∉ex->∃sl,h'.get? b=some {o with slots:=sl}
 free:∀b o,h.get? b=some o->H b=aG->b∉ex->H' b=aG
 there:∀b o,h.get? b=some o->b∉ex->∃G,h'.get? b=some G
 tups:∀b xs,H b=some (.tup xs)->H' b=some (.tup xs)
 frzs:∀b o u,H b=some (.frz o u)->H' b=some (.frz o u)
 tbls:∀b ps,H b=some (.tbl ps)->∃more,H' b=some (.tbl (ps++more))
section
variable{fs s ex a3:List aB}{H z H2:aD}{h h1 h2 h':bE}{a x e:aB}{o:dX}
theorem eC.any(u:eC fs ex H z h h1){a:aY}(q:h.get? b=some a)(n:H b=aG)(c:b∉ex):∃e,h1.get? b=some {a with slots:=e}:=by
 by_cases d:b∈fs
 .exact u.slot b a q n d c
 .exact⟨a.slots,u.keep b a q n d c⟩
theorem eC.trans(a:eC fs ex H z h h1)(b:eC fs ex z H2 h1 h2):eC fs ex H H2 h h2 where
 keep:=λc d q n g e=>b.keep c d (a.keep c d q n g e) (a.free c d q n e) g e
 slot:=λc d q n g e=>by
  obtain⟨m,f⟩:=a.slot c d q n g e;obtain⟨j,i⟩:=b.slot c _ f (a.free c d q n e) g e;exact⟨j,i⟩
 free:=λc d q n e=>by
  obtain⟨G,f⟩:=a.there c d q e;exact b.free c G f (a.free c d q n e) e
 there:=λc d q e=>by
  obtain⟨G,f⟩:=a.there c d q e;exact b.there c G f e
 tups:=λc xs q=>b.tups c xs (a.tups c xs q)
 frzs:=λc d xs q=>b.frzs c d xs (a.frzs c d xs q)
 tbls:=λc ps q=>by
  obtain⟨k,f⟩:=a.tbls c ps q;obtain⟨l,i⟩:=b.tbls c _ f;exact⟨k++l,by rw[i,Array.append_assoc]⟩
theorem eC.kept(k:∀b u,h.get? b=some u->h'.get? b=some u):eC fs ex H H h h' :=
 ⟨λb a q _ _ _=>k b a q,λb a q _ _ _=>⟨a.slots,k b a q⟩,λ_ _ _ n _=>n,λb a q _=>⟨a,k b a q⟩,λ_ _ q=>q,λ_ _ _ q=>q,λ_ ps q=>⟨#[],by rw[q];simp⟩⟩
theorem eC.refl:eC fs ex H H h h:=eC.kept λ_ _ q=>q
theorem eC.laid(k:∀b u,h.get? b=some u->h'.get? b=some u)(c:h.objs.size<=a)(hn:H a=aG):eC fs ex H (aI H a o) h h' where
 keep:=λb u q _ _ _=>k b u q
 slot:=λb u q _ _ _=>⟨u.slots,k b u q⟩
 free:=λb u q n _=>by rw[bD (eF (iK (dQ q) c))];exact n
 there:=λb u q _=>⟨u,k b u q⟩
 tups:=λb xs q=>by rw[bD (dC q hn)];exact q
 frzs:=λb u xs q=>by rw[bD (dC q hn)];exact q
 tbls:=λb ps q=>⟨#[],by rw[bD (dC q hn),q];simp⟩
theorem eC.write(c:q0 (H x))(i:e=x\/H e=some (.own x))(k:∀b u,b≠e->h.get? b=some u->h'.get? b=some u)(j:∃u,h'.get? e=some u):eC fs ex H (aI H x o) h h':=by
 have d:∀b,H b=aG->b≠x:=λb n a=>by subst a;rw[n]at c;exact c
 have f:∀b,H b=aG->b≠e:=λb n a=>by
  subst a;rcases i with r|r
  .exact d b n r
  .rw[n]at r;cases r
 have hm:∀b u,H b=some u->¬q0 (some u)->b≠x:=λb u q nm a=>by subst a;rw[q]at c;exact nm c
 refine⟨λb u q n _ _=>k b u (f b n) q,λb u q n _ _=>⟨u.slots,k b u (f b n) q⟩,λb u q n _=>by rw[bD (d b n)];exact n,λb u q _=>?_,
  λb xs q=>by rw[bD (hm b _ q λa=>a)];exact q,λb u xs q=>by rw[bD (hm b _ q λa=>a)];exact q,λb ps q=>⟨#[],by rw[bD (hm b _ q λa=>a),q];simp⟩⟩
 by_cases g:b=e
 .subst g;exact j
 .exact⟨u,k b u g q⟩
end
def wt(h:bE)(H:aD):List aB:=(fH h.objs.size).filter λa=>(H a).isSome
def nz(h:bE)(H:aD):bE:=xw h (wt h H)
theorem MI(h:bE)(H:aD):(nz h H).objs.size=h.objs.size:=PySem.W.hideAll_size _ _
theorem NJ(e:h.get? b=some o)(n:H b=aG):(nz h H).get? b=some o:=
 r6 _ e λhm=>by
  have q:(H b).isSome=aC:=(jD.mp hm).2;rw[n]at q;simp at q
theorem OM(e:(nz h H).get? b=some o):h.get? b=some o/\H b=aG:=by
 have a:h.get? b=some o:=xi (wt h H) e;refine⟨a,?_⟩;cases q:H b with
 |none=>rfl
 |some x=>
  have hm:b∈wt h H:=jD.mpr ⟨oB.mpr (dQ a),by simp[q]⟩;have c:(nz h H).get? b=aG:=PySem.W.hideAll_none (wt h H) hm;rw[c]at e;cases e
noncomputable def Pl(g h:bE)(L:aB):List (aB×aY):=(fH h.objs.size).filterMap λa=>if a=L\/(g.get? a).isSome=aC then aG else(h.get? a).map λo=>(a,o)
def rest(g h:bE)(L d:aB):List (aB×aY):=(Pl g h L).filter λp=>decide (p.1≠d)
structure Mod (K:bI) (mg:aA->Option aE) (base:bE):Prop where
 kin:K.In base
 glob:base.Ns lH mg
 blt:∃mb,base.Ns builtinsNs mb/\∀x:aA,x≠"__name__"->mb x=jE x
 nolimit:base.NoLimit
structure aZ where
 prog:bT
 w:bN
 K:bI
 mg:aA->Option aE
 base:bE
 A:bX
 N:List aA
 s₀:aK
 H₀:aD
 env:eP
 outer:List eP
 stack:List eP
 ex:List aB
 fn:aA->Bool
 calm:Bool
 pn:List (aB×aY)
 xe:aE->aK->Prop
def gO(l:List eP):List aB:=l.filterMap (·.frame)
abbrev aZ.fs (X:aZ):List aB:=gO X.outer
def sO(a:jI)(x:aA):Prop:=a.names.lookup x=some .local\/a.names.lookup x=some .cell\/a.names.lookup x=some .free
def Loc(a:jI)(x:aA):Prop:=a.names.lookup x=some .local\/a.names.lookup x=some .cell
def Sw(env:eP)(h:bE)(m:aA->Option aE)(x:aA)(u:aE):Prop:=
 (env.kindOf x=some .local/\m x=some u)\/((env.kindOf x=some .cell\/env.kindOf x=some .free)/\∃c,env.cells.lookup x=some c/\h.IsCell c (some u))
structure aZ.Ok (X:aZ):Prop where
 mod:Mod X.K X.mg X.base
 kind:X.env.scope.kind=.function
 glob:X.env.globals=lH
 blt:X.env.builtins=builtinsNs
 above:X.s₀.heap.objs.size<=X.env.locals
 inj:∀x y c,X.env.cells.lookup x=some c->X.env.cells.lookup y=some c->x=y
 has:∀x,(X.env.kindOf x=some .cell\/X.env.kindOf x=some .free)->∃c,X.env.cells.lookup x=some c
 cab:∀x c,X.fn x=aC->X.env.cells.lookup x=some c->X.s₀.heap.objs.size<=c
 hd:X.calm=aC->X.A.handled=aG
 frames:X.A.frames=some X.stack
 stk:X.stack=X.outer\/(X.stack=X.env::X.outer/\X.env.frame=some X.env.locals)
 exf:∀b∈X.ex,b≠X.env.locals/\∀x c,X.env.cells.lookup x=some c->c≠b
 bs:∀b o,X.base.get? b=some o->X.s₀.heap.get? b=some o/\X.H₀ b=aG
 bsz:X.base.objs.size<=X.s₀.heap.objs.size
 noex:∀b o,X.base.get? b=some o->b∉X.ex
 exfs:∀b∈X.ex,b∉X.fs
 funs:X.s₀.heap.FunFrames X.base X.outer
 frf:∀b∈X.fs,X.H₀ b=aG
structure Inv (X:aZ) (U:List (aB×aY)) (Y:List (Option V)) (H:aD) (s:aK):Prop where
 ok:X.Ok
 os:s.os=X.s₀.os
 bare:AllBare s.gens
 base:eC X.fs X.ex X.H₀ H X.s₀.heap s.heap
 loc:∃m,s.heap.Ns X.env.locals m/\∀(i:Nat)(x:aA)(v:V),X.N[i]?=some x->Y[i]?=some (some v)->sO X.env.scope x->∃u,cK v u/\Sw X.env s.heap m x u
 cell:∀x c,X.env.cells.lookup x=some c->∃v,s.heap.IsCell c v
 free:H X.env.locals=aG
 freeC:∀x c,X.env.cells.lookup x=some c->H c=aG
 pin:∀p∈X.pn++U,s.heap.get? p.1=some p.2/\H p.1=aG/\p.1≠X.env.locals/\p.1∉X.fs/\∀v,p.2.data≠.cell v
 hok:eB X.prog X.w H s.heap
 len:Y.length=X.N.length
section
variable{X:aZ}{U:List (aB×aY)}{Y:List (Option V)}{H H':aD}{s:aK}{h':bE}
theorem aZ.Ok.nofr(a:X.Ok)(e:X.base.get? b=some o):b∉X.fs:=λc=>by
 have:=(a.funs.mem c).1;rw[e]at this;cases this
theorem Inv.bs(I:Inv X U Y H s):∀b o,X.base.get? b=some o->s.heap.get? b=some o/\H b=aG:=λb o e=>
 ⟨I.base.keep b o (I.ok.bs b o e).1 (I.ok.bs b o e).2 (I.ok.nofr e) (I.ok.noex b o e),I.base.free b o (I.ok.bs b o e).1 (I.ok.bs b o e).2 (I.ok.noex b o e)⟩
theorem Inv.bk(I:Inv X U Y H s):∀b o,X.base.get? b=some o->s.heap.get? b=some o:=λb o e=>(I.bs b o e).1
theorem Inv.mod(I:Inv X U Y H s):Mod X.K X.mg X.base:=I.ok.mod
theorem Inv.kIn(I:Inv X U Y H s):X.K.In s.heap:=I.ok.mod.kin.keeps I.bk
theorem Inv.fr(I:Inv X U Y H s):∃m,Fr X.base X.env.locals s.heap m:=
 let ⟨m,a,_⟩:=I.loc
 ⟨m,a,I.bk,fF I.ok.bsz I.ok.above⟩
theorem Inv.lt(I:Inv X U Y H s):X.env.locals<s.heap.objs.size:=let ⟨_,a,_⟩:=I.loc;a.lt
theorem Inv.sz(I:Inv X U Y H s):X.s₀.heap.objs.size<=s.heap.objs.size:=fF I.ok.above (qN I.lt)
theorem Inv.nofs(I:Inv X U Y H s)(h:s.heap.objs.size<=a):a∉X.fs:=λb=>by
 obtain⟨_,o,c,_⟩:=I.ok.funs.mem b;exact absurd (iK (dQ c) (fF I.sz h)) (nj _)
theorem Inv.cne(I:Inv X U Y H s):∀x c,X.env.cells.lookup x=some c->c≠X.env.locals:=λx c e d=>by
 obtain⟨v,o,a,b⟩:=I.cell x c e;obtain⟨m,⟨G,es,ep,f,g,_⟩,_⟩:=I.loc;rw[d,f]at a;cases a;rw[g]at b;cases b
theorem Inv.funs(I:Inv X U Y H s):s.heap.FunFrames X.base X.outer:=by
 have all:∀(l:List eP),(∀b∈gO l,b∈X.fs)->X.s₀.heap.FunFrames X.base l->s.heap.FunFrames X.base l:=by
  intro l
  induction l with
  |nil=>intro _ _;trivial
  |cons env r g=>
   intro f h;obtain⟨i,⟨L,o,a,j,k,m⟩,n⟩:=h;have c:L∈X.fs:=f L (by unfold gO;rw[xj,a];exact eJ);obtain⟨q,e⟩:=I.base.slot L o k (I.ok.frf L c) c λp=>I.ok.exfs L p c;exact⟨i,⟨L,_,a,j,e,m⟩,g (λb d=>f b (by unfold gO;rw[xj,a];exact eY _ d)) n⟩
 exact all X.outer (λ_ d=>d) I.ok.funs
theorem Inv.stack(I:Inv X U Y H s):s.heap.FunFrames X.base X.stack:=by
 rcases I.ok.stk with e|⟨e,a⟩
 .rw[e];exact I.funs
 .rw[e];obtain⟨m,b,_⟩:=I.loc;refine .cons (by rw[I.ok.kind];decide) a b ?_ I.funs;exact uc (fF I.ok.bsz I.ok.above)
theorem Inv.stkSub(I:Inv X U Y H s):∀b∈gO X.stack,b∈X.env.locals::X.fs:=λb a=>by
 rcases I.ok.stk with e|⟨e,c⟩
 .rw[e]at a;exact eY _ a
 .rw[e]at a;unfold gO at a;rw[xj,c]at a;exact a
theorem Inv.stkFree(I:Inv X U Y H s):∀b∈gO X.stack,H b=aG:=λb a=>by
 rcases eM.mp (I.stkSub b a) with e|a
 .rw[e];exact I.free
 .obtain⟨_,o,c,_⟩:=I.ok.funs.mem a;exact I.base.free b o c (I.ok.frf b a) λd=>I.ok.exfs b d a
theorem Inv.step{g':Array mM}{t':Nat}{d':Drawn}{ch:List aB}(I:Inv X U Y H s)
 (j:∀b∈ch,(b∈X.ex\/X.s₀.heap.objs.size<=b)/\b≠X.env.locals/\(∀x c,X.env.cells.lookup x=some c->c≠b)/\∀p∈X.pn++U,p.1≠b)
 (A:∀b o,b≠X.env.locals->b∉X.fs->b∉ch->s.heap.get? b=some o->H b=aG->h'.get? b=some o)
 (slot:∀b o,b≠X.env.locals->b∈X.fs->b∉ch->s.heap.get? b=some o->H b=aG->∃B,h'.get? b=some {o with slots:=B})(free:∀b o,b∉ch->s.heap.get? b=some o->H b=aG->H' b=aG)
 (there:∀b o,b∉ch->s.heap.get? b=some o->∃G,h'.get? b=some G)
 (Q:∀b xs,H b=some (.tup xs)->H' b=some (.tup xs))(T:∀b o u,H b=some (.frz o u)->H' b=some (.frz o u))(a0:∀b ps,H b=some (.tbl ps)->∃a1,H' b=some (.tbl (ps++a1)))
 (ns:∀m,s.heap.Ns X.env.locals m->h'.Ns X.env.locals m)(a2:eB X.prog X.w H' h')(a3:AllBare g') :
  Inv X U Y H' {s with heap:=h',gens:=g',drawn:=d',toks:=t'}:=by
 have D:∀b o,X.s₀.heap.get? b=some o->b≠X.env.locals:=λb o e=>eF (iK (dQ e) I.ok.above);have y:∀b o,X.s₀.heap.get? b=some o->b∉X.ex->b∉ch:=λb o e a g=>by
  rcases (j b g).1 with z|z
  .exact a z
  .exact absurd (iK (dQ e) z) (nj _)
 have E:∀x c,X.env.cells.lookup x=some c->∀v,s.heap.IsCell c v->h'.IsCell c v:=λx c e v ⟨o,h,C⟩=>by
  have t:c∉ch:=λz=>(j c z).2.2.1 x c e O;by_cases J:c∈X.fs
  .obtain⟨B,q⟩:=slot c o (I.cne x c e) J t h (I.freeC x c e);exact⟨_,q,C⟩
  .exact⟨o,A c o (I.cne x c e) J t h (I.freeC x c e),C⟩
 refine⟨I.ok,I.os,a3,⟨λb o e n g a=>?_,λb o e n g a=>?_,λb o e n a=>?_,λb o e a=>?_,λb xs e=>Q b xs (I.base.tups b xs e),λb o xs e=>T b o xs (I.base.frzs b o xs e),λb ps e=>?_⟩,?_,λx c e=>?_,?_,λx c e=>?_,λp L=>?_,a2,I.len⟩
 .exact A b o (D b o e) g (y b o e a) (I.base.keep b o e n g a) (I.base.free b o e n a)
 .obtain⟨B,f⟩:=I.base.slot b o e n g a;obtain⟨a4,w⟩:=slot b _ (D b o e) g (y b o e a) f (I.base.free b o e n a);exact⟨a4,w⟩
 .obtain⟨G,f⟩:=I.base.there b o e a;exact free b G (y b o e a) f (I.base.free b o e n a)
 .obtain⟨G,f⟩:=I.base.there b o e a;exact there b G (y b o e a) f
 .obtain⟨a5,f⟩:=I.base.tbls b ps e;obtain⟨a6,w⟩:=a0 b _ f;exact⟨a5++a6,by rw[w,Array.append_assoc]⟩
 .obtain⟨m,a7,a8⟩:=I.loc;refine⟨m,ns m a7,λi x v f w a9=>?_⟩;obtain⟨u,r,l⟩:=a8 i x v f w a9;refine⟨u,r,?_⟩;rcases l with l|⟨k,c,e,z⟩
  .exact .inl l
  .exact .inr ⟨k,c,e,E x c e _ z⟩
 .obtain⟨v,z⟩:=I.cell x c e;exact⟨v,E x c e v z⟩
 .obtain⟨m,⟨o,_,_,h,_⟩,_⟩:=I.loc;exact free _ o (λz=>(j _ z).2.1 O) h I.free
 .obtain⟨v,o,h,C⟩:=I.cell x c e;exact free c o (λz=>(j c z).2.2.1 x c e O) h (I.freeC x c e)
 .obtain⟨e,n,M,N,d⟩:=I.pin p L;have t:p.1∉ch:=λz=>(j p.1 z).2.2.2 p L O;exact⟨A p.1 p.2 M N t e n,free p.1 p.2 t e n,M,N,d⟩
theorem Inv.un{t':Nat}(I:Inv X U Y H s)(u:eC X.fs [] H H' s.heap h')(f:eB X.prog X.w H' h'):Inv X U Y H' {s with heap:=h',toks:=t'}:=by
 obtain⟨m,⟨o,es,ep,c,r⟩,_⟩:=id I.loc;obtain⟨l,g⟩:=u.any c I.free (by simp);exact I.step (g':=s.gens) (d':=s.drawn) (ch:=[]) (λ_ h=>nomatch h) (λb o _ a _ e n=>u.keep b o e n a (by simp)) (λb o _ a _ e n=>u.slot b o e n a (by simp)) (λb o _ e n=>u.free b o e n (by simp)) (λb o _ e=>u.there b o e (by simp)) u.tups u.frzs u.tbls (λp hm=>by
  obtain⟨G,i,j,d,k⟩:=hm;rw[c]at d;cases d;exact⟨_,i,j,g,k⟩) f I.bare
theorem Inv.call{g':Array mM}{t':Nat}{d':Drawn}{ch:List aB}(I:Inv X U Y H s)(u:eC (gO X.stack) ch H H' s.heap h')(j:eB X.prog X.w H' h')(k:AllBare g')
 (g:∀b∈ch,(b∈X.ex\/X.s₀.heap.objs.size<=b)/\b≠X.env.locals/\(∀x c,X.env.cells.lookup x=some c->c≠b)/\∀p∈X.pn++U,p.1≠b) :
  Inv X U Y H' {s with heap:=h',gens:=g',drawn:=d',toks:=t'}:=by
 obtain⟨m,⟨o,es,ep,h,r⟩,_⟩:=id I.loc;obtain⟨y,d⟩:=u.any h I.free λf=>(g _ f).2.1 O;exact I.step (ch:=ch) g (λb o d l a e n=>u.keep b o e n (λf=>(eM.mp (I.stkSub b f)).elim d l) a) (λb o _ _ a e n=>u.any e n a) (λb o a e n=>u.free b o e n a) (λb o a e=>u.there b o e a) u.tups u.frzs u.tbls (λz hm=>by
  obtain⟨G,q,t,i,w⟩:=hm;rw[h]at i;cases i;exact⟨_,q,t,d,w⟩) j k
theorem Inv.turned{t':Nat}{it:aB}(I:Inv X U Y H s)(k:∀b o,b≠it->s.heap.get? b=some o->h'.get? b=some o)(g:H it=aG)(d:it≠X.env.locals)
 (h1:it∈X.ex\/X.s₀.heap.objs.size<=it)(h2:∀x c,X.env.cells.lookup x=some c->c≠it)(h:∀p∈X.pn++U,p.1≠it):Inv X U Y H {s with heap:=h',toks:=t'}:=by
 have f:∀b u,H b=some u->b≠it:=λb u e z=>by rw[z,g]at e;cases e
 refine I.step (g':=s.gens) (d':=s.drawn) (ch:=[it]) (λb i=>?_) (λb o _ _ a e _=>k b o (λz=>a (by simp[z])) e) (λb o _ _ a e _=>⟨o.slots,k b o (λz=>a (by simp[z])) e⟩) (λ_ _ _ _ n=>n)
  (λb o a e=>⟨o,k b o (λz=>a (by simp[z])) e⟩) (λ_ _ e=>e) (λ_ _ _ e=>e) (λb ps e=>⟨#[],by rw[e];simp⟩) (λm hm=>?_) (λb u e=>?_) I.bare
 .have e:b=it:=by simpa using i
  subst e;exact⟨h1,d,h2,h⟩
 .obtain⟨o,es,ep,j,r⟩:=hm;exact⟨o,es,ep,k _ o (Ne.symm d) j,r⟩
 .refine(I.hok b u e).stay (λc v a q=>k c v ?_ q) (λ_ q=>q) λ_ _ q=>q;rcases a with z|z
  .rw[z];exact f b u e
  .exact f c _ z
theorem Inv.tok(I:Inv X U Y H s)(t:Nat):Inv X U Y H {s with toks:=t}:=I.un (h':=s.heap) (t':=t) eC.refl I.hok
theorem Inv.kept(I:Inv X U Y H s)(k:∀b u,s.heap.get? b=some u->h'.get? b=some u):Inv X U Y H {s with heap:=h',toks:=t'}:=I.un (eC.kept k) (I.hok.kept k)
theorem Inv.laid(I:Inv X U Y H s)(k:∀b u,s.heap.get? b=some u->h'.get? b=some u)(c:s.heap.objs.size<=a)(new:dR X.prog X.w (aI H a o) h' a o) :
  Inv X U Y (aI H a o) {s with heap:=h',toks:=t'}:=I.un (eC.laid k c (I.hok.fresh c)) (I.hok.laid k c new)
theorem Inv.write(I:Inv X U Y H s)(a:q0 (H x))(c:e=x\/H e=some (.own x))(k:∀b u,b≠e->s.heap.get? b=some u->h'.get? b=some u)(d:∃u,h'.get? e=some u)
 (new:dR X.prog X.w (aI H x o) h' x o):Inv X U Y (aI H x o) {s with heap:=h',toks:=t'}:=I.un (eC.write a c k d) (I.hok.write a c k d new)
theorem Inv.weak(I:Inv X U Y H s)(a:σ'.length=Y.length)(w:∀(i:Nat) v,σ'[i]?=some (some v)->Y[i]?=some (some v)):Inv X U σ' H s:=
 ⟨I.ok,I.os,I.bare,I.base,let ⟨m,b,c⟩:=I.loc;⟨m,b,λi x v d e f=>c i x v d (w i v e) f⟩,I.cell,I.free,I.freeC,I.pin,I.hok,a.trans I.len⟩
theorem Inv.pins_of(I:Inv X U Y H s)(h:∀p∈pins',s.heap.get? p.1=some p.2/\H p.1=aG/\p.1≠X.env.locals/\p.1∉X.fs/\∀v,p.2.data≠.cell v):Inv X pins' Y H s:=
 ⟨I.ok,I.os,I.bare,I.base,I.loc,I.cell,I.free,I.freeC,λp a=>(gQ.mp a).elim (λb=>I.pin p (nO _ b)) (h p),I.hok,I.len⟩
theorem wx{N:List aA}(c:N.Nodup){i j:Nat}{x:aA}(a:N[i]?=some x)(b:N[j]?=some x):i=j:=by
 obtain⟨h1,d⟩:=dI.mp a;obtain⟨h2,e⟩:=dI.mp b;exact(sb c).mp (d.trans e.symm)
theorem Md{M:Model}{A:bX}{E:aE->aK->Prop}{i:Nat}{x:aA}{v:V}{u:aE}{Q:Unit->aK->Prop}(I:Inv X U Y H s)(a9:X.N.Nodup)(hi:X.N[i]?=some x)(t:Loc X.env.scope x)(r:cK v u)
 (h:∀ L,Inv X U (Y.set i (some v)) H L->(∃ a,oF a s.heap L.heap/\(a=X.env.locals\/X.env.cells.lookup x=some a))->Q () L)(ak:X.fn x=aC\/X.env.scope.names.lookup x=some .local:=by trivial):aU M A (storeName X.env x u) Q E s:=by
 obtain⟨m,T,aa⟩:=id I.loc;have al:(X.env.scope.kind == .class || (X.env.scope.kind == .module && X.env.locals != X.env.globals))=aJ:=by rw[I.ok.kind];rfl
 have ac:i<Y.length:=by rw[I.len];exact (dI.mp hi).1
 have a0:=I.cne;have ae:∀ {a:aB} {h':bE},(∃ o,s.heap.get? a=some o/\H a=aG)->oF a s.heap h'->eB X.prog X.w H h':=λ{a h'} am f b an e=>by
  obtain⟨_,_,af⟩:=am;refine (I.hok b an e).stay (λ c J l q=>(f.2 c ?_).trans q) (λ_ q=>q) λ_ _ q=>q;rintro rfl;rcases l with rfl | l
  .rw[af] at e;cases e
  .rw[af] at l;cases l
 rcases t with B | B
 .refine wpAny_storeName_local B T (λ h' ao f=>?_) al;obtain⟨ap,_,_,aq,_⟩:=id T;refine h _ ⟨I.ok,I.os,I.bare,⟨λ b o e n C t=>?_,λ b o e n C t=>?_,I.base.free,λ b o e t=>?_,I.base.tups,I.base.frzs,I.base.tbls⟩,⟨_,ao,λ j y a1 g w a2=>?_⟩,λ y c e=>?_,I.free,I.freeC,λ p a3=>?_,ae ⟨ap,aq,I.free⟩ f,by simpa using I.len⟩ ⟨_,f,.inl O⟩
  .exact (f.2 b (eF (iK (dQ e) I.ok.above))).trans (I.base.keep b o e n C t)
  .obtain⟨a4,g⟩:=I.base.slot b o e n C t;exact⟨a4,(f.2 b (eF (iK (dQ e) I.ok.above))).trans g⟩
  .obtain⟨G,g⟩:=I.base.there b o e t;exact⟨G,(f.2 b (eF (iK (dQ e) I.ok.above))).trans g⟩
  .by_cases D:j=i
   .subst D;rw[hi] at g;cases g;rw[xa ac] at w;cases w;exact⟨u,r,.inl ⟨B,by simp⟩⟩
   .rw[qB (Ne.symm D)] at w;obtain⟨a5,a6,q⟩:=aa j y a1 g w a2;refine⟨a5,a6,?_⟩;rcases q with ⟨k,e⟩ | ⟨k,c,e,z⟩
    .refine .inl ⟨k,?_⟩;have:y≠x:=λ e=>D (wx a9 g (e▸hi));simp[this,e]
    .exact .inr ⟨k,c,e,z.sameBut f (a0 y c e)⟩
  .obtain⟨J,z⟩:=I.cell y c e;exact⟨J,z.sameBut f (a0 y c e)⟩
  .obtain⟨e,n,N,a7,d⟩:=I.pin p a3;exact⟨(f.2 p.1 N).trans e,n,N,a7,d⟩
 .have a8:X.fn x=aC:=by
   rcases ak with z | z
   .exact z
   .rw[z] at B;cases B
  obtain⟨c,l⟩:=I.ok.has x (.inl B);obtain⟨J,z⟩:=I.cell x c l;refine wpAny_storeName_cell I.ok.kind B l z (λ h' ag f=>?_);obtain⟨ah,ai,ar⟩:=id z;refine h { s with heap:=h' } ⟨I.ok,I.os,I.bare,⟨λ b o e n C t=>?_,λ b o e n C t=>?_,I.base.free,λ b o e t=>?_,I.base.tups,I.base.frzs,I.base.tbls⟩,⟨m,T.sameBut f (Ne.symm (a0 x c l)),λ j y a1 g w a2=>?_⟩,λ y c' e=>?_,I.free,I.freeC,λ p a3=>?_,ae ⟨ah,ai,I.freeC x c l⟩ f,by simpa using I.len⟩ ⟨c,f,.inr l⟩
  .exact (f.2 b (eF (iK (dQ e) (I.ok.cab x c a8 l)))).trans (I.base.keep b o e n C t)
  .obtain⟨a4,g⟩:=I.base.slot b o e n C t;exact⟨a4,(f.2 b (eF (iK (dQ e) (I.ok.cab x c a8 l)))).trans g⟩
  .obtain⟨G,g⟩:=I.base.there b o e t;exact⟨G,(f.2 b (eF (iK (dQ e) (I.ok.cab x c a8 l)))).trans g⟩
  .by_cases D:j=i
   .subst D;rw[hi] at g;cases g;rw[xa ac] at w;cases w;exact⟨u,r,.inr ⟨.inl B,c,l,ag⟩⟩
   .rw[qB (Ne.symm D)] at w;obtain⟨a5,a6,q⟩:=aa j y a1 g w a2;refine⟨a5,a6,?_⟩;rcases q with q | ⟨k,c',e,as⟩
    .exact .inl q
    .refine .inr ⟨k,c',e,as.sameBut f ?_⟩;rintro rfl;exact D (wx a9 g (I.ok.inj _ _ _ e l▸hi))
  .by_cases aj:c'=c
   .subst aj;exact⟨_,ag⟩
   .obtain⟨au,av⟩:=I.cell y c' e;exact⟨au,av.sameBut f aj⟩
  .obtain⟨e,n,N,a7,d⟩:=I.pin p a3;refine⟨(f.2 p.1 ?_).trans e,n,N,a7,d⟩;intro q;rw[q,ai] at e;have aw:ah=p.2:=gK e;exact d J (by rw[← aw];exact ar)
theorem wo(I:Inv X U Y H s)(a:X.N.Nodup)(hi:X.N[i]?=some x)(b:Loc X.env.scope x)(r:cK v u)
 (h:∀L,Inv X U (Y.set i (some v)) H L->Q () L)(c:X.fn x=aC\/X.env.scope.names.lookup x=some .local:=by trivial):aU M A (storeName X.env x u) Q E s:=
 Md I a hi b r (λL d _=>h L d) c
theorem Inv.call'(I:Inv X U Y H s)(a:L.os=s.os)(u:eC (gO X.stack) ch H H' s.heap L.heap)(d:eB X.prog X.w H' L.heap)(f:AllBare L.gens)
 (g:∀b∈ch,(b∈X.ex\/X.s₀.heap.objs.size<=b)/\b≠X.env.locals/\(∀x c,X.env.cells.lookup x=some c->c≠b)/\∀p∈X.pn++U,p.1≠b):Inv X U Y H' L:=by
 obtain⟨h',g',d',t',G⟩:=L;have e:G=s.os:=a;subst e;exact I.call (g':=g') (t':=t') (d':=d') u d f g
end
abbrev dL:=aE->Option aB->aD->Prop
abbrev St:=List (Option V)
abbrev aP:=V->aD->Prop
abbrev bG:=St->aD->aP->Prop
abbrev TT:=St->aD->(Bool->aD->Prop)->Prop
abbrev fU:=St->aD->(List V->aD->Prop)->Prop
structure Ends where
 nx:St->aD->Prop
 rt:aP
 bk:St->aD->Prop:=λ_ _=>False
 ct:St->aD->Prop:=λ_ _=>False
abbrev eR:=Ends->St->aD->Prop
def gG(X:aZ)(U:List (aB×aY))(Y:St)(Q:aP)(u:aE)(L:aK):Prop:=∃v H',Inv X U Y H' L/\cK v u/\Q v H'
def q3(X:aZ)(U:List (aB×aY))(Y:St)(Q:Bool->aD->Prop)(b:Bool)(L:aK):Prop:=∃H',Inv X U Y H' L/\Q b H'
def rT(X:aZ)(U:List (aB×aY))(Y:St)(Q:List V->aD->Prop)(us:List aE)(L:aK):Prop:=∃vs H',Inv X U Y H' L/\cB vs us/\Q vs H'
def kT(X:aZ)(U:List (aB×aY))(D:Ends)(f:Flow)(L:aK):Prop:=
 match f with
 |.next=>∃σ' H',Inv X U σ' H' L/\D.nx σ' H'
 |.brk=>∃σ' H',Inv X U σ' H' L/\D.bk σ' H'
 |.cont=>∃σ' H',Inv X U σ' H' L/\D.ct σ' H'
 |.ret u=>∃v σ' H',Inv X U σ' H' L/\cK v u/\D.rt v H'
structure bL (X:aZ) (e:bJ) (t:bG):Prop where
 run:∀(U:List (aB×aY))(s:aK)(Y:St)(H:aD)(Q:aP),Inv X U Y H s->t Y H Q->aU (aX X.prog X.w) X.A (eval e X.env) (gG X U Y Q) X.xe s
instance {X:aZ} {e:bJ} {t:bG}:CoeFun (bL X e t) λ_=>∀(U:List (aB×aY))(s:aK)(Y:St)(H:aD)(Q:aP),Inv X U Y H s->t Y H Q->aU (aX X.prog X.w) X.A (eval e X.env) (gG X U Y Q) X.xe s:=⟨bL.run⟩
structure kl (X:aZ) (e:bJ) (t:TT):Prop where
 run:∀(U:List (aB×aY))(s:aK)(Y:St)(H:aD)(Q:Bool->aD->Prop),Inv X U Y H s->t Y H Q->aU (aX X.prog X.w) X.A (isTrue e X.env (eval e X.env)) (q3 X U Y Q) X.xe s
instance {X:aZ} {e:bJ} {t:TT}:CoeFun (kl X e t) λ_=>∀(U:List (aB×aY))(s:aK)(Y:St)(H:aD)(Q:Bool->aD->Prop),Inv X U Y H s->t Y H Q->aU (aX X.prog X.w) X.A (isTrue e X.env (eval e X.env)) (q3 X U Y Q) X.xe s:=⟨kl.run⟩
structure gU (X:aZ) (e:bJ) (t:TT):Prop where
 run:∀(whole:Sem aE)(U:List (aB×aY))(s:aK)(Y:St)(H:aD)(Q:Bool->aD->Prop),Inv X U Y H s->t Y H Q->aU (aX X.prog X.w) X.A (isTrue e X.env whole) (q3 X U Y Q) X.xe s
instance {X:aZ} {e:bJ} {t:TT}:CoeFun (gU X e t) λ_=>∀(a:Sem aE)(U:List (aB×aY))(s:aK)(Y:St)(H:aD)(Q:Bool->aD->Prop),Inv X U Y H s->t Y H Q->aU (aX X.prog X.w) X.A (isTrue e X.env a) (q3 X U Y Q) X.xe s:=⟨gU.run⟩
theorem gU.pt(h:gU X e t):kl X e t:=⟨h.run _⟩
structure jf (X:aZ) (es:List bJ) (t:fU):Prop where
 run:∀(pos:Pos)(U:List (aB×aY))(s:aK)(Y:St)(H:aD)(Q:List V->aD->Prop),Inv X U Y H s->t Y H Q->aU (aX X.prog X.w) X.A (spliced (backTo pos (dA es X.env))) (rT X U Y Q) X.xe s
instance {X:aZ} {es:List bJ} {t:fU}:CoeFun (jf X es t) λ_=>∀(pos:Pos)(U:List (aB×aY))(s:aK)(Y:St)(H:aD)(Q:List V->aD->Prop),Inv X U Y H s->t Y H Q->aU (aX X.prog X.w) X.A (spliced (backTo pos (dA es X.env))) (rT X U Y Q) X.xe s:=⟨jf.run⟩
structure jY (X:aZ) (st:bS) (t:eR):Prop where
 run:∀(U:List (aB×aY))(s:aK)(Y:St)(H:aD)(D:Ends),Inv X U Y H s->t D Y H->aU (aX X.prog X.w) X.A (exec st X.env) (kT X U D) X.xe s
instance {X:aZ} {st:bS} {t:eR}:CoeFun (jY X st t) λ_=>∀(U:List (aB×aY))(s:aK)(Y:St)(H:aD)(D:Ends),Inv X U Y H s->t D Y H->aU (aX X.prog X.w) X.A (exec st X.env) (kT X U D) X.xe s:=⟨jY.run⟩
structure iQ (X:aZ) (st:List bS) (t:eR):Prop where
 run:∀(U:List (aB×aY))(s:aK)(Y:St)(H:aD)(D:Ends),Inv X U Y H s->t D Y H->aU (aX X.prog X.w) X.A (execs st X.env) (kT X U D) X.xe s
instance {X:aZ} {st:List bS} {t:eR}:CoeFun (iQ X st t) λ_=>∀(U:List (aB×aY))(s:aK)(Y:St)(H:aD)(D:Ends),Inv X U Y H s->t D Y H->aU (aX X.prog X.w) X.A (execs st X.env) (kT X U D) X.xe s:=⟨iQ.run⟩
theorem cD{q:Type}{t:Sem q}{Q b:q->aK->Prop}{M:Model}{A:bX}{E:aE->aK->Prop}{s:aK}(h:aU M A t Q E s)(c:∀a s,Q a s->b a s):aU M A t b E s:=fL h c λ_ _ x=>x
section
variable{X:aZ}
inductive tQ(i:Nat)(Y:St)(H:aD)(Q:aP):Prop
 |mk:∀v,Y[i]?=some (some v)->Q v H->tQ i Y H Q
def pf(v:V):bG:=λ_ H Q=>Q v H
theorem PH(j:X.N[i]?=some x)(k:sO X.env.scope x)(b:(x==("__debug__":aA))=aJ:=by decide)(n:(x==("__classdict__":aA))=aJ:=by decide):bL X (.Name x pos) (tQ i):=by
 refine⟨?_⟩;intro U s Y H Q I h;obtain⟨v,e,h⟩:=h;obtain⟨m,o,p⟩:=I.loc;obtain⟨u,r,l⟩:=p i x v j e k;have d:gG X U Y Q u s:=⟨v,H,I,r,h⟩
 rcases l with ⟨a,hm⟩|⟨a,c,f,g⟩
 .exact wpAny_Name (wpAny_loadName_local I.ok.kind a o hm d) b
 .rcases a with a|a
  .exact wpAny_Name (wpAny_loadName_cell I.ok.kind a f g d) b
  .exact wpAny_Name (wpAny_loadName_free I.ok.kind a f g d n) b
theorem aQ{i j pos}:bL X (.Constant (.int i) j pos) (pf (.int i)):=⟨λ_ _ _ H _ I h=>wpAny_Constant_int ⟨.int i,H,I.tok _,⟨_,O⟩,h⟩⟩
theorem m5{b j pos}:bL X (.Constant (.bool b) j pos) (pf (.bl b)):=⟨λ_ _ _ H _ I h=>Constant_bool ⟨.bl b,H,I,O,h⟩⟩
theorem jp{j pos}:bL X (.Constant .none j pos) (pf .non):=⟨λ_ _ _ H _ I h=>Constant_none ⟨.non,H,I,O,h⟩⟩
theorem gE{x j pos}:bL X (.Constant (.str x) j pos) (pf (.str x)):=⟨λ_ _ _ H _ I h=>Calls.Constant_str ⟨.str x,H,I.tok _,⟨_,O⟩,h⟩⟩
def jH(X:aZ)(x:aA):Prop:=X.env.kindOf x=some .globalImplicit
theorem qo(I:Inv X U Y H s)(a:jH X x)(hm:X.mg x=some u)(h:Q u s)
 (b:(x==("__debug__":aA))=aJ:=by decide):aU (aX X.prog X.w) X.A (eval (.Name x pos) X.env) Q E s:=
 Calls.Name_function_global I.ok.kind a (Calls.loadGlobal_global (by rw[I.ok.glob];exact I.mod.glob.keeps I.bk) hm h) b
theorem pa(I:Inv X U Y H s)(a:jH X x)(hm:X.mg x=aG)(b:jE x=some u)(h:Q u s)
 (c:x≠"__name__":=by decide)(d:(x==("__debug__":aA))=aJ:=by decide):aU (aX X.prog X.w) X.A (eval (.Name x pos) X.env) Q E s:=by
 obtain⟨e,h1,h2⟩:=I.mod.blt;exact Calls.Name_function_global I.ok.kind a (Calls.loadGlobal_builtin (by rw[I.ok.glob];exact I.mod.glob.keeps I.bk) hm (by rw[I.ok.blt];exact h1.keeps I.bk) ((h2 x c).trans b) h) d
theorem qn(a:jH X x)(hm:X.mg x=some u)(r:cK v u)(b:(x==("__debug__":aA))=aJ:=by decide):bL X (.Name x pos) (pf v):=
 ⟨λ_ _ _ H _ I h=>qo I a hm ⟨v,H,I,r,h⟩ b⟩
theorem OI(a:jH X x)(hm:X.mg x=aG)(b:jE x=some u)(r:cK v u)(c:x≠"__name__":=by decide)(d:(x==("__debug__":aA))=aJ:=by decide):bL X (.Name x pos) (pf v):=
 ⟨λ_ _ _ H _ I h=>pa I a hm b ⟨v,H,I,r,h⟩ c d⟩
inductive Fu(k:Int->Int->aD->Prop)(x y:V)(H2:aD):Prop
 |mk:∀i j,x=.int i->y=.int j->k i j H2->Fu k x y H2
abbrev SA (tb:bG) (k:Int->Int->aD->Prop) (Y:St):aP:=λx z=>tb Y z (Fu k x)
abbrev Vb (Q:aP):Int->Int->aD->Prop:=λi j H2=>Q (.int (i+j)) H2
abbrev Vf (Q:aP):Int->Int->aD->Prop:=λi j H2=>Q (.int (i-j)) H2
abbrev Vd (Q:aP):Int->Int->aD->Prop:=λi j H2=>(-(2^64)<i/\i<2^64)/\Q (.int (i*j)) H2
variable{a b:bJ}{M tb:bG}{pos:Pos}
structure sM (X:aZ) (op:CmpOp) (a b:bJ) (t:bG):Prop where
 run:∀(U:List (aB×aY))(s:aK)(Y:St)(H:aD)(Q:aP),Inv X U Y H s->t Y H Q ->
  aU (aX X.prog X.w) X.A (eval a X.env) (λv s₁=>aU (aX X.prog X.w) X.A (eval b X.env) (λu s₂=>aU (aX X.prog X.w) X.A (iO op v u) (gG X U Y Q) X.xe s₂) X.xe s₁) X.xe s
instance {X:aZ} {op:CmpOp} {a b:bJ} {t:bG}:CoeFun (sM X op a b t) λ_=>∀(U:List (aB×aY))(s:aK)(Y:St)(H:aD)(Q:aP),Inv X U Y H s->t Y H Q ->
  aU (aX X.prog X.w) X.A (eval a X.env) (λv c=>aU (aX X.prog X.w) X.A (eval b X.env) (λu d=>aU (aX X.prog X.w) X.A (iO op v u) (gG X U Y Q) X.xe d) X.xe c) X.xe s:=⟨sM.run⟩
abbrev RU (p:Int->Int->Bool) (Q:aP):Int->Int->aD->Prop:=λi j H2=>Q (.bl (p i j)) H2
abbrev Vc (Q:aP):aP:=λx z=>Q (.bl (decide (x=.non))) z
abbrev Ve (Q:aP):aP:=λx z=>Q (.bl (!decide (x=.non))) z
inductive y8(Q:Bool->aD->Prop)(x:V)(z:aD):Prop
 |mk:∀c,x=.bl c->Q c z->y8 Q x z
def Iw(t:bG):TT:=λY H Q=>t Y H (y8 Q)
theorem va(h:sM X op a b t)(h1:sw op b=aJ:=by trivial):kl X (.Compare a [op] [b] pos) (Iw t):=by
 refine⟨?_⟩;intro U s Y H Q I e;refine wpAny_isTrue_Compare1 (cD (h U s Y H _ I e) λv s1 h1=>cD h1 λu k h2=>cD h2 λc l ⟨x,z,f,g,i⟩=>?_) h1;obtain⟨d,rfl,q⟩:=i;cases g;exact mE ⟨z,f,q⟩
theorem fY(h:bL X e t)(b:∀a,isTrue e X.env a=(do let v ←a;standAt e.pos;holding [v] (truthy v)):=by intro _;rfl):kl X e (Iw t):=by
 refine⟨?_⟩;intro U s Y H Q I c;refine isTrue_plain (cD (h U s Y H _ I c) λv s1 ⟨x,z,f,g,i⟩=>?_) (b _);obtain⟨d,rfl,q⟩:=i;cases g;exact mE ⟨z,f,q⟩
variable{x e:TT}{rest:List bJ}
abbrev Sb (u:TT) (Y:St) (Q:Bool->aD->Prop):Bool->aD->Prop:=λc z=>if c=aC then u Y z Q else Q aJ z
def RB(t u:TT):TT:=λY H Q=>t Y H (Sb u Y Q)
abbrev SJ (u:TT) (Y:St) (Q:Bool->aD->Prop):Bool->aD->Prop:=λc z=>if c=aC then Q aC z else u Y z Q
def TG(t u:TT):TT:=λY H Q=>t Y H (SJ u Y Q)
abbrev RO (Q:Bool->aD->Prop):Bool->aD->Prop:=λc z=>Q (!c) z
def Rw(t:TT):TT:=λY H Q=>t Y H (RO Q)
theorem wN(b:kl X a x):gU X (.BoolOp .And [a] pos) x:=by
 refine⟨?_⟩;intro d U s Y H Q I h;refine isTrue_and (cD (b U s Y H Q I h) λc s1 e=>?_);cases c with
 |true=>exact isTrue_and_nil e
 |false=>exact e
theorem kg(b:kl X a x):gU X (.BoolOp .Or [a] pos) x:=by
 refine⟨?_⟩;intro d U s Y H Q I h;refine isTrue_or (cD (b U s Y H Q I h) λc s1 e=>?_);cases c with
 |false=>exact isTrue_or_nil e
 |true=>exact e
theorem u9(g:kl X a x)(i:gU X (.BoolOp .And (b::rest) pos) e):gU X (.BoolOp .And (a::b::rest) pos) (RB x e):=by
 refine⟨?_⟩;intro j U s Y H Q I h;refine isTrue_and (cD (g U s Y H _ I h) λc s1 ⟨z,d,f⟩=>?_);cases c with
 |true=>exact i j U s1 Y z Q d f
 |false=>exact⟨z,d,f⟩
theorem ju(g:kl X a x)(i:gU X (.BoolOp .Or (b::rest) pos) e):gU X (.BoolOp .Or (a::b::rest) pos) (TG x e):=by
 refine⟨?_⟩;intro j U s Y H Q I h;refine isTrue_or (cD (g U s Y H _ I h) λc s1 ⟨z,d,f⟩=>?_);cases c with
 |true=>exact⟨z,d,f⟩
 |false=>exact i j U s1 Y z Q d f
theorem iF(b:kl X a x):kl X (.UnaryOp .Not a pos) (Rw x):=by
 refine⟨?_⟩;intro U s Y H Q I h;exact isTrue_not (b U s Y H (λc z=>Q (!c) z) I h)
inductive Fv(tb:bG)(Y:St)(Q:aP)(x:V)(z:aD):Prop
 |mk:∀c,x=.bl c->(if c=aC then tb Y z Q else Q (.bl aJ) z)->Fv tb Y Q x z
def QI(M tb:bG):bG:=λY H Q=>M Y H (Fv tb Y Q)
inductive FE(tb:bG)(Y:St)(Q:aP)(x:V)(z:aD):Prop
 |mk:∀c,x=.bl c->(if c=aC then Q (.bl aC) z else tb Y z Q)->FE tb Y Q x z
def Rv(M tb:bG):bG:=λY H Q=>M Y H (FE tb Y Q)
inductive FD(Q:aP)(x:V)(z:aD):Prop
 |mk:∀c,x=.bl c->Q (.bl (!c)) z->FD Q x z
def QD(M:bG):bG:=λY H Q=>M Y H (FD Q)
theorem jS{op}(h:bL X a t):bL X (.BoolOp op [a] pos) t:=⟨λU s Y H Q I b=>BoolOp_one (h U s Y H Q I b)⟩
theorem jh(f:bL X a M)(g:bL X (.BoolOp .And (b::rest) pos) tb):bL X (.BoolOp .And (a::b::rest) pos) (QI M tb):=by
 refine⟨?_⟩;intro U s Y H Q I h;refine BoolOp_and (cD (f U s Y H _ I h) λv s1 ⟨x,z,e,i,d⟩=>?_);obtain⟨c,rfl,d⟩:=d;cases i;refine mE ?_;cases c with
 |true=>exact g U s1 Y z Q e d
 |false=>exact⟨.bl aJ,z,e,O,d⟩
theorem EG(f:bL X a M)(g:bL X (.BoolOp .Or (b::rest) pos) tb):bL X (.BoolOp .Or (a::b::rest) pos) (Rv M tb):=by
 refine⟨?_⟩;intro U s Y H Q I h;refine BoolOp_or (cD (f U s Y H _ I h) λv s1 ⟨x,z,e,i,d⟩=>?_);obtain⟨c,rfl,d⟩:=d;cases i;refine mE ?_;cases c with
 |false=>exact g U s1 Y z Q e d
 |true=>exact⟨.bl aC,z,e,O,d⟩
theorem PI(d:bL X a M):bL X (.UnaryOp .Not a pos) (QD M):=by
 refine⟨?_⟩;intro U s Y H Q I h;refine UnaryOp_ (cD (d U s Y H _ I h) λv s1 ⟨x,z,e,f,b⟩=>?_);obtain⟨c,rfl,b⟩:=b;cases f;exact not_of (mE ⟨.bl (!c),z,e,O,b⟩)
abbrev SH (M tb:bG) (Y:St) (Q:aP):Bool->aD->Prop:=λc z=>if c=aC then M Y z Q else tb Y z Q
def TE(t:TT)(M tb:bG):bG:=λY H Q=>t Y H (SH M tb Y Q)
theorem Nw(g:kl X c x)(i:bL X a M)(j:bL X b tb):bL X (.IfExp c a b pos) (TE x M tb):=by
 refine⟨?_⟩;intro U s Y H Q I h;refine wpAny_IfExp (cD (g U s Y H _ I h) λd s1 ⟨z,e,f⟩=>?_);cases d with
 |true=>exact i U s1 Y z Q e f
 |false=>exact j U s1 Y z Q e f
end
def aT(K:bI)(H:aD)(a:aB)(xs:List V):Prop:=
 fB H a (.lst xs) \/
  ∃(o:aY)(b:Array aE)(n:Nat),K.lookup a=some o/\o.cls=.type "list"/\o.dict=aG/\o.data=.seq b n/\b.size<=dH/\cB xs b.toList
def bY(K:bI)(H:aD)(a:aB)(xs:List V):Prop:=
 fB H a (.tup xs) \/
  ∃(o:aY)(b:Array aE)(n:Nat),K.lookup a=some o/\o.cls=.type "tuple"/\o.data=.seq b n/\b.size<=dH/\cB xs b.toList
noncomputable def Su:aE->Option V
 |.none=>some .non
 |.bool b=>some (.bl b)
 |.int i _=>some (.int i)
 |.str x _=>some (.str x)
 |.bytes b _=>some (.byt b)
 |.float b _=>some (.flt b)
 |.ref a=>some (.ref a)
 |.type n=>some (.ty n)
 |_=>aG
theorem cK.abs(r:cK x u):Su u=some x:=by
 cases x with
 |non=>cases r;rfl
 |bl _=>cases r;rfl
 |int _=>obtain⟨t,rfl⟩:=r;rfl
 |str _=>obtain⟨t,rfl⟩:=r;rfl
 |byt _=>obtain⟨t,rfl⟩:=r;rfl
 |flt _=>obtain⟨t,rfl⟩:=r;rfl
 |ref _=>cases r;rfl
 |ty _=>cases r;rfl
theorem cK.inj(r:cK x u)(q:cK y u):x=y:=gK (r.abs.symm.trans q.abs)
theorem cB.inj:∀{xs ys:List V} {us:List aE},cB xs us->cB ys us->xs=ys
 |_,_,_,.nil,.nil=>rfl
 |_,_,_,.cons r t,.cons a t'=>by rw[r.inj a,cB.inj t t']
section
variable{X:aZ}{U:List (aB×aY)}{Y:St}{H:aD}{s:aK}{a:aB}{xs ys:List V}
theorem aT.of{K:bI}(h:H a=some (.lst xs)):aT K H a xs:=.inl (.inl h)
theorem bY.of{K:bI}(h:H a=some (.tup xs)):bY K H a xs:=.inl (.inl h)
theorem Inv.list(I:Inv X U Y H s)(h:aT X.K H a xs):∃b:List aE,cB xs b/\PlainL s.heap a b.toArray/\xs.length<=dH:=by
 rcases h with h|⟨o,b,n,c,d,f,g,j,r⟩
 .obtain⟨i,b,n,r,e⟩:=h.ok I.hok;exact⟨b,r,⟨_,n,e,O,O,O⟩,i⟩
 .refine⟨b.toList,r,⟨o,n,I.kIn a o c,d,f,by simpa using g⟩,?_⟩;have e:=r.length;simp only[mD]at e;omega
theorem Inv.tuple(I:Inv X U Y H s)(h:bY X.K H a xs):∃b:List aE,cB xs b/\IsTup s.heap a b.toArray/\xs.length<=dH:=by
 rcases h with h|⟨o,b,n,c,d,f,i,r⟩
 .obtain⟨g,b,r,p⟩:=h.ok I.hok;exact⟨b,r,p.tup,g⟩
 .refine⟨b.toList,r,⟨o,I.kIn a o c,d,n,by simpa using f⟩,?_⟩;have e:=r.length;simp only[mD]at e;omega
theorem Inv.list_inj(I:Inv X U Y H s)(h:aT X.K H a xs)(h':aT X.K H a ys):xs=ys:=by
 obtain⟨c,r,⟨o,n,e,_,_,d⟩,_⟩:=I.list h;obtain⟨its',f,⟨G,i,b,_,_,d'⟩,_⟩:=I.list h';rw[e]at b;cases b;rw[d]at d';injection d' with g _;have:c=its':=by simpa using congrArg Array.toList g
 subst this;exact r.inj f
end
abbrev aZ.wish (X:aZ) (E:aE->aK->Prop):aZ:={X with xe:=E}
abbrev aZ.nox (X:aZ):aZ:=X.wish λ_ _=>False
theorem aZ.Ok.wish{X:aZ}(a:X.Ok)(E:aE->aK->Prop):(X.wish E).Ok:=
 ⟨a.mod,a.kind,a.glob,a.blt,a.above,a.inj,a.has,a.cab,a.hd,a.frames,a.stk,a.exf,a.bs,a.bsz,a.noex,a.exfs,a.funs,a.frf⟩
theorem aZ.Ok.unwish{X:aZ}{E:aE->aK->Prop}(a:(X.wish E).Ok):X.Ok:=
 ⟨a.mod,a.kind,a.glob,a.blt,a.above,a.inj,a.has,a.cab,a.hd,a.frames,a.stk,a.exf,a.bs,a.bsz,a.noex,a.exfs,a.funs,a.frf⟩
section
variable{X:aZ}{U:List (aB×aY)}{Y:St}{H:aD}{s:aK}{E:aE->aK->Prop}
theorem Inv.wish(I:Inv X U Y H s)(E:aE→aK→Prop):Inv (X.wish E) U Y H s:=⟨I.ok.wish E,I.os,I.bare,I.base,I.loc,I.cell,I.free,I.freeC,I.pin,I.hok,I.len⟩
theorem Inv.unwish(I:Inv (X.wish E) U Y H s):Inv X U Y H s:=⟨I.ok.unwish,I.os,I.bare,I.base,I.loc,I.cell,I.free,I.freeC,I.pin,I.hok,I.len⟩
theorem kT.unwish(h:kT (X.wish E) U D f L):kT X U D f L:=by
 cases f with
 |next=>obtain⟨σ',H',I,q⟩:=h;exact⟨σ',H',I.unwish,q⟩
 |brk=>obtain⟨σ',H',I,q⟩:=h;exact⟨σ',H',I.unwish,q⟩
 |cont=>obtain⟨σ',H',I,q⟩:=h;exact⟨σ',H',I.unwish,q⟩
 |ret u=>obtain⟨v,σ',H',I,r,q⟩:=h;exact⟨v,σ',H',I.unwish,r,q⟩
theorem iQ.nox{st:List bS}{t:eR}(h:iQ X.nox st t):iQ X st t:=⟨λU s Y H D I a=>
 fL (h U s Y H D (I.wish _) a) (λ_ _ q=>q.unwish) λ_ _ b=>gZ b⟩
end
section
variable{X:aZ}{st:bS}{rest:List bS}{t u:eR}{e:bJ}{te:bG}{pos:Pos}
def QE:eR:=λD Y H=>D.nx Y H
def jv(t u:eR):eR:=λD Y H=>t {D with nx:=u D} Y H
theorem fC:iQ X [] QE:=⟨λ_ _ Y H _ I h=>qH ⟨Y,H,I,h⟩⟩
theorem bB(h1:jY X st t)(h2:iQ X rest u):iQ X (st::rest) (jv t u):=by
 refine⟨?_⟩;intro U s Y H D I h;refine xI (cD (h1 U s Y H {D with nx:=u D} I h) λf s1 q=>?_);cases f with
 |next=>
  obtain⟨σ',H',a,q⟩:=q;exact h2 U s1 σ' H' D a q
 |ret v=>exact q
 |brk=>exact q
 |cont=>exact q
theorem bF(h1:jY X st t):iQ X [st] t:=by
 refine⟨?_⟩;intro U s Y H D I h;refine xI (cD (h1 U s Y H D I h) λf s1 q=>?_);cases f with
 |next=>exact qH q
 |ret v=>exact q
 |brk=>exact q
 |cont=>exact q
theorem Inv.quiet(I:Inv X U Y H s):interactive X.env=aJ:=by simp[interactive,I.ok.kind]
abbrev QX (N:St->aD->Prop) (Y:St):aP:=λ_ z=>N Y z
def Eu(te:bG):eR:=λD Y H=>te Y H (QX D.nx Y)
theorem jK(a:bL X e te)(b:pP e aG pos.line X.env=pure aJ:=by rfl):jY X (.Expr e pos) (Eu te):=by
 refine⟨?_⟩;intro U s Y H D I h;exact wpAny_Expr_any (cD (a U s Y H _ I h) λv s1 ⟨x,z,c,f,d⟩=>⟨Y,z,c,d⟩) I.quiet b
def Ru(te:bG):eR:=λD Y H=>te Y H D.rt
theorem cJ(a:bL X e te):jY X (.Return (some e) pos) (Ru te):=by
 refine⟨?_⟩;intro U s Y H D I h;exact wpAny_Return_some (cD (a U s Y H _ I h) λv s1 ⟨x,z,b,c,d⟩=>⟨x,Y,z,b,c,d⟩)
abbrev RQ (t u:eR) (D:Ends) (Y:St):Bool->aD->Prop:=λb z=>if b=aC then t D Y z else u D Y z
def yS(c:TT)(t u:eR):eR:=λD Y H=>c Y H (RQ t u D Y)
theorem fD(g:kl X c o)(i:iQ X a t)(j:iQ X b u):jY X (.If c a b pos) (yS o t u):=by
 refine⟨?_⟩;intro U s Y H D I h;refine wpAny_If (cD (g U s Y H _ I h) λd s1 ⟨z,e,f⟩=>?_);cases d with
 |true=>exact i U s1 Y z D e f
 |false=>exact j U s1 Y z D e f
def DA:eR:=λ_ _ _=>False
theorem o1:jY X st DA:=⟨λ_ _ _ _ _ _ h=>h.elim⟩
theorem rx:iQ X a DA:=⟨λ_ _ _ _ _ _ h=>h.elim⟩
end
abbrev iX:=V->St->aD->(St->aD->Prop)->Prop
abbrev lP:=List V->St->aD->(St->aD->Prop)->Prop
structure nv (X:aZ) (target:bJ) (t:iX):Prop where
 run:∀(U:List (aB×aY))(s:aK)(Y:St)(H:aD)(v:V)(u:aE)(Q:St->aD->Prop),Inv X U Y H s->cK v u->t v Y H Q ->
  aU (aX X.prog X.w) X.A (assign target X.env u) (λ_ L=>∃σ' H',Inv X U σ' H' L/\Q σ' H') X.xe s
instance {X:aZ} {a:bJ} {t:iX}:CoeFun (nv X a t) λ_=>∀(U:List (aB×aY))(s:aK)(Y:St)(H:aD)(v:V)(u:aE)(Q:St->aD->Prop),Inv X U Y H s->cK v u->t v Y H Q ->
  aU (aX X.prog X.w) X.A (assign a X.env u) (λ_ L=>∃σ' H',Inv X U σ' H' L/\Q σ' H') X.xe s:=⟨nv.run⟩
structure pV (X:aZ) (m:List bJ) (t:lP):Prop where
 run:∀(U:List (aB×aY))(s:aK)(Y:St)(H:aD)(vs:List V)(us:List aE)(Q:St->aD->Prop),Inv X U Y H s->cB vs us->t vs Y H Q ->
  aU (aX X.prog X.w) X.A (assignInOrder ((oI m X.env).map (·.2)) us) (λ_ L=>∃σ' H',Inv X U σ' H' L/\Q σ' H') X.xe s
instance {X:aZ} {m:List bJ} {t:lP}:CoeFun (pV X m t) λ_=>∀(U:List (aB×aY))(s:aK)(Y:St)(H:aD)(vs:List V)(us:List aE)(Q:St->aD->Prop),Inv X U Y H s->cB vs us->t vs Y H Q ->
  aU (aX X.prog X.w) X.A (assignInOrder ((oI m X.env).map (·.2)) us) (λ_ L=>∃σ' H',Inv X U σ' H' L/\Q σ' H') X.xe s:=⟨pV.run⟩
abbrev Fd:=V->V->V->aD->(aD->Prop)->Prop
abbrev u2:=V->V->aD->aP->Prop
def xS(X:aZ)(op:Operator)(t:u2):Prop:=
 ∀(U:List (aB×aY))(s:aK)(Y:St)(H:aD)(x y:V)(v u:aE)(Q:aP),Inv X U Y H s->cK x v->cK y u->t x y H Q ->
  aU (aX X.prog X.w) X.A (inplaceOp op v u) (gG X U Y Q) X.xe s
section
variable{X:aZ}{pos:Pos}
def oo(i:Nat):iX:=λv Y H Q=>Q (Y.set i (some v)) H
theorem dJ(a:X.N.Nodup)(hi:X.N[i]?=some x)(b:Loc X.env.scope x)(c:X.fn x=aC\/X.env.scope.names.lookup x=some .local:=by trivial):nv X (.Name x pos) (oo i):=by
 refine⟨?_⟩;intro U s Y H v u Q I r h;exact wpAny_assign_Name (wo I a hi b r (λL d=>⟨_,H,d,h⟩) c)
def E0:lP:=λvs Y H Q=>vs=[]/\Q Y H
abbrev PZ (u:lP) (r:List V) (Q:St->aD->Prop):St->aD->Prop:=fun σ' H'=>u r σ' H' Q
inductive yZ(t:iX)(u:lP)(vs:List V)(Y:St)(H:aD)(Q:St->aD->Prop):Prop
 |mk:∀v r,vs=v::r->t v Y H (PZ u r Q)->yZ t u vs Y H Q
theorem CV:pV X [] E0:=by
 refine⟨?_⟩;intro U s Y H vs us Q I r h;obtain⟨e,h⟩:=h;subst e;cases r;exact assignInOrder_nil ⟨Y,H,I,h⟩
theorem tC(h1:nv X e t)(h2:pV X es u)
 (a:(oI (e::es) X.env).map (·.2)=assign e X.env::(oI es X.env).map (·.2):=by rfl):pV X (e::es) (yZ t u):=by
 refine⟨?_⟩;intro U s Y H vs us Q I r h;obtain⟨v,i,b,h⟩:=h;subst b;cases r with
 |cons r c=>
  rw[a];refine assignInOrder_cons (cD (h1 U s Y H _ _ _ I r h) λ_ s1 ⟨d,z,f,g⟩=>?_);exact h2 U s1 d z _ _ Q f c g
inductive vF(K:bI)(n:Nat)(t:lP)(v:V)(Y:St)(H:aD)(Q:St->aD->Prop):Prop
 |mk:∀a xs,v=.ref a->bY K H a xs->xs.length=n->t xs Y H Q->vF K n t v Y H Q
theorem DU(f:X.calm=aC)(h:pV X es t)
 (g:(oI es X.env).length=n:=by rfl)(i:(oI es X.env).findIdx? (·.1)=aG:=by rfl):nv X (.Tuple es k pos) (vF X.K n t):=by
 refine⟨?_⟩;intro U s Y H v u Q I r c;obtain⟨a,xs,j,l,m,c⟩:=c;subst j;cases r;obtain⟨x,d,p,y⟩:=I.tuple l;refine assign_Tuple_tuple (I.ok.hd f) p (by simp[g,←m,d.length]) i λh' q=>?_;have w:Inv X U Y H {s with heap:=h'}:=I.kept (t':=s.toks) λb o e=>q b o (eF (dQ e)) e;exact h U _ Y H xs _ Q w (by simpa using d) c
abbrev PX (Q:St->aD->Prop) (Y:St):aD->Prop:=λa=>Q Y a
abbrev PY (t:Fd) (v o:V) (Y:St) (Q:St->aD->Prop):aP:=λi H2=>t o i v H2 (PX Q Y)
abbrev Vh (a:bG) (t:Fd) (v:V) (Y:St) (Q:St->aD->Prop):aP:=λo z=>a Y z (PY t v o Y Q)
abbrev Sa (g:iX) (Y:St) (N:St->aD->Prop):aP:=λx z=>g x Y z N
def EU(te:bG)(g:iX):eR:=λD Y H=>te Y H (Sa g Y D.nx)
theorem cH(a:X.N.Nodup)(hi:X.N[i]?=some x)(b:Loc X.env.scope x)(c:bL X e te)(d:pP e (some (.Name x t)) pos.line X.env=pure aJ:=by rfl)(f:X.fn x=aC\/X.env.scope.names.lookup x=some .local:=by trivial) :
  jY X (.Assign [.Name x t] e pos) (EU te (oo i)):=by
 refine⟨?_⟩;intro U s Y H D I h;refine wpAny_Assign_Name (cD (c U s Y H _ I h) λv s1 ⟨y,z,g,j,k⟩=>?_) d;exact wo g a hi b j (λm l=>⟨_,z,l,k⟩) f
inductive SK(i j:Nat)(Y:St)(N:St->aD->Prop)(vs:List V)(z:aD):Prop
 |mk:∀v w,vs=[v,w]->N ((Y.set i (some v)).set j (some w)) z->SK i j Y N vs z
abbrev Rc (i:Nat) (Y:St) (N:St->aD->Prop):aP:=λa H2=>N (Y.set i (some a)) H2
abbrev RZ (i:Nat) (a:u2) (Y:St) (N:St->aD->Prop) (x:V):aP:=λy z=>a x y z (Rc i Y N)
inductive Iv(i:Nat)(te:bG)(ti:u2)(D:Ends)(Y:St)(H:aD):Prop
 |mk:∀x,Y[i]?=some (some x)->te Y H (RZ i ti Y D.nx x)->Iv i te ti D Y H
theorem DT(g:X.N.Nodup)(hi:X.N[i]?=some x)(b:Loc X.env.scope x)(j:bL X e te)(n:xS X op d)(o:X.fn x=aC\/X.env.scope.names.lookup x=some .local:=by trivial) :
  jY X (.AugAssign (.Name x t) op e pos) (Iv i te d):=by
 refine⟨?_⟩;intro U s Y H D I h;obtain⟨v,p,h⟩:=h;obtain⟨m,q,A⟩:=I.loc;have B:sO X.env.scope x:=by rcases b with k|k;exact .inl k;exact .inr (.inl k)
 obtain⟨u,r,l⟩:=A i x v hi p B;refine wpAny_AugAssign_Name ?_;have f:aU (aX X.prog X.w) X.A (eval e X.env) (λw C=>aU (aX X.prog X.w) X.A (inplaceOp op u w) (λr E=>aU (aX X.prog X.w) X.A (storeName X.env x r) (λ_=>kT X U D .next) X.xe E) X.xe C) X.xe s:=by
  refine cD (j U s Y H _ I h) λw s1 ⟨y,z,G,J,L⟩=>?_;refine cD (n U s1 Y z v y u w _ G r J L) λz a2 ⟨a3,H2,M,N,Q⟩=>?_;exact wo M g hi b N (λa4 T=>⟨_,H2,T,Q⟩) o
 rcases l with ⟨a,hm⟩|⟨a,c,a0,a1⟩
 .exact wpAny_loadName_local I.ok.kind a q hm f
 .rcases a with a|a
  .exact wpAny_loadName_cell I.ok.kind a a0 a1 f
  .rcases b with k|k
   .have:X.env.scope.names.lookup x=some .free:=a;rw[k]at this;cases this
   .have:X.env.scope.names.lookup x=some .free:=a;rw[k]at this;cases this
inductive Fl(f:Int->Int->Int)(x y:V)(H:aD)(Q:aP):Prop
 |mk:∀i j,x=.int i->y=.int j->Q (.int (f i j)) H->Fl f x y H Q
theorem Qm:xS X .Add (Fl λi j=>i+j):=by
 intro U s Y H x y v u Q I a b h;obtain⟨i,j,c,d,q⟩:=h;subst c;subst d;obtain⟨t,rfl⟩:=a;obtain⟨t',rfl⟩:=b;exact iadd_int ⟨.int _,H,I.tok _,⟨_,O⟩,q⟩
def Dz(c:TT)(tb:eR):eR:=λD Y H=>∃W:Nat->St->aD->Prop,(∃m,W m Y H)/\∀m Y H,W m Y H ->
 c Y H λb z=>if b=aC then ∃N:St->aD->Prop,(∀σ' H',N σ' H'->∃a,a<m/\W a σ' H')/\tb {D with nx:=N,ct:=N,bk:=D.nx} Y z else D.nx Y z
theorem wu(p:tW (aX X.prog X.w) X.A X.env X.xe)(t:kl X c o)(u:iQ X body tb):jY X (.While c body [] pos) (Dz o tb):=by
 refine⟨?_⟩;intro U s Y H D I h;obtain⟨W,⟨w,x⟩,y⟩:=h;refine wpAny_While (codeAny_whileLoop (λn L=>∃σ' H',Inv X U σ' H' L/\W n σ' H') ?_ w ⟨Y,H,I,x⟩);rintro n s1 ⟨e,z,A,B⟩;refine pF p (cD (t U s1 e z _ A (y n e z B)) λb C ⟨H2,q,g⟩=>?_);cases b with
 |true=>
  obtain⟨N,r,g⟩:=g;rw[if_pos O];refine pF p (cD (u U C e H2 _ q g) λf E i=>?_);cases f with
  |next=>
   obtain⟨a,d,j,k⟩:=i;obtain⟨l,hm,m⟩:=r a d k;exact⟨l,hm,a,d,j,m⟩
  |cont=>
   obtain⟨a,d,j,k⟩:=i;obtain⟨l,hm,m⟩:=r a d k;exact⟨l,hm,a,d,j,m⟩
  |brk=>exact i
  |ret v=>exact i
 |false=>
  rw[if_neg fX];exact qH ⟨e,H2,q,g⟩
end
structure jr where
 go:Nat->aD->Prop
 yld:Nat->aD->V->aD->Prop
 stop:Nat->aD->Prop
def n2(X:aZ)(U:List (aB×aY))(H:aD)(b:aB):Prop:=
 H b=aG/\b≠X.env.locals/\b∉X.fs/\(b∈X.ex\/X.s₀.heap.objs.size<=b)/\(∀x c,X.env.cells.lookup x=some c->c≠b)/\∀p∈X.pn++U,p.1≠b
theorem Inv.fpOk(I:Inv X U Y H s)(a:s.heap.objs.size<=b)(f:H' b=aG):n2 X U H' b:=by
 refine⟨f,nk (iK I.lt a),I.nofs a,.inr (fF I.sz a),λx c e d=>?_,λp g d=>?_⟩
 .obtain⟨v,q⟩:=I.cell x c e;exact absurd (iK q.lt (by rw[d];exact a)) (nj _)
 .exact absurd (iK (dQ (I.pin p g).1) (by rw[d];exact a)) (nj _)
structure oO (P:bT) (w:bN) (K:bI) (tg:bJ) (J:jr) (fp:List aB) (it:aB) (tn:Nat->bE->Prop):Prop where
 mem:it∈fp
 obj:∀i h,tn i h->∀b∈fp,∃o,h.get? b=some o/\∀v,o.data≠.cell v
 keep:∀i h h',tn i h->(∀b∈fp,∀o,h.get? b=some o->h'.get? b=some o)->tn i h'
 item:∀(X:aZ),X.prog=P->X.w=w->X.K=K->X.calm=aC->∀(i:Nat)(U:List (aB×aY))(s:aK)(Y:St)(H:aD)(E:aE->aK->Prop),Inv X U Y H s->(∀b∈fp,n2 X U H b)->tn i s.heap->J.go i H ->
  aU (aX P w) X.A (pyNext (.ref it)) (λr s1=>∃u,r=some u /\
   aU (aX P w) X.A (uM tg (.ref it) u) (λ_ s2=>∃x H',Inv X U Y H' s2/\cK x u/\J.yld i H x H'/\tn (i+1) s2.heap/\∀b∈fp,H' b=aG) E s1) E s
 done:∀(X:aZ),X.prog=P->X.w=w->X.K=K->X.calm=aC->∀(i:Nat)(U:List (aB×aY))(s:aK)(Y:St)(H:aD)(E:aE->aK->Prop),Inv X U Y H s->(∀b∈fp,n2 X U H b)->tn i s.heap->J.stop i H ->
  aU (aX P w) X.A (pyNext (.ref it)) (λr s1=>r=aG/\Inv X U Y H s1) E s
 self:∀(A:bX)(i:Nat)(s:aK)(Q E:aE->aK->Prop),tn i s.heap->Q (.ref it) s->aU (aX P w) A (pyIter (.ref it)) Q E s
abbrev TI:=St->aD->(jr->aD->Prop)->Prop
def u0(X:aZ)(U:List (aB×aY))(Y:St)(tg:bJ)(R:jr->aD->Prop)(e:aE)(a:aK):Prop:=
 ∃(it:aB)(fp:List aB)(c:Nat->bE->Prop)(d:jr)(H':aD),e=.ref it/\Inv X U Y H' a/\oO X.prog X.w X.K tg d fp it c/\c 0 a.heap/\(∀b∈fp,n2 X U H' b)/\R d H'
structure lu (X:aZ) (tg iter:bJ) (wi:TI):Prop where
 run:∀(U:List (aB×aY))(s:aK)(Y:St)(H:aD)(R:jr->aD->Prop),Inv X U Y H s->wi Y H R ->
  aU (aX X.prog X.w) X.A (eval iter X.env) (λv s1=>aU (aX X.prog X.w) X.A (pyIter v) (u0 X U Y tg R) X.xe s1) X.xe s
instance {X:aZ} {tg iter:bJ} {a:TI}:CoeFun (lu X tg iter a) λ_=>∀(U:List (aB×aY))(s:aK)(Y:St)(H:aD)(R:jr->aD->Prop),Inv X U Y H s->a Y H R ->
  aU (aX X.prog X.w) X.A (eval iter X.env) (λv s1=>aU (aX X.prog X.w) X.A (pyIter v) (u0 X U Y tg R) X.xe s1) X.xe s:=⟨lu.run⟩
theorem sW{M:Model}{A:bX}{E:aE->aK->Prop}{s:aK}{tg:bJ}{it:aB}{u:aE}{o:aY}{n:String}{vs:Array aE}{Q:Unit->aK->Prop}(b:s.heap.get? it=some o)(c:o.cls=.type n)(d:o.data=.fields vs)
 (e:["enumerate","zip","dict_itemiterator","dict_reverseitemiterator","odict_iterator","itertools.zip_longest","itertools.pairwise"].contains n=aJ)(a:Q () s):aU M A (uM tg (.ref it) u) Q E s:=by
  unfold uM;cases tg <;> first
    | exact bH a
    | (cases u <;> first
        | exact bH a
        | (refine aO (wpAny_load b ?_)
           rw[c,d];show aU M A (if (["enumerate","zip","dict_itemiterator","dict_reverseitemiterator","odict_iterator","itertools.zip_longest","itertools.pairwise"].contains n && vs[0]? == some (rawInt _))=aC then _ else _) Q E s;rw[if_neg (by intro h;rw[e,sg] at h;cases h)];exact bH a))
def uX(K:bI)(a:aB):jr:=
 ⟨λi H=>∃xs x,aT K H a xs/\xs[i]?=some x,λi H x H'=>H'=H/\∀xs,aT K H a xs->xs[i]?=some x,λi H=>∃xs,aT K H a xs/\xs.length<=i⟩
def Jp(K:bI)(a:aB):jr:=
 ⟨λi H=>∃xs x,bY K H a xs/\xs[i]?=some x,λi H x H'=>H'=H/\∀xs,bY K H a xs->xs[i]?=some x,λi H=>∃xs,bY K H a xs/\xs.length<=i⟩
def qW(lo:Int)(n:Nat):jr:=⟨λi _=>i<n,λi H x H'=>H'=H/\x=.int (lo+i),λi _=>n<=i⟩
theorem LZ{P:bT}{w:bN}{K:bI}{tg:bJ}(a it:aB):oO P w K tg (uX K a) [it] it (λi h=>h.IsListIter it a i) where
 mem:=by simp
 obj:=λi h st b f=>by
  have e:b=it:=by simpa using f
  subst e;obtain⟨o,e,c,d⟩:=st;exact⟨o,e,λv A=>by rw[d]at A;cases A⟩
 keep:=λi h h' st k=>st.at λo e=>k it (by simp) o e
 item:=by
  intro X j l m B i U s Y H E I hf st n;subst j l m;obtain⟨xs,x,g,q⟩:=n;obtain⟨D,r,p,G⟩:=I.list g;obtain⟨u,J,L⟩:=r.get q;obtain⟨t,f1,f2,f3,y,z⟩:=hf it (by simp);refine wpAny_pyNext_list_item st p.isList (x:=u) (by simpa using J) λh' C M=>?_;have N:Inv X U Y H {s with heap:=h'}:=I.turned (t':=s.toks) (λb o f e=>(M.2 b f).trans e) t f1 f3 y z;obtain⟨o,e,c,d⟩:=id C;exact⟨u,O,sW (s:={s with heap:=h'}) e c d VD ⟨x,H,N,L,⟨O,λys hy=>by rw[I.list_inj hy g];exact q⟩,C,λb f=>(hf b f).1⟩⟩
 done:=by
  intro X j l m B i U s Y H E I hf st n;subst j l m;obtain⟨xs,g,q⟩:=n;obtain⟨D,r,p,G⟩:=I.list g;obtain⟨t,f1,f2,f3,y,z⟩:=hf it (by simp);have T:=r.length;exact wpAny_pyNext_list_end (I.ok.hd B) st p.isList (by simp;omega) λh' Q=>⟨O,I.turned (t':=s.toks) (λb o f e=>Q b o f e) t f1 f3 y z⟩
 self:=λ_ _ _ _ _ st h=>wpAny_pyIter_listiter st h
theorem Lh{P:bT}{w:bN}{K:bI}{tg:bJ}(it:aB)(lo:Int)(n:Nat):oO P w K tg (qW lo n) [it] it (λi h=>IsRangeIter h it (lo+(i:Nat)*1) ((n:Int)-(i:Nat)) 1) where
 mem:=by simp
 obj:=λi h st b a=>by
  have e:b=it:=by simpa using a
  subst e;exact⟨_,st,λv r=>by
   have u:Data.fields _=Data.cell v:=r;cases u⟩
 keep:=λi h h' st k=>k it (by simp) _ st
 item:=by
  intro X c d f g i U s Y H E I hf st j;subst c d f;obtain⟨l,f1,f2,f3,m,p⟩:=hf it (by simp);have W:=Walks.range (prog:=X.prog) (w:=X.w) (I.ok.hd g) it lo 1 n;refine W.item i s _ _ j st λv h' tk x q y=>?_;obtain⟨t,rfl⟩:=x;have z:Inv X U Y H {s with heap:=h',toks:=tk}:=I.turned (λb o a e=>y b o (by simpa using a) e) l f1 f3 m p;refine⟨_,O,sW (s:={s with heap:=h',toks:=tk}) (n:="range_iterator") q O O VD ⟨.int (lo+i),H,z,⟨t,?_⟩,⟨O,O⟩,q,λb a=>(hf b a).1⟩⟩;rw[Int.mul_one]
 done:=by
  intro X c d f g i U s Y H E I hf st j;subst c d f;obtain⟨l,f1,f2,f3,m,p⟩:=hf it (by simp);exact wpAny_pyNext_range_end (I.ok.hd g) st (by have:n<=i:=j;omega) λh' A=>⟨O,I.turned (t':=s.toks) (λb o a e=>A b o a e) l f1 f3 m p⟩
 self:=λ_ _ _ _ _ st h=>wpAny_pyIter_rangeiter st h
section
variable{X:aZ}{tg:bJ}
inductive FJ(K:bI)(R:jr->aD->Prop)(x:V)(z:aD):Prop
 |mk:∀a,x=.ref a->(∃xs,aT K z a xs)->R (uX K a) z->FJ K R x z
def Rl(K:bI)(tl:bG):TI:=λY H R=>tl Y H (FJ K R)
inductive SO(K:bI)(R:jr->aD->Prop)(x:V)(z:aD):Prop
 |mk:∀a,x=.ref a->(∃xs,bY K z a xs)->R (Jp K a) z->SO K R x z
theorem eV{l:bJ}{tl:bG}(d:bL X l tl):lu X tg l (Rl X.K tl):=by
 refine⟨?_⟩;intro U s Y H R I h;refine cD (d U s Y H _ I h) λv s1 ⟨x,z,c,f,g⟩=>?_;obtain⟨a,e,⟨xs,i⟩,q⟩:=g;subst e;cases f;obtain⟨k,m,p,n⟩:=c.list i;refine qE p.isList ?_;refine⟨s1.heap.objs.size,[s1.heap.objs.size],_,_,z,O,c.kept (t':=s1.toks) λb o e=>dM _ e,LZ a _,⟨_,gF _ O,O,O⟩,λb j=>?_,q⟩;have e:b=s1.heap.objs.size:=by simpa using j
 subst e;exact c.fpOk (bQ _) (c.hok.fresh (bQ _))
theorem Ce{U:List (aB×aY)}{Y:St}{H:aD}{s:aK}{R:jr->aD->Prop}{E:aE->aK->Prop}{lo hi:Int}{t u v:Tok}{tk:Nat}(I:Inv X U Y H s)(h1:-(2^62)<=lo)(h2:lo<2^62)(c:-(2^62)<=hi)(d:hi<2^62)
 (q:R (qW lo (hi-lo).toNat) H):aU (aX X.prog X.w) X.A (pyIter (.ref s.heap.objs.size)) (u0 X U Y tg R) E {s with heap:=s.heap.push {cls:=.type "range",data:=.fields #[.int lo t,.int hi u,.int 1 v]},toks:=tk}:=by
 refine wpAny_pyIter_range (IsRange.new ..) (small_one h1 h2 c d) ?_;have a:Inv X U Y H {s with heap:=s.heap.push {cls:=.type "range",data:=.fields #[.int lo t,.int hi u,.int 1 v]},toks:=tk}:=I.kept λb o e=>dM _ e;refine⟨(s.heap.push {cls:=.type "range",data:=.fields #[.int lo t,.int hi u,.int 1 v]}).objs.size,[(s.heap.push {cls:=.type "range",data:=.fields #[.int lo t,.int hi u,.int 1 v]}).objs.size],_,_,H,O,
  a.kept (t':=tk) λb o e=>dM _ e,Lh _ lo (hi-lo).toNat,?_,λb f=>?_,q⟩
 .have g:lo+((0:Nat):Int)*1=lo:=by simp
  have h:(((hi-lo).toNat:Nat):Int)-((0:Nat):Int)=Builtin.Range.rangeSize lo hi 1:=by rw[rangeSize_one];split<;>omega
  show IsRangeIter _ _ (lo+((0:Nat):Int)*1) ((((hi-lo).toNat:Nat):Int)-((0:Nat):Int)) 1;rw[g,h];exact gF _ O
 .have e:b=(s.heap.push {cls:=.type "range",data:=.fields #[.int lo t,.int hi u,.int 1 v]}).objs.size:=by simpa using f
  subst e;exact a.fpOk (bQ _) (a.hok.fresh (bQ _))
inductive FK(R:jr->aD->Prop)(vs:List V)(z:aD):Prop
 |mk:∀j:Int,vs=[.int j]->-(2^62)<=j->j<2^62->R (qW 0 j.toNat) z->FK R vs z
def Rk(M:fU):TI:=λY H R=>M Y H (FK R)
inductive FL(R:jr->aD->Prop)(vs:List V)(z:aD):Prop
 |mk:∀i j:Int,vs=[.int i,.int j]->(-(2^62)<=i/\i<2^62/\-(2^62)<=j/\j<2^62)->R (qW i (j-i).toNat) z->FL R vs z
def Rj(M:fU):TI:=λY H R=>M Y H (FL R)
theorem oX{a:bJ}{M:fU}{p pos:Pos}(c:jH X "range")(hm:X.mg "range"=aG)(d:jf X [a] M)(f:dA [a] X.env=[(aJ,eval a X.env)]:=by rfl):lu X tg (.Call (.Name "range" p) [a] [] pos) (Rk M):=by
 refine⟨?_⟩;intro U s Y H R I h;refine Call_ (pa I c hm boot_range (rV (cD (d pos U s Y H _ I h) λus s1 ⟨vs,z,g,i,b⟩=>?_) f O));obtain⟨j,e,b,k,q⟩:=b;subst e;cases i with
 |cons r l=>
  cases l;obtain⟨t,rfl⟩:=r;exact call_range_1 (Ce g VF VF b k (by simpa using q))
theorem Mu(g:jH X "range")(hm:X.mg "range"=aG)(k:jf X [a,b] M)(l:dA [a,b] X.env=[(aJ,eval a X.env),(aJ,eval b X.env)]:=by rfl)(f:dA [b] X.env=[(aJ,eval b X.env)]:=by rfl) :
  lu X tg (.Call (.Name "range" p) [a,b] [] pos) (Rj M):=by
 refine⟨?_⟩;intro U s Y H R I h;refine Call_ (pa I g hm boot_range (rV (cD (k pos U s Y H _ I h) λus s1 ⟨vs,z,m,n,c⟩=>?_) (by rw[l,f]) (by rw[f];rfl)));obtain⟨i,j,e,⟨c,o,u,w⟩,q⟩:=c;subst e;cases n with
 |cons r d=>
  cases d with
  |cons x d=>
   cases d;obtain⟨t,rfl⟩:=r;obtain⟨t',rfl⟩:=x;exact call_range_2 (Ce m c o u w q)
def s5(g:iX)(tb:eR)(D:Ends)(Y:St)(a:jr)(z:aD):Prop:=∃W:Nat->Nat->St->aD->Prop,(∃m,W 0 m Y z)/\∀i m Y H,W i m Y H ->
 (a.stop i H/\D.nx Y H)\/(a.go i H/\∃N:St->aD->Prop,(∀σ' H',N σ' H'->∃b,b<m/\W (i+1) b σ' H')/\∀x H',a.yld i H x H'->g x Y H' (tb {D with nx:=N,ct:=N,bk:=D.nx}))
def ET(a:TI)(g:iX)(tb:eR):eR:=λD Y H=>a Y H (s5 g tb D Y)
def o7(fp:List aB)(h:bE):List (aB×aY):=fp.filterMap λb=>(h.get? b).map λo=>(b,o)
theorem vQ(a:b∈fp)(e:h.get? b=some o):(b,o)∈o7 fp h:=uj.mpr ⟨b,a,by rw[e];rfl⟩
theorem AZ(a:p∈o7 fp h):p.1∈fp/\h.get? p.1=some p.2:=by
 obtain⟨b,c,e⟩:=uj.mp a;cases q:h.get? b with
 |none=>rw[q]at e;cases e
 |some o=>
  rw[q]at e;have d:(b,o)=p:=gK e;subst d;exact⟨c,q⟩
theorem Inv.pinned(I:Inv X U Y H s)(g:∀b∈fp,n2 X U H b)(h:∀b∈fp,∃o,s.heap.get? b=some o/\∀v,o.data≠.cell v):Inv X (U++o7 fp s.heap) Y H s:=
 I.pins_of λp i=>(gQ.mp i).elim (λa=>I.pin p (jx _ a)) λa=>by
  obtain⟨c,e⟩:=AZ a;obtain⟨j,k,l,_⟩:=g p.1 c;obtain⟨o,f,d⟩:=h p.1 c;rw[e]at f;cases f;exact⟨e,j,k,l,d⟩
theorem Inv.unpinned(I:Inv X (U++pl) Y H s):Inv X U Y H s:=I.pins_of λp a=>I.pin p (jx _ (nO _ a))
theorem k4(p:tW (aX X.prog X.w) X.A X.env X.xe)(E:X.calm=aC)(hi:lu X tg iter C)(a5:nv X tg g)(a:iQ X body tb)
 (a6:∀x,xD iter X.env x=pure x:=by intro _;rfl):jY X (.For tg iter body [] pos) (ET C g tb):=by
 refine⟨?_⟩;intro U s Y H D I h;refine wpAny_For (cD (hi U s Y H _ I h) λv s1 h1=>cD h1 λb1 b2 h2=>?_) a6;obtain⟨it,fp,G,J,H2,e,a7,T,a8,M,W,⟨a9,aa⟩,ac⟩:=h2;subst e;have y:∀{H':aD},(∀b∈fp,H' b=aG)->∀b∈fp,n2 X U H' b:=λae b a=>⟨ae b a,(M b a).2⟩
 refine codeAny_forLoop_any (λn L=>∃i σ' H',Inv X U σ' H' L/\G i L.heap/\(∀b∈fp,H' b=aG)/\W i n σ' H') ?_ a9 ⟨0,Y,H2,a7,a8,λb a=>(M b a).1,aa⟩;rintro n Q ⟨i,q,w,a0,a1,a2,af⟩;rcases ac i n q w af with ⟨ag,ah⟩|⟨ai,N,aj,step⟩
 .refine pF p (cD (T.done X O O O E i U Q q w X.xe a0 (y a2) a1 ag) λr ak ⟨z,al⟩=>?_);subst z;exact qH ⟨q,w,al,ah⟩
 .refine pF p (cD (T.item X O O O E i U Q q w X.xe a0 (y a2) a1 ai) λr ak ⟨u,z,am⟩=>?_);subst z;refine pF p (cD am λ_ a3 ⟨x,a4,an,ao,ap,A,aq⟩=>?_);have ar:=an.pinned (y aq) (T.obj _ _ A);refine pF p (cD (a5 _ a3 q a4 x u _ ar ao (step x a4 ap)) λ_ as ⟨au,av,aw,ax⟩=>?_);refine pF p (cD (a _ as au av _ aw ax) λf B l=>?_);have again:∀{c:St} {j:aD},Inv X (U++o7 fp a3.heap) c j B->N c j->∃m,m<n/\∃i σ' H',Inv X U σ' H' B/\G i B.heap/\(∀b∈fp,H' b=aG)/\W i m σ' H':=λ{c j} k t=>by
   obtain⟨ay,hm,az⟩:=aj c j t;refine⟨ay,hm,i+1,c,j,k.unpinned,T.keep _ _ _ A λb a o e=>(k.pin (b,o) (jx _ (jx _ (vQ a e)))).1,λb a=>?_,az⟩;obtain⟨o,e,d⟩:=T.obj _ _ A b a;exact(k.pin (b,o) (jx _ (jx _ (vQ a e)))).2.1
  cases f with
  |next=>obtain⟨c,j,k,t⟩:=l;exact again k t
  |cont=>obtain⟨c,j,k,t⟩:=l;exact again k t
  |brk=>obtain⟨c,j,k,l⟩:=l;exact⟨c,j,k.unpinned,l⟩
  |ret v=>obtain⟨aR,c,j,k,b0,l⟩:=l;exact⟨aR,c,j,k.unpinned,b0,l⟩
end
theorem wA{K:bI}{a:aB}{xs:List V}{g:iX}{tb:eR}{D:Ends}{Y:St}{H:aD}(Pv:Nat->St->aD->Prop)(c:Pv 0 Y H)(d:∀i Y H,i<=xs.length->Pv i Y H->aT K H a xs)
 (f:∀i x Y H,xs[i]?=some x->Pv i Y H->g x Y H (tb {D with nx:=Pv (i+1),ct:=Pv (i+1),bk:=D.nx}))(h:∀Y H,Pv xs.length Y H->D.nx Y H) :
  s5 g tb D Y (uX K a) H:=by
 refine⟨λi m Y H=>m=xs.length-i/\i<=xs.length/\Pv i Y H,⟨xs.length,by simp,jo _,c⟩,?_⟩;rintro i m Y H ⟨rfl,hi,p⟩;have q:=d i Y H hi p;by_cases b:i<xs.length
 .refine .inr ⟨⟨xs,xs[i],q,by simp[b]⟩,Pv (i+1),fun σ' H' j=>⟨xs.length-(i+1),VF,O,b,j⟩,λx H' y=>?_⟩;obtain⟨e,y⟩:=y;subst e;exact f i x Y _ (y xs q) p
 .have e:i=xs.length:=VF;subst e;exact .inl ⟨⟨xs,q,bQ _⟩,h Y H p⟩
theorem p9{lo:Int}{n:Nat}{g:iX}{tb:eR}{D:Ends}{Y:St}{H:aD}(Pv:Nat->St->aD->Prop)(b:Pv 0 Y H)
 (c:∀i Y H,i<n->Pv i Y H->g (.int (lo+i)) Y H (tb {D with nx:=Pv (i+1),ct:=Pv (i+1),bk:=D.nx}))(d:∀Y H,Pv n Y H->D.nx Y H) :
  s5 g tb D Y (qW lo n) H:=by
 refine⟨λi m Y H=>m=n-i/\i<=n/\Pv i Y H,⟨n,by simp,jo _,b⟩,?_⟩;rintro i m Y H ⟨rfl,hi,p⟩;by_cases a:i<n
 .refine .inr ⟨a,Pv (i+1),fun σ' H' f=>⟨n-(i+1),VF,O,a,f⟩,λx H' y=>?_⟩;obtain⟨e,y⟩:=y;subst e y;exact c i Y _ a p
 .have e:i=n:=VF;subst e;exact .inl ⟨bQ _,d Y H p⟩
theorem wm(Pv:St->aD->Prop)(a:St->aD->Nat)(e:Pv Y H)
 (f:∀Y H,Pv Y H->c Y H λb z=>if b=aC then tb {D with nx:=fun σ' H'=>Pv σ' H'/\a σ' H'<a Y H,ct:=fun σ' H'=>Pv σ' H'/\a σ' H'<a Y H,bk:=D.nx} Y z else D.nx Y z)
 (mono:∀Y H Q d,(∀b z,Q b z->d b z)->c Y H Q->c Y H d):Dz c tb D Y H:=by
 refine⟨λm Y H=>m=a Y H/\Pv Y H,⟨_,O,e⟩,?_⟩;rintro m Y H ⟨rfl,p⟩;refine mono Y H _ _ (λb z q=>?_) (f Y H p);cases b with
 |true=>exact⟨_,fun σ' H' ⟨g,l⟩=>⟨_,l,O,g⟩,q⟩
 |false=>exact q
abbrev R2:=V->V->aD->aP->Prop
def fO(X:aZ)(f:aE->aE->Sem aE)(r:R2):Prop:=
 ∀(U:List (aB×aY))(s:aK)(Y:St)(H:aD)(x y:V)(v u:aE)(Q:aP),Inv X U Y H s->cK x v->cK y u->r x y H Q ->
  aU (aX X.prog X.w) X.A (f v u) (gG X U Y Q) X.xe s
def xV(X:aZ)(f:aE->Sem aE)(r:V->aD->aP->Prop):Prop:=
 ∀(U:List (aB×aY))(s:aK)(Y:St)(H:aD)(x:V)(v:aE)(Q:aP),Inv X U Y H s->cK x v->r x H Q ->
  aU (aX X.prog X.w) X.A (f v) (gG X U Y Q) X.xe s
def iY(X:aZ)(f:aE)(r:List V->aD->aP->Prop):Prop:=
 ∀(U:List (aB×aY))(s:aK)(Y:St)(H:aD)(xs:List V)(us:List aE)(Q:aP),Inv X U Y H s->cB xs us->r xs H Q ->
  aU (aX X.prog X.w) X.A (call f us) (gG X U Y Q) X.xe s
abbrev RN (r:R2) (x:V) (Q:aP):aP:=λy H2=>r x y H2 Q
abbrev SI (r:R2) (tb:bG) (Y:St) (Q:aP):aP:=λx z=>tb Y z (RN r x Q)
def wr(r:R2)(M tb:bG):bG:=λY H Q=>M Y H (SI r tb Y Q)
abbrev SN (r:V->aD->aP->Prop) (Q:aP):aP:=λx z=>r x z Q
def TK(r:V->aD->aP->Prop)(M:bG):bG:=λY H Q=>M Y H (SN r Q)
inductive pe(C:Int->Int->Prop)(g:Int->Int->V)(x y:V)(H:aD)(Q:aP):Prop
 |mk:∀i j,x=.int i->y=.int j->C i j->Q (g i j) H->pe C g x y H Q
inductive ol(g:Int->Int->V)(x y:V)(H:aD)(Q:aP):Prop
 |mk:∀i j,x=.int i->y=.int j->Q (g i j) H->ol g x y H Q
inductive zw(g:Int->V)(x:V)(H:aD)(Q:aP):Prop
 |mk:∀i,x=.int i->Q (g i) H->zw g x H Q
section
variable{X:aZ}{a b c:bJ}{M tb o:bG}{pos:Pos}
theorem yU(d:bL X a M)(e:bL X b tb){U:List (aB×aY)}{s:aK}{Y:St}{H:aD}{R:V->V->aD->Prop}(I:Inv X U Y H s)
 (h:M Y H λx z=>tb Y z λy H2=>R x y H2){Q:aE->aK->Prop}{f:aE->aE->Sem aE}
 (g:∀v u c x y H2,Inv X U Y H2 c->cK x v->cK y u->R x y H2->aU (aX X.prog X.w) X.A (f v u) Q X.xe c) :
  aU (aX X.prog X.w) X.A (eval a X.env) (λv i=>aU (aX X.prog X.w) X.A (eval b X.env) (λu j=>aU (aX X.prog X.w) X.A (f v u) Q X.xe j) X.xe i) X.xe s:=by
 refine cD (d U s Y H _ I h) λv s1 ⟨x,z,k,l,m⟩=>?_;refine cD (e U s1 Y z _ k m) λu c ⟨y,H2,n,o,p⟩=>?_;exact g v u c x y H2 n l o p
theorem bC{op:Operator}{r:R2}(c:fO X (kR op) r)(d:bL X a M)(e:bL X b tb):bL X (.BinOp a op b pos) (wr r M tb):=by
 refine⟨?_⟩;intro U s Y H Q I h;exact wpAny_BinOp (yU d e I h λv u f x y H2 g i j q=>c U f Y H2 x y v u Q g i j q)
theorem yO(b:xV X (unaryOp op) r)(c:bL X a M):bL X (.UnaryOp op a pos) (TK r M):=by
 refine⟨?_⟩;intro U s Y H Q I h;exact UnaryOp_ (cD (c U s Y H _ I h) λv s1 ⟨x,z,d,e,f⟩=>b U s1 Y z x v Q d e f)
theorem rJ{f:aE->aE->Sem aE}{C:Int->Int->Prop}{g:Int->Int->Int}
 (rule:∀(i j:Int)(t u:Tok)(s:aK)(Q E:aE->aK->Prop),C i j->Q (.int (g i j) s.toks) {s with toks:=s.toks+1}->aU (aX X.prog X.w) X.A (f (.int i t) (.int j u)) Q E s) :
  fO X f (pe C λi j=>.int (g i j)):=by
 intro U s Y H x y v u Q I a b h;obtain⟨i,j,rfl,rfl,c,q⟩:=h;obtain⟨t,rfl⟩:=a;obtain⟨t',rfl⟩:=b;exact rule i j t t' s _ _ c ⟨.int (g i j),H,I.tok _,⟨_,O⟩,q⟩
theorem EX{f:aE->aE->Sem aE}{g:Int->Int->Int}
 (rule:∀(i j:Int)(t u:Tok)(s:aK)(Q E:aE->aK->Prop),Q (.int (g i j) s.toks) {s with toks:=s.toks+1}->aU (aX X.prog X.w) X.A (f (.int i t) (.int j u)) Q E s) :
  fO X f (ol λi j=>.int (g i j)):=by
 intro U s Y H x y v u Q I a b h;obtain⟨i,j,rfl,rfl,q⟩:=h;obtain⟨t,rfl⟩:=a;obtain⟨t',rfl⟩:=b;exact rule i j t t' s _ _ ⟨.int (g i j),H,I.tok _,⟨_,O⟩,q⟩
theorem vt{f:aE->aE->Sem aE}{g:Int->Int->Bool}
 (rule:∀(i j:Int)(t u:Tok)(s:aK)(Q E:aE->aK->Prop),Q (.bool (g i j)) s->aU (aX X.prog X.w) X.A (f (.int i t) (.int j u)) Q E s) :
  fO X f (ol λi j=>.bl (g i j)):=by
 intro U s Y H x y v u Q I a b h;obtain⟨i,j,rfl,rfl,q⟩:=h;obtain⟨t,rfl⟩:=a;obtain⟨t',rfl⟩:=b;exact rule i j t t' s _ _ ⟨.bl (g i j),H,I,O,q⟩
def Sx(i j:Int):Prop:=0<=j/\j<=1000000/\i.natAbs<2^64
def vy(i j:Int):Prop:=(-(2^64)<i/\i<2^64)\/(-(2^64)<j/\j<2^64)
theorem vy.ok(h:vy i j):IntMulOk i j:=by
 rcases h with ⟨h1,h2⟩|⟨h1,h2⟩
 .exact .of_left (intBits_le_64 h1 h2)
 .exact .of_right (intBits_le_64 h1 h2)
theorem Lg(k:Nat):(0:Int)<=2^k:=by
 rw[two_pow_cast];exact Int.natCast_nonneg _
theorem km:fO X (kR .Add) (ol λi j=>.int (i+j)):=EX λ_ _ _ _ _ _ _ q=>add_int q
theorem mi:fO X (kR .Sub) (ol λi j=>.int (i-j)):=EX λ_ _ _ _ _ _ _ q=>sub_int q
theorem mj:fO X (kR .Mult) (pe vy λi j=>.int (i*j)):=rJ λ_ _ _ _ _ _ _ a q=>mul_int q a.ok
theorem gR:fO X (kR .Mod) (pe (λ_ j=>0<j) λi j=>.int (i%j)):=rJ λi j _ _ _ _ _ a q=>by
 have h1:(0:Int)<j:=a;exact mod_int' VF (by rw[Int.fmod_eq_emod_of_nonneg i VF];exact q)
theorem ji:fO X (kR .Pow) (pe Sx λi j=>.int (i^j.toNat)):=rJ λ_ _ _ _ _ _ _ a q=>pow_int_small a.1 a.2.1 a.2.2 q
theorem PK:fO X (kR .RShift) (pe (λ_ j=>0<=j) λi j=>.int (i/2^j.toNat)):=rJ λi j _ _ _ _ _ a q=>
 rshift_int a (by rw[Int.fdiv_eq_ediv_of_nonneg i (Lg _)];exact q)
theorem TN{f:aE->Sem aE}{g:Int->Int}
 (rule:∀(i:Int)(t:Tok)(s:aK)(Q E:aE->aK->Prop),Q (.int (g i) s.toks) {s with toks:=s.toks+1}->aU (aX X.prog X.w) X.A (f (.int i t)) Q E s) :
  xV X f (zw λi=>.int (g i)):=by
 intro U s Y H x v Q I a h;obtain⟨i,rfl,q⟩:=h;obtain⟨t,rfl⟩:=a;exact rule i t s _ _ ⟨.int (g i),H,I.tok _,⟨_,O⟩,q⟩
theorem yq:xV X (unaryOp .USub) (zw λi=>.int (-i)):=TN λ_ _ _ _ _ q=>neg_int q
end
noncomputable def EV:V->V->Bool
 |.non,.non=>aC|.non,.int _=>aC|.int _,.non=>aC|.non,.bl _=>aC|.bl _,.non=>aC|.non,.str _=>aC|.str _,.non=>aC
 |.int _,.int _=>aC|.bl _,.bl _=>aC|.str _,.str _=>aC|.byt _,.byt _=>aC
 |.int _,.str _=>aC|.str _,.int _=>aC|.bl _,.str _=>aC|.str _,.bl _=>aC
 |_,_=>aJ
def Th:R2:=λx y H Q=>EV x y=aC/\Q (.bl (decide (x=y))) H
def Tp:R2:=λx y H Q=>EV x y=aC/\Q (.bl (!decide (x=y))) H
theorem nG:decide (V.int i=V.int j)=(i==j):=by
 rw[lj];simp
theorem El:decide (V.bl i=V.bl j)=(i==j):=by
 rw[lj];simp
theorem qq:decide (V.str i=V.str j)=(i==j):=by
 rw[lj];simp
theorem Dr:decide (V.byt i=V.byt j)=(i.toList==j.toList):=by
 rw[lj];cases i;cases j;simp
section
variable{X:aZ}{a b c:bJ}{M tb o:bG}{pos:Pos}
theorem gW{k a:Bool}(I:Inv X U Y H s)(q:Q (.bl k) H)(e:k=a):gG X U Y Q (.bool a) s:=by
 subst e;exact⟨.bl k,H,I,O,q⟩
theorem lx:fO X (iO .Eq) Th:=by
 intro U s Y H x y v u Q I c a h;obtain⟨b,q⟩:=h;cases x with
 |non=>
  cases c;cases y with
  |non=>cases a;exact PySem.EqNone.eq_none_none (gW I q (by simp))
  |bl j=>cases a;exact PySem.EqNone.eq_none_bool (gW I q (by simp))
  |int j=>obtain⟨t',rfl⟩:=a;exact PySem.EqNone.eq_none_int (gW I q (by simp))
  |str j=>obtain⟨t',rfl⟩:=a;exact PySem.EqNone.eq_none_str (gW I q (by simp))
  |_=>exact absurd (show aJ=aC from b) fX
 |bl i=>
  cases c;cases y with
  |non=>cases a;exact PySem.EqNone.eq_bool_none (gW I q (by simp))
  |bl j=>cases a;exact eq_bool (gW I q El)
  |str j=>obtain⟨t',rfl⟩:=a;exact PySem.EqMixed.eq_bool_str (gW I q (by simp))
  |_=>exact absurd (show aJ=aC from b) fX
 |int i=>
  obtain⟨t,rfl⟩:=c;cases y with
  |non=>cases a;exact PySem.EqNone.eq_int_none (gW I q (by simp))
  |int j=>obtain⟨t',rfl⟩:=a;exact eq_int (gW I q nG)
  |str j=>obtain⟨t',rfl⟩:=a;exact PySem.EqMixed.eq_int_str (gW I q (by simp))
  |_=>exact absurd (show aJ=aC from b) fX
 |str i=>
  obtain⟨t,rfl⟩:=c;cases y with
  |non=>cases a;exact PySem.EqNone.eq_str_none (gW I q (by simp))
  |bl j=>cases a;exact PySem.EqMixed.eq_str_bool (gW I q (by simp))
  |int j=>obtain⟨t',rfl⟩:=a;exact PySem.EqMixed.eq_str_int (gW I q (by simp))
  |str j=>obtain⟨t',rfl⟩:=a;exact eq_str (gW I q qq)
  |_=>exact absurd (show aJ=aC from b) fX
 |byt i=>
  obtain⟨t,rfl⟩:=c;cases y with
  |byt j=>obtain⟨t',rfl⟩:=a;exact PySem.W.eq_bytes (gW I q Dr)
  |_=>exact absurd (show aJ=aC from b) fX
 |_=>cases y<;>exact absurd (show aJ=aC from b) fX
theorem pj:fO X (iO .NotEq) Tp:=by
 intro U s Y H x y v u Q I c a h;obtain⟨b,q⟩:=h;cases x with
 |non=>
  cases c;cases y with
  |non=>cases a;exact PySem.EqNone.ne_none_none (gW I q (by simp))
  |bl j=>cases a;exact PySem.EqNone.ne_none_bool (gW I q (by simp))
  |int j=>obtain⟨t',rfl⟩:=a;exact PySem.EqNone.ne_none_int (gW I q (by simp))
  |str j=>obtain⟨t',rfl⟩:=a;exact PySem.EqNone.ne_none_str (gW I q (by simp))
  |_=>exact absurd (show aJ=aC from b) fX
 |bl i=>
  cases c;cases y with
  |non=>cases a;exact PySem.EqNone.ne_bool_none (gW I q (by simp))
  |bl j=>cases a;exact ne_bool (gW I q (congrArg not El))
  |str j=>obtain⟨t',rfl⟩:=a;exact PySem.EqMixed.ne_bool_str (gW I q (by simp))
  |_=>exact absurd (show aJ=aC from b) fX
 |int i=>
  obtain⟨t,rfl⟩:=c;cases y with
  |non=>cases a;exact PySem.EqNone.ne_int_none (gW I q (by simp))
  |int j=>obtain⟨t',rfl⟩:=a;exact ne_int (gW I q (congrArg not nG))
  |str j=>obtain⟨t',rfl⟩:=a;exact PySem.EqMixed.ne_int_str (gW I q (by simp))
  |_=>exact absurd (show aJ=aC from b) fX
 |str i=>
  obtain⟨t,rfl⟩:=c;cases y with
  |non=>cases a;exact PySem.EqNone.ne_str_none (gW I q (by simp))
  |bl j=>cases a;exact PySem.EqMixed.ne_str_bool (gW I q (by simp))
  |int j=>obtain⟨t',rfl⟩:=a;exact PySem.EqMixed.ne_str_int (gW I q (by simp))
  |str j=>obtain⟨t',rfl⟩:=a;exact ne_str (gW I q (congrArg not qq))
  |_=>exact absurd (show aJ=aC from b) fX
 |byt i=>
  obtain⟨t,rfl⟩:=c;cases y with
  |byt j=>obtain⟨t',rfl⟩:=a;exact PySem.W.ne_bytes (gW I q (congrArg not Dr))
  |_=>exact absurd (show aJ=aC from b) fX
 |_=>cases y<;>exact absurd (show aJ=aC from b) fX
theorem q8:fO X (iO .Lt) (ol λi j=>.bl (decide (i<j))):=vt λ_ _ _ _ _ _ _ q=>lt_int q
theorem lZ:fO X (iO .LtE) (ol λi j=>.bl (decide (i<=j))):=vt λ_ _ _ _ _ _ _ q=>le_int q
theorem pp:fO X (iO .Gt) (ol λi j=>.bl (decide (j<i))):=vt λ_ _ _ _ _ _ _ q=>gt_int q
theorem QP:fO X (iO .GtE) (ol λi j=>.bl (decide (j<=i))):=vt λ_ _ _ _ _ _ _ q=>ge_int q
theorem Mv:fO X (iO .In) (λx y H Q=>∃i j,x=.str i/\y=.str j/\Q (.bl (!(Builtin.Str.occurrences j i 0 j.length 1).isEmpty)) H):=by
 intro U s Y H x y v u Q I a b h;obtain⟨i,j,rfl,rfl,q⟩:=h;obtain⟨t,rfl⟩:=a;obtain⟨t',rfl⟩:=b;exact in_str (gW I q O)
theorem PL:fO X (iO .Is) (λx y H Q=>y=.non/\Q (.bl (decide (x=.non))) H):=by
 intro U s Y H x y v u Q I a b h;obtain⟨rfl,q⟩:=h;cases b;refine is_none_gen (gW I q ?_);cases x<;>first
  |(cases a;rfl)
  |(obtain⟨t,rfl⟩:=a;rfl)
theorem OK:fO X (iO .IsNot) (λx y H Q=>y=.non/\Q (.bl (!decide (x=.non))) H):=by
 intro U s Y H x y v u Q I a b h;obtain⟨rfl,q⟩:=h;cases b;refine isnot_none_gen (gW I q ?_);cases x<;>first
  |(cases a;rfl)
  |(obtain⟨t,rfl⟩:=a;rfl)
theorem eI(b:bJ)(h:op≠.In:=by decide)(h2:op≠.NotIn:=by decide):sw op b=aJ:=by
 have a:(op==CmpOp.In)=aJ:=by cases op<;>first|rfl|exact absurd rfl h
 have c:(op==CmpOp.NotIn)=aJ:=by cases op<;>first|rfl|exact absurd rfl h2
 cases b<;>simp[sw,a,c]
theorem kv{op:CmpOp}{r:R2}(c:fO X (iO op) r)(d:bL X a M)(e:bL X b tb)(hm:sw op b=aJ):bL X (.Compare a [op] [b] pos) (wr r M tb):=by
 refine⟨?_⟩;intro U s Y H Q I h;exact wpAny_Compare1 (yU d e I h λv u f x y H2 g i j q=>c U f Y H2 x y v u Q g i j q) hm
def Es(t:bG):TT:=λY H Q=>t Y H (y8 Q)
theorem eU(d:fO X (iO op) r)(f:bL X a M)(g:bL X b tb)(hm:sw op b=aJ):kl X (.Compare a [op] [b] pos) (Es (wr r M tb)):=by
 refine⟨?_⟩;intro U s Y H Q I h;refine wpAny_isTrue_Compare1 (cD (f U s Y H _ I h) λv s1 ⟨x,z,i,j,l⟩=>cD (g U s1 Y z _ i l) λu m ⟨y,H2,n,o,p⟩=>
  cD (d U m Y H2 x y v u _ n j o p) λc B ⟨C,q,t,w,k,e,A⟩=>?_) hm
 subst e;cases w;exact mE ⟨q,t,A⟩
abbrev RV (a:R2) (y:V) (Q:aP):aP:=λb c=>a y b c Q
inductive Fw(r':R2)(o:bG)(Y:St)(Q:aP)(y z:V)(H3:aD):Prop
 |mk:∀k,z=.bl k->(if k=aC then o Y H3 (RV r' y Q) else Q (.bl aJ) H3)->Fw r' o Y Q y z H3
abbrev RW (r a:R2) (o:bG) (Y:St) (Q:aP) (x:V):aP:=λy H2=>r x y H2 (Fw a o Y Q y)
abbrev SG (r a:R2) (tb o:bG) (Y:St) (Q:aP):aP:=λx z=>tb Y z (RW r a o Y Q x)
def DB(r a:R2)(M tb o:bG):bG:=λY H Q=>M Y H (SG r a tb o Y Q)
theorem ww(n:fO X (iO op) r)(p:fO X (iO f) g)(q:bL X a M)(t:bL X b tb)(w:bL X c o)
 (hm:lastMarks [op,f] [b,c]=aJ:=by with_unfolding_all rfl):bL X (.Compare a [op,f] [b,c] pos) (DB r g M tb o):=by
 refine⟨?_⟩;intro U s Y H Q I h;refine Compare_chain (cD (q U s Y H _ I h) λv s1 ⟨x,z,A,B,C⟩=>chain_link (cD (t U s1 Y z _ A C) λu D ⟨y,H2,E,i,G⟩=>
  cD (n U D Y H2 x y v u _ E B i G) λd J ⟨z,j,l,L,k,e,m⟩=>?_)) hm
 subst e;cases L;refine mE ?_;cases k with
 |false=>exact ite_ff ⟨.bl aJ,j,l,rfl,m⟩
 |true=>exact ite_tt (chain_last (cD (w U J Y j _ l m) λN T ⟨a0,a1,a2,a3,a4⟩=>p U T Y a1 y a0 u N Q a2 i a3 a4))
theorem Np(n:fO X (iO op) r)(p:fO X (iO f) g)(q:bL X a M)(t:bL X b tb)(w:bL X c o)
 (hm:lastMarks [op,f] [b,c]=aJ:=by with_unfolding_all rfl):kl X (.Compare a [op,f] [b,c] pos) (Es (DB r g M tb o)):=by
 refine⟨?_⟩;intro U s Y H Q I h;refine isTrue_chain (cD (q U s Y H _ I h) λv s1 ⟨x,z,A,B,C⟩=>test_link (cD (t U s1 Y z _ A C) λu D ⟨y,H2,E,i,G⟩=>
  cD (n U D Y H2 x y v u _ E B i G) λd J ⟨z,j,l,L,k,e,m⟩=>?_)) hm
 subst e;cases L;refine mE ?_;cases k with
 |false=>
  obtain⟨ae,N,T⟩:=m;cases N;exact ite_ff ⟨j,l,T⟩
 |true=>
  refine ite_tt (test_last (cD (w U J Y j _ l m) λa0 a1 ⟨a2,a3,a4,a5,a6⟩=>cD (p U a1 Y a3 y a2 u a0 _ a4 i a5 a6) λd' af ⟨ag,a7,a8,a9,k2,aa,ac⟩=>?_));subst aa;cases a9;exact mE ⟨a7,a8,ac⟩
theorem sQ:(dH:Nat)<2^63:=by rw[kP];decide
theorem tq:fO X (kR .Add) (λx y H Q=>∃i j,x=.str i/\y=.str j/\i.length+j.length<=dH/\Q (.str (i++j)) H):=by
 intro U s Y H x y v u Q I a b h;obtain⟨i,j,rfl,rfl,c,q⟩:=h;obtain⟨t,rfl⟩:=a;obtain⟨t',rfl⟩:=b;exact add_str (λt' tk=>⟨.str (i++j),H,I.tok _,⟨_,O⟩,q⟩) c
theorem ph(r:cB [x] us):∃u,us=[u]/\cK x u:=by
 cases r with
 |cons a b=>cases b;exact⟨_,O,a⟩
theorem Eo(r:cB [x,y] us):∃u a,us=[u,a]/\cK x u/\cK y a:=by
 cases r with
 |cons b c=>
  cases c with
  |cons d e=>cases e;exact⟨_,_,O,b,d⟩
theorem x6:iY X (.builtin "abs") (λxs H Q=>∃i,xs=[.int i]/\Q (.int (if i<0 then -i else i)) H):=by
 intro U s Y H xs us Q I r h;obtain⟨i,rfl,q⟩:=h;obtain⟨u,rfl,t,rfl⟩:=ph r;exact call_abs_int λu tk=>⟨.int (if i<0 then -i else i),H,I.tok _,⟨_,O⟩,q⟩
theorem Bx(b:X.calm=aC):iY X (.builtin "max") (λxs H Q=>∃i j,xs=[.int i,.int j]/\Q (.int (if j>i then j else i)) H):=by
 intro U s Y H xs us Q I r h;obtain⟨i,j,rfl,q⟩:=h;obtain⟨u,c,rfl,⟨t,rfl⟩,⟨t',rfl⟩⟩:=Eo r;refine max_two_ints (I.ok.hd b) λh' tk k=>⟨_,H,I.kept k,?_,q⟩
 by_cases a:j>i
 .rw[if_pos a,if_pos a];exact⟨_,O⟩
 .rw[if_neg a,if_neg a];exact⟨_,O⟩
theorem z7(b:X.calm=aC):iY X (.builtin "min") (λxs H Q=>∃i j,xs=[.int i,.int j]/\Q (.int (if j<i then j else i)) H):=by
 intro U s Y H xs us Q I r h;obtain⟨i,j,rfl,q⟩:=h;obtain⟨u,c,rfl,⟨t,rfl⟩,⟨t',rfl⟩⟩:=Eo r;refine min_two_ints (I.ok.hd b) λh' tk k=>⟨_,H,I.kept k,?_,q⟩
 by_cases a:j<i
 .rw[if_pos a,if_pos a];exact⟨_,O⟩
 .rw[if_neg a,if_neg a];exact⟨_,O⟩
theorem wa:iY X (.type "int") (λxs H Q=>(∃i,xs=[.int i]/\Q (.int i) H)\/∃k,xs=[.bl k]/\Q (.int (if k then 1 else 0)) H):=by
 intro U s Y H xs us Q I r h;rcases h with ⟨i,rfl,q⟩|⟨k,rfl,q⟩
 .obtain⟨u,rfl,t,rfl⟩:=ph r;exact call_int_int ⟨.int i,H,I,⟨_,O⟩,q⟩
 .obtain⟨u,rfl,a⟩:=ph r;cases a;exact call_int_bool ⟨.int (if k then 1 else 0),H,I.tok _,⟨_,O⟩,q⟩
end
structure pU (h:bE) (x dx C:aB) (T:aA->Option aE):Prop where
 obj:h.get? x=some (oA C dx)
 ns:h.Ns1 dx T
 ne:dx≠x
theorem MF{h:bE}{dx:aB}{T:aA->Option aE}(n:h.Ns1 dx T):∃b,h.get? dx=some b/\∀name,ux name b=some (T name):=by
 obtain⟨o,es,ep,c,d,f,_,hm⟩:=n;refine⟨o,c,λname=>?_⟩;have e:=hm name;unfold nsFind findBy at e;rw[←Array.find?_toList]at e;unfold ux;rw[d];dsimp only;split
 .rename_i y q;rw[q]at e;exact congrArg some e
 .rename_i q;rw[q]at e;have a:es.toList.any (·.refKey)=aJ:=by
   rw[List.any_eq_false];intro y g;obtain⟨k,t,i⟩:=f y (Array.mem_toList_iff.mp g);simp[oJ.refKey,i]
  have j:¬es.toList.any (·.refKey)=aC:=by rw[a];exact fX
  rw[if_neg j];exact congrArg some e
theorem pU.look(I:pU h x dx C T):∃a,PySem.W.InstAt h x (oA C dx) C (some a)/\∀name,ux name a=some (T name):=
 let ⟨a,b,c⟩:=MF I.ns
 ⟨a,⟨I.obj,O,O,b⟩,c⟩
section
variable{prog:bT}{w:bN}{A:bX}{E:aE->aK->Prop}{s:aK}{K:bI}{x dx C f:aB}{T:aA->Option aE}{name:aA}{v:aE}
theorem Pb(X:K.In s.heap)(I:pU s.heap x dx C T)(a:r9 K C name=aC)(b:ui K C=aC)
 (c:ka K (.ref C) name=some aG)(d:T name=some v)(e:PySem.W.handedIn v=aC)(h:Q v {s with toks:=s.toks+1}) :
  aU (aX prog w) A (getAttr (.ref x) name expr) Q E s:=by
 obtain⟨i,f,g⟩:=I.look;exact PySem.W.get_value X f (xg a).1 (PySem.W.findObj_own b c O (by rw[g,d])) e h
theorem NK(X:K.In s.heap)(I:pU s.heap x dx C T)(a:r9 K C name=aC)
 (b:ka K (.ref C) name=some (some (.ref f)))(c:sr K (.ref f)=aC)(d:T name=aG)(h:Q (.ref f,[.ref x]) s) :
  aU (aX prog w) A (nu (.ref x) name pl) Q E s:=by
 obtain⟨e,g,i⟩:=I.look;exact PySem.W.method_fn X g (xg a).1 (xg a).2 b (beq_iff_eq.mp c) (by show(ux name e).map (·.isSome)=some aJ;rw[i,d];rfl) h
theorem Ou(X:K.In s.heap)(I:pU s.heap x dx C T)
 (f:ka K (.ref C) "__setattr__"=some (some (.builtin "object.__setattr__")))(g:PySem.W.plainOver K C=aC)(i:xu K C name=some aG)(j:ui K C=aC)
 (k:su T ns)(hsz:ns.length<=dH)
 (h:∀h',pU h' x dx C (λy=>if y=name then some v else T y)->oF dx s.heap h'->Q () {s with heap:=h',toks:=s.toks+2}) :
  aU (aX prog w) A (setAttr (.ref x) name v) Q E s:=by
 obtain⟨t,c,u⟩:=I.look;refine PySem.W.set_plain X c f (PySem.W.osa_open (s:={s with toks:=s.toks+1}) (r:=aG) X c g i λb=>?_);obtain⟨cd,l,m⟩:=PySem.W.any_some j;have n:s.heap.get? x=some ⟨.ref C,some dx,.plain,#[]⟩:=I.obj;refine aO (bH (aO (aO (pH n (aO (w7 (s:={s with toks:=s.toks+1}) (ub X l) ?_))))));rw[m];refine bH (a:=some dx) (aO (bH (aO ?_)));refine wpAny_nsSet1 (s:={s with toks:=s.toks+1}) I.ns λh' d e=>?_;obtain⟨z,B,D,o,p,q⟩:=d.count (su.cons name v k);refine aO (wpAny_lookBehind o (by rw[p];exact pastItsLine_dict (fF q (by rw[hJ];omega))) ?_);exact bH (h _ ⟨(e.2 _ (Ne.symm I.ne)).trans I.obj,d,I.ne⟩ e)
theorem NA(X:K.In s.heap)(hm:xv K C=aC)
 (hi:ka K (.ref C) "__init__"=some (some (.ref f)))(b:PySem.W.typeIn K (.ref f)=some (.type "function"))
 (h:codeAny (aX prog w) (A.under (.builtin "type.__call__" ⟨.ref C::vs,a⟩)) (.call (.ref f) ⟨.ref (s.heap.objs.size+1)::vs,a⟩) (PySem.W.InitBack (s.heap.objs.size+1) R)
   {s with heap:=(s.heap.push nP).push (oA C s.heap.objs.size)}) :
  codeAny (aX prog w) A (.call (.ref C) ⟨vs,a⟩) R s:=by
 obtain⟨c,g,d,t,os⟩:=s;exact PySem.W.make_core (PySem.W.makes_of X hm) (PySem.W.looks_findIn X hi) (λself=>PySem.W.bind_fn X self b) VG h
end
noncomputable def gX(f:aA)(v:V):List (aA×V)->List (aA×V)
 |[]=>[(f,v)]
 |(g,x)::r=>if g=f then(g,v)::r else(g,x)::gX f v r
theorem lQ(f g:aA)(v:V):∀fs:List (aA×V),(gX f v fs).lookup g=if g=f then some v else fs.lookup g
 |[]=>by
  show lG g [(f,v)]=_;by_cases h:g=f
  .have a:(g==f)=aC:=beq_iff_eq.mpr h;simp only[lG,a,if_pos h]
  .have a:(g==f)=aJ:=beq_eq_false_iff_ne.mpr h;simp only[lG,a,if_neg h]
 |(k,x)::r=>by
  have c:=lQ f g v r;rw[show gX f v ((k,x)::r)=(if k=f then(k,v)::r else(k,x)::gX f v r) from O];by_cases b:k=f
  .rw[if_pos b];by_cases h:g=k
   .have a:(g==k)=aC:=beq_iff_eq.mpr h;simp only[lG,a,if_pos (h.trans b)]
   .have a:(g==k)=aJ:=beq_eq_false_iff_ne.mpr h;simp only[lG,a,if_neg (λe:g=f=>h (e.trans b.symm))]
  .rw[if_neg b];by_cases h:g=k
   .have a:(g==k)=aC:=beq_iff_eq.mpr h;simp only[lG,a,if_neg (λe:g=f=>b (h.symm.trans e))]
   .have a:(g==k)=aJ:=beq_eq_false_iff_ne.mpr h;simp only[lG,a];exact c
theorem zU(f:aA)(v:V):∀fs:List (aA×V),f∈(gX f v fs).map (·.1)/\∀g,g∈fs.map (·.1)->g∈(gX f v fs).map (·.1)
 |[]=>⟨by simp[gX],λg h=>by simp at h⟩
 |(k,x)::r=>by
  obtain⟨b,c⟩:=zU f v r;rw[show gX f v ((k,x)::r)=(if k=f then(k,v)::r else(k,x)::gX f v r) from O];by_cases a:k=f
  .rw[if_pos a];subst a;exact⟨by simp,λg h=>by simpa using h⟩
  .rw[if_neg a];refine⟨?_,λg h=>?_⟩
   .rw[dW];exact eY _ b
   .rw[dW]at h ⊢;rcases eM.mp h with e|e
    .exact eM.mpr (.inl e)
    .exact eY _ (c g e)
theorem Ja(f:aA)(v:V):∀fs:List (aA×V),(gX f v fs).length<=fs.length+1
 |[]=>by simp[gX]
 |(k,x)::r=>by
  have b:=Ja f v r;rw[show gX f v ((k,x)::r)=(if k=f then(k,v)::r else(k,x)::gX f v r) from O];by_cases a:k=f
  .rw[if_pos a,hJ,hJ];omega
  .rw[if_neg a,hJ,hJ];omega
theorem kr.some_of(r:kr (some v) o):∃u,o=some u/\cK v u:=by
 cases o with
 |none=>exact(show False from r).elim
 |some u=>exact⟨u,O,r⟩
theorem kr.none_of(r:kr aG o):o=aG:=by
 cases o with
 |none=>rfl
 |some u=>exact(show False from r).elim
theorem MJ(r:cK v u):PySem.W.handedIn u=aC:=by
 cases v with
 |non=>cases(show u=iZ from r);rfl
 |bl b=>cases(show u=sB b from r);rfl
 |int i=>obtain⟨t,e⟩:=(show ∃t,u=pO i t from r);cases e;rfl
 |str x=>obtain⟨t,e⟩:=(show ∃t,u=nW x t from r);cases e;rfl
 |byt b=>obtain⟨t,e⟩:=(show ∃t,u=aE.bytes b t from r);cases e;rfl
 |flt b=>obtain⟨t,e⟩:=(show ∃t,u=aE.float b t from r);cases e;rfl
 |ref a=>cases(show u=cZ a from r);rfl
 |ty n=>cases(show u=mJ n from r);rfl
section
variable{P:bT}{w:bN}{H H':aD}{h h':bE}{a C dx:aB}{fs s:List (aA×V)}
theorem wS(b:eB P w H h)(e:H a=some (.ins C dx fs)):∃T,pU h a dx C T/\(∀f,kr (fs.lookup f) (T f))/\su T (fs.map (·.1))/\fs.length<=1000/\H dx=some (.own a):=by
 obtain⟨d,c,g,i,T,n,r,q⟩:=(show dR P w H h a (.ins C dx fs) from b a _ e)
 exact⟨T,⟨i,n,g⟩,r,q,c,d⟩
end
structure kQ (K:bI) (C:aB):Prop where
 pg:r9 K C aA.empty=aC
 hd:ui K C=aC
 po:PySem.W.plainOver K C=aC
 sa:ka K (.ref C) "__setattr__"=some (some (.builtin "object.__setattr__"))
theorem kQ.get{K:bI}{C:aB}(c:kQ K C)(f:aA):r9 K C f=aC:=c.pg
def m0(K:bI)(C:aB)(f:aA):Prop:=ka K (.ref C) f=some aG
theorem m0.taker{K:bI}{C:aB}{f:aA}(n:m0 K C f):xu K C f=some aG:=by
 unfold xu;rw[show ka K (.ref C) f=some aG from n];rfl
structure UB (K:bI) (C:aB) (f:aA) (v:V) (u:aE):Prop where
 at_:ka K (.ref C) f=some (some u)
 rel:cK v u
 get:xl K u "__get__"=some aG
 cp:PySem.W.copiedNames.contains f=aJ
structure qZ (K:bI) (C:aB) (m:aA) (f:aB):Prop where
 at_:ka K (.ref C) m=some (some (.ref f))
 fn:sr K (.ref f)=aC
 kp:mG K (.ref f)=aC
section
variable{X:aZ}{U:List (aB×aY)}{Y:St}{H:aD}{s:aK}{a C dx:aB}{fs:List (aA×V)}{f:aA}{v:V}{A:bX}{E:aE->aK->Prop}
theorem LJ(I:Inv X U Y H s)(e:H a=some (.ins C dx fs))(c:kQ X.K C)(n:m0 X.K C f)(l:fs.lookup f=some v)
 (h:∀u L,Inv X U Y H L->cK v u->Q u L):aU (aX X.prog X.w) A (getAttr (.ref a) f b) Q E s:=by
 obtain⟨T,g,r,_,_,_⟩:=wS I.hok e;obtain⟨u,i,d⟩:=kr.some_of (v:=v) (o:=T f) (by rw[←l];exact r f);exact Pb I.kIn g (c.get f) c.hd n i (MJ d) (h u _ (I.tok _) d)
theorem zC(I:Inv X U Y H s)(e:H a=some (.ins C dx fs))(c:kQ X.K C)(k:qZ X.K C m g)(l:fs.lookup m=aG)
 (h:Q (.ref g,[.ref a]) s):aU (aX X.prog X.w) A (nu (.ref a) m pl) Q E s:=by
 obtain⟨T,b,r,_,_,_⟩:=wS I.hok e;have d:T m=aG:=kr.none_of (by rw[←l];exact r m);exact NK I.kIn b (c.get m) k.at_ k.fn d h
theorem Lj(I:Inv X U Y H s)(e:H a=some (.ins C dx fs))(c:kQ X.K C)(n:m0 X.K C f)(G:fs.length<1000)(m:cK y u)
 (h:∀L,Inv X U Y (aI H a (.ins C dx (gX f y fs))) L->Q () L):aU (aX X.prog X.w) A (setAttr (.ref a) f u) Q E s:=by
 obtain⟨T,d,r,k,_,l⟩:=wS I.hok e;have p:(fs.map (·.1)).length<=dH:=by rw[aS,kP];omega
 refine Ou I.kIn d c.sa c.po n.taker c.hd k p λh' i t=>h _ ?_;have w:∃o,h'.get? dx=some o:=let ⟨o,_,_,z,_⟩:=i.ns;⟨o,z⟩;refine I.write (x:=a) (e:=dx) (by rw[e];exact mK) (.inr l) (λb q B j=>(t.2 b B).trans j) w ?_;refine⟨by rw[bD d.ne];exact l,?_,d.ne,i.obj,_,i.ns,λg=>?_,λg D=>?_⟩
 .have:=Ja f y fs;omega
 .show kr ((gX f y fs).lookup g) (if g=f then some u else T g);rw[lQ];by_cases q:g=f
  .rw[if_pos q,if_pos q];exact m
  .rw[if_neg q,if_neg q];exact r g
 .by_cases q:g=f
  .rw[q];exact(zU f y fs).1
  .refine(zU f y fs).2 g (k g λj=>D ?_);show(if g=f then some u else T g)=aG;rw[if_neg q];exact j
theorem Inv.made(I:Inv X U Y H s):Inv X U Y (aI (aI H s.heap.objs.size (.own (s.heap.objs.size+1))) (s.heap.objs.size+1) (.ins C s.heap.objs.size []))
  {s with heap:=(s.heap.push nP).push (oA C s.heap.objs.size)}:=by
 have c:(s.heap.push nP).get? s.heap.objs.size=some nP:=gF s.heap O;have f:((s.heap.push nP).push (oA C s.heap.objs.size)).get? (s.heap.objs.size+1)=some (oA C s.heap.objs.size):=by
  have:=gF (s.heap.push nP) (o:=oA C s.heap.objs.size) O
  rwa [pG]at this
 have g:(s.heap.push nP).Ns s.heap.objs.size (λ_=>aG):=⟨nP,#[],_,c,O,(λe h=>absurd h (by simp)),λ_=>O⟩
 have i:=I.laid (a:=s.heap.objs.size) (o:=.own (s.heap.objs.size+1)) (h':=s.heap.push nP) (t':=s.toks) (λb u q=>dM _ q) (bQ _) ⟨_,c⟩;refine i.laid (a:=s.heap.objs.size+1) (o:=.ins C s.heap.objs.size []) (t':=s.toks) (λb u q=>dM _ q) (sx (pG _ _)) ?_;have d:s.heap.objs.size≠s.heap.objs.size+1:=eF (sf _);refine⟨by rw[bD d,aV],jo _,d,f,λ_=>aG,(bE.Ns1.of_empty g).at λo q=>dM _ q,λ_=>mK,λy j=>absurd O j⟩
theorem Dw(a:pJ e f env (eval e env)=eval e env)
 (h:aU (aX prog w) A (eval e env) (λo b=>aU (aX prog w) A (getAttr o f aC) Q E b) E s):aU (aX prog w) A (eval (.Attribute e f pos) env) Q E s:=
 Attribute_any_ h (by rw[arm_eval_Attribute,a])
end
inductive FA(K:bI)(f:aA)(Q:aP)(x:V)(z:aD):Prop
 |mk:∀a C dx fs v,x=.ref a->z a=some (.ins C dx fs)->kQ K C->m0 K C f->fs.lookup f=some v->Q v z->FA K f Q x z
def Ry(K:bI)(M:bG)(f:aA):bG:=λY H Q=>M Y H (FA K f Q)
inductive FN(K:bI)(f:aA)(Y:St)(N:St->aD->Prop)(y x:V)(H2:aD):Prop
 |mk:∀a C dx fs,x=.ref a->H2 a=some (.ins C dx fs)->kQ K C->m0 K C f->fs.length<1000->N Y (aI H2 a (.ins C dx (gX f y fs)))->FN K f Y N y x H2
abbrev QV (K:bI) (M:bG) (f:aA) (Y:St) (N:St->aD->Prop):aP:=λy z=>M Y z (FN K f Y N y)
def RC(K:bI)(M tv:bG)(f:aA):eR:=λD Y H=>tv Y H (QV K M f Y D.nx)
def Ff(X:aZ)(op:Operator)(a:V->V->aD->aP->Prop):Prop:=
 ∀(U:List (aB×aY))(s:aK)(Y:St)(H:aD)(x y:V)(u v:aE)(Q:aP),Inv X U Y H s->cK x u->cK y v->a x y H Q->aU (aX X.prog X.w) X.A (inplaceOp op u v) (gG X U Y Q) X.xe s
section
variable{X:aZ}{o e value:bJ}{f:aA}{pos t C:Pos}{M tv:bG}
theorem ky(b:bL X e M)(d:pJ e f X.env (eval e X.env)=eval e X.env):bL X (.Attribute e f pos) (Ry X.K M f):=by
 refine⟨?_⟩;intro U s Y H Q I h;refine Dw d (cD (b U s Y H _ I h) λu s1 ⟨x,z,g,i,a,C,dx,fs,v,ex,ea,c,n,l,q⟩=>?_);subst ex;obtain rfl:u=cZ a:=i;exact LJ g ea c n l λm o j k=>⟨v,z,j,k,q⟩
theorem rP(b:bL X o M)(d:bL X value tv)(e:pP value (some (.Attribute o f t)) pos.line X.env=pure aJ):jY X (.Assign [.Attribute o f t] value pos) (RC X.K M tv f):=by
 refine⟨?_⟩;intro U s Y H D I h;refine plainObj_wpAny_Assign_Attribute (cD (d U s Y H _ I h) λu s1 ⟨y,z,g,i,q⟩=>cD (b U s1 Y z _ g q) λj w ⟨x,H2,k,m,a,C,dx,fs,ex,ea,c,n,l,p⟩=>?_) e;subst ex;obtain rfl:j=cZ a:=m;exact Lj k ea c n l i λA r=>⟨Y,_,r,p⟩
inductive Gx(x y:V)(H:aD)(Q:aP):Prop
 |mk:∀i j,x=.int i->y=.int j->Q (.int (i+j)) H->Gx x y H Q
inductive Tu(x y:V)(H:aD)(Q:aP):Prop
 |mk:∀i j,x=.int i->y=.int j->Q (.int (i-j)) H->Tu x y H Q
theorem Qn:Ff X .Add Gx:=by
 rintro U s Y H x y u v Q I a b ⟨i,j,rfl,rfl,q⟩;obtain⟨t,rfl⟩:=(show ∃t,u=pO i t from a)
 obtain⟨t',rfl⟩:=(show ∃t',v=pO j t' from b)
 exact PyProof.Rows.iadd_int ⟨.int (i+j),H,I.tok _,⟨_,O⟩,q⟩
end
section
variable{X:aZ}{U:List (aB×aY)}{Y:St}{H:aD}{s:aK}{A:bX}{E:aE->aK->Prop}{Q:aE->aK->Prop}{c:aE}{b:Bool}
inductive js(K:bI)(H:aD):V->aE->Prop where
 |non:js K H .non (.type "NoneType")
 |bl (x:Bool):js K H (.bl x) (.type "bool")
 |int (i:Int):js K H (.int i) (.type "int")
 |str (x:aA):js K H (.str x) (.type "str")
 |flt (x:UInt64):js K H (.flt x) (.type "float")
 |lst {a:aB} {xs:List V} (e:H a=some (.lst xs)):js K H (.ref a) (.type "list")
 |frz {a:aB} {o:aY} {xs:List V} (e:H a=some (.frz o (.lst xs))):js K H (.ref a) (.type "list")
 |tup {a:aB} {xs:List V} (e:H a=some (.tup xs)):js K H (.ref a) (.type "tuple")
 |dK {a:aB} {J:List (aW×V)} (e:H a=some (.dK J)):js K H (.ref a) (.type "dict")
 |dT {a:aB} {J:List (List aW×V)} (e:H a=some (.dT J)):js K H (.ref a) (.type "dict")
 |ins {a C dx:aB} {fs:List (aA×V)} (e:H a=some (.ins C dx fs)) (cl:kQ K C) (ha:ka K (.ref C) "__class__"=some (some (.builtin "object.__class__")))
   (hn:xl K (.builtin "object.__class__") "__get__"=some (some (.builtin "getset_descriptor.__get__"))) (htk:PySem.W.takesIn K (.builtin "object.__class__")=some aC)
   (hm:PySem.W.mroIn K C (.type "object")=some aC):js K H (.ref a) (.ref C)
theorem MH(I:Inv X U Y H s)(f:cK x u)(ty:js X.K H x t)(e:jW X.K t c=some b)(h:∀tk,Q (.bool b) {s with toks:=tk}) :
  aU (aX X.prog X.w) A (call (.builtin "isinstance") [u,c]) Q E s:=by
 cases ty with
 |non=>cases(show u=iZ from f);exact l7 PySem.W.kitx_none I.kIn mK e (λd=>nomatch d) h
 |bl y=>cases(show u=sB y from f);exact l7 PySem.W.kitx_bool I.kIn mK e (λd=>nomatch d) h
 |int i=>obtain⟨t,q⟩:=(show ∃t,u=pO i t from f);cases q;exact l7 PySem.W.kitx_int I.kIn mK e (λd=>nomatch d) h
 |str y=>obtain⟨t,q⟩:=(show ∃t,u=nW y t from f);cases q;exact l7 PySem.W.kitx_str I.kIn mK e (λd=>nomatch d) h
 |flt y=>obtain⟨t,q⟩:=(show ∃t,u=aE.float y t from f);cases q;exact l7 PySem.W.kitx_float I.kIn mK e (λd=>nomatch d) h
 |@lst a xs ea=>
  cases(show u=cZ a from f);obtain⟨_,_,n,_,h1⟩:=(show dR X.prog X.w H s.heap a (.lst xs) from I.hok a _ ea)
  exact l7 PySem.W.kitx_list I.kIn ⟨_,h1,O⟩ e (λd=>nomatch d) h
 |@frz a g xs ea=>
  cases(show u=cZ a from f);obtain⟨_,_,_,n,_,h1⟩:=(show dR X.prog X.w H s.heap a (.frz g (.lst xs)) from I.hok a _ ea)
  exact l7 PySem.W.kitx_list I.kIn ⟨_,h1,O⟩ e (λd=>nomatch d) h
 |@tup a xs ea=>
  cases(show u=cZ a from f);obtain⟨_,_,_,p⟩:=(show dR X.prog X.w H s.heap a (.tup xs) from I.hok a _ ea)
  obtain⟨o,h1,h2,_⟩:=p;exact l7 PySem.W.kitx_tuple I.kIn ⟨o,h1,h2⟩ e (λd=>nomatch d) h
 |@dK a J ea=>
  cases(show u=cZ a from f);obtain⟨_,_,vs,_,p⟩:=(show dR X.prog X.w H s.heap a (.dK J) from I.hok a _ ea)
  obtain⟨o,es,ep,h1,h2,_⟩:=p;exact l7 PySem.W.kitx_dict I.kIn ⟨o,h1,h2.1⟩ e (λd=>nomatch d) h
 |@dT a J ea=>
  cases(show u=cZ a from f);obtain⟨_,_,xs,_,o,es,ep,h1,h2,_⟩:=(show dR X.prog X.w H s.heap a (.dT J) from I.hok a _ ea)
  exact l7 PySem.W.kitx_dict I.kIn ⟨o,h1,h2.1⟩ e (λd=>nomatch d) h
 |@ins a C dx fs ea cl j k l hm=>
  cases(show u=cZ a from f);obtain⟨T,m,_⟩:=wS I.hok ea;obtain⟨w,r,_⟩:=m.look;exact l7 (PySem.W.kitx_own (cl.get _) cl.hd j k l hm) I.kIn r e (λd=>nomatch d) h
end
structure eQ (k:Nat) (A:bX):Prop where
 hd:A.handled=aG
 dp:A.depth+3*k+5<recursionLimit
 un:A.units+16*k+200<cLine
theorem eQ.mono(r:eQ k A)(h:j<=k):eQ j A:=⟨r.hd,by have:=r.dp;omega,by have:=r.un;omega⟩
theorem eQ.deeper(r:eQ (k+1) A)(env:eP):eQ k (A.deeper env):=
 ⟨r.hd,by have:=r.dp;show A.depth+1+3*k+5<_;omega,by have:=r.un;show A.units+3+16*k+200<_;omega⟩
theorem eQ.in1(r:eQ (k+1) A):eQ k A.in1:=
 ⟨r.hd,by have:=r.dp;show A.depth+3*k+5<_;omega,by have:=r.un;show A.units+1+16*k+200<_;omega⟩
theorem Lz{A:bX}{C:aB}{us:List aE}{a:List (aA×aE)}:(A.under (.builtin "type.__call__" ⟨.ref C::us,a⟩)).depth=A.depth+1:=by
 first|rfl|simp[bX.under,Code.weight,Code.isCreation,Code.isGuard,Code.isCaller,Code.frames,Code.isFrame,guardIds]
theorem Ly{A:bX}{C:aB}{us:List aE}{a:List (aA×aE)}:(A.under (.builtin "type.__call__" ⟨.ref C::us,a⟩)).units=A.units+1:=by
 first|rfl|simp[bX.under,Code.cUnits,Code.frames,Code.isFrame]
theorem eQ.make(r:eQ (k+1) A)(C:aB)(us:List aE)(a:List (aA×aE)):eQ k (A.under (.builtin "type.__call__" ⟨.ref C::us,a⟩)):=
 ⟨r.hd,by have:=r.dp;rw[Lz];omega,by have:=r.un;rw[Ly];omega⟩
theorem eQ.depth(r:eQ k A):A.depth<recursionLimit:=by have:=r.dp;omega
theorem eQ.units(r:eQ k A):A.units+64<cLine:=by have:=r.un;omega
def rf:fU:=λ_ H Q=>Q [] H
abbrev Qh (Q:List V->aD->Prop) (x:V):List V->aD->Prop:=λxs H2=>Q (x::xs) H2
abbrev Rb (a:fU) (Y:St) (Q:List V->aD->Prop):aP:=λx z=>a Y z (Qh Q x)
def sS(M:bG)(a:fU):fU:=λY H Q=>M Y H (Rb a Y Q)
section
variable{X:aZ}{e:bJ}{es:List bJ}{te:bG}{t:fU}{pos:Pos}
theorem aL:jf X [] rf:=⟨λ_ _ _ _ H Q I h=>xr ⟨[],H,I,.nil,h⟩⟩
theorem aF(a:bL X e te)(b:jf X es t)(c:dA (e::es) X.env=(aJ,eval e X.env)::dA es X.env:=by rfl):jf X (e::es) (sS te t):=by
 refine⟨?_⟩;intro pos U s Y H Q I h;rw[c];show aU _ _ (spliced ((aJ,eval e X.env)::backTo pos (dA es X.env))) _ _ s;refine uh (cD (a U s Y H _ I h) λu s1 ⟨x,z,d,f,g⟩=>?_);exact cD (b pos U s1 Y z _ d g) λus l ⟨xs,H2,i,j,k⟩=>⟨x::xs,H2,i,.cons f j,k⟩
abbrev RK (Q:aP):List V->aD->Prop:=λxs z=>xs.length<=dH/\∀p,z p=aG->Q (.ref p) (aI z p (.tup xs))
def ER(t:fU):bG:=λY H Q=>t Y H (RK Q)
abbrev RP (Q:aP):List V->aD->Prop:=λxs z=>xs.length<=dH/\∀p,z p=aG->Q (.ref p) (aI z p (.lst xs))
def Rx(t:fU):bG:=λY H Q=>t Y H (RP Q)
theorem jd{d}(h:jf X es t):bL X (.Tuple es d pos) (ER t):=by
 refine⟨?_⟩;intro U s Y H Q I f;refine wpAny_Tuple_spliced (cD (h pos U s Y H _ I f) λus s1 ⟨xs,z,a,r,c,q⟩=>⟨by rw[←r.length];exact c,?_⟩);have g:z s1.heap.objs.size=aG:=a.hok.fresh (bQ _);refine⟨.ref s1.heap.objs.size,aI z s1.heap.objs.size (.tup xs),a.laid (t':=s1.toks) (λb u e=>dM _ e) (bQ _) ?_,O,q _ g⟩;exact⟨c,us,r,⟨_,gF _ O,O,_,O,O⟩⟩
theorem eA(h:jf X es t):bL X (.List es pos) (Rx t):=by
 refine⟨?_⟩;intro U s Y H Q I d;refine wpAny_List_spliced (cD (h pos U s Y H _ I d) λus s1 ⟨xs,z,a,r,c,q⟩=>⟨by rw[←r.length];exact c,?_⟩);have f:z s1.heap.objs.size=aG:=a.hok.fresh (bQ _);refine⟨.ref s1.heap.objs.size,aI z s1.heap.objs.size (.lst xs),a.laid (t':=s1.toks) (λb u e=>dM _ e) (bQ _) ?_,O,q _ f⟩;exact⟨c,us,0,r,gF _ O⟩
end
abbrev cA:=List V->aD->aP->dL->Prop
abbrev mH:=List eP->aD->aK->dL->aE->aK->Prop
structure mO (P:bT) (w:bN) (K:bI) (mg:aA->Option aE) (base:bE) (A:bX) (outer:List eP) (s:aK) (H:aD):Prop where
 frames:A.frames=some outer
 mod:Mod K mg base
 bs:∀b o,base.get? b=some o->s.heap.get? b=some o/\H b=aG
 bsz:base.objs.size<=s.heap.objs.size
 funs:s.heap.FunFrames base outer
 frf:∀b∈gO outer,H b=aG
 hok:eB P w H s.heap
 bare:AllBare s.gens
def wV(outer:List eP)(P:bT)(w:bN)(H:aD)(s:aK)(Q:aP)(u:aE)(L:aK):Prop:=
 ∃v H',L.os=s.os/\AllBare L.gens/\eC (gO outer) [] H H' s.heap L.heap/\eB P w H' L.heap/\cK v u/\Q v H'
def Af(CX:mH)(outer:List eP)(P:bT)(w:bN)(H:aD)(s:aK)(Q:aP)(E:dL)(r:Result)(L:aK):Prop:=
 match r with
 |.ok (.ret u)=>wV outer P w H s Q u L
 |.ok _=>False
 |.error e=>CX outer H s E e L
structure iP (P:bT) (w:bN) (K:bI) (mg:aA->Option aE) (base:bE) (CX:mH) (k:Nat) (f:aB) (fd:iW) (ps:List aA) (sp:cA):Prop where
 len:∀vs H Q E,sp vs H Q E->vs.length=ps.length
 run:∀(A:bX)(outer:List eP)(s:aK)(H:aD)(args:Args)(us:List aE)(vs:List V)(Q:aP)(E:dL),eQ k A->mO P w K mg base A outer s H->BindsTo s fd args (ps.zip us)->cB vs us->sp vs H Q E ->
  codeAny (aX P w) A (.call (.ref f) args) (Af CX outer P w H s Q E) s
theorem iP.imp{P:bT}{w:bN}{K:bI}{mg:aA->Option aE}{base:bE}{CX:mH}{k:Nat}{f:aB}{fd:iW}{ps:List aA}{sp a:cA}(F:iP P w K mg base CX k f fd ps sp)
 (h:∀vs H Q E,a vs H Q E->sp vs H Q E):iP P w K mg base CX k f fd ps a:=
 ⟨λvs H Q E q=>F.len vs H Q E (h _ _ _ _ q),λA outer s H args us vs Q E b c d e g=>F.run A outer s H args us vs Q E b c d e (h _ _ _ _ g)⟩
theorem mO.make{P:bT}{w:bN}{K:bI}{mg:aA->Option aE}{base:bE}{A:bX}{outer:List eP}{s:aK}{H:aD}(e:mO P w K mg base A outer s H)(C:aB)(us:List aE)(a:List (aA×aE)) :
  mO P w K mg base (A.under (.builtin "type.__call__" ⟨.ref C::us,a⟩)) outer s H:=⟨by first|exact e.frames|(simpa [bX.under,Code.envs,Code.isFrame,pushEnvs] using e.frames),e.mod,e.bs,e.bsz,e.funs,e.frf,e.hok,e.bare⟩
theorem mO.in1{P:bT}{w:bN}{K:bI}{mg:aA->Option aE}{base:bE}{A:bX}{outer:List eP}{s:aK}{H:aD}(e:mO P w K mg base A outer s H) :
  mO P w K mg base A.in1 outer s H:=⟨e.frames,e.mod,e.bs,e.bsz,e.funs,e.frf,e.hok,e.bare⟩
section
variable{X:aZ}{U:List (aB×aY)}{Y:St}{H:aD}{s L:aK}
theorem Inv.env0(I:Inv X U Y H s):mO X.prog X.w X.K X.mg X.base X.A X.stack s H:=
 ⟨I.ok.frames,I.ok.mod,I.bs,fF I.ok.bsz I.sz,I.stack,I.stkFree,I.hok,I.bare⟩
theorem Inv.after(I:Inv X U Y H s)(h:wV X.stack X.prog X.w H s Q u L):gG X U Y Q u L:=by
 obtain⟨v,H',os,bare,a,c,r,q⟩:=h;obtain⟨e,g,d,t,f⟩:=L;obtain rfl:f=s.os:=os;exact⟨v,H',I.call (h':=e) (g':=g) (d':=d) (t':=t) (ch:=[]) a c bare (λb i=>absurd i (by simp)),r,q⟩
end
abbrev EI (sp:cA) (b:List V) (E:dL) (Q:aP):List V->aD->Prop:=λvs z=>sp (vs++b) z Q E
def yK(sp:cA)(b:List V)(E:dL)(t:fU):bG:=λY H Q=>t Y H (EI sp b E Q)
abbrev Ec (sp:cA) (b:List V) (E:dL) (Q:aP) (x:V):List V->aD->Prop:=λvs H2=>sp (x::(vs++b)) H2 Q E
inductive FC(C:aB)(m:aA)(sp:cA)(b:List V)(E:dL)(t:fU)(Y:St)(Q:aP)(x:V)(z:aD):Prop
 |mk:∀a dx fs,x=.ref a->z a=some (.ins C dx fs)->fs.lookup m=aG->t Y z (Ec sp b E Q x)->FC C m sp b E t Y Q x z
def sR(C:aB)(m:aA)(sp:cA)(b:List V)(E:dL)(M:bG)(t:fU):bG:=λY H Q=>M Y H (FC C m sp b E t Y Q)
abbrev Qg (Q:aP) (x:aB):aP:=λv H2=>v=.non/\Q (.ref x) H2
abbrev EH (C:aB) (sp:cA) (b:List V) (E:dL) (Q:aP):List V->aD->Prop:=λvs z=>∀x dx,z x=aG->z dx=aG->dx≠x ->
 sp (.ref x::(vs++b)) (aI (aI z dx (.own x)) x (.ins C dx [])) (Qg Q x) E
def Et(C:aB)(sp:cA)(b:List V)(E:dL)(t:fU):bG:=λY H Q=>t Y H (EH C sp b E Q)
def kj(K:bI)(fd:iW)(ps:List aA)(N:List aE):Prop:=
 ∀(s:aK)(us:List aE),K.In s.heap->(us++N).length=ps.length->BindsTo s fd ⟨us,[]⟩ (ps.zip (us++N))
theorem kj.all{K:bI}{fd:iW}{ps:List aA}(h:∀us:List aE,us.length=ps.length->pS fd ⟨us,[]⟩=pure (ps.zip us)):kj K fd ps []:=λs us _ a=>by
 rw[kG]at a ⊢;exact .of_eq (h us a)
def oj(CX:mH)(X:aZ)(E:dL):Prop:=∀(U:List (aB×aY))(Y:St)(H:aD)(s:aK)(e:aE)(L:aK),Inv X U Y H s->CX X.stack H s E e L->X.xe e L
section
variable{X:aZ}{CX:mH}{k:Nat}{f C:aB}{fd:iW}{ps:List aA}{sp:cA}{b:List V}{N:List aE}{E:dL}{x m:aA}{p pos i:Pos}{e o:bJ}{es:List bJ}{M:bG}{t:fU}
theorem yz(F:iP X.prog X.w X.K X.mg X.base CX k f fd ps sp)(d:eQ k X.A)(g:kj X.K fd ps N)(i:cB b N)(j:oj CX X E)
 (I:Inv X U Y H s)(r:cB vs us)(h:sp (vs++b) H Q E):aU (aX X.prog X.w) X.A (call (.ref f) us) (gG X U Y Q) X.xe s:=by
 have c:cB (vs++b) (us++N):=r.append i;have l:(us++N).length=ps.length:=by rw[←c.length];exact F.len _ _ _ _ h
 refine lK (nl (F.run X.A X.stack s H ⟨us,[]⟩ (us++N) (vs++b) Q E d I.env0 (g s us I.kIn l) c h) λr L a=>?_);cases r with
 |error e=>exact j U Y H s e L I a
 |ok fl=>
  cases fl with
  |ret u=>exact I.after a
  |next=>exact gZ a
  |brk=>exact gZ a
  |cont=>exact gZ a
theorem CW(F:iP X.prog X.w X.K X.mg X.base CX k f fd ps sp)(c:eQ k X.A)(d:jH X x)(hm:X.mg x=some (.ref f))(g:mG X.K (.ref f)=aC)(i:kj X.K fd ps N)(j:cB b N)(l:oj CX X E)
 (m:jf X (e::es) t)(n:(x==("__debug__":aA))=aJ:=by decide)(o:dA (e::es) X.env=(aJ,eval e X.env)::dA es X.env:=by rfl)(u:(backTo pos (dA es X.env)).any (·.1)=aJ:=by rfl) :
  bL X (.Call (.Name x p) (e::es) [] pos) (yK sp b E t):=by
 refine⟨?_⟩;intro U s Y H Q I h;refine pC (qo I d hm ?_ n);refine uf (h₀:=X.base) I.ok.mod.kin g (cD (m pos U s Y H _ I h) λus s1 ⟨vs,z,a,r,q⟩=>⟨a.kIn,?_⟩) o u;exact yz F c i j l a r q
theorem OF(n:bL X o M)(c:kQ X.K C)(hm:qZ X.K C m f)(F:iP X.prog X.w X.K X.mg X.base CX k f fd ps sp)(p:eQ k X.A)(w:kj X.K fd ps N)(y:cB b N)(A:oj CX X E)(B:jf X (e::es) t)
 (D:dA (e::es) X.env=(aJ,eval e X.env)::dA es X.env:=by rfl)(G:(backTo pos (dA es X.env)).any (·.1)=aJ:=by rfl)
 (J:eval (.Call (.Attribute o m i) (e::es) [] pos) X.env=(do
   let d ←eval o X.env
   standAt i.atName
   let (f,first) ←holding [d] (nu d m pl)
   pR pos f first (backTo pos (dA (e::es) X.env)) (lL pos (lI [] X.env))):=by rfl) :
  bL X (.Call (.Attribute o m i) (e::es) [] pos) (sR C m sp b E M t):=by
 refine⟨?_⟩;intro U s Y H Q I h;refine t7 (pl:=pl) (cD (n U s Y H _ I h) λu s1 ⟨x,z,g,L,a,dx,fs,ex,ea,l,q⟩=>?_) J;subst ex;obtain rfl:u=cZ a:=L;refine zC g ea c hm l ?_;refine uf (first:=[.ref a]) (h₀:=X.base) I.ok.mod.kin hm.kp (cD (B pos U s1 Y z _ g q) λus a0 ⟨vs,H2,j,r,T⟩=>⟨j.kIn,?_⟩) D G;exact yz (us:=.ref a::us) (vs:=.ref a::vs) F p w y A j (.cons O r) T
theorem Nv(g:bL X o M)(c:kQ X.K C)(hm:qZ X.K C m f)(F:iP X.prog X.w X.K X.mg X.base CX k f fd ps sp)(j:eQ k X.A)(n:kj X.K fd ps N)(p:cB b N)(r:oj CX X E)
 (t:eval (.Call (.Attribute o m i) [] [] pos) X.env=(do
   let e ←eval o X.env
   standAt i.atName
   let (f,first) ←holding [e] (nu e m pl)
   pR pos f first (backTo pos (dA [] X.env)) (lL pos (lI [] X.env))):=by rfl) :
  bL X (.Call (.Attribute o m i) [] [] pos) (sR C m sp b E M rf):=by
 refine⟨?_⟩;intro U s Y H Q I h;refine t7 (pl:=pl) (cD (g U s Y H _ I h) λu s1 ⟨x,z,d,w,a,dx,fs,ex,ea,l,q⟩=>?_) t;subst ex;obtain rfl:u=cZ a:=w;refine zC d ea c hm l ?_;exact PySem.W.callWith_K0 (first:=[.ref a]) d.kIn hm.kp (yz (us:=[.ref a]) (vs:=[.ref a]) F j n p r d (.cons O .nil) q)
structure sJ (K:bI) (C f:aB):Prop where
 makes:xv K C=aC
 init:ka K (.ref C) "__init__"=some (some (.ref f))
 fn:sr K (.ref f)=aC
 kp:mG K (.ref C)=aC
theorem Nl(M:sJ X.K C f)(F:iP X.prog X.w X.K X.mg X.base CX k f fd ps sp)(i:eQ (k+1) X.A)(j:kj X.K fd ps N)(l:cB b N)
 (m:oj CX X E)(I:Inv X U Y H s)(r:cB vs us)
 (h:∀x dx,H x=aG->H dx=aG->dx≠x->sp (.ref x::(vs++b)) (aI (aI H dx (.own x)) x (.ins C dx [])) (λv H2=>v=.non/\Q (.ref x) H2) E) :
  aU (aX X.prog X.w) X.A (call (.ref C) us) (gG X U Y Q) X.xe s:=by
 have d:=h (s.heap.objs.size+1) s.heap.objs.size (I.hok.fresh (nq _)) (I.hok.fresh (bQ _)) (eF (sf _));have c:=Inv.made (C:=C) I;have g:cB (V.ref (s.heap.objs.size+1)::(vs++b)) (cZ (s.heap.objs.size+1)::(us++N)):=.cons O (r.append l);have n:(cZ (s.heap.objs.size+1)::us++N).length=ps.length:=by
  have e:=g.length;rw[F.len _ _ _ _ d]at e;exact e.symm
 refine lK (NA (f:=f) I.kIn M.makes M.init (beq_iff_eq.mp M.fn) (nl (F.run _ X.stack _ _ ⟨cZ (s.heap.objs.size+1)::us,[]⟩ (cZ (s.heap.objs.size+1)::(us++N)) _ _ E (i.make C us [])
  (c.env0.make C us []) (j _ (cZ (s.heap.objs.size+1)::us) c.kIn n) g d) λr L a=>?_))
 cases r with
 |error e=>exact m U Y _ _ e L c a
 |ok fl=>
  cases fl with
  |ret u=>
   obtain⟨v,H',o,p,ev,q⟩:=c.after a;subst ev;exact⟨p,⟨V.ref (s.heap.objs.size+1),H',o,O,q⟩⟩
  |next=>exact gZ a
  |brk=>exact gZ a
  |cont=>exact gZ a
theorem OG(M:sJ X.K C f)(F:iP X.prog X.w X.K X.mg X.base CX k f fd ps sp)(c:eQ (k+1) X.A)(d:jH X x)(hm:X.mg x=some (.ref C))(g:kj X.K fd ps N)(i:cB b N)(j:oj CX X E)
 (l:jf X (e::es) t)(m:(x==("__debug__":aA))=aJ:=by decide)(n:dA (e::es) X.env=(aJ,eval e X.env)::dA es X.env:=by rfl)(o:(backTo pos (dA es X.env)).any (·.1)=aJ:=by rfl) :
  bL X (.Call (.Name x p) (e::es) [] pos) (Et C sp b E t):=by
 refine⟨?_⟩;intro U s Y H Q I h;refine pC (qo I d hm ?_ m);refine uf (h₀:=X.base) I.ok.mod.kin M.kp (cD (l pos U s Y H _ I h) λus s1 ⟨vs,z,a,r,q⟩=>⟨a.kIn,?_⟩) n o;exact Nl M F c g i j a r q
end
structure sN (X:aZ) (r:List Keyword) (t:fU):Prop where
 run:∀(pos:Pos)(U:List (aB×aY))(s:aK)(Y:St)(H:aD)(Q:List V->aD->Prop),Inv X U Y H s->t Y H Q->aU (aX X.prog X.w) X.A (evalAll ((lL pos (lI r X.env)).map (·.2))) (rT X U Y Q) X.xe s
instance {X:aZ} {r:List Keyword} {t:fU}:CoeFun (sN X r t) λ_=>∀(pos:Pos)(U:List (aB×aY))(s:aK)(Y:St)(H:aD)(Q:List V->aD->Prop),Inv X U Y H s->t Y H Q->aU (aX X.prog X.w) X.A (evalAll ((lL pos (lI r X.env)).map (·.2))) (rT X U Y Q) X.xe s:=⟨sN.run⟩
section
variable{X:aZ}{CX:mH}{k:Nat}{f C:aB}{fd:iW}{ps B:List aA}{sp:cA}{E:dL}{x m:aA}{p pos i a0:Pos}{e o:bJ}{es:List bJ}{r:List Keyword}{te M:bG}{t tk:fU}{nm:Option aA}
theorem PF:sN X [] rf:=⟨λ_ _ _ _ H Q I h=>wpAny_evalAll_nil ⟨[],H,I,.nil,h⟩⟩
theorem OD(a:bL X e te)(b:sN X r t):sN X (⟨nm,e,a0⟩::r) (sS te t):=by
 refine⟨?_⟩;intro pos U s Y H Q I h;show aU _ _ (evalAll ((do let v ←eval e X.env;standAt pos;pure v)::(lL pos (lI r X.env)).map (·.2))) _ _ s;refine wpAny_evalAll_cons (aO (cD (a U s Y H _ I h) λu s1 ⟨x,z,c,d,f⟩=>aO (qL (bH ?_))));exact cD (b pos U s1 Y z _ c f) λus k ⟨xs,H2,g,i,j⟩=>⟨x::xs,H2,g,.cons d i,j⟩
structure UI (K:bI) (fd:iW) (ps B:List aA) (g:List aE->List aE->List aE) (gV:List V->List V->List V):Prop where
 to:∀(s:aK)(us ws:List aE),K.In s.heap->(g us ws).length=ps.length->BindsTo s fd ⟨us,B.zip ws⟩ (ps.zip (g us ws))
 rel:∀{vs:List V} {us:List aE} {zs:List V} {ws:List aE},cB vs us->cB zs ws->cB (gV vs zs) (g us ws)
variable{g:List aE->List aE->List aE}{gV:List V->List V->List V}
end
structure cN (N P:List aA) (sc:jI):Prop where
 kind:sc.kind=.function:=by rfl
 co:sc.isCoroutine=aJ:=by rfl
 gen:sc.isGenerator=aJ:=by rfl
 nd:N.Nodup:=by decide +kernel
 pre:N.take P.length=P:=by rfl
 par:∀x∈P,sc.names.lookup x=some .local\/sc.names.lookup x=some .cell:=by decide +kernel
 nofree:∀y∈sc.names,y.2≠.free:=by decide +kernel
theorem BC{kindOf:aA->Option mB}{x:aA}:∀{a:List (aA×aE)} {m:aA->Option aE},(∀v,(x,v)∉a)->bindL kindOf a m x=m x
 |[],_,_=>rfl
 |(n,v)::r,m,h=>by
  unfold bindL;rw[BC λw b=>h w (eY _ b)];split
  .have:x≠n:=by rintro rfl;exact h v eJ
   simp[this]
  .rfl
theorem BE{kindOf:aA->Option mB}{x:aA}:∀{a:List (aA×aE)} {m:aA->Option aE},(∀v,(x,v)∉a)->bindC kindOf a m x=m x
 |[],_,_=>rfl
 |(n,v)::r,m,h=>by
  unfold bindC;rw[BE λw b=>h w (eY _ b)];split
  .rfl
  .have:x≠n:=by rintro rfl;exact h v eJ
   simp[this]
theorem BD{kindOf:aA->Option mB}{x:aA}{v:aE}:∀{P:List aA} {vs:List aE} {i:Nat} {m:aA->Option aE},P.Nodup->P[i]?=some x->vs[i]?=some v->kindOf x=some .local ->
  bindL kindOf (P.zip vs) m x=some v
 |[],_,_,_,_,h,_,_=>by simp at h
 |_::_,[],_,_,_,_,h,_=>by simp at h
 |p::P,w::vs,0,m,a,h1,h2,b=>by
  simp at h1 h2;subst h1;subst h2;show bindL kindOf ((p,w)::P.zip vs) m p=_;unfold bindL;rw[BC λv c=>(iL.mp a).1 (uA c).1,if_pos b];simp
 |p::P,w::vs,i+1,m,a,h1,h2,b=>by
  show bindL kindOf ((p,w)::P.zip vs) m x=_;unfold bindL;exact BD (i:=i) (iL.mp a).2 (by simpa using h1) (by simpa using h2) b
theorem BF{kindOf:aA->Option mB}{x:aA}{v:aE}:∀{P:List aA} {vs:List aE} {i:Nat} {m:aA->Option aE},P.Nodup->P[i]?=some x->vs[i]?=some v->kindOf x≠some .local ->
  bindC kindOf (P.zip vs) m x=some v
 |[],_,_,_,_,h,_,_=>by simp at h
 |_::_,[],_,_,_,_,h,_=>by simp at h
 |p::P,w::vs,0,m,a,h1,h2,b=>by
  simp at h1 h2;subst h1;subst h2;show bindC kindOf ((p,w)::P.zip vs) m p=_;unfold bindC;rw[BE λv c=>(iL.mp a).1 (uA c).1,if_neg b];simp
 |p::P,w::vs,i+1,m,a,h1,h2,b=>by
  show bindC kindOf ((p,w)::P.zip vs) m x=_;unfold bindC;exact BF (i:=i) (iL.mp a).2 (by simpa using h1) (by simpa using h2) b
noncomputable def start(N:List aA)(vs:List V):St:=vs.map some++uG (N.length-vs.length) aG
noncomputable def iH(CX:mH)(P:bT)(w:bN)(K:bI)(mg:aA->Option aE)(base:bE)(N:List aA)(j:aA)(scope:jI)(f:aB)(cd:aE)(A:bX)(outer:List eP)(s:aK)(H:aD)(E:dL):aZ where
 prog:=P
 w:=w
 K:=K
 mg:=mg
 base:=base
 A:=A.deeper (envOfC j scope s.heap.objs.size f cd)
 N:=N
 s₀:=s
 H₀:=H
 env:=envOfC j scope s.heap.objs.size f cd
 outer:=outer
 stack:=envOfC j scope s.heap.objs.size f cd::outer
 ex:=[]
 calm:=aC
 fn:=λ_=>aC
 pn:=[]
 xe:=λe L=>aU (aX P w) (A.deeper (envOfC j scope s.heap.objs.size f cd)) (leaving (envOfC j scope s.heap.objs.size f cd) e) (λ_ a=>CX outer H s E e a) (λb a=>CX outer H s E b a) L
theorem CA{a:jI}{n:Nat}{x:aA}(h:a.names.lookup x=some .cell):∃c,(cellsFrom n a.names []).lookup x=some c:=by
 have q:=w6 a.names n [] (.inl h);exact Option.isSome_iff_exists.mp q
theorem Bh{CX:mH}{P:bT}{w:bN}{K:bI}{mg:aA->Option aE}{base:bE}{N ps:List aA}{j:aA}{scope:jI}{f:aB}{cd:aE}{A:bX}{outer:List eP}{s s1:aK}{H:aD}{E:dL}{us:List aE}{vs:List V}
 (S:cN N ps scope)(C:A.handled=aG)(d:mO P w K mg base A outer s H)(I:vs.length=ps.length)(r:cB vs us)
 (x:InCallC s s.heap.objs.size (bindL (envOfC j scope s.heap.objs.size f cd).kindOf (ps.zip us) λ_=>aG) (cellsFrom (s.heap.objs.size+1) scope.names []) (bindC (envOfC j scope s.heap.objs.size f cd).kindOf (ps.zip us) λ_=>aG) s1) :
  Inv (iH CX P w K mg base N j scope f cd A outer s H E) [] (start N vs) H s1:=by
 have J:ps.length<=N.length:=by have:=congrArg mI S.pre;rw[dU]at this;omega
 obtain⟨h1,tk,rfl,t⟩:=x.done;have o:∀b:aB,b∉(iH CX P w K mg base N j scope f cd A outer s H E).ex:=λb l=>absurd (show b∈([]:List aB) from l) (by simp);refine⟨⟨d.mod,S.kind,O,O,bQ _,λy l c h1 h2=>?_,λy g=>?_,λy c _ h=>?_,λ_=>C,bX.frames_deeper d.frames,.inr ⟨O,O⟩,λb l=>absurd l (o b),d.bs,d.bsz,λb _ _=>o b,λb l=>absurd l (o b),d.funs,d.frf⟩,
  rfl,d.bare,eC.kept t,⟨_,x.toInCall.ns,λi y v h1 h2 L=>?_⟩,λy c h=>⟨_,x.cell y c h⟩,d.hok.fresh (bQ _),λy c h=>?_,λp m=>absurd (show p∈([]:List (aB×aY)) from m) (by simp),d.hok.kept t,?_⟩
 .exact name_of_addr x.apart (r7 h1) (r7 h2)
 .have g:scope.names.lookup y=some .cell\/scope.names.lookup y=some .free:=g;rcases g with g|g
  .exact CA g
  .exact absurd O (S.nofree _ (r7 g))
 .exact qN (x.above y c (r7 h))
 .have hi:i<vs.length:=by
   unfold start at h2;by_cases hi:i<vs.length
   .exact hi
   .rw[qz (by simpa using hi)]at h2;rw[List.getElem?_replicate]at h2;split at h2<;>cases h2
  have D:vs[i]?=some v:=by
   unfold start at h2;rw[nN (by simpa using hi),dO]at h2;cases e:vs[i]? with
   |none=>rw[e]at h2;cases h2
   |some a=>rw[e]at h2;cases h2;rfl
  obtain⟨u,z,G⟩:=r.get D;have m:ps[i]?=some y:=by
   rw[←S.pre,mC VF];exact h1
  have B:ps.Nodup:=by rw[←S.pre];exact S.nd.sublist (ur _ _)
  refine⟨u,G,?_⟩;rcases S.par y (dN m) with k|k
  .exact .inl ⟨k,BD B m z k⟩
  .obtain⟨c,e⟩:=CA (n:=s.heap.objs.size+1) k;refine .inr ⟨.inl k,c,e,?_⟩;have q:=x.cell y c e;rw[BF B m z (by show scope.names.lookup y≠_;rw[k];decide)]at q;exact q
 .exact d.hok.fresh (qN (x.above y c (r7 h)))
 .unfold start;show _=N.length;rw[eW,aS,List.length_replicate];omega
theorem yP{CX:mH}{P:bT}{w:bN}{K:bI}{mg:aA->Option aE}{base:bE}{k:Nat}{f:aB}{name j:aA}{params:oK}{body:List bS}{scope:jI}{l kV doc pm c m C:aE}{p D:Option aB}
 {G:Array (Option aE)}{N ps:List aA}{sp:cA}(lk:K.lookup f=some ⟨C,D,.func (l9 name j params body scope l kV doc pm p c m),G⟩)(J:qG K c j=aC)(S:cN N ps scope)
 (len:∀vs H Q E,sp vs H Q E->vs.length=ps.length)
 (M:∀(A:bX)(outer:List eP)(s:aK)(H:aD)(vs:List V)(Q:aP)(E:dL),eQ k (A.deeper (envOfC j scope s.heap.objs.size f c))->sp vs H Q E ->
   ∃t,iQ (iH CX P w K mg base N j scope f c A outer s H E) body t/\t {nx:=λ_ H'=>Q .non H',rt:=Q} (start N vs) H) :
  iP P w K mg base CX (k+1) f (l9 name j params body scope l kV doc pm p c m) ps sp:=by
 refine⟨len,λA outer s H args us vs Q E h g T r z=>?_⟩;have U:=len _ _ _ _ z;have KX:K.In s.heap:=g.mod.kin.keeps λb o e=>(g.bs b o e).1;have Y:s.heap.NoLimit:=g.mod.nolimit.keeps λb o e=>(g.bs b o e).1;have a0:∀y∈ps.zip us,scope.names.lookup y.1=some .local\/(scope.names.lookup y.1=some .cell/\((cellsFrom (s.heap.objs.size+1) scope.names []).lookup y.1).isSome=aC):=fun⟨n,v⟩ a1=>by
  rcases S.par n (uA a1).1 with q|q
  .exact .inl q
  .exact .inr ⟨q,w6 _ _ _ (.inl q)⟩
 refine codeAny_call_function h.depth (KX _ _ lk) O S.co S.gen O (PySem.W.codeRec_of KX J) (T _ _ _ _ ?_);refine wpAny_newFunctionEnv_cells S.kind a0 λenv a2 s1 x=>?_;subst a2;refine⟨Y.keeps x.toInCall.keep,codeAny_func ?_⟩;obtain⟨t,a3,a4⟩:=M A outer s H vs Q E (h.deeper _) z;have I:Inv (iH CX P w K mg base N j scope f c A outer s H E) [] (start N vs) H s1:=Bh S h.hd g U r x;refine fL (a3 [] s1 (start N vs) H _ I a4) (λfl L d=>?_) λe L d=>d;have B:∀{σ':St} {H':aD} {v:V} {u:aE},Inv (iH CX P w K mg base N j scope f c A outer s H E) [] σ' H' L->cK v u->Q v H'->wV outer P w H s Q u L:=
  λ{σ' H' v u} a i q=>⟨v,H',a.os,a.bare,a.base,a.hok,i,q⟩
 cases fl with
 |ret u=>
  obtain⟨v,σ',H',a,i,q⟩:=d;exact B a i q
 |next=>
  obtain⟨σ',H',a,q⟩:=d;exact B (v:=V.non) (u:=iZ) a O q
 |brk=>
  obtain⟨_,_,_,q⟩:=d;exact gZ q
 |cont=>
  obtain⟨_,_,_,q⟩:=d;exact gZ q
section
variable{X:aZ}{x:aA}{p pos:Pos}{e:bJ}{es:List bJ}{t:fU}{id T:String}{r:List V->aD->aP->Prop}
abbrev SF (r:List V->aD->aP->Prop) (Q:aP):List V->aD->Prop:=λvs z=>r vs z Q
def wl(r:List V->aD->aP->Prop)(t:fU):bG:=λY H Q=>t Y H (SF r Q)
theorem dB(a:iY X (.builtin id) r)(b:jH X x)(hm:X.mg x=aG)(c:jE x=some (.builtin id))(d:jf X (e::es) t)(f:x≠"__name__":=by decide)(g:(x==("__debug__":aA))=aJ:=by decide)
 (i:dA (e::es) X.env=(aJ,eval e X.env)::dA es X.env:=by rfl)(j:(backTo pos (dA es X.env)).any (·.1)=aJ:=by rfl):bL X (.Call (.Name x p) (e::es) [] pos) (wl r t):=by
 refine⟨?_⟩;intro U s Y H Q I h;refine pC (pa I b hm c ?_ f g);exact PyProof.Rows.callWith_builtin1 (cD (d pos U s Y H _ I h) λus s1 ⟨vs,z,k,l,m⟩=>a U s1 Y z vs us Q k l m) i j
theorem hU(a:iY X (.type T) r)(b:jH X x)(hm:X.mg x=aG)(c:jE x=some (.type T))(d:jf X (e::es) t)(f:x≠"__name__":=by decide)(g:(x==("__debug__":aA))=aJ:=by decide)
 (i:dA (e::es) X.env=(aJ,eval e X.env)::dA es X.env:=by rfl)(j:(backTo pos (dA es X.env)).any (·.1)=aJ:=by rfl):bL X (.Call (.Name x p) (e::es) [] pos) (wl r t):=by
 refine⟨?_⟩;intro U s Y H Q I h;refine pC (pa I b hm c ?_ f g);exact rV (cD (d pos U s Y H _ I h) λus s1 ⟨vs,z,k,l,m⟩=>a U s1 Y z vs us Q k l m) i j
end
section
variable{f:Type}[DecidableEq f]
noncomputable def fE(J:List (f×V))(k:f):Option V:=(J.find? λa=>decide (a.1=k)).map (·.2)
noncomputable def jM(J:List (f×V))(k:f)(v:V):List (f×V):=
 if (J.any λa=>decide (a.1=k))=aC then J.map (λa=>if a.1=k then(a.1,v) else a) else J++[(k,v)]
theorem rB{p:f×V}{r:List (f×V)}{k:f}(e:p.1=k):fE (p::r) k=some p.2:=by simp[fE,kN,e]
theorem rC{p:f×V}{r:List (f×V)}{k:f}(e:¬p.1=k):fE (p::r) k=fE r k:=by simp[fE,kN,e]
theorem tA(k:f):∀J:List (f×V),(J.any λa=>decide (a.1=k))=(fE J k).isSome
 |[]=>rfl
 |p::r=>by
  rw[oD];by_cases e:p.1=k
  .simp only[rB e,decide_eq_true e,Bool.true_or,Option.isSome_some]
  .rw[rC e,decide_eq_false e,Bool.false_or];exact tA k r
theorem IZ(J:List (f×V))(k:f)(v:V):(jM J k v).length<=J.length+1:=by
 unfold jM;split
 .rw[aS];omega
 .rw[eW,hJ,uC];omega
theorem Cf{J:List (f×V)}{k:f}(v:V)(h:fE J k=aG):jM J k v=J++[(k,v)]:=by
 unfold jM;rw[tA,h];exact if_neg VD
theorem kr.isSome_eq(r:kr o u):o.isSome=u.isSome:=by
 cases o with
 |none=>cases u with
  |none=>rfl
  |some _=>exact(show False from r).elim
 |some _=>cases u with
  |none=>exact(show False from r).elim
  |some _=>rfl
theorem kr.getD(r:kr o u)(a:cK d d'):cK (o.getD d) (u.getD d'):=by
 cases o with
 |none=>cases u with
  |none=>exact a
  |some _=>exact(show False from r).elim
 |some _=>cases u with
  |none=>exact(show False from r).elim
  |some _=>exact r
theorem fJ.val{J:List (f×V)}{vs:List (f×aE)}(r:fJ J vs)(k:f):kr (fE J k) (valueAt vs k):=by
 unfold fJ at r
 induction r with
 |nil=>exact mK
 |@cons p q ps a h t d=>
  obtain⟨h1,h2⟩:=h;by_cases e:p.1=k
  .have c:q.1=k:=h1.symm.trans e;have b:valueAt (q::a) k=some q.2:=by simp[valueAt,kN,c]
   rw[rB e,b];exact h2
  .have c:¬q.1=k:=λg=>e (h1.trans g);have b:valueAt (q::a) k=valueAt a k:=by simp[valueAt,kN,c]
   rw[rC e,b];exact d
theorem fJ.any(r:fJ J vs)(k:f):(J.any λa=>decide (a.1=k))=vs.any λa=>decide (a.1=k):=by
 unfold fJ at r
 induction r with
 |nil=>rfl
 |cons h t b=>rw[oD,oD,b,h.1]
theorem fJ.repl(r:fJ J vs)(k:f)(b:cK y u) :
  fJ (J.map λa=>if a.1=k then(a.1,y) else a) (vs.map λa=>if a.1=k then(a.1,u) else a):=by
 unfold fJ at r ⊢
 induction r with
 |nil=>exact .nil
 |@cons p q ps g h t c=>
  rw[dW,dW];refine .cons ?_ c;obtain⟨h1,h2⟩:=h;by_cases e:p.1=k
  .rw[if_pos e,if_pos (h1.symm.trans e)];exact⟨h1,b⟩
  .rw[if_neg e,if_neg (λd=>e (h1.trans d))];exact⟨h1,h2⟩
theorem fJ.put(r:fJ J vs)(k:f)(a:cK y u):fJ (jM J k y) (stored vs k u):=by
 unfold jM stored;rw[r.any k];by_cases e:(vs.any λb=>decide (b.1=k))=aC
 .rw[if_pos e,if_pos e];exact r.repl k a
 .rw[if_neg e,if_neg e];exact qP r ⟨O,a⟩
theorem fJ.keys{J:List (f×V)}{vs:List (f×aE)}(r:fJ J vs):J.map (·.1)=vs.map (·.1):=by
 unfold fJ at r
 induction r with
 |nil=>rfl
 |cons h t a=>rw[dW,dW,a,h.1]
theorem fJ.length(r:fJ J vs):J.length=vs.length:=oC r
end
theorem rc(r:cK (kV k) u):(dZ P w).is k u=aC:=by
 cases k with
 |inl i=>obtain⟨t,e⟩:=(show ∃t,u=pO i t from r);subst e;exact KW P w i t
 |inr x=>obtain⟨t,e⟩:=(show ∃t,u=nW x t from r);subst e;exact KV P w x t
theorem Bg:∀{B:List aW} {us:List aE},cB (B.map kV) us->ItemsAre (dZ P w) B us
 |[],_,r=>by rw[lF]at r;cases r;exact .nil
 |k::B,_,r=>by
  rw[dW]at r;cases r with
  |cons h t=>exact .cons (rc h) (Bg t)
abbrev KT (H:aD):List (List aW×V)->List (List aW×aB×aE)->Prop:=Paired λp q=>p.1=q.1/\H q.2.1=some (.tup (p.1.map kV))/\cK p.2 q.2.2
theorem KT.val{H:aD}{J:List (List aW×V)}{xs:List (List aW×aB×aE)}(r:KT H J xs)(k:List aW):kr (fE J k) ((atKey xs k).map (·.2)):=by
 induction r with
 |nil=>exact mK
 |@cons p q ps a h t d=>
  obtain⟨h1,_,h2⟩:=h;by_cases e:p.1=k
  .have c:q.1=k:=h1.symm.trans e;have b:atKey (q::a) k=some q.2:=by simp[atKey,kN,c]
   rw[rB e,b];exact h2
  .have c:¬q.1=k:=λf=>e (h1.trans f);have b:atKey (q::a) k=atKey a k:=by simp[atKey,kN,c]
   rw[rC e,b];exact d
theorem KT.repl(r:KT H J xs)(k:List aW)(b:cK y u) :
  KT H (J.map λa=>if a.1=k then(a.1,y) else a) (xs.map (putAt k u)):=by
 induction r with
 |nil=>exact .nil
 |@cons p q ps g h t c=>
  rw[dW,dW];refine .cons ?_ c;obtain⟨h1,h2,d⟩:=h;unfold putAt;by_cases e:p.1=k
  .rw[if_pos e,if_pos (h1.symm.trans e)];exact⟨h1,h2,b⟩
  .rw[if_neg e,if_neg (λf=>e (h1.trans f))];exact⟨h1,h2,d⟩
theorem KT.put(r:KT H J xs)(k:List aW)(c:H b=some (.tup (k.map kV)))(a:cK y u) :
  KT H (jM J k y) (storedH xs k b u):=by
 have e:(J.any λd=>decide (d.1=k))=(atKey xs k).isSome:=by
  rw[tA,(r.val k).isSome_eq,xn]
 unfold jM storedH;rw[e];by_cases q:(atKey xs k).isSome=aC
 .rw[if_pos q,if_pos q];exact r.repl k a
 .rw[if_neg q,if_neg q];exact qP r ⟨O,c,a⟩
theorem KT.keeps(r:KT H J xs)(c:∀b ys,H b=some (.tup ys)->H' b=some (.tup ys)):KT H' J xs:=
 Paired.mapP r λ_ _ a=>⟨a.1,c _ _ a.2.1,a.2.2⟩
section
variable{P:bT}{w:bN}{H:aD}{h:bE}{a:aB}
theorem ED(b:eB P w H h)(e:fB H a u):dR P w H h a u:=e.ok b
theorem pr(b:eB P w H h)(e:fB H a (.dK J)):J.length<=dH/\(a==mL)=aJ/\∃vs,fJ J vs/\h.DictOf (dZ P w) a vs:=
 show dR P w H h a (.dK J) from ED b e
theorem EK(b:eB P w H h)(e:H a=some (.dK J)):J.length<=dH/\(a==mL)=aJ/\∃vs,fJ J vs/\h.DictOf (dZ P w) a vs:=pr b (.inl e)
theorem qs(b:eB P w H h)(e:H a=some (.tup (B.map kV))):(kH (dZ P w)).is h B a:=by
 obtain⟨_,c,r,o,h1,h2,n,d,_⟩:=(show dR P w H h a (.tup (B.map kV)) from b a _ e)
 exact⟨o,c.toArray,n,h1,h2,d,by simpa using Bg r⟩
theorem p0(c:eB P w H h)(e:fB H a (.dT J)):J.length<=dH/\(a==mL)=aJ /\
  ∃xs,KT H J xs/\h.DictOfH (kH (dZ P w)) a xs:=by
 obtain⟨f,y,xs,r,o,es,ep,h1,h2,g,i,j⟩:=(show dR P w H h a (.dT J) from ED c e)
 refine⟨f,y,xs,r,o,es,ep,h1,h2,g,i,λx b=>?_,j⟩;have all:∀{l:List (List aW×V)} {m:List (List aW×aB×aE)},KT H l m->∀x∈m,(kH (dZ P w)).is h x.1 x.2.1:=by
  intro l m q
  induction q with
  |nil=>intro x b;exact nomatch b
  |@cons p q ps n d t k=>
   intro x b;rcases eM.mp b with e|b
   .subst e;exact qs c (by rw[←d.1];exact d.2.1)
   .exact k x b
 exact all r x b
theorem Ro(b:eB P w H h)(e:H a=some (.dT J)):J.length<=dH/\(a==mL)=aJ /\
  ∃xs,KT H J xs/\h.DictOfH (kH (dZ P w)) a xs:=p0 b (.inl e)
end
def kA(H:aD)(a:aB)(y:V)(r:Option V):Prop:=
 (∃J k,fB H a (.dK J)/\y=kV k/\r=fE J k)\/∃J k b,fB H a (.dT J)/\y=.ref b/\H b=some (.tup (k.map kV))/\r=fE J k
def p6(H:aD)(a:aB)(y v:V)(H':aD):Prop:=
 (∃J k,H a=some (.dK J)/\y=kV k/\J.length<dH/\H'=aI H a (.dK (jM J k v))) \/
 ∃J k b,H a=some (.dT J)/\y=.ref b/\H b=some (.tup (k.map kV))/\J.length<dH/\H'=aI H a (.dT (jM J k v))
theorem kA.k{H:aD}{a:aB}{J:List (aW×V)}{k:aW}(e:H a=some (.dK J)):kA H a (kV k) (fE J k):=.inl ⟨J,k,.inl e,O,O⟩
theorem p6.k{H:aD}{a:aB}{J:List (aW×V)}{k:aW}{v:V}(e:H a=some (.dK J))(b:J.length<dH):p6 H a (kV k) v (aI H a (.dK (jM J k v))):=.inl ⟨J,k,e,O,b,O⟩
section
variable{X:aZ}{U:List (aB×aY)}{Y:St}{H:aD}{s:aK}{a:aB}{y v:V}{u r:aE}{o:Option V}{A:bX}{E:aE->aK->Prop}
theorem Inv.big(I:Inv X U Y H s):mL<s.heap.objs.size:=by
 have h:lH<s.heap.objs.size:=(I.mod.glob.keeps I.bk).lt;exact qM VD h
theorem Bs(n:A.units+1<cLine)(I:Inv X U Y H s)(g:kA H a y (some v))(m:cK y u)(h:∀c L,Inv X U Y H L->cK v c->Q c L) :
  aU (aX X.prog X.w) A (getItem (.ref a) u) Q E s:=by
 rcases g with ⟨J,k,e,d,l⟩|⟨J,k,b,e,d,q,l⟩
 .subst d;obtain⟨r,t,vs,f,dd⟩:=pr I.hok e;obtain⟨c,i,j⟩:=kr.some_of (v:=v) (o:=valueAt vs k) (by rw[l];exact f.val k);exact wpAny_getItem_of (rc m) dd.mapOf i (h c _ (I.tok _) j)
 .subst d;cases(show u=cZ b from m);obtain⟨r,t,xs,f,dd⟩:=p0 I.hok e;obtain⟨c,i,j⟩:=kr.some_of (v:=v) (o:=(atKey xs k).map (·.2)) (by rw[l];exact f.val k);obtain⟨p,w,x⟩:=kD.mp i;refine wpAny_getItem_heap (qD n) (qs I.hok q) dd w ?_;rw[x];exact h c _ (I.tok _) j
theorem Sj(j:A.units+1<cLine)(I:Inv X U Y H s)(g:kA H a y o)(i:cK y u)(h:∀L,Inv X U Y H L->Q (.bool o.isSome) L) :
  aU (aX X.prog X.w) A (iO .In u (.ref a)) Q E s:=by
 rcases g with ⟨J,k,e,c,l⟩|⟨J,k,b,e,c,m,l⟩
 .subst c;obtain⟨n,d,vs,f,dd⟩:=pr I.hok e;refine wpAny_in_of (rc i) d dd.mapOf ?_;rw[←(f.val k).isSome_eq,←l];exact h _ (I.tok _)
 .subst c;cases(show u=cZ b from i);obtain⟨n,d,xs,f,dd⟩:=p0 I.hok e;refine wpAny_in_heap (qD j) (qs I.hok m) d dd ?_;have q:=(f.val k).isSome_eq;rw[xn]at q;rw[←q,←l];exact h _ (I.tok _)
theorem Pj(j:A.units+1<cLine)(I:Inv X U Y H s)(g:kA H a y o)(i:cK y u)(h:∀L,Inv X U Y H L->Q (.bool (!o.isSome)) L) :
  aU (aX X.prog X.w) A (iO .NotIn u (.ref a)) Q E s:=by
 rcases g with ⟨J,k,e,c,l⟩|⟨J,k,b,e,c,m,l⟩
 .subst c;obtain⟨n,d,vs,f,dd⟩:=pr I.hok e;refine wpAny_notIn_of (rc i) d dd.mapOf ?_;rw[←(f.val k).isSome_eq,←l];exact h _ (I.tok _)
 .subst c;cases(show u=cZ b from i);obtain⟨n,d,xs,f,dd⟩:=p0 I.hok e;refine wpAny_notIn_heap (qD j) (qs I.hok m) d dd ?_;have q:=(f.val k).isSome_eq;rw[xn]at q;rw[←q,←l];exact h _ (I.tok _)
theorem Ds(I:Inv X U Y H s)(d:q0 (H a))(f:oF a s.heap h')(g:∃q,h'.get? a=some q)(new:dR X.prog X.w (aI H a c) h' a c) :
  Inv X U Y (aI H a c) {s with heap:=h',toks:=t'}:=
 I.write (x:=a) (e:=a) d VG (λb q h i=>(f.2 b h).trans i) g new
theorem Qs(b:J.length<=dH)(c:(a==mL)=aJ)(d:fJ J vs)(dd:h'.DictOf (dZ P w) a vs) :
  dR P w H' h' a (.dK J):=⟨b,c,vs,d,dd⟩
theorem Br(D:A.units+1<cLine)(I:Inv X U Y H s)(g:p6 H a y v H')(x:cK y u)(z:cK v r)(h:∀L,Inv X U Y H' L->Q () L) :
  aU (aX X.prog X.w) A (setItem (.ref a) u r) Q E s:=by
 rcases g with ⟨J,k,e,m,l,n⟩|⟨J,k,b,e,m,B,l,n⟩
 .subst m n;obtain⟨d,o,vs,f,dd⟩:=EK I.hok e;have p:vs.length<=dH:=by rw[←f.length];exact d
  have t:(jM J k v).length<=dH:=by have:=IZ J k v;omega
  refine wpAny_setItem_pairs (hsz:=p) (rc x) dd λh' i w=>h _ ?_;have G:∃q,h'.get? a=some q:=let ⟨q,_,_,j,_⟩:=i;⟨q,j⟩;exact Ds I (by rw[e];exact mK) w G (Qs t o (f.put k z) i)
 .subst m n;cases(show u=cZ b from x);obtain⟨d,o,xs,f,dd⟩:=Ro I.hok e;have p:xs.length<=dH:=by rw[←oC f];exact d
  have t:(jM J k v).length<=dH:=by have:=IZ J k v;omega
  refine wpAny_setItem_heap (hsz:=p) (qD D) (qs I.hok B) dd λh' i w=>h _ ?_;obtain⟨q,es,ep,j,h2,M,N,_,T⟩:=i;refine Ds I (by rw[e];exact mK) w ⟨q,j⟩ ⟨t,o,_,(f.put k B z).keeps λc ys C=>?_,q,es,ep,j,h2,M,N,T⟩;rw[bD (q9 C e (λd=>nomatch d))];exact C
end
section
variable{X:aZ}{U:List (aB×aY)}{Y:St}{H:aD}{s:aK}{a:aB}{J:List (aW×V)}{k:aW}{u:aE}{A:bX}{E:aE->aK->Prop}
theorem Rq(I:Inv X U Y H s)(e:fB H a (.dK J))(h:∀t L,Inv X U Y H L->Q (.int J.length t) L):aU (aX X.prog X.w) A (call (.builtin "len") [.ref a]) Q E s:=by
 obtain⟨c,d,vs,b,dd⟩:=pr I.hok e;refine call_len_dict d dd (by rw[←b.length];rw[kP]at c;omega) ?_;rw[←b.length];exact h _ _ (I.tok _)
end
def Fe(i:bJ):Prop:=∀a b,uU i aJ a b=operate [a,b] (getItem a b)
theorem Oj{prog:bT}{w:bN}{A:bX}{E:aE->aK->Prop}{s:aK}{env:eP}{value slice:bJ}{pos:Pos}{T id:String}{Q:aE->aK->Prop}
 (g:oH (.type T) "__getitem__"=pure (some (.builtin id)))(j:Fe slice)
 (h:aU (aX prog w) A (eval value env) (λo d=>aU (aX prog w) A (eval slice env) (λi a=>a.TypeIs o T/\aU (aX prog w) A (getItem o i) Q E a) E d) E s) :
  aU (aX prog w) A (eval (.Subscript value slice pos) env) Q E s:=by
 refine Subscript_ (fL h (λo d h₁=>fL h₁ (λi a b=>?_) λ_ _ x=>x) λ_ _ x=>x);obtain⟨e,b⟩:=b;unfold subscriptTail;refine aO ?_;rw[getitemInPython_of_ne e.not_modules];refine aO (uK e g ?_);have c:aU (aX prog w) A (uU slice aJ o i) (λr f=>aU (aX prog w) A (letTemporaryGo value o r>>=λ_=>pure r) Q E f) E a:=by
  rw[j o i];exact wpAny_operating (fL b (λr f k=>aO (wpAny_letTemporaryGo (bH k))) λ_ _ x=>x)
 first
  |exact bH (aO c)
  |exact aO (bH (aO c))
  |exact aO c
theorem La(I:Inv X U Y H s)(g:kA H a y o):s.TypeIs (.ref a) "dict":=by
 rcases g with ⟨J,k,e,_,_⟩|⟨J,k,b,e,_,_,_⟩
 .obtain⟨_,_,vs,_,dd⟩:=pr I.hok e;exact dd.typeIs
 .obtain⟨_,_,xs,_,dd⟩:=p0 I.hok e;exact dd.typeIs
inductive Fx(Q:aP)(x y:V)(H2:aD):Prop
 |mk:∀a v,x=.ref a->kA H2 a y (some v)->Q v H2->Fx Q x y H2
abbrev Ra (ty:bG) (Y:St) (Q:aP):aP:=λx z=>ty Y z (Fx Q x)
def QH(p ty:bG):bG:=λY H Q=>p Y H (Ra ty Y Q)
inductive Fy(Q:aP)(y x:V)(H2:aD):Prop
 |mk:∀a o,x=.ref a->kA H2 a y o->Q (.bl o.isSome) H2->Fy Q y x H2
abbrev RT (p:bG) (Y:St) (Q:aP):aP:=λy z=>p Y z (Fy Q y)
def Rz(ty p:bG):bG:=λY H Q=>ty Y H (RT p Y Q)
inductive Fz(Q:aP)(y x:V)(H2:aD):Prop
 |mk:∀a o,x=.ref a->kA H2 a y o->Q (.bl (!o.isSome)) H2->Fz Q y x H2
abbrev QZ (p:bG) (Y:St) (Q:aP):aP:=λy z=>p Y z (Fz Q y)
def Oi(ty p:bG):bG:=λY H Q=>ty Y H (QZ p Y Q)
inductive FM(Y:St)(N:St->aD->Prop)(v x y:V)(H3:aD):Prop
 |mk:∀a H4,x=.ref a->p6 H3 a y v H4->N Y H4->FM Y N v x y H3
abbrev OV (ty:bG) (Y:St) (N:St->aD->Prop) (v:V):aP:=λx H2=>ty Y H2 (FM Y N v x)
abbrev PW (p ty:bG) (Y:St) (N:St->aD->Prop):aP:=λv z=>p Y z (OV ty Y N v)
def QK(p ty tv:bG):eR:=λD Y H=>tv Y H (PW p ty Y D.nx)
def QL(p ty tv:bG)(c:V->V->aD->aP->Prop):eR:=λD Y H=>p Y H λx z=>ty Y z λy H2=>∃a v,x=.ref a/\kA H2 a y (some v) /\
 tv Y H2 λd e=>c v d e λf g=>∃b,p6 g a y f b/\D.nx Y b
section
variable{X:aZ}{o i e value:bJ}{pos t C:Pos}{p ty tv:bG}
theorem j6(c:X.A.units+1<cLine)(d:bL X o p)(hi:bL X i ty)(e:Fe i):bL X (.Subscript o i pos) (QH p ty):=by
 refine⟨?_⟩;intro U s Y H Q I h;refine Oj PySem.F.slot_dict_getitem.lookup e (cD (d U s Y H _ I h) λu s1 ⟨x,z,f,j,k⟩=>cD (hi U s1 Y z _ f k) λr t ⟨y,H2,b,l,a,v,ex,g,m⟩=>?_);subst ex;obtain rfl:u=cZ a:=j;exact⟨La b g,Bs c b g l λw A n q=>⟨v,H2,n,q,m⟩⟩
theorem DV(b:X.A.units+1<cLine)(hi:bL X i ty)(c:bL X o p):sM X .In i o (Rz ty p):=by
 refine⟨?_⟩;intro U s Y H Q I h;refine cD (hi U s Y H _ I h) λq s1 ⟨y,z,d,e,f⟩=>cD (c U s1 Y z _ d f) λu r ⟨x,H2,j,k,a,l,ex,g,m⟩=>?_;subst ex;obtain rfl:u=cZ a:=k;exact Sj b j g e λt n=>⟨.bl l.isSome,H2,n,O,m⟩
theorem AX(b:X.A.units+1<cLine)(hi:bL X i ty)(c:bL X o p):sM X .NotIn i o (Oi ty p):=by
 refine⟨?_⟩;intro U s Y H Q I h;refine cD (hi U s Y H _ I h) λq s1 ⟨y,z,d,e,f⟩=>cD (c U s1 Y z _ d f) λu r ⟨x,H2,j,k,a,l,ex,g,m⟩=>?_;subst ex;obtain rfl:u=cZ a:=k;exact Pj b j g e λt n=>⟨.bl (!l.isSome),H2,n,O,m⟩
theorem ye(b:X.A.units+1<cLine)(c:bL X o p)(hi:bL X i ty)(d:bL X value tv)(e:pP value (some (.Subscript o i t)) pos.line X.env=pure aJ) :
  jY X (.Assign [.Subscript o i t] value pos) (QK p ty tv):=by
 refine⟨?_⟩;intro U s Y H D I h;refine wpAny_Assign_Subscript (cD (d U s Y H _ I h) λr s1 ⟨v,z,f,j,k⟩=>cD (c U s1 Y z _ f k) λu l ⟨x,H2,m,n,q⟩=>cD (hi U l Y H2 _ m q) λG J ⟨y,L,w,A,a,B,ex,g,C⟩=>?_) e;subst ex;obtain rfl:u=cZ a:=n;exact Br b w g A j λM E=>⟨Y,B,E,C⟩
theorem OB(e:X.A.units+1<cLine)(j:bL X o p)(hi:bL X i ty)(k:bL X value tv)(l:Ff X op d)
 (m:∀c b new,augStore i c b new=(do holding [new,c,b] (setItem c b new);release [new,c,b] [];pure .next)):jY X (.AugAssign (.Subscript o i C) op value pos) (QL p ty tv d):=by
 refine⟨?_⟩;intro U s Y H D I h;refine wpAny_AugAssign_SubscriptAny (cD (j U s Y H _ I h) λu s1 ⟨x,z,n,q,r⟩=>cD (hi U s1 Y z _ n r) λb a7 ⟨y,H2,t,f,a,v,ex,g,w⟩=>?_) m;subst ex;obtain rfl:u=cZ a:=q;refine Bs e t g f λA B E G=>cD (k U B Y H2 _ E w) λJ L ⟨M,N,Q,T,a0⟩=>cD (l U L Y N v M A J _ Q G T a0) λa8 a9 ⟨z,aa,a1,a2,a3,a4,a5⟩=>?_;exact Br e a1 a4 f a2 λac a6=>⟨Y,a3,a6,a5⟩
end
theorem NS(h:bE)(a:mL<h.objs.size):dR P w H (h.push {cls:=.type "dict",data:=.dict #[]}) h.objs.size (.dK []):=
 ⟨jo _,beq_eq_false_iff_ne.mpr (Ne.symm (eF a)),[],.nil,bE.DictOf.new h⟩
def Pw:bG:=λ_ H Q=>∀p,H p=aG->Q (.ref p) (aI H p (.dK []))
section
variable{X:aZ}{pos:Pos}
theorem Cj:bL X (.Dict [] [] pos) Pw:=⟨λU s Y H Q I h=>
 wpAny_Dict_empty ⟨.ref s.heap.objs.size,_,I.laid (a:=s.heap.objs.size) (o:=.dK []) (t':=s.toks) (λ_ _ q=>dM _ q) (bQ _) (NS s.heap I.big),O,h _ (I.hok.fresh (bQ _))⟩⟩
end
def yr:List (bG×bG)->St->aD->(List (V×V)->aD->Prop)->Prop
 |[],_,H,Q=>Q [] H
 |(tk,tv)::r,Y,H,Q=>tk Y H λx z=>tv Y z λy H2=>yr r Y H2 λps a=>Q ((x,y)::ps) a
abbrev Al:List (V×V)->List (aE×aE)->Prop:=Paired λp q=>cK p.1 q.1/\cK p.2 q.2
structure Aj (X:aZ) (pos:Pos) (keys:List (Option bJ)) (values:List bJ) (trs:List (bG×bG)):Prop where
 run:∀(U:List (aB×aY))(s:aK)(Y:St)(H:aD)(Q:List (V×V)->aD->Prop),Inv X U Y H s->yr trs Y H Q ->
  aU (aX X.prog X.w) X.A (evalPairs (pairTrees keys values X.env pos)) (λvs L=>∃ps H',Inv X U Y H' L/\Al ps vs/\Q ps H') X.xe s
instance {X:aZ} {pos:Pos} {keys:List (Option bJ)} {a:List bJ} {b:List (bG×bG)}:CoeFun (Aj X pos keys a b) λ_=>∀(U:List (aB×aY))(s:aK)(Y:St)(H:aD)(Q:List (V×V)->aD->Prop),Inv X U Y H s->yr b Y H Q ->
  aU (aX X.prog X.w) X.A (evalPairs (pairTrees keys a X.env pos)) (λvs L=>∃ps H',Inv X U Y H' L/\Al ps vs/\Q ps H') X.xe s:=⟨Aj.run⟩
structure M1 (X:aZ) (o:bJ) (m:aA) (i:Pos) (e:bJ) (c:Pos):Prop where
 base:pJ o m X.env (eval o X.env)=eval o X.env
 few:((backTo c (dA [e] X.env)).all (λx=>!x.1)&&(lL c (lI [] X.env)).all (λx=>x.1.isSome)
  && decide (([e]:List bJ).length+([]:List Keyword).length+(if ([]:List Keyword).isEmpty then 0 else 1)<30))=aC
 line:(i.endLine==c.line)=aC
 trees:backTo c (dA [e] X.env)=[(aJ,eval e X.env)]
structure Jq (X:aZ) (o:bJ) (m:aA) (i:Pos) (e f:bJ) (c:Pos):Prop where
 base:pJ o m X.env (eval o X.env)=eval o X.env
 few:((backTo c (dA [e,f] X.env)).all (λx=>!x.1)&&(lL c (lI [] X.env)).all (λx=>x.1.isSome)
  && decide (([e,f]:List bJ).length+([]:List Keyword).length+(if ([]:List Keyword).isEmpty then 0 else 1)<30))=aC
 line:(i.endLine==c.line)=aC
 trees:backTo c (dA [e,f] X.env)=[(aJ,eval e X.env),(aJ,eval f X.env)]
def Ah(H:aD)(a:aB):Prop:=(∃J,fB H a (.dK J))\/∃J,fB H a (.dT J)
theorem Qk(I:Inv X U Y H s)(d:Ah H a) :
  s.TypeIs (.ref a) "dict"/\(∀b,cZ a=.ref b->∃c,s.heap.get? b=some c/\c.dict=aG)/\(a==mL)=aJ:=by
 rcases d with ⟨J,e⟩|⟨J,e⟩
 .obtain⟨_,f,vs,_,dd⟩:=pr I.hok e;refine⟨dd.typeIs,λb q=>?_,f⟩;cases q;obtain⟨c,_,_,h1,h2,_⟩:=dd;exact⟨c,h1,h2.2.1⟩
 .obtain⟨_,f,xs,_,dd⟩:=p0 I.hok e;refine⟨dd.typeIs,λb q=>?_,f⟩;cases q;obtain⟨c,_,_,h1,h2,_⟩:=dd;exact⟨c,h1,h2.2.1⟩
section
variable{X:aZ}{U:List (aB×aY)}{Y:St}{H:aD}{s:aK}{a:aB}{y d:V}{u r:aE}{o:Option V}{A:bX}{E:aE->aK->Prop}
theorem Qt(p:A.units+1<cLine)(I:Inv X U Y H s)(g:kA H a y o)(j:cK y u)(m:cK d r)(h:∀n L,Inv X U Y H L->cK (o.getD d) n->Q n L) :
  aU (aX X.prog X.w) A (call (.builtin "dict.get") [.ref a,u,r]) Q E s:=by
 rcases g with ⟨J,k,e,c,l⟩|⟨J,k,b,e,c,q,l⟩
 .subst c;obtain⟨t,f,vs,i,dd⟩:=pr I.hok e;refine uT w8 dd.typeIs PySem.F.entry_dict_get (PySem.F.args_dict_get_3 _ _ _) (meets_dict_get_default (dZ X.prog X.w) a (rc j) f r) ⟨_,dd.mapOf,h _ _ (I.tok _) ?_⟩;rw[l];exact(i.val k).getD m
 .subst c;cases(show u=cZ b from j);obtain⟨t,f,xs,i,dd⟩:=p0 I.hok e;refine uT w8 dd.typeIs PySem.F.entry_dict_get (PySem.F.args_dict_get_3 _ _ _) (meetsH_dict_get_default (kH (dZ X.prog X.w)) a b f r) ⟨qD p,k,xs,qs I.hok q,dd,h _ _ (I.tok _) ?_⟩;rw[l];exact(i.val k).getD m
end
def Px(p ty tx:bG):bG:=λY H Q=>p Y H λx z=>∃a,x=.ref a/\Ah z a/\ty Y z λy H2=>tx Y H2 λc b=>∃o,kA b a y o/\Q (o.getD c) b
section
variable{X:aZ}{o e f:bJ}{i c:Pos}{p ty tx:bG}
theorem Nx(j:X.A.units+1<cLine)(k:bL X o p)(l:bL X e ty)(n:bL X f tx)(m:Jq X o "get" i e f c):bL X (.Call (.Attribute o "get" i) [e,f] [] c) (Px p ty tx):=by
 refine⟨?_⟩;intro U s Y H Q I h;refine wpAny_Call_method m.base m.few m.line r0 w8 PySem.F.type_dict_get (cD (k U s Y H _ I h) λu s1 ⟨x,z,b,q,a,ex,d,r⟩=>?_);subst ex;obtain rfl:u=cZ a:=q;obtain⟨t,w,_⟩:=Qk b d;refine⟨t,w,?_⟩;rw[m.trees];refine t6 O (r5 (uh (cD (l U s1 Y z _ b r) λT A ⟨y,H2,B,C,D⟩=>
  uh (cD (n U A Y H2 _ B D) λa0 a1 ⟨z,E,G,J,a2,g,L⟩=>xr ?_))))
 exact Qt j G g C J λa3 a4 M N=>⟨_,E,M,N,L⟩
end
end L2
namespace HT
open PySem PyProof.Rows
noncomputable def lexLt:List Int->List Int->Bool
 |[],[]=>aJ
 |[],_::_=>aC
 |_::_,[]=>aJ
 |x::xs,y::ys=>if x=y then lexLt xs ys else decide (x<y)
theorem SP(x y:Int)(xs ys:List Int):lexLt (x::xs) (y::ys)=if x=y then lexLt xs ys else decide (x<y):=rfl
theorem JZ:lexLt [] []=aJ:=rfl
theorem JF(y:Int)(ys:List Int):lexLt [] (y::ys)=aC:=rfl
theorem JG(x:Int)(xs:List Int):lexLt (x::xs) []=aJ:=rfl
theorem NR(A:bX)(s:aK)(a:Int)(t:Tok)(c:Int)(u:Tok):∃e,jF A s (.int a t) (.int c u) e/\(e=aC↔a=c):=
 ⟨(a==c),jF.int_int a t c u,by simp⟩
theorem No(A:bX)(s:aK)(a:Int)(t:Tok)(c:Int)(u:Tok)(prog:bT)(w:bN)(E:aE->aK->Prop)(Q:aE->aK->Prop)(h:Q (.bool (decide (a<c))) s) :
  aU (aX prog w) A (richCompare .Lt (.int a t) (.int c u)) Q E s:=
 (PyProof.Rows.lt_int h:aU (aX prog w) A (iO .Lt (.int a t) (.int c u)) Q E s)
section
open PySem.SeqAt
open PySem.AutoSeq1 (wpAny_loadPart')
open PySem.MeetsSeq PySem.MeetsSeq2 PySem.MeetsSeq3
end
section
variable{prog:bT}{w:bN}{A:bX}{E:aE->aK->Prop}{s:aK}
theorem US(q:IsTup s.heap t vs.toArray)(r:IsTup s.heap b a.toArray)(g:vs≠[])
 (h1:a=[]->Q (.ref t) s)(h2:a≠[]->Q (.ref s.heap.objs.size) {s with heap:=s.heap.push {cls:=.type "tuple",data:=.seq (vs++a).toArray}})
 (hsz:vs.length+a.length<=dH):aU (aX prog w) A (kR .Add (.ref t) (.ref b)) Q E s:=by
 obtain⟨⟨cls,dd,data,h⟩,c,i,n,j⟩:=id q;obtain⟨⟨u,k,data2,l⟩,d,m,o,p⟩:=id r;simp only at i j m p;subst i j m p;have e:vs.toArray++a.toArray=(vs++a).toArray:=by simp
 by_cases f:a=[]
 .exact concat_meets ⟨_,c,O⟩ ⟨_,d,O⟩ noFill_tuple_add seq_tuple_add PySem.F.slot_tuple_add PySem.F.entry_tuple_add (PySem.F.args_tuple_add_2 _ _)
   (tuple_addW1 t b vs.toArray a.toArray n o dd k h l (by simpa using g) (by simp[f])) ⟨c,d,h1 f⟩
 .refine concat_meets ⟨_,c,O⟩ ⟨_,d,O⟩ noFill_tuple_add seq_tuple_add PySem.F.slot_tuple_add PySem.F.entry_tuple_add (PySem.F.args_tuple_add_2 _ _)
   (tuple_addW2 t b vs.toArray a.toArray n o dd k h l (by simpa using g) (by simpa using f) (by rw[eO,eO];exact hsz)) ⟨c,d,?_⟩
  rw[e];exact h2 f
noncomputable def sIx(n d:Nat):Option Int->Nat
 |none=>d
 |some v=>if v<0 then(v+(n:Int)).toNat else min v.toNat n
theorem Vx(n d:Nat):sIx n d aG=d:=rfl
theorem Vw(n d k:Nat):sIx n d (some (k:Int))=min k n:=by
 show(if (k:Int)<0 then((k:Int)+(n:Int)).toNat else min (k:Int).toNat n)=min k n;rw[if_neg VF,oz]
theorem PE(n d:Nat)(b:d<=n)(o:Option Int):sIx n d o<=n:=by
 cases o with
 |none=>exact b
 |some v=>
  show(if v<0 then(v+(n:Int)).toNat else min v.toNat n)<=n;by_cases a:v<0
  .rw[if_pos a];omega
  .rw[if_neg a];exact Nat.min_le_right _ _
theorem Dv(v:Int)(n d:Nat):(if v<0 then max (v+(n:Int)) 0 else min v (n:Int))=((sIx n d (some v):Nat):Int):=by
 show(if v<0 then max (v+(n:Int)) 0 else min v (n:Int))=(((if v<0 then(v+(n:Int)).toNat else min v.toNat n):Nat):Int)
 by_cases a:v<0
 .simp only[if_pos a];omega
 .simp only[if_neg a];omega
theorem LV(lo hi:Option Int)(n:Nat):w1 lo hi 1 (n:Int)=(((sIx n 0 lo:Nat):Int),((sIx n n hi:Nat):Int)):=by
 have h1:¬((1:Int)<0):=VF;unfold w1;simp only[h1,if_false];refine Prod.ext ?_ ?_
 .cases lo with
  |none=>rfl
  |some v=>exact Dv v n 0
 .cases hi with
  |none=>rfl
  |some v=>exact Dv v n n
theorem Lo(i j:Nat):tY (i:Int) (j:Int) 1=j-i:=by
 unfold tY;have h1:(1:Int)>0:=VF;simp only[h1,if_true,Int.ediv_one];split<;>omega
theorem Jm(p:IsPart v o)(h:Q o s):aU (aX prog w) A (Builtin.Slice.slicePartIndex v) Q E s:=by
 cases p with
 |none=>exact slicePart_none h
 |int i t=>exact slicePart_int h
theorem TO{e:aB}{a b:aE}{lo hi:Option Int}{n:Nat}{Q:Int×Int×Nat->aK->Prop}(f:s.heap.IsSliceOf e a b .none)(pl:IsPart a lo)(pu:IsPart b hi)
 (h:Q (((sIx n 0 lo:Nat):Int),1,sIx n n hi-sIx n 0 lo) s):aU (aX prog w) A (Builtin.Slice.sliceApplied (.ref e) (pure (n:Int))) Q E s:=by
 obtain⟨os,c,g,d⟩:=id f;unfold Builtin.Slice.sliceApplied Builtin.Slice.sliceFields;refine aO (aO (nr c d (x:=a) O (aO (nr c d (x:=b) O (aO (nr c d (x:=.none) O (bH ?_)))))));refine aO (slicePart_none ?_);show aU _ _ (if ((1:Int)==0)=aC then _ else _) _ _ s;rw[if_neg VD];refine aO (Jm pl (aO (Jm pu (aO (bH ?_)))));show aU _ _ (match w1 lo hi 1 (n:Int) with|(lo,hi)=>pure (lo,(1:Int),tY lo hi 1)) _ _ s;rw[LV lo hi n];show aU _ _ (pure (((sIx n 0 lo:Nat):Int),(1:Int),tY ((sIx n 0 lo:Nat):Int) ((sIx n n hi:Nat):Int) 1)) _ _ s;rw[Lo];exact bH h
theorem Nq(xs:Array aE)(i k:Nat):((fH k).filterMap λ(m:Nat)=>xs[((i:Int)+(m:Int)*1).toNat]?).toArray=((xs.toList.drop i).take k).toArray:=by
 have e:(λ(m:Nat)=>xs[((i:Int)+(m:Int)*1).toNat]?)=λm=>xs[i+m]?:=by
  funext m
  have:((i:Int)+(m:Int)*1).toNat=i+m:=VF;rw[this]
 rw[e];have:=pick_run xs i k;rw[List.filterMap_map]at this;have a:((λx=>xs[x]?) ∘ λx=>i+x)=λm=>xs[i+m]?:=O;rw[a]at this;rw[this]
theorem UX{t c:aB}{items:Array aE}{d e:aE}{lo hi:Option Int}{Q:aE->aK->Prop}(a:IsTup s.heap t items)(f:s.heap.IsSliceOf c d e .none)(pl:IsPart d lo)(pu:IsPart e hi)
 (g:¬(sIx items.size 0 lo=0/\sIx items.size items.size hi=items.size))
 (h:Q (.ref s.heap.objs.size) {s with heap:=s.heap.push {cls:=.type "tuple",data:=.seq ((items.toList.drop (sIx items.size 0 lo)).take (sIx items.size items.size hi-sIx items.size 0 lo)).toArray}})
 (hsz:items.size<=dH):aU (aX prog w) A (getItem (.ref t) (.ref c)) Q E s:=by
 have b:sizeOk (.seq ((items.toList.drop (sIx items.size 0 lo)).take (sIx items.size items.size hi-sIx items.size 0 lo)).toArray):=by
  show((items.toList.drop (sIx items.size 0 lo)).take (sIx items.size items.size hi-sIx items.size 0 lo)).toArray.size<=dH;rw[eO,dU,nR,mD];omega
 have n:sIx items.size items.size hi<=items.size:=PE _ _ (bQ _) hi;obtain⟨os,i,j,o⟩:=id f;have k:s.TypeIs (.ref c) "slice":=⟨os,i,j⟩
 unfold getItem;try with_reducible refine jn ?_
 first|refine aO (bH ?_)|skip
 refine aO (wpAny_sequenceKey a.typeIs VD ?_);refine aO (xf (name:=pM "__getitem__") a.typeIs wZ
  (pE wZ a.typeIs entry_tuple_getitem ?_ (args_tuple_getitem _ _)))
 show aU _ _ (Builtin.Tuple.tupleItemsOf (.ref t)>>=_) _ _ s;refine aO (tupleItemsOf_ a ?_);refine aO (qQ k ?_);rw[if_pos VD];refine aO (TO f pl pu ?_);have l:¬((((sIx items.size 0 lo:Nat):Int)==0&&(1:Int)==1&&(sIx items.size items.size hi-sIx items.size 0 lo)==items.size)=aC):=by
  intro q;rw[fK,fK]at q;have p:((sIx items.size 0 lo:Nat):Int)=0:=eq_of_beq q.1.1;have r:sIx items.size items.size hi-sIx items.size 0 lo=items.size:=eq_of_beq q.2;exact g ⟨VF,VF⟩
 show aU _ _ (if (((sIx items.size 0 lo:Nat):Int)==0&&(1:Int)==1&&(sIx items.size items.size hi-sIx items.size 0 lo)==items.size)=aC then _ else _) _ _ s;rw[if_neg l,Nq]
 first
  |exact aO (m:=t0 _) (ng (bH ⟨_,O,bH h⟩) b)
  |exact aO (m:=t0 _) (ng (aO (bH (bH ⟨_,O,bH h⟩))) b)
  |exact aO (aO (m:=t0 _) (ng (bH (bH ⟨_,O,bH h⟩)) b))
  |exact aO (aO (m:=t0 _) (ng (bH ⟨_,O,bH h⟩) b))
end
end HT
namespace L2
open PySem PySem.Spec PyProof.Rows
abbrev oN:=St->aD->(Option Int->aD->Prop)->Prop
structure q1 (X:aZ) (e:Option bJ) (t:oN):Prop where
 run:∀(U:List (aB×aY))(s:aK)(Y:St)(H:aD)(Q:Option Int->aD->Prop),Inv X U Y H s->t Y H Q ->
  aU (aX X.prog X.w) X.A (evalPart e X.env) (λu L=>∃o H',Inv X U Y H' L/\IsPart u o/\Q o H') X.xe s
instance {X:aZ} {e:Option bJ} {t:oN}:CoeFun (q1 X e t) λ_=>∀(U:List (aB×aY))(s:aK)(Y:St)(H:aD)(Q:Option Int->aD->Prop),Inv X U Y H s->t Y H Q ->
  aU (aX X.prog X.w) X.A (evalPart e X.env) (λu L=>∃o H',Inv X U Y H' L/\IsPart u o/\Q o H') X.xe s:=⟨q1.run⟩
def Oh:oN:=λ_ H Q=>Q aG H
inductive FF(Q:Option Int->aD->Prop)(x:V)(z:aD):Prop
 |mk:∀i,x=.int i->Q (some i) z->FF Q x z
def QC(t:bG):oN:=λY H Q=>t Y H (FF Q)
theorem Ay:∀{us:List aE},cB (ns.map V.int) us->IntsAre us ns:=by
 induction ns with
 |nil=>intro us r;rw[lF]at r;cases r;exact .nil
 |cons n ns a=>
  intro us r;rw[dW]at r;cases r with
  |cons b c=>
   obtain⟨t,e⟩:=b;subst e;exact .cons n t (a c)
section
variable{X:aZ}{e:bJ}{te:bG}{lo hi:Option bJ}{tl th:oN}{pos D:Pos}
theorem qm:q1 X aG Oh:=by
 refine⟨?_⟩;intro U s Y H Q I h;rw[evalPart_none];exact bH ⟨aG,H,I,.none,h⟩
theorem ql(h:bL X e te):q1 X (some e) (QC te):=by
 refine⟨?_⟩;intro U s Y H Q I a;rw[evalPart_some];refine cD (h U s Y H _ I a) λu s1 ⟨x,z,b,c,d⟩=>?_;obtain⟨i,rfl,q⟩:=d;obtain⟨t,rfl⟩:=c;exact⟨some i,z,b,.int i t,q⟩
def q2(X:aZ)(r:V->Option Int->Option Int->aD->aP->Prop):Prop:=
 ∀(U:List (aB×aY))(s:aK)(Y:St)(H:aD)(x:V)(v a b:aE)(lo hi:Option Int)(c:aB)(Q:aP),Inv X U Y H s->cK x v->s.heap.IsSliceOf c a b .none->IsPart a lo->IsPart b hi->r x lo hi H Q ->
  ∃T id,oH (.type T) "__getitem__"=pure (some (.builtin id))/\s.TypeIs v T/\aU (aX X.prog X.w) X.A (getItem v (.ref c)) (gG X U Y Q) X.xe s
abbrev RL (r:V->Option Int->Option Int->aD->aP->Prop) (Q:aP) (x:V) (l:Option Int):Option Int->aD->Prop:=λu a=>r x l u a Q
abbrev RM (r:V->Option Int->Option Int->aD->aP->Prop) (th:oN) (Y:St) (Q:aP) (x:V):Option Int->aD->Prop:=λl H2=>th Y H2 (RL r Q x l)
abbrev SM (r:V->Option Int->Option Int->aD->aP->Prop) (tl th:oN) (Y:St) (Q:aP):aP:=λx z=>tl Y z (RM r th Y Q x)
def TJ(r:V->Option Int->Option Int->aD->aP->Prop)(te:bG)(tl th:oN):bG:=λY H Q=>te Y H (SM r tl th Y Q)
theorem qg(g:q2 X r)(i:bL X e te)(j:q1 X lo tl)(k:q1 X hi th):bL X (.Subscript e (.Slice lo hi aG D) pos) (TJ r te tl th):=by
 refine⟨?_⟩;intro U s Y H Q I h;refine Subscript_ (cD (i U s Y H _ I h) λv s1 ⟨x,z,m,n,o⟩=>?_);refine wpAny_Slice (cD (j U s1 Y z _ m o) λc p ⟨l,H2,t,pl,w⟩=>cD (k U p Y H2 _ t w) λd a ⟨u,f,y,pu,A⟩=>?_);rw[evalPart_none];refine bH ?_;have B:Inv X U Y f {a with heap:=a.heap.push {cls:=.type "slice",data:=.fields #[c,d,.none]}}:=y.kept (t':=a.toks) λb J q=>dM _ q;obtain⟨T,id,C,E,G⟩:=g U {a with heap:=a.heap.push {cls:=.type "slice",data:=.fields #[c,d,.none]}} Y f x v c d l u a.heap.objs.size Q B n (bE.IsSliceOf.new ..) pl pu A;show aU (aX X.prog X.w) X.A (subscriptTail e (.Slice lo hi aG D) v (.ref a.heap.objs.size)) (gG X U Y Q) X.xe {a with heap:=a.heap.push {cls:=.type "slice",data:=.fields #[c,d,.none]}};exact tail_any (ops:=[.ref a.heap.objs.size,v]) E C G (by with_unfolding_all rfl)
noncomputable def n0(xs:List V)(lo hi:Option Int):List V:=(xs.drop (HT.sIx xs.length 0 lo)).take (HT.sIx xs.length xs.length hi-HT.sIx xs.length 0 lo)
theorem Je(xs:List V)(lo hi:Option Int):(n0 xs lo hi).length<=xs.length:=by
 unfold n0;rw[dU,nR];omega
inductive zv(K:bI)(x:V)(lo hi:Option Int)(H:aD)(Q:aP):Prop
 |mk:∀a xs,x=.ref a->bY K H a xs->(¬(HT.sIx xs.length 0 lo=0/\HT.sIx xs.length xs.length hi=xs.length))->(∀p,H p=aG->Q (.ref p) (aI H p (.tup (n0 xs lo hi))))->zv K x lo hi H Q
theorem PB:q2 X (zv X.K):=by
 intro U s Y H x v l m lo hi n Q I f g pl pu h;obtain⟨a,xs,rfl,i,j,q⟩:=h;cases f;obtain⟨k,r,d,e⟩:=I.tuple i;have c:k.toArray.size=xs.length:=by rw[eO];exact r.length.symm
 refine⟨"tuple",_,wZ.lookup,d.typeIs,?_⟩;refine HT.UX d g pl pu (by rw[c];exact j) ?_ (by rw[c];exact e);rw[c];refine⟨.ref s.heap.objs.size,_,I.laid (t':=s.toks) (o:=.tup (n0 xs lo hi)) (λb p q=>dM _ q) (bQ _) ?_,O,q _ (I.hok.fresh (bQ _))⟩;exact⟨fF (Je xs lo hi) e,_,(r.drop (HT.sIx xs.length 0 lo)).take (HT.sIx xs.length xs.length hi-HT.sIx xs.length 0 lo),pc.new _ _⟩
inductive To(K:bI)(x y:V)(H:aD)(Q:aP):Prop
 |mk:∀a b ns ms,x=.ref a->y=.ref b->bY K H a (ns.map V.int)->bY K H b (ms.map V.int)->Q (.bl (HT.lexLt ns ms)) H->To K x y H Q
inductive zq(K:bI)(x y:V)(H:aD)(Q:aP):Prop
 |mk:∀a b xs ys,x=.ref a->y=.ref b->bY K H a xs->bY K H b ys->xs≠[]->xs.length+ys.length<=dH->((ys=[]->Q (.ref a) H))->((ys≠[]->∀p,H p=aG->Q (.ref p) (aI H p (.tup (xs++ys)))))->zq K x y H Q
theorem cB.nil_iff(r:cB xs us):us=[]↔xs=[]:=by
 cases r with
 |nil=>simp
 |cons _ _=>simp
theorem OL:fO X (kR .Add) (zq X.K):=by
 intro U s Y H x y v u Q I g i h;obtain⟨a,b,xs,ys,rfl,rfl,j,k,l,f,m,n⟩:=h;cases g;cases i;obtain⟨p,e,p1,_⟩:=I.tuple j;obtain⟨r,d,D,_⟩:=I.tuple k;refine HT.US p1 D (λc=>l (e.nil_iff.mp c)) (λc=>⟨.ref a,H,I,O,m (d.nil_iff.mp c)⟩) (λc=>?_) (by rw[←e.length,←d.length];exact f);refine⟨.ref s.heap.objs.size,_,I.laid (t':=s.toks) (o:=.tup (xs++ys)) (λb t q=>dM _ q) (bQ _) ?_,O,n (λw=>c (d.nil_iff.mpr w)) _ (I.hok.fresh (bQ _))⟩;exact⟨by rw[eW];exact f,_,e.append d,pc.new _ _⟩
end
noncomputable def qe(n:Nat)(i:Int):Option Nat:=if 0<=i then(if i<n then some i.toNat else aG) else if -(n:Int)<=i then some (i+n).toNat else aG
noncomputable def kU{q:Type}(xs:List q)(i:Int):Option q:=(qe xs.length i).bind λj=>xs[j]?
theorem OZ(h:qe n i=some j):seqIndex? i n=some j/\j<n/\-(n:Int)<=i/\i<n:=by
 unfold qe at h;by_cases a:0<=i
 .rw[if_pos a]at h;by_cases h1:i<n
  .rw[if_pos h1]at h;have e:i.toNat=j:=gK h;exact⟨by rw[seqIndex_of a h1,e],VF,VF,h1⟩
  .rw[if_neg h1]at h;cases h
 .rw[if_neg a]at h;by_cases h1:-(n:Int)<=i
  .rw[if_pos h1]at h;have e:(i+n).toNat=j:=gK h;exact⟨by rw[seqIndex_neg VF h1,e],VF,h1,VF⟩
  .rw[if_neg h1]at h;cases h
theorem yo{q:Type}{xs:List q}{i:Int}{v:q}(h:kU xs i=some v):∃j,seqIndex? i xs.length=some j/\xs[j]?=some v/\j<xs.length/\-(xs.length:Int)<=i/\i<xs.length:=by
 unfold kU at h;cases e:qe xs.length i with
 |none=>rw[e]at h;cases h
 |some j=>
  rw[e]at h;obtain⟨h1,h2,a,b⟩:=OZ e;exact⟨j,h1,h,h2,a,b⟩
theorem cE{q:Type}{xs:List q}{j:Nat}{v:q}(h:xs[j]?=some v):kU xs (j:Int)=some v:=by
 have a:j<xs.length:=(dI.mp h).1;have e:qe xs.length (j:Int)=some j:=by
  unfold qe;rw[if_pos VF,if_pos VF];simp
 unfold kU;rw[e];exact h
def Po(b:bJ):Prop:=∀o i,uU b aJ o i=operate [o,i] (getItem o i)
def qX(X:aZ)(r:R2):Prop:=
 ∀(value slice:bJ)(U:List (aB×aY))(s:aK)(Y:St)(H:aD)(x y:V)(v u:aE)(Q:aP),Inv X U Y H s->cK x v->cK y u->r x y H Q ->
  uU slice aJ v u=operate [v,u] (getItem v u)->aU (aX X.prog X.w) X.A (subscriptTail value slice v u) (gG X U Y Q) X.xe s
def sL(X:aZ)(id:String)(r:V->List V->aD->aP->Prop):Prop:=
 ∀(U:List (aB×aY))(s:aK)(Y:St)(H:aD)(x:V)(xs:List V)(v:aE)(us:List aE)(Q:aP),Inv X U Y H s->cK x v->cB xs us->r x xs H Q ->
  aU (aX X.prog X.w) X.A (call (.builtin id) (v::us)) (gG X U Y Q) X.xe s
section
variable{X:aZ}{a b:bJ}{M tb:bG}{pos:Pos}
theorem cF(c:qX X r)(d:bL X a M)(e:bL X b tb)(f:Po b):bL X (.Subscript a b pos) (wr r M tb):=by
 refine⟨?_⟩;intro U s Y H Q I h;exact Subscript_ (yU d e I h λv u g x y H2 i j k q=>c a b U g Y H2 x y v u Q i j k q (f _ _))
inductive zr(K:bI)(x y:V)(H:aD)(Q:aP):Prop
 |mk:∀p xs i v,x=.ref p->y=.int i->aT K H p xs->kU xs i=some v->Q v H->zr K x y H Q
inductive zt(K:bI)(x y:V)(H:aD)(Q:aP):Prop
 |mk:∀p xs i v,x=.ref p->y=.int i->bY K H p xs->kU xs i=some v->Q v H->zt K x y H Q
inductive GB(x y:V)(H:aD)(Q:aP):Prop
 |mk:∀z i c,x=.str z->y=.int i->z.length<=dH->kU z.cps.toList i=some c->Q (.str ⟨#[c]⟩) H->GB x y H Q
theorem OY:qX X (zr X.K):=by
 intro value slice U s Y H x y v u Q I f g h b;obtain⟨p,xs,i,k,rfl,rfl,l,m,q⟩:=h;cases f;obtain⟨t,rfl⟩:=g;obtain⟨n,r,pl,C⟩:=I.list l;obtain⟨j,h1,h2,D,o,z⟩:=yo m;obtain⟨w,c,A⟩:=r.get h2;have B:=r.length;have hn:=sQ;have d:gG X U Y Q w s:=⟨k,H,I,A,q⟩
 by_cases e:0<=i
 .have a:i.toNat=j:=by
   rw[seqIndex_of e z]at h1;exact gK h1
  exact item_listR pl.isList e VF (by rw[a];simpa using c) d b
 .have a:(i+(n.toArray.size:Int)).toNat=j:=by
   rw[seqIndex_neg VF o]at h1;rw[eO,←B];exact gK h1
  exact subscriptTail_builtinR (x:=w) pl.isList.typeIs slot_list_getitem.lookup
   (wpAny_getItem_list_neg (Q:=λr L=>r=w/\gG X U Y Q r L) pl.isList VF (by rw[eO]<;>omega) VF (by rw[a];simpa using c) ⟨O,d⟩) b
theorem Qi:qX X (zt X.K):=by
 intro value slice U s Y H x y v u Q I a b h c;obtain⟨p,xs,i,d,rfl,rfl,e,f,q⟩:=h;cases a;obtain⟨t,rfl⟩:=b;obtain⟨n,r,pl,o⟩:=I.tuple e;obtain⟨j,h1,h2,z,A,B⟩:=yo f;obtain⟨w,g,k⟩:=r.get h2;have l:=r.length;have hn:=sQ;have m:gG X U Y Q w s:=⟨d,H,I,k,q⟩
 exact subscriptTail_builtinR (x:=w) pl.typeIs slot_tuple_getitem.lookup
  (getItem_tuple (j:=j) (Q:=λr L=>r=w/\gG X U Y Q r L) pl VF VF (by rw[eO,←l];exact h1) (by simpa using g) ⟨O,m⟩) c
theorem Ed:qX X GB:=by
 intro value slice U s Y H x y v u Q I b d h e;obtain⟨a,i,c,rfl,rfl,o,f,q⟩:=h;obtain⟨t,rfl⟩:=b;obtain⟨t',rfl⟩:=d;obtain⟨j,h1,h2,p,g,k⟩:=yo f;have l:a.cps.toList.length=a.length:=by simp[aA.length]
 rw[l]at h1 g k;have hn:=sQ;exact tail_any (qU s a t) slot_str_getitem.lookup (getItem_str (c:=c) (by
  have m:decide (i < -(2^63:Int))=aJ:=decide_eq_false VF;have n:decide (i>=2^63)=aJ:=decide_eq_false VF;rw[m,n,Bool.or_false]) (by rw[h1];simpa using h2) ⟨.str ⟨#[c]⟩,H,I.tok _,⟨_,O⟩,q⟩) e
inductive Tt(o i v:V)(H:aD)(Q:aD->Prop):Prop
 |mk:∀p xs k j,o=.ref p->i=.int k->H p=some (.lst xs)->qe xs.length k=some j->Q (aI H p (.lst (xs.set j v)))->Tt o i v H Q
theorem Ke(lo hi:Option Int)(n:Nat):(pN lo hi aG n).1=((HT.sIx n 0 lo:Nat):Int)/\(pN lo hi aG n).2.1=((HT.sIx n n hi:Nat):Int)/\(pN lo hi aG n).2.2=1:=by
 refine⟨?_,?_,O⟩
 .cases lo with
  |none=>simp[pN,HT.sIx]
  |some i=>
   simp only[pN,HT.sIx,Option.getD_none,show(1:Int)>0 by decide,if_true];by_cases h:i<0
   .simp only[h,if_true]<;>omega
   .simp only[h,if_false]<;>omega
 .cases hi with
  |none=>simp[pN,HT.sIx]
  |some i=>
   simp only[pN,HT.sIx,Option.getD_none,show(1:Int)>0 by decide,if_true];by_cases h:i<0
   .simp only[h,if_true]<;>omega
   .simp only[h,if_false]<;>omega
theorem JN(a:List aE)(lo hi:Option Int):slicePick a.toArray lo hi aG=((a.drop (HT.sIx a.length 0 lo)).take (HT.sIx a.length a.length hi-HT.sIx a.length 0 lo)).toArray:=by
 obtain⟨h1,h2,b⟩:=Ke lo hi a.toArray.size;unfold slicePick;rw[h1,h2,b];simp only[sliceRange_one,pick_run,eO]<;>rfl
inductive zu(K:bI)(x:V)(lo hi:Option Int)(H:aD)(Q:aP):Prop
 |mk:∀a xs,x=.ref a->aT K H a xs->(∀p,H p=aG->Q (.ref p) (aI H p (.lst (n0 xs lo hi))))->zu K x lo hi H Q
theorem Ot:q2 X (zu X.K):=by
 intro U s Y H x v j k lo hi l Q I d e pl pu h;obtain⟨a,xs,rfl,f,q⟩:=h;cases d;obtain⟨m,r,c,g⟩:=I.list f;have i:=r.length;refine⟨"list",_,slot_list_getitem.lookup,c.isList.typeIs,?_⟩;refine wpAny_getItem_list_slice c.isList e pl pu .none (by simp) ?_ (by rw[eO]<;>omega);rw[JN,←i];refine⟨.ref s.heap.objs.size,_,I.laid (t':=s.toks) (o:=.lst (n0 xs lo hi)) (λb n q=>dM _ q) (bQ _) ?_,O,q _ (I.hok.fresh (bQ _))⟩;exact⟨fF (Je xs lo hi) g,_,0,(r.drop (HT.sIx xs.length 0 lo)).take (HT.sIx xs.length xs.length hi-HT.sIx xs.length 0 lo),gF _ O⟩
def oq:V->Bool
 |.non=>aC
 |.bl _=>aC
 |.int _=>aC
 |.str _=>aC
 |_=>aJ
noncomputable def oV:V->V->Bool
 |.non,.non=>aC
 |.bl a,.bl b=>a==b
 |.bl a,.int b=>(if a then 1 else 0)==b
 |.int a,.bl b=>a==(if b then 1 else 0)
 |.int a,.int b=>a==b
 |.str a,.str b=>a==b
 |_,_=>aJ
theorem oi(d:cK y u)(c:cK x v)(f:oq y=aC)(e:oq x=aC):jF A s u v (oV y x):=by
 cases y with
 |non=>
  cases d;cases x with
  |non=>cases c;exact jF.same _
  |bl b=>cases c;exact jF.none_bool b
  |int b=>obtain⟨t,rfl⟩:=c;exact jF.none_int b t
  |str b=>obtain⟨t,rfl⟩:=c;exact jF.none_str b t
  |_=>exact absurd (show aJ=aC from e) fX
 |bl a=>
  cases d;cases x with
  |non=>cases c;exact jF.bool_none a
  |bl b=>cases c;exact jF.bool_bool a b
  |int b=>obtain⟨t,rfl⟩:=c;exact jF.bool_int a b t
  |str b=>obtain⟨t,rfl⟩:=c;exact jF.bool_str a b t
  |_=>exact absurd (show aJ=aC from e) fX
 |int a=>
  obtain⟨t',rfl⟩:=d;cases x with
  |non=>cases c;exact jF.int_none a t'
  |bl b=>cases c;exact jF.int_bool a t' b
  |int b=>obtain⟨t,rfl⟩:=c;exact jF.int_int a t' b t
  |str b=>obtain⟨t,rfl⟩:=c;exact jF.int_str a t' b t
  |_=>exact absurd (show aJ=aC from e) fX
 |str a=>
  obtain⟨t',rfl⟩:=d;cases x with
  |non=>cases c;exact jF.str_none a t'
  |bl b=>cases c;exact jF.str_bool a t' b
  |int b=>obtain⟨t,rfl⟩:=c;exact jF.str_int a t' b t
  |str b=>obtain⟨t,rfl⟩:=c;exact jF.str_str a t' b t
  |_=>exact absurd (show aJ=aC from e) fX
 |_=>exact absurd (show aJ=aC from f) fX
noncomputable def kZ(x:V)(u:aE):Bool:=match u with
 |.none=>oV .non x
 |.bool b=>oV (.bl b) x
 |.int i _=>oV (.int i) x
 |.str a _=>oV (.str a) x
 |_=>aJ
theorem Ej(r:cK y u)(f:oq y=aC):kZ x u=oV y x:=by
 cases y with
 |non=>cases r;rfl
 |bl b=>cases r;rfl
 |int i=>obtain⟨t,rfl⟩:=r;rfl
 |str a=>obtain⟨t,rfl⟩:=r;rfl
 |_=>exact absurd (show aJ=aC from f) fX
theorem tU:∀{xs:List V} {us:List aE},cB xs us->xs.all oq=aC->us.any (kZ x)=xs.any λy=>oV y x
 |_,_,.nil,_=>rfl
 |y::xs,u::us,.cons r t,f=>by
  rw[qK,fK]at f;rw[oD,oD,Ej r f.1,tU t f.2]
theorem tD(b:cK x v)(c:oq x=aC):∀{xs:List V} {us:List aE},cB xs us->xs.all oq=aC->∀u∈us,jF A s u v (kZ x u)
 |_,_,.nil,_=>λu a=>by cases a
 |y::xs,u::us,.cons r t,f=>λd a=>by
  rw[qK,fK]at f;rcases eM.mp a with rfl|a
  .rw[Ej r f.1];exact oi r b f.1 c
  .exact tD b c t f.2 d a
def rv(x:V)(xs:List V):Bool:=xs.any λy=>oV y x
inductive tL(K:bI)(neg:Bool)(x y:V)(H:aD)(Q:aP):Prop
 |mk:∀p xs,y=.ref p->((aT K H p xs\/bY K H p xs))->oq x=aC->xs.all oq=aC->Q (.bl (if neg then !rv x xs else rv x xs)) H->tL K neg x y H Q
theorem Mw:fO X (iO .In) (tL X.K aJ):=by
 intro U s Y H x y v u Q I d f h;obtain⟨p,xs,rfl,a,e,fs,q⟩:=h;cases f;rcases a with a|a
 .obtain⟨b,r,pl,g⟩:=I.list a;refine SeqAt.in_listAt (kZ x) pl.isList (λw c=>tD d e r fs w (by simpa using c)) ⟨.bl _,H,I,O,?_⟩;rw[show b.toArray.any (kZ x)=b.any (kZ x) by simp,tU r fs];exact q
 .obtain⟨b,r,pl,g⟩:=I.tuple a;refine SeqAt.in_tupleAt (kZ x) pl (λw c=>tD d e r fs w (by simpa using c)) ⟨.bl _,H,I,O,?_⟩;rw[show b.toArray.any (kZ x)=b.any (kZ x) by simp,tU r fs];exact q
theorem Kl:fO X (iO .NotIn) (tL X.K aC):=by
 intro U s Y H x y v u Q I d f h;obtain⟨p,xs,rfl,a,e,fs,q⟩:=h;cases f;rcases a with a|a
 .obtain⟨b,r,pl,g⟩:=I.list a;refine SeqAt.notIn_listAt (kZ x) pl.isList (λw c=>tD d e r fs w (by simpa using c)) ⟨.bl _,H,I,O,?_⟩;rw[show b.toArray.any (kZ x)=b.any (kZ x) by simp,tU r fs];exact q
 .obtain⟨b,r,pl,g⟩:=I.tuple a;refine SeqAt.notIn_tupleAt (kZ x) pl (λw c=>tD d e r fs w (by simpa using c)) ⟨.bl _,H,I,O,?_⟩;rw[show b.toArray.any (kZ x)=b.any (kZ x) by simp,tU r fs];exact q
theorem Kz:iY X (.builtin "len") (λxs H Q=>∃p ys,xs=[.ref p]/\(aT X.K H p ys\/bY X.K H p ys)/\Q (.int ys.length) H):=by
 intro U s Y H xs us Q I r h;obtain⟨p,ys,rfl,a,q⟩:=h;obtain⟨u,rfl,d⟩:=ph r;cases d;have hn:=sQ;rcases a with a|a
 .obtain⟨e,b,pl,f⟩:=I.list a;have c:=b.length;exact Calls.call_len_list pl.isList (by simp only[eO]<;>omega) ⟨.int ys.length,H,I.tok _,⟨s.toks+1,by rw[eO,c]⟩,q⟩
 .obtain⟨e,b,pl,f⟩:=I.tuple a;have c:=b.length;exact len_tuple pl (by simp only[eO]<;>omega) ⟨.int ys.length,H,I.tok _,⟨s.toks+1,by rw[eO,c]⟩,q⟩
theorem Ky:iY X (.builtin "len") (λxs H Q=>∃a,xs=[.str a]/\a.length<=dH/\Q (.int a.length) H):=by
 intro U s Y H xs us Q I r h;obtain⟨a,rfl,b,q⟩:=h;obtain⟨u,rfl,t,rfl⟩:=ph r;have hn:=sQ;exact len_str VF ⟨.int a.length,H,I.tok _,⟨_,O⟩,q⟩
theorem Kx:iY X (.type "list") (λxs H Q=>∃p ys,xs=[.ref p]/\(aT X.K H p ys\/bY X.K H p ys)/\∀l,H l=aG->Q (.ref l) (aI H l (.lst ys))):=by
 intro U s Y H xs us Q I r h;obtain⟨p,ys,rfl,d,q⟩:=h;obtain⟨u,rfl,m⟩:=ph r;cases m;have k:∀(a:List aE),cB ys a->ys.length<=dH->∀(h':bE)(c':Nat),(∀b G,s.heap.get? b=some G->h'.get? b=some G) ->
   h'.get? s.heap.objs.size=some {cls:=.type "list",dict:=aG,data:=.seq a.toArray c',slots:=#[]}->gG X U Y Q (.ref s.heap.objs.size) {s with heap:=h'}:=λa c f h' c' kp e=>
  ⟨.ref s.heap.objs.size,_,I.laid (t':=s.toks) kp (bQ _) (show dR X.prog X.w _ h' _ (.lst ys) from⟨f,a,c',c,e⟩),O,q _ (I.hok.fresh (bQ _))⟩
 rcases d with d|d
 .obtain⟨a,c,pl,f⟩:=I.list d;have t:=c.length;obtain⟨o,g,i,n,j⟩:=pl.isList;exact call_list_seq p VG g i j (λh' c' kp e=>k a c f h' c' kp e) (by simp only[eO]<;>omega)
 .obtain⟨a,c,pl,f⟩:=I.tuple d;have t:=c.length;obtain⟨o,g,i,n,j⟩:=pl;exact call_list_seq p (.inr O) g i j (λh' c' kp e=>k a c f h' c' kp e) (by simp only[eO]<;>omega)
theorem ze:iY X (.type "tuple") (λxs H Q=>∃p ys,xs=[.ref p]/\((aT X.K H p ys/\∀l,H l=aG->Q (.ref l) (aI H l (.tup ys)))\/(bY X.K H p ys/\Q (.ref p) H))):=by
 intro U s Y H xs us Q I r h;obtain⟨p,ys,rfl,h⟩:=h;obtain⟨u,rfl,i⟩:=ph r;cases i;rcases h with ⟨a,q⟩|⟨a,q⟩
 .obtain⟨c,d,pl,f⟩:=I.list a;have k:=d.length;refine call_tuple_list pl.isList (λh' kp=>?_) (by simp only[eO]<;>omega);have g:Inv X U Y H {s with heap:=h'}:=I.kept (t':=s.toks) kp;have j:Inv X U Y (aI H h'.objs.size (.tup ys)) {s with heap:=h'.push {cls:=.type "tuple",data:=.seq c.toArray}}:=
   g.laid (t':=s.toks) (λb o e=>dM _ e) (bQ _) (show dR X.prog X.w _ _ _ (.tup ys) from⟨f,c,d,pc.new _ _⟩)
  exact⟨.ref h'.objs.size,_,j,O,q _ (g.hok.fresh (bQ _))⟩
 .obtain⟨c,d,pl,f⟩:=I.tuple a;exact call_tuple_same pl ⟨.ref p,H,I,O,q⟩
def zM(K:bI)(T:String)(x:V)(H:aD):Prop:=match x with
 |.str _=>T="str"
 |.int _=>T="int"
 |.ref p=>(T="list"/\∃xs,aT K H p xs)\/(T="tuple"/\∃o,K.lookup p=some o/\o.cls=.type "tuple"/\o.dict=aG) \/
   (T="dict"/\((∃J,H p=some (.dK J))\/∃J,H p=some (.dT J)))\/(T="set"/\∃S n,H p=some (.set S n))\/(T="tuple"/\∃xs,H p=some (.tup xs))
 |_=>False
theorem Dy(I:Inv X U Y H s)(r:cK x v)(ty:zM X.K T x H) :
  s.TypeIs v T/\∀a,v=.ref a->∃j,s.heap.get? a=some j/\j.dict=aG:=by
 cases x with
 |str g=>
  obtain⟨t,rfl⟩:=r;cases(show T="str" from ty);exact⟨qU s g t,λ_ e=>nomatch e⟩
 |int i=>
  obtain⟨t,rfl⟩:=r;cases(show T="int" from ty);exact⟨typeIs_int s i t,λ_ e=>nomatch e⟩
 |ref p=>
  cases r;rcases ty with ⟨rfl,xs,k⟩|⟨rfl,o,b,h,d⟩|⟨rfl,b⟩|⟨rfl,S,n,b⟩|⟨rfl,xs,b⟩
  .obtain⟨l,_,pl,_⟩:=I.list k;refine⟨pl.isList.typeIs,λa e=>?_⟩;cases e;obtain⟨o,n,e,c,d,_⟩:=pl;exact⟨o,e,d⟩
  .refine⟨⟨o,I.kIn p o b,h⟩,λa e=>?_⟩;cases e;exact⟨o,I.kIn _ o b,d⟩
  .have g:∃o,s.heap.get? p=some o/\o.ExactDict:=by
    rcases b with ⟨J,b⟩|⟨J,b⟩
    .obtain⟨_,_,_,_,o,_,_,e,ex,_⟩:=I.hok p _ b;exact⟨o,e,ex⟩
    .obtain⟨_,_,_,_,o,_,_,e,ex,_⟩:=I.hok p _ b;exact⟨o,e,ex⟩
   obtain⟨o,e,ex⟩:=g;refine⟨⟨o,e,ex.1⟩,λa f=>?_⟩;cases f;exact⟨o,e,ex.2.1⟩
  .obtain⟨o,_,_,_,e,ex,_⟩:=I.hok p _ b;refine⟨⟨o,e,ex.1⟩,λa f=>?_⟩;cases f;exact⟨o,e,ex.2.1⟩
  .obtain⟨_,_,_,o,e,h,_,_,d⟩:=(show dR X.prog X.w H s.heap p (.tup xs) from I.hok p _ b)
   refine⟨⟨o,e,h⟩,λa f=>?_⟩;cases f;exact⟨o,e,d⟩
 |_=>exact gZ ty
abbrev RY (K:bI) (T:String) (r:V->List V->aD->aP->Prop) (Q:aP):aP:=λx z=>zM K T x z/\r x [] z Q
def RA(K:bI)(T:String)(r:V->List V->aD->aP->Prop)(to:bG):bG:=λY H Q=>to Y H (RY K T r Q)
abbrev RX (r:V->List V->aD->aP->Prop) (Q:aP) (x:V):List V->aD->Prop:=λxs H2=>r x xs H2 Q
abbrev SD (K:bI) (T:String) (r:V->List V->aD->aP->Prop) (t:fU) (Y:St) (Q:aP):aP:=λx z=>zM K T x z/\t Y z (RX r Q x)
def zG(K:bI)(T:String)(r:V->List V->aD->aP->Prop)(to:bG)(t:fU):bG:=λY H Q=>to Y H (SD K T r t Y Q)
variable{o e:bJ}{es:List bJ}{to:bG}{t:fU}{name:aA}{i c:Pos}{T id:String}{r:V->List V->aD->aP->Prop}
theorem vb(d:PlainAttrs T)(slot:Slot T name id)(e:typeOf (.builtin id)=pure (.type "method_descriptor"))(hm:sL X id r)(f:bL X o to)
 (g:pJ o name X.env (eval o X.env)=eval o X.env:=by rfl)(j:(i.endLine==c.line)=aC:=by rfl):bL X (.Call (.Attribute o name i) [] [] c) (RA X.K T r to):=by
 refine⟨?_⟩;intro U s Y H Q I h;refine wpAny_Call_method0_late g j (cD (f U s Y H _ I h) λv s1 ⟨x,z,a,b,ty,k⟩=>?_);obtain⟨h1,h2⟩:=Dy a b ty;exact⟨T,id,d,slot,e,h1,h2,t6 O (PySem.evalArgs_none (hm U s1 Y z x [] v [] Q a b .nil k))⟩
theorem k7(f:PlainAttrs T)(slot:Slot T name id)(g:typeOf (.builtin id)=pure (.type "method_descriptor"))(hm:sL X id r)(j:bL X o to)(k:jf X (e::es) t)
 (l:pJ o name X.env (eval o X.env)=eval o X.env:=by rfl)
 (m:((backTo c (dA (e::es) X.env)).all (λx=>!x.1)&&(lL c (lI [] X.env)).all (λx=>x.1.isSome)
   && decide ((e::es).length+([]:List Keyword).length+(if ([]:List Keyword).isEmpty then 0 else 1)<30))=aC:=by rfl)
 (n:(i.endLine==c.line)=aC:=by rfl)(p:dA (e::es) X.env=(aJ,eval e X.env)::dA es X.env:=by rfl)(q:(backTo c (dA es X.env)).any (·.1)=aJ:=by rfl) :
  bL X (.Call (.Attribute o name i) (e::es) [] c) (zG X.K T r to t):=by
 refine⟨?_⟩;intro U s Y H Q I h;refine wpAny_Call_method_late l m n O (cD (j U s Y H _ I h) λv s1 ⟨x,z,a,b,ty,u⟩=>?_);obtain⟨h1,h2⟩:=Dy a b ty;refine⟨T,id,f,slot,g,h1,h2,?_⟩;have d:=k c U s1 Y z _ a u;rw[p]at d ⊢;refine t6 (by show(aJ||(backTo c (dA es X.env)).any (·.1))=aJ;rw[q]<;>rfl) (r5 ?_);exact cD d λus w ⟨vs,H2,y,A,B⟩=>hm U w Y H2 x vs v us Q y b A B
end
def xR(X:aZ)(id:String)(r:V->List V->aD->aP->Prop):Prop:=
 ∀(U:List (aB×aY))(s:aK)(Y:St)(H:aD)(x:V)(xs:List V)(v:aE)(us:List aE)(Q:aP),Inv X U Y H s->cK x v->cB xs us->r x xs H Q ->
  aU (aX X.prog X.w) X.A (call (.builtin id) (v::us)) (gG X U Y Q) X.xe s
theorem cB.one:∀{x:V} {us:List aE},cB [x] us->∃u,us=[u]/\cK x u
 |_,_,.cons r .nil=>⟨_,O,r⟩
theorem cB.two:∀{x y:V} {us:List aE},cB [x,y] us->∃u v,us=[u,v]/\cK x u/\cK y v
 |_,_,_,.cons r (.cons q .nil)=>⟨_,_,O,r,q⟩
theorem cB.zero:∀{us:List aE},cB [] us->us=[]
 |_,.nil=>rfl
theorem cB.eraseIdx:∀{xs:List V} {us:List aE} (i:Nat),cB xs us->cB (xs.eraseIdx i) (us.eraseIdx i)
 |_,_,_,.nil=>.nil
 |_,_,0,.cons _ t=>t
 |_,_,i+1,.cons r t=>.cons r (cB.eraseIdx i t)
theorem Bc{q:Type}:∀(l:List q)(i:Nat),(l.eraseIdx i).length<=l.length
 |[],_=>bQ _
 |_::_,0=>nq _
 |_::r,i+1=>Nat.succ_le_succ (Bc r i)
section
variable{X:aZ}{U:List (aB×aY)}{Y:St}{H:aD}{s:aK}{l b:aB}{xs ys zs:List V}
theorem Inv.lset{a its':List aE}{n:Nat}{f:Array aE->Array aE}{t':Nat}(I:Inv X U Y H s)(b:H l=some (.lst xs))
 (e:s.heap.get? l=some {cls:=.type "list",data:=.seq a.toArray n})(c:f a.toArray=its'.toArray)(d:cB ys its')(g:ys.length<=dH) :
  Inv X U Y (aI H l (.lst ys)) {s with heap:=s.heap.update l (ja f),toks:=t'}:=by
 have q:=PySem.IsL.update e f;rw[c]at q;refine I.write (x:=l) (e:=l) (by rw[b];exact trivial) VG (λj u h i=>(kE s.heap (ja f) (Ne.symm h)).trans i) ⟨_,q⟩ ?_;exact⟨g,its',_,d,q⟩
theorem Inv.lnew(I:Inv X U Y H s)(b:cB ys a)(c:ys.length<=dH) :
  Inv X U Y (aI H s.heap.objs.size (.lst ys)) {s with heap:=s.heap.push {cls:=.type "list",data:=.seq a.toArray},toks:=t'}:=
 I.laid (λ_ _ q=>dM _ q) (bQ _) ⟨c,a,0,b,gF _ O⟩
theorem Inv.fresh(I:Inv X U Y H s):H s.heap.objs.size=aG:=I.hok.fresh (bQ _)
theorem Inv.lstM(I:Inv X U Y H s)(b:H l=some (.lst xs)):xs.length<=dH/\∃(a:List aE)(n:Nat),cB xs a/\xs.length=a.length/\s.heap.get? l=some {cls:=.type "list",data:=.seq a.toArray n}:=by
 obtain⟨c,a,n,r,e⟩:=I.hok l _ b;exact⟨c,a,n,r,r.length,e⟩
end
section
variable{X:aZ}
inductive Gy(x:V)(vs:List V)(H:aD)(Q:aP):Prop
 |mk:∀l xs y,x=.ref l->vs=[y]->H l=some (.lst xs)->xs.length<dH->Q .non (aI H l (.lst (xs++[y])))->Gy x vs H Q
theorem nC:xR X "list.append" Gy:=by
 intro U s Y H x vs v us Q I c d h;obtain⟨l,xs,y,rfl,rfl,a,g,q⟩:=h;cases c;obtain⟨u,rfl,f⟩:=d.one;obtain⟨i,b,n,r,j,e⟩:=I.lstM a;refine call_meets F.slot_list_append ⟨_,e,O⟩ F.entry_list_append (F.args_list_append_2 _ _) (PySem.list_append l b.toArray n u (by rw[eO];omega)) ⟨e,?_⟩;refine⟨.non,_,I.lset (its':=b++[u]) a e (by simp) (r.append (.cons f .nil)) ?_,O,q⟩;rw[eW,li];omega
inductive Ti(x:V)(vs:List V)(H:aD)(Q:aP):Prop
 |mk:∀l b xs zs,x=.ref l->vs=[.ref b]->H l=some (.lst xs)->H b=some (.lst zs)->xs.length+zs.length<=dH->Q .non (aI H l (.lst (xs++zs)))->Ti x vs H Q
inductive Tq(x:V)(vs:List V)(H:aD)(Q:aP):Prop
 |mk:∀l xs y,x=.ref l->vs=[]->H l=some (.lst xs)->xs[xs.length-1]?=some y->Q y (aI H l (.lst xs.dropLast))->Tq x vs H Q
inductive GI(x:V)(vs:List V)(H:aD)(Q:aP):Prop
 |mk:∀l xs i k y,x=.ref l->vs=[.int i]->H l=some (.lst xs)->-(2^63)<=i->i<2^63->seqIndex? i xs.length=some k->xs[k]?=some y->Q y (aI H l (.lst (xs.eraseIdx k)))->GI x vs H Q
theorem Cn:xR X "list.pop" GI:=by
 intro U s Y H x vs v us Q I c d h;obtain⟨l,xs,i,k,y,rfl,rfl,b,h1,h2,f,g,q⟩:=h;cases c;obtain⟨u,rfl,j⟩:=d.one;obtain⟨t,rfl⟩:=j;obtain⟨z,a,n,r,m,e⟩:=I.lstM b;obtain⟨w,o,p⟩:=r.get g;refine call_meets F.slot_list_pop ⟨_,e,O⟩ F.entry_list_pop (F.args_list_pop_2 _ _)
  (MeetsSeq.list_pop_at l a.toArray n i t k w (fitsIndex_both h1 h2) (by rw[eO,←m];exact f) (by rw[←qA];exact o) (by rw[eO];omega)) ⟨e,?_⟩
 refine⟨y,_,I.lset (its':=a.eraseIdx k) b e ?_ (r.eraseIdx k) ?_,p,q⟩
 .show a.toArray.eraseIdxIfInBounds k=(a.eraseIdx k).toArray;rw[List.eraseIdxIfInBounds_toArray]
 .have:=Bc xs k;omega
inductive Ts(x:V)(vs:List V)(H:aD)(Q:aP):Prop
 |mk:∀l xs,x=.ref l->vs=[]->H l=some (.lst xs)->Q .non (aI H l (.lst xs.reverse))->Ts x vs H Q
inductive Tg(x:V)(vs:List V)(H:aD)(Q:aP):Prop
 |mk:∀l xs,x=.ref l->vs=[]->H l=some (.lst xs)->Q .non (aI H l (.lst []))->Tg x vs H Q
inductive Gz(x y:V)(H:aD)(Q:aP):Prop
 |mk:∀l b xs zs,x=.ref l->y=.ref b->H l=some (.lst xs)->H b=some (.lst zs)->xs.length+zs.length<=dH->(∀p,H p=aG->Q (.ref p) (aI H p (.lst (xs++zs))))->Gz x y H Q
theorem o9:fO X (kR .Add) Gz:=by
 intro U s Y H x y v u Q I d f h;obtain⟨l,b,xs,zs,rfl,rfl,g,i,m,q⟩:=h;cases d;cases f;obtain⟨o,a,n,r,p,e⟩:=I.lstM g;obtain⟨t,c,w,j,z,k⟩:=I.lstM i;refine PySem.P.add_list e k ?_ (by rw[eO,eO];omega);have ea:a.toArray++c.toArray=(a++c).toArray:=by simp
 rw[ea];exact⟨.ref _,_,I.lnew (t':=s.toks) (r.append j) (by rw[eW];omega),O,q _ I.fresh⟩
inductive Tr(x y:V)(H:aD)(Q:aP):Prop
 |mk:∀l k xs,x=.ref l->y=.int k->H l=some (.lst xs)->-(2^63)<=k->k<2^63->xs.length*k.toNat<=dH->(∀p,H p=aG->Q (.ref p) (aI H p (.lst (uG k.toNat xs).flatten)))->Tr x y H Q
end
end L2
namespace Att
open PySem PySem.W PySem.Calls PyProof.Rows
theorem Un:∀(ns:List Int)(vs:List aE),WellAll P h vs (ns.map WData.int)->IntsAre vs ns:=by
 intro ns
 induction ns with
 |nil=>
  intro vs w;rw[lF]at w;cases w;exact .nil
 |cons n ns c=>
  intro vs w;rw[dW]at w;cases w with
  |cons a b=>
   cases a;exact .cons _ _ (c _ b)
theorem Mj{l:OpenLaw}{n:Nat}(i:l.most=some n){P:Params}{h:bE}{args:List WData}{e:List aE}
 (f:l.row.toRowW.claim.pre args=aC)(j:WellAll P h e args) :
  ∃a vs ns,e=[cZ a]/\args=[WData.list (ns.map WData.int)]/\h.get? a=some {cls:=.type "list",data:=.seq vs.toArray}/\IntsAre vs ns/\ns.length<=n:=by
 have k:WShape.hasAll [] args [.list .int]=aC:=(pre_splitW f).1;have g:l.pre.holds [] {args:=args}=aC:=(pre_splitW f).2;obtain⟨d,r,rfl,h1,h2⟩:=hasAllW_cons k;obtain rfl:=hasAllW_nil h2;obtain⟨xs,rfl,m⟩:=hasW_list h1;obtain⟨ns,rfl⟩:=items_int m;have o:ns.length<=n:=by
  unfold OpenLaw.pre at g;have b:(WTm.not (.lt (.lit (.int (n:Int))) (.len (.arg 0)))).holds [] {args:=[.list (ns.map .int)]}=aC:=by
   have b:=(holds_andW g).1;rw[i]at b;exact b
  have c:=condW_of b (w_not (w_lt w_lit (w_len_list (w_arg O))));rw[aS]at c;refine xA λq=>?_;have p:(n:Int)<((ns.length:Nat):Int):=VF
  first
   |(rw[decide_eq_true p]at c;exact absurd c VD)
   |(simp at c;omega)
 cases j with
 |cons s t=>
  cases t;cases s with
  |list u w=>exact⟨_,_,ns,O,O,u,Un ns _ w,o⟩
theorem Ms(l:OpenLaw)(args:List WData):l.row.toRowW.claim.post args (.bool aC) args=aC:=
 postW_of (r:=l.row.toRowW) (X:=(aC==aC))
  (show WShape.has [] (.bool aC) .bool=aC by first|rfl|decide|simp[WShape.has,WShape.arms,WShape.armsAll])
  (show(WTm.eq .res (.lit (.bool aC))).value [] {args:=args,res:=some (.bool aC),after:=args}=some (.bool (aC==aC)) from w_eq_bool (w_res O) w_lit) O
theorem UQ{l:OpenLaw}{n:Nat}{q:bT}{h:List aA}{i:(aA->Option aE)->bE->Prop}{j:bN->bE->Prop}{d:DefRec}
 (m:l.most=some n)(p:d.params.defaults=[])
 (call:∀(w:bN)(e b:aK)(mg g:aA->Option aE)(c:aB)(o:aY)(pm cd doc:aE)(a:aB)(vs:List aE)(ns:List Int),
   Ground q h [] i w e mg g b.heap->j w b.heap ->
   b.heap.get? c=some o->o.data=.func (docDef d.name d.params d.body d.scope pm cd doc)->b.heap.CodeRec cd d.name->mg d.name=some (.ref c) ->
   b.heap.get? a=some {cls:=.type "list",data:=.seq vs.toArray}->IntsAre vs ns->ns.length<=n->b.gens=#[] ->
   codeAny (aX l.prog w) callerA (.call (.ref c) ⟨[.ref a],[]⟩) (λr L=>r=.ok (.ret (.bool aC))/\OldK b.heap L.heap/\L.os=b.os/\AllBare L.gens) b) :
  WalkO q h i j l.row.toRowW d [] (λf vs=>PySem.call f vs):=by
 intro w e b mg g G s c o pm cd doc t kV u x y k z A args N as B Q T C U;obtain rfl:t=.none:=Dflts.none k p;obtain rfl:kV=.none:=Dflts.noKw k;obtain⟨a,vs,ns,rfl,rfl,D,E,H⟩:=Mj m B C;refine enter_call (nl (call w e b mg g c o pm cd doc a vs ns G s u (fd_plain x) y z D E H A) λr L I=>?_);obtain⟨rfl,h2,J,M⟩:=I;exact⟨.inl ⟨.bool aC,.bool aC,[],O,λ_=>O,.bool aC,Ms l _,λ_=>⟨List.Pairwise.nil,λ_ hm=>(nomatch hm)⟩⟩,h2,J,M⟩
section
variable{prog:bT}{w:bN}{A:bX}{E:aE->aK->Prop}{s:aK}{K:Frag}
end
end Att
namespace L2
open PySem PySem.Spec PyProof.Rows
theorem AI:∀{vs:List aE} {ns:List Int},IntsAre vs ns->cB (ns.map V.int) vs
 |_,_,.nil=>.nil
 |_,_,.cons n t h=>.cons ⟨t,O⟩ (AI h)
noncomputable def kx(s:bS)(j:Nat):bS:=match s with
 |.ClassDef _ _ _ body _ _ _ _ _ _ _=>body.getD j (.Pass ⟨0,0,0,0⟩)
 |_=>.Pass ⟨0,0,0,0⟩
noncomputable def nF(s:bS):oK:=match s with
 |.FunctionDef _ a _ _ _ _ _ _ _ _=>a
 |_=>{posonlyargs:=[],args:=[],vararg:=aG,kwonlyargs:=[],kw_defaults:=[],kwarg:=aG,defaults:=[]}
def jC(s:bS):List bS:=match s with
 |.FunctionDef _ _ b _ _ _ _ _ _ _=>b
 |_=>[]
noncomputable def bP(s:bS):jI:=match s with
 |.FunctionDef _ _ _ _ _ _ a _ _ _=>a
 |_=>{kind:=.function,names:=[],isGenerator:=aJ,isCoroutine:=aJ}
abbrev jb:mH:=λ_ _ _ _ _ _=>False
abbrev lM:dL:=λ_ _ _=>False
theorem vl:oj jb X lM:=λ_ _ _ _ _ _ _ h=>h.elim
structure lN (K:bI) (x j:aA) (st:bS) (f:aB) (fd:iW):Prop where
 ex:∃(oc:aE)(od:Option aB)(kV doc pm:aE)(an:Option aB)(cdv ct:aE)(osl:Array (Option aE)),
  fd=l9 x j (nF st) (jC st) (bP st) .none kV doc pm an cdv ct/\K.lookup f=some ⟨oc,od,.func fd,osl⟩/\qG K cdv j=aC
 kp:mG K (.ref f)=aC
section
variable{P:bT}{w:bN}{K:bI}{mg:aA->Option aE}{base:bE}
theorem lN.ok{x j:aA}{st:bS}{f:aB}{fd:iW}{N ps:List aA}{k:Nat}{sp:cA}(F:lN K x j st f fd)(S:cN N ps (bP st))(len:∀vs H Q E,sp vs H Q E->vs.length=ps.length)
 (b:∀(a:aE)(A:bX)(outer:List eP)(s:aK)(H:aD)(vs:List V)(Q:aP)(E:dL),eQ k (A.deeper (envOfC j (bP st) s.heap.objs.size f a))->sp vs H Q E ->
   ∃t,iQ (iH jb P w K mg base N j (bP st) f a A outer s H E).nox (jC st) t/\t {nx:=λ_ H'=>Q .non H',rt:=Q} (start N vs) H):iP P w K mg base jb (k+1) f fd ps sp:=by
 obtain⟨g,i,kV,doc,pm,l,a,m,n,rfl,lk,c⟩:=F.ex;refine yP lk c S len λA outer s H vs Q E d e=>?_;obtain⟨t,h,q⟩:=b a A outer s H vs Q E d e;exact⟨t,h.nox,q⟩
theorem lN.binds{x j:aA}{st:bS}{f:aB}{fd:iW}{ps:List aA}(F:lN K x j st f fd)
 (h:∀(kV doc pm:aE)(a:Option aB)(b c:aE)(us:List aE),us.length=ps.length->pS (l9 x j (nF st) (jC st) (bP st) .none kV doc pm a b c) ⟨us,[]⟩=pure (ps.zip us)):kj K fd ps []:=by
 obtain⟨d,e,kV,doc,pm,a,b,c,g,rfl,lk,i⟩:=F.ex;exact .all (h kV doc pm a b c)
theorem rR{x j:aA}{st:bS}{f:aB}{e:aE}{g b:Option aB}{h:Array (Option aE)}{kV doc pm a d:aE}(l:K.lookup f=some ⟨e,g,.func (l9 x j (nF st) (jC st) (bP st) .none kV doc pm b a d),h⟩)
 (c:qG K a j=aC)(k:mG K (.ref f)=aC):lN K x j st f (l9 x j (nF st) (jC st) (bP st) .none kV doc pm b a d):=⟨⟨e,g,kV,doc,pm,b,a,d,h,O,l,c⟩,k⟩
end
theorem j7(a:eQ k A):A.units+1<cLine:=xq (Nat.add_le_add_left (by decide:1<=64) _) a.units
section
variable{X:aZ}
theorem pv(i:Nat)(a:X.N[i]?=some x:=by rfl)(b:sO X.env.scope x:=by trivial)(c:(x==("__debug__":aA))=aJ:=by decide)
 (d:(x==("__classdict__":aA))=aJ:=by decide):bL X (.Name x pos) (tQ i):=PH a b c d
end
theorem cG{A B:Prop}(h:B):if aJ=aC then A else B:=by
 rw[if_neg fX];exact h
theorem cU{A B:Prop}(h:A):if aC=aC then A else B:=by
 rw[if_pos O];exact h
theorem jO{c A B:Prop}[Decidable c](h1:c->A)(h2:¬c->B):if c then A else B:=by
 by_cases h:c
 .rw[if_pos h];exact h1 h
 .rw[if_neg h];exact h2 h
def aM(H H':aD):Prop:=∀b o,H b=some o->H' b=some o
theorem aM.refl(H:aD):aM H H:=λ_ _ h=>h
theorem aM.trans(a:aM H z)(b:aM z H2):aM H H2:=λc o h=>b c o (a c o h)
theorem aM.free(e:aM H H')(h:H' l=Option.none):H l=Option.none:=by
 cases q:H l with
 |none=>rfl
 |some o=>
  rw[e l o q]at h;cases h
theorem aM.seq{K:bI}{H H':aD}{a:aB}{xs:List V}(e:aM H H')(h:aT K H a xs):aT K H' a xs:=by
 rcases h with (h|⟨o,h⟩)|h
 .exact .inl (.inl (e _ _ h))
 .exact .inl (.inr ⟨o,e _ _ h⟩)
 .exact .inr h
section
variable{X:aZ}
theorem By:iY X (.builtin "len") (λxs H Q=>∃a J,xs=[V.ref a]/\H a=some (.dK J)/\Q (.int J.length) H):=by
 intro U s Y H xs us Q I r h;obtain⟨a,J,rfl,b,q⟩:=h;obtain⟨u,rfl,c⟩:=ph r;cases c;exact Rq I (.inl b) λt L d=>⟨.int J.length,H,d,⟨t,O⟩,q⟩
end
section
variable{f:Type}[DecidableEq f]
theorem MY{J:List (f×V)}{k:f}(h:fE J k=aG):¬k∈J.map (·.1):=by
 intro m;obtain⟨p,a,e⟩:=cP.mp m;have q:(J.any λb=>decide (b.1=k))=aC:=sd.mpr ⟨p,a,decide_eq_true e⟩;rw[tA,h]at q;exact absurd q (by simp)
theorem Oa{J:List (f×V)}{k:f}{v:V}(h:fE J k=some v):k∈J.map (·.1):=by
 have q:(J.any λa=>decide (a.1=k))=aC:=by
  rw[tA,h]
  all_goals rfl
 obtain⟨p,b,e⟩:=sd.mp q;exact cP.mpr ⟨p,b,of_decide_eq_true e⟩
end
end L2
namespace Tx
open PySem PySem.Builtin PySem.Builtin.Str
noncomputable def cl(n d:Nat):Option Int->Nat
 |none=>d
 |some i=>(max 0 (min (if i<0 then i+n else i) n)).toNat
theorem UT(n d k:Nat):cl n d (some (k:Int))=min k n:=by
 show(max 0 (min (if (k:Int)<0 then(k:Int)+n else(k:Int)) n)).toNat=min k n;rw[if_neg VF];omega
theorem EL(n d:Nat)(a:d<=n):∀o,cl n d o<=n
 |none=>a
 |some i=>by
  show(max 0 (min (if i<0 then i+n else i) n)).toNat<=n;omega
theorem LG(lo hi:Option Int)(n:Nat):strSliceIndices lo hi 1 n=(fH (cl n n hi-cl n 0 lo)).map (cl n 0 lo+·):=by
 have h1:∀(v:Option Int)(d:Nat),d<=n->(match v with|none=>(d:Int)|some i=>if (1:Int)>0 then max 0 (min (if i<0 then i+n else i) n) else max (-1) (min (if i<0 then i+n else i) (n-1)))=((cl n d v:Nat):Int):=by
  intro v d c;cases v with
  |none=>rfl
  |some i=>
   show(if (1:Int)>0 then max 0 (min (if i<0 then i+n else i) n) else max (-1) (min (if i<0 then i+n else i) (n-1)))=(((max 0 (min (if i<0 then i+n else i) n)).toNat:Nat):Int)
   rw[if_pos VD];omega
 rw[←sliceRange_one];unfold strSliceIndices;have a:=h1 lo 0 (jo _);have b:=h1 hi n (bQ _);simp only[show(1:Int)>0 by decide,if_true]at a b ⊢;congr 1
theorem Vy(x:aA)(lo hi:Option Int):(ma x lo hi).cps.toList=(x.cps.toList.drop (cl x.length 0 lo)).take (cl x.length x.length hi-cl x.length 0 lo):=by
 unfold ma;rw[LG];split
 .rename_i h;have h':cl x.length x.length hi-cl x.length 0 lo=x.length:=by
   have:=(iV.mp h).2;have:=beq_iff_eq.mp this;simpa using this
  have h2:=EL x.length x.length (bQ _) hi;have b:=EL x.length 0 (jo _) lo;have a:cl x.length 0 lo=0:=VF;rw[h',a,uH,dY];show x.cps.toList.length<=x.cps.size;simp
 .rw[pick_run]
theorem UO(a b:aA):(a++b).cps.toList=a.cps.toList++b.cps.toList:=by
 simp[aA.cps_append]
theorem UP(a b:aA):(a++b).length=a.length+b.length:=aA.length_append a b
end Tx
set_option maxHeartbeats 4000000
namespace L2
open PySem PySem.Spec PyProof.Rows
theorem zm
 (h:∀n k j,f (n,k) j=if (k==jm)=aC then(cellOf env n>>=λc=>pure (l5 ((n,c)::j))) else pure (l5 j)) :
  ∀(l:List (aA×mB))(a:List (aA×aB)),
  (∀y∈l,y.2=.free->∃c,env.cells.lookup y.1=some c) ->
  (∀x c,a.lookup x=some c->env.cells.lookup x=some c) ->
  ∃cl,forIn l a f=(pure cl:Sem _)/\(∀x c,cl.lookup x=some c->env.cells.lookup x=some c)/\(∀x c,a.lookup x=some c->∃d,cl.lookup x=some d) /\
   ∀x,(x,jm)∈l->∃c,cl.lookup x=some c
 |[],a,_,i=>⟨a,O,i,λx c e=>⟨c,e⟩,λx m=>absurd m (by simp)⟩
 |(n,k)::r,a,w,i=>by
  have z:∀y∈r,y.2=.free->∃c,env.cells.lookup y.1=some c:=λy B=>w y (eY _ B);by_cases o:k=.free
  .subst o;obtain⟨c,A⟩:=w (n,.free) eJ O;have C:cellOf env n=pure c:=by
    have D:env.cells.lookup n=some c:=A;unfold cellOf;rw[D]
   have E:∀x d,lG x ((n,c)::a)=some d->env.cells.lookup x=some d:=λx d e=>by
    by_cases b:(x==n)=aC
    .rw[kF,b]at e;obtain rfl:=beq_iff_eq.mp b;cases e;exact A
    .have p:(x==n)=aJ:=by simpa using b
     rw[kF,p]at e;exact i x d e
   obtain⟨cl,s,t,g,u⟩:=zm h r ((n,c)::a) z E;refine⟨cl,?_,t,λx d e=>?_,λx m=>?_⟩
   .rw[uD,h,if_pos (beq_self_eq_true _),C,pure_bind,pure_bind];exact s
   .by_cases b:(x==n)=aC
    .exact g x c (by rw[kF,b])
    .have p:(x==n)=aJ:=by simpa using b
     exact g x d (by rw[kF,p];exact e)
   .rcases eM.mp m with q|q
    .have G:x=n:=congrArg Prod.fst q;subst G;exact g x c (by rw[kF,beq_self_eq_true])
    .exact u x q
  .have H:(k==jm)=aJ:=by simpa using o
   obtain⟨cl,s,t,g,u⟩:=zm h r a z i;refine⟨cl,?_,t,g,λx m=>?_⟩
   .rw[uD,h,H,if_neg fX,pure_bind];exact s
   .rcases eM.mp m with q|q
    .exact absurd (congrArg Prod.snd q).symm o
    .exact u x q
theorem AG(h:∀y∈scope.names,y.2=.free->∃c,env.cells.lookup y.1=some c) :
  ∃cl,sD scope env=pure cl/\(∀x c,cl.lookup x=some c->env.cells.lookup x=some c)/\∀x,(x,jm)∈scope.names->∃c,cl.lookup x=some c:=by
 obtain⟨cl,d,g,_,i⟩:=zm (env:=env) (f:=λ(x:aA×mB) a=>match x with|(name,b)=>if (b==jm)=aC then(cellOf env name>>=λc=>pure (l5 ((name,c)::a))) else pure (l5 a)) (λn k a=>O) scope.names [] h (λx c e=>by cases e);refine⟨cl,?_,g,i⟩;have:sD scope env=(forIn scope.names [] (λ(x:aA×mB) a=>match x with|(name,b)=>if (b==jm)=aC then(cellOf env name>>=λc=>pure (l5 ((name,c)::a))) else pure (l5 a))>>=λa=>pure a):=by
  first|rfl|(unfold sD;rfl)|(unfold sD;simp only[pure_bind,bind_pure])
 rw[this,d,pure_bind]
theorem Fp{env:eP}:∀{c:List (aA×mB)} {x:aA},c.lookup x=some .free ->
  (c.map λ(n,k)=>if (k==jm&&env.scope.kind==.function&&env.kindOf n==some .cell) then(n,ni) else(n,k)).lookup x=some .cell \/
  (c.map λ(n,k)=>if (k==jm&&env.scope.kind==.function&&env.kindOf n==some .cell) then(n,ni) else(n,k)).lookup x=some .free
 |[],_,h=>by simp at h
 |(n,k)::r,x,h=>by
  have d:=@Fp env r x;show lG x ((if (k==jm&&env.scope.kind==.function&&env.kindOf n==some .cell)=aC then(n,ni) else(n,k))::_)=_\/lG x ((if (k==jm&&env.scope.kind==.function&&env.kindOf n==some .cell)=aC then(n,ni) else(n,k))::_)=_;cases a:x==n with
  |true=>
   simp only[kF,a]at h;cases h;by_cases b:(jm==jm&&env.scope.kind==.function&&env.kindOf n==some .cell)=aC
   .rw[if_pos b];left;simp only[kF,a]
   .rw[if_neg b];right;simp only[kF,a]
  |false=>
   simp only[kF,a]at h;by_cases b:(k==jm&&env.scope.kind==.function&&env.kindOf n==some .cell)=aC
   .rw[if_pos b];simp only[kF,a];exact d h
   .rw[if_neg b];simp only[kF,a];exact d h
theorem FS{env:eP}:∀{b:List (aA×mB)} {x:aA},(∀y∈b,y.2≠.cell) ->
  ((b.map λ(n,k)=>if (k==jm&&env.scope.kind==.function&&env.kindOf n==some .cell) then(n,ni) else(n,k)).lookup x=some .cell \/
  (b.map λ(n,k)=>if (k==jm&&env.scope.kind==.function&&env.kindOf n==some .cell) then(n,ni) else(n,k)).lookup x=some .free)->(x,jm)∈b
 |[],_,_,h=>by rcases h with h|h<;>simp at h
 |(n,k)::r,x,d,h=>by
  have f:=@FS env r x (λy g=>d y (eY _ g));have h':lG x ((if (k==jm&&env.scope.kind==.function&&env.kindOf n==some .cell)=aC then(n,ni) else(n,k))::(r.map λ(n,k)=>if (k==jm&&env.scope.kind==.function&&env.kindOf n==some .cell) then(n,ni) else(n,k)))=some .cell \/
   lG x ((if (k==jm&&env.scope.kind==.function&&env.kindOf n==some .cell)=aC then(n,ni) else(n,k))::(r.map λ(n,k)=>if (k==jm&&env.scope.kind==.function&&env.kindOf n==some .cell) then(n,ni) else(n,k)))=some .free:=h
  cases c:x==n with
  |true=>
   obtain rfl:=beq_iff_eq.mp c;have i:k=.free:=by
    by_cases a:(k==jm&&env.scope.kind==.function&&env.kindOf x==some .cell)=aC
    .have:=(iV.mp (iV.mp a).1).1;exact beq_iff_eq.mp this
    .rw[if_neg a]at h';simp only[kF,c]at h';rcases h' with e|e
     .cases e;exact absurd O (d (x,.cell) eJ)
     .cases e;rfl
   subst i;exact eJ
  |false=>
   refine eY _ (f ?_);by_cases a:(k==jm&&env.scope.kind==.function&&env.kindOf n==some .cell)=aC
   .rw[if_pos a]at h';simp only[kF,c]at h';exact h'
   .rw[if_neg a]at h';simp only[kF,c]at h';exact h'
structure Ae where
 cl:List (aA×aB)
 C:aB
 s₀:aK
 H₀:aD
 ex:List aB
abbrev jZ (X:aZ) (scope:jI) (a:List aA) (R:Ae):aZ:=
 {prog:=X.prog,w:=X.w,K:=X.K,mg:=X.mg,base:=X.base,A:=X.A,N:=a,s₀:=R.s₀,H₀:=R.H₀,env:=compEnvC scope R.cl R.C X.env,outer:=X.stack,stack:=X.stack,ex:=R.ex,fn:=λ_=>aJ,calm:=X.calm,pn:=[],xe:=λ_ _=>False}
structure pW (X:aZ) (ifs:List bJ) (t:TT):Prop where
 run:∀(U:List (aB×aY))(s:aK)(Y:St)(H:aD)(Q:Bool->aD->Prop),Inv X U Y H s->t Y H Q ->
  aU (aX X.prog X.w) X.A (forIn ifs aC λc r=>if r=aC then do let ok ←isTrue c X.env (eval c X.env);pure (l5 ok) else pure (l5 r)) (q3 X U Y Q) X.xe s
instance {X:aZ} {a:List bJ} {t:TT}:CoeFun (pW X a t) λ_=>∀(U:List (aB×aY))(s:aK)(Y:St)(H:aD)(Q:Bool->aD->Prop),Inv X U Y H s->t Y H Q ->
  aU (aX X.prog X.w) X.A (forIn a aC λc r=>if r=aC then do let b ←isTrue c X.env (eval c X.env);pure (l5 b) else pure (l5 r)) (q3 X U Y Q) X.xe s:=⟨pW.run⟩
def QB:TT:=λ_ H Q=>Q aC H
theorem gN:pW X [] QB:=⟨λU s Y H Q I h=>wpAny_tests_nil ⟨H,I,h⟩⟩
theorem ke(h:kl X c t):pW X [c] t:=⟨λU s Y H Q I a=>wpAny_tests_one (h U s Y H Q I a)⟩
def sZ(b:Nat)(g:iX):Prop:=∀x Y H Q,g x Y H Q->g x Y H λa H2=>Q a H2/\a.length=Y.length/\∀i,b<=i->a[i]?=Y[i]?
theorem eN(h:i<a):sZ a (oo i):=λx Y H Q q=>
 ⟨q,by simp,λj b=>qB VF⟩
noncomputable def m7(a:Nat)(b:List Nat)(Y:St):St:=uG a aG++b.map λj=>(Y[j]?).join
theorem MW:(m7 a b Y).length=a+b.length:=by simp[m7]
theorem BB(h:(m7 a b Y)[i]?=some (some v)):∃j,a<=i/\b[i-a]?=some j/\Y[j]?=some (some v):=by
 unfold m7 at h;by_cases hi:i<a
 .rw[nN (by simpa using hi),List.getElem?_replicate]at h;rw[if_pos hi]at h;cases h
 .rw[qz (by simp;omega),List.length_replicate,dO]at h;cases e:b[i-a]? with
  |none=>rw[e]at h;cases h
  |some j=>
   rw[e]at h;refine⟨j,VF,O,?_⟩;have h':(Y[j]?).join=some v:=by simpa using h
   cases q:Y[j]? with
   |none=>rw[q]at h';cases h'
   |some o=>rw[q]at h';cases o with
    |none=>cases h'
    |some c=>cases h';rfl
theorem JK(I:Nat->aK->Prop)
 (q:∀n s,I n s->aU (aX prog w) A (pyNext it) (λr a=>match r with
   |none=>R (.ok .next) a
   |some v=>aU (aX prog w) A (uM d it v) (λ_ a=>aU (aX prog w) A (assign d env v) (λ_ k=>
     aU (aX prog w) A (forIn g aC λc r=>if r=aC then do let b ←isTrue c env (eval c env);pure (l5 b) else pure (l5 r)) (λb j=>
      if b=aC then aU (aX prog w) A (eval f env) (λx l=>
       aU (aX prog w) A (call (.builtin "list.append") [i,x]) (λ_ o=>∃m,m<n/\I m o) (notedBy (aX prog w) A env λe L=>R (.error e) L) l) (notedBy (aX prog w) A env λe L=>R (.error e) L) j
      else ∃m,m<n/\I m j) (notedBy (aX prog w) A env λe L=>R (.error e) L) k) (notedBy (aX prog w) A env λe L=>R (.error e) L) a) (notedBy (aX prog w) A env λe L=>R (.error e) L) a) (notedBy (aX prog w) A env λe L=>R (.error e) L) s)
 (n:Nat)(h:I n s) :
  codeAny (aX prog w) A (.compLoop (.ListComp f [⟨d,iter,g,0⟩] scope pos) 0 it i env) R s:=by
 refine codeAny_loop O I (λn s t=>?_) n h;show aU _ A ((compTurn (.ListComp f [⟨d,iter,g,0⟩] scope pos) 0 it i env).onRaise (λx=>do noteFrame x env;theTreesLotGoes x)) _ _ s;refine wpAny_noted ?_;rw[compTurn_list];refine aO (qL (aO (fL (q n s t) (λr a h₁=>?_) λ_ _ h'=>h')));cases r with
 |none=>exact bH h₁
 |some v=>
  refine aO (fL h₁ (λ_ C u=>?_) λ_ _ h'=>h');refine aO (fL u (λ_ k y=>aO (fL y (λb j p=>?_) λ_ _ h'=>h')) λ_ _ h'=>h');cases b with
  |false=>exact bH ⟨O,p⟩
  |true=>
   exact aO (aO (fL p (λx l z=>aO (fL z (λ_ o B=>bH (bH ⟨O,B⟩)) λ_ _ h'=>h')) λ_ _ h'=>h'))
abbrev wW:=Nat->Nat->List V->aD->Prop
def Er(f:St)(c:jr)(g:iX)(h:TT)(te:bG)(W:wW)(j:List V->aD->Prop)(i m:Nat)(ys:List V)(H:aD):Prop:=
 (c.stop i H/\j ys H) \/
 (c.go i H/\ys.length<dH/\∀x H',c.yld i H x H'->g x f H' λd H2=>h d H2 λb e=>
  if b=aC then te d e λy k=>∃a,a<m/\W (i+1) a (ys++[y]) k else ∃a,a<m/\W (i+1) a ys e)
def rd(a:St)(g:iX)(b:TT)(te:bG)(c:List V->aD->Prop)(d:jr)(z:aD):Prop:=∃W:wW,(∃m,W 0 m [] z)/\∀i m ys H,W i m ys H->Er a d g b te W c i m ys H
abbrev SE (te:bG) (K:aP) (c:aD->Prop) (d:St):Bool->aD->Prop:=λb a=>if b=aC then te d a K else c a
abbrev tr (b:TT) (te:bG) (K:aP) (c:aD->Prop):St->aD->Prop:=λa H2=>b a H2 (SE te K c a)
abbrev RS (Q:aP):List V->aD->Prop:=λys H'=>∀p,H' p=aG->Q (.ref p) (aI H' p (.lst ys))
structure Jo (X:aZ) (U:List (aB×aY)) (H:aD) (C:aB) (s:aK):Prop where
 ns:∃m,s.heap.Ns C m
 fr:H C=aG
 ne:C≠X.env.locals
 ab:X.s₀.heap.objs.size<=C
 cl:∀x c,X.env.cells.lookup x=some c->c≠C
 pn:∀p∈X.pn++U,p.1≠C
theorem AE{X:aZ}{U:List (aB×aY)}{Y:St}{t:aK}{G:aD}{ap iter tg:bJ}{aq:List bJ}{scope:jI}{pos:Pos}{w:List aA}{nt:Nat}{a1:List Nat}{g:iX}{ba:TT}{te:bG}{cl:List (aA×aB)}
 {it:aB}{fp:List aB}{ah:Nat->bE->Prop}{J:jr}{Q:List V->aD->Prop}{E:aE->aK->Prop}
 (bb:X.calm=aC)(s:Inv X U Y G t)(T:oO X.prog X.w X.K tg J fp it ah)(st:ah 0 t.heap)(I:∀b∈fp,n2 X U G b)
 (a2:∀x c,cl.lookup x=some c->X.env.cells.lookup x=some c)(bc:∀x,(x,jm)∈scope.names->∃c,cl.lookup x=some c)
 (bd:∀y∈scope.names,y.2≠.cell)(be:scope.kind=.function)
 (bW:∀y∈scope.names,y.2=.free->(X.env.kindOf y.1=some .cell\/X.env.kindOf y.1=some .free))
 (c0:w.length=nt+a1.length)(c1:∀(k j:Nat),a1[k]?=some j->w[nt+k]?=X.N[j]?)(c2:∀x∈w.drop nt,scope.names.lookup x=some .free)
 (c3:∀R,nv (jZ X scope w R) tg g)(c4:sZ nt g)(c5:∀R,pW (jZ X scope w R) aq ba)(c6:∀R,bL (jZ X scope w R) ap te)
 (h:∃W:wW,(∃m,W 0 m [] G)/\∀i m ys H,W i m ys H->Er (m7 nt a1 Y) J g ba te W Q i m ys H)
 {RR:aE->aB->Result->aK->Prop}
 (c7:∀D C L H' ys,H' D=aG->Q ys H'->Inv X U Y (aI H' D (.lst ys)) L->Jo X U (aI H' D (.lst ys)) C L->RR (.ref D) C (.ok .next) L) :
  aU (aX X.prog X.w) X.A (newList []) (λbf c8=>aU (aX X.prog X.w) X.A (newFunctionEnv scope X.env.globals cl [] X.env.qual aG .none (some X.env)) (λbg c9=>
   codeAny (aX X.prog X.w) X.A (.compStart (.ListComp ap [⟨tg,iter,aq,0⟩] scope pos) 0 (.ref it) bf {bg with scope:=relabel scope X.env}) (RR bf bg.locals) c9) E c8) E t:=by
 obtain⟨W,⟨ca,cb⟩,bh⟩:=h;refine ng (wpAny_newFunctionEnv bd (by intro y cc;simp at cc) (λh₁ ai ac=>?_) be);dsimp only at ai ac ⊢;generalize ar:t.heap.push {cls:=.type "list",dict:=aG,data:=.seq ([]:List aE).toArray}=bi at ai ac ⊢;have bj:bi.objs.size=t.heap.objs.size+1:=by rw[←ar,pG]
 generalize cd:t.heap.objs.size=D at bj ⊢;generalize de:bi.objs.size=C at ai ac bj ⊢;have as:D≠C:=VF;have below:∀b,b<t.heap.objs.size->b≠C/\b≠D:=λb f=>by omega
 have a8:∀b o,t.heap.get? b=some o->h₁.get? b=some o:=λb o e=>ac.extBut b o (below b (dQ e)).1 (dM _ (ar▸dM _ e));have ce:h₁.get? D=some {cls:=.type "list",data:=.seq ([]:List aE).toArray}:=ac.extBut _ _ as (dM _ (by rw[←ar,←cd];exact gF _ O));have cf:G D=aG:=s.hok.fresh VF;have cg:G C=aG:=s.hok.fresh VF;have ch:∀b∈fp,∃o,t.heap.get? b=some o/\∀v,o.data≠.cell v:=T.obj 0 _ st;have ae:∀b∈fp,b<t.heap.objs.size:=λb f=>let ⟨o,e,_⟩:=ch b f;dQ e;have bk:∀x c,X.env.cells.lookup x=some c->c<t.heap.objs.size:=λx c e=>let ⟨v,z⟩:=s.cell x c e;z.lt;have ci:∀p∈X.pn++U,p.1<t.heap.objs.size:=λp A=>dQ (s.pin p A).1
 let R:Ae:=⟨cl,C,t,G,fp⟩
 have bl:(jZ X scope w R).Ok:={
  mod:=s.mod
  kind:=be
  glob:=s.ok.glob
  blt:=s.ok.blt
  above:=(by show t.heap.objs.size<=C;omega)
  inj:=λx y c aj au=>s.ok.inj x y c (a2 x c aj) (a2 y c au)
  has:=λx a4=>bc x (FS bd a4)
  cab:=λx c a4 _=>by cases a4
  hd:=s.ok.hd
  frames:=s.ok.frames
  stk:=.inl O
  exf:=λb f=>⟨(below b (ae b f)).1,λx c e=>(I b f).2.2.2.2.1 x c (a2 x c e)⟩
  bs:=s.bs
  bsz:=fF s.ok.bsz s.sz
  noex:=λb o e f=>by
   rcases (I b f).2.2.2.1 with z|z
   .exact s.ok.noex b o e z
   .exact absurd (iK (dQ e) (fF s.ok.bsz z)) (nj _)
  exfs:=λb f z=>by
   rcases eM.mp (s.stkSub b z) with q|q
   .exact(I b f).2.1 q
   .exact(I b f).2.2.1 q
  funs:=s.stack
  frf:=s.stkFree}
 have cj:∀a,t.heap.objs.size<=a->a∉gO X.stack:=λa bm z=>by
  rcases eM.mp (s.stkSub a z) with q|q
  .exact absurd (iK s.lt bm) (by rw[q];exact nj _)
  .exact s.nofs bm q
 have af:t.heap.objs.size<=D:=VF;have ak:t.heap.objs.size<=C:=VF;have av:∀{H':aD} {aw:aY},(∀b∈fp,H' b=aG)->∀b∈fp,n2 (jZ X scope w R) [(D,aw)] H' b:=λ{H' aw} al b f=>
  ⟨al b f,(below b (ae b f)).1,bl.exfs b f,.inl f,λx c e=>(I b f).2.2.2.2.1 x c (a2 x c e),λp A=>by
   have e:p=(D,aw):=by simpa using A
   rw[e];exact Ne.symm (below b (ae b f)).2⟩
 have ck:∀tk,Inv (jZ X scope w R) [(D,{cls:=.type "list",data:=.seq ([]:List aE).toArray})] (m7 nt a1 Y) G {t with heap:=h₁,toks:=tk}:=λtk=>{
  ok:=bl
  os:=O
  bare:=s.bare
  base:=eC.kept a8
  loc:=by
   refine⟨_,ai,λi x v aj au df=>?_⟩;obtain⟨j,hi,ax,cm⟩:=BB au;have a4:X.N[j]?=some x:=by
    rw[←c1 _ _ ax,show nt+(i-nt)=i by omega];exact aj
   have cn:x∈w.drop nt:=by
    refine dN (i:=i-nt) ?_;rw[um,show nt+(i-nt)=i by omega];exact aj
   have bn:=c2 x cn;have bo:(x,jm)∈scope.names:=by
    have:∀(l:List (aA×mB)),l.lookup x=some .free->(x,jm)∈l:=by
     intro l
     induction l with
     |nil=>intro q;cases q
     |cons a r co=>
      intro q;obtain⟨n,k⟩:=a;cases ay:x==n with
      |true=>
       rw[kF,ay]at q;obtain rfl:=beq_iff_eq.mp ay;cases q;exact eJ
      |false=>
       rw[kF,ay]at q;exact eY _ (co q)
    exact this _ bn
   have bp:=bW (x,.free) bo O;obtain⟨m,al,cp⟩:=s.loc;have cq:sO X.env.scope x:=by
    rcases bp with k|k
    .exact .inr (.inl k)
    .exact .inr (.inr k)
   obtain⟨u,cr,lk⟩:=cp j x v a4 cm cq;refine⟨u,cr,?_⟩;rcases lk with ⟨k,_⟩|⟨k,c,cs,ct⟩
   .exfalso;rcases bp with z|z
    .rw[z]at k;cases k
    .rw[z]at k;cases k
   .obtain⟨d,hd⟩:=bc x bo;have bq:=a2 x d hd;rw[cs]at bq;cases bq;refine .inr ⟨Fp bn,c,hd,?_⟩;obtain⟨o,az,aR⟩:=ct;exact⟨o,a8 c o az,aR⟩
  cell:=λx c e=>by
   obtain⟨v,o,az,aR⟩:=s.cell x c (a2 x c e);exact⟨v,o,a8 c o az,aR⟩
  free:=cg
  freeC:=λx c e=>s.freeC x c (a2 x c e)
  pin:=λp A=>by
   have e:p=(D,{cls:=.type "list",data:=.seq ([]:List aE).toArray}):=by simpa using A
   subst e;exact⟨ce,cf,as,cj D af,λv z=>by cases z⟩
  hok:=s.hok.kept a8
  len:=by rw[MW,c0]}
 have loop:∀tk,codeAny (aX X.prog X.w) X.A (.compLoop (.ListComp ap [⟨tg,iter,aq,0⟩] scope pos) 0 (.ref it) (.ref D) (compEnvC scope cl C X.env)) (RR (.ref D) C) {t with heap:=h₁,toks:=tk}:=by
  intro tk;refine JK (λn L=>∃i ys H' B k,Inv (jZ X scope w R) [(D,{cls:=.type "list",data:=.seq B.toArray k})] (m7 nt a1 Y) H' L/\ah i L.heap/\(∀b∈fp,H' b=aG)/\cB ys B/\ys.length<=dH/\W i n ys H') ?_ ca
   ⟨0,[],G,[],0,ck tk,T.keep _ _ _ st λb f o e=>a8 b o e,λb f=>(I b f).1,.nil,jo _,cb⟩
  rintro n br ⟨i,ys,a3,B,k,b0,bt,bu,am,bv,cu⟩;have dg:=b0.pin (D,{cls:=.type "list",data:=.seq B.toArray k}) (by simp);rcases bh i n ys a3 cu with ⟨cv,cw⟩|⟨cx,cy,step⟩
  .-- dh end
   refine fL (T.done (jZ X scope w R) O O O bb i _ br _ a3 (λ_ _=>False) b0 (av bu) bt cv) (λr a9 ⟨b1,a5⟩=>?_) λ_ _ z=>z.elim;subst b1;have a6:=a5.pin (D,{cls:=.type "list",data:=.seq B.toArray k}) (by simp);have a7:eC (gO X.stack) fp G a3 t.heap a9.heap:=a5.base;have cz:eC (gO X.stack) fp G (aI a3 D (.lst ys)) t.heap a9.heap:={
    keep:=a7.keep
    slot:=a7.slot
    free:=λb o e n a4=>by
     rw[bD (below b (dQ e)).2];exact a7.free b o e n a4
    there:=a7.there
    tups:=λb xs e=>by
     have z:=a7.tups b xs e;rw[bD (dC z a6.2.1)];exact z
    frzs:=λb o u e=>by
     have z:=a7.frzs b o u e;rw[bD (dC z a6.2.1)];exact z
    tbls:=λb ps e=>by
     obtain⟨cI,z⟩:=a7.tbls b ps e;exact⟨cI,by rw[bD (dC z a6.2.1)];exact z⟩}
   have cL:eB X.prog X.w (aI a3 D (.lst ys)) a9.heap:=λb u e=>by
    by_cases f:b=D
    .subst f;rw[aV]at e;cases e;exact⟨bv,B,k,am,a6.1⟩
    .rw[bD f]at e;exact(a5.hok b u e).stay (λc v _ q=>q) (λc q=>by rw[bD (dC q a6.2.1)];exact q) λc xs q=>by rw[bD (dC q a6.2.1)];exact q
   have b2:Inv X U Y (aI a3 D (.lst ys)) a9:=s.call' a5.os cz cL a5.bare λb f=>⟨(I b f).2.2.2.1,(I b f).2.1,(I b f).2.2.2.2.1,(I b f).2.2.2.2.2⟩
   refine c7 D C a9 a3 ys a6.2.1 cw b2 ?_;obtain⟨m,al,_⟩:=a5.loc;exact⟨⟨m,al⟩,by rw[bD (Ne.symm as)];exact a5.free,λz=>absurd s.lt (by rw[←z];exact Nat.not_lt.mpr ak),fF s.sz ak,λx c e=>eF (iK (bk x c e) ak),λp A=>eF (iK (ci p A) ak)⟩
  .-- a bh
   refine fL (T.item (jZ X scope w R) O O O bb i _ br _ a3 (λ_ _=>False) b0 (av bu) bt cx) (λr a9 ⟨u,b1,cM⟩=>?_) λ_ _ z=>z.elim;subst b1;refine fL cM (λ_ ag ⟨x,bw,b2,cO,cS,b3,cT⟩=>?_) λ_ _ z=>z.elim;have cV:=b2.pinned (av cT) (T.obj _ _ b3);refine fL (c3 R _ ag _ bw x u _ cV cO (c4 _ _ _ _ (step x bw cS))) (λ_ cW ⟨b4,d0,d1,d2,d3,d4⟩=>?_) λ_ _ z=>z.elim;refine fL (c5 R _ cW b4 d0 _ d1 d2) (λok d5 ⟨bx,an,ao⟩=>?_) λ_ _ z=>z.elim;have bz:∀{M:aD} {N:aK} {ps:List (aB×aY)},Inv (jZ X scope w R) ps b4 M N->Inv (jZ X scope w R) ps (m7 nt a1 Y) M N:=λa0=>a0.weak (by rw[d3]) λj v e=>by
    obtain⟨_,ax,_,_⟩:=BB e;rw[d4 j ax];exact e
   have b5:∀{M:aD} {N:aK} {bM:St},Inv (jZ X scope w R) ([(D,{cls:=.type "list",data:=.seq B.toArray k})]++o7 fp ag.heap) bM M N->ah (i+1) N.heap/\∀b∈fp,M b=aG:=λ{M N bM} a0=>
    ⟨T.keep _ _ _ b3 λb f o e=>(a0.pin (b,o) (jx _ (jx _ (vQ f e)))).1,λb f=>by
     obtain⟨o,e,_⟩:=T.obj _ _ b3 b f;exact(a0.pin (b,o) (jx _ (jx _ (vQ f e)))).2.1⟩
   cases ok with
   |false=>
    rw[if_neg fX]at ao ⊢;obtain⟨b6,hm,d6⟩:=ao;exact⟨b6,hm,i+1,ys,bx,B,k,bz an.unpinned,(b5 an).1,(b5 an).2,am,bv,d6⟩
   |true=>
    rw[if_pos O]at ao ⊢;refine fL (c6 R _ d5 b4 bx _ an ao) (λb7 N ⟨y,M,a0,d7,d8⟩=>?_) λ_ _ z=>z.elim;obtain⟨b6,hm,d9⟩:=d8;have aa:=a0.pin (D,{cls:=.type "list",data:=.seq B.toArray k}) (by simp);have hsz:B.toArray.size<=dH:=by rw[eO,←am.length];omega
    refine wpAny_list_append_plain (hsz:=hsz) ⟨k,aa.1⟩ λbO b8 bR=>?_;obtain⟨b9,b8⟩:=b8;have bV:=b5 a0;have da:Inv (jZ X scope w R) (o7 fp ag.heap) (m7 nt a1 Y) M N:=(bz a0).pins_of λp A=>a0.pin p (jx _ (jx _ A));have db:Inv (jZ X scope w R) (o7 fp ag.heap) (m7 nt a1 Y) M {N with heap:=bO}:=da.turned (it:=D) (t':=N.toks) (λb o f e=>bR.extBut b o f e) aa.2.1 aa.2.2.1 (.inr af)
     (λx c e=>eF (iK (bk x c (a2 x c e)) af)) λp A=>by
      have dc:p∈o7 fp ag.heap:=by simpa using A
      exact eF (iK (ae p.1 (AZ dc).1) af)
    have dd:bO.get? D=some {cls:=.type "list",data:=.seq (B++[b7]).toArray b9}:=by
     rw[b8];simp
    refine⟨b6,hm,i+1,ys++[y],M,B++[b7],b9,db.pins_of λp A=>?_,T.keep _ _ _ bV.1 λb f o e=>bR.extBut b o (eF (iK (ae b f) af)) e,bV.2,am.append (.cons d7 .nil),by rw[eW];exact cy,d9⟩;have e:p=(D,{cls:=.type "list",data:=.seq (B++[b7]).toArray b9}):=by simpa using A
    subst e;exact⟨dd,aa.2.1,aa.2.2.1,aa.2.2.2.1,λv z=>by cases z⟩
 exact codeAny_compStart_list (loop _) (T.self _ 0 _ _ _ (T.keep _ _ _ st λb f o e=>a8 b o e) (loop _))
def Ev(a:Nat)(b:List Nat)(c:TI)(g:iX)(d:TT)(te:bG):bG:=λY H Q=>c Y H (rd (m7 a b Y) g d te (RS Q))
theorem o5{q:Type}{l:List q}{p:q->Bool}(h:l.all p=aC):∀x∈l,p x=aC:=λx a=>j9.mp h x a
theorem fM(c:List aA)(d:Nat)(i:List Nat)
 (z:X.calm=aC)(hi:lu X tg iter r)(A:∀R,nv (jZ X scope c R) tg g)(E:sZ d g)(G:∀R,pW (jZ X scope c R) p t)(M:∀R,bL (jZ X scope c R) n te)
 (N:(scope.names.all λy=>!(y.2==.cell))=aC:=by rfl)(u:scope.kind=.function:=by rfl)
 (a0:(scope.names.all λy=>!(y.2==.local)||(scope.names.lookup y.1==some .local))=aC:=by rfl)
 (a1:(scope.names.all λy=>!(y.2==.free)||(X.env.kindOf y.1==some .cell||X.env.kindOf y.1==some .free))=aC:=by rfl)
 (a2:c.length=d+i.length:=by rfl)(a3:(i.map λj=>X.N[j]?)=(c.drop d).map some:=by rfl)(a4:((c.drop d).all λx=>scope.names.lookup x==some .free)=aC:=by rfl)
 (a5:∀x,xD iter X.env x=pure x:=by intro _;rfl) :
  bL X (.ListComp n [⟨tg,iter,p,0⟩] scope pos) (Ev d i r g t te):=by
 refine⟨?_⟩;intro U s Y H Q I h;have w:∀y∈scope.names,y.2=.free->(X.env.kindOf y.1=some .cell\/X.env.kindOf y.1=some .free):=λy f e=>by
  have a:=o5 a1 y f;rw[e]at a;have a6:(X.env.kindOf y.1==some .cell||X.env.kindOf y.1==some .free)=aC:=a;rcases xk.mp a6 with q|q
  .exact .inl (beq_iff_eq.mp q)
  .exact .inr (beq_iff_eq.mp q)
 have a7:∀y∈scope.names,y.2≠.cell:=λy f e=>by
  have a:=o5 N y f;rw[e]at a;cases a
 obtain⟨cl,a8,a9,aa⟩:=AG (scope:=scope) (env:=X.env) λy f e=>I.ok.has y.1 (w y f e);have ac:∀y∈scope.names,y.2=.local->scope.names.lookup y.1=some .local:=λy f e=>by
  have a:=o5 a0 y f;rw[e]at a;exact beq_iff_eq.mp a
 have ae:∀(k j:Nat),i[k]?=some j->c[d+k]?=X.N[j]?:=λk j e=>by
  have a:=congrArg (λl:List (Option aA)=>l[k]?) a3;simp only[dO,e,Option.map_some,um]at a;cases q:c[d+k]? with
  |none=>rw[q]at a;cases a
  |some x=>rw[q]at a;exact(gK a).symm
 rw[eval_ListComp];refine wpAny_comprehension_free (use:=aG) O a5 a8 u ac (cD (hi U s Y H _ I h) λv s1 h1=>cD h1 λaq ar h2=>?_);obtain⟨it,fp,as,J,H2,e,af,T,ag,ah,ai⟩:=h2;subst e;refine AE (RR:=λaj C=>compPost (aX X.prog X.w) X.A X.xe aG (gG X U Y Q) aj C) z af T ag ah a9 aa a7 u w a2 ae (λx ak=>beq_iff_eq.mp (o5 a4 x ak)) A E G M ai ?_;intro D C L H' ys al q am B;obtain⟨m,an⟩:=B.ns;refine⟨m,an,λh' ao=>⟨.ref D,_,am.turned (it:=C) (t':=L.toks) (λb o ap e=>ao.extBut b o ap e) B.fr B.ne (.inr B.ab) B.cl B.pn,O,q D al⟩⟩
section
variable{X:aZ}
noncomputable def vv:V->Option aE
 |.ty n=>some (.type n)
 |.ref a=>some (.ref a)
 |_=>aG
theorem Cz(h:vv y=some c)(r:cK y u):u=c:=by
 cases y with
 |ty n=>cases h;exact r
 |ref a=>cases h;exact r
 |non=>cases h
 |bl b=>cases h
 |int i=>cases h
 |str x=>cases h
 |byt b=>cases h
 |flt b=>cases h
theorem Lb:iY X (.builtin "isinstance") (λxs H Q=>∃x y c t b,xs=[x,y]/\vv y=some c/\js X.K H x t/\jW X.K t c=some b/\Q (.bl b) H):=by
 intro U s Y H xs us Q I r h;obtain⟨x,y,c,t,b,rfl,a,ty,e,q⟩:=h;obtain⟨u,v,rfl,d,f⟩:=cB.two r;obtain rfl:=Cz a f;exact MH I d ty e λtk=>⟨.bl b,H,I.tok tk,O,q⟩
theorem Jg:∀{bs:List Bool} {us:List aE},cB (bs.map V.bl) us->LSm.BoolsAre us bs
 |[],us,r=>by
  rw[lF]at r;cases r;exact .nil
 |b::bs,us,r=>by
  rw[dW]at r;cases r with
  |cons a c=>
   cases a;exact .cons b (Jg c)
theorem o3(g:X.calm=aC):iY X (.builtin "all") (λxs H Q=>∃(p:aB)(bs:List Bool),xs=[.ref p]/\aT X.K H p (bs.map V.bl)/\Q (.bl (bs.all id)) H):=by
 intro U s Y H xs us Q I r h;obtain⟨p,bs,rfl,j,q⟩:=h;obtain⟨u,rfl,k⟩:=cB.one r;cases k;obtain⟨a,l,pl,w⟩:=I.list j;obtain⟨m,F⟩:=I.fr;have d:=Jg l;have c:=pl.isList;have n:p<s.heap.objs.size:=by obtain⟨_,e,_⟩:=c;exact dQ e
 refine call_all_walk (qE c ?_);refine⟨s.heap.objs.size,[s.heap.objs.size,p],[s.heap.objs.size],a.toArray.size,_,_,λi=>(bs[i]?).getD aC,O,sA (A:=X.A.in1) (I.ok.hd g) _ p (eF n) a.toArray,
  ⟨⟨_,gF _ O,O,O⟩,c.push _⟩,λi v L x y o f=>?_,λh' tk t=>?_⟩
 .obtain⟨b,e,rfl⟩:=d.get i v (by simpa using o);simp only[e,Option.getD_some]at f;exact mE f
 .have e:((fH a.toArray.size).all λi=>(bs[i]?).getD aC)=bs.all id:=by
   rw[eO,d.length];exact LSm.range_all bs
  rw[e];exact⟨.bl _,H,I.kept (LSm.kept_iter t),O,q⟩
theorem DQ:q2 X (λx lo hi H Q=>∃a,x=.str a/\a.length<=dH/\Q (.str (ma a lo hi)) H):=by
 intro U s Y H x v m n lo hi o Q I g b pl pu h;obtain⟨a,rfl,c,q⟩:=h;obtain⟨t,rfl⟩:=g;refine⟨"str",_,F.slot_str_getitem.lookup,qU _ _ _,?_⟩;have d:∀(t':Tok)(k:Nat),gG X U Y Q (.str (ma a lo hi) t') {s with toks:=k}:=λt' k=>⟨.str _,H,I.tok k,⟨t',O⟩,q⟩
 cases pl with
 |none=>
  cases pu with
  |none=>exact t9 (l:=aG) (u:=aG) (st:=aG) b O (uL ⟨fF (uP a _ _) c,λt' k=>d t' k⟩)
  |int j e=>exact t9 (l:=aG) (u:=some (j,e)) (st:=aG) b O (uL ⟨fF (uP a _ _) c,λt' k=>d t' k⟩)
 |int i f=>
  cases pu with
  |none=>exact t9 (l:=some (i,f)) (u:=aG) (st:=aG) b O (uL ⟨fF (uP a _ _) c,λt' k=>d t' k⟩)
  |int j e=>exact t9 (l:=some (i,f)) (u:=some (j,e)) (st:=aG) b O (uL ⟨fF (uP a _ _) c,λt' k=>d t' k⟩)
theorem vP:fO X (kR .Mult) (λx y H Q=>∃a n,x=.str a/\y=.int n/\a.length<=16/\n<=1048576/\-(2^63)<=n/\Q (.str (Txt.mul a n)) H):=by
 intro U s Y H x y v u Q I b c h;obtain⟨a,n,rfl,rfl,h1,h2,d,q⟩:=h;obtain⟨t,rfl⟩:=b;obtain⟨t',rfl⟩:=c;exact SB.mul (mulOk_of 16 1048576 h1 h2 d VD VD) λe k=>⟨.str _,H,I.tok k,⟨e,O⟩,q⟩
theorem tT:fO X (kR .Mult) (pe (λi j=>i.natAbs<2^4096/\j.natAbs<2^4096) λi j=>.int (i*j)):=rJ λi j _ _ _ _ _ a q=>
 mul_int q (IntMulOk.of_bits (fF (intBits_le a.1) VD) (fF (intBits_le a.2) VD))
theorem hZ:fO X (kR .FloorDiv) (pe (λ_ j=>0<j/\j.natAbs.log2<9000) λi j=>.int (i/j)):=rJ λi j _ _ _ _ _ a q=>by
 have h1:(0:Int)<j:=a.1;exact floordiv_int VF (by rw[Int.fdiv_eq_ediv_of_nonneg i VF];exact q) (.inl (PyProof.noPylong_of_log2 a.2))
def xQ(x:aA):jr where
 go:=λi _=>i<x.cps.size
 yld:=λi H v H'=>H'=H/\∃c,x.cps[i]?=some c/\v=.str ⟨#[c]⟩
 stop:=λi _=>i=x.cps.size
theorem BL{P:bT}{w:bN}{K:bI}{tg:bJ}(it:aB)(x:aA)(t:Tok)(ty:String)
 (W:∀A:bX,A.handled=aG->Walks P w A it [it] [it] x.cps.size (SignAt x) (λi h=>h.IsStrIter it ty x t i))
 (hn:["enumerate","zip","dict_itemiterator","dict_reverseitemiterator","odict_iterator","itertools.zip_longest","itertools.pairwise"].contains ty=aJ)
 (self:∀(A:bX)(i:Nat)(s:aK)(Q E:aE->aK->Prop),s.heap.IsStrIter it ty x t i->Q (.ref it) s->aU (aX P w) A (pyIter (.ref it)) Q E s) :
  oO P w K tg (xQ x) [it] it (λi h=>h.IsStrIter it ty x t i) where
 mem:=by simp
 obj:=λi h st b a=>by
  have e:b=it:=by simpa using a
  subst e;obtain⟨o,e,c,d⟩:=st;exact⟨o,e,λv z=>by rw[d]at z;cases z⟩
 keep:=λi h h' st k=>let ⟨o,C,r⟩:=st;⟨o,k it (by simp) o C,r⟩
 item:=by
  intro X f g j l i U s Y H E I hf st m;subst f g j;obtain⟨n,f1,f2,f3,p,q⟩:=hf it (by simp);refine(W X.A (I.ok.hd l)).item i s _ _ m st λv h' tk D B y=>?_;obtain⟨c,u,G,rfl⟩:=D;have J:Inv X U Y H {s with heap:=h',toks:=tk}:=I.turned (λb o a e=>y b o (by simpa using a) e) n f1 f3 p q;obtain⟨o,e,L,d⟩:=id B;exact⟨_,O,sW (s:={s with heap:=h',toks:=tk}) e L d hn ⟨.str ⟨#[c]⟩,H,J,⟨u,O⟩,⟨O,c,G,O⟩,B,λb a=>(hf b a).1⟩⟩
 done:=by
  intro X f g j l i U s Y H E I hf st m;subst f g j;obtain⟨n,f1,f2,f3,p,q⟩:=hf it (by simp);have M:i=x.cps.size:=m;subst M;exact(W X.A (I.ok.hd l)).done s _ _ st λh' tk y=>⟨O,I.turned (λb o a e=>y b o (by simpa using a) e) n f1 f3 p q⟩
 self:=self
def Sg(tl:bG):TI:=λY H R=>tl Y H λx z=>∃a,x=.str a/\R (xQ a) z
theorem PG{tg l:bJ}{tl:bG}(g:bL X l tl):lu X tg l (Sg tl):=by
 refine⟨?_⟩;intro U s Y H R I h;refine cD (g U s Y H _ I h) λv s1 ⟨x,z,c,j,k⟩=>?_;obtain⟨a,e,q⟩:=k;subst e;obtain⟨t,rfl⟩:=j;have fp:∀b∈[s1.heap.objs.size],n2 X U z b:=λb m=>by
  have e:b=s1.heap.objs.size:=by simpa using m
  subst e;exact c.fpOk (bQ _) (c.hok.fresh (bQ _))
 cases f:a.cps.all (·<128)
 .refine wpAny_pyIter_wide f ?_;exact⟨s1.heap.objs.size,[s1.heap.objs.size],_,_,z,O,c.kept (t':=s1.toks) λb o e=>dM _ e,BL _ a t "str_iterator" (λA d=>Walks.strWide d _ a t) VD (λA i s Q E st h=>wpAny_pyIter_striter_wide st h),
   ⟨_,gF _ O,O,O⟩,fp,q⟩
 .refine wpAny_pyIter_ascii f ?_;exact⟨s1.heap.objs.size,[s1.heap.objs.size],_,_,z,O,c.kept (t':=s1.toks) λb o e=>dM _ e,BL _ a t "str_ascii_iterator" (λA d=>Walks.strAscii d _ a t) VD (λA i s Q E st h=>wpAny_pyIter_striter_ascii st h),
   ⟨_,gF _ O,O,O⟩,fp,q⟩
end
theorem NV(t:x.cps.size<=dH)(Pv:Nat->List V->aD->Prop)(l:Pv 0 [] H)(n:∀i ys H,Pv i ys H->ys.length<=i)
 (o:∀i c ys H (K:aP) (k:aD->Prop),x.cps[i]?=some c->Pv i ys H->(∀y a,Pv (i+1) (ys++[y]) a->K y a)->(∀b,Pv (i+1) ys b->k b) ->
   g (.str ⟨#[c]⟩) f H (tr h te K k))
 (r:∀ys H,Pv x.cps.size ys H->j ys H):rd f g h te j (xQ x) H:=by
 refine⟨λi m ys H=>m=x.cps.size-i/\i<=x.cps.size/\Pv i ys H,⟨x.cps.size,by simp,jo _,l⟩,?_⟩;rintro i m ys H ⟨rfl,hi,p⟩;by_cases d:i<x.cps.size
 .refine .inr ⟨d,?_,λv H' y=>?_⟩
  .have:=n i ys H p;omega
  .obtain⟨e,c,s,rfl⟩:=y;subst e;exact o i c ys _ _ _ s p (λy a q=>⟨x.cps.size-(i+1),VF,O,d,q⟩) λb q=>⟨x.cps.size-(i+1),VF,O,d,q⟩
 .have e:i=x.cps.size:=VF;subst e;exact .inl ⟨O,r ys H p⟩
theorem fP(s:xs.length<=dH)(Pv:Nat->List V->aD->Prop)(l:Pv 0 [] H)
 (n:∀i ys H,i<=xs.length->Pv i ys H->aT F H a xs/\ys.length<=i)
 (o:∀i x ys H (K:aP) (k:aD->Prop),xs[i]?=some x->Pv i ys H->(∀y b,Pv (i+1) (ys++[y]) b->K y b)->(∀c,Pv (i+1) ys c->k c) ->
   g x f H (tr h te K k))
 (r:∀ys H,Pv xs.length ys H->j ys H):rd f g h te j (uX F a) H:=by
 refine⟨λi m ys H=>m=xs.length-i/\i<=xs.length/\Pv i ys H,⟨xs.length,by simp,jo _,l⟩,?_⟩;rintro i m ys H ⟨rfl,hi,p⟩;obtain⟨q,t⟩:=n i ys H hi p;by_cases d:i<xs.length
 .refine .inr ⟨⟨xs,xs[i],q,by simp[d]⟩,VF,λx H' y=>?_⟩;obtain⟨e,y⟩:=y;subst e;exact o i x ys _ _ _ (y xs q) p (λy b q=>⟨xs.length-(i+1),VF,O,d,q⟩) λc q=>⟨xs.length-(i+1),VF,O,d,q⟩
 .have e:i=xs.length:=VF;subst e;exact .inl ⟨⟨xs,q,bQ _⟩,r ys H p⟩
theorem AD{lo:Int}{n:Nat}{d:St}{g:iX}{f:TT}{te:bG}{h:List V->aD->Prop}{H:aD}(s:n<=dH)(Pv:Nat->List V->aD->Prop)(k:Pv 0 [] H)(l:∀i ys H,Pv i ys H->ys.length<=i)
 (o:∀i ys H (K:aP) (j:aD->Prop),i<n->Pv i ys H->(∀y b,Pv (i+1) (ys++[y]) b->K y b)->(∀c,Pv (i+1) ys c->j c) ->
   g (.int (lo+i)) d H (tr f te K j))
 (r:∀ys H,Pv n ys H->h ys H):rd d g f te h (qW lo n) H:=by
 refine⟨λi m ys H=>m=n-i/\i<=n/\Pv i ys H,⟨n,by simp,jo _,k⟩,?_⟩;rintro i m ys H ⟨rfl,hi,p⟩;by_cases a:i<n
 .refine .inr ⟨a,?_,λv H' y=>?_⟩
  .have:=l i ys H p;omega
  .obtain⟨e,y⟩:=y;subst e y;exact o i ys _ _ _ a p (λy b q=>⟨n-(i+1),VF,O,a,q⟩) λc q=>⟨n-(i+1),VF,O,a,q⟩
 .have e:i=n:=VF;subst e;exact .inl ⟨bQ _,r ys H p⟩
structure dE (K:bI) (mg:aA->Option aE) (x:aA) (st:bS) (ps:List aA):Prop where
 ex:∃(f:aB)(fd:iW),lN K x x st f fd/\kj K fd ps []/\mg x=some (.ref f)
structure bA (P:bT) (w:bN) (K:bI) (mg:aA->Option aE) (base:bE) (k:Nat) (x:aA) (ps:List aA) (sp:cA):Prop where
 ex:∃(f:aB)(fd:iW),iP P w K mg base jb k f fd ps sp/\kj K fd ps []/\mg x=some (.ref f)/\mG K (.ref f)=aC
section
variable{P:bT}{w:bN}{K:bI}{mg:aA->Option aE}{base:bE}
theorem dE.fc{x:aA}{st:bS}{N ps:List aA}{k:Nat}{sp:cA}(D:dE K mg x st ps)(S:cN N ps (bP st))(len:∀vs H Q E,sp vs H Q E->vs.length=ps.length)
 (c:∀(f:aB)(a:aE)(A:bX)(outer:List eP)(s:aK)(H:aD)(vs:List V)(Q:aP)(E:dL),eQ k (A.deeper (envOfC x (bP st) s.heap.objs.size f a))->sp vs H Q E ->
   ∃t,iQ (iH jb P w K mg base N x (bP st) f a A outer s H E).nox (jC st) t/\t {nx:=λ_ H'=>Q .non H',rt:=Q} (start N vs) H):bA P w K mg base (k+1) x ps sp:=by
 obtain⟨f,fd,F,b,m⟩:=D.ex;exact⟨f,fd,F.ok S len λa A outer s H vs Q E d h=>c f a A outer s H vs Q E d h,b,m,F.kp⟩
theorem bA.imp(F:bA P w K mg base k x ps sp)(h:∀vs H Q E,a vs H Q E->sp vs H Q E):bA P w K mg base k x ps a:=by
 obtain⟨f,fd,G,b,m,kp⟩:=F.ex;exact⟨f,fd,G.imp h,b,m,kp⟩
theorem UU{h:bE}{x:aA}{st:bS}{ps:List aA}{f:aB}{g:aE}{i d:Option aB}{j:Array (Option aE)}{kV doc pm b e:aE}(X:K.In h)(G:h.Ns lH mg)
 (a:PySem.W.nsIn K lH x=some (some (.ref f)))(l:K.lookup f=some ⟨g,i,.func (l9 x x (nF st) (jC st) (bP st) .none kV doc pm d b e),j⟩)
 (c:qG K b x=aC)(k:mG K (.ref f)=aC)
 (m:∀(kV doc pm:aE)(d:Option aB)(b e:aE)(us:List aE),us.length=ps.length->pS (l9 x x (nF st) (jC st) (bP st) .none kV doc pm d b e) ⟨us,[]⟩=pure (ps.zip us)):dE K mg x st ps:=
 ⟨f,_,rR l c k,(rR l c k).binds m,PySem.W.mg_of X G a⟩
end
section
variable{X:aZ}{k:Nat}{ps:List aA}{sp:cA}{x:aA}{p pos:Pos}{e:bJ}{es:List bJ}{t:fU}
theorem bZ(F:bA X.prog X.w X.K X.mg X.base k x ps sp)(a:eQ k X.A)(c:jf X (e::es) t)(d:jH X x:=by rfl)(g:(x==("__debug__":aA))=aJ:=by decide)
 (h:dA (e::es) X.env=(aJ,eval e X.env)::dA es X.env:=by rfl)(i:(backTo pos (dA es X.env)).any (·.1)=aJ:=by rfl) :
  bL X (.Call (.Name x p) (e::es) [] pos) (yK sp [] lM t):=by
 obtain⟨f,fd,G,b,m,kp⟩:=F.ex;exact CW G a d m kp b .nil vl c g h i
end
inductive sp1(f:V->aD->aP->Prop)(vs:List V)(H:aD)(Q:aP)(z3:dL):Prop
 |mk:∀x,vs=[x]->f x H Q->sp1 f vs H Q z3
inductive gY(f:V->V->aD->aP->Prop)(vs:List V)(H:aD)(Q:aP)(z3:dL):Prop
 |mk:∀x y,vs=[x,y]->f x y H Q->gY f vs H Q z3
inductive kB(f:V->V->V->aD->aP->Prop)(vs:List V)(H:aD)(Q:aP)(z3:dL):Prop
 |mk:∀x y z,vs=[x,y,z]->f x y z H Q->kB f vs H Q z3
theorem jN:∀vs H Q E,sp1 f vs H Q E->vs.length=1:=λvs H Q E ⟨x,e,_⟩=>by rw[e];rfl
theorem iC:∀vs H Q E,gY f vs H Q E->vs.length=2:=λvs H Q E ⟨x,y,e,_⟩=>by rw[e];rfl
theorem k9:∀vs H Q E,kB f vs H Q E->vs.length=3:=λvs H Q E ⟨x,y,a,e,_⟩=>by rw[e];rfl
theorem jA:jE "isinstance"=some (.builtin "isinstance"):=VE
theorem oZ:jE "all"=some (.builtin "all"):=VE
theorem iD:jE "len"=some (.builtin "len"):=VE
theorem BA:jE "max"=some (.builtin "max"):=VE
theorem wb:jE "min"=some (.builtin "min"):=VE
theorem Bz:jE "str"=some (.type "str"):=VE
theorem qc:jE "int"=some (.type "int"):=VE
theorem zK:jE "bool"=some (.type "bool"):=VE
theorem kW:jE "list"=some (.type "list"):=VE
theorem tp:jE "tuple"=some (.type "tuple"):=VE
theorem lS:jE "dict"=some (.type "dict"):=VE
theorem z8:jE "set"=some (.type "set"):=VE
inductive oM(K:bI)(H:aD):V->Prop where
 |non:oM K H .non
 |bl (b:Bool):oM K H (.bl b)
 |int (i:Int):oM K H (.int i)
 |str (x:aA):oM K H (.str x)
 |lst {a:aB} {xs:List V} (e:H a=some (.lst xs)):oM K H (.ref a)
 |frz {a:aB} {o:aY} {xs:List V} (e:H a=some (.frz o (.lst xs))):oM K H (.ref a)
 |tup {a:aB} {xs:List V} (e:H a=some (.tup xs)):oM K H (.ref a)
 |dK {a:aB} {J:List (aW×V)} (e:H a=some (.dK J)):oM K H (.ref a)
theorem mY(K:bI)(n:String):jW K (.type n) (.type n)=some aC:=by
 unfold jW;rw[if_pos (by simp)]
def m1(mg:aA->Option aE)(x:aA)(v:V):Prop:=∃u,mg x=some u/\cK v u
theorem lB(h:m1 X.mg x v)(a:jH X x:=by rfl)(b:(x==("__debug__":aA))=aJ:=by decide):bL X (.Name x pos) (pf v):=by
 obtain⟨u,hm,r⟩:=h;exact qn a hm r b
theorem UY{K:bI}{mg:aA->Option aE}{h:bE}{x:aA}{v:V}{u:aE}(X:K.In h)(G:h.Ns lH mg)(a:PySem.W.nsIn K lH x=some (some u))(r:cK v u):m1 mg x v:=⟨u,PySem.W.mg_of X G a,r⟩
def z1:dX->Bool
 |.lst _=>aC
 |.dK _=>aC
 |.set _ _=>aC
 |.ext _=>aC
 |.rng _ _=>aC
 |_=>aJ
def iI(H' a:aD):Prop:=∀b,a b=H' b\/(a b=aG/\∃o,H' b=some o/\z1 o=aC)
theorem iI.refl(H:aD):iI H H:=λ_=>.inl O
theorem iI.trans(a:iI z H2)(b:iI H2 g):iI z g:=λc=>by
 rcases b c with e|⟨e,o,q,d⟩
 .rcases a c with f|⟨f,o,q,d⟩
  .exact .inl (e.trans f)
  .exact .inr ⟨e.trans f,o,q,d⟩
 .rcases a c with f|⟨f,_⟩
  .exact .inr ⟨e,o,f▸q,d⟩
  .rw[f]at q;cases q
theorem iI.new(h:H p=aG)(d:z1 o=aC):iI (aI H p o) H:=λb=>by
 by_cases a:b=p
 .subst a;exact .inr ⟨h,o,aV,d⟩
 .exact .inl (bD a).symm
theorem iI.lst(h:H p=aG):iI (aI H p (.lst xs)) H:=iI.new h O
def gJ(Q:aP):aP:=λv H'=>∃a,iI H' a/\Q v a
theorem gJ.of(d:iI H' H)(q:Q v H):gJ Q v H':=⟨H,d,q⟩
theorem eB.drop(d:iI H' i)(j:eB P w H' h):eB P w i h:=λb o e=>by
 have k:H' b=some o:=by
  rcases d b with a|⟨a,_⟩
  .exact a.symm.trans e
  .rw[a]at e;cases e
 refine(j b o k).stay (λ_ _ _ q=>q) (λc q=>?_) λc xs q=>?_
 .rcases d c with a|⟨_,G,f,g⟩
  .exact a.trans q
  .rw[q]at f;cases f;cases g
 .rcases d c with a|⟨_,G,f,g⟩
  .exact a.trans q
  .rw[q]at f;cases f;cases g
theorem eC.drop(d:iI H' g)(u:eC fs ex H H' h h'):eC fs ex H g h h' where
 keep:=u.keep
 slot:=u.slot
 free:=λb o e n i=>by
  rcases d b with a|⟨a,_⟩
  .exact a.trans (u.free b o e n i)
  .exact a
 there:=u.there
 tups:=λb xs e=>by
  have q:=u.tups b xs e;rcases d b with a|⟨_,G,c,f⟩
  .exact a.trans q
  .rw[q]at c;cases c;cases f
 frzs:=λb o v e=>by
  have q:=u.frzs b o v e;rcases d b with a|⟨_,G,c,f⟩
  .exact a.trans q
  .rw[q]at c;cases c;cases f
 tbls:=λb ps e=>by
  obtain⟨m,q⟩:=u.tbls b ps e;rcases d b with a|⟨_,G,c,f⟩
  .exact⟨m,a.trans q⟩
  .rw[q]at c;cases c;cases f
theorem iP.drop{P:bT}{w:bN}{K:bI}{mg:aA->Option aE}{base:bE}{k:Nat}{f:aB}{fd:iW}{ps:List aA}{sp:cA}(len:∀vs H Q E,sp vs H Q E->vs.length=ps.length)
 (F:iP P w K mg base jb k f fd ps (λvs H a E=>∃Q,sp vs H Q E/\a=gJ Q)):iP P w K mg base jb k f fd ps sp:=by
 refine⟨len,λA outer s H args us vs Q E b c g i j=>nl (F.run A outer s H args us vs (gJ Q) E b c g i ⟨Q,j,O⟩) λr L h=>?_⟩;cases r with
 |error e=>exact h
 |ok fl=>
  cases fl with
  |ret u=>
   obtain⟨v,H',os,bare,l,m,n,o,d,q⟩:=h;exact⟨v,o,os,bare,l.drop d,m.drop d,n,q⟩
  |next=>exact h
  |brk=>exact h
  |cont=>exact h
theorem dE.fcD{P:bT}{w:bN}{K:bI}{mg:aA->Option aE}{base:bE}{x:aA}{st:bS}{N ps:List aA}{k:Nat}{sp:cA}(D:dE K mg x st ps)(S:cN N ps (bP st))(len:∀vs H Q E,sp vs H Q E->vs.length=ps.length)
 (d:∀(f:aB)(a:aE)(A:bX)(outer:List eP)(s:aK)(H:aD)(vs:List V)(Q:aP)(E:dL),eQ k (A.deeper (envOfC x (bP st) s.heap.objs.size f a))->sp vs H Q E ->
   ∃t,iQ (iH jb P w K mg base N x (bP st) f a A outer s H E).nox (jC st) t/\t {nx:=λ_ H'=>gJ Q .non H',rt:=gJ Q} (start N vs) H):bA P w K mg base (k+1) x ps sp:=by
 obtain⟨f,fd,F,b,m⟩:=D.ex;refine⟨f,fd,iP.drop len (F.ok S (λvs H Q E ⟨c,h,_⟩=>len vs H c E h) λa A outer s H vs Q E g ⟨c,h,e⟩=>?_),b,m,F.kp⟩;subst e;exact d f a A outer s H vs c E g h
theorem aM.upd(h:H p=aG):aM H (aI H p o):=λb u e=>by
 rw[bD (dC e h)];exact e
inductive TC(K:bI)(x:V)(H:aD)(Q:aP):Prop
 |mk:∀(a:aB)(ns:List Int),x=.ref a->aT K H a (ns.map V.int)->ns.length<=63->(∀H',Q (.bl aC) H')->TC K x H Q
theorem kz(hm:X.mg x=aG)(a:jE x=some (.type n))(b:jH X x:=by rfl)(c:x≠"__name__":=by decide)(d:(x==("__debug__":aA))=aJ:=by decide):bL X (.Name x pos) (pf (.ty n)):=
 OI b hm a rfl c d
end L2
namespace L2
theorem cQ(h:Nat.ble n 1000=aC):n<=PySem.sizeLine:=fF (Nat.le_of_ble_eq_true h) VD
end L2
namespace L2
open PySem PySem.Spec PyProof.Rows
inductive aH where
 |non|bl (b:Bool)|int (i:Int)|str (x:aA)|lst (N:List aH)|tup (N:List aH)|dct (B:List aW) (N:List aH)
mutual
def bK(H:aD):aH->V->Prop
 |.non,v=>v=.non
 |.bl b,v=>v=.bl b
 |.int i,v=>v=.int i
 |.str x,v=>v=.str x
 |.lst N,v=>∃a vs,v=.ref a/\H a=some (.lst vs)/\IsL H N vs
 |.tup N,v=>∃a vs,v=.ref a/\H a=some (.tup vs)/\IsL H N vs
 |.dct B N,v=>∃a vs,v=.ref a/\H a=some (.dK (B.zip vs))/\vs.length=B.length/\IsL H N vs
def IsL(H:aD):List aH->List V->Prop
 |[],vs=>vs=[]
 |d::N,vs=>∃v r,vs=v::r/\bK H d v/\IsL H N r
end
def Qj:dX->Bool
 |.lst _=>aC
 |.tup _=>aC
 |.dK _=>aC
 |_=>aJ
def re(H H':aD):Prop:=∀b o,H b=some o->Qj o=aC->H' b=some o
mutual
theorem bK.sameD(S:re H H'):∀(d:aH)(v:V),bK H d v->bK H' d v
 |.non,_,h=>h
 |.bl _,_,h=>h
 |.int _,_,h=>h
 |.str _,_,h=>h
 |.lst N,_,⟨a,vs,e,o,h⟩=>⟨a,vs,e,S _ _ o O,IsL.sameD S N vs h⟩
 |.tup N,_,⟨a,vs,e,o,h⟩=>⟨a,vs,e,S _ _ o O,IsL.sameD S N vs h⟩
 |.dct B N,_,⟨a,vs,e,o,l,h⟩=>⟨a,vs,e,S _ _ o O,l,IsL.sameD S N vs h⟩
theorem IsL.sameD(S:re H H'):∀(N:List aH)(vs:List V),IsL H N vs->IsL H' N vs
 |[],_,h=>h
 |d::N,_,⟨v,r,e,h,t⟩=>⟨v,r,e,bK.sameD S d v h,IsL.sameD S N r t⟩
end
theorem bK.same(S:aM H H')(d:aH)(v:V)(h:bK H d v):bK H' d v:=bK.sameD (λb o e _=>S b o e) d v h
theorem IsL.same(S:aM H H')(N:List aH)(vs:List V)(h:IsL H N vs):IsL H' N vs:=IsL.sameD (λb o e _=>S b o e) N vs h
mutual
def mU:aH->Bool
 |.lst _=>aJ
 |.dct _ _=>aJ
 |.tup N=>on N
 |_=>aC
def on:List aH->Bool
 |[]=>aC
 |d::N=>mU d&&on N
end
def iU(H H':aD):Prop:=∀a xs,H a=some (.tup xs)->H' a=some (.tup xs)
mutual
theorem bK.keep(S:iU H H'):∀(d:aH)(v:V),mU d=aC->bK H d v->bK H' d v
 |.non,_,_,h=>h
 |.bl _,_,_,h=>h
 |.int _,_,_,h=>h
 |.str _,_,_,h=>h
 |.lst N,_,f,_=>by cases f
 |.tup N,_,f,⟨a,vs,e,o,h⟩=>⟨a,vs,e,S _ _ o,IsL.keep S N vs f h⟩
 |.dct B N,_,f,_=>by cases f
theorem IsL.keep(S:iU H H'):∀(N:List aH)(vs:List V),on N=aC->IsL H N vs->IsL H' N vs
 |[],_,_,h=>h
 |d::N,_,f,⟨v,r,e,h,t⟩=>⟨v,r,e,bK.keep S d v (iV.mp f).1 h,IsL.keep S N r (iV.mp f).2 t⟩
end
mutual
noncomputable def fQ:aH->aH->Bool
 |.non,.non=>aC
 |.bl a,.bl b=>a==b
 |.bl a,.int b=>(if a then 1 else 0)==b
 |.int a,.bl b=>a==(if b then 1 else 0)
 |.int a,.int b=>a==b
 |.str a,.str b=>a==b
 |.lst a,.lst b=>mx a b
 |.tup a,.tup b=>mx a b
 |_,_=>aJ
noncomputable def mx:List aH->List aH->Bool
 |[],[]=>aC
 |a::r,b::q=>fQ a b&&mx r q
 |_,_=>aJ
end
mutual
noncomputable def dG:Nat->aH->Bool
 |_,.dct _ _=>aJ
 |0,.lst _=>aJ
 |0,.tup _=>aJ
 |n+1,.lst N=>iR n N
 |n+1,.tup N=>iR n N
 |_,_=>aC
noncomputable def iR:Nat->List aH->Bool
 |_,[]=>aC
 |n,d::N=>dG n d&&iR n N
end
mutual
theorem x3:∀(n:Nat)(d:aH),dG n d=aC->fQ d d=aC
 |_,.non,_=>rfl
 |_,.bl b,_=>beq_self_eq_true b
 |_,.int i,_=>beq_self_eq_true i
 |_,.str x,_=>beq_self_eq_true x
 |0,.lst N,f=>by cases f
 |0,.tup N,f=>by cases f
 |n+1,.lst N,f=>z2 n N f
 |n+1,.tup N,f=>z2 n N f
 |n,.dct B N,f=>by cases n<;>cases f
theorem z2:∀(n:Nat)(N:List aH),iR n N=aC->mx N N=aC
 |_,[],_=>rfl
 |n,d::N,f=>by
  rw[iR,fK]at f;show(fQ d d&&mx N N)=aC;rw[x3 n d f.1,z2 n N f.2];rfl
end
theorem IsL.length:∀{N:List aH} {vs:List V},IsL H N vs->vs.length=N.length
 |[],_,h=>by rw[show _=[] from h];rfl
 |d::N,_,⟨v,r,e,_,t⟩=>by rw[e,hJ,hJ,IsL.length t]
mutual
theorem bK.inj:∀(d e:aH)(v:V),bK H d v->bK H e v->(∃n,dG n d=aC)->(∃n,dG n e=aC)->d=e
 |.non,e,v,h,h',_,_=>by
  cases e<;>simp_all [bK]
 |.bl b,e,v,h,h',_,_=>by
  cases e<;>simp_all [bK]
 |.int b,e,v,h,h',_,_=>by
  cases e<;>simp_all [bK]
 |.str b,e,v,h,h',_,_=>by
  cases e<;>simp_all [bK]
 |.lst N,e,v,⟨a,vs,q,o,h⟩,h',⟨n,f⟩,⟨m,g⟩=>by
  subst q;cases e with
  |lst es=>
   obtain⟨i,j,c,G,h'⟩:=h';cases c;rw[o]at G;cases G;cases n with
   |zero=>cases f
   |succ n=>
    cases m with
    |zero=>cases g
    |succ m=>rw[IsL.inj N es vs h h' ⟨n,f⟩ ⟨m,g⟩]
  |tup es=>
   obtain⟨i,j,c,G,h'⟩:=h';cases c;rw[o]at G;cases G
  |dct B es=>cases m<;>cases g
  |_=>simp_all [bK]
 |.tup N,e,v,⟨a,vs,q,o,h⟩,h',⟨n,f⟩,⟨m,g⟩=>by
  subst q;cases e with
  |tup es=>
   obtain⟨i,j,c,G,h'⟩:=h';cases c;rw[o]at G;cases G;cases n with
   |zero=>cases f
   |succ n=>
    cases m with
    |zero=>cases g
    |succ m=>rw[IsL.inj N es vs h h' ⟨n,f⟩ ⟨m,g⟩]
  |lst es=>
   obtain⟨i,j,c,G,h'⟩:=h';cases c;rw[o]at G;cases G
  |dct B es=>cases m<;>cases g
  |_=>simp_all [bK]
 |.dct B N,e,v,_,h',⟨n,f⟩,_=>by cases n<;>cases f
theorem IsL.inj:∀(N es:List aH)(vs:List V),IsL H N vs->IsL H es vs->(∃n,iR n N=aC)->(∃n,iR n es=aC)->N=es
 |[],es,vs,h,h',_,_=>by
  rw[show vs=[] from h]at h';cases es with
  |nil=>rfl
  |cons e es=>obtain⟨v,r,q,_⟩:=h';cases q
 |d::N,es,vs,⟨v,r,q,h,t⟩,h',⟨n,f⟩,⟨m,g⟩=>by
  subst q;cases es with
  |nil=>cases(show v::r=[] from h')
  |cons e es=>
   obtain⟨b,c,a,h',t'⟩:=h';cases a;rw[iR,fK]at f g;rw[bK.inj d e v h h' ⟨n,f.1⟩ ⟨m,g.1⟩,IsL.inj N es r t t' ⟨n,f.2⟩ ⟨m,g.2⟩]
end
theorem IsL.get:∀{N:List aH} {vs:List V} {i:Nat} {d:aH},IsL H N vs->N[i]?=some d->∃v,vs[i]?=some v/\bK H d v
 |[],_,_,_,_,e=>by simp at e
 |d::N,_,0,d',⟨v,r,e,h,t⟩,q=>by
  simp at q;subst q e;exact⟨v,O,h⟩
 |d::N,_,i+1,d',⟨v,r,e,h,t⟩,q=>by
  subst e;obtain⟨u,h1,h2⟩:=IsL.get (i:=i) t (by simpa using q);exact⟨u,by simpa using h1,h2⟩
theorem zJ:∀(N es:List aH),N.length=es.length->(fH N.length).all (λj=>fQ (N.getD j .non) (es.getD j .non))=mx N es
 |[],[],_=>rfl
 |d::N,e::es,h=>by
  have a:=zJ N es (by simpa using h);rw[hJ,List.range_succ_eq_map,qK,oE];show(fQ d e&&(fH N.length).all (λj=>fQ (N.getD j .non) (es.getD j .non)))=(fQ d e&&mx N es)
  rw[a]
 |[],_::_,h=>by simp at h
 |_::_,[],h=>by simp at h
theorem x5:∀(N es:List aH),N.length≠es.length->mx N es=aJ
 |[],[],h=>absurd O h
 |d::N,e::es,h=>by
  show(fQ d e&&mx N es)=aJ;rw[x5 N es (λq=>h (by simp[q]))];simp
 |[],_::_,_=>rfl
 |_::_,[],_=>rfl
theorem zo:∀{n:Nat} {N:List aH} {i:Nat} {d:aH},iR n N=aC->N[i]?=some d->dG n d=aC
 |n,[],_,_,_,e=>by simp at e
 |n,d::N,0,d',f,e=>by
  simp at e;subst e;rw[iR,fK]at f;exact f.1
 |n,d::N,i+1,d',f,e=>by
  rw[iR,fK]at f;exact zo (i:=i) f.2 (by simpa using e)
theorem IsL.snoc(h:bK H d v):∀{N:List aH} {vs:List V},IsL H N vs->IsL H (N++[d]) (vs++[v])
 |[],_,e=>by
  rw[show _=[] from e];exact⟨v,[],O,h,O⟩
 |d'::N,_,⟨a,r,e,h',t⟩=>by
  subst e;exact⟨a,r++[v],O,h',IsL.snoc h t⟩
theorem IsL.rev:∀{N:List aH} {vs:List V},IsL H N vs->IsL H N.reverse vs.reverse
 |[],_,e=>by rw[show _=[] from e];exact O
 |d::N,_,⟨v,r,e,h,t⟩=>by
  subst e;rw[List.reverse_cons,List.reverse_cons];exact IsL.snoc h (IsL.rev t)
theorem IsL.app(h:IsL H es us):∀{N:List aH} {vs:List V},IsL H N vs->IsL H (N++es) (vs++us)
 |[],_,e=>by rw[show _=[] from e];exact h
 |d::N,_,⟨v,r,e,h',t⟩=>by
  subst e;exact⟨v,r++us,O,h',IsL.app h t⟩
theorem IsL.strs(H:aD):∀zs:List aA,IsL H (zs.map aH.str) (zs.map V.str)
 |[]=>rfl
 |z::zs=>⟨.str z,zs.map V.str,O,O,IsL.strs H zs⟩
theorem iU.lst(h:H l=some (.lst xs)):iU H (aI H l o):=λa ys e=>by
 have:a≠l:=q9 e h (by intro b;cases b);rw[bD this];exact e
theorem aM.over(S:aM H H')(a:H l=aG):aM H (L2.aI H' l o):=λb u e=>by
 rw[bD (dC e a)];exact S b u e
theorem vS:∀{N:List aH},(∀d∈N,dG n d=aC)->iR n N=aC
 |[],_=>by rw[iR]
 |d::N,h=>by
  rw[iR,h d eJ,vS λe m=>h e (eY _ m)];rfl
inductive pY(s:aK)(H:aD):aH->aE->Prop where
 |non:pY s H .non .none
 |bl (b:Bool):pY s H (.bl b) (.bool b)
 |int (i:Int) (t:Tok):pY s H (.int i) (.int i t)
 |str (x:aA) (t:Tok):pY s H (.str x) (.str x t)
 |lst {N:List aH} {l:aB} {its:List aE} {vs:List V} (hl:s.heap.IsList l its.toArray) (r:cB vs its) (h:IsL H N vs):pY s H (.lst N) (.ref l)
 |tup {N:List aH} {l:aB} {its:List aE} {vs:List V} (hl:s.heap.IsTuple l its.toArray) (r:cB vs its) (h:IsL H N vs):pY s H (.tup N) (.ref l)
section
variable{X:aZ}{U:List (aB×aY)}{Y:St}{H:aD}{s:aK}
theorem bK.view(I:Inv X U Y H s)(f:dG n d=aC)(h:bK H d v)(r:cK v u):pY s H d u:=by
 cases d with
 |non=>cases(show v=.non from h);cases r;exact .non
 |bl b=>cases(show v=.bl b from h);cases r;exact .bl b
 |int b=>cases(show v=.int b from h);obtain⟨t,rfl⟩:=r;exact .int b t
 |str b=>cases(show v=.str b from h);obtain⟨t,rfl⟩:=r;exact .str b t
 |lst N=>
  obtain⟨a,vs,rfl,o,h⟩:=h;cases r;obtain⟨e,c,pl,g⟩:=I.list (aT.of o);exact .lst pl.isList c h
 |tup N=>
  obtain⟨a,vs,rfl,o,h⟩:=h;cases r;obtain⟨e,c,pl,g⟩:=I.tuple (bY.of o);exact .tup pl c h
 |dct B N=>cases n<;>cases f
open PySem.SeqAt in
theorem vR(o:A.units+n<cLine)
 (p:∀(d e:aH)(v b:V)(u a:aE)(A:bX),A.units+n<cLine->dG n d=aC->dG n e=aC->bK H d v->bK H e b->cK v u->cK b a->EqAt A s u a (fQ d e))
 (f:iR n N=aC)(g:iR n es=aC)(h:IsL H N vs)(h':IsL H es i)(r:cB vs c)(k:cB i its')
 (j:Nat)(h1:j<c.toArray.size)(h2:j<its'.toArray.size):EqAt A s c.toArray[j] its'.toArray[j] (fQ (N.getD j .non) (es.getD j .non)):=by
 have l1:=r.length;have l2:=k.length;have B:=h.length;have C:=h'.length;rw[eO]at h1 h2;have l:N[j]?=some (N.getD j .non):=by
  rw[jV,cY VF];rfl
 have m:es[j]?=some (es.getD j .non):=by
  rw[jV,cY VF];rfl
 obtain⟨v,q,t⟩:=h.get l;obtain⟨b,w,x⟩:=h'.get m;obtain⟨u,p1,k1⟩:=r.get q;obtain⟨a,D,k2⟩:=k.get w;have y:c.toArray[j]=u:=by
  have:=dI.mp p1;obtain⟨_,e⟩:=this;simpa using e
 have z:its'.toArray[j]=a:=by
  have:=dI.mp D;obtain⟨_,e⟩:=this;simpa using e
 rw[y,z];exact p _ _ v b u a A o (zo f l) (zo g m) t x k1 k2
open PySem.SeqAt in
theorem yM(I:Inv X U Y H s)
 (D:∀(d e:aH)(v B:V)(u y:aE)(A:bX),A.units+n<cLine->dG n d=aC->dG n e=aC->bK H d v->bK H e B->cK v u->cK B y->EqAt A s u y (fQ d e))
 (d e:aH)(v B:V)(u y:aE)(A:bX)(T:A.units+(n+1)<cLine)(f:dG (n+1) d=aC)(g:dG (n+1) e=aC)(h:bK H d v)(h':bK H e B)(r:cK v u)(G:cK B y) :
  RcAt A s u y (fQ d e)/\RcNeAt A s u y (!fQ d e):=by
 have i:A.units<cLine:=VF;have E:A.in1.units+n<cLine:=by show A.units+1+n<cLine;omega
 have w:=bK.view I f h r;have z:=bK.view I g h' G;cases w with
 |non=>
  cases z with
  |non=>exact⟨RcAt.none_none,RcNeAt.none_none⟩
  |bl b=>exact⟨RcAt.none_bool _,RcNeAt.none_bool _⟩
  |int b t=>exact⟨RcAt.none_int _ _,RcNeAt.none_int _ _⟩
  |str b t=>exact⟨RcAt.none_str _ _,RcNeAt.none_str _ _⟩
  |lst c _ _=>exact⟨RcAt.none_list c i,RcNeAt.none_list c i⟩
  |tup c _ _=>exact⟨RcAt.none_tuple c i,RcNeAt.none_tuple c i⟩
 |bl a=>
  cases z with
  |non=>exact⟨RcAt.bool_none _,RcNeAt.bool_none _⟩
  |bl b=>exact⟨RcAt.bool_bool _ _,RcNeAt.bool_bool _ _⟩
  |int b t=>exact⟨RcAt.bool_int _ _ _,RcNeAt.bool_int _ _ _⟩
  |str b t=>exact⟨RcAt.bool_str _ _ _,RcNeAt.bool_str _ _ _⟩
  |lst c _ _=>exact⟨RcAt.bool_list _ c i,RcNeAt.bool_list _ c i⟩
  |tup c _ _=>exact⟨RcAt.bool_tuple _ c i,RcNeAt.bool_tuple _ c i⟩
 |int a t=>
  cases z with
  |non=>exact⟨RcAt.int_none _ _,RcNeAt.int_none _ _⟩
  |bl b=>exact⟨RcAt.int_bool _ _ _,RcNeAt.int_bool _ _ _⟩
  |int b t=>exact⟨RcAt.int_int _ _ _ _,RcNeAt.int_int _ _ _ _⟩
  |str b t=>exact⟨RcAt.int_str _ _ _ _,RcNeAt.int_str _ _ _ _⟩
  |lst c _ _=>exact⟨RcAt.int_list _ _ c i,RcNeAt.int_list _ _ c i⟩
  |tup c _ _=>exact⟨RcAt.int_tuple _ _ c i,RcNeAt.int_tuple _ _ c i⟩
 |str a t=>
  cases z with
  |non=>exact⟨RcAt.str_none _ _,RcNeAt.str_none _ _⟩
  |bl b=>exact⟨RcAt.str_bool _ _ _,RcNeAt.str_bool _ _ _⟩
  |int b t=>exact⟨RcAt.str_int _ _ _ _,RcNeAt.str_int _ _ _ _⟩
  |str b t=>exact⟨RcAt.str_str _ _ _ _,RcNeAt.str_str _ _ _ _⟩
  |lst c _ _=>exact⟨RcAt.str_list _ _ c i,RcNeAt.str_list _ _ c i⟩
  |tup c _ _=>exact⟨RcAt.str_tuple _ _ c i,RcNeAt.str_tuple _ _ c i⟩
 |@lst N l m vs c o hi=>
  cases z with
  |non=>exact⟨RcAt.list_none c i,RcNeAt.list_none c i⟩
  |bl b=>exact⟨RcAt.list_bool _ c i,RcNeAt.list_bool _ c i⟩
  |int b t=>exact⟨RcAt.list_int _ _ c i,RcNeAt.list_int _ _ c i⟩
  |str b t=>exact⟨RcAt.list_str _ _ c i,RcNeAt.list_str _ _ c i⟩
  |@lst es J its' L k p q=>
   have C:iR n N=aC:=f
   have g':iR n es=aC:=g
   have l1:=o.length;have l2:=p.length;have M:=hi.length;have Q:=q.length;by_cases x:N.length=es.length
   .have hsz:m.toArray.size=its'.toArray.size:=by rw[eO,eO];omega
    have key:(fH m.toArray.size).all (λj=>fQ (N.getD j .non) (es.getD j .non))=fQ (.lst N) (.lst es):=by
     rw[eO,show m.length=N.length by omega];exact zJ N es x
    rw[←key];exact⟨RcAt.lists c k hsz i (vR E D C g' hi q o p),RcNeAt.lists c k hsz i (vR E D C g' hi q o p)⟩
   .have key:fQ (.lst N) (.lst es)=aJ:=x5 N es x;have hsz:(m.toArray.size !=its'.toArray.size)=aC:=by
     rw[eO,eO,bne_iff_ne];omega
    rw[key];exact⟨RcAt.lists_lengths c k hsz i,RcNeAt.lists_lengths c k hsz i⟩
  |tup k _ _=>exact⟨RcAt.list_tuple c k i,RcNeAt.list_tuple c k i⟩
 |@tup N l m vs c o hi=>
  cases z with
  |non=>exact⟨RcAt.tuple_none c i,RcNeAt.tuple_none c i⟩
  |bl b=>exact⟨RcAt.tuple_bool _ c i,RcNeAt.tuple_bool _ c i⟩
  |int b t=>exact⟨RcAt.tuple_int _ _ c i,RcNeAt.tuple_int _ _ c i⟩
  |str b t=>exact⟨RcAt.tuple_str _ _ c i,RcNeAt.tuple_str _ _ c i⟩
  |lst k _ _=>exact⟨RcAt.tuple_list c k i,RcNeAt.tuple_list c k i⟩
  |@tup es J its' L k p q=>
   have C:iR n N=aC:=f
   have g':iR n es=aC:=g
   have l1:=o.length;have l2:=p.length;have M:=hi.length;have Q:=q.length;have key:((fH (min m.toArray.size its'.toArray.size)).all (λj=>fQ (N.getD j .non) (es.getD j .non))&&m.toArray.size==its'.toArray.size)=fQ (.tup N) (.tup es):=by
    rw[eO,eO,show m.length=N.length by omega,show its'.length=es.length by omega];show _=mx N es;by_cases x:N.length=es.length
    .rw[←x,Nat.min_self,zJ N es x];simp
    .rw[x5 N es x,beq_eq_false_iff_ne.mpr x];simp
   rw[←key];exact⟨RcAt.tuples c k i (vR E D C g' hi q o p),RcNeAt.tuples c k i (vR E D C g' hi q o p)⟩
open PySem.SeqAt in
theorem bK.eqAt(I:Inv X U Y H s):∀(n:Nat)(d e:aH)(v k:V)(u j:aE)(A:bX),A.units+n<cLine->dG n d=aC->dG n e=aC->bK H d v->bK H e k->cK v u->cK k j->EqAt A s u j (fQ d e):=by
 intro n
 induction n with
 |zero=>
  intro d e v k u j A q f g h h' r c;cases d with
  |lst _=>cases f
  |tup _=>cases f
  |dct _ _=>cases f
  |non=>
   cases e with
   |lst _=>cases g
   |tup _=>cases g
   |dct _ _=>cases g
   |_=>cases h;cases h';exact oi r c O O
  |bl b=>
   cases e with
   |lst _=>cases g
   |tup _=>cases g
   |dct _ _=>cases g
   |_=>cases h;cases h';exact oi r c O O
  |int b=>
   cases e with
   |lst _=>cases g
   |tup _=>cases g
   |dct _ _=>cases g
   |_=>cases h;cases h';exact oi r c O O
  |str b=>
   cases e with
   |lst _=>cases g
   |tup _=>cases g
   |dct _ _=>cases g
   |_=>cases h;cases h';exact oi r c O O
 |succ n y=>
  intro d e v k u j A q f g h h' r c;have z:=(yM I y d e v k u j A q f g h h' r c).1;have w:=bK.view I f h r;have m:=bK.view I g h' c;have o:∀(l p:aB),u=.ref l->j=.ref p->EqAt A s u j (fQ d e):=by
   rintro l p rfl rfl;by_cases x:l=p
   .subst x;have B:v=.ref l:=r.inj (show cK (.ref l) (.ref l) from O);have C:k=.ref l:=c.inj (show cK (.ref l) (.ref l) from O);subst B C;have D:=bK.inj d e _ h h' ⟨_,f⟩ ⟨_,g⟩;subst D;rw[x3 _ d f];exact EqAt.same _
   .exact EqAt.of_refs x z
  cases w with
  |lst i _ _=>
   cases m with
   |lst a _ _=>exact o _ _ O O
   |tup a _ _=>exact o _ _ O O
   |non=>exact EqAt.list_none i VF
   |bl b=>exact EqAt.list_bool _ i VF
   |int b t=>exact EqAt.list_int _ _ i VF
   |str b t=>exact EqAt.list_str _ _ i VF
  |tup i _ _=>
   cases m with
   |lst a _ _=>exact o _ _ O O
   |tup a _ _=>exact o _ _ O O
   |non=>exact EqAt.tuple_none i VF
   |bl b=>exact EqAt.tuple_bool _ i VF
   |int b t=>exact EqAt.tuple_int _ _ i VF
   |str b t=>exact EqAt.tuple_str _ _ i VF
  |non=>
   cases m with
   |lst a _ _=>exact EqAt.none_list a VF
   |tup a _ _=>exact EqAt.none_tuple a VF
   |_=>cases h;cases h';exact oi r c O O
  |bl b=>
   cases m with
   |lst a _ _=>exact EqAt.bool_list _ a VF
   |tup a _ _=>exact EqAt.bool_tuple _ a VF
   |_=>cases h;cases h';exact oi r c O O
  |int b t=>
   cases m with
   |lst a _ _=>exact EqAt.int_list _ _ a VF
   |tup a _ _=>exact EqAt.int_tuple _ _ a VF
   |_=>cases h;cases h';exact oi r c O O
  |str b t=>
   cases m with
   |lst a _ _=>exact EqAt.str_list _ _ a VF
   |tup a _ _=>exact EqAt.str_tuple _ _ a VF
   |_=>cases h;cases h';exact oi r c O O
end
inductive v7(neg:Bool)(x y:V)(H:aD)(Q:aP):Prop
 |mk:∀d e,bK H d x->bK H e y->dG 30 d=aC->dG 30 e=aC->Q (.bl (if neg then !fQ d e else fQ d e)) H->v7 neg x y H Q
theorem vc(c:X.A.units+64<cLine):fO X (iO .Eq) (v7 aJ):=by
 intro U s Y H x y v u Q I a b h;obtain⟨d,e,h,h',f,g,q⟩:=h;exact(yM (n:=29) I (bK.eqAt I 29) d e x y v u X.A VF f g h h' a b).1 _ _ _ _ ⟨.bl _,H,I,O,q⟩
theorem o8(c:X.A.units+64<cLine):fO X (iO .NotEq) (v7 aC):=by
 intro U s Y H x y v u Q I a b h;obtain⟨d,e,h,h',f,g,q⟩:=h;exact(yM (n:=29) I (bK.eqAt I 29) d e x y v u X.A VF f g h h' a b).2 _ _ _ _ ⟨.bl _,H,I,O,q⟩
inductive Tj(neg:Bool)(x y:V)(H:aD)(Q:aP):Prop
 |mk:∀d p xs N,((H p=some (.lst xs)\/H p=some (.tup xs)))->y=.ref p->bK H d x->IsL H N xs->dG 30 d=aC->iR 30 N=aC->(Q (.bl (if neg then !(N.any λe=>fQ e d) else N.any λe=>fQ e d)) H)->Tj neg x y H Q
instance Vg (k:aW) (l:List aW):Decidable (k∈l):=decidable_of_iff (l.any (λx=>decide (x=k))=aC) (by simp)
noncomputable def fW(key:Nat->aW):Nat->List aW
 |0=>[]
 |i+1=>if key i∈fW key i then fW key i else fW key i++[key i]
theorem wQ(key:Nat->aW):∀i,(fW key i).length<=i
 |0=>bQ _
 |i+1=>by
  have a:=wQ key i;show(if key i∈fW key i then fW key i else fW key i++[key i]).length<=i+1;split
  .omega
  .rw[eW,li];omega
theorem Cq(key:Nat->aW)(k:aW):∀i,k∈fW key i↔∃j,j<i/\key j=k
 |0=>by
  constructor
  .intro h;cases h
  .rintro⟨j,h,_⟩;omega
 |i+1=>by
  have a:=Cq key k i;show k∈(if key i∈fW key i then fW key i else fW key i++[key i])↔_;have step:(k∈fW key i\/k=key i)↔∃j,j<i+1/\key j=k:=by
   rw[a];constructor
   .rintro (⟨j,h,e⟩|e)
    .exact⟨j,VF,e⟩
    .exact⟨i,VF,e.symm⟩
   .rintro⟨j,h,e⟩;by_cases b:j=i
    .subst b;exact .inr e.symm
    .exact .inl ⟨j,VF,e⟩
  rw[←step];split
  .rename_i h;constructor
   .exact .inl
   .rintro (h'|rfl)
    .exact h'
    .exact h
  .rw[gQ,fG]
theorem Bb(key:Nat->aW):∀n,(fW key n).length=n↔∀i j,i<j->j<n->key i≠key j
 |0=>⟨λ_ i j _ h=>absurd h (Nat.not_lt_zero _),λ_=>rfl⟩
 |n+1=>by
  have c:=Bb key n;have le:=wQ key n;have b:=Cq key (key n) n;show(if key n∈fW key n then fW key n else fW key n++[key n]).length=n+1↔_;split
  .rename_i h;constructor
   .intro e;omega
   .intro e;obtain⟨j,a,q⟩:=b.mp h;exact absurd q (e j n a (sf n))
  .rename_i h;rw[eW,li,Nat.add_right_cancel_iff,c];constructor
   .intro e i j hi a;by_cases q:j=n
    .subst q;exact λd=>h (b.mpr ⟨i,hi,d⟩)
    .exact e i j hi VF
   .intro e i j hi a;exact e i j hi VF
noncomputable def my(B:List aW):List aW:=fW (λi=>B.getD i (.inl 0)) B.length
theorem z4(B:List aW):(my B).length=B.length↔B.Nodup:=by
 unfold my;rw[Bb,rY,w3];constructor
 .intro h i j hi a b;have:=h i j b a;simpa [jV,hi,a] using this
 .intro h i j b a;have hi:i<B.length:=VF;have:=h i j hi a b;simpa [jV,hi,a] using this
theorem yn(B:List aW):(my B).length<=B.length:=wQ _ _
def rj(P:bT)(w:bN)(a:aB)(S:aW->Bool)(n:Nat):dX:=.ext λh=>h.SetOf (dZ P w) a S n
theorem rj.ok(x:h.SetOf (dZ P w) a S n):dR P w H h a (rj P w a S n):=
 ⟨x,let ⟨o,_,_,_,b,_⟩:=x;⟨o,b⟩,λ_ _ ⟨o,es,ep,t,b,r⟩ k=>⟨o,es,ep,t,k o b,r⟩⟩
theorem NF(h:(dZ P w).is k v=aC):v.scannable=aC:=by
 rcases mW h with ⟨i,t,rfl,rfl⟩|⟨x,t,rfl,rfl⟩<;>rfl
section
variable{P:bT}{w:bN}{A:bX}{R:Result->aK->Prop}{I:aB}{fp g:List aB}{G:Array mM->Array mM->Prop}{n:Nat}{Pv:Nat->aE->Prop}{h:Nat->aK->Prop}
theorem Lk{h:bE}(x:h.SetOf (dZ P w) a S n)(e:∀k,S k=b k)(q:n=c):h.SetOf (dZ P w) a b c:=by
 obtain rfl:S=b:=funext e;subst q;exact x
theorem Ng(W:WalksS P w A.in1 I fp g G n Pv h)(D:aB)(q:D∉fp)(key:Nat->aW)(z:∀i v,Pv i v->(dZ P w).is (key i) v=aC)(f:n+1<scanBound)(a1:∀s L,Moved (D::g) G s L->L.heap.SetOf (dZ P w) D (λk=>decide (k∈fW key n)) (fW key n).length->True) :
  ∀(m i:Nat)(s:aK),n-i=m->i<=n->h i s->s.heap.SetOf (dZ P w) D (λk=>decide (k∈fW key i)) (fW key i).length ->
   (∀L,Moved (D::g) G s L->L.heap.SetOf (dZ P w) D (λk=>decide (k∈fW key n)) (fW key n).length->R (.ok (.ret .none)) L) ->
   codeAny (aX P w) A (.builtin "set.update.loop" ⟨[.ref D,.ref I],[]⟩) R s:=by
 have B:D∉g:=λa=>q (W.sub _ a);have sub:∀b∈g,b∈D::g:=λb a=>eY _ a;have u:∀{s L:aK} {S:aW->Bool} {c:Nat},Moved g G s L->s.heap.SetOf (dZ P w) D S c->L.heap.SetOf (dZ P w) D S c:=λd ⟨o,es,ep,t,C,r⟩=>⟨o,es,ep,t,d.heap D _ B C,r⟩
 intro m
 induction m with
 |zero=>
  intro i s E H st j l;obtain rfl:i=n:=VF;refine nh PyProof.Rows.F.entry_set_update_loop ?_;rw[ow wY _];show aU _ A.in1 (pyNext (.ref I)>>=_) _ _ s;refine aO (W.done s _ _ st λL d=>?_);exact bH (l L (d.mono sub) (u d j))
 |succ m J=>
  intro i s E H st j l;have lt:i<n:=VF;refine nh PyProof.Rows.F.entry_set_update_loop ?_;rw[ow wY _];show aU _ A.in1 (pyNext (.ref I)>>=_) _ _ s;refine aO (W.item i s _ _ lt st λv L pv M d=>?_);have p:=z i v pv;have N:=u d j;show aU _ A.in1 (holding [v] (setAdd D v)>>=_) _ _ L;refine aO (jn ?_);unfold setAdd;refine jn (aO ((dZ P w).pyHash (k:=key i) p ?_));have room:(fW key i).length+1<scanBound:=by have:=wQ key i;omega
  refine wpAny_setAddHashed_of (knd:=dZ P w) (s:={L with toks:=L.toks+1}) p (NF p) N room λh' x Q=>?_;have T:h'.SetOf (dZ P w) D (λk=>decide (k∈fW key (i+1))) (fW key (i+1)).length:=by
   refine Lk Q (λk=>?_) ?_
   .show(decide (k∈fW key i)||decide (k=key i))=decide (k∈if key i∈fW key i then fW key i else fW key i++[key i]);by_cases a:key i∈fW key i
    .rw[if_pos a];by_cases y:k=key i
     .subst y;simp[a]
     .simp[y]
    .rw[if_neg a];simp
   .show(if decide (key i∈fW key i)=aC then(fW key i).length else(fW key i).length+1)=(if key i∈fW key i then fW key i else fW key i++[key i]).length;by_cases a:key i∈fW key i
    .rw[if_pos a,if_pos (decide_eq_true a)]
    .rw[if_neg a,if_neg (by simpa using a)];simp
  refine bH ⟨nV wY _,J (i+1) _ VF lt (W.frame _ L _ _ M (nq _) λb f o e=>?_) T λU Y a0=>?_⟩
  .rw[x.2 b (λa:b=D=>q (by rw[←a];exact f))];exact e
  .refine l U (Moved.trans W.gtrans ((d.mono sub).then_heap (nq _) λb o f e=>?_) Y) a0;rw[x.2 b (λa:b=D=>f (by rw[a];exact eJ))];exact e
end
section
variable{P:bT}{w:bN}{A:bX}{E:aE->aK->Prop}{s:aK}
abbrev mS (a:Bool):aY:={cls:=.type "set",dict:=aG,data:=.set #[] 0 (.fresh 0 0 a)}
set_option maxHeartbeats 8000000 in
theorem KG{l:aB}{d:List aE}{B:List aW}{Q:aE->aK->Prop}(H:A.handled=aG)(I:s.heap.IsList l d.toArray)(J:∀i v,d[i]?=some v->(dZ P w).is (B.getD i (.inl 0)) v=aC)(L:d.length=B.length)(M:d.length+1<scanBound)
 (h:∀(h':bE)(tk:Nat),h'.SetOf (dZ P w) s.heap.objs.size (λk=>decide (k∈my B)) (my B).length->(∀b o,s.heap.get? b=some o->h'.get? b=some o)->Q (.ref s.heap.objs.size) {s with heap:=h',toks:=tk}) :
  aU (aX P w) A (call (.type "set") [.ref l]) Q E s:=by
 obtain⟨c,tl,an⟩:=ox.mro;have ao:=ox.made;have ap:=ox.sub;refine lK (codeAny_of_tree ?_);show aU _ _ (callAny (.type "set") _) _ _ _;refine bH ⟨uo _ VE,nh PySem.F.entry_type_call ?_⟩;rw[bX.under_plain (weight_type_call_type "set" [.ref l] []) O];have aq:=ox.notType;have ar:=ox.canCreate;have as:=PySem.F.typeCall_set_1 (.ref l)
 repeat (any_goals (first|assumption|wp_step))
 refine nl (code_set_new_1 (.ref l) (E:=E) (Q₁:=λn s1=>∃a:Bool,n=.ref s.heap.objs.size/\s1={s with heap:=s.heap.push (mS a)}) λa=>⟨a,O,O⟩) λr s1 j=>?_;cases r with
 |error e=>exact j
 |ok fl=>
  cases fl with
  |ret n=>
   obtain⟨a,rfl,rfl⟩:=j;have p:(s.heap.push (mS a)).get? s.heap.objs.size=some (mS a):=gF _ O;have N:aK.TypeIs {s with heap:=s.heap.push (mS a)} (.ref s.heap.objs.size) "set":=⟨_,p,O⟩
   have au:=ox.init.lookup;have av:=ox.init.bind (.ref s.heap.objs.size)
   repeat (any_goals (first|assumption|wp_step))
   refine nl (pA (R:=wants (λr q=>r=.none/\∃h' tk,q={s with heap:=h',toks:=tk}/\h'.SetOf (dZ P w) s.heap.objs.size (λk=>decide (k∈my B)) (my B).length/\(∀b o,s.heap.get? b=some o->h'.get? b=some o)) E)
    ox.init.plain PySem.F.entry_set_init (check_set_init_1 N ?_)) λT q m=>?_
   .obtain⟨⟨aw,U,ax,Y⟩,t,u,x,y⟩:=I;simp only at u y;subst u y;have a0:(s.heap.push (mS a)).get? l=some {cls:=.type "list",dict:=U,data:=.seq d.toArray x,slots:=Y}:=dM _ t;have ay:=PySem.F.sub_list_set;have az:=PySem.F.sub_list_frozenset;have aR:(mJ "list" == mJ "dict")=aJ:=VD;have z:(s.heap.push (mS a)).IsList l d.toArray:=⟨_,a0,O,x,O⟩
    have C:l<s.heap.objs.size:=dQ t;unfold Builtin.«set.__init__» noKeywords Builtin.Frozenset.updateFrom;generalize a1:pyIter=lu
    wp_walk
    subst a1;refine qE z (aO (wpAny_runValue ?_));have a2:A.in1.in1.in1.handled=aG:=by simp[H]
    have a3:l≠(s.heap.push (mS a)).objs.size:=by rw[pG];exact eF (uv C)
    have a4:s.heap.objs.size∉[(s.heap.push (mS a)).objs.size,l]:=by
     rw[pG];simp only[eM,fG,mF,or_false,not_or];exact⟨eF (sf _),nk C⟩
    have a5:d.toArray.size=B.length:=by rw[eO,L]
    refine Ng ((sA a2 _ l a3 d.toArray).toS) s.heap.objs.size a4 (λi=>B.getD i (.inl 0)) (λi v pv=>J i v (by simpa using pv)) (by rw[eO];exact M) (λ_ _ _ _=>trivial) (d.toArray.size-0) 0 _ VF (jo _)
     ⟨⟨_,gF _ O,O,O⟩,(z.push _)⟩ ?_ ?_
    .have g:((s.heap.push (mS a)).push {cls:=.type "list_iterator",data:=.fields #[.ref l,.int 0 0]}).get? s.heap.objs.size=some (mS a):=dM _ p;exact⟨_,#[],0,_,g,⟨O,O,O⟩,O,λe a6=>by simp at a6,λk=>by simp[fW],VD,by rfl,O⟩
    .intro a7 f D;obtain⟨a8,a9,aa,ac,ae⟩:=a7;have af:a9=s.gens:=f.gens;have ag:aa=s.drawn:=f.drawn;have ah:ae=s.os:=f.os;subst af ag ah;rw[a5]at D;show aU _ _ _ _ _ _;refine bH ?_;show aU _ _ (ret iZ) _ _ _;refine bH ⟨O,a8,ac,O,D,λb o e=>?_⟩;have G:=dQ e;have ai:b≠s.heap.objs.size:=eF G;have aj:b≠(s.heap.push (mS a)).objs.size:=by rw[pG];exact eF (uv G)
     exact f.heap b o (by simp only[eM,fG,mF,or_false,not_or];exact⟨ai,aj⟩) (dM _ (dM _ e))
   .cases T with
    |error e=>exact m
    |ok ak=>
     cases ak with
     |ret r=>
      obtain⟨rfl,h',tk,rfl,al,am⟩:=m
      repeat (any_goals (first|assumption|wp_step))
      exact h _ _ al am
     |_=>exact m.elim
  |_=>exact j.elim
end
section
variable{X:aZ}
theorem Dg:∀{B:List aW} {us:List aE},cB (B.map kV) us->∀i v,us[i]?=some v->(dZ P w).is (B.getD i (.inl 0)) v=aC
 |[],us,r,i,v,e=>by
  rw[lF]at r;cases r;simp at e
 |k::B,us,r,i,v,e=>by
  rw[dW]at r;cases r with
  |cons b c=>
   cases i with
   |zero=>
    simp at e;subst e;cases k with
    |inl a=>obtain⟨t,rfl⟩:=b;exact zX a t
    |inr a=>obtain⟨t,rfl⟩:=b;exact zW a t
   |succ i=>
    have:=Dg (P:=P) (w:=w) c i v (by simpa using e);simpa using this
theorem zf(c:X.calm=aC):iY X (.type "set") (λxs H Q=>∃(p:aB)(B:List aW),xs=[.ref p]/\aT X.K H p (B.map kV)/\B.length<=1000 /\
  ∀l,H l=aG->Q (.ref l) (aI H l (rj X.prog X.w l (λk=>decide (k∈my B)) (my B).length))):=by
 intro U s Y H xs us Q I r h;obtain⟨p,B,rfl,d,i,q⟩:=h;obtain⟨u,rfl,e⟩:=cB.one r;cases e;obtain⟨j,a,pl,m⟩:=I.list d;have b:=a.length;rw[aS]at b;refine KG (B:=B) (I.ok.hd c) pl.isList (Dg a) b.symm (by unfold scanBound;omega) λh' tk f g=>?_;exact⟨.ref s.heap.objs.size,_,I.laid (t':=tk) g (bQ _) (rj.ok f),O,q _ (I.hok.fresh (bQ _))⟩
theorem call_len_set:iY X (.builtin "len") (λxs H Q=>∃l S n,xs=[.ref l]/\H l=some (rj X.prog X.w l S n)/\n<=1000/\Q (.int n) H):=by
 intro U s Y H xs us Q I r h;obtain⟨l,S,n,rfl,e,g,q⟩:=h;obtain⟨u,rfl,b⟩:=cB.one r;cases b;obtain⟨⟨o,es,ep,t,c,hex,d,i,j,k,f,a⟩,_⟩:=I.hok l _ e;refine PySem.call_len_set c hex d f (by rw[a];omega) ⟨.int n,H,I.tok _,⟨s.toks+1,by rw[a]⟩,q⟩
theorem v5(h:pq k v=aC):cK (kV k) v:=by
 rcases mW h with ⟨i,t,rfl,rfl⟩|⟨x,t,rfl,rfl⟩
 .exact⟨t,O⟩
 .exact⟨t,O⟩
theorem wC:∀{xs:List V} {us:List aE},us.length=xs.length->(∀(j:Nat)(u:aE)(x:V),us[j]?=some u->xs[j]?=some x->cK x u)->cB xs us
 |[],[],_,_=>.nil
 |x::xs,u::us,a,h=>.cons (h 0 u x O O) (wC (by simpa using a) λj v y b c=>h (j+1) v y (by simpa using b) (by simpa using c))
 |[],_::_,a,_=>by simp at a
 |_::_,[],a,_=>by simp at a
theorem fJ.get:∀{J:List (aW×V)} {vs:List (aW×aE)} {i:Nat} {p:aW×aE},fJ J vs->vs[i]?=some p->∃q,J[i]?=some q/\q.1=p.1/\cK q.2 p.2
 |_,_,_,_,.nil,e=>by simp at e
 |_,_,0,_,.cons r _,e=>by simp at e;subst e;exact⟨_,O,r.1,r.2⟩
 |_,_,i+1,p,.cons _ t,e=>by
  obtain⟨q,h1,h2⟩:=fJ.get (i:=i) (p:=p) t (by simpa using e);exact⟨q,by simpa using h1,h2⟩
theorem Gw(e:X.calm=aC):iY X (.type "list") (λxs H Q=>∃p J,xs=[.ref p]/\fB H p (.dK J)/\∀l,H l=aG->Q (.ref l) (aI H l (.lst (J.map λa=>kV a.1)))):=by
 intro U s Y H xs us Q I r h;obtain⟨p,J,rfl,f,q⟩:=h;obtain⟨u,rfl,g⟩:=cB.one r;cases g;obtain⟨i,lo,vs,a,m⟩:=f.ok I.hok;obtain⟨ep,n⟩:=m.dictAt;have o:=fJ.length a;refine PySem.W.kdl_call (PySem.W.kdl_dict (knd:=dZ X.prog X.w) (kvs:=vs) (ep:=ep) lo) (I.ok.hd e) n VF λh' tk t c w z hi=>?_;refine⟨.ref s.heap.objs.size,_,I.laid (t':=tk) w (bQ _) (show dR X.prog X.w _ h' _ (.lst (J.map λa=>kV a.1)) from⟨by rw[aS];exact i,t.toList,c,?_,by simpa using z⟩),O,q _ (I.hok.fresh (bQ _))⟩;refine wC (by rw[aS,mD,hi.1,o]) λj u x A b=>?_;obtain⟨k,y,B,C⟩:=hi.2 j u (by rw[←qA];exact A);obtain⟨d,D,E,_⟩:=fJ.get a B;rw[dO,D]at b;have G:kV d.1=x:=by simpa using b
 subst G;rw[show d.1=k from E];exact v5 C
def sY(v d:aB):dX:=.ext λh=>h.IsValuesView v d
theorem sY.ok(x:h.IsValuesView v d):dR P w H h v (sY v d):=
 ⟨x,let ⟨o,a,_⟩:=x;⟨o,a⟩,λ_ _ ⟨o,a,r⟩ k=>⟨o,k o a,r⟩⟩
theorem Ba:sL X "dict.values" (λx vs H Q=>∃d J,x=.ref d/\vs=[]/\fB H d (.dK J)/\∀v,H v=aG->Q (.ref v) (aI H v (sY v d))):=by
 intro U s Y H x vs v us Q I c f h;obtain⟨d,J,rfl,rfl,g,q⟩:=h;cases c;have i:=f.zero;subst i;obtain⟨k,lo,j,l,a⟩:=g.ok I.hok;refine uT w2 a.typeIs PySem.F.entry_dict_values (PySem.F.args_dict_values_1 _) (meets_dict_values (dZ X.prog X.w) d lo) ⟨⟨j,a⟩,?_⟩;exact⟨.ref s.heap.objs.size,_,I.laid (t':=s.toks) (λb m e=>dM _ e) (bQ _) (sY.ok ⟨_,gF _ O,O,O⟩),O,q _ (I.hok.fresh (bQ _))⟩
theorem FV(e:X.calm=aC):iY X (.type "list") (λxs H Q=>∃v d J,xs=[.ref v]/\H v=some (sY v d)/\fB H d (.dK J)/\∀l,H l=aG->Q (.ref l) (aI H l (.lst (J.map (·.2))))):=by
 intro U s Y H xs us Q I r h;obtain⟨v,d,J,rfl,ev,f,q⟩:=h;obtain⟨u,rfl,g⟩:=cB.one r;cases g;obtain⟨i,lo,vs,a,m⟩:=f.ok I.hok;obtain⟨n,_⟩:=I.hok v _ ev;obtain⟨ep,o⟩:=m.dictAt;have p:=fJ.length a;refine PySem.W.kdl_call (PySem.W.kdl_values (knd:=dZ X.prog X.w) (kvs:=vs) (ep:=ep)) (I.ok.hd e) ⟨n,o⟩ VF λh' tk t c w y hi=>?_;refine⟨.ref s.heap.objs.size,_,I.laid (t':=tk) w (bQ _) (show dR X.prog X.w _ h' _ (.lst (J.map (·.2))) from⟨by rw[aS];exact i,t.toList,c,?_,by simpa using y⟩),O,q _ (I.hok.fresh (bQ _))⟩;refine wC (by rw[aS,mD,hi.1,p]) λj u x z b=>?_;obtain⟨k,A⟩:=hi.2 j u (by rw[←qA];exact z);obtain⟨B,C,_,D⟩:=fJ.get a A;rw[dO,C]at b;have E:B.2=x:=by simpa using b
 subst E;exact D
end
theorem JE:oH (.type "list") "keys"=pure aG:=by rw[typeLookup_type,builtinLookup_eq_fast];kernel_rfl
section
variable{P:bT}{w:bN}{A:bX}{E:aE->aK->Prop}{s:aK}
theorem II(m:A.handled=aG)(f:s.heap.get? a=some {cls:=.type "list",dict:=aG,data:=.seq xs k,slots:=c})
 (h:∀h' tk,(∀b o,s.heap.get? b=some o->h'.get? b=some o)->Q aG {s with heap:=h',toks:=tk}):aU (aX P w) A (getAttr? (.ref a) "keys") Q E s:=by
 obtain⟨n,g,d,tk,os⟩:=s;have i:∀j,(⟨n,g,d,j,os⟩:aK).TypeIs (.ref a) "list":=λ_=>⟨_,f,O⟩
 have f1:=sub_AttributeError;have f3:=w9.lookup;have p:=w9.bind (.ref a);have q:=am_list_getattr_none;unfold getAttr? getAttrBy? getAttrBy
 repeat (any_goals (first|assumption|exact i _|((with_reducible show aU _ _ (call (sj "list.__getattribute__") _ _) _ _ _);refine call_meets w9 (i _) am_entry_list_getattribute (F.args_list_getattribute_2 _ _) (meets_getattribute_miss_list a xs k c "keys" _ JE VE) ⟨f,m,λh' j e l=>?_⟩)|wp_step))
 obtain⟨t',r,t⟩:=l.there;show aU _ _ (getattributeRaised _ _ _ _ _ _ _) _ _ _;unfold getattributeRaised
 repeat (any_goals (first|assumption|wp_step))
 exact h _ _ l.keeps
end
theorem vG:entryFor table "dict.update.loop"=some Builtin.«dict.update.loop»:=entryFor_of_tree (by kernel_rfl)
theorem oS:plainId "dict.update.loop"=aC:=VE
section
variable{P:bT}{w:bN}{A:bX}{R:Result->aK->Prop}{I:aB}{fp g:List aB}{G:Array mM->Array mM->Prop}{n:Nat}{Pv:Nat->aE->Prop}{h:Nat->aK->Prop}
theorem MQ(W:WalksS P w A.in1 I fp g G n Pv h)(D:aB)(z:D∉fp)(B:aE)(J:List (aW×aE))(ae:J.length=n)(af:n<=dH)(C:aK)
 (Q:∀(i:Nat)(v:aE),Pv i v->∃(a:aB)(k:aW)(q x:aE)(j:aY)(c:Nat),v=.ref a/\a∉D::g/\C.heap.get? a=some j/\j.cls=.type "tuple"/\j.data=.seq #[q,x] c/\J[i]?=some (k,x)/\(dZ P w).is k q=aC) :
  ∀(m i:Nat)(s:aK),n-i=m->i<=n->h i s->(∀b o,b∉D::g->C.heap.get? b=some o->s.heap.get? b=some o)->s.heap.DictOf (dZ P w) D (merged [] (J.take i)) ->
   (∀L,Moved (D::g) G s L->L.heap.DictOf (dZ P w) D (merged [] J)->R (.ok (.ret B)) L) ->
   codeAny (aX P w) A (.builtin "dict.update.loop" ⟨[.ref D,.ref I,rawInt i,B],[]⟩) R s:=by
 have T:D∉g:=λd=>z (W.sub _ d);have sub:∀b∈g,b∈D::g:=λb d=>eY _ d;have E:∀{s L:aK} {l:List (aW×aE)},Moved g G s L->s.heap.DictOf (dZ P w) D l->L.heap.DictOf (dZ P w) D l:=λf ⟨o,es,ep,U,r⟩=>⟨o,es,ep,f.heap D _ T U,r⟩
 intro m
 induction m with
 |zero=>
  intro i s Y a0 st kp t u;obtain rfl:i=n:=VF;rw[dY VF]at t;refine nh vG ?_;rw[ow oS _];show aU _ A.in1 (pyNext (.ref I)>>=_) _ _ s;refine aO (W.done s _ _ st λL f=>?_);show aU _ A.in1 (Builtin.Dict.addKeywords D []>>=_) _ _ L;refine aO (bH ?_);exact bH (u L (f.mono sub) (E f t))
 |succ m a1=>
  intro i s Y a0 st kp t u;have lt:i<n:=VF;refine nh vG ?_;rw[ow oS _];show aU _ A.in1 (pyNext (.ref I)>>=_) _ _ s;refine aO (W.item i s _ _ lt st λv L pv a2 f=>?_);obtain⟨a,k,q,x,j,c,rfl,H,a3,a4,a5,hi,a6⟩:=Q i v pv;have a7:=E f t;have M:L.heap.get? a=some j:=f.heap a j (λd=>H (sub a d)) (kp a j H a3);have a8:L.TypeIs (.ref a) "tuple":=⟨j,M,a4⟩
  refine aO (jn (aO (wpAny_tryCatch ?_)));unfold Builtin.Dict.pairItems;refine aO (qQ a8 ?_);rw[if_pos VD];refine aO (xN M a5 (bH ?_));show aU _ _ (holding [q,x] (dictSet D q x)) _ _ L;refine jn (wpAny_dictSet_pairs a6 a7 (λh' N y=>?_) ?_)
  .have e:merged [] (J.take (i+1))=stored (merged [] (J.take i)) k x:=merged_take_succ [] J i (k,x) hi;rw[←e]at N;refine bH ⟨nV oS _,a1 (i+1) _ VF lt (W.frame _ L _ _ a2 (nq _) λb p o e=>?_) (λb o p e=>?_) N λa9 aa ac=>?_⟩
   .rw[y.2 b (λd:b=D=>z (by rw[←d];exact p))];exact e
   .rw[y.2 b (λd:b=D=>p (by rw[d];exact eJ))];exact f.heap b o (λd=>p (sub b d)) (kp b o p e)
   .refine u a9 (Moved.trans W.gtrans ((f.mono sub).then_heap (nq _) λb o p e=>?_) aa) ac;rw[y.2 b (λd:b=D=>p (by rw[d];exact eJ))];exact e
  .have:=merged_length_le ([]:List (aW×aE)) (J.take i);rw[dU]at this;simp only[uC]at this;omega
end
section
variable{P:bT}{w:bN}{A:bX}{E:aE->aK->Prop}{s:aK}
theorem Kd{l:aB}{d:List aE}{J:List (aW×aE)}{Q:aE->aK->Prop}(t:A.handled=aG)(U:PlainL s.heap l d.toArray)(Y:d.length=J.length)(a0:d.length<=dH)
 (a1:∀(i:Nat)(v:aE),d[i]?=some v->∃(a:aB)(k:aW)(g x:aE)(f:aY)(c:Nat),v=.ref a/\s.heap.get? a=some f/\f.cls=.type "tuple"/\f.data=.seq #[g,x] c/\J[i]?=some (k,x)/\(dZ P w).is k g=aC)
 (h:∀(h':bE)(tk:Nat),h'.DictOf (dZ P w) s.heap.objs.size (merged [] J)->(∀b o,s.heap.get? b=some o->h'.get? b=some o)->Q (.ref s.heap.objs.size) {s with heap:=h',toks:=tk}) :
  aU (aX P w) A (call (.type "dict") [.ref l]) Q E s:=by
 refine xO (Q₁:=λ(u:aE)(y:aK)=>u=cZ s.heap.objs.size/\y={s with heap:=s.heap.push {cls:=.type "dict",data:=.dict #[]}}) F.kt_called_dict (F.kt_typeCall_dict_1 _) F.entry_dict_init (kt_code_dict_new _ ⟨O,O⟩) ?_;rintro u y ⟨rfl,rfl⟩;have j:(s.heap.push {cls:=.type "dict",data:=.dict #[]}).DictOf (dZ P w) s.heap.objs.size []:=bE.DictOf.new s.heap;obtain⟨⟨am,an,ao,ap⟩,a2,z,B,C,D⟩:=id U;simp only at B C D;subst B C D;have a3:l<s.heap.objs.size:=dQ z;have n:=dM (h:=s.heap) {cls:=.type "dict",data:=.dict #[]} z;refine⟨j.typeIs,F.args_dict_init_2 _ _,?_⟩;unfold Builtin.«dict.__init__»;refine aO ?_;unfold Builtin.Dict.selfAndRest;refine aO (ue j.typeIs ?_);show aU _ _ (pure (s.heap.objs.size,[cZ l])) _ _ _;refine bH ?_;show aU _ _ (t2 "dict.__init__" s.heap.objs.size (.ref l) [] .none) _ _ _;unfold t2;refine aO (qQ (T:="list") ⟨_,n,O⟩ ?_);rw[if_pos VD];refine aO (II (by simp[t]) n λh1 G k1=>?_);show aU _ _ (rule _>>=_) _ _ _;refine aO (qT ?_);have H:=k1 _ _ n;have I:h1.IsList l d.toArray:=⟨_,H,O,a2,O⟩
 refine aO (qE (s:={s with heap:=h1,toks:=G}) I ?_);have p:s.heap.objs.size<h1.objs.size:=by
  obtain⟨o,es,ep,q,_⟩:=j;exact dQ (k1 _ _ q)
 have a4:l≠h1.objs.size:=eF (dQ H);have a5:s.heap.objs.size∉[h1.objs.size,l]:=by
  simp only[eM,fG,mF,or_false,not_or];exact⟨eF p,nk a3⟩
 refine bH ⟨nV oS _,?_⟩;have a6:A.in1.in1.handled=aG:=by simp[t]
 refine MQ ((sA a6 _ l a4 d.toArray).toS) s.heap.objs.size a5 .none J (by rw[eO,Y]) (by rw[eO];exact a0) {s with heap:=h1.push {cls:=.type "list_iterator",data:=.fields #[.ref l,.int 0 0]},toks:=G} (λi v pv=>?_) (d.toArray.size-0) 0 _ VF (jo _)
  ⟨⟨_,gF _ O,O,O⟩,(I.push _)⟩ (λ_ _ _ e=>e) ?_ ?_
 .obtain⟨a,k,g,x,f,c,rfl,L,a7,a8,hi,a9⟩:=a1 i v (by simpa using pv);have M:=dQ L;refine⟨a,k,g,x,f,c,O,?_,dM _ (k1 _ _ (dM _ L)),a7,a8,hi,a9⟩;simp only[eM,fG,mF,or_false,not_or];exact⟨eF M,eF (qM M p)⟩
 .obtain⟨o,es,ep,q,r⟩:=j;exact⟨o,es,ep,dM _ (k1 _ _ q),r⟩
 .intro aa m ac;obtain⟨ae,af,ag,ah,ai⟩:=aa;have aj:af=s.gens:=m.gens;have ak:ag=s.drawn:=m.drawn;have al:ai=s.os:=m.os;subst aj ak al;refine⟨O,h ae ah ac λb o e=>?_⟩;have N:=dQ e;refine m.heap b o ?_ (dM _ (k1 _ _ (dM _ e)));simp only[eM,fG,mF,or_false,not_or];exact⟨eF N,eF (qM N p)⟩
end
def gC(H:aD)(ys:List V)(J:List (aW×V)):Prop:=Paired (λ(y:V)(b:aW×V)=>∃a,y=.ref a/\H a=some (.tup [kV b.1,b.2])) ys J
theorem gC.nil(H:aD):gC H [] []:=lm
theorem gC.len(h:gC H ys J):ys.length=J.length:=oC h
theorem gC.same(S:aM H H'):∀{ys:List V} {J:List (aW×V)},gC H ys J->gC H' ys J
 |_,_,lm=>lm
 |_,_,nn ⟨a,e,o⟩ t=>nn ⟨a,e,S _ _ o⟩ (gC.same S t)
theorem gC.snoc(h:gC H ys J)(a:H p=aG):gC (aI H p (.tup [kV k,v])) (ys++[.ref p]) (J++[(k,v)]):=
 qP (h.same (aM.upd a)) ⟨p,O,aV⟩
section
variable{X:aZ}
theorem Ox(r:cK (kV k) u):(dZ P w).is k u=aC:=by
 cases k with
 |inl a=>obtain⟨t,rfl⟩:=r;exact zX a t
 |inr a=>obtain⟨t,rfl⟩:=r;exact zW a t
theorem IF(I:Inv X U Y H s):∀{ys:List V} {J:List (aW×V)} {f:List aE},gC H ys J->cB ys f ->
  ∃b:List (aW×aE),fJ J b/\f.length=b.length/\∀(i:Nat)(v:aE),f[i]?=some v->∃(a:aB)(k:aW)(h x:aE)(d:aY)(c:Nat),v=.ref a/\s.heap.get? a=some d/\d.cls=.type "tuple"/\d.data=.seq #[h,x] c/\b[i]?=some (k,x)/\(dZ X.prog X.w).is k h=aC
 |_,_,_,lm,lm=>⟨[],lm,O,λi v e=>by simp at e⟩
 |_,(k,L)::J,u::f,nn ⟨a,e,o⟩ t,nn r l=>by
  obtain⟨b,h1,h2,m⟩:=IF I t l;subst e;cases r;obtain⟨M,n,⟨d,g,p,c,w⟩,_⟩:=I.tuple (bY.of o);obtain⟨y,j,rfl,z,A⟩:=cB.two n;refine⟨(k,j)::b,nn ⟨O,A⟩ h1,by simp[h2],λi v e=>?_⟩;cases i with
  |zero=>
   simp at e;subst e;exact⟨a,k,y,j,d,c,O,g,p,w,O,Ox z⟩
  |succ i=>
   obtain⟨B,C,D,E,G,c',q⟩:=m i v (by simpa using e);exact⟨B,C,D,E,G,c',by simpa using q⟩
theorem n3(e:X.calm=aC):iY X (.type "dict") (λxs H Q=>∃(p:aB)(ys:List V)(J:List (aW×V)),xs=[.ref p]/\aT X.K H p ys/\gC H ys J/\J.length<=1000/\(J.map (·.1)).Nodup/\∀l,H l=aG->Q (.ref l) (aI H l (.dK J))):=by
 intro U s Y H xs us Q I r h;obtain⟨p,ys,J,rfl,f,g,w,i,q⟩:=h;obtain⟨u,rfl,j⟩:=cB.one r;cases j;obtain⟨x,k,pl,y⟩:=I.list f;obtain⟨a,c,m,n⟩:=IF I g k;have z:(1000:Nat)<=dH:=VD;have l1:=fJ.length c;have o:a.map (·.1)=J.map (·.1):=(fJ.keys c).symm;refine Kd (J:=a) (I.ok.hd e) pl m VF n λh' tk d t=>?_;rw[merged_nil_of_nodup a (by rw[o];exact i)]at d;refine⟨.ref s.heap.objs.size,_,I.laid (t':=tk) t (bQ _) (show dR X.prog X.w _ h' _ (.dK J) from⟨VF,?_,a,c,d⟩),rfl,q _ (I.hok.fresh (bQ _))⟩;have b:=I.big;exact beq_eq_false_iff_ne.mpr (nk b)
end
structure MethAt (K:bI) (C:aB) (m j:aA) (st:bS) (ps:List aA):Prop where
 ex:∃(f:aB)(fd:iW),lN K m j st f fd/\kj K fd ps []/\qZ K C m f
structure sF (K:bI) (C:aB) (j:aA) (st:bS) (ps:List aA):Prop where
 ex:∃(f:aB)(fd:iW),lN K "__init__" j st f fd/\kj K fd ps []/\sJ K C f
structure fA (P:bT) (w:bN) (K:bI) (mg:aA->Option aE) (base:bE) (k:Nat) (C:aB) (m:aA) (ps:List aA) (sp:cA):Prop where
 ex:∃(f:aB)(fd:iW),iP P w K mg base jb k f fd ps sp/\kj K fd ps []/\qZ K C m f
structure nX (P:bT) (w:bN) (K:bI) (mg:aA->Option aE) (base:bE) (k:Nat) (C:aB) (ps:List aA) (sp:cA):Prop where
 ex:∃(f:aB)(fd:iW),iP P w K mg base jb k f fd ps sp/\kj K fd ps []/\sJ K C f
section
variable{P:bT}{w:bN}{K:bI}{mg:aA->Option aE}{base:bE}{C:aB}{m j:aA}{st:bS}{N ps:List aA}{k:Nat}{sp:cA}
theorem MethAt.mc(D:MethAt K C m j st ps)(S:cN N ps (bP st))(len:∀vs H Q E,sp vs H Q E->vs.length=ps.length)
 (c:∀(f:aB)(a:aE)(A:bX)(outer:List eP)(s:aK)(H:aD)(vs:List V)(Q:aP)(E:dL),eQ k (A.deeper (envOfC j (bP st) s.heap.objs.size f a))->sp vs H Q E ->
   ∃t,iQ (iH jb P w K mg base N j (bP st) f a A outer s H E).nox (jC st) t/\t {nx:=λ_ H'=>Q .non H',rt:=Q} (start N vs) H):fA P w K mg base (k+1) C m ps sp:=by
 obtain⟨f,fd,F,b,d⟩:=D.ex;exact⟨f,fd,F.ok S len λa A outer s H vs Q E e h=>c f a A outer s H vs Q E e h,b,d⟩
theorem sF.ic(D:sF K C j st ps)(S:cN N ps (bP st))(len:∀vs H Q E,sp vs H Q E->vs.length=ps.length)
 (c:∀(f:aB)(a:aE)(A:bX)(outer:List eP)(s:aK)(H:aD)(vs:List V)(Q:aP)(E:dL),eQ k (A.deeper (envOfC j (bP st) s.heap.objs.size f a))->sp vs H Q E ->
   ∃t,iQ (iH jb P w K mg base N j (bP st) f a A outer s H E).nox (jC st) t/\t {nx:=λ_ H'=>Q .non H',rt:=Q} (start N vs) H):nX P w K mg base (k+1) C ps sp:=by
 obtain⟨f,fd,F,b,d⟩:=D.ex;exact⟨f,fd,F.ok S len λa A outer s H vs Q E e h=>c f a A outer s H vs Q E e h,b,d⟩
theorem fA.imp(F:fA P w K mg base k C m ps sp)(h:∀vs H Q E,a vs H Q E->sp vs H Q E):fA P w K mg base k C m ps a:=by
 obtain⟨f,fd,G,b,c⟩:=F.ex;exact⟨f,fd,G.imp h,b,c⟩
theorem Vp{f:aB}{g:aE}{h d:Option aB}{k:Array (Option aE)}{kV doc pm b e:aE}(a:ka K (.ref C) m=some (some (.ref f)))(i:sr K (.ref f)=aC)
 (l:K.lookup f=some ⟨g,h,.func (l9 m j (nF st) (jC st) (bP st) .none kV doc pm d b e),k⟩)(c:qG K b j=aC)(kp:mG K (.ref f)=aC)
 (n:∀(kV doc pm:aE)(d:Option aB)(b e:aE)(us:List aE),us.length=ps.length->pS (l9 m j (nF st) (jC st) (bP st) .none kV doc pm d b e) ⟨us,[]⟩=pure (ps.zip us)):MethAt K C m j st ps:=
 ⟨f,_,rR l c kp,(rR l c kp).binds n,⟨a,i,kp⟩⟩
theorem Va{f:aB}{g:aE}{h d:Option aB}{k:Array (Option aE)}{kV doc pm b e:aE}(a:ka K (.ref C) "__init__"=some (some (.ref f)))(i:sr K (.ref f)=aC)
 (l:K.lookup f=some ⟨g,h,.func (l9 "__init__" j (nF st) (jC st) (bP st) .none kV doc pm d b e),k⟩)(c:qG K b j=aC)(kp:mG K (.ref f)=aC)
 (mk:xv K C=aC)(m:mG K (.ref C)=aC)
 (n:∀(kV doc pm:aE)(d:Option aB)(b e:aE)(us:List aE),us.length=ps.length->pS (l9 "__init__" j (nF st) (jC st) (bP st) .none kV doc pm d b e) ⟨us,[]⟩=pure (ps.zip us)):sF K C j st ps:=
 ⟨f,_,rR l c kp,(rR l c kp).binds n,⟨mk,a,i,m⟩⟩
end
section
variable{X:aZ}{k:Nat}{ps:List aA}{sp:cA}{x m:aA}{p pos i:Pos}{o e:bJ}{es:List bJ}{M:bG}{t:fU}{C:aB}
theorem p3(c:kQ X.K C)(F:fA X.prog X.w X.K X.mg X.base k C m ps sp)(d:eQ k X.A)(g:bL X o M)(h:jf X (e::es) t)
 (j:dA (e::es) X.env=(aJ,eval e X.env)::dA es X.env:=by rfl)(l:(backTo pos (dA es X.env)).any (·.1)=aJ:=by rfl)
 (n:eval (.Call (.Attribute o m i) (e::es) [] pos) X.env=(do
   let a ←eval o X.env
   standAt i.atName
   let (f,first) ←holding [a] (nu a m pl)
   pR pos f first (backTo pos (dA (e::es) X.env)) (lL pos (lI [] X.env))):=by rfl) :
  bL X (.Call (.Attribute o m i) (e::es) [] pos) (sR C m sp [] lM M t):=by
 obtain⟨f,fd,G,b,p⟩:=F.ex;exact OF (pl:=pl) g c p G d b .nil vl h j l n
theorem ki(c:kQ X.K C)(F:fA X.prog X.w X.K X.mg X.base k C m ps sp)(d:eQ k X.A)(e:bL X o M)
 (g:eval (.Call (.Attribute o m i) [] [] pos) X.env=(do
   let a ←eval o X.env
   standAt i.atName
   let (f,first) ←holding [a] (nu a m pl)
   pR pos f first (backTo pos (dA [] X.env)) (lL pos (lI [] X.env))):=by rfl) :
  bL X (.Call (.Attribute o m i) [] [] pos) (sR C m sp [] lM M rf):=by
 obtain⟨f,fd,G,b,h⟩:=F.ex;exact Nv (pl:=pl) e c h G d b .nil vl g
theorem sV(hm:X.mg x=some (.ref C))(F:nX X.prog X.w X.K X.mg X.base k C ps sp)(a:eQ (k+1) X.A)(c:jf X (e::es) t)(d:jH X x:=by rfl)(g:(x==("__debug__":aA))=aJ:=by decide)
 (h:dA (e::es) X.env=(aJ,eval e X.env)::dA es X.env:=by rfl)(i:(backTo pos (dA es X.env)).any (·.1)=aJ:=by rfl) :
  bL X (.Call (.Name x p) (e::es) [] pos) (Et C sp [] lM t):=by
 obtain⟨f,fd,G,b,j⟩:=F.ex;exact OG j G a d hm b .nil vl c g h i
end
section
variable{X:aZ}{K:bI}
theorem cR(e:X.K=K):qX X (zt K):=by subst e;exact Qi
theorem jJ(e:X.K=K):qX X (zr K):=by subst e;exact OY
theorem CR(e:X.K=K):q2 X (zv K):=by subst e;exact PB
theorem Ac(e:X.K=K):q2 X (zu K):=by subst e;exact Ot
theorem Cm(e:X.K=K):fO X (kR .Add) (zq K):=by subst e;exact OL
theorem rr(e:X.K=K):fO X (iO .In) (tL K aJ):=by subst e;exact Mw
theorem JV(e:X.K=K):fO X (iO .NotIn) (tL K aC):=by subst e;exact Kl
theorem jt(e:X.K=K):iY X (.builtin "len") (λxs H Q=>∃p ys,xs=[.ref p]/\(aT K H p ys\/bY K H p ys)/\Q (.int ys.length) H):=by subst e;exact Kz
theorem kL(e:X.K=K):iY X (.builtin "isinstance") (λxs H Q=>∃x y c t b,xs=[x,y]/\vv y=some c/\js K H x t/\jW K t c=some b/\Q (.bl b) H):=by subst e;exact Lb
theorem zg(e:X.K=K):iY X (.type "list") (λxs H Q=>∃p ys,xs=[.ref p]/\(aT K H p ys\/bY K H p ys)/\∀l,H l=aG->Q (.ref l) (aI H l (.lst ys))):=by subst e;exact Kx
end
theorem jw{j:Int}(h:decide (0<j)=aC):0<j:=of_decide_eq_true h
theorem mh(ac:X.N.Nodup)(ae:X.N[i]?=some x)(d:List aA)(f:Nat)(z:List Nat)
 (af:X.calm=aC)(hi:lu X tg iter a1)(ag:∀R,nv (jZ X scope d R) tg g)(ah:sZ f g)(ai:∀R,pW (jZ X scope d R) w a2)(aj:∀R,bL (jZ X scope d R) u te)
 (A:Loc X.env.scope x:=by exact Or.inl O)(ak:X.fn x=aC\/X.env.scope.names.lookup x=some .local:=by trivial)
 (al:pP (.ListComp u [⟨tg,iter,w,0⟩] scope c) (some (.Name x t)) pos.line X.env=pure aC:=by rfl)
 (am:(scope.names.all λy=>!(y.2==.cell))=aC:=by rfl)(a3:scope.kind=.function:=by rfl)
 (an:(scope.names.all λy=>!(y.2==.local)||(scope.names.lookup y.1==some .local))=aC:=by rfl)
 (ao:(scope.names.all λy=>!(y.2==.free)||(X.env.kindOf y.1==some .cell||X.env.kindOf y.1==some .free))=aC:=by rfl)
 (ap:d.length=f+z.length:=by rfl)(aq:(z.map λj=>X.N[j]?)=(d.drop f).map some:=by rfl)(ar:((d.drop f).all λx=>scope.names.lookup x==some .free)=aC:=by rfl)
 (as:∀x,xD iter X.env x=pure x:=by intro _;rfl) :
  jY X (.Assign [.Name x t] (.ListComp u [⟨tg,iter,w,0⟩] scope c) pos) (EU (Ev f z a1 g a2 te) (oo i)):=by
 refine⟨?_⟩;intro U s Y H E I h;have a4:∀y∈scope.names,y.2=.free->(X.env.kindOf y.1=some .cell\/X.env.kindOf y.1=some .free):=λy n e=>by
  have a:=o5 ao y n;rw[e]at a;have au:(X.env.kindOf y.1==some .cell||X.env.kindOf y.1==some .free)=aC:=a;rcases xk.mp au with q|q
  .exact .inl (beq_iff_eq.mp q)
  .exact .inr (beq_iff_eq.mp q)
 have av:∀y∈scope.names,y.2≠.cell:=λy n e=>by
  have a:=o5 am y n;rw[e]at a;cases a
 obtain⟨cl,aw,ax,ay⟩:=AG (scope:=scope) (env:=X.env) λy n e=>I.ok.has y.1 (a4 y n e);have az:∀y∈scope.names,y.2=.local->scope.names.lookup y.1=some .local:=λy n e=>by
  have a:=o5 an y n;rw[e]at a;exact beq_iff_eq.mp a
 have aR:∀(k j:Nat),z[k]?=some j->d[f+k]?=X.N[j]?:=λk j e=>by
  have a:=congrArg (λl:List (Option aA)=>l[k]?) aq;simp only[dO,e,Option.map_some,um]at a;cases q:d[f+k]? with
  |none=>rw[q]at a;cases a
  |some x=>rw[q]at a;exact(gK a).symm
 rw[exec_Assign_Name_used _ _ _ _ al];refine aO (qL (aO ?_));show aU _ X.A (do let _ ←comprehension (.ListComp u [⟨tg,iter,w,0⟩] scope c) scope X.env _ (newList []) aJ (eval iter X.env) (some (assign (.Name x t) X.env))) _ _ s;refine aO (fL (wpAny_comprehension_free (use:=some (assign (.Name x t) X.env)) (Q:=λ_ L=>kT X U E .next L) O as aw a3 az
  (cD (hi U s Y H _ I h) λv s1 h1=>cD h1 λbf bg h2=>?_)) (λ_ L b0=>bH (bH b0)) λ_ _ e=>e)
 obtain⟨it,fp,bh,J,H2,e,b1,T,b2,b3,b4⟩:=h2;subst e;refine AE (RR:=λb5 C=>compPost (aX X.prog X.w) X.A X.xe (some (assign (.Name x t) X.env)) (λ_ L=>kT X U E .next L) b5 C) af b1 T b2 b3 ax ay av a3 a4 ap aR (λx A=>beq_iff_eq.mp (o5 ar x A)) ag ah ai aj b4 ?_;intro D C L H' ys b6 q G B;obtain⟨m,a5⟩:=B.ns;obtain⟨M,es,ep,a6,b7,bi⟩:=id a5;have b8:C∉X.fs:=λN=>by
  obtain⟨_,o,b9,_⟩:=G.ok.funs.mem N;exact absurd (iK (dQ b9) B.ab) (nj _)
 have ba:Inv X ((C,M)::U) Y (aI H' D (.lst ys)) L:=G.pins_of λp r=>by
  rcases eM.mp r with rfl|r
  .exact⟨a6,B.fr,B.ne,b8,λv a=>by rw[b7]at a;cases a⟩
  .exact G.pin p (jx _ r)
 show aU _ X.A (assign (.Name x t) X.env (.ref D)) _ _ _;refine cD (dJ ac ae A ak ((C,M)::U) L Y (aI H' D (.lst ys)) (.ref D) (.ref D) E.nx ba O (q D b6)) λ_ a7 bb=>?_;obtain⟨a8,a9,a0,bc⟩:=bb;have aa:=a0.pin (C,M) (jx _ eJ);refine⟨m,a5.at' (λo e=>?_),λbj bd=>⟨a8,a9,?_,bc⟩⟩
 .rw[a6]at e;cases e;exact aa.1
 .have be:Inv X U a8 a9 a7:=a0.pins_of λp r=>a0.pin p (jx _ (eY _ r));exact be.turned (it:=C) (t':=a7.toks) (λb o N e=>bd.extBut b o N e) aa.2.1 B.ne (.inr B.ab) B.cl B.pn
section
variable{X:aZ}
inductive Tk(x:V)(vs:List V)(H:aD)(Q:aP):Prop
 |mk:∀l xs i y,x=.ref l->vs=[.int i,y]->H l=some (.lst xs)->0<=i->i<=xs.length->xs.length<dH->Q .non (aI H l (.lst (xs.take i.toNat++y::xs.drop i.toNat)))->Tk x vs H Q
end
structure sG (K:bI) (C:aB):Prop where
 ha:ka K (.ref C) "__class__"=some (some (.builtin "object.__class__"))
 hn:xl K (.builtin "object.__class__") "__get__"=some (some (.builtin "getset_descriptor.__get__"))
 htk:PySem.W.takesIn K (.builtin "object.__class__")=some aC
 hm:PySem.W.mroIn K C (.type "object")=some aC
theorem MethAt.mcD{P:bT}{w:bN}{K:bI}{mg:aA->Option aE}{base:bE}{C:aB}{m j:aA}{st:bS}{N ps:List aA}{k:Nat}{sp:cA}(D:MethAt K C m j st ps)(S:cN N ps (bP st))(len:∀vs H Q E,sp vs H Q E->vs.length=ps.length)
 (d:∀(f:aB)(a:aE)(A:bX)(outer:List eP)(s:aK)(H:aD)(vs:List V)(Q:aP)(E:dL),eQ k (A.deeper (envOfC j (bP st) s.heap.objs.size f a))->sp vs H Q E ->
   ∃t,iQ (iH jb P w K mg base N j (bP st) f a A outer s H E).nox (jC st) t/\t {nx:=λ_ H'=>gJ Q .non H',rt:=gJ Q} (start N vs) H):fA P w K mg base (k+1) C m ps sp:=by
 obtain⟨f,fd,F,b,g⟩:=D.ex;refine⟨f,fd,iP.drop len (F.ok S (λvs H Q E ⟨c,h,_⟩=>len vs H c E h) λa A outer s H vs Q E i ⟨c,h,e⟩=>?_),b,g⟩;subst e;exact d f a A outer s H vs c E i h
theorem iI.under(e:H p=aG)(d:z1 o=aC)(f:L2.aI H p o q=aG):iI (L2.aI (L2.aI H p o) q u) (L2.aI H q u):=λb=>by
 by_cases a:b=q
 .subst a;left;rw[aV,aV]
 .rw[bD a,bD a];by_cases c:b=p
  .subst c;right;exact⟨e,o,aV,d⟩
  .left;rw[bD c]
end L2
namespace Ld
open PySem L2
def mZ(c:Nat):Bool:=decide (97<=c)&&decide (c<=122)
noncomputable def jq(a:aA):Bool:=decide (1<=a.length)&&decide (a.length<=8)&&!decide (a="sea")&&a.cps.toList.all mZ
def isInt:aH->Bool
 |.int _=>aC
 |_=>aJ
def s6:aH->Bool
 |.bl _=>aC
 |_=>aJ
def Rf:aH->Bool
 |.str _=>aC
 |_=>aJ
def Rh:aH->Bool
 |.lst _=>aC
 |_=>aJ
def Rd:aH->Bool
 |.tup _=>aC
 |_=>aJ
def vi(n:Int):aH->Bool
 |.tup N=>decide ((N.length:Int)=n)
 |_=>aJ
noncomputable def ra(n:Int):aH->Bool
 |.lst N=>decide (1<=N.length)&&decide ((N.length:Int)<=n)
 |_=>aJ
def qt:aH->Bool
 |.str a=>jq a
 |_=>aJ
noncomputable def hgt(i:Int):Bool:=decide (-1000000<=i)&&decide (i<=1000000)
def mf(i:Int):Bool:=decide (0<=i)&&decide (i<=1000000)
def kY:aH->Bool
 |.int i=>hgt i
 |_=>aJ
def rH:aH->Bool
 |.int i=>mf i
 |_=>aJ
noncomputable def eE(zs:List aA):aH->Bool
 |.str a=>decide (a∈zs)
 |_=>aJ
noncomputable def iB:aH->Option aA
 |.tup (.str a::_)=>some a
 |_=>aG
noncomputable def jg:aH->Bool
 |.tup [a,b,c]=>qt a&&(kY b&&rH c)
 |_=>aJ
noncomputable def tz:aH->Bool
 |.lst N=>(decide (1<=N.length)&&decide (N.length<=12))&&(N.all jg&&decide ((N.map iB).Nodup))
 |_=>aJ
noncomputable def tJ(zs:List aA)(a b:aH):Bool:=eE zs a&&(eE zs b&&!fQ a b)
noncomputable def nH(c:aH):aH->Bool
 |.non=>aC
 |.int i=>hgt i&&(match c with|.int j=>decide (i<j)|_=>aJ)
 |_=>aJ
noncomputable def jj(zs:List aA):aH->Bool
 |.tup [n,a,b,c,r,s]=>qt n&&tJ zs a b&&(kY c&&(rH r&&nH c s))
 |_=>aJ
noncomputable def tK(zs:List aA):aH->Bool
 |.lst N=>(decide (1<=N.length)&&decide (N.length<=40))&&(N.all (jj zs)&&decide ((N.map iB).Nodup))
 |_=>aJ
mutual
noncomputable def gT:aH->Bool
 |.str a=>decide (a.length<=1000)
 |.lst N=>decide (N.length<=1000)&&lX N
 |.tup N=>decide (N.length<=1000)&&lX N
 |_=>aC
noncomputable def lX:List aH->Bool
 |[]=>aC
 |d::N=>gT d&&lX N
end
theorem rq:∀{N:List aH} {d:aH},lX N=aC->d∈N->gT d=aC
 |[],_,_,m=>by cases m
 |e::N,d,f,m=>by
  rw[lX,fK]at f;rcases eM.mp m with rfl|m
  .exact f.1
  .exact rq f.2 m
theorem zQ(h:gT (.tup N)=aC):lX N=aC:=(iV.mp (show(decide (N.length<=1000)&&lX N)=aC from h)).2
theorem rS(K:bI)(h:bK H d x):∃t,js K H x t/\jW K t (.type "int")=some (isInt d||s6 d)/\jW K t (.type "bool")=some (s6 d) /\
  jW K t (.type "str")=some (Rf d)/\jW K t (.type "list")=some (Rh d)/\jW K t (.type "tuple")=some (Rd d):=by
 cases d with
 |non=>cases(show x=.non from h);exact⟨_,.non,O,O,O,O,O⟩
 |bl b=>cases(show x=.bl b from h);exact⟨_,.bl b,O,mY _ _,O,O,O⟩
 |int i=>cases(show x=.int i from h);exact⟨_,.int i,mY _ _,O,O,O,O⟩
 |str c=>cases(show x=.str c from h);exact⟨_,.str c,O,O,mY _ _,O,O⟩
 |lst N=>obtain⟨a,vs,rfl,e,_⟩:=h;exact⟨_,.lst e,O,O,O,mY _ _,O⟩
 |tup N=>obtain⟨a,vs,rfl,e,_⟩:=h;exact⟨_,.tup e,O,O,O,O,mY _ _⟩
 |dct B N=>obtain⟨a,vs,rfl,e,_⟩:=h;exact⟨_,.dK e,O,O,O,O,O⟩
theorem Ku:("abcdefghijklmnopqrstuvwxyz":aA).cps.toList=[97,98,99,100,101,102,103,104,105,106,107,108,109,110,111,112,113,114,115,116,117,118,119,120,121,122]:=VE
theorem LH(c:Nat):(!(Builtin.Str.occurrences ("abcdefghijklmnopqrstuvwxyz":aA) ⟨#[c]⟩ 0 ("abcdefghijklmnopqrstuvwxyz":aA).length 1).isEmpty)=mZ c:=by
 rw[PySem.StrLaws.found_one,Ku];have h1:∀d,d∈([97,98,99,100,101,102,103,104,105,106,107,108,109,110,111,112,113,114,115,116,117,118,119,120,121,122]:List Nat)->97<=d/\d<=122:=VD;have h2:∀k,k<26->(97+k)∈([97,98,99,100,101,102,103,104,105,106,107,108,109,110,111,112,113,114,115,116,117,118,119,120,121,122]:List Nat):=VD;unfold mZ;by_cases h:97<=c/\c<=122
 .have e:=h2 (c-97) VF;rw[show 97+(c-97)=c by omega]at e;rw[decide_eq_true e,decide_eq_true h.1,decide_eq_true h.2];rfl
 .have e:¬c∈([97,98,99,100,101,102,103,104,105,106,107,108,109,110,111,112,113,114,115,116,117,118,119,120,121,122]:List Nat):=λm=>h (h1 c m);rw[decide_eq_false e];by_cases h':97<=c
  .rw[decide_eq_true h',decide_eq_false (λa=>h ⟨h',a⟩)];rfl
  .rw[decide_eq_false h'];rfl
def aN(d:aH):aA:=(iB d).getD ""
def mr(d:aH):aW:=.inr (aN d)
theorem NQ(h:iB d=some a):aN d=a:=by unfold aN;rw[h];rfl
noncomputable def mq(a b:aB):List (aA×V):=gX "dyke_rows" (.ref b) (gX "field_rows" (.ref a) [])
theorem Rn:¬(("field_rows":aA)="dyke_rows"):=VE
theorem wR(a b:aB):(mq a b).lookup ("field_rows":aA)=some (.ref a):=by
 unfold mq;rw[lQ,if_neg Rn,lQ,if_pos O]
theorem yh(b a:aB):(mq b a).lookup ("dyke_rows":aA)=some (.ref a):=by
 unfold mq;rw[lQ,if_pos O]
theorem kM(a b:aB){m:aA}(h1:¬m="dyke_rows")(h2:¬m="field_rows"):(mq a b).lookup m=aG:=by
 unfold mq;rw[lQ,if_neg h1,lQ,if_neg h2]
 all_goals rfl
def m8(H:aD)(a:aB)(N:List aH):Prop:=∃J,H a=some (.dK J)/\J.map (·.1)=N.map mr/\IsL H N (J.map (·.2))
theorem m8.same(S:aM H H')(h:m8 H a N):m8 H' a N:=by
 obtain⟨J,e,k,i⟩:=h;exact⟨J,S _ _ e,k,IsL.same S _ _ i⟩
structure eZ (C:aB) (H:aD) (x:aB) (fs N:List aH):Prop where
 ex:∃dx d1 d2,H x=some (.ins C dx (mq d1 d2))/\m8 H d1 fs/\m8 H d2 N
 okf:tz (.lst fs)=aC
 okd:tK ("sea" :: fs.map aN) (.lst N)=aC
theorem eZ.same(S:aM H H')(h:eZ C H x fs N):eZ C H' x fs N:=by
 obtain⟨⟨dx,c,d,e,f,g⟩,a,b⟩:=h;exact⟨⟨dx,c,d,S _ _ e,f.same S,g.same S⟩,a,b⟩
theorem wD:∀{J:List (aW×V)} {H:aD} {N:List aH} {d:aH},J.map (·.1)=N.map mr->IsL H N (J.map (·.2))->(N.map aN).Nodup->d∈N->∃v,fE J (.inr (aN d))=some v/\bK H d v
 |[],_,[],_,_,_,_,m=>by cases m
 |[],_,_::_,_,e,_,_,_=>by simp at e
 |_::_,_,[],_,_,_,_,m=>by cases m
 |(k,v)::J,H,a::N,d,e,i,n,m=>by
  obtain⟨o,r,b,g,t⟩:=i;rw[dW]at b;cases b;rw[dW,dW,List.cons.injEq]at e;have c:k=mr a:=e.1;rw[dW,iL]at n;by_cases q:aN d=aN a
  .have:d=a:=by
    rcases eM.mp m with rfl|m
    .rfl
    .exact absurd (cP.mpr ⟨d,m,q⟩) n.1
   subst this;refine⟨v,?_,g⟩;unfold fE;rw[kN,c];simp[mr]
  .have h:d∈N:=by
    rcases eM.mp m with rfl|m
    .exact absurd O q
    .exact m
   obtain⟨u,f,h2⟩:=wD (J:=J) e.2 t n.2 h;refine⟨u,?_,h2⟩;unfold fE at f ⊢;have j:¬k=Sum.inr (aN d):=by
    rw[c];intro l;exact q (oG l).symm
   rw[kN,decide_eq_false (show ¬(k,v).1=Sum.inr (aN d) from j)];exact f
theorem qa:∀{N:List aH} {p:aH->Bool},(∀d,p d=aC->∃a,iB d=some a)->N.all p=aC->N.map iB=(N.map aN).map some
 |[],_,_,_=>rfl
 |d::N,p,b,h=>by
  rw[qK,fK]at h;obtain⟨a,e⟩:=b d h.1;rw[dW,dW,dW,qa b h.2,NQ e,e]
theorem n5(zs:List aA):(zs.map some).Nodup↔zs.Nodup:=by
 induction zs with
 |nil=>simp
 |cons b zs a=>
  rw[dW,iL,iL,a];simp
theorem jc(h:jg d=aC):∃f g e,d=.tup [.str f,.int g,.int e]/\jq f=aC/\hgt g=aC/\mf e=aC:=by
 have e:∃a b c,d=.tup [a,b,c]:=by rcases d with _|_|_|_|_|(_|⟨_,_|⟨_,_|⟨_,_|_⟩⟩⟩)|_<;>first|exact⟨_,_,_,rfl⟩|cases h
 obtain⟨a,b,c,rfl⟩:=e;have h:(qt a&&(kY b&&rH c))=aC:=h;rw[fK,fK]at h;obtain⟨h1,h2,i⟩:=h;cases a with
  |str f=>
   cases b with
   |int g=>
    cases c with
    |int e=>exact⟨f,g,e,O,h1,h2,i⟩
    |_=>cases i
   |_=>cases h2
  |_=>cases h1
theorem Jd(d:aH)(h:jg d=aC):∃a,iB d=some a:=by
 obtain⟨a,_,_,rfl,_⟩:=jc h;exact⟨a,O⟩
theorem jB(h:jj zs d=aC):∃n a b c r s,d=.tup [.str n,.str a,.str b,.int c,.int r,s]/\jq n=aC/\a∈zs/\b∈zs/\a≠b/\hgt c=aC/\mf r=aC/\nH (.int c) s=aC:=by
 have e:∃n a b c r s,d=.tup [n,a,b,c,r,s]:=by rcases d with _|_|_|_|_|(_|⟨_,_|⟨_,_|⟨_,_|⟨_,_|⟨_,_|⟨_,_|_⟩⟩⟩⟩⟩⟩)|_<;>first|exact⟨_,_,_,_,_,_,rfl⟩|cases h
 obtain⟨n,a,b,c,r,s,rfl⟩:=e;have h:(qt n&&tJ zs a b&&(kY c&&(rH r&&nH c s)))=aC:=h;rw[fK,fK,fK,fK]at h;obtain⟨⟨h1,h2⟩,e,f,j⟩:=h;unfold tJ at h2;rw[fK,fK]at h2;obtain⟨g,i,k⟩:=h2;cases n with
  |str n=>
   cases a with
   |str a=>
    cases b with
    |str b=>
     cases c with
     |int c=>
      cases r with
      |int r=>
       refine⟨n,a,b,c,r,s,O,h1,of_decide_eq_true g,of_decide_eq_true i,?_,e,f,j⟩;intro l;subst l;have:(!(a==a))=aC:=k;rw[beq_self_eq_true]at this;cases this
      |_=>cases f
     |_=>cases e
    |_=>cases i
   |_=>cases g
  |_=>cases h1
theorem AB(d:aH)(h:jj zs d=aC):∃a,iB d=some a:=by
 obtain⟨a,_,_,_,_,_,rfl,_⟩:=jB h;exact⟨a,O⟩
structure sE (fs:List aH):Prop where
 l1:1<=fs.length
 l2:fs.length<=12
 all:∀d∈fs,jg d=aC
 nd:(fs.map aN).Nodup
structure lO (zs:List aA) (N:List aH):Prop where
 l1:1<=N.length
 l2:N.length<=40
 all:∀d∈N,jj zs d=aC
 nd:(N.map aN).Nodup
theorem zZ(fs:List aH):tz (.lst fs)=aC↔sE fs:=by
 show((decide (1<=fs.length)&&decide (fs.length<=12))&&(fs.all jg&&decide ((fs.map iB).Nodup)))=aC↔_;rw[fK,fK,fK,decide_eq_true_iff,decide_eq_true_iff,decide_eq_true_iff];constructor
 .rintro⟨⟨a,b⟩,c,d⟩;rw[qa Jd c,n5]at d;exact⟨a,b,j9.mp c,d⟩
 .rintro⟨a,b,c,d⟩;have c':=j9.mpr c;refine⟨⟨a,b⟩,c',?_⟩;rw[qa Jd c',n5];exact d
theorem v6(zs:List aA)(N:List aH):tK zs (.lst N)=aC↔lO zs N:=by
 show((decide (1<=N.length)&&decide (N.length<=40))&&(N.all (jj zs)&&decide ((N.map iB).Nodup)))=aC↔_;rw[fK,fK,fK,decide_eq_true_iff,decide_eq_true_iff,decide_eq_true_iff];constructor
 .rintro⟨⟨a,b⟩,c,d⟩;rw[qa AB c,n5]at d;exact⟨a,b,j9.mp c,d⟩
 .rintro⟨a,b,c,d⟩;have c':=j9.mpr c;refine⟨⟨a,b⟩,c',?_⟩;rw[qa AB c',n5];exact d
theorem AO:∀{N:List aH},(∀d∈N,gT d=aC)->lX N=aC
 |[],_=>rfl
 |d::N,h=>by
  rw[lX,h d eJ,AO λe m=>h e (eY _ m)];rfl
end Ld
namespace Mt02
open PySem L2 Ld
def Ss(i:Nat):Nat:=if i<18 then 97+i else 98+i
noncomputable def Tv(c:Int):Nat->Int
 |0=>c/3
 |j+1=>Tv c j/25
noncomputable def SW(o:Nat->Int)(c p b:Int)(k j:Nat):Int:=if (j:Int)=b then c/17+((k:Int)/25) else if (j:Int)=p then c/11+(k:Int) else o j
def code(o:Nat->Int)(c p b:Int)(k j:Nat):Nat:=Ss (SW o c p b k j%25).toNat
noncomputable def nm(o:Nat->Int)(c p b:Int)(n k:Nat):aA:=⟨((fH n).map (code o c p b k)).toArray⟩
structure Jr (zs:List aA) (n:Nat):Prop where
 len:zs.length=n
 nd:zs.Nodup
 good:∀z∈zs,jq z=aC
end Mt02
namespace Mt04
open PySem L2 Ld
noncomputable def yI:aH->Int
 |.tup [_,_,_,.int c,_,_]=>c
 |_=>0
def y0:aH->Int
 |.tup [_,.int h]=>h
 |_=>0
def lU(N:List aH)(a:aA):Int:=(N.find? λd=>decide (aN d=a)).elim 0 yI
noncomputable def jT(N:List aH):aH->Bool
 |.tup [.str a,.int h]=>decide (a∈N.map aN)&&(hgt h&&decide (lU N a<=h))
 |_=>aJ
noncomputable def CB(N:List aH):aH->Bool
 |.lst a=>a.all (jT N)&&decide ((a.map iB).Nodup)
 |_=>aJ
theorem Pf{N:List aH}(a:(N.map aN).Nodup){d:aH}(m:d∈N):(N.find? λe=>decide (aN e=aN d))=some d:=by
 induction N with
 |nil=>cases m
 |cons e N b=>
  rw[dW,iL]at a;rw[kN];by_cases q:aN e=aN d
  .rw[decide_eq_true q];rcases eM.mp m with rfl|m
   .rfl
   .exact absurd (cP.mpr ⟨d,m,q.symm⟩) a.1
  .rw[decide_eq_false q];rcases eM.mp m with rfl|m
   .exact absurd O q
   .exact b a.2 m
theorem wB{N:List aH}(a:(N.map aN).Nodup){d:aH}(m:d∈N):lU N (aN d)=yI d:=by
 unfold lU;rw[Pf a m];rfl
theorem rp(h:jT N d=aC):∃a v,d=.tup [.str a,.int v]/\a∈N.map aN/\hgt v=aC/\lU N a<=v:=by
 cases d with
 |tup M=>
  rcases M with _|⟨x,M⟩
  .cases h
  cases x with
  |str a=>
   rcases M with _|⟨y,M⟩
   .cases h
   cases y with
   |int v=>
    cases M with
    |nil=>have h:(decide (a∈N.map aN)&&(hgt v&&decide (lU N a<=v)))=aC:=h;rw[fK,fK]at h;exact⟨a,v,O,of_decide_eq_true h.1,h.2.1,of_decide_eq_true h.2.2⟩
    |cons=>cases h
   |_=>cases h
  |_=>cases h
 |_=>cases h
theorem zx(d:aH)(h:jT N d=aC):∃a,iB d=some a:=by
 obtain⟨a,_,rfl,_⟩:=rp h;exact⟨a,O⟩
structure GoodW (N ws:List aH):Prop where
 all:∀d∈ws,jT N d=aC
 nd:(ws.map aN).Nodup
theorem Bk(N a:List aH):CB N (.lst a)=aC↔GoodW N a:=by
 show(a.all (jT N)&&decide ((a.map iB).Nodup))=aC↔_;rw[fK,decide_eq_true_iff];constructor
 .rintro⟨c,d⟩;rw[qa zx c,n5]at d;exact⟨j9.mp c,d⟩
 .rintro⟨c,d⟩;have c':=j9.mpr c;refine⟨c',?_⟩;rw[qa zx c',n5];exact d
def mu(a:List aH)(b:aA):Option Int:=(a.find? λd=>decide (aN d=b)).map y0
noncomputable def s3(e:List aH):aH->aH
 |.tup [.str n,a,b,.int c,r,s]=>.tup [.str n,a,b,.int ((mu e n).getD c),r,s]
 |d=>d
def og(N a:List aH):List aH:=N.map (s3 a)
theorem OP(a:List aH)(d:aH):aN (s3 a d)=aN d:=by
 cases d with
 |tup N=>
  rcases N with _|⟨n,N⟩
  .rfl
  cases n with
  |str n=>rcases N with _|⟨_,_|⟨_,_|⟨c,_|⟨_,_|⟨_,_|_⟩⟩⟩⟩⟩<;>first|rfl|(cases c<;>rfl)
  |_=>rfl
 |_=>rfl
theorem Mq(N a:List aH):(og N a).map aN=N.map aN:=by
 unfold og;rw[fS];exact l4 λd _=>OP a d
def ny(d:aH):aW×V:=(mr d,.int (y0 d))
theorem Lf(b:List aH)(a:aA):fE (b.map ny) (.inr a)=(mu b a).map V.int:=by
 induction b with
 |nil=>rfl
 |cons d b c=>
  unfold fE mu at c ⊢;rw[dW,kN,kN];have e:decide ((ny d).1=Sum.inr a)=decide (aN d=a):=by
   rw[lj,decide_eq_true_iff,decide_eq_true_iff];exact⟨λh=>oG h,λh=>congrArg Sum.inr h⟩
  rw[e];cases decide (aN d=a) with
  |true=>rfl
  |false=>exact c
theorem MX(g:GoodW N b)(h:mu b a=some v):hgt v=aC/\lU N a<=v:=by
 unfold mu at h;cases e:b.find? (λd=>decide (aN d=a)) with
 |none=>rw[e]at h;cases h
 |some d=>
  rw[e]at h;have m:=List.mem_of_find?_eq_some e;have q:aN d=a:=by
   have:=List.find?_some e;exact of_decide_eq_true this
  obtain⟨c,f,rfl,_,h1,h2⟩:=rp (g.all d m);have ev:f=v:=gK h;have i:c=a:=q;subst ev i;exact⟨h1,h2⟩
theorem OO(h:lO zs N)(g:GoodW N f)(m:d∈N):jj zs (s3 f d)=aC:=by
 obtain⟨n,a,b,c,r,s,rfl,k,l,o,p,q,t,j⟩:=jB (h.all d m);have u:lU N n=c:=wB h.nd m;show jj zs (.tup [.str n,.str a,.str b,.int ((mu f n).getD c),.int r,s])=aC;have key:hgt ((mu f n).getD c)=aC/\c<=(mu f n).getD c:=by
  cases e:mu f n with
  |none=>exact⟨q,sy _⟩
  |some v=>
   have:=MX g e;rw[u]at this;exact this
 have B:nH (.int ((mu f n).getD c)) s=aC:=by
  cases s with
  |non=>rfl
  |int i=>
   have h1:(hgt i&&decide (i<c))=aC:=j;rw[fK]at h1;show(hgt i&&decide (i<(mu f n).getD c))=aC;rw[h1.1,decide_eq_true (Int.lt_of_lt_of_le (of_decide_eq_true h1.2) key.2)];rfl
  |_=>cases j
 show(jq n&&(decide (a∈zs)&&(decide (b∈zs)&&!(a==b)))&&(hgt _&&(mf r&&nH _ s)))=aC;rw[k,decide_eq_true l,decide_eq_true o,key.1,t,B,beq_eq_false_iff_ne.mpr p];rfl
theorem KN(a:lO zs N)(g:GoodW N b):lO zs (og N b) where
 l1:=by unfold og;rw[aS];exact a.l1
 l2:=by unfold og;rw[aS];exact a.l2
 all:=λd m=>by
  obtain⟨e,c,rfl⟩:=cP.mp m;exact OO a g c
 nd:=by rw[Mq];exact a.nd
end Mt04
namespace Mt22
open PySem L2 Ld
structure St where
 nm:aA
 near:aA
 far:aA
 h:Int
abbrev nY:=aA->Option Int
def sea:aA:="sea"
noncomputable def SQ:nY:=λa=>if a=sea then some (-1000000) else aG
noncomputable def QN(lo:nY)(s:St):nY:=match lo s.near with
 |none=>lo
 |some a=>λc=>if c=s.far then some (match lo s.far with|none=>max a s.h|some b=>min (max a s.h) b) else lo c
def QM(S:List St)(lo:nY):nY:=S.foldl QN lo
noncomputable def DS(S:List St):Nat->nY
 |0=>SQ
 |n+1=>QM S (DS S n)
inductive Walk(S:List St):Nat->aA->Int->Prop
 |sea:Walk S 0 Mt22.sea (-1000000)
 |step {k:Nat} {a:Int} {s:St} (w:Walk S k s.near a) (m:s∈S):Walk S (k+1) s.far (max a s.h)
def Att(S:List St)(lo:nY):Prop:=∀a c,lo a=some c->∃k,Walk S k a c
inductive xT(S:List St):List aA->aA->Int->Prop
 |sea:xT S [] Mt22.sea (-1000000)
 |step {p:List aA} {a:Int} {s:St} (w:xT S p s.near a) (m:s∈S) (n:s.far∉p):xT S (s.far::p) s.far (max a s.h)
theorem vd{q:Type}[DecidableEq q]:∀{P N:List q},P.Nodup->(∀x∈P,x∈N)->P.length<=N.length
 |[],N,_,_=>jo _
 |x::P,N,c,sub=>by
  have d:=sub x eJ;rw[iL]at c;have:=vd (P:=P) (N:=N.erase x) c.2 λy m=>(List.mem_erase_of_ne (a:=y) (b:=x) (λe=>c.1 (by rw[←e];exact m))).mpr (sub y (eY _ m));rw[List.length_erase_of_mem d]at this;have f:=List.length_pos_of_mem d;rw[hJ];omega
structure UE (S:List St) (lo:nY):Prop where
 att:Att S lo
 low:∀k v b,Walk S k v b->∃c,lo v=some c/\c<=b
inductive wX(S:List St)(L:Int):aA->Prop
 |sea:wX S L Mt22.sea
 |step {s:St} (w:wX S L s.near) (m:s∈S) (h:s.h<L):wX S L s.far
end Mt22
namespace MtF
open PySem L2 Ld Mt04 Mt22
noncomputable def PC:aH->aH
 |.tup [_,_,_,_,_,s]=>s
 |_=>.non
def Ri:aH->Int
 |.int i=>i
 |_=>0
noncomputable def EY:aH->aA
 |.tup [_,.str a,_,_,_,_]=>a
 |_=>""
noncomputable def DW:aH->aA
 |.tup [_,_,.str b,_,_,_]=>b
 |_=>""
noncomputable def PA(op:List aA)(d:aH):Int:=if aN d∈op then Ri (PC d) else yI d
noncomputable def yj:aH->Int
 |.tup [_,.int g,_]=>g
 |_=>0
def wz(fs:List aH)(a:aA):Int:=(fs.find? λd=>decide (aN d=a)).elim 0 yj
theorem Pe{N:List aH}(a:(N.map aN).Nodup){d:aH}(m:d∈N):(N.find? λe=>decide (aN e=aN d))=some d:=by
 induction N with
 |nil=>cases m
 |cons e N b=>
  rw[dW,iL]at a;rw[kN];rcases eM.mp m with rfl|m
  .rw[decide_eq_true O]
  .have f:aN e≠aN d:=λc=>a.1 (c▸cP.mpr ⟨d,m,O⟩);rw[decide_eq_false f];exact b a.2 m
theorem MK{fs:List aH}(a:(fs.map aN).Nodup){d:aH}(m:d∈fs):wz fs (aN d)=yj d:=by
 show(fs.find? λe=>decide (aN e=aN d)).elim 0 yj=_;rw[Pe a m];rfl
noncomputable def DC(fs:List aH)(op:List aA)(d:aH)(near a:aA):List Mt22.St:=if a="sea" then [] else [⟨aN d,near,a,max (PA op d) (wz fs a)⟩]
def lb(fs:List aH)(op:List aA)(d:aH):List Mt22.St:=DC fs op d (EY d) (DW d)++DC fs op d (DW d) (EY d)
noncomputable def gH(s:Mt22.St):aH:=.tup [.str s.nm,.str s.near,.str s.far,.int s.h]
end MtF
namespace Mt21
open PySem L2 Ld Mt02
def ab(i:Int):Nat:=97+(i%26).toNat
theorem BG(i:Int):mZ (ab i)=aC:=by
 have a:=iM i (show(26:Int)≠0 by decide);have h1:=je i (show(0:Int)<26 by decide);unfold ab mZ;rw[decide_eq_true VF,decide_eq_true VF];rfl
theorem Pn:("abcdefghijklmnopqrstuvwxyz":aA).cps.toList=(fH 26).map λi=>97+i:=VE
theorem EP(i:Int):kU ("abcdefghijklmnopqrstuvwxyz":aA).cps.toList (i%26)=some (ab i):=by
 have a:=iM i (show(26:Int)≠0 by decide);have h1:=je i (show(0:Int)<26 by decide);obtain⟨k,b⟩:=kC a;unfold ab;rw[b,Pn];refine cE ?_;rw[dO,List.getElem?_range VF];rfl
def mR(i:Int):aA:=⟨#[ab i]⟩
theorem Ax:∀(ys:List aA)(a:Array Nat),(ys.foldl (λa p=>a++("":aA).cps++p.cps) a).toList=a.toList++(ys.map λy=>y.cps.toList).flatten
 |[],a=>by simp
 |y::ys,a=>by
  rw[List.foldl_cons,Ax ys];have:("":aA).cps=#[]:=VE;rw[this];simp
theorem LD(ys:List aA):(Txt.join "" ys).cps.toList=(ys.map λy=>y.cps.toList).flatten:=by
 cases ys with
 |nil=>
  show(aA.empty.cps).toList=[]
  decide +kernel
 |cons y ys=>
  show(List.foldl (λa p=>a++("":aA).cps++p.cps) y.cps ys).toList=_;rw[Ax];simp
theorem Jk(a:aA)(k:Nat)(h:k<=a.length):(ma a aG (some (k:Int))).cps.toList=a.cps.toList.take k:=by
 rw[Tx.Vy,Tx.UT];show(a.cps.toList.drop 0).take (min k a.length-0)=_;rw[uH,Nat.sub_zero,xE h]
theorem AC(a:aA)(k:Nat)(h:k<=a.length):(ma a (some (k:Int)) aG).cps.toList=a.cps.toList.drop k:=by
 rw[Tx.Vy,Tx.UT,xE h];show(a.cps.toList.drop k).take (a.length-k)=_;rw[dY];rw[nR];show a.cps.toList.length-k<=a.length-k;simp[aA.length]
theorem rz(a:aA):a.length=a.cps.toList.length:=by simp[aA.length]
theorem KU(h:∀k l,k<n->l<n->f k=f l->k=l):((fH n).map f).Nodup:=by
 rw[rY,List.pairwise_map];refine List.Pairwise.imp_of_mem ?_ (List.pairwise_lt_range (n:=n));intro k l a b d c;have:=h k l (oB.mp a) (oB.mp b) c;omega
structure UM (z b:aA) (at':Nat) (x y:Int):Prop where
 codes:z.cps.toList=b.cps.toList.take at'++[ab x,ab y]++b.cps.toList.drop at'
end Mt21
namespace Mt31
open PySem L2 Ld Mt22
abbrev gL:=List (aA×Option Mt22.St)
def keys(a:gL):List aA:=a.map (·.1)
structure tX (S:List Mt22.St) (cm:gL):Prop where
 nd:(keys cm).Nodup
 first:cm[0]?=some (Mt22.sea,aG)
 prev:∀(i:Nat)(z:aA)(o:Option Mt22.St),0<i->cm[i]?=some (z,o)->∃s,o=some s/\s∈S/\s.far=z/\s.near∈keys (cm.take i)
def mz(S:List Mt22.St)(a:gL)(p:Nat):Prop:=∀(i:Nat)(u:aA),i<p->(keys a)[i]?=some u->∀s∈S,s.near=u->s.far∈keys a
theorem rG(a b:gL):keys (a++b)=keys a++keys b:=dP
theorem mz.snoc(h:mz S a p)(d:p<=a.length)(x:aA×Option Mt22.St):mz S (a++[x]) p:=λi u hi e s b c=>by
 rw[rG,nN (by unfold keys;rw[aS];omega)]at e;rw[rG];exact nO _ (h i u hi e s b c)
inductive lJ(S:List Mt22.St):List Mt22.St->aA->Prop
 |nil:lJ S [] Mt22.sea
 |snoc {ss:List Mt22.St} {s:Mt22.St} (c:lJ S ss s.near) (m:s∈S) (n:s.far∉ss.map (·.far)):lJ S (ss++[s]) s.far
def hm(b:List Mt22.St):Int:=b.foldl (λa s=>max a s.h) (-1000000)
theorem Bw(c:lJ S d v):(∀s∈d,s∈S)/\(d.map (·.far)).Nodup:=by
 induction c with
 |nil=>exact⟨(λs m=>by cases m),by simp⟩
 |@snoc d s c m n f=>
  refine⟨λt mt=>?_,?_⟩
  .rcases gQ.mp mt with mt|mt
   .exact f.1 t mt
   .rw[fG.mp mt];exact m
  .rw[dP,ut];refine⟨f.2,by simp,λa g b h=>?_⟩;have i:b=s.far:=fG.mp h;intro e;have j:a=s.far:=e.trans i;exact n (j▸g)
def yW(S:List Mt22.St)(b:gL)(j:Nat)(c:aA)(tl:List Mt22.St)(d:aA):Prop:=∀a,lJ S a c->(∀y∈a.map (·.far),y∈keys (b.take (j+1)))->lJ S (a++tl) d
theorem Mb(h:tX S a)(u:a[j]?=some (f,some s))(w:s∈S)(l:s.far=f)(hi:i<j)(A:(keys a)[i]?=some s.near)(t:yW S a j f tl q):yW S a i s.near (s::tl) q:=λg c sub=>by
 have e:g++s::tl=(g++[s])++tl:=by rw[nc];rfl
 have r:(keys a)[j]?=some f:=by unfold keys;rw[dO,u];rfl
 have o:∀n,keys (a.take n)=(keys a).take n:=λn=>by unfold keys;rw[uO]
 have fresh:s.far∉g.map (·.far):=λm=>by
  have h1:=sub _ m;rw[o,l]at h1;obtain⟨k,b⟩:=lh.mp h1;have p:=(dI.mp b).1;rw[dU]at p;rw[mC VF]at b;obtain⟨h2,x⟩:=dI.mp b;obtain⟨B,z⟩:=dI.mp r;have:=(sb h.nd).mp (x.trans z.symm);omega
 rw[e];refine t (g++[s]) (l▸lJ.snoc c w fresh) λy d=>?_;rw[o];rw[dP]at d;rcases gQ.mp d with d|d
 .have:=sub y d;rw[o]at this;obtain⟨k,b⟩:=lh.mp this;have p:=(dI.mp b).1;rw[dU]at p;rw[mC VF]at b;exact dN (i:=k) (by rw[mC VF];exact b)
 .have:y=s.far:=fG.mp d;rw[this,l];exact dN (i:=j) (by rw[mC VF];exact r)
end Mt31
namespace Mt61
open PySem L2 Mt22 Mt31
structure cC where
 nm:aA
 a:aA
 b:aA
 cap:Int
abbrev eS:=aA->Int
def dD{q:Type}(xs:List q)(f:q->Int):Int:=(xs.map f).sum
section
variable{q n:Type}
theorem tV(f:q->Int):dD [] f=0:=rfl
theorem iA(x:q)(xs:List q)(f:q->Int):dD (x::xs) f=f x+dD xs f:=by
 unfold dD;rw[dW,List.sum_cons]
theorem yx(f:q->Int):∀xs ys:List q,dD (xs++ys) f=dD xs f+dD ys f
 |[],ys=>by rw[uB,tV];omega
 |x::xs,ys=>by rw[List.cons_append,iA,iA,yx f xs ys];omega
theorem n8:∀{xs:List q},(∀x∈xs,f x=g x)->dD xs f=dD xs g
 |[],_=>rfl
 |x::xs,h=>by rw[iA,iA,h x eJ,n8 λy m=>h y (eY _ m)]
theorem sT:∀{xs:List q},(∀x∈xs,f x<=g x)->dD xs f<=dD xs g
 |[],_=>sy _
 |x::xs,h=>by
  rw[iA,iA];have:=h x eJ;have:=sT (xs:=xs) λy m=>h y (eY _ m);omega
theorem oa(h:∀x∈xs,f x=0):dD xs f=0:=by
 rw[n8 h]
 induction xs with
 |nil=>rfl
 |cons x xs a=>rw[iA,a λy m=>h y (eY _ m)];rfl
theorem yy(f g:q->Int):∀xs:List q,dD xs (λx=>f x+g x)=dD xs f+dD xs g
 |[]=>rfl
 |x::xs=>by rw[iA,iA,iA,yy f g xs];omega
theorem yw(f g:q->Int):∀xs:List q,dD xs (λx=>f x-g x)=dD xs f-dD xs g
 |[]=>rfl
 |x::xs=>by rw[iA,iA,iA,yw f g xs];omega
theorem CQ(f:q->n->Int)(ys:List n):∀xs:List q,dD xs (λx=>dD ys (f x))=dD ys (λy=>dD xs λx=>f x y)
 |[]=>(oa (λ_ _=>rfl)).symm
 |x::xs=>by
  rw[iA,CQ f ys xs,←yy];exact n8 λy _=>by rw[iA]
theorem BS(X:q->Bool)(f:q->Int):∀xs:List q,dD xs f=dD (xs.filter X) f+dD (xs.filter λx=>!X x) f
 |[]=>rfl
 |x::xs=>by
  rw[iA,BS X f xs];cases h:X x with
  |true=>rw[r1 h,r2 (by simp[h]),iA];omega
  |false=>rw[r2 (by simp[h]),r1 (by simp[h]),iA];omega
theorem vW(X:q->Bool)(f:q->Int):∀xs:List q,dD (xs.filter X) f=dD xs λx=>if X x=aC then f x else 0
 |[]=>rfl
 |x::xs=>by
  cases h:X x with
  |true=>rw[r1 h,iA,iA,if_pos h,vW X f xs]
  |false=>rw[r2 (by simp[h]),iA,if_neg (by simp[h]),vW X f xs];omega
end
theorem yb{V:List aA}(X:aA->Bool){w:aA}(c:Int)(a:V.Nodup)(m:w∈V):dD (V.filter X) (λv=>if w=v then c else 0)=if X w=aC then c else 0:=by
 rw[vW]
 induction V with
 |nil=>cases m
 |cons v V b=>
  rw[iL]at a;rw[iA];by_cases e:w=v
  .subst e;rw[oa (xs:=V) λx d=>?_]
   .simp
   .have:w≠x:=λe=>a.1 (e▸d);simp[this]
  .have f:w∈V:=by
    rcases eM.mp m with h|h
    .exact absurd h e
    .exact h
   rw[b a.2 f];simp[e]
theorem CP(b:(G.map (·.nm)).Nodup)(m:a∈G)(c:cC->Int):dD G (λg=>if g.nm=a.nm then c g else 0)=c a:=by
 induction G with
 |nil=>cases m
 |cons g G d=>
  rw[dW,iL]at b;rw[iA];rcases eM.mp m with rfl|m
  .rw[oa (xs:=G) λx f=>?_]
   .simp
   .have:x.nm≠a.nm:=λe=>b.1 (e▸cP.mpr ⟨x,f,O⟩);simp[this]
  .have:g.nm≠a.nm:=λe=>b.1 (e▸cP.mpr ⟨a,m,O⟩);rw[d b.2 m];simp[this]
noncomputable def oQ(f:eS)(v:aA)(g:cC):Int:=(if g.b=v then f g.nm else 0)-(if g.a=v then f g.nm else 0)
def jl(G:List cC)(f:eS)(v:aA):Int:=dD G (oQ f v)
noncomputable def ri(X:aA->Bool)(f:eS)(g:cC):Int:=(if X g.b=aC then f g.nm else 0)-(if X g.a=aC then f g.nm else 0)
def val(G:List cC)(f:eS):Int:=- jl G f sea
noncomputable def nK(X:aA->Bool)(g:cC):Int:=if X g.a=X g.b then 0 else g.cap
def nB(G:List cC)(X:aA->Bool):Int:=dD G (nK X)
structure gM (V:List aA) (G:List cC):Prop where
 nd:(G.map (·.nm)).Nodup
 ends:∀g∈G,g.a∈V/\g.b∈V/\g.a≠g.b
 cap:∀g∈G,0<=g.cap
 vnd:V.Nodup
 sea:Mt22.sea∈V
def p5(G:List cC)(f:eS):Prop:=∀g∈G,-g.cap<=f g.nm/\f g.nm<=g.cap
theorem CY{V:List aA}{G:List cC}(h:gM V G)(X:aA->Bool)(f:eS):dD (V.filter X) (jl G f)=dD G (ri X f):=by
 unfold jl;rw[CQ];refine n8 λg mg=>?_;obtain⟨a,b,_⟩:=h.ends g mg;show dD (V.filter X) (λv=>(if g.b=v then f g.nm else 0)-(if g.a=v then f g.nm else 0))=_;rw[yw,yb X (f g.nm) h.vnd b,yb X (f g.nm) h.vnd a];rfl
theorem OQ{V:List aA}{G:List cC}(h:gM V G)(f:eS):dD V (jl G f)=0:=by
 have:=CY h (λ_=>aC) f;rw[List.filter_eq_self.mpr (λ_ _=>O)]at this;rw[this];refine oa λg _=>?_;unfold ri;simp
theorem BJ{V:List aA}{G:List cC}(h:gM V G){f:eS}{X:aA->Bool}(g:X Mt22.sea=aJ)(i:∀v∈V,v≠Mt22.sea->X v=aJ->jl G f v=0):dD G (ri X f)=val G f:=by
 rw[←CY h X f];have a:=OQ h f;rw[BS X (jl G f) V]at a;have b:dD (V.filter λx=>!X x) (jl G f)=jl G f Mt22.sea:=by
  have e:dD (V.filter λx=>!X x) (jl G f)=dD (V.filter λx=>!X x) (λv=>if Mt22.sea=v then jl G f Mt22.sea else 0):=n8 λv d=>by
   rw[jD]at d;by_cases c:Mt22.sea=v
   .rw[if_pos c,c]
   .rw[if_neg c];exact i v d.1 (λe=>c e.symm) (by simpa using d.2)
  rw[e,yb (λx=>!X x) _ h.vnd h.sea,g];rfl
 unfold val;omega
theorem Pa(a:p5 G f)(X:aA->Bool):∀g∈G,ri X f g<=nK X g:=λg m=>by
 obtain⟨h1,h2⟩:=a g m;unfold ri nK;cases b:X g.a<;>cases c:X g.b<;>simp<;>omega
theorem Pp{V:List aA}{G:List cC}(h:gM V G){f:eS}(a:p5 G f){X:aA->Bool}(b:X Mt22.sea=aJ)(c:∀v∈V,v≠Mt22.sea->X v=aJ->jl G f v=0):val G f<=nB G X:=by
 rw[←BJ h b c];exact sT (Pa a X)
theorem Pq{V:List aA}{G:List cC}(h:gM V G){f:eS}{X:aA->Bool}(a:X Mt22.sea=aJ)(b:∀v∈V,v≠Mt22.sea->X v=aJ->jl G f v=0)
 (h1:∀g∈G,X g.a=aJ->X g.b=aC->f g.nm=g.cap)(h2:∀g∈G,X g.a=aC->X g.b=aJ->f g.nm=-g.cap):val G f=nB G X:=by
 rw[←BJ h a b];refine n8 λg m=>?_;have c:=h1 g m;have d:=h2 g m;unfold ri nK;cases e:X g.a<;>cases i:X g.b<;>simp[e,i]at c d ⊢<;>omega
def up(g:cC):Mt22.St:=⟨g.nm,g.a,g.b,1⟩
noncomputable def dn(g:cC):Mt22.St:=⟨g.nm,g.b,g.a,-1⟩
def lb(G:List cC):List Mt22.St:=G.flatMap λg=>[up g,dn g]
theorem ry:s∈lb G↔∃g∈G,s=up g\/s=dn g:=by
 unfold lb;rw[List.mem_flatMap];simp
noncomputable def jP(m:Int)(f:eS)(s:Mt22.St):eS:=λn=>if n=s.nm then f n+s.h*m else f n
theorem OR{V:List aA}{G:List cC}(h:gM V G){s:Mt22.St}(n:s∈lb G)(m:Int)(f:eS)(v:aA):jl G (jP m f s) v=jl G f v+((if s.far=v then m else 0)-(if s.near=v then m else 0)):=by
 obtain⟨a,c,e⟩:=ry.mp n;have key:jl G (jP m f s) v=jl G f v+dD G (λg=>if g.nm=a.nm then((if s.far=v then m else 0)-(if s.near=v then m else 0)) else 0):=by
  unfold jl;rw[←yy];refine n8 λg mg=>?_;unfold oQ jP;have d:s.nm=a.nm:=by rcases e with rfl|rfl<;>rfl
  by_cases b:g.nm=a.nm
  .have o:g=a:=by
    have nd:=h.nd;obtain⟨i,hi⟩:=lh.mp mg;obtain⟨j,p⟩:=lh.mp c;obtain⟨q,k⟩:=dI.mp hi;obtain⟨r,l⟩:=dI.mp p;have:i=j:=(sb (xs:=G.map (·.nm)) (h₀:=by rw[aS];exact q) (h₁:=by rw[aS];exact r) nd).mp (by rw[pD,pD,k,l,b]);subst this;rw[←k,←l]
   subst o;rw[if_pos b,if_pos d.symm];rcases e with rfl|rfl
   .show(if g.b=v then f g.nm+1*m else 0)-(if g.a=v then f g.nm+1*m else 0)=(if g.b=v then f g.nm else 0)-(if g.a=v then f g.nm else 0)+((if g.b=v then m else 0)-(if g.a=v then m else 0));split<;>split<;>omega
   .show(if g.b=v then f g.nm+-1*m else 0)-(if g.a=v then f g.nm+-1*m else 0)=(if g.b=v then f g.nm else 0)-(if g.a=v then f g.nm else 0)+((if g.a=v then m else 0)-(if g.b=v then m else 0));split<;>split<;>omega
  .have t:¬g.nm=s.nm:=λe=>b (e.trans d);simp only[if_neg b,if_neg t];omega
 rw[key,CP h.nd c]
theorem zS{V:List aA}{G:List cC}(h:gM V G){S a:List Mt22.St}{b:aA}(c:lJ S a b)(d:∀s∈S,s∈lb G)(m:Int)(f:eS)(v:aA):jl G (a.foldl (jP m) f) v=jl G f v+((if b=v then m else 0)-(if Mt22.sea=v then m else 0)):=by
 induction c with
 |nil=>
  show jl G f v=_;omega
 |@snoc a s c e n g=>
  rw[List.foldl_append];show jl G (jP m (a.foldl (jP m) f) s) v=_;rw[OR h (d s e),g];omega
theorem Dk(m:Int)(n:aA):∀(a:List Mt22.St)(f:eS),(a.foldl (jP m) f) n=f n+m*dD a (λs=>if s.nm=n then s.h else 0)
 |[],f=>by rw[tV,Int.mul_zero,Int.add_zero];rfl
 |s::a,f=>by
  show(a.foldl (jP m) (jP m f s)) n=_;rw[Dk m n a,iA,Int.mul_add];unfold jP;by_cases e:s.nm=n
  .rw[if_pos e,if_pos e.symm,Int.mul_comm m s.h];omega
  .rw[if_neg e,if_neg (λq=>e q.symm),Int.mul_zero];omega
theorem Pd{V:List aA}{G:List cC}(h:gM V G){g g':cC}(m:g∈G)(c:g'∈G)(e:g.nm=g'.nm):g=g':=by
 obtain⟨i,hi⟩:=lh.mp m;obtain⟨j,d⟩:=lh.mp c;obtain⟨f,a⟩:=dI.mp hi;obtain⟨k,b⟩:=dI.mp d;have:i=j:=(sb (xs:=G.map (·.nm)) (h₀:=by rw[aS];exact f) (h₁:=by rw[aS];exact k) h.nd).mp (by rw[pD,pD,a,b,e]);subst this;rw[←a,←b]
instance Vz:DecidableEq Mt22.St:=λa b=>decidable_of_iff (a.nm=b.nm/\a.near=b.near/\a.far=b.far/\a.h=b.h) (by
 cases a;cases b;simp)
theorem BV{V:List aA}{G:List cC}(h:gM V G){g:cC}(mg:g∈G):∀{a:List Mt22.St},(∀s∈a,s∈lb G)->a.Nodup->dD a (λs=>if s.nm=g.nm then s.h else 0)=(if up g∈a then 1 else 0)-(if dn g∈a then 1 else 0)
 |[],_,_=>by simp[tV]
 |s::a,c,b=>by
  rw[iL]at b;rw[iA,BV h mg (λt m=>c t (eY _ m)) b.2];have d:up g≠dn g:=λe=>by
   have:=congrArg Mt22.St.h e;exact absurd this (by show(1:Int)≠-1;decide)
  by_cases e:s.nm=g.nm
  .obtain⟨g',i,f⟩:=ry.mp (c s eJ);have j:g'=g:=Pd h i mg (by rcases f with rfl|rfl<;>exact e);subst j;rcases f with rfl|rfl
   .rw[if_pos e,if_pos eJ,if_neg b.1];have:(dn g'∈up g'::a)↔dn g'∈a:=by simp[Ne.symm d]
    simp only[this];show(1:Int)+_=_;omega
   .rw[if_pos e,if_pos (show dn g'∈dn g'::a from eJ),if_neg b.1];have:(up g'∈dn g'::a)↔up g'∈a:=by simp[d]
    simp only[this];show(-1:Int)+_=_;omega
  .have k:s≠up g:=λq=>e (by rw[q];rfl);have l:s≠dn g:=λq=>e (by rw[q];rfl);have:(up g∈s::a)↔up g∈a:=by simp[Ne.symm k]
   have h2:(dn g∈s::a)↔dn g∈a:=by simp[Ne.symm l]
   simp only[this,h2,if_neg e];omega
noncomputable def ot(G:List cC)(n:aA):Int:=dD G λg=>if g.nm=n then g.cap else 0
theorem tI{V:List aA}{G:List cC}(h:gM V G){g:cC}(m:g∈G):ot G g.nm=g.cap:=CP h.nd m (·.cap)
def room(G:List cC)(f:eS)(s:Mt22.St):Int:=ot G s.nm-s.h*f s.nm
theorem CS{V:List aA}{G:List cC}(h:gM V G){g:cC}(m:g∈G)(f:eS):room G f (up g)=g.cap-f g.nm:=by
 show ot G g.nm-1*f g.nm=_;rw[tI h m];omega
theorem CT{V:List aA}{G:List cC}(h:gM V G){g:cC}(m:g∈G)(f:eS):room G f (dn g)=g.cap+f g.nm:=by
 show ot G g.nm - -1*f g.nm=_;rw[tI h m];omega
theorem LL{V:List aA}{G:List cC}(h:gM V G){S a:List Mt22.St}{k:aA}(c:lJ S a k)(l:∀s∈S,s∈lb G){m:Int}(w:0<=m){f:eS}(n:p5 G f)(b:∀s∈a,m<=room G f s):p5 G (a.foldl (jP m) f):=λg mg=>by
 obtain⟨x,y⟩:=n g mg;obtain⟨sub,o⟩:=Bw c;have p:a.Nodup:=by
  rw[rY];exact((List.pairwise_map.mp (rY.mp o))).imp λr e=>r (by rw[e])
 rw[Dk,BV h mg (λs t=>l s (sub s t)) p];have i:up g∈a->m<=g.cap-f g.nm:=λq=>by have:=b _ q;rwa [CS h mg]at this
 have j:dn g∈a->m<=g.cap+f g.nm:=λq=>by have:=b _ q;rwa [CT h mg]at this
 by_cases u:up g∈a<;>by_cases d:dn g∈a
 .rw[if_pos u,if_pos d];have:=i u;have:=j d;omega
 .rw[if_pos u,if_neg d];have:=i u;omega
 .rw[if_neg u,if_pos d];have:=j d;omega
 .rw[if_neg u,if_neg d];omega
structure Stream (V:List aA) (G:List cC) (ws:List aA) (f:eS):Prop where
 fits:p5 G f
 zero:∀v∈V,v≠Mt22.sea->v∉ws->jl G f v=0
 gain:∀v∈ws,0<=jl G f v
theorem Stream.none{V:List aA}{G:List cC}(h:gM V G)(c:List aA){f:eS}(a:∀g∈G,f g.nm=0):Stream V G c f:=by
 have b:∀v,jl G f v=0:=λv=>oa λg m=>by
  unfold oQ;rw[a g m];simp
 refine⟨λg m=>?_,λv _ _ _=>b v,λv _=>by rw[b v];exact sy _⟩;have:=h.cap g m;rw[a g m];omega
theorem Stream.more{V:List aA}{G:List cC}(h:gM V G){a:List aA}{f:eS}(st:Stream V G a f){S b:List Mt22.St}{d:aA}(c:lJ S b d)(g:∀s∈S,s∈lb G){m:Int}(n:0<=m)(o:∀s∈b,m<=room G f s)(j:d∈a)(ns:Mt22.sea∉a) :
  Stream V G a (b.foldl (jP m) f)/\val G (b.foldl (jP m) f)=val G f+m:=by
 have zs:d≠Mt22.sea:=λe=>ns (e▸j);refine⟨⟨LL h c g n st.fits o,λv i k l=>?_,λv i=>?_⟩,?_⟩
 .rw[zS h c g,st.zero v i k l,if_neg (show ¬d=v from λe=>l (e▸j)),if_neg (show ¬Mt22.sea=v from λe=>k e.symm)];rfl
 .rw[zS h c g,if_neg (show ¬Mt22.sea=v from λe=>ns (e▸i))];have:=st.gain v i;split<;>omega
 .unfold val;rw[zS h c g,if_neg zs,if_pos O];omega
def kk(G:List cC):Int:=dD G (·.cap)
theorem LY{V:List aA}{G:List cC}(h:gM V G){f:eS}(c:p5 G f):val G f<=kk G:=by
 unfold val jl kk;have:dD G (oQ f Mt22.sea)>=dD G (λg=>0-g.cap):=sT λg m=>by
  obtain⟨i,j⟩:=c g m;obtain⟨_,_,d⟩:=h.ends g m;have:=h.cap g m;unfold oQ;by_cases a:g.b=Mt22.sea<;>by_cases b:g.a=Mt22.sea
  .exact absurd (b.trans a.symm) d
  .rw[if_pos a,if_neg b];omega
  .rw[if_neg a,if_pos b];omega
  .rw[if_neg a,if_neg b];omega
 rw[yw,oa (f:=λ_=>(0:Int)) (λ_ _=>O)]at this;have e:(dD G λx=>x.cap)=dD G cC.cap:=O;omega
structure pX (G:List cC) (f:eS) (ws R B:List aA):Prop where
 sea:Mt22.sea∈R
 closed:∀s∈lb G,0<room G f s->s.near∈R->s.far∈R
 wout:∀z∈ws,z∉R
 win:∀z∈ws,z∈B
 bout:∀z∈B,z∉R
 bclosed:∀s∈lb G,s.far∉R->s.near∈B->s.far∈B
instance Vn (a:aA) (l:List aA):Decidable (a∈l):=inferInstance
def y5(B:List aA):aA->Bool:=λa=>decide (a∈B)
theorem zz{V:List aA}{G:List cC}(h:gM V G){f:eS}(j:p5 G f){k R B:List aA}(r:pX G f k R B){g:cC}(m:g∈G) :
  (g.a∉B->g.b∈B->g.a∈R/\f g.nm=g.cap)/\(g.a∈B->g.b∉B->g.b∈R/\f g.nm=-g.cap):=by
 obtain⟨l,o⟩:=j g m;have c:up g∈lb G:=ry.mpr ⟨g,m,.inl O⟩;have d:dn g∈lb G:=ry.mpr ⟨g,m,.inr O⟩;refine⟨λa b=>?_,λa b=>?_⟩
 .have e:g.a∈R:=rX λn=>a (r.bclosed _ d n b);refine⟨e,?_⟩;have:¬0<room G f (up g):=λq=>r.bout _ b (r.closed _ c q e);rw[CS h m]at this;omega
 .have i:g.b∈R:=rX λn=>b (r.bclosed _ c n a);refine⟨i,?_⟩;have:¬0<room G f (dn g):=λq=>r.bout _ a (r.closed _ d q i);rw[CT h m]at this;omega
theorem AU{V:List aA}{G:List cC}(h:gM V G){f:eS}{c R B:List aA}(st:Stream V G c f)(r:pX G f c R B):val G f=nB G (y5 B):=by
 have d:Mt22.sea∉B:=λm=>r.bout _ m r.sea;refine Pq h (decide_eq_false d) (λv e i j=>?_) (λg m a b=>?_) (λg m a b=>?_)
 .exact st.zero v e i λw=>(of_decide_eq_false j) (r.win v w)
 .exact((zz h st.fits r m).1 (of_decide_eq_false a) (of_decide_eq_true b)).2
 .exact((zz h st.fits r m).2 (of_decide_eq_true a) (of_decide_eq_false b)).2
def jR(G:List cC)(R B:List aA):List Mt22.St:=(lb G).filter λs=>decide (s.near∈R)&&decide (s.far∈B)
theorem Lm{V:List aA}{G:List cC}(h:gM V G){f:eS}{c R B:List aA}(st:Stream V G c f)(r:pX G f c R B):dD (jR G R B) (λs=>ot G s.nm)=val G f:=by
 rw[AU h st r];unfold jR nB lb;rw[vW];have key:∀G':List cC,(∀g∈G',g∈G)->dD (G'.flatMap λg=>[up g,dn g]) (λs=>if (decide (s.near∈R)&&decide (s.far∈B))=aC then ot G s.nm else 0)=dD G' (nK (y5 B)):=by
  intro G'
  induction G' with
  |nil=>intro _;rfl
  |cons g G' d=>
   intro sub;have m:=sub g eJ;rw[xt,yx,d λx e=>sub x (eY _ e),iA g];congr 1;rw[iA,iA,tV];show(if (decide (g.a∈R)&&decide (g.b∈B))=aC then ot G g.nm else 0)+((if (decide (g.b∈R)&&decide (g.a∈B))=aC then ot G g.nm else 0)+0)=(if decide (g.a∈B)=decide (g.b∈B) then 0 else g.cap)
   rw[tI h m];obtain⟨i,j⟩:=zz h st.fits r m;by_cases a:g.a∈B<;>by_cases b:g.b∈B
   .have:=r.bout _ a;have:=r.bout _ b;simp[*]
   .have:=r.bout _ a;have:=(j a b).1;simp[*]
   .have:=r.bout _ b;have:=(i a b).1;simp[*]
   .simp[*]
 exact key G λg m=>m
def lA(G:List cC)(b:List aA)(c:Int):Prop:=(∃X:aA->Bool,X Mt22.sea=aJ/\(∀a∈b,X a=aC)/\nB G X=c)/\∀X:aA->Bool,X Mt22.sea=aJ->(∀a∈b,X a=aC)->c<=nB G X
theorem KL{V:List aA}{G:List cC}(h:gM V G){f:eS}{a R B:List aA}(st:Stream V G a f)(r:pX G f a R B):lA G a (val G f):=by
 refine⟨⟨y5 B,decide_eq_false λm=>r.bout _ m r.sea,λc m=>decide_eq_true (r.win c m),(AU h st r).symm⟩,λX d e=>?_⟩;refine Pp h st.fits d λv g i b=>st.zero v g i λw=>?_;rw[e v w]at b;cases b
theorem lA.uniq(h:lA G b c)(h':lA G b d):c=d:=by
 obtain⟨⟨X,s,w,e⟩,a⟩:=h;obtain⟨⟨f,L,g,j⟩,i⟩:=h';have:=a f L g;have:=i X s w;omega
end Mt61
namespace L2
open PySem PySem.Spec PyProof.Rows
def Sv(l:List Nat):Prop:=∀i k,i<k->k<l.length->l.getD i 0<l.getD k 0
structure Js (t:SetTable):Prop where
 no:t.dummies=#[]
 up:Sv t.place.toList
theorem KA:jE "sorted"=some (.builtin "sorted"):=VE
end L2
namespace L2
open PySem PySem.Spec PyProof.Rows PySem.W
section
variable{P:bT}{w:bN}{K:bI}{mg:aA->Option aE}{base:bE}
theorem ND
 
 (d:eQ (k+1) A)(g:mO P w K mg base A outer s H)(l:s.heap.get? f=some o)(m:o.data=.func (kla_fn name j params body scope [] pm a i))(p:s.heap.CodeRec a j)(S:cN N ps scope)
 (z:BindsTo s (kla_fn name j params body scope [] pm a i) args (ps.zip us))(r:cB vs us)(B:vs.length=ps.length)
 (C:eQ k (A.deeper (envOfC j scope s.heap.objs.size f a))->∃t:bG,bL (iH jb P w K mg base N j scope f a A outer s H lM).nox body t/\t (start N vs) H Q) :
  codeAny (aX P w) A (.call (.ref f) args) (Af jb outer P w H s Q lM) s:=by
 have D:s.heap.NoLimit:=g.mod.nolimit.keeps λb o e=>(g.bs b o e).1;have E:∀y∈ps.zip us,scope.names.lookup y.1=some .local\/(scope.names.lookup y.1=some .cell/\((cellsFrom (s.heap.objs.size+1) scope.names []).lookup y.1).isSome=aC):=fun⟨n,v⟩ G=>by
  rcases S.par n (uA G).1 with q|q
  .exact .inl q
  .exact .inr ⟨q,w6 _ _ _ (.inl q)⟩
 refine kla_callFunE d.depth l m S.co S.gen O p (z _ _ _ _ ?_);refine wpAny_newFunctionEnv_cells S.kind E λenv J s1 x=>?_;subst J;refine⟨D.keeps x.toInCall.keep,kla_codeExpr ?_⟩;obtain⟨t,M,T⟩:=C (d.deeper _);have I:Inv (iH jb P w K mg base N j scope f a A outer s H lM) [] (start N vs) H s1:=Bh S d.hd g B r x;have U:Inv (iH jb P w K mg base N j scope f a A outer s H lM).nox [] (start N vs) H s1:=⟨⟨I.ok.mod,I.ok.kind,I.ok.glob,I.ok.blt,I.ok.above,I.ok.inj,I.ok.has,I.ok.cab,I.ok.hd,I.ok.frames,I.ok.stk,I.ok.exf,I.ok.bs,I.ok.bsz,I.ok.noex,I.ok.exfs,I.ok.funs,I.ok.frf⟩,I.os,I.bare,I.base,I.loc,I.cell,I.free,I.freeC,I.pin,I.hok,I.len⟩
 refine fL (M [] s1 (start N vs) H _ U T) (λu L h=>?_) λe L h=>gZ h;obtain⟨v,H',c,Y,q⟩:=h;exact⟨v,H',c.os,c.bare,c.base,c.hok,Y,q⟩
end
def fV(T:aB)(H H':aD):Prop:=∀b o,b≠T->H b=some o->H' b=some o
theorem fV.trans(a:fV T H z)(b:fV T z H2):fV T H H2:=λx o n e=>b x o n (a x o n e)
def nL(j:aA)(c:aB):dX:=.ext λh=>h.CodeRec (.ref c) j
noncomputable def mA(name j:aA)(params:oK)(body:bJ)(scope:jI)(c f:aB):dX:=.ext λh=>∃pm ctv,h.get? f=some (kla_obj name j params body scope [] pm c ctv)
theorem nL.ok(x:h.CodeRec (.ref c) q):dR P w H h c (nL q c):=by
 refine⟨x,?_,λh1 h2 y k=>?_⟩
 .obtain⟨c',a,vs,t,e,b,_⟩:=x;cases e;exact⟨a,b⟩
 .obtain⟨c',a,vs,t,e,b,r⟩:=y;cases e;exact⟨_,a,vs,t,O,k _ b,r⟩
theorem mA.ok(x:h.get? f=some (kla_obj n q ps b a [] pm c ctv)):dR P w H h f (mA n q ps b a c f):=
 ⟨⟨pm,ctv,x⟩,⟨_,x⟩,λh1 h2 ⟨p,v,y⟩ k=>⟨p,v,k _ y⟩⟩
def fZ(T:aB)(pos:Pos)(j:aA)(H:aD):Prop:=
 ∃ps,H T=some (.tbl ps)/\TriplesOk ps.toList/\(codeAmong pos ps.toList=aG\/∃c',codeAmong pos ps.toList=some (.ref c')/\H c'=some (nL j c'))
theorem fZ.keep(x:fZ T pos j H)(k:∀b o,H b=some o->H' b=some o):fZ T pos j H':=by
 obtain⟨ps,e,t,r⟩:=x;refine⟨ps,k _ _ e,t,r.imp id fun⟨c,a,d⟩=>⟨c,a,k _ _ d⟩⟩
theorem IL:∀(l:List aE) {m:List aE},TriplesOk m->TriplesOk l->TriplesOk (l++m)
 |[],_,h,_=>h
 |[a],_,_,h=>by cases a<;>exact gZ h
 |[a,b],_,_,h=>by cases a<;>cases b<;>exact gZ h
 |a::b::c::r,m,h1,h2=>by
  cases a<;>first|exact gZ h2|(cases b<;>first|exact gZ h2|exact IL r h1 h2)
structure kJ (K:bI) (mg:aA->Option aE) (base:bE) (x:aA) (c T:aB):Prop where
 bm:∃bm ob,mg "__builtins__"=some (.ref bm)/\bm≠builtinsNs/\base.get? bm=some ob/\ob.cls=.type "module"/\ob.dict=some builtinsNs/\ob.data=.plain
 hd:CodeHd base c T
 cd:∀(fa:aB)(o:aY)(fd:iW),mg x=some (.ref fa)->K.lookup fa=some o->o.data=.func fd->fd.code=.ref c
section
variable{X:aZ}{T c:aB}{j:aA}{params:oK}{body:bJ}{scope:jI}{pos:Pos}
def ES(T:aB)(pos:Pos)(j:aA)(params:oK)(body:bJ)(scope:jI):bG:=λY H Q=>fZ T pos j H /\
 ∀(f c':aB)(H':aD),fV T H H'->fZ T pos j H'->H' c'=some (nL j c')->H' f=some (mA "<lambda>" j params body scope c' f)->Q (.ref f) H'
theorem PJ(B:kJ X.K X.mg X.base x c T)(a8:X.env.code=.ref c)(ao:X.env.qual++"<lambda>"=j)(a9:sD scope X.env=pure [])(ap:defaultsOf params X.env=([],[])) :
  bL X (.Lambda params body scope pos) (ES T pos j params body scope):=by
 refine⟨?_⟩;intro U s Y H Q I h;obtain⟨⟨ps,i,k,aq⟩,q⟩:=h;subst ao;have p:s.heap.get? T=some (tabObj ps):=I.hok T _ i;have M:=I.mod.glob.keeps I.bk;obtain⟨bm,ar,as,au,C,aa,av,N⟩:=B.bm;have aw:lH≠T:=λf=>by
  obtain⟨o,es,ep,e,hd,_⟩:=M;rw[f,p]at e;cases e;cases hd
 have ax:bm≠T:=λf=>by
  have e:=I.bk _ _ C;rw[f,p]at e;cases e;cases aa
 have ay:bm≠lH:=λf=>by
  obtain⟨o,es,ep,e,hd,_⟩:=I.mod.glob;rw[f,e]at C;cases C;rw[hd]at N;cases N
 have bl:s.heap.BuiltinsAt X.mg T:=⟨bm,ar,as,au,ay,ax,I.bk _ _ C,aa,av,N⟩
 have D:∀b,H b=aG->b≠T:=λb n f=>by rw[f,i]at n;cases n
 refine kla_eval ap ?_;rcases aq with a0|⟨c',ac,ae⟩
 .refine kla_makeFunction (mg:=X.mg) a9 I.ok.glob M a8 (B.hd.keeps I.bk) p k a0 aw bl λc' ctv h' tk a1 w E af a2=>?_;have y:(h'.push (kla_obj "<lambda>" (X.env.qual++"<lambda>") params body scope [] ((X.mg "__name__").getD .none) c' ctv)).get? h'.objs.size=some (kla_obj "<lambda>" (X.env.qual++"<lambda>") params body scope [] ((X.mg "__name__").getD .none) c' ctv):=gF _ O;generalize ag:kla_obj "<lambda>" (X.env.qual++"<lambda>") params body scope [] ((X.mg "__name__").getD .none) c' ctv=G at y;have A:∀b o,b≠T->s.heap.get? b=some o->(h'.push G).get? b=some o:=λb o n e=>dM _ (a1 b o n e);have lt:∀b o,s.heap.get? b=some o->b≠c'/\b≠h'.objs.size:=λb o e=>⟨eF (iK (dQ e) w),eF (qM (iK (dQ e) w) E)⟩
  have fresh:∀b o,H b=some o->b≠c'/\b≠h'.objs.size:=λb o e=>by
   have:=I.hok.lt e;exact⟨eF (iK this w),eF (qM (iK this w) E)⟩
  have ah:c'≠T:=Ne.symm (fresh T _ i).1;have ai:h'.objs.size≠T:=Ne.symm (fresh T _ i).2;have aj:c'≠h'.objs.size:=eF E
  let a3:=ps++#[rawInt pos.line,rawInt pos.col,.ref c']
  let z:=aI (aI (aI H T (.tbl a3)) c' (nL (X.env.qual++"<lambda>") c')) h'.objs.size (mA "<lambda>" (X.env.qual++"<lambda>") params body scope c' h'.objs.size)
  have up:∀b,b≠T->b≠c'->b≠h'.objs.size->z b=H b:=λb az aR b0=>by
   show aI _ _ _ b=_;rw[bD b0,bD aR,bD az]
  have J:z T=some (.tbl a3):=by
   show aI _ _ _ T=_;rw[bD (Ne.symm ai),bD (Ne.symm ah),aV]
  have L:z c'=some (nL (X.env.qual++"<lambda>") c'):=by
   show aI _ _ _ c'=_;rw[bD aj,aV]
  have a4:z h'.objs.size=some (mA "<lambda>" (X.env.qual++"<lambda>") params body scope c' h'.objs.size):=aV;have KB:fV T H z:=λb o n e=>by rw[up b n (fresh b o e).1 (fresh b o e).2];exact e
  have ak:eB X.prog X.w z (h'.push G):=λb u e=>by
   by_cases al:b=h'.objs.size
   .subst al;rw[a4]at e;cases e;exact mA.ok (pm:=(X.mg "__name__").getD .none) (ctv:=ctv) (by rw[y,ag])
   .by_cases am:b=c'
    .subst am;rw[L]at e;cases e;obtain⟨_,b1,vs,t,b2,b3,r⟩:=af;cases b2;exact nL.ok ⟨_,b1,vs,t,O,dM _ b3,r⟩
    .by_cases a5:b=T
     .subst a5;rw[J]at e;cases e;show(h'.push G).get? b=some _;exact dM _ a2
     .rw[up b a5 am al]at e;refine(I.hok b u e).stay (λd v hd g=>A d v (λf=>?_) g) (λd f=>KB d _ (λa6=>by rw[a6,i]at f;cases f) f) λd xs f=>KB d _ (λa6=>by rw[a6,i]at f;cases f) f;rcases hd with hd|hd
      .exact a5 (hd▸f)
      .rw[f,i]at hd;cases hd
  have an:Inv X U Y z {s with heap:=h'.push G,toks:=tk}:=by
   refine I.step (g':=s.gens) (d':=s.drawn) (ch:=[]) (λ_ f=>nomatch f) (λb o _ _ _ e n=>A b o (D b n) e) (λb o _ _ _ e n=>⟨o.slots,A b o (D b n) e⟩)
    (λb o _ e n=>by rw[up b (D b n) (lt b o e).1 (lt b o e).2];exact n) (λb o _ e=>?_) (λb xs e=>KB b _ (λf=>by rw[f,i]at e;cases e) e) (λb o u e=>KB b _ (λf=>by rw[f,i]at e;cases e) e)
    (λb b5 e=>?_) (λm hm=>?_) ak I.bare
   .by_cases f:b=T
    .subst f;exact⟨_,dM _ a2⟩
    .exact⟨o,A b o f e⟩
   .by_cases f:b=T
    .subst f;rw[i]at e;cases e;exact⟨_,J⟩
    .exact⟨#[],by rw[KB b _ f e];simp⟩
   .exact(hm.extBut a1 (D _ I.free)).push _
  refine⟨.ref h'.objs.size,z,?_,O,q _ c' z KB ⟨a3,J,?_,.inr ⟨c',?_,L⟩⟩ L a4⟩
  .exact an
  .show TriplesOk (ps++#[rawInt pos.line,rawInt pos.col,.ref c']).toList;rw[Array.toList_append];generalize ps.toList=l at k;clear up J ak KB an fresh lt A q p a0 E w aj ai ah L a4 a1 af a2 y ag bl i;revert k;refine IL l ?_;exact trivial
  .show codeAmong pos (ps++#[rawInt pos.line,rawInt pos.col,.ref c']).toList=_;rw[Array.toList_append];exact codeAmong_snoc _ k a0
 .refine kla_makeFunctionHit (mg:=X.mg) a9 I.ok.glob M a8 (B.hd.keeps I.bk) p k ac bl λctv h' tk b4 hsz=>?_;have y:(h'.push (kla_obj "<lambda>" (X.env.qual++"<lambda>") params body scope [] ((X.mg "__name__").getD .none) c' ctv)).get? h'.objs.size=some (kla_obj "<lambda>" (X.env.qual++"<lambda>") params body scope [] ((X.mg "__name__").getD .none) c' ctv):=gF _ O;refine⟨.ref h'.objs.size,_,I.laid (a:=h'.objs.size) (o:=mA "<lambda>" (X.env.qual++"<lambda>") params body scope c' h'.objs.size) (t':=tk) (λb o e=>dM _ (b4 b o e)) hsz (mA.ok y),O,?_⟩;have fr:=I.hok.fresh hsz;have a7:∀b o,H b=some o->aI H h'.objs.size (mA "<lambda>" (X.env.qual++"<lambda>") params body scope c' h'.objs.size) b=some o:=λb o e=>by rw[bD (dC e fr)];exact e
  exact q _ c' _ (λb o _ e=>a7 b o e) (fZ.keep ⟨ps,i,k,.inr ⟨c',ac,ae⟩⟩ a7) (a7 _ _ ae) aV
end
end L2
namespace HT
open PySem PyProof.Rows
section
open PySem.SeqAt
open PySem.AutoSeq1 (wpAny_loadPart')
open PySem.MeetsSeq PySem.MeetsSeq2 PySem.MeetsSeq3
theorem tF:∀{vs:List aE} {ns:List Int} (i:Nat),IntsAre vs ns->i<vs.length->∃a t,vs[i]?=some (.int a t)/\ns[i]?=some a
 |_,_,_,.nil,h=>by simp at h
 |_,_,0,.cons a t r,_=>⟨a,t,O,O⟩
 |_,_,i+1,.cons a t r,h=>tF i r (by simpa using h)
theorem Ks(l b:aB)(items f:Array aE)(n G:Nat)(dd H:Option aB)(I J:Array (Option aE))(ns j:List Int)(hi:IntsAre items.toList ns)(y:IntsAre f.toList j)(k:Nat) :
  ∀i:Nat,items.size-i=k->Meets (Builtin.«list.__eq__.loop» ⟨[.ref l,.ref b,rawInt i,rawInt 0],[]⟩)
   (λA R s=>s.heap.get? l=some {cls:=.type "list",dict:=dd,data:=.seq items n,slots:=I}/\s.heap.get? b=some {cls:=.type "list",dict:=H,data:=.seq f G,slots:=J} /\
    i<=items.size/\i<=f.size/\R (.ok (.ret (.bool (lexLt (ns.drop i) (j.drop i))))) s):=by
 have a2:items.size=ns.length:=by rw[←hi.length];simp
 have a3:f.size=j.length:=by rw[←y.length];simp
 induction k with
 |zero=>
  intro i L prog w A R s h;obtain⟨x,g,d,tk,os⟩:=s;obtain⟨m,o,p,r,h⟩:=h
  wp_walk using l8 m,l8 o
  have p:items[((i:Nat):Int).toNat]?=aG:=by simp;omega
  rw[p]
  wp_walk using l8 m,l8 o
  show R (.ok (.ret (.bool (decide (items.size<f.size))))) _;rw[t8 (as:=ns) VF]at h;have e:lexLt [] (j.drop i)=decide (items.size<f.size):=by
   by_cases q:i<j.length
   .rw[w4 q,JF];exact(decide_eq_true VF).symm
   .rw[t8 VF,JZ];exact(decide_eq_false VF).symm
  rw[e]at h;exact h
 |succ k M=>
  intro i L prog w A R s h;obtain⟨x,g,d,tk,os⟩:=s;obtain⟨m,o,a4,a5,h⟩:=h;have N:i<items.size:=VF;obtain⟨a,t,Q,B⟩:=tF i hi (by rw[mD];exact N);have C:i<ns.length:=VF;have p:items[((i:Nat):Int).toNat]?=some (.int a t):=by
   rw[show((i:Nat):Int).toNat=i by simp,←qA];exact Q
  have dn:ns.drop i=a::ns.drop (i+1):=by
   rw[w4 C];rw[cY C]at B;rw[gK B]
  rw[dn]at h
  wp_walk using l8 m,l8 o
  rw[p];by_cases q:i<f.size
  .obtain⟨c,u,T,D⟩:=tF i y (by rw[mD];exact q);have hm:i<j.length:=VF;have r:f[((i:Nat):Int).toNat]?=some (.int c u):=by
    rw[show((i:Nat):Int).toNat=i by simp,←qA];exact T
   have U:j.drop i=c::j.drop (i+1):=by
    rw[w4 hm];rw[cY hm]at D;rw[gK D]
   rw[U,SP]at h;rw[r];obtain⟨e,Y,E⟩:=NR A.in1 ⟨x,g,d,tk,os⟩ a t c u;have a0:((i:Int)+1)=((i+1:Nat):Int):=by push_cast;rfl
   refine aO (Y prog w _ _ ?_);cases e with
   |true=>
    rw[if_pos (E.mp O)]at h
    wp_walk
    rw[a0];exact⟨nV plain_eq_loop _,nh entry_eq_loop (by
     rw[ow plain_eq_loop _];exact M (i+1) VF prog w A R _ ⟨m,o,VF,VF,h⟩)⟩
   |false=>
    rw[if_neg (λz=>absurd (E.mpr z) fX)]at h;have a1:=No A.in1 ⟨x,g,d,tk,os⟩ a t c u prog w
    wp_walk using l8 m,l8 o
    rw[p,r]
    wp_walk using a1
    exact h
  .have r:f[((i:Nat):Int).toNat]?=aG:=by simp;omega
   rw[r]
   wp_walk using l8 m,l8 o
   show R (.ok (.ret (.bool (decide (items.size<f.size))))) _;rw[t8 (as:=j) VF,JG]at h;rw[decide_eq_false VF];exact h
theorem Kt(l b:aB)(items a:Array aE)(n e:Nat)(dd f:Option aB)(i j:Array (Option aE))(ns c:List Int)(hi:IntsAre items.toList ns)(o:IntsAre a.toList c) :
  Meets (Builtin.«list.__lt__» ⟨[.ref l,.ref b],[]⟩)
   (λA R s=>s.heap.get? l=some {cls:=.type "list",dict:=dd,data:=.seq items n,slots:=i}/\s.heap.get? b=some {cls:=.type "list",dict:=f,data:=.seq a e,slots:=j} /\
    R (.ok (.ret (.bool (lexLt ns c)))) s):=by
 intro prog w A R s h;obtain⟨p,g,d,tk,os⟩:=s;obtain⟨k,m,h⟩:=h;have f3:=AutoSeq1.sub_list_list
 wp_walk using l8 k,l8 m
 exact⟨nV plain_eq_loop _,nh entry_eq_loop (by
  rw[ow plain_eq_loop _];exact Ks l b items a n e dd f i j ns c hi o _ 0 O prog w A R _ ⟨k,m,jo _,jo _,by simpa using h⟩)⟩
end
section
variable{prog:bT}{w:bN}{A:bX}{E:aE->aK->Prop}{s:aK}
theorem Vm(k:s.heap.IsList l items)(m:s.heap.IsList b c)(hi:IntsAre items.toList ns)(o:IntsAre c.toList a)
 (p:A.units<cLine)(h:Q (.bool (lexLt ns a)) s):aU (aX prog w) A (iO .Lt (.ref l) (.ref b)) Q E s:=by
 obtain⟨⟨cls,dd,data,q⟩,d,e,n,f⟩:=id k;obtain⟨⟨y,r,data2,t⟩,g,i,u,j⟩:=id m;simp only at e f i j;subst e f i j;exact richCompare_meets_room (op:=.Lt) ⟨_,d,O⟩ ⟨_,g,O⟩ PySem.F.slot_list_lt PySem.F.entry_list_lt (PySem.F.args_list_lt_2 _ _) (Kt l b items c n u dd r q t ns a hi o)
  ⟨d,g,show sB (lexLt ns a)≠aE.notImplemented/\Q (.bool (lexLt ns a)) s from⟨(λx=>nomatch x),h⟩⟩ p
end
end HT
namespace L2
open PySem PySem.Spec PyProof.Rows PySem.W
noncomputable def vn(n:Nat)(lt:Nat->Nat->Bool){q:Type}:KasT q->Option q
 |.ret a=>some a
 |.ask i j k=>if i<n/\j<n then vn n lt (k (lt i j)) else aG
theorem BH{q:Type}{n:Nat}{lt:Nat->Nat->Bool}{c:Nat->Nat->(Bool->aK->Prop)->aK->Prop}{s:aK}(d:∀(i j:Nat)(C:Bool->aK->Prop),i<n->j<n->C (lt i j) s->c i j C s) :
  ∀(t:KasT q)(a:q)(G:q->aK->Prop),vn n lt t=some a->G a s->t.kasWp c G s
 |.ret b,a,G,e,g=>by
  have e:b=a:=gK e;subst e;exact g
 |.ask i j k,a,G,e,g=>by
  unfold vn at e;split at e
  .rename_i h;exact d i j _ h.1 h.2 (BH d (k (lt i j)) a G e g)
  .cases e
noncomputable def oh(ns a:List Int):Bool:=if ns.length=a.length then HT.lexLt ns a else decide (ns.length<a.length)
noncomputable def q7(a:List (List Int)):Option (Array Nat):=vn a.length (λi j=>oh (a.getD i []) (a.getD j [])) (kas_sort a.length)
noncomputable def iG:Nat->List (List Int)
 |0=>[[]]
 |k+1=>iG k++(iG k).map (·++[(k:Int)])
noncomputable def sU:Nat->List Nat
 |1=>[0,1]
 |2=>[0,1,2,3]
 |3=>[0,1,2,4,3,5,6,7]
 |_=>[0,1,2,4,8,3,5,9,6,10,12,7,11,13,14,15]
theorem Oq:q7 (iG 1)=some (sU 1).toArray:=VE
theorem Op:q7 (iG 2)=some (sU 2).toArray:=VE
theorem Oo:q7 (iG 3)=some (sU 3).toArray:=VE
theorem On:q7 (iG 4)=some (sU 4).toArray:=VE
section
variable{X:aZ}{U:List (aB×aY)}{Y:List (Option V)}{H:aD}{s:aK}
structure lq (X:aZ) (H:aD) (b:aB):Prop where
 nt:H b=aG
 loc:b≠X.env.locals
 nfs:b∉X.fs
 ab:X.s₀.heap.objs.size<=b
 ncl:∀x c,X.env.cells.lookup x=some c->c≠b
 npn:∀p∈X.pn,p.1≠b
theorem lq.new(I:Inv X U Y H s)(h:s.heap.objs.size<=b):lq X H b:=by
 refine⟨I.hok.fresh h,Ne.symm (eF (iK I.lt h)),I.nofs h,fF I.sz h,λx c e a=>?_,λp f a=>?_⟩
 .obtain⟨v,o,d,_⟩:=I.cell x c e;exact absurd (dQ d) (by rw[a];exact Nat.not_lt.mpr h)
 .have d:=(I.pin p (nO _ f)).1;exact absurd (dQ d) (by rw[a];exact Nat.not_lt.mpr h)
theorem Inv.pinAdd(I:Inv X U Y H s)(e:s.heap.get? b=some o)(a:lq X H b)(d:∀v,o.data≠.cell v):Inv X ((b,o)::U) Y H s:=
 I.pins_of λp c=>by
  rcases eM.mp c with rfl|c
  .exact⟨e,a.nt,a.loc,a.nfs,d⟩
  .exact I.pin p (jx _ c)
theorem Inv.pinDrop(I:Inv X (q::U) Y H s):Inv X U Y H s:=I.pins_of λp a=>I.pin p (jx _ (eY _ a))
theorem Inv.pinAt(I:Inv X ((b,o)::U) Y H s):s.heap.get? b=some o/\H b=aG:=let x:=I.pin (b,o) (jx _ eJ);⟨x.1,x.2.1⟩
theorem Inv.turn(I:Inv X ((b,o)::U) Y H s)(a:lq X H b)(c:∀p∈U,p.1≠b)(k:∀d u,d≠b->s.heap.get? d=some u->h'.get? d=some u)(e:h'.get? b=some G)(f:∀v,G.data≠.cell v) :
  Inv X ((b,G)::U) Y H {s with heap:=h',toks:=t'}:=
 Inv.pinAdd (I.pinDrop.turned (h':=h') (t':=t') k a.nt a.loc (.inr a.ab) a.ncl λp z=>by
  rcases gQ.mp z with z|z
  .exact a.npn p z
  .exact c p z) e a f
theorem Inv.track(I:Inv X ((b,o)::U) Y H s)(f:lq X H b)(h:∀p∈U,p.1≠b)(new:dR X.prog X.w (aI H b u) s.heap b u):Inv X U Y (aI H b u) s:=by
 have i:=I.pinDrop;have g:∀c v,H c=some v->c≠b:=λc v e=>dC e f.nt;have j:∀c∈[b],(c∈X.ex\/X.s₀.heap.objs.size<=c)/\c≠X.env.locals/\(∀x d,X.env.cells.lookup x=some d->d≠c)/\∀p∈X.pn++U,p.1≠c:=λc a=>by
  have e:c=b:=by simpa using a
  subst e;exact⟨.inr f.ab,f.loc,f.ncl,λp k=>(gQ.mp k).elim (f.npn p) (h p)⟩
 have:=i.step (h':=s.heap) (H':=aI H b u) (g':=s.gens) (t':=s.toks) (d':=s.drawn) (ch:=[b]) j (λc o _ _ _ e _=>e) (λc o _ _ _ e _=>⟨o.slots,e⟩) (λc o a e n=>by rw[bD (by simpa using a)];exact n)
  (λc o _ e=>⟨o,e⟩) (λc xs e=>by rw[bD (g c _ e)];exact e) (λc o v e=>by rw[bD (g c _ e)];exact e) (λc ps e=>⟨#[],by rw[bD (g c _ e),e];simp⟩) (λm hm=>hm) (λc v e=>?_) I.bare
 .exact this
 .by_cases a:c=b
  .subst a;rw[aV]at e;cases e;exact new
  .rw[bD a]at e;exact(I.hok c v e).stay (λd w _ q=>q) (λd q=>by rw[bD (g d _ q)];exact q) λd xs q=>by rw[bD (g d _ q)];exact q
end
theorem IJ:∀ns:List Int,HT.lexLt ns ns=aJ
 |[]=>rfl
 |n::ns=>by rw[HT.SP,if_pos O];exact IJ ns
theorem Bq:∀ns a:List Int,mx (ns.map aH.int) (a.map aH.int)=decide (ns=a)
 |[],[]=>rfl
 |[],_::_=>rfl
 |_::_,[]=>rfl
 |n::ns,m::a=>by
  show(fQ (.int n) (.int m)&&mx (ns.map aH.int) (a.map aH.int))=_;rw[Bq ns a];show(decide (n=m)&&decide (ns=a))=_;by_cases h1:n=m<;>by_cases h2:ns=a<;>simp[h1,h2]
theorem wy:∀ns:List Int,IsL H (ns.map aH.int) (ns.map V.int)
 |[]=>rfl
 |n::ns=>⟨.int n,_,O,O,wy ns⟩
theorem z0:∀ns:List Int,iR 1 (ns.map aH.int)=aC
 |[]=>rfl
 |n::ns=>by
  show(dG 1 (.int n)&&iR 1 (ns.map aH.int))=aC;rw[z0 ns];rfl
theorem zY:∀{ns:List Int} {vs:List aE},cB (ns.map V.int) vs->IntsAre vs.toArray.toList ns
 |[],_,.nil=>.nil
 |n::ns,_,.cons ⟨t,rfl⟩ r=>.cons n t (zY r)
section
variable{X:aZ}{U:List (aB×aY)}{Y:List (Option V)}{H:aD}{s:aK}
theorem Qc(I:Inv X U Y H s)(N:A.units+8<cLine)(k:H t=some (.tup [.int ns.length,.ref a]))(l:H u=some (.tup [.int c.length,.ref b]))
 (ea:H a=some (.lst (ns.map V.int)))(j:H b=some (.lst (c.map V.int)))(q:Q (oh ns c) s) :
  aU (aX X.prog X.w) A (keyLt' (tuples' aC) (.ref t) (.ref u)) Q E s:=by
 obtain⟨T,m,⟨a0,n,a1,a2,o⟩,_⟩:=I.tuple (bY.of k);obtain⟨a3,p,⟨a4,r,a5,a6,w⟩,_⟩:=I.tuple (bY.of l);cases m with
 |cons x e=>
 cases e with
 |cons y e=>
 cases e;cases p with
 |cons z f=>
 cases f with
 |cons B f=>
 cases f;obtain⟨C,rfl⟩:=x;obtain⟨G,rfl⟩:=z;cases y;cases B;refine kat_lt n o r w ?_;refine kat_cons (wpAny_eqBool_int ?_);by_cases g:ns.length=c.length
 .have i:((ns.length:Int)==(c.length:Int))=aC:=by simp[g]
  rw[i];refine kat_yes (kat_cons ?_);refine bK.eqAt I 2 (.lst (ns.map aH.int)) (.lst (c.map aH.int)) (.ref a) (.ref b) (.ref a) (.ref b) A VF (z0 ns) (z0 c) ⟨a,_,O,ea,wy ns⟩ ⟨b,_,O,j,wy c⟩ O O X.prog X.w _ _ ?_;have J:fQ (.lst (ns.map aH.int)) (.lst (c.map aH.int))=decide (ns=c):=Bq ns c;rw[J];by_cases hm:ns=c
  .rw[decide_eq_true hm];refine kat_yes (kat_nil ?_);subst hm;have d:oh ns ns=aJ:=by unfold oh;rw[if_pos O,IJ]
   rw[d]at q;exact q
  .rw[decide_eq_false hm];refine kat_no ?_;show aU _ _ (oneLt' aJ (.ref a) (.ref b)) _ _ _;obtain⟨a7,L,p1,_⟩:=I.list (aT.of ea);obtain⟨a8,M,D,_⟩:=I.list (aT.of j);refine kat_one _ _ (HT.Vm p1.isList D.isList (zY L) (zY M) VF ?_);have d:oh ns c=HT.lexLt ns c:=by unfold oh;rw[if_pos g]
   rw[d]at q;exact q
 .have i:((ns.length:Int)==(c.length:Int))=aJ:=by simp;omega
  rw[i];refine kat_no ?_;show aU _ _ (oneLt' aC (.int ns.length C) (.int c.length G)) _ _ _;refine oneLt_int ?_;have d:oh ns c=decide ((ns.length:Int)<(c.length:Int)):=by
   unfold oh;rw[if_neg g];by_cases h:ns.length<c.length
   .rw[decide_eq_true h,decide_eq_true VF]
   .rw[decide_eq_false h,decide_eq_false VF]
  rw[d]at q;exact q
end
def vx(X:aZ)(Y:List (Option V))(A:bX)(f:aB)(w:aD->Prop):Prop:=∀(U:List (aB×aY))(s:aK)(H:aD)(a:aB)(ns:List Int),Inv X U Y H s->w H->H a=some (.lst (ns.map V.int)) ->
 aU (aX X.prog X.w) A (call (.ref f) [.ref a]) (λu L=>∃t H',Inv X U Y H' L/\u=.ref t/\aM H H'/\H' t=some (.tup [.int ns.length,.ref a])) (λ_ _=>False) s
abbrev k8 (H:aD) (ps:List (aB×List Int)):Prop:=∀p∈ps,H p.1=some (.lst (p.2.map V.int))
theorem k8.same(S:aM H H')(h:k8 H ps):k8 H' ps:=λp m=>S _ _ (h p m)
def kh(H:aD):List aE->List (aB×List Int)->Prop
 |[],[]=>True
 |k::B,p::ps=>(∃t,k=.ref t/\H t=some (.tup [.int p.2.length,.ref p.1]))/\kh H B ps
 |_,_=>False
theorem kh.same(S:aM H H'):∀{B:List aE} {ps:List (aB×List Int)},kh H B ps->kh H' B ps
 |[],[],_=>trivial
 |[],_::_,h=>h
 |_::_,[],h=>h
 |_::_,_::_,⟨⟨t,e,g⟩,r⟩=>⟨⟨t,e,S _ _ g⟩,kh.same S r⟩
theorem kh.snoc(g:H t=some (.tup [.int p.2.length,.ref p.1])):∀{B:List aE} {ps:List (aB×List Int)},kh H B ps->kh H (B++[.ref t]) (ps++[p])
 |[],[],_=>⟨⟨t,O,g⟩,trivial⟩
 |[],_::_,h=>h.elim
 |_::_,[],h=>h.elim
 |_::_,_::_,⟨x,r⟩=>⟨x,kh.snoc g r⟩
theorem kh.length:∀{B:List aE} {ps:List (aB×List Int)},kh H B ps->B.length=ps.length
 |[],[],_=>rfl
 |[],_::_,h=>h.elim
 |_::_,[],h=>h.elim
 |_::_,_::_,⟨_,r⟩=>by rw[hJ,hJ,kh.length r]
theorem kh.get:∀{B:List aE} {ps:List (aB×List Int)} (i:Nat),kh H B ps->i<ps.length->∃t p,B.getD i iZ=.ref t/\ps[i]?=some p/\H t=some (.tup [.int p.2.length,.ref p.1])
 |[],[],_,_,h=>by simp at h
 |[],_::_,_,h,_=>h.elim
 |_::_,[],_,h,_=>h.elim
 |_::_,p::_,0,⟨⟨t,e,g⟩,_⟩,_=>⟨t,p,by simpa using e,O,g⟩
 |_::B,_::ps,i+1,⟨_,r⟩,h=>by
  obtain⟨t,p,a,b,c⟩:=kh.get (B:=B) (ps:=ps) i r (by simpa using h);exact⟨t,p,by simpa using a,by simpa using b,c⟩
section
variable{X:aZ}{U:List (aB×aY)}{Y:List (Option V)}{A:bX}{f kS:aB}{w:aD->Prop}
theorem rL:∀v,({cls:=cl,data:=.seq xs n}:aY).data≠.cell v:=λv h=>by cases h
theorem Be(I:Inv X U Y H s):∀{B:List aE} {ps:List (aB×List Int)},kh H B ps->∃fs:List aE,KatTups s.heap B fs/\fs.length=ps.length/\∀v∈fs,∃i t,v=.int i t
 |[],[],_=>⟨[],.nil,O,λ_ m=>nomatch m⟩
 |[],_::_,h=>h.elim
 |_::_,[],h=>h.elim
 |_::B,p::ps,⟨⟨t,e,g⟩,r⟩=>by
  subst e;obtain⟨fs,a,b,c⟩:=Be I r;obtain⟨n,d,⟨o,f,j,q,k⟩,_⟩:=I.tuple (bY.of g);cases d with
  |cons l u=>
  obtain⟨w,rfl⟩:=l;refine⟨_::fs,.cons f j k O a,by rw[hJ,hJ,b],λv m=>?_⟩;rcases eM.mp m with rfl|m
  .exact⟨_,_,O⟩
  .exact c v m
theorem Bf(y:∀H H',aM H H'->w H->w H')(z:vx X Y A f w)(N:n<=1000)
 (D:∀(x:aE)(B:List aE)(s:aK)(C:aE->aK->Prop),aU (aX X.prog X.w) A (call (.ref f) [x]) (λk L=>aU (aX X.prog X.w) A (Builtin.List.listUpdate (.ref kS) (·.push k)) (λ_ Q=>C k Q) (λ_ _=>False) L) (λ_ _=>False) s ->
   aU (aX X.prog X.w) A (body x ⟨⟩) (λr L=>r=.yield ⟨⟩/\∃k,C k L) E s) :
  ∀(r done:List (aB×List Int))(B:List aE)(e:Nat)(H:aD)(s:aK),Inv X ((kS,seqObj "list" B.toArray e)::U) Y H s->lq X H kS->(∀p∈U,p.1≠kS)->w H->k8 H r->kh H B done->done.length+r.length=n ->
   aU (aX X.prog X.w) A (forIn (r.map λp=>cZ p.1) PUnit.unit body) (λ_ L=>∃(G:List aE)(b:Nat)(H':aD),Inv X ((kS,seqObj "list" G.toArray b)::U) Y H' L/\aM H H'/\kh H' G (done++r)) E s
 |[],done,B,e,H,s,I,a,i,j,it,h,J=>by
  rw[lF,List.forIn_nil];exact bH ⟨B,e,H,I,aM.refl _,by rw[kG];exact h⟩
 |p::r,done,B,e,H,s,I,a,i,j,it,h,J=>by
  rw[dW,uD];have a8:=h.length;rw[hJ]at J;refine aO (fL (D (.ref p.1) B s (λk L=>∃(t:aB)(b:Nat)(H':aD),k=.ref t/\Inv X ((kS,seqObj "list" (B++[k]).toArray b)::U) Y H' L/\aM H H'/\H' t=some (.tup [.int p.2.length,.ref p.1])) ?_) (λq L T=>?_) λ_ _ x=>x)
  .refine fL (z _ s H p.1 p.2 I j (it p eJ)) (λu L a0=>?_) λ_ _ x=>x;obtain⟨t,H',c,rfl,S,g⟩:=a0;have l:=c.pinAt;refine uR l.1 O ?_ (by rw[eO,kP];omega) (fF (sx (xB ..)) (by rw[eO,kP];omega));have ea:(pL B).push (.ref t)=pL (B++[.ref t]):=by simp
   obtain⟨o,a1⟩:∃o,(L.heap.update kS (ja (·.push (.ref t)))).get? kS=some (seqObj "list" (pL (B++[.ref t])) o):=⟨_,by rw[←ea];exact uN l.1 (·.push (.ref t))⟩
   refine⟨t,o,H',O,?_,S,g⟩;exact Inv.turn (t':=L.toks) c ⟨l.2,a.loc,a.nfs,a.ab,a.ncl,a.npn⟩ i (λd u a2 q=>by rw[kE _ _ (Ne.symm a2)];exact q) a1 rL
  .obtain⟨rfl,k,t,b,H',rfl,c,S,g⟩:=T;show aU (aX X.prog X.w) A (forIn (r.map λp=>cZ p.1) PUnit.unit body) _ E L;refine fL (Bf y z N D r (done++[p]) (B++[.ref t]) b H' L c ⟨c.pinAt.2,a.loc,a.nfs,a.ab,a.ncl,a.npn⟩ i (y _ _ S j) (k8.same S λq m=>it q (eY _ m)) ((h.same S).snoc g) (by rw[eW,li];omega)) (λ_ a9 a3=>?_) λ_ _ x=>x;obtain⟨a4,a5,H2,a6,a7,M⟩:=a3;refine⟨a4,a5,H2,a6,S.trans a7,?_⟩;rw[nc]at M;exact M
end
section
variable{prog:bT}{w:bN}{A:bX}{E:aE->aK->Prop}{s:aK}
variable{f:SortKind}{it:Array Keyed}{n:Nat}{lt:Nat->Nat->Bool}
structure Ad where
 p:Array Nat
 pend:Array (Nat×Nat×Nat)
 mg:Nat
noncomputable def Ad.st(f:SortKind)(it:Array Keyed)(a:Ad):SortSt:=SortSt.mk' f (a.p.map (kas_item it)) a.pend a.mg aG
def Rs(prog:bT)(w:bN)(A:bX)(s:aK)(f:SortKind)(it:Array Keyed)(n:Nat)(lt:Nat->Nat->Bool):Prop:=∀i j (C:Bool->aK->Prop),i<n->j<n->C (lt i j) s->kas_cmp prog w A f it i j C s
noncomputable def ask(n:Nat)(lt:Nat->Nat->Bool)(p:Array Nat)(i j:Nat):Option Bool:=match p[i]?,p[j]? with
 |some x,some y=>if x<n/\y<n then some (lt x y) else aG
 |_,_=>aG
noncomputable def Sr(a:Nat->Nat->Option Bool)(lo:Nat):Nat->Nat->Option Nat
 |0,m=>some m
 |f+1,m=>match a (lo+m) (lo+m-1) with
  |none=>aG
  |some aC=>some m
  |some aJ=>Sr a lo f (m+1)
def SS(p:Array Nat)(b c:Nat):Array Nat:=(fH (b-c)).foldl (λa k=>a.swapIfInBounds (b-k) (b-k-1)) p
noncomputable def zp(a:Nat->Nat->Option Bool)(lo k:Nat):Nat->Nat->Nat->Option Nat
 |0,l,_=>some l
 |f+1,l,r=>if l>=r then some l else match a (lo+k) (lo+(l+r)/2) with
  |none=>aG
  |some aC=>zp a lo k f l ((l+r)/2)
  |some aJ=>zp a lo k f ((l+r)/2+1) r
noncomputable def Sl(n:Nat)(lt:Nat->Nat->Bool)(lo:Nat):List Nat->Array Nat->Option (Array Nat)
 |[],p=>some p
 |k::B,p=>match zp (ask n lt p) lo k k 0 k with
  |none=>aG
  |some l=>Sl n lt lo B (SS p (lo+k) (lo+l))
noncomputable def QS{a:Type}(g:a->Option (Bool×a)):Nat->a->Option a
 |0,c=>some c
 |f+1,c=>match g c with
  |none=>aG
  |some (aC,c')=>some c'
  |some (aJ,c')=>QS g f c'
structure UK where
 res:Option (Array Nat)
 out:Array Nat
 ia:Nat
 ib:Nat
 ac:Nat
 bc:Nat
 deriving DecidableEq
end
def za(a:List (List Int))(i j:Nat):Bool:=oh (a.getD i []) (a.getD j [])
def n1(a:List (List Int))(b:Array Nat):Prop:=∀(prog:bT)(w:bN)(A:bX)(E:aE->aK->Prop)(s:aK)(f:SortKind)(B vs:List aE),B.length=a.length->vs.length=a.length ->
 Rs prog w A s f (B.toArray.zip vs.toArray) a.length (za a)->aU (aX prog w) A (sortRuns'.run (SortSt.mk' f (B.toArray.zip vs.toArray) #[] 7 aG)) (λr L=>L=s/\arrOf r.2=b.map (kas_item (B.toArray.zip vs.toArray))/\failedOf r.2=aG) E s
theorem ts(h:q7 a=some b)(h2:2<=a.length)(k:a.length<64):n1 a b:=by
 intro prog w A E s f B vs g d l;refine kat_run (Q:=λe L=>L=s/\arrOf e=b.map (kas_item (B.toArray.zip vs.toArray))/\failedOf e=aG) (G:=λp L=>p=b/\L=s) (by rw[g,d]) (by rw[d];exact h2) (by rw[d];exact k) (λp e L a1 a2 a3 a4=>⟨a4.2,by rw[←a4.1];exact a2,a3⟩) ?_;rw[d,kat_ask_eq (g.trans d.symm)];exact BH (n:=a.length) (lt:=za a) (λi j C hi m c=>l i j C hi m c) _ b (λp L=>p=b/\L=s) h ⟨O,O⟩
theorem qh{q n:Type}(f:q->n)(d:n):∀(l:List q)(i:Nat),(l.map f).getD i d=match l[i]? with|some a=>f a|none=>d
 |[],i=>by simp
 |a::l,0=>rfl
 |a::l,i+1=>by simpa using qh f d l i
section
variable{X:aZ}{U:List (aB×aY)}{Y:List (Option V)}{A:bX}{f:aB}{w:aD->Prop}
theorem NG:Looks M h (typeOf (.int i t)) (.type "int"):=Looks.of_pure O
theorem LX{a:List Nat}{ps:List (aB×List Int)}(h:∀i∈a,i<ps.length):cB (a.map λi=>(ps.map λp=>V.ref p.1).getD i .non) (a.map λi=>(ps.map λp=>cZ p.1).getD i iZ):=by
 induction a with
 |nil=>exact .nil
 |cons i a b=>
  refine .cons ?_ (b λj m=>h j (eY _ m));have hi:=h i eJ;show cK ((ps.map λp=>V.ref p.1).getD i .non) ((ps.map λp=>cZ p.1).getD i iZ);rw[qh,qh,cY hi];rfl
theorem Me{D kS:aB}{e h:Nat}{ps:List (aB×List Int)}{B:List aE}{H:aD}{s:aK}{a:Array Nat}{Q:aP}{E:aE->aK->Prop}(a6:A.units+8<cLine)
 (I:Inv X ((kS,seqObj "list" B.toArray e)::(D,seqObj "list" #[] h)::U) Y H s)(l:lq X H D)(a7:lq X H kS)(J:D≠kS)(M:∀p∈U,p.1≠D)(a8:∀p∈U,p.1≠kS)
 (it:k8 H ps)(n:kh H B ps)(h2:2<=ps.length)(ax:ps.length<=1000)(a9:n1 (ps.map (·.2)) a)(aa:∀i∈a.toList,i<ps.length)(N:a.size=ps.length)
 (q:∀H',aM H H'->H D=aG->H' D=some (.lst (a.toList.map λi=>(ps.map λp=>V.ref p.1).getD i .non))->Q (.ref D) H') :
  aU (aX X.prog X.w) A (ksk_end D aJ (ps.map λp=>cZ p.1).toArray h (.ref kS) B.toArray) (λac L=>ac=.done (.ret .none)/\gG X U Y Q (.ref D) L) E s:=by
 have w:=n.length;have a0:¬(ps.map λp=>cZ p.1).toArray.size<2:=by rw[eO,aS];omega
 unfold ksk_end;dsimp only;rw[if_neg fX,if_neg fX,if_neg a0,if_neg a0];obtain⟨fs,ae,lf,af⟩:=Be I n;refine aO (kat_kind (T:=.type "int") ae VF (λv m=>by obtain⟨i,t,rfl⟩:=af v m;exact NG) VD ?_);have ag:(mJ "int" != mJ "tuple")=aC:=VD;rw[ag];refine aO (fL (a9 X.prog X.w A E s _ B (ps.map λp=>cZ p.1) (by rw[aS];exact w) (by rw[aS,aS]) λi j C hi a1 c=>?_) (λr L ah=>?_) λ_ _ x=>x)
 .rw[aS]at hi a1;obtain⟨t,p,k1,a2,ai⟩:=n.get i hi;obtain⟨u,aj,k2,a3,ak⟩:=n.get j a1;rw[←kat_ask_eq (by rw[aS];exact w)];unfold kas_ask;rw[k1,k2];refine Qc I a6 ai ak (it p (dN a2)) (it aj (dN a3)) ?_;unfold za at c;rw[qh,qh,a2,a3]at c;exact c
 .obtain⟨⟨⟩,st⟩:=r;obtain⟨al,am,an⟩:=ah;rw[al];dsimp only;have ao:=kat_snds (ks:=B) (vs:=ps.map λp=>cZ p.1) (by rw[aS];exact w) am;unfold ksk_tail;dsimp only;rw[ao];have a4:=I.pinAt;have ap:=I.pinDrop.pinAt;refine aO (uR a4.1 O ?_ (by rw[eO,kP];omega) (jo _));refine aO (wpAny_letGo ?_);have y:(s.heap.update kS (ja λ_=>(#[]:Array aE))).get? D=some (seqObj "list" #[] h):=by rw[kE _ _ (Ne.symm J)];exact ap.1
  refine aO (seqEpoch_at y O ?_);have aq:(pL (a.toList.map λi=>(ps.map λp=>cZ p.1).getD i iZ)).size=ps.length:=by rw[eO,aS,mD,N]
  refine aO (uR y O ?_ (jo _) (by rw[if_neg fX,aq,kP];omega));rw[an];simp only[bne_self_eq_false,xp,if_false];refine bH ⟨O,?_⟩;have ay:=I.pinDrop.pinDrop;have az:=Inv.pins_of (pins':=(D,seqObj "list" #[] h)::U) I λp k=>I.pin p (jx _ (eY _ k));have ar:Inv X ((D,seqObj "list" #[] h)::U) Y H {s with heap:=s.heap.update kS (ja λ_=>(#[]:Array aE)),toks:=s.toks}:=by
   obtain⟨as,au⟩:∃f,(s.heap.update kS (ja λ_=>(#[]:Array aE))).get? kS=some (seqObj "list" #[] f):=⟨_,uN a4.1 λ_=>#[]⟩
   refine(Inv.turn (t':=s.toks) (G:=seqObj "list" #[] as) I a7 (λp k=>?_) (λd u z g=>by rw[kE _ _ (Ne.symm z)];exact g) au rL).pinDrop;rcases eM.mp k with rfl|k
   .exact J
   .exact a8 p k
  obtain⟨f,a5⟩:∃f,((s.heap.update kS (ja λ_=>(#[]:Array aE))).update D (ja λ_=>pL (a.toList.map λi=>(ps.map λp=>cZ p.1).getD i iZ))).get? D=some (seqObj "list" (pL (a.toList.map λi=>(ps.map λp=>cZ p.1).getD i iZ)) f):=⟨_,uN y λ_=>_⟩
  have av:=Inv.turn (t':=s.toks) (G:=seqObj "list" (pL (a.toList.map λi=>(ps.map λp=>cZ p.1).getD i iZ)) f) ar l M (λd u z g=>by rw[kE _ _ (Ne.symm z)];exact g) a5 rL;have aw:=Inv.track (u:=.lst (a.toList.map λi=>(ps.map λp=>V.ref p.1).getD i .non)) av l M ⟨by rw[aS,mD,N,kP];omega,_,f,LX aa,a5⟩;exact⟨.ref D,_,aw,O,q _ (λb o e=>by rw[bD (dC e l.nt)];exact e) l.nt aV⟩
theorem Mf{D kS:aB}{g:Nat}{ps:List (aB×List Int)}{H:aD}{s:aK}{c:Array Nat}{Q:aP}{E:aE->aK->Prop}(r:A.units+8<cLine)(t:∀H H',aM H H'->w H->w H')(h:vx X Y A f w)
 (I:Inv X ((kS,seqObj "list" #[] 0)::(D,seqObj "list" #[] g)::U) Y H s)(a:lq X H D)(b:lq X H kS)(l:D≠kS)(u:∀p∈U,p.1≠D)(m:∀p∈U,p.1≠kS)
 (y:w H)(it:k8 H ps)(h2:2<=ps.length)(n:ps.length<=1000)(G:n1 (ps.map (·.2)) c)(J:∀i∈c.toList,i<ps.length)(M:c.size=ps.length)
 (q:∀H',aM H H'->H D=aG->H' D=some (.lst (c.toList.map λi=>(ps.map λp=>V.ref p.1).getD i .non))->Q (.ref D) H') :
  aU (aX X.prog X.w) A (ksk_rest D (.ref f) aJ (ps.map λp=>cZ p.1).toArray g (.ref kS)) (λN L=>N=.done (.ret .none)/\gG X U Y Q (.ref D) L) E s:=by
 unfold ksk_rest
 refine aO (qT ?_)
 first
  |rw[List.forIn_toArray]
  |(rw[←Array.forIn_toList];simp only[List.toList_toArray])
  |rw[←Array.forIn_toList]
 refine aO (fL (Bf (kS:=kS) (U:=(D,seqObj "list" #[] g)::U) t h n (λx B L C T=>?_) ps [] [] 0 H s I b (λp j=>?_) y it trivial (by simp)) (λ_ L a0=>?_) λ_ _ x=>x)
 .refine aO (pI (fL T (λk a6 h=>?_) λ_ _ a1=>a1.elim))
  try dsimp only
  exact aO (fL h (λ_ a7 a2=>bH ⟨O,k,a2⟩) λ_ _ z=>z.elim)
 .rcases eM.mp j with rfl|j
  .exact l
  .exact m p j
 .obtain⟨B,e,H',d,S,o⟩:=a0
  rw[uB]at o
  try dsimp only
  refine aO (listItems_at d.pinAt.1 O ?_)
  have a3:=d.pinDrop.pinAt
  exact Me r d ⟨a3.2,a.loc,a.nfs,a.ab,a.ncl,a.npn⟩ ⟨d.pinAt.2,b.loc,b.nfs,b.ab,b.ncl,b.npn⟩ l u m (it.same S) o h2 n G J M λH2 a4 a8 a5=>q H2 (S.trans a4) a.nt a5
theorem Ch(I:Inv X U Y H s)(h:s.heap.objs.size<=b):∀p∈U,p.1≠b:=λp a c=>by
 have d:=(I.pin p (jx _ a)).1;exact absurd (dQ d) (by rw[c];exact Nat.not_lt.mpr h)
theorem KD(aj:A.units+16<cLine)(a1:∀H H',aM H H'->w H->w H')(a2:vx X Y A.in1.in1 f w)
 (I:Inv X U Y H s)(sq:aT X.K H l (ps.map λp=>V.ref p.1))(r:w H)(it:k8 H ps)(h2:2<=ps.length)(t:ps.length<=1000)(y:n1 (ps.map (·.2)) g)(z:∀i∈g.toList,i<ps.length)(B:g.size=ps.length)
 (q:∀(D:aB)(H':aD),aM H H'->H D=aG->H' D=some (.lst (g.toList.map λi=>(ps.map λp=>V.ref p.1).getD i .non))->Q (.ref D) H') :
  aU (aX X.prog X.w) A (call (.builtin "sorted") [.ref l] [("key",.ref f)]) (gG X U Y Q) E s:=by
 obtain⟨C,G,pl,a3⟩:=I.list sq;have a4:C=ps.map λp=>cZ p.1:=by
  clear sq a3 pl y z B it r q h2 t
  induction ps generalizing C with
  |nil=>cases G;rfl
  |cons p ps a5=>
   cases G with
   |cons a b=>
    cases a;rw[dW,←a5 _ b]
 subst a4;have h:(ps.map λp=>cZ p.1).length=ps.length:=aS ..;refine call_function_entry_kw kind_sorted plain_sorted entry_sorted (ksk_s1 _ _) ?_;unfold Builtin.«sorted»;refine aO (m:=checkCount "sorted" 1 1 _) (bH ?_);refine aO (collect_list pl.isList ?_ (by rw[h,kP];omega));refine aO (wpAny_newList ?_ (by rw[h,kP];omega));generalize a6:(ps.map λp=>cZ p.1)=vs at *;have hsz:((s.heap.push (seqObj "list" #[] 0)).update s.heap.objs.size (ja (·++vs.toArray))).objs.size=s.heap.objs.size+1:=by
  rw[xz,size_push']
 have c:(((s.heap.push (seqObj "list" #[] 0)).update s.heap.objs.size (ja (·++vs.toArray))).push (seqObj "list" vs.toArray 0)).get? (s.heap.objs.size+1)=some (seqObj "list" vs.toArray 0):=by
  rw[←hsz];exact gF _ O
 have a7:∀b o,s.heap.get? b=some o->(((s.heap.push (seqObj "list" #[] 0)).update s.heap.objs.size (ja (·++vs.toArray))).push (seqObj "list" vs.toArray 0)).get? b=some o:=λb o q=>by
  have j:b<s.heap.objs.size:=dQ q;rw[bE.get?_push_ne _ _ _ (by rw[hsz];exact eF (uv j)),bE.get?_update_ne _ _ _ _ (eF j),bE.get?_push_ne _ _ _ (eF j)];exact q
 show aU _ _ _ _ _ {s with heap:=((s.heap.push (seqObj "list" #[] 0)).update s.heap.objs.size (ja (·++vs.toArray))).push (seqObj "list" vs.toArray 0)};rw[hsz];have k:lq X H (s.heap.objs.size+1):=lq.new I (nq _);have J:=Ch I (nq s.heap.objs.size);have a8:Inv X U Y H {s with heap:=((s.heap.push (seqObj "list" #[] 0)).update s.heap.objs.size (ja (·++vs.toArray))).push (seqObj "list" vs.toArray 0),toks:=s.toks}:=I.kept a7;have M:(((s.heap.push (seqObj "list" #[] 0)).update s.heap.objs.size (ja (·++vs.toArray))).push (seqObj "list" vs.toArray 0)).objs.size=s.heap.objs.size+2:=by rw[size_push',hsz]
 generalize ak:((s.heap.push (seqObj "list" #[] 0)).update s.heap.objs.size (ja (·++vs.toArray))).push (seqObj "list" vs.toArray 0)=h1 at *;refine aO (jn (wpAny_call_entry_kw slot_list_sort ⟨_,c,O⟩ entry_list_sort ?_ (ksk_l1 _ _)));show aU (aX X.prog X.w) A.in1.in1 (Builtin.«list.sort» ⟨[.ref (s.heap.objs.size+1)],[(pM "key",.ref f)]⟩) _ _ _;rw[ksk_t1];unfold ksk_tree;have a9:=Inv.pinAdd a8 c k rL;refine aO (listItems_at c O ?_);refine aO (uR c O ?_ (by rw[eO,h,kP];omega) (jo _));obtain⟨n,N⟩:∃n,(h1.update (s.heap.objs.size+1) (ja λ_=>(#[]:Array aE))).get? (s.heap.objs.size+1)=some (seqObj "list" #[] n):=⟨_,uN c λ_=>#[]⟩
 have aa:=Inv.turn (t':=s.toks) a9 k J (λd u ac q=>by rw[kE _ _ (Ne.symm ac)];exact q) N rL;refine aO (seqEpoch_at N O ?_);refine aO (wpAny_newTuple ?_ (by show vs.length<=_;rw[h,kP];omega));refine aO (wpAny_newList ?_ (jo _));refine jn ?_;have ae:((h1.update (s.heap.objs.size+1) (ja λ_=>(#[]:Array aE))).push (seqObj "tuple" vs.toArray 0)).objs.size=s.heap.objs.size+3:=by rw[size_push',xz,M]
 have af:∀b o,(h1.update (s.heap.objs.size+1) (ja λ_=>(#[]:Array aE))).get? b=some o->(((h1.update (s.heap.objs.size+1) (ja λ_=>(#[]:Array aE))).push (seqObj "tuple" vs.toArray 0)).push (seqObj "list" #[] 0)).get? b=some o:=λb o e=>dM _ (dM _ e);have ag:Inv X ((s.heap.objs.size+1,seqObj "list" #[] n)::U) Y H {s with heap:=((h1.update (s.heap.objs.size+1) (ja λ_=>(#[]:Array aE))).push (seqObj "tuple" vs.toArray 0)).push (seqObj "list" #[] 0),toks:=s.toks}:=aa.kept af;have ah:(((h1.update (s.heap.objs.size+1) (ja λ_=>(#[]:Array aE))).push (seqObj "tuple" vs.toArray 0)).push (seqObj "list" #[] 0)).get? (s.heap.objs.size+3)=some (seqObj "list" #[] 0):=by
  rw[←ae];exact gF _ O
 have T:lq X H (s.heap.objs.size+3):=lq.new I VF;have a0:=Inv.pinAdd ag ah T rL;rw[show((h1.update (s.heap.objs.size+1) (ja λ_=>(#[]:Array aE))).push {cls:=.type "tuple",data:=.seq vs.toArray.toList.toArray}).objs.size=s.heap.objs.size+3 from by rw[size_push',xz,M]];rw[←a6]at a0 ⊢;refine fL (Mf (D:=s.heap.objs.size+1) (kS:=s.heap.objs.size+3) (by show A.units+1+1+8<cLine;omega) a1 a2 a0 k T (eF (Nat.add_lt_add_left VD _)) J (Ch I (uw _ 3)) r it h2 t y z B (q _)) (λal L ai=>?_) λ_ _ x=>x;obtain⟨rfl,ep⟩:=ai;exact⟨_,O,bH ⟨_,O,ep⟩⟩
end
end L2
namespace L2
open PySem PySem.Spec PyProof.Rows
def vh(b:Nat)(u:lP):Prop:=∀vs Y H Q,u vs Y H Q->u vs Y H λa H2=>Q a H2/\a.length=Y.length/\∀i,b<=i->a[i]?=Y[i]?
theorem LI:vh a E0:=λvs Y H Q ⟨e,q⟩=>⟨e,q,O,λ_ _=>O⟩
theorem Jc(h:i<b)(f:vh b u):vh b (yZ (oo i) u):=λvs Y H Q ⟨v,r,e,q⟩=>by
 have d:=f r (Y.set i (some v)) H Q q;have g:(λ(a:St)(H2:aD)=>Q a H2/\a.length=(Y.set i (some v)).length/\∀j,b<=j->a[j]?=(Y.set i (some v))[j]?)=(λ(a:St)(H2:aD)=>Q a H2/\a.length=Y.length/\∀j,b<=j->a[j]?=Y[j]?):=by
  funext a H2
  rw[List.length_set];have:(∀j,b<=j->a[j]?=(Y.set i (some v))[j]?)=(∀j,b<=j->a[j]?=Y[j]?):=by
   refine propext ⟨λh1 j c=>?_,λh1 j c=>?_⟩
   .rw[h1 j c,qB VF]
   .rw[h1 j c,qB VF]
  rw[this]
 rw[g]at d;exact⟨v,r,e,d⟩
theorem ML{b n:Nat}{K:bI}{u:lP}(c:vh b u):sZ b (vF K n u):=λx Y H Q ⟨a,xs,e,d,f,q⟩=>⟨a,xs,e,d,f,c xs Y H Q q⟩
theorem OE{X:aZ}{pos:Pos}{es:List bJ}{k:Nat}{t:lP}{n:Nat}{K:bI}(e:X.K=K)(a:X.calm=aC)(h:pV X es t)
 (b:(oI es X.env).length=n:=by rfl)(c:(oI es X.env).findIdx? (·.1)=aG:=by rfl):nv X (.Tuple es k pos) (vF K n t):=by subst e;exact DU a h b c
theorem z9:jE "abs"=some (.builtin "abs"):=VE
theorem qb:jE "sum"=some (.builtin "sum"):=VE
theorem tF(h:IntsAre us ns):us.length=ns.length/\∀(i:Nat)(v:aE),us[i]?=some v->∃t,v=.int (ns.getD i 0) t:=by
 induction h with
 |nil=>exact⟨O,λi v e=>by cases e⟩
 |cons n t r a=>
  refine⟨by rw[hJ,hJ,a.1],λi v e=>?_⟩;cases i with
  |zero=>cases e;exact⟨t,O⟩
  |succ i=>exact a.2 i v e
theorem IU(ns:List Int):∀n,n<=ns.length->preSum (λi=>ns.getD i 0) n=(ns.take n).sum
 |0,_=>by rw[List.take_zero];rfl
 |n+1,h=>by
  have a:=IU ns n VF;have e:ns.take (n+1)=ns.take n++[ns.getD n 0]:=by
   rw[eL,cY VF,jV,cY VF];rfl
  rw[e,List.sum_append,←a];show preSum _ n+ns.getD n 0=_;simp
section
variable{X:aZ}
theorem qj(g:X.calm=aC):iY X (.builtin "sum") (λxs H Q=>∃(p:aB)(ns:List Int),xs=[.ref p]/\aT X.K H p (ns.map V.int)/\Q (.int ns.sum) H):=by
 intro U s Y H xs us Q I r h;obtain⟨p,ns,rfl,j,q⟩:=h;obtain⟨u,rfl,k⟩:=cB.one r;cases k;obtain⟨a,l,pl,t⟩:=I.list j;have m:=tF (Ay l);have c:=pl.isList;have d:p<s.heap.objs.size:=by obtain⟨_,e,_⟩:=c;exact dQ e
 refine call_sum_walkG (qE c ?_);refine⟨s.heap.objs.size,[s.heap.objs.size,p],[s.heap.objs.size],a.toArray.size,_,_,λi=>ns.getD i 0,O,sA (A:=X.A.in1) (I.ok.hd g) _ p (eF d) a.toArray,
  ⟨⟨_,gF _ O,O,O⟩,c.push _⟩,λb f=>?_,λi v n=>m.2 i v (by simpa using n),λh' tk t' o=>?_⟩
 .simp only[eM,mF,or_false]at f;show b<(s.heap.push _).objs.size;rw[show(s.heap.push _).objs.size=s.heap.objs.size+1 from xB ..];rcases f with e|e
  .rw[e];exact sf _
  .rw[e];exact uv d
 .have e:preSum (λi=>ns.getD i 0) a.toArray.size=ns.sum:=by
   rw[IU _ _ (by rw[eO];omega),dY (by rw[eO];omega)]
  rw[e];exact⟨.int _,H,I.kept (LSm.kept_iter o),⟨_,O⟩,q⟩
end
theorem NI(a:s.TypeIs (.ref r) "list_reverseiterator")(h:Q aJ s) :
  aU (aX prog w) A (Builtin.List.listLengthHint (.ref r)) Q E s:=by
 unfold Builtin.List.listLengthHint;refine aO (uK a (r:=aG) (by rfl) ?_);dsimp only;rw[if_neg VD,if_neg VD];refine aO (uK a (r:=some (.builtin "list_reverseiterator.__length_hint__")) (by rfl) ?_);dsimp only;rw[show splitId "list_reverseiterator.__length_hint__"=some ("list_reverseiterator","__length_hint__") from by decide +kernel];dsimp only;refine aO (xH a (b:=aC) (by rfl) ?_);rw[if_neg VD,if_pos VE,if_neg VE];exact bH h
theorem LM(C:A.handled=aG)(d:s.heap.IsRevIter I l ((items.size:Int)-1))(D:s.heap.IsList l items)(E:l≠I)(G:items.size<=dH)
 (S:aB)(g:S≠I)(q:S≠l)(a:aE)(t:Nat)(j:s.heap.get? S=some {cls:=.type "list",data:=.seq #[] t})
 (H:∀(h':bE)(tk:Nat)(c:Array aE)(c':Nat),(∀(b:aB)(o:aY),b≠S->b≠I->s.heap.get? b=some o->h'.get? b=some o)->h'.get? S=some {cls:=.type "list",data:=.seq c c'}->ItemsOf (λi v=>items[items.size-1-i]?=some v) c items.size->R (.ok (.ret a)) {s with heap:=h',toks:=tk}) :
  aU (aX prog w) A.in1 (Builtin.List.listExtendWith (.ref S) (.ref I) a) (λJ L=>match J with|.done f=>R (.ok f) L|.again c'=>c'.quiet=aC/\codeAny (aX prog w) A c' R L) (λe L=>R (.error e) L) s:=by
 have u:s.TypeIs (.ref I) "list_reverseiterator":=d.typeIs;have M:¬S∈[I,l]:=by simp[g,q]
 have W:=Walks.listRev (prog:=prog) (w:=w) (A:=A.in1) C I l E items;have key:∀(h:bE)(k tk:Nat),(∀(b:aB)(o:aY),b≠S->s.heap.get? b=some o->h.get? b=some o)->h.get? S=some {cls:=.type "list",data:=.seq #[] k} ->
   codeAny (aX prog w) A (.builtin "list.extend.loop" {pos:=[.ref S,.ref I,a]}) R {s with heap:=h,toks:=tk}:=λh k tk m N=>by
  refine codeAny_extend_loopS W.toS G S M a items.size 0 {s with heap:=h,toks:=tk} #[] k O (jo _) ?_ N (ItemsOf.nil _) λL c c' hm Q T=>?_
  .refine⟨jo _,?_,?_⟩
   .have:((items.size:Int)-1-((0:Nat):Int))=(items.size:Int)-1:=VF;rw[this];obtain⟨o,n,r⟩:=d;exact⟨o,m _ _ (Ne.symm g) n,r⟩
   .obtain⟨o,n,r⟩:=D;exact⟨o,m _ _ (Ne.symm q) n,r⟩
  .rw[Moved.eq_with hm];refine H L.heap L.toks c c' (λb o h1 h2 e=>hm.heap b o (λp=>?_) (m b o h1 e)) Q T;rcases eM.mp p with U|p
   .exact h1 U
   .exact h2 (fG.mp p)
 unfold Builtin.List.listExtendWith;refine aO (qQ u ?_);have y:Builtin.List.listSameRef (.ref S) (.ref I)=aJ:=by
  show(S==I)=aJ;exact beq_eq_false_iff_ne.mpr g
 rw[y,if_neg VE];refine aO (wpAny_pyIter_revIter d ?_);refine aO (jn (NI u ?_));have y:s={s with heap:=s.heap,toks:=s.toks}:=O;refine wpAny_ite_split (λ_=>?_) (λ_=>?_)
 .refine aO (qT (aO ?_));unfold Builtin.List.listTouch;refine aO (xK j O ?_);have z:=ov (ja λx=>x.push iZ) j O;refine xK z O ?_;have Y:=ov (ja λx=>x.pop) z O;refine bH ⟨nV F.plain_extend_loop _,key _ _ _ (λb o B e=>?_) Y⟩;rw[kE _ _ (Ne.symm B),kE _ _ (Ne.symm B)];exact e
 .exact bH ⟨nV F.plain_extend_loop _,key s.heap t s.toks (λb o _ e=>e) j⟩
theorem NH(k:A.handled=aG)(m:s.heap.IsRevIter I l ((items.size:Int)-1))(n:s.heap.IsList l items)(p:l≠I)(q:items.size<=dH)
 (S:aB)(h:S≠I)(j:S≠l)(c:s.heap.get? S=some {cls:=.type "list",data:=.seq #[]})
 (t:∀(h':bE)(tk:Nat)(a:Array aE)(c':Nat),(∀(b:aB)(o:aY),b≠S->b≠I->s.heap.get? b=some o->h'.get? b=some o)->h'.get? S=some {cls:=.type "list",data:=.seq a c'}->ItemsOf (λi v=>items[items.size-1-i]?=some v) a items.size->R (.ok (.ret .none)) {s with heap:=h',toks:=tk}) :
  aU (aX prog w) A.in1 (Builtin.«list.__init__» {pos:=[.ref S,.ref I]}) (λu L=>match u with|.done f=>R (.ok f) L|.again c'=>c'.quiet=aC/\codeAny (aX prog w) A c' R L) (λe L=>R (.error e) L) s:=by
 refine aO (aO (xN c O (bH ?_)));refine aO (xK c O ?_);have y:=ov (ja λx=>#[]) c O;have d:∀(b:aB)(o:aY),b≠S->s.heap.get? b=some o->(s.heap.update S (ja λx=>#[])).get? b=some o:=λb o z e=>(kE s.heap (ja λx=>#[]) (Ne.symm z)).trans e;refine aO (wpAny_letGo ?_);refine LM k ?_ ?_ p q S h j .none _ y λh' tk a c' B C D=>t h' tk a c' (λb o h1 h2 e=>B b o h1 h2 (d b o h1 e)) C D
 .obtain⟨o,g,r⟩:=m;exact⟨o,d _ _ (Ne.symm h) g,r⟩
 .obtain⟨o,g,r⟩:=n;exact⟨o,d _ _ (Ne.symm j) g,r⟩
theorem KY(h:A.handled=aG)(d:s.heap.IsRevIter I l ((items.size:Int)-1))(f:s.heap.IsList l items)(j:l≠I)(k:items.size<=dH)
 (m:∀(h':bE)(tk:Nat)(a:Array aE)(c':Nat),(∀(b:aB)(o:aY),b≠I->s.heap.get? b=some o->h'.get? b=some o)->h'.get? s.heap.objs.size=some {cls:=.type "list",data:=.seq a c'}->ItemsOf (λi v=>items[items.size-1-i]?=some v) a items.size->Q (.ref s.heap.objs.size) {s with heap:=h',toks:=tk}) :
  aU (aX prog w) A (call (.type "list") [.ref I]) Q E s:=by
 have n:I<s.heap.objs.size:=by obtain⟨_,e,_⟩:=d;exact dQ e
 have p:l<s.heap.objs.size:=by obtain⟨_,e,_⟩:=f;exact dQ e
 refine xO F.called_list (F.typeCall_list_1 (.ref I)) F.entry_list_init (code_list_new (.ref I) (Q₁:=λo g=>o=.ref s.heap.objs.size/\g={s with heap:=s.heap.push {cls:=.type "list",data:=.seq #[]}}) ⟨O,O⟩) λx g h₁=>?_;obtain⟨rfl,rfl⟩:=h₁;have hS:=gF (o:={cls:=mJ "list",data:=Data.seq #[]}) s.heap O;refine⟨⟨_,hS,O⟩,F.args_list_init_2 _ _,?_⟩;refine NH (A:=A.in1) h ?_ ?_ j k s.heap.objs.size (Ne.symm (eF n)) (Ne.symm (eF p)) hS λh' tk a c' q t u=>⟨O,?_⟩
 .obtain⟨o,c,r⟩:=d;exact⟨o,dM _ c,r⟩
 .obtain⟨o,c,r⟩:=f;exact⟨o,dM _ c,r⟩
 .exact m h' tk a c' (λb o h1 e=>q b o (eF (dQ e)) h1 (dM _ e)) t u
theorem JM:jE "reversed"=some (.type "reversed"):=VE
section
variable{X:aZ}{e:bJ}{t:fU}{p1 D:Pos}{a1 E:Pos}
inductive GL(K:bI)(xs:List V)(H:aD)(Q:aP):Prop
 |mk:∀p ys,xs=[.ref p]->aT K H p ys->(∀l,H l=aG->Q (.ref l) (aI H l (.lst ys.reverse)))->GL K xs H Q
theorem Lq(B:X.calm=aC)(C:jH X "list")(G:X.mg "list"=aG)(J:jH X "reversed")(L:X.mg "reversed"=aG)(M:jf X [e] t)
 (N:dA [e] X.env=(aJ,eval e X.env)::dA [] X.env:=by rfl)
 (k:dA [.Call (.Name "reversed" D) [e] [] E] X.env=(aJ,eval (.Call (.Name "reversed" D) [e] [] E) X.env)::dA [] X.env:=by rfl) :
  bL X (.Call (.Name "list" p1) [.Call (.Name "reversed" D) [e] [] E] [] a1) (wl (GL X.K) t):=by
 refine⟨?_⟩;intro U s Y H Q I h;refine pC (pa I C G kW ?_ VD VD);refine rV ?_ k O;rw[k];show aU _ _ (spliced ((aJ,eval _ X.env)::backTo a1 (dA [] X.env))) _ _ s;refine uh ?_;refine pC (pa I J L JM ?_ VD VD);refine rV (cD (M E U s Y H _ I h) λus s1 ⟨vs,z,d,T,a0⟩=>?_) N O;obtain⟨p,ys,rfl,a2,q⟩:=a0;obtain⟨u,rfl,a3⟩:=cB.one T;cases a3;obtain⟨a,f,pl,m⟩:=d.list a2;have g:=pl.isList;have a4:p<s1.heap.objs.size:=by obtain⟨_,e,_⟩:=g;exact dQ e
 refine call_reversed_list g ?_;refine xr ?_;refine KY (l:=p) (items:=a.toArray) (I.ok.hd B) ⟨_,gF _ O,O,O⟩ ?_ (eF a4) (by rw[eO,←f.length];exact m) λh' tk n c a5 a6 hi=>?_
 .obtain⟨o,a7,r⟩:=g;exact⟨o,dM _ a7,r⟩
 have a8:∀(b:aB)(o:aY),s1.heap.get? b=some o->h'.get? b=some o:=λb o e=>a5 b o (eF (dQ e)) (dM _ e);have w:s1.heap.objs.size<=(s1.heap.push (revObj p ((a.toArray.size:Int)-1))).objs.size:=by
  rw[show(s1.heap.push (revObj p ((a.toArray.size:Int)-1))).objs.size=s1.heap.objs.size+1 from xB ..];exact nq _
 refine⟨.ref _,_,d.laid (t':=tk) a8 w (show dR X.prog X.w _ h' _ (.lst ys.reverse) from⟨by rw[ug];exact m,n.toList,c,?_,by simpa using a6⟩),O,q _ (d.hok.fresh w)⟩;have y:=f.length;have a9:n.size=a.length:=by rw[hi.1,eO]
 refine wC (by rw[ug,mD,a9,y]) λj u x aa i=>?_;have ac:=hi.2 j u (by rw[←qA];exact aa);have ae:j<ys.length:=by
  have:=(dI.mp i).1;rw[ug]at this;exact this
 rw[List.getElem?_reverse ae]at i;have af:a[ys.length-1-j]?=some u:=by
  have:a.toArray[a.toArray.size-1-j]?=some u:=ac;rw[eO]at this;rw[y];simpa using this
 obtain⟨ah,A,ag⟩:=f.get i;rw[af]at A;cases A;exact ag
end
theorem Jl:∀{ys:List aA} {us:List aE},cB (ys.map V.str) us->StrsAre us ys
 |[],us,r=>by
  rw[lF]at r;cases r;exact .nil
 |b::bs,us,r=>by
  rw[dW]at r;cases r with
  |cons a c=>
   obtain⟨t,rfl⟩:=a;exact .cons b t (Jl c)
section
variable{X:aZ}
theorem OS:sL X "str.join" (λx vs H Q=>∃a p ys,x=.str a/\vs=[.ref p]/\aT X.K H p (ys.map V.str)/\(ys.map λy=>y.length).sum+ys.length*a.length<=16777216/\Q (.str (Txt.join a ys)) H):=by
 intro U s Y H x xs v us Q I b r h;obtain⟨a,p,ys,rfl,rfl,c,d,q⟩:=h;obtain⟨t,rfl⟩:=b;obtain⟨u,rfl,e⟩:=cB.one r;cases e;obtain⟨g,f,pl,i⟩:=I.list c;exact join_list pl.isList (Jl f) d λt' k=>⟨.str _,H,I.tok k,⟨_,O⟩,q⟩
def TF(K:bI)(t:bG):TT:=λY H Q=>t Y H λx z=>∃p xs,x=.ref p/\aT K z p xs/\Q (!xs.isEmpty) z
theorem yA(h:bL X e t)(d:∀b,isTrue e X.env b=(do let v ←b;standAt e.pos;holding [v] (truthy v)):=by intro _;rfl):kl X e (TF X.K t):=by
 refine⟨?_⟩;intro U s Y H Q I f;refine isTrue_plain (cD (h U s Y H _ I f) λv s1 ⟨x,z,c,g,i⟩=>?_) (d _);obtain⟨p,xs,rfl,j,q⟩:=i;cases g;obtain⟨k,a,pl,l⟩:=c.list j;have m:=a.length;refine wpAny_truthy_list pl.isList ?_ ?_
 .have:(dH:Nat)<2^63:=VD;rw[eO];omega
 .have e:k.toArray.isEmpty=xs.isEmpty:=by
   cases xs with
   |nil=>cases a;rfl
   |cons x r=>cases a;rfl
  rw[e];exact⟨z,c.tok _,q⟩
theorem Cr(f:Nat→Int):∀ k,argBest (fun i j=>decide (f i<f j)) k≤k∧∀ j≤k,f (argBest (fun i j=>decide (f i<f j)) k)≤f j
 | 0=>⟨bQ _,fun j h=>by rw[Nat.le_zero.mp h];exact sy _⟩
 | k+1=>by
  obtain⟨a1,a2⟩:=Cr f k;unfold argBest;by_cases q:f (k+1)<f (argBest (fun i j=>decide (f i<f j)) k)
  ·rw[if_pos (decide_eq_true q)];exact⟨bQ _,fun j m=>by
    by_cases e:j=k+1
    ·rw[e];exact sy _
    ·have:=a2 j VF;omega⟩
  ·rw[if_neg (by rw[decide_eq_true_eq];exact q)];exact⟨VF,fun j m=>by
    by_cases e:j=k+1
    ·rw[e];omega
    ·exact a2 j VF⟩
end
def sI(d:aB)(o:aY)(J:List (aW×V)):jr:=
 ⟨λi H=>H d=some (.frz o (.dK J))/\i<J.length,λi H x H'=>H'=H/\∃a,J[i]?=some a/\x=kV a.1,λi H=>H d=some (.frz o (.dK J))/\J.length<=i⟩
theorem AK{P:bT}{w:bN}{K:bI}{tg:bJ}{d it:aB}{o:aY}{J:List (aW×V)}{vs:List (aW×aE)}{ep:Nat}{A:bE}(g:fJ J vs)(B:A.get? d=some o)(C:A.DictAt (dZ P w) d vs ep) :
  oO P w K tg (sI d o J) [it] it (λi h=>h.IsKeyIter it d i vs.length ep) where
 mem:=by simp
 obj:=λi h st b f=>by
  have e:b=it:=by simpa using f
  subst e;obtain⟨a,e,c,dd⟩:=st;exact⟨a,e,λv D=>by rw[dd]at D;cases D⟩
 keep:=λi h h' st k=>st.at λa e=>k it (by simp) a e
 item:=by
  intro X j l m G i U s Y H E I hf st n;subst j l m;obtain⟨r,hi⟩:=n;obtain⟨t,f1,f2,f3,u,x⟩:=hf it (by simp);have y:s.heap.get? d=some o:=(show dR X.prog X.w H s.heap d (.frz o (.dK J)) from I.hok d _ r).1;have z:=C.at' (h':=s.heap) λa e=>by rw[B]at e;cases e;exact y
  have N:=fJ.length g;obtain⟨⟨k,v⟩,L⟩:∃p,vs[i]?=some p:=⟨_,cY VF⟩
  obtain⟨q,Q,T,a4⟩:=fJ.get g L;refine wpAny_pyNext_dict_item st z L λkey h' a0 M a1=>?_;have a2:Inv X U Y H {s with heap:=h'}:=I.turned (t':=s.toks) (λb a f e=>(a1.2 b f).trans e) t f1 f3 u x;obtain⟨a,e,c,dd⟩:=id M;refine⟨key,O,sW (s:={s with heap:=h'}) e c dd VD ⟨kV q.1,H,a2,?_,⟨O,q,Q,O⟩,M,λb f=>(hf b f).1⟩⟩;rw[show q.1=k from T];exact v5 a0
 done:=by
  intro X j l m G i U s Y H E I hf st n;subst j l m;obtain⟨r,hi⟩:=n;obtain⟨t,f1,f2,f3,u,x⟩:=hf it (by simp);have y:s.heap.get? d=some o:=(show dR X.prog X.w H s.heap d (.frz o (.dK J)) from I.hok d _ r).1;have z:=C.at' (h':=s.heap) λa e=>by rw[B]at e;cases e;exact y
  have N:=fJ.length g;exact wpAny_pyNext_dict_end (I.ok.hd G) st z (xc VF) λh' a3=>⟨O,I.turned (t':=s.toks) (λb a f e=>a3 b a f e) t f1 f3 u x⟩
 self:=λ_ _ _ _ _ st h=>wpAny_pyIter_keyiter st h
section
variable{X:aZ}{tg:bJ}
def Rm(p:bG):TI:=λY H R=>p Y H λx z=>∃d J,x=.ref d/\z d=some (.dK J)/\∀o,R (sI d o J) (aI z d (.frz o (.dK J)))
theorem wO{l:bJ}{tl:bG}(m:bL X l tl):lu X tg l (Rm tl):=by
 refine⟨?_⟩;intro U s Y H R I h;refine cD (m U s Y H _ I h) λv s1 ⟨x,z,g,n,p⟩=>?_;obtain⟨d,J,e,i,q⟩:=p;subst e;cases n;have hok:=g.hok d _ i;obtain⟨r,lo,vs,j,k⟩:=id hok;obtain⟨ep,a⟩:=k.dictAt;obtain⟨o,es,c,_⟩:=id a;refine wpAny_pyIter_dict lo a ?_;have f:Inv X U Y (aI z d (.frz o (.dK J))) s1:=g.write (x:=d) (e:=d) (o:=.frz o (.dK J)) (h':=s1.heap) (t':=s1.toks) (by rw[i];exact trivial) VG (λ_ _ _ q=>q) ⟨o,c⟩ ⟨c,r,lo,vs,j,k⟩;refine⟨s1.heap.objs.size,[s1.heap.objs.size],_,_,aI z d (.frz o (.dK J)),O,f.kept (t':=s1.toks) λb u e=>dM _ e,AK j c a,⟨_,gF _ O,O,O⟩,λb t=>?_,q o⟩;have e:b=s1.heap.objs.size:=by simpa using t
 subst e;exact f.fpOk (bQ _) (f.hok.fresh (bQ _))
theorem z6(w:J.length<=dH)(Pv:Nat->List V->aD->Prop)(n:Pv 0 [] H)
 (r:∀i ys H,i<=J.length->Pv i ys H->H d=some (.frz o (.dK J))/\ys.length<=i)
 (s:∀i a ys H (K:aP) (l:aD->Prop),J[i]?=some a->Pv i ys H->(∀y b,Pv (i+1) (ys++[y]) b->K y b)->(∀c,Pv (i+1) ys c->l c) ->
   g (kV a.1) h H (tr j te K l))
 (t:∀ys H,Pv J.length ys H->k ys H):rd h g j te k (sI d o J) H:=by
 refine⟨λi m ys H=>m=J.length-i/\i<=J.length/\Pv i ys H,⟨J.length,by simp,jo _,n⟩,?_⟩;rintro i m ys H ⟨rfl,hi,p⟩;obtain⟨q,z⟩:=r i ys H hi p;by_cases f:i<J.length
 .refine .inr ⟨⟨q,f⟩,VF,λx H' y=>?_⟩;obtain⟨e,a,u,ex⟩:=y;subst e ex;exact s i a ys _ _ _ u p (λy b q=>⟨J.length-(i+1),VF,O,f,q⟩) λc q=>⟨J.length-(i+1),VF,O,f,q⟩
 .have e:i=J.length:=VF;subst e;exact .inl ⟨⟨q,bQ _⟩,t ys H p⟩
end
section
variable{X:aZ}
theorem xY(Pv:Nat->St->aD->Prop)(b:Pv 0 Y H)(c:∀i Y H,i<=J.length->Pv i Y H->H d=some (.frz o (.dK J)))
 (e:∀i a Y H,J[i]?=some a->Pv i Y H->g (kV a.1) Y H (tb {D with nx:=Pv (i+1),ct:=Pv (i+1),bk:=D.nx}))(f:∀Y H,Pv J.length Y H->D.nx Y H) :
  s5 g tb D Y (sI d o J) H:=by
 refine⟨λi m Y H=>m+i=J.length/\Pv i Y H,⟨J.length,O,b⟩,?_⟩;intro i m Y H h;obtain⟨hm,pv⟩:=h;have at_:=c i Y H VF pv;rcases Nat.lt_or_ge i J.length with lt|ge
 .refine .inr ⟨⟨at_,lt⟩,Pv (i+1),(fun σ' H' j=>⟨J.length-(i+1),VF,VF,j⟩),λx H' y=>?_⟩;obtain⟨k,a,l,ex⟩:=y;subst k ex;exact e i a Y _ l pv
 .have n:i=J.length:=VF;subst n;exact .inl ⟨⟨at_,bQ _⟩,f Y H pv⟩
end
end L2
namespace L2
open PySem PySem.Spec PyProof.Rows PySem.W
section
variable{P:bT}{w:bN}{K:bI}{mg:aA->Option aE}{base:bE}
theorem lN.okC{x j:aA}{st:bS}{f:aB}{fd:iW}{N ps:List aA}{k:Nat}{sp:cA}{c:aB}(F:lN K x j st f fd)(a:fd.code=.ref c)(S:cN N ps (bP st))(len:∀vs H Q E,sp vs H Q E->vs.length=ps.length)
 (b:∀(A:bX)(outer:List eP)(s:aK)(H:aD)(vs:List V)(Q:aP)(E:dL),eQ k (A.deeper (envOfC j (bP st) s.heap.objs.size f (.ref c)))->sp vs H Q E ->
   ∃t,iQ (iH jb P w K mg base N j (bP st) f (.ref c) A outer s H E).nox (jC st) t/\t {nx:=λ_ H'=>Q .non H',rt:=Q} (start N vs) H):iP P w K mg base jb (k+1) f fd ps sp:=by
 obtain⟨l,m,kV,doc,pm,n,d,o,p,rfl,lk,e⟩:=F.ex;obtain rfl:d=.ref c:=a;refine yP lk e S len λA outer s H vs Q E g i=>?_;obtain⟨t,h,q⟩:=b A outer s H vs Q E g i;exact⟨t,h.nox,q⟩
end
section
variable{X:aZ}{T:aB}{j:aA}{params:oK}{body e:bJ}{scope:jI}{p pos lp kp:Pos}{te tb:bG}
def Pt(T:aB)(lp:Pos)(j:aA)(te:bG):bG:=λY H Q=>te Y H λx z=>∃(l:aB)(ps:List (aB×List Int))(a:Array Nat),x=.ref l/\z l=some (.lst (ps.map λp=>V.ref p.1))/\k8 z ps/\2<=ps.length/\ps.length<=1000 /\
 n1 (ps.map (·.2)) a/\(∀i∈a.toList,i<ps.length)/\a.size=ps.length/\fZ T lp j z /\
 ∀(D:aB)(H2:aD),fV T z H2->fZ T lp j H2->H2 D=some (.lst (a.toList.map λi=>(ps.map λp=>V.ref p.1).getD i .non))->Q (.ref D) H2
def yX(tb:bG):Prop:=∀(a:aB)(ns:List Int)(H:aD)(Q:aP),H a=some (.lst (ns.map V.int))->(∀(t:aB)(H':aD),aM H H'->H' t=some (.tup [.int ns.length,.ref a])->Q (.ref t) H')->tb [some (.ref a)] H Q
theorem OW(h:eQ (k+3) X.A)(S:cN [y] [y] scope)(i:∀(pm c l u:aE),pS (kla_fn "<lambda>" j params body scope [] pm c l) ⟨[u],[]⟩=pure [(y,u)])
 (m:∀(f:aB)(c:aE)(A:bX)(outer:List eP)(s:aK)(H:aD),bL (iH jb X.prog X.w X.K X.mg X.base [y] j scope f c A outer s H lM).nox body tb)(n:yX tb) :
  vx X Y X.A.in1.in1 f (λH=>H f=some (mA "<lambda>" j params body scope c' f)/\H c'=some (nL j c')):=by
 intro U s H a ns I ⟨o,p⟩ ea;obtain⟨⟨pm,ctv,q⟩,_⟩:=I.hok f _ o;obtain⟨w,_⟩:=I.hok c' _ p;refine lK (nl (ND (k:=k) (N:=[y]) (ps:=[y]) (us:=[.ref a]) (vs:=[.ref a]) (Q:=λv H'=>∃t,v=.ref t/\aM H H'/\H' t=some (.tup [.int ns.length,.ref a])) h.in1.in1 I.env0.in1.in1 q O w S (.of_eq (i _ _ _ _)) (.cons O .nil) O
  λ_=>⟨tb,m _ _ _ _ _ _,n a ns H _ ea λt H' d g=>⟨t,O,d,g⟩⟩) λr L b=>?_)
 cases r with
 |error e=>exact b.elim
 |ok fl=>
  cases fl with
  |ret u=>
   obtain⟨v,H',x,z,t,rfl,d,g⟩:=I.after b;cases z;exact⟨t,H',x,O,d,g⟩
  |next=>exact gZ b
  |brk=>exact gZ b
  |cont=>exact gZ b
theorem Nu(N:eQ (k+3) X.A)(a4:jH X "sorted")(hm:X.mg "sorted"=aG)(a5:bL X e te)(a6:bL X (.Lambda params body scope lp) (ES T lp j params body scope))(S:cN [y] [y] scope)
 (a7:∀(pm C a8 u:aE),pS (kla_fn "<lambda>" j params body scope [] pm C a8) ⟨[u],[]⟩=pure [(y,u)])
 (a9:∀(f:aB)(C:aE)(A:bX)(outer:List eP)(s:aK)(H:aD),bL (iH jb X.prog X.w X.K X.mg X.base [y] j scope f C A outer s H lM).nox body tb)(aa:yX tb)
 (a1:dA [e] X.env=(aJ,eval e X.env)::dA [] X.env:=by rfl)(ac:(backTo pos (dA [e] X.env)).any (·.1)=aJ:=by rfl) :
  bL X (.Call (.Name "sorted" p) [e] [⟨some "key",.Lambda params body scope lp,kp⟩] pos) (Pt T lp j te):=by
 refine⟨?_⟩;intro U s Y H Q I h;refine pC (pa I a4 hm KA ?_ VD VD);have ae:((backTo pos (dA [e] X.env)).any (·.1)||(lL pos (lI [⟨some "key",.Lambda params body scope lp,kp⟩] X.env)).any (·.1.isNone))=aJ:=by rw[ac];rfl
 refine PySem.W.callWith_of (P:=λ_=>True) ae (λh _=>⟨.machine,.inr VG,rU.of_pure O⟩) (evalArgs_kw2 O ?_ a1);refine cD (show aU _ _ _ _ _ s from fL (aF a5 aL a1 pos U s Y H (λvs z=>∃x,vs=[x]/\∃(l:aB)(ps:List (aB×List Int))(n:Array Nat),x=.ref l/\z l=some (.lst (ps.map λp=>V.ref p.1))/\k8 z ps/\2<=ps.length/\ps.length<=1000 /\
  n1 (ps.map (·.2)) n/\(∀i∈n.toList,i<ps.length)/\n.size=ps.length/\fZ T lp j z /\
  ∀(D:aB)(H2:aD),fV T z H2->fZ T lp j H2->H2 D=some (.lst (n.toList.map λi=>(ps.map λp=>V.ref p.1).getD i .non))->Q (.ref D) H2) I ?_) (λ_ _ t=>t) λ_ _ t=>t) λus s1 ⟨vs,z,af,r,x,E,l,ps,n,ag,G,it,h2,ah,ai,aj,ak,J,q⟩=>?_
 .show te Y H λx z=>∃B,[x]=[B]/\_;have aR:∀(L R2:aP),(∀x z,L x z->R2 x z)->L=L->True:=λ_ _ _ _=>trivial;have al:(λ(x:V)(z:aD)=>∃B,[x]=[B]/\∃(l:aB)(ps:List (aB×List Int))(n:Array Nat),B=.ref l/\z l=some (.lst (ps.map λp=>V.ref p.1))/\k8 z ps/\2<=ps.length/\ps.length<=1000 /\
   n1 (ps.map (·.2)) n/\(∀i∈n.toList,i<ps.length)/\n.size=ps.length/\fZ T lp j z /\
   ∀(D:aB)(H2:aD),fV T z H2->fZ T lp j H2->H2 D=some (.lst (n.toList.map λi=>(ps.map λp=>V.ref p.1).getD i .non))->Q (.ref D) H2) =
   (λ(x:V)(z:aD)=>∃(l:aB)(ps:List (aB×List Int))(n:Array Nat),x=.ref l/\z l=some (.lst (ps.map λp=>V.ref p.1))/\k8 z ps/\2<=ps.length/\ps.length<=1000 /\
   n1 (ps.map (·.2)) n/\(∀i∈n.toList,i<ps.length)/\n.size=ps.length/\fZ T lp j z /\
   ∀(D:aB)(H2:aD),fV T z H2->fZ T lp j H2->H2 D=some (.lst (n.toList.map λi=>(ps.map λp=>V.ref p.1).getD i .non))->Q (.ref D) H2):=by
   funext x z
   refine propext ⟨fun⟨B,a,b⟩=>?_,λb=>⟨x,O,b⟩⟩;cases a;exact b
  rw[al];exact h
 subst E ag;obtain⟨u,rfl,am⟩:=cB.one r;cases am;have an:l≠T:=λt=>by
  obtain⟨ao,g,_⟩:=J;rw[t,g]at G;cases G
 have ap:∀p∈ps,p.1≠T:=λp m t=>by
  obtain⟨ao,g,_⟩:=J;have:=it p m;rw[t,g]at this;cases this
 refine cD (OD (nm:=some "key") (a0:=kp) a6 PF pos U s1 Y z (λvs H2=>∃f c',vs=[.ref f]/\fV T z H2/\fZ T lp j H2/\H2 c'=some (nL j c')/\H2 f=some (mA "<lambda>" j params body scope c' f)) af ⟨J,λf c' H' a b c d=>⟨f,c',O,a,b,c,d⟩⟩) λb0 aq ⟨vs,H2,ar,as,f,c',E,M,au,av,aw⟩=>⟨trivial,?_⟩
 subst E;obtain⟨b1,rfl,ax⟩:=cB.one as;cases ax;show aU _ _ (call (.builtin "sorted") [.ref l] [("key",.ref f)]) _ _ aq;refine KD (w:=λH=>H f=some (mA "<lambda>" j params body scope c' f)/\H c'=some (nL j c')) (by have:=N.un;omega) (λ_ _ a2 a=>⟨a2 _ _ a.1,a2 _ _ a.2⟩) (OW N S a7 a9 aa) ar (aT.of (M _ _ an G)) ⟨aw,av⟩ (λp m=>M _ _ (ap p m) (it p m)) h2 ah ai aj ak λD ay a3 _ az=>?_;exact q D ay (M.trans λb o _ e=>a3 b o e) (au.keep a3) az
end
def u7(K:bI)(T:aB):cA:=λvs H Q _=>∃x,vs=[x]/\∃(a:aB)(ns:List Int),x=.ref a/\aT K H a (ns.map V.int)/\ns.length<=63/\H T=some (.tbl #[])/\∀H',Q (.bl aC) H'
theorem MG{P:bT}{w:bN}{K:bI}{mg a2:aA->Option aE}{k:Nat}{J a c T:aB}{fd:iW}{x y:aA}{i:aK}{vs:List aE}{ns:List Int}{p:bT}{ai:List aA}{aj:ExcName->Option aE}
 (KX:K.In i.heap)(G:Top p ai aj mg a2 i.heap)(ak:i.gens=#[])
 (B:i.heap.get? a=some {cls:=.type "list",data:=.seq vs.toArray})(hi:IntsAre vs ns)(M:ns.length<=63)(al:eQ k callerA)
 (C:i.heap.get? T=some (tabObj #[]))(a3:CodeHd i.heap c T)(am:K.lookup T=aG)(an:tabIn K y=some (c,T))
 (F:∀base:bE,K.In base->base.Ns lH mg->kJ K mg base y c T->iP P w K mg base jb k J fd [x] (u7 K T))(ao:∀(s:aK)(u:aE),BindsTo s fd ⟨[u],[]⟩ [(x,u)]) :
  codeAny (aX P w) callerA (.call (.ref J) ⟨[.ref a],[]⟩) (λr L=>r=.ok (.ret (.bool aC))/\OldK i.heap L.heap/\L.os=i.os/\AllBare L.gens) i:=by
 have a4:=AI hi;have ap:=hi.length;have a5:a≠T:=λg=>by rw[g,C]at B;cases B
 have a6:∀H:aD,(∀b,b≠T->H b=aG\/∃o xs,H b=some (.frz o (.lst xs)))->H T=some (.tbl #[])->aT K H a (ns.map V.int)->eB P w H i.heap->(∀b,b≠T->H b≠aG->b=a)->(H a≠aG->K.lookup a=aG) ->
   codeAny (aX P w) callerA (.call (.ref J) ⟨[.ref a],[]⟩) (λr L=>r=.ok (.ret (.bool aC))/\OldK i.heap L.heap/\L.os=i.os/\AllBare L.gens) i:=by
  intro H aq a7 ar a8 a9 as;have E:∀{b:aB} {o:aY},i.heap.get? b=some o->H b=aG->(nz i.heap H).get? b=some o:=λe n=>NJ e n;have N:∀{b:aB} {o:aY},i.heap.get? b=some o->o≠tabObj #[]->o≠{cls:=.type "list",data:=.seq vs.toArray}->H b=aG:=λ{b o} e au av=>by
   cases q:H b with
   |none=>rfl
   |some u=>
    by_cases g:b=T
    .rw[g,C]at e;exact absurd (gK e).symm au
    .have Q:b=a:=a9 b g (by rw[q];simp);rw[Q,B]at e;exact absurd (gK e).symm av
  have aw:∀{b:aB} {o:aY} {es:Array oJ} {ep:Nat},i.heap.get? b=some o->o.data=.dict es ep->H b=aG:=λ{b o es ep} e d=>
   N e (λg=>by rw[g]at d;cases d) (λg=>by rw[g]at d;cases d)
  have I:∀{b:aB} {m:aA->Option aE},i.heap.Ns b m->(nz i.heap H).Ns b m:=λ{b m} ⟨o,es,ep,e,d,r⟩=>⟨o,es,ep,E e (aw e d),d,r⟩
  have aa:K.In (nz i.heap H):=λb o e=>E (KX b o e) (by
   cases q:H b with
   |none=>rfl
   |some u=>
    by_cases g:b=T
    .rw[g,am]at e;cases e
    .have Q:b=a:=a9 b g (by rw[q];simp);subst Q;rw[as (by rw[q];simp)]at e;cases e)
  have ax:Mod K mg (nz i.heap H):=⟨aa,I G.g,⟨a2,I G.b,G.builtins⟩,let ⟨ay,h1,h2⟩:=G.nolimit;⟨ay,I h1,h2⟩⟩
  have az:mO P w K mg (nz i.heap H) callerA [] i H:=⟨O,ax,λb o e=>OM e,sx (MI _ _),trivial,λb j=>absurd (show b∈([]:List aB) from j) (by simp),a8,.of_eq ak⟩
  have TB:kJ K mg (nz i.heap H) y c T:=by
   refine⟨?_,?_,λf o bf h1 h2 aR=>law_code KX G.g an h1 (KX _ _ h2) aR⟩
   .obtain⟨bm,U,b0,b1,ac,t,b2,b3⟩:=G.bmain;exact⟨bm,U,b0,b1,E ac (N ac (λg=>by rw[g]at t;cases t) (λg=>by rw[g]at t;have t:mJ "list"=mJ "module":=t;injection t with t;exact absurd t VD)),t,b2,b3⟩
   .obtain⟨o,b4,b5,b6,b7,tg,b8,text,b9,D,z,r⟩:=a3;exact⟨o,b4,b5,b6,b7,tg,b8,text,b9,E D (N D (λg=>by rw[g]at z;cases z) (λg=>by rw[g]at z;have z:mJ "list"=mJ "code":=z;injection z with z;exact absurd z VD)),z,r⟩
  refine nl ((F _ aa (I G.g) TB).run callerA [] i H ⟨[.ref a],[]⟩ [.ref a] [.ref a] (λv _=>v=.bl aC) (λ_ _ _=>False) al az (ao i (.ref a)) (.cons O .nil) ⟨_,O,a,ns,O,ar,M,a7,λ_=>O⟩) λr L h=>?_;cases r with
  |error e=>exact gZ h
  |ok fl=>
   cases fl with
   |next=>exact gZ h
   |brk=>exact gZ h
   |cont=>exact gZ h
   |ret u=>
    obtain⟨v,H',os,bare,Y,ae,ba,q⟩:=h;have bb:v=.bl aC:=q;subst bb;obtain rfl:u=sB aC:=ba;have kp:∀b o,b≠T->i.heap.get? b=some o->L.heap.get? b=some o:=λb o l e=>by
     cases q:H b with
     |none=>exact Y.keep b o e q (by intro g;exact absurd (show b∈([]:List aB) from g) (by simp)) (by simp)
     |some u=>
      rcases aq b l with g|⟨U,xs,g⟩
      .rw[q]at g;cases g
      .have bc:=Y.frzs b U _ g;obtain⟨D,_⟩:=a8 b _ g;obtain⟨bd,_⟩:=ae b _ bc;rw[e]at D;cases D;exact bd
    obtain⟨af,be⟩:=Y.tbls T _ a7;have ag:L.heap.get? T=some (tabObj (#[]++af)):=ae T _ be;refine⟨O,⟨λb o e=>?_,λb o e=>?_⟩,os,bare⟩
    .by_cases g:b=T
     .subst g;rw[C]at e;cases e;exact .inr (.inl ⟨(a3.tab C).isCodeTable,O,#[],af,O,ag⟩)
     .exact .inl (kp b o g e)
    .by_cases g:b=T
     .exact⟨_,g▸ag⟩
     .exact⟨o,kp b o g e⟩
 cases a0:K.lookup a with
 |some o=>
  have e:=KX a o a0;rw[B]at e;cases e;refine a6 (λb=>if b=T then some (.tbl #[]) else aG) (λb l=>.inl (if_neg l)) (if_pos O) (.inr ⟨_,vs.toArray,_,a0,O,O,O,by rw[eO,ap];exact fF M VD,by simpa using a4⟩) (λb u g=>?_) (λb l g=>absurd (if_neg l) g) λg=>absurd (if_neg a5) g;by_cases j:b=T
  .have A:=(if_pos j).symm.trans g;cases A;subst j;exact C
  .have A:=(if_neg j).symm.trans g;cases A
 |none=>
  refine a6 (λb=>if b=T then some (.tbl #[]) else if b=a then some (.frz {cls:=.type "list",data:=.seq vs.toArray} (.lst (ns.map V.int))) else aG) (λb l=>?_) (if_pos O) (.inl (.inr ⟨{cls:=.type "list",data:=.seq vs.toArray},by show(if a=T then _ else _)=_;rw[if_neg a5,if_pos O]⟩)) (λb u g=>?_) (λb l g=>?_) λ_=>a0
  .by_cases j:b=a
   .exact .inr ⟨_,_,by show(if b=T then _ else _)=_;rw[if_neg l,if_pos j]⟩
   .exact .inl (by show(if b=T then _ else _)=_;rw[if_neg l,if_neg j])
  .by_cases a1:b=T
   .have A:=(if_pos a1).symm.trans g;cases A;subst a1;exact C
   .have ah:=(if_neg a1).symm.trans g;by_cases j:b=a
    .have A:=(if_pos j).symm.trans ah;cases A;subst j;exact⟨B,by rw[aS];exact fF M VD,vs,_,a4,B⟩
    .have A:=(if_neg j).symm.trans ah;cases A
  .by_cases j:b=a
   .exact j
   .exact absurd (by show(if b=T then _ else _)=_;rw[if_neg l,if_neg j]) g
theorem VB{l:PySem.W.OpenLaw}{q:bT}{i:List aA}{j:(aA->Option aE)->bE->Prop}{e:bN->bE->Prop}{d:DefRec}{K:Params->bI}(k:Nat)(y:aA)(c T:aB)(m:eQ k callerA)(n:l.most=some 63)(p:d.params.defaults=[])
 (r:∀(w:bN)(h:bE),e w h->(K w.params).In h)(t:∀(w:bN)(h:bE),e w h->h.get? T=some (tabObj #[]))(x:∀(w:bN),codeHdIn (K w.params) c T=aC)(z:∀w:bN,(K w.params).lookup T=aG)(A:∀w:bN,tabIn (K w.params) y=some (c,T))
 (F:∀(w:bN)(mg:aA->Option aE)(b:aB)(h:bE),(K w.params).In h->h.Ns lH mg->mg d.name=some (.ref b) ->
   ∃fd:iW,(∀(s:aK)(u:aE),BindsTo s fd ⟨[u],[]⟩ [("_law_script",u)])/\∀base:bE,(K w.params).In base->base.Ns lH mg->kJ (K w.params) mg base y c T->iP l.prog w (K w.params) mg base jb k b fd ["_law_script"] (u7 (K w.params) T)) :
  PySem.W.WalkO q i j e l.row.toRowW d [] (λf vs=>PySem.call f vs):=by
 refine Att.UQ n p λw L M mg N b o pm cd doc a vs ns G g Q U Y B C D E H=>?_;have KX:=r w _ g;obtain⟨fd,I,J⟩:=F w mg b _ KX G.T.g B;exact MG KX G.T H C D E m (t w _ g) (codeHd_of_K KX (x w)) (z w) (A w) J I
theorem dE.fcC{P:bT}{w:bN}{K:bI}{mg:aA->Option aE}{base:bE}{x:aA}{st:bS}{N ps:List aA}{k:Nat}{sp:cA}{c T:aB}(D:dE K mg x st ps)(B:kJ K mg base x c T)(S:cN N ps (bP st))(len:∀vs H Q E,sp vs H Q E->vs.length=ps.length)
 (a:∀(f:aB)(A:bX)(outer:List eP)(s:aK)(H:aD)(vs:List V)(Q:aP)(E:dL),eQ k (A.deeper (envOfC x (bP st) s.heap.objs.size f (.ref c)))->sp vs H Q E ->
   ∃t,iQ (iH jb P w K mg base N x (bP st) f (.ref c) A outer s H E).nox (jC st) t/\t {nx:=λ_ H'=>Q .non H',rt:=Q} (start N vs) H):bA P w K mg base (k+1) x ps sp:=by
 obtain⟨f,fd,F,b,m⟩:=D.ex;have d:fd.code=.ref c:=by
  obtain⟨g,i,kV,doc,pm,j,l,n,o,rfl,lk,p⟩:=F.ex;exact B.cd f _ _ m lk O
 exact⟨f,fd,F.okC d S len λA outer s H vs Q E e h=>a f A outer s H vs Q E e h,b,m,F.kp⟩
theorem Ct:∀{b:List (List Int)} {us:List V},IsL H (b.map λns=>aH.lst (ns.map aH.int)) us->∃ps:List (aB×List Int),us=ps.map (λp=>V.ref p.1)/\k8 H ps/\ps.map (·.2)=b
 |[],us,h=>⟨[],h,(λp (m:p∈([]:List (aB×List Int)))=>absurd m mF),O⟩
 |ns::b,us,h=>by
  obtain⟨v,vs,rfl,⟨a,xs,rfl,c,d⟩,r⟩:=h;obtain⟨ps,rfl,it,e⟩:=Ct r;have ex:xs=ns.map V.int:=by
   clear c e it r
   induction ns generalizing xs with
   |nil=>exact d
   |cons n ns f=>
    obtain⟨v,vs,rfl,e,r⟩:=d;cases(show v=.int n from e);rw[f vs r];rfl
  subst ex;refine⟨(a,ns)::ps,O,λp m=>?_,by rw[dW,e]⟩;rcases eM.mp m with rfl|m
  .exact c
  .exact it p m
theorem wn:∀k,(iG k).length=2^k
 |0=>rfl
 |k+1=>by unfold iG;rw[eW,aS,wn k];omega
theorem vM:∀k,∀ns∈iG k,ns.length<=k
 |0,ns,m=>by rw[fG.mp m];exact bQ _
 |k+1,ns,m=>by
  unfold iG at m;rcases gQ.mp m with m|m
  .exact Nat.le_succ_of_le (vM k ns m)
  .obtain⟨a,b,rfl⟩:=cP.mp m;rw[eW,li];exact Nat.succ_le_succ (vM k a b)
noncomputable def EF:List Nat:=[0,1,2,4,8,16,3,5,9,17,6,10,18,12,20,24,7,11,19,13,21,25,14,22,26,28,15,23,27,29,30,31]
def oP:Nat->List Nat
 |5=>EF
 |n=>sU n
theorem Om:q7 (iG 5)=some EF.toArray:=VE
theorem ya:∀n,1<=n->n<=5->n1 (iG n) (oP n).toArray/\(∀i∈oP n,i<(iG n).length)/\(oP n).length=(iG n).length/\∀i<(iG n).length,i∈oP n
 |0,h,_=>by omega
 |1,_,_=>⟨ts Oq VD VD,VD,O,VD⟩
 |2,_,_=>⟨ts Op VD VD,VD,O,VD⟩
 |3,_,_=>⟨ts Oo VD VD,VD,O,VD⟩
 |4,_,_=>⟨ts On VD VD,VD,O,VD⟩
 |5,_,_=>⟨ts Om VE VE,VE,VE,VE⟩
 |n+6,_,h=>by omega
def nZ(n:Nat):List (List Int):=(oP n).map λi=>(iG n).getD i []
theorem xW(h1:1<=n)(d:n<=5):ns∈nZ n↔ns∈iG n:=by
 obtain⟨_,a,b,c⟩:=ya n h1 d;unfold nZ;rw[cP];constructor
 .rintro⟨i,m,rfl⟩;have hi:=a i m;rw[jV,cY hi];exact qF hi
 .intro m;obtain⟨i,hi,e⟩:=List.getElem_of_mem m;exact⟨i,c i hi,by rw[jV,cY hi];exact e⟩
end L2
namespace Mt73
open PySem L2 Mt22 Mt61
def low(a b:Int):Int×Int:=(a/((Int.gcd a b:Nat):Int),b/((Int.gcd a b:Nat):Int))
theorem yk(c:0<b):0<((Int.gcd a b:Nat):Int):=by
 have:0<Int.gcd a b:=Int.gcd_pos_of_ne_zero_right a VF;omega
theorem PU(h:n<=1000000):n.log2<9000:=by
 rcases Nat.eq_zero_or_pos n with a|a
 .subst a;decide
 .exact(Nat.log2_lt VF).mpr (xq h VE)
open Classical in
noncomputable def ku(G:List cC)(a:List aA):Int:=if h:∃c,lA G a c then h.choose else 0
theorem EM(h:lA G a c):ku G a=c:=by
 have x:∃c,lA G a c:=⟨c,h⟩
 unfold ku;rw[dif_pos x];exact lA.uniq x.choose_spec h
section
variable{q n:Type}[DecidableEq q][DecidableEq n]
noncomputable def Sk(v:List q->Int)(a:q)(o:List q):Nat->Int
 |0=>0
 |k+1=>Sk v a o k+if o[k]?=some a then v (o.take (k+1))-v (o.take k) else 0
noncomputable def EW:Nat->List q->List (List q)
 |0,_=>[[]]
 |m+1,zs=>zs.flatMap λa=>(EW m (zs.filter (λy=>!decide (y=a)))).map (a::·)
end
noncomputable def vu(a:List Nat):Nat:=(if 0∈a then 1 else 0)+(if 1∈a then 2 else 0)+(if 2∈a then 4 else 0)+(if 3∈a then 8 else 0)+(if 4∈a then 16 else 0)+(if 5∈a then 32 else 0)
noncomputable def ev(u:Nat->Int)(L:List (Int×Nat)):Int:=dD L λp=>p.1*u p.2
noncomputable def EO:List Int->Nat->Int->List Int
 |[],_,_=>[]
 |x::r,0,c=>(x+c)::r
 |x::r,k+1,c=>x::EO r k c
noncomputable def Sy(u:Nat->Int):List Int->Nat->Int
 |[],_=>0
 |x::r,j=>x*u j+Sy u r (j+1)
noncomputable def yT(l:List Int):List (Int×Nat)->List Int
 |[]=>l
 |p::L=>yT (EO l p.2 p.1) L
noncomputable def Fb(i:Nat)(o:List Nat):Nat->List (Int×Nat)
 |0=>[]
 |k+1=>Fb i o k++if o[k]?=some i then [(1,vu (o.take (k+1))),(-1,vu (o.take k))] else []
def fac:Nat->Nat
 |0=>1
 |n+1=>fac n*(n+1)
noncomputable def rO(v:List aA->Int)(zs:List aA)(b:aA)(a:List aA):Int:=if b∈a then 0 else((fac a.length*fac (zs.length-a.length-1):Nat):Int)*(v (zs.filter λy=>decide (y=b)||decide (y∈a))-v a)
def m6(n:Nat):List (List Nat):=(nZ n).map (List.map Int.toNat)
theorem yB:∀n,1<=n->n<=5->∀ns∈m6 n,∀i∈ns,i<n:=by
 intro n a b;have:n=1\/n=2\/n=3\/n=4\/n=5:=VF;rcases this with rfl|rfl|rfl|rfl|rfl<;>decide +kernel
theorem Mt:∀n,1<=n->n<=5->(m6 n).Nodup:=by
 intro n a b;have:n=1\/n=2\/n=3\/n=4\/n=5:=VF;rcases this with rfl|rfl|rfl|rfl|rfl<;>decide +kernel
theorem OC:∀n,1<=n->n<=5->∀ns∈m6 n,∀i∈fH n,i∉ns->ns.length<n:=by
 intro n a b;have:n=1\/n=2\/n=3\/n=4\/n=5:=VF;rcases this with rfl|rfl|rfl|rfl|rfl<;>decide +kernel
theorem Cg:∀n,1<=n->n<=5->(m6 n).length<=54:=by
 intro n a b;have:n=1\/n=2\/n=3\/n=4\/n=5:=VF;rcases this with rfl|rfl|rfl|rfl|rfl<;>decide +kernel
theorem zh(p:Nat->Bool):∀k,((fH k).filter p).map Int.ofNat∈iG k
 |0=>fG.mpr O
 |k+1=>by
  rw[uz,lE,dP];unfold iG;cases e:p k with
  |true=>
   refine jx _ (cP.mpr ⟨_,zh p k,?_⟩);rw[nS,if_pos e];rfl
  |false=>
   refine nO _ ?_;rw[nS,if_neg (by rw[e];exact fX)];show _++[]∈_;rw[kG];exact zh p k
theorem Lp(p:Nat->Bool):∀n,1<=n->n<=5->(fH n).filter p∈m6 n:=λn a b=>by
 refine cP.mpr ⟨_,(xW a b).mpr (zh p n),?_⟩;rw[fS]
 conv=>rhs;rw[←uS ((fH n).filter p)]
 exact l4 λi _=>O
theorem MV(zs:List aA):zs=(fH zs.length).map λi=>zs.getD i "":=by
 refine List.ext_getElem (by simp) λi h1 h2=>?_;rw[pD,List.getElem_range,jV,cY h1];rfl
theorem Qv{zs:List aA}(g:zs.Nodup){a b:Nat}(c:a<zs.length)(d:b<zs.length)(e:zs.getD a ""=zs.getD b ""):a=b:=by
 rw[jV,jV,cY c,cY d]at e;have f:=w3.mp g;rcases uu a b with h|h|h
 .exact absurd e (f a b c d h)
 .exact h
 .exact absurd (show zs[b]=zs[a] from(show zs[a]=zs[b] from e).symm) (f b a d c h)
theorem MP{zs:List aA}(q:aA->Bool):zs.filter q=((fH zs.length).filter λi=>q (zs.getD i "")).map λi=>zs.getD i "":=by
 conv=>lhs;rw[MV zs]
 rw[List.filter_map];rfl
end Mt73
namespace Mt61
open PySem L2 Mt22 Mt31
structure jy (zs:List aA) (S:List Mt22.St) (cm:gL):Prop where
 nd:(keys cm).Nodup
 le:zs.length<=cm.length
 first:∀(i:Nat)(z:aA),zs[i]?=some z->cm[i]?=some (z,aG)
 prev:∀(i:Nat)(z:aA)(o:Option Mt22.St),zs.length<=i->cm[i]?=some (z,o)->∃s,o=some s/\s∈S/\s.far=z/\s.near∈keys (cm.take i)
theorem jy.snoc(h:jy zs S c)(g:s∈S)(hn:s.near∈keys c)(hf:s.far∉keys c):jy zs S (c++[(s.far,some s)]) where
 nd:=by
  rw[rG,ut];refine⟨h.nd,by simp[keys],λa ha b j=>?_⟩;have:b=s.far:=by simpa [keys] using j
  rw[this];exact λe=>hf (e▸ha)
 le:=by
  rw[eW];have:=h.le;omega
 first i d e:=by
  have:=(dI.mp e).1;have:=h.le;rw[nN VF];exact h.first i d e
 prev i d o hi e:=by
  by_cases f:i<c.length
  .rw[nN f]at e;obtain⟨t,h1,h2,h3,k⟩:=h.prev i d o hi e;exact⟨t,h1,h2,h3,by rw[List.take_append_of_le_length (qN f)];exact k⟩
  .have l:=(dI.mp e).1;rw[eW]at l;have m:i=c.length:=by
    have:([(s.far,some s)]:gL).length=1:=O;omega
   subst m;rw[qz (bQ _),Nat.sub_self]at e;cases e;refine⟨s,O,g,O,?_⟩;rw[List.take_append_of_le_length (bQ _),dY (bQ _)];exact hn
theorem jy.init(S:List Mt22.St)(nd:zs.Nodup):jy zs S (zs.map λa=>(a,aG)) where
 nd:=by
  have:keys (zs.map λa=>((a,aG):aA×Option Mt22.St))=zs:=by unfold keys;rw[fS];exact uS _
  rw[this];exact nd
 le:=by rw[aS];exact bQ _
 first i a e:=by rw[dO,e];rfl
 prev i a o hi e:=by
  have:=(dI.mp e).1;rw[aS]at this;omega
theorem jy.came(h:jy [Mt22.sea] S a):tX S a:=⟨h.nd,h.first 0 _ O,λi b o hi e=>h.prev i b o (by show 1<=i;omega) e⟩
theorem jy.mem(h:jy zs S b)(m:a∈keys b):a∈zs\/∃s∈S,s.far=a:=by
 unfold keys at m;obtain⟨x,d,rfl⟩:=cP.mp m;obtain⟨i,hi⟩:=lh.mp d;by_cases f:i<zs.length
 .obtain⟨a,c⟩:∃a,zs[i]?=some a:=⟨_,cY f⟩
  have:=h.first i a c;rw[hi]at this;cases this;exact .inl (dN c)
 .obtain⟨s,_,g,e,_⟩:=h.prev i x.1 x.2 VF hi;exact .inr ⟨s,g,e⟩
theorem jy.start(h:jy zs S b)(m:a∈zs):a∈keys b:=by
 obtain⟨i,hi⟩:=lh.mp m;exact cP.mpr ⟨_,dN (h.first i a hi),O⟩
theorem zj(c:mz S a a.length):∀s∈S,s.near∈keys a->s.far∈keys a:=λs d e=>by
 obtain⟨i,hi⟩:=lh.mp e;have b:=(dI.mp hi).1;unfold keys at b;rw[aS]at b;exact c i _ b hi s d O
end Mt61
namespace Mt05
open PySem L2 Ld Mt02
def SV(a:aA):Prop:=¬(115:Nat)∈a.cps.toList
structure UL (zs:List aA) (n:Nat):Prop where
 nm:Jr zs n
 nos:∀z∈zs,SV z
end Mt05
namespace Mt53
open PySem L2 Ld Mt02 Mt04
noncomputable def yN:aH->Int
 |.tup [_,_,_,_,.int r,_]=>r
 |_=>0
def sP(N:List aH)(a:aA):Int:=(N.find? λd=>decide (aN d=a)).elim 0 yN
theorem CU(a:(N.map aN).Nodup)(m:d∈N):sP N (aN d)=yN d:=by
 have:(N.find? λe=>decide (aN e=aN d))=some d:=by
  induction N with
  |nil=>cases m
  |cons e N b=>
   rw[dW,iL]at a;rw[kN];rcases eM.mp m with rfl|m
   .rw[decide_eq_true O]
   .have f:aN e≠aN d:=λc=>a.1 (c▸cP.mpr ⟨d,m,O⟩);rw[decide_eq_false f];exact b a.2 m
 show(N.find? λe=>decide (aN e=aN d)).elim 0 yN=_;rw[this];rfl
def sX(N:List aH)(w:aH):Int:=sP N (aN w)*(y0 w-lU N (aN w))
def ve(N a:List aH):Int:=(a.map (sX N)).sum
end Mt53
namespace Mt46
open PySem L2 Ld Mt21
noncomputable def units:List Int:=[1,3,5,7,9,11,15,17,19,21,23,25]
theorem MZ:∀u∈units,∀d∈fH 26,d≠0->((d:Int)*u)%26≠0:=VE
theorem Qz(e:ab i=ab j):i%26=j%26:=by
 unfold ab at e;have h1:=iM i (show(26:Int)≠0 by decide);have h2:=iM j (show(26:Int)≠0 by decide);omega
theorem CF{u r:Int}(b:u∈units){k l:Nat}(d:l<26)(h:k<l)(e:ab ((k:Int)*u+r)=ab ((l:Int)*u+r)):False:=by
 have a:=(Int.emod_eq_emod_iff_emod_sub_eq_zero).mp (Qz e.symm);have c:(l:Int)*u+r-((k:Int)*u+r)=((l-k:Nat):Int)*u:=by
  rw[Int.ofNat_sub VF,Int.sub_mul];omega
 rw[c]at a;exact MZ u b (l-k) (oB.mpr VF) VF a
theorem M2{u r:Int}(a:u∈units){k l:Nat}(b:k<26)(c:l<26)(e:ab ((k:Int)*u+r)=ab ((l:Int)*u+r)):k=l:=by
 rcases uu k l with h|h|h
 .exact(CF a c h e).elim
 .exact h
 .exact(CF a b h e.symm).elim
theorem yD(a:aA):∀l:List aA,l.Nodup->l.length<=(l.filter λz=>!decide (z=a)).length+1
 |[],_=>by simp
 |z::l,b=>by
  rw[iL]at b;by_cases h:z=a
  .have e:(l.filter λz=>!decide (z=a))=l:=by
    rw[List.filter_eq_self];intro y c;have:y≠a:=λe=>b.1 (by rw[h,←e];exact c);simp[this]
   rw[r2 (by simp[h]),e];simp
  .rw[r1 (by simp[h])];have:=yD a l b.2;simp only[hJ];omega
structure Ai (zs:List aA):Prop where
 nd:zs.Nodup
 nm:∀z∈zs,jq z=aC
 l1:25<=zs.length
 l2:zs.length<=26
theorem QQ{b:aA}{a pl:Nat}{u r:Int}{g:Nat->aA}(o:b.cps.toList.all mZ=aC)(d:b.length=a)(h1:1<=a)(p:a<=8)(z:pl<a)(q:u∈units)
 (pu:∀k,k<26->(g k).cps.toList=b.cps.toList.take pl++[ab ((k:Int)*u+r)]++b.cps.toList.drop (pl+1)):Ai (((fH 26).map g).filter λf=>!decide (f="sea")):=by
 have bl:b.cps.toList.length=a:=by rw[←rz];exact d
 have s:∀k,k<26->(g k).length=a:=λk c=>by
  rw[rz,pu k c,eW,eW,dU,nR,bl];show min pl a+1+(a-(pl+1))=a;omega
 have h:((fH 26).map g).Nodup:=KU λk l c d e=>by
  have i:(g k).cps.toList=(g l).cps.toList:=by rw[e]
  rw[pu k c,pu l d,nc,nc]at i;have j:=List.append_cancel_left i;rw[xb,xb]at j;exact M2 q c d (List.cons.inj j).1
 have ln:=yD "sea" _ h;rw[aS,oy]at ln;have lf:=l3 (λf=>!decide (f=("sea":aA))) ((fH 26).map g);rw[aS,oy]at lf;refine⟨h.sublist List.filter_sublist,λf t=>?_,VF,lf⟩;obtain⟨w,y⟩:=jD.mp t;obtain⟨k,mk,rfl⟩:=cP.mp w;have c:=oB.mp mk;have all:(g k).cps.toList.all mZ=aC:=by
  rw[pu k c,List.all_append,List.all_append];have n:=j9.mp o;rw[j9.mpr λx m=>n x (pz m),j9.mpr λx m=>n x (List.mem_of_mem_drop m)];simp[BG]
 unfold jq;rw[s k c,decide_eq_true h1,decide_eq_true p,y,all];rfl
theorem Sq(b:0<=i)(h1:i<12):∃u∈units,kU ([.int 1,.int 3,.int 5,.int 7,.int 9,.int 11,.int 15,.int 17,.int 19,.int 21,.int 23,.int 25]:List V) i=some (.int u):=by
 obtain⟨k,rfl⟩:=kC b;have c:k<12:=VF;have a:k<units.length:=c;refine⟨units[k],qF a,cE ?_⟩;show(units.map V.int)[k]?=some (V.int units[k]);rw[dO,cY a];rfl
end Mt46
namespace L2
open PySem PySem.Spec PyProof.Rows
section
variable{X:aZ}{tg:bJ}
def Qp(p:bG):TI:=λY H R=>p Y H λx z=>∃d o J,x=.ref d/\z d=some (.frz o (.dK J))/\R (sI d o J) z
theorem Ci{l:bJ}{tl:bG}(f:bL X l tl):lu X tg l (Qp tl):=by
 refine⟨?_⟩;intro U s Y H R I h;refine cD (f U s Y H _ I h) λv s1 ⟨x,z,a,g,i⟩=>?_;obtain⟨d,o,J,e,j,q⟩:=i;subst e;cases g;have hok:=a.hok d _ j;obtain⟨k,r,lo,vs,m,n⟩:=(show dR X.prog X.w z s1.heap d (.frz o (.dK J)) from hok)
 obtain⟨ep,c⟩:=n.dictAt;refine wpAny_pyIter_dict lo c ?_;refine⟨s1.heap.objs.size,[s1.heap.objs.size],_,_,z,O,a.kept (t':=s1.toks) λb t e=>dM _ e,AK m k c,⟨_,gF _ O,O,O⟩,λb p=>?_,q⟩;have e:b=s1.heap.objs.size:=by simpa using p
 subst e;exact a.fpOk (bQ _) (a.hok.fresh (bQ _))
theorem MU(e:X.calm=aC):iY X (.builtin "min") (λxs H Q=>∃(p:aB)(ns:List Int),xs=[.ref p]/\aT X.K H p (ns.map V.int)/\0<ns.length/\∀M,M∈ns->(∀a∈ns,M<=a)->Q (.int M) H):=by
 intro U s Y H xs us Q I r h
 obtain⟨p,ns,rfl,f,w,q⟩:=h
 obtain⟨u,rfl,g⟩:=cB.one r
 cases g
 obtain⟨y,k,pl,z⟩:=I.list f
 have hi:=Ay k
 obtain⟨ys,c⟩:=hi.allInts.items
 have b:ns=ys.toList.map λx=>x.1:=by
  have h1:=nums_intItems ys
  rw[←c]at h1
  rw[←h1]
  exact hi.numsOf.symm
 have l:s.heap.IsList p (intItems ys):=by rw[←c];exact pl.isList
 have A:ns.length=ys.size:=by rw[b,aS,mD]
 refine min_intList (I.ok.hd e) l VF λv h' tk m n=>?_
 obtain⟨tv,rfl⟩:=intItems_at m
 obtain⟨B,o⟩:=Cr (numAt ys) (ys.size-1)
 refine⟨.int _,H,I.kept (t':=tk) n,⟨_,O⟩,q _ ?_ λa t=>?_⟩
 .rw[numAt_eq,←b,jV,cY (show argBest (λi j=>decide (numAt ys i<numAt ys j)) (ys.size-1)<ns.length by omega)]
  exact qF _
 .obtain⟨j,d⟩:=lh.mp t
  have C:=(dI.mp d).1
  have:=o j VF
  rw[numAt_eq ys j,←b,jV,d]at this
  exact this
end
section
variable{prog:bT}{w:bN}{A:bX}{E:aE->aK->Prop}{s:aK}
theorem Oe(e:(d==mL)=aJ)(a:s.heap.get? d=some o)(f:o.ExactDict)(c:o.data=.dict es ep)
 (g:Q (.ref s.heap.objs.size) {s with heap:=s.heap.push {cls:=.type "dict_keyiterator",data:=.fields #[.ref d,.int 0 0,.int es.size 0,.int ep 0]}}):aU (aX prog w) A (pyIter (.ref d)) Q E s:=by
 have b:s.TypeIs (.ref d) "dict":=⟨o,a,f.1⟩
 refine wpAny_pyIter_slot b F.slot_dict_iter (pE F.slot_dict_iter b F.entry_dict_iter ?_ (F.args_dict_iter_1 _));unfold Builtin.«dict.__iter__»;refine aO ?_;unfold Builtin.Dict.dictSlotNone;refine aO (ue b (bH ?_));show aU _ _ (Builtin.Dict.showsAll d>>=_) _ _ s;unfold Builtin.Dict.showsAll;rw[if_neg (by rw[e];exact fX)];refine aO (bH (aO (xC a c (aO (xL a c ?_)))));refine aO (ng (bH ⟨_,O,"dict_keyiterator",_,⟨_,gF _ O,O⟩,rW.lookup,?_⟩));simpa [rawInt] using g
theorem Of(a:s.heap.IsKeyIter it d i es.size ep)(f:s.heap.get? d=some e)(g:e.data=.dict es ep)(j:i<es.size)
 (k:∀h',h'.IsKeyIter it d (i+1) es.size ep->oF it s.heap h'->Q (some es[i].key) {s with heap:=h'}):aU (aX prog w) A (pyNext (.ref it)) Q E s:=by
 obtain⟨o,c,l,b⟩:=id a;unfold pyNext;refine aO (pI (xf (name:=pM "__next__") a.typeIs rW
  (pE rW a.typeIs F.entry_dict_keyiterator_next ?_ (F.args_dict_keyiterator_next_1 _))))
 refine aO (bH (aO (aO ?_)))
 first|refine aO (tZ a.typeIs (bH ?_))|refine aO (t5 a.typeIs (bH ?_))
 refine aO (wpAny_fieldsOf c b ?_);simp only[show Builtin.Dict_items.ownsTuple "dict_keyiterator"=aJ from by decide,xp,if_false];show aU _ _ (if (cZ d==iZ)=aC then _ else _) _ _ s;rw[if_neg (show ¬((cZ d==iZ)=aC) from fX)];refine aO (bH (aO (xC f g ?_)));rw[if_neg (by simp)];refine aO (bH (aO (xL f g ?_)));rw[if_neg (by simp)];refine bH ?_;simp only[show ¬((i:Int)<0) from by omega,if_false,oz,t3 j];refine aO ?_
 first|refine aO (tZ a.typeIs (bH ?_))|refine aO (t5 a.typeIs (bH ?_))
 refine aO (wpAny_isOneOf_keyiter a.typeIs ?_);show aU _ _ (setField (.ref it) 1 (rawInt ((i:Int)+1))>>=_) _ _ s;refine aO (qI c b (by simp) ?_);have h:(s.heap.update it (kO (·.setIfInBounds 1 (rawInt ((i:Int)+1))))).IsKeyIter it d (i+1) es.size ep:=
  ⟨_,ov _ c (r4 (pB b _)),(xx ..).trans l,by rw[pB b];simp[rawInt]⟩
 refine aO (jn (aO (wpAny_isOneOf_keyiter (s:={s with heap:=s.heap.update it (kO (·.setIfInBounds 1 (rawInt ((i:Int)+1))))}) h.typeIs ?_)));show aU _ _ (pure es[i].key) _ _ _;exact bH (bH ⟨_,O,bH (k _ h (oF.update ..))⟩)
theorem Ps(k:A.handled=aG)(c:s.heap.IsKeyIter it d i es.size ep)(f:s.heap.get? d=some e)(g:e.data=.dict es ep)(l:es.size<=i)
 (n:∀h',bE.ExtBut it s.heap h'->Q aG {s with heap:=h'}):aU (aX prog w) A (pyNext (.ref it)) Q E s:=by
 obtain⟨o,h,p,j⟩:=id c;unfold pyNext;refine aO (pI (xf (name:=pM "__next__") c.typeIs rW
  (pE rW c.typeIs F.entry_dict_keyiterator_next ?_ (F.args_dict_keyiterator_next_1 _))))
 refine aO (bH (aO (aO ?_)))
 first|refine aO (tZ c.typeIs (bH ?_))|refine aO (t5 c.typeIs (bH ?_))
 refine aO (wpAny_fieldsOf h j ?_);simp only[show Builtin.Dict_items.ownsTuple "dict_keyiterator"=aJ from by decide,xp,if_false];show aU _ _ (if (cZ d==iZ)=aC then _ else _) _ _ s;rw[if_neg (show ¬((cZ d==iZ)=aC) from fX)];refine aO (bH (aO (xC f g ?_)));rw[if_neg (by simp)];refine aO (bH (aO (xL f g ?_)));rw[if_neg (by simp)];refine bH ?_;simp only[show ¬((i:Int)<0) from by omega,if_false,oz,Array.getElem?_eq_none l];refine aO ?_
 first|refine aO (tZ c.typeIs (bH ?_))|refine aO (t5 c.typeIs (bH ?_))
 show aU _ _ (setField (.ref it) 0 .none>>=_) _ _ s;refine aO (qI h j (by simp) ?_);show aU _ _ (newExc (.type "StopIteration") []>>=_) _ _ _;refine aO ?_;simp only[newExc,newTuple];refine aO (ng ?_ (by size_fits));refine aO (m:=firstArgMember _ _) (kb (a:=iZ) (by first|rfl|(simp only[firstArgMember];rfl)) ?_);refine ng ?_ (by size_fits);simp only[raiseNew];refine aO (wpAny_handled ?_);rw[show A.in1.handled=aG from k];refine aO (bH (wpAny_throw ?_));refine aO (xH (T:="StopIteration") (b:=aC) ⟨_,gF _ O,O⟩ isSubtype_stop ?_);exact bH (n _ (((oF.update ..).extBut.push _).push _))
end
def sH(d:aB)(o:aY)(J:List (List aW×V)):jr:=
 ⟨λi H=>H d=some (.frz o (.dT J))/\i<J.length,λi H x H'=>H'=H/\∃a b,J[i]?=some a/\x=.ref b/\H b=some (.tup (a.1.map kV)),λi H=>H d=some (.frz o (.dT J))/\J.length<=i⟩
theorem KT.get{H:aD}{P:bT}{w:bN}:∀{J:List (List aW×V)} {xs:List (List aW×aB×aE)} {i:Nat},KT H J xs->i<J.length->∃b x,J[i]?=some b/\xs[i]?=some x/\H x.2.1=some (.tup (b.1.map kV))
 |_,_,_,.nil,h=>by simp at h
 |_,_,0,.cons a r,_=>⟨_,_,O,O,a.2.1⟩
 |_,_,i+1,.cons a r,h=>by
  obtain⟨b,x,c,d,e⟩:=KT.get (P:=P) (w:=w) (i:=i) r (by simpa using h);exact⟨b,x,by simpa using c,by simpa using d,e⟩
theorem KT.len:∀{J:List (List aW×V)} {xs:List (List aW×aB×aE)},KT H J xs->J.length=xs.length
 |_,_,.nil=>rfl
 |_,_,.cons _ r=>by rw[hJ,hJ,KT.len r]
theorem Oc{P:bT}{w:bN}{K:bI}{tg:bJ}{d it:aB}{o:aY}{J:List (List aW×V)}{es:Array oJ}{ep:Nat}(j:o.data=.dict es ep)(a6:es.size=J.length) :
  oO P w K tg (sH d o J) [it] it (λi h=>h.IsKeyIter it d i es.size ep) where
 mem:=by simp
 obj:=λi h st b a=>by
  have e:b=it:=by simpa using a
  subst e;obtain⟨f,e,c,dd⟩:=st;exact⟨f,e,λv l=>by rw[dd]at l;cases l⟩
 keep:=λi h h' st k=>st.at λf e=>k it (by simp) f e
 item:=by
  intro X m n p C i U s Y H E I hf st t;subst m n p;obtain⟨u,hi⟩:=t;obtain⟨z,f1,f2,f3,A,B⟩:=hf it (by simp);have hok:=(show dR X.prog X.w H s.heap d (.frz o (.dT J)) from I.hok d _ u)
  have g:s.heap.get? d=some o:=hok.1;obtain⟨l,y,xs,r,G,a7,a8,h1,h2,h3,M,a9⟩:=(show dR X.prog X.w H s.heap d (.dT J) from hok.2)
  rw[g]at h1;cases h1;rw[j]at h3;cases h3;obtain⟨N,x,Q,T,a0⟩:=KT.get (P:=X.prog) (w:=X.w) r hi;have D:i<es.size:=VF;refine Of st g j D λh' L a1=>?_;have a2:es[i].key=.ref x.2.1:=by
   have q:=entry_at M i;rw[t3 D,T]at q;have a3:=gK q;rw[a3];rfl
  have a4:Inv X U Y H {s with heap:=h'}:=I.turned (t':=s.toks) (λb f a e=>(a1.2 b a).trans e) z f1 f3 A B;obtain⟨f,e,c,dd⟩:=id L;refine⟨es[i].key,O,sW (s:={s with heap:=h'}) e c dd VD ⟨.ref x.2.1,H,a4,?_,⟨O,N,x.2.1,Q,O,a0⟩,L,λb a=>(hf b a).1⟩⟩;rw[a2];rfl
 done:=by
  intro X m n p C i U s Y H E I hf st t;subst m n p;obtain⟨u,hi⟩:=t;obtain⟨z,f1,f2,f3,A,B⟩:=hf it (by simp);have g:s.heap.get? d=some o:=(show dR X.prog X.w H s.heap d (.frz o (.dT J)) from I.hok d _ u).1;exact Ps (I.ok.hd C) st g j VF λh' a5=>⟨O,I.turned (t':=s.toks) (λb f a e=>a5 b f a e) z f1 f3 A B⟩
 self:=λ_ _ _ _ _ st h=>wpAny_pyIter_keyiter st h
section
variable{X:aZ}{tg:bJ}
def Ef(p:bG):TI:=λY H R=>p Y H λx z=>∃d J,x=.ref d/\((z d=some (.dT J)/\∀o,R (sH d o J) (aI z d (.frz o (.dT J))))\/∃o,z d=some (.frz o (.dT J))/\R (sH d o J) z)
theorem Nt(u:bL X l tl):lu X tg l (Ef tl):=by
 refine⟨?_⟩;intro U s Y H R I h;refine cD (u U s Y H _ I h) λv s1 ⟨x,z,g,w,A⟩=>?_;obtain⟨d,J,e,q⟩:=A;subst e;cases w;have j:∀(o:aY)(H2:aD),Inv X U Y H2 s1->H2 d=some (.frz o (.dT J))->R (sH d o J) H2->aU (aX X.prog X.w) X.A (pyIter (.ref d)) (u0 X U Y tg R) X.xe s1:=λo H2 c a q=>by
  have hok:=(show dR X.prog X.w H2 s1.heap d (.frz o (.dT J)) from c.hok d _ a)
  obtain⟨k,y,xs,r,G,es,ep,h1,h2,f,i,m⟩:=(show dR X.prog X.w H2 s1.heap d (.dT J) from hok.2)
  have n:=hok.1;rw[n]at h1;cases h1;have B:es.size=J.length:=by rw[size_of_entries i,KT.len r]
  refine Oe y n h2 f ?_;refine⟨s1.heap.objs.size,[s1.heap.objs.size],_,_,H2,O,c.kept (t':=s1.toks) λb D e=>dM _ e,Oc f B,⟨_,gF _ O,O,O⟩,λb C=>?_,q⟩;have e:b=s1.heap.objs.size:=by simpa using C
  subst e;exact c.fpOk (bQ _) (c.hok.fresh (bQ _))
 rcases q with ⟨a,q⟩|⟨o,a,q⟩
 .obtain⟨k,y,xs,r,o,es,ep,h1,h2,f,i,m⟩:=(show dR X.prog X.w z s1.heap d (.dT J) from g.hok d _ a)
  refine j o _ (g.write (x:=d) (e:=d) (o:=.frz o (.dT J)) (h':=s1.heap) (t':=s1.toks) (by rw[a];exact trivial) VG (λ_ _ _ q=>q) ⟨o,h1⟩ ⟨h1,k,y,xs,?_,o,es,ep,h1,h2,f,i,m⟩) aV (q o);exact Paired.mapP r λp q t=>⟨t.1,by rw[bD (λe=>by rw[e,a]at t;cases t.2.1)];exact t.2.1,t.2.2⟩
 .exact j o z g a q
theorem Eh(Pv:Nat->St->aD->Prop)(c:Pv 0 Y H)(e:∀i Y H,i<=J.length->Pv i Y H->H d=some (.frz o (.dT J)))
 (f:∀i a b Y H,J[i]?=some a->H b=some (.tup (a.1.map kV))->Pv i Y H->g (.ref b) Y H (tb {D with nx:=Pv (i+1),ct:=Pv (i+1),bk:=D.nx}))(h:∀Y H,Pv J.length Y H->D.nx Y H) :
  s5 g tb D Y (sH d o J) H:=by
 refine⟨λi m Y H=>m+i=J.length/\Pv i Y H,⟨J.length,O,c⟩,?_⟩;intro i m Y H j;obtain⟨hm,pv⟩:=j;have at_:=e i Y H VF pv;rcases Nat.lt_or_ge i J.length with lt|ge
 .refine .inr ⟨⟨at_,lt⟩,Pv (i+1),(fun σ' H' k=>⟨J.length-(i+1),VF,VF,k⟩),λx H' y=>?_⟩;obtain⟨l,a,b,n,ex,p⟩:=y;subst l ex;exact f i a b Y _ n p pv
 .have q:i=J.length:=VF;subst q;exact .inl ⟨⟨at_,bQ _⟩,h Y H pv⟩
end
section
variable{P:bT}{w:bN}{A:bX}{R:Result->aK->Prop}{I:aB}{fp g:List aB}{G:Array mM->Array mM->Prop}{n:Nat}{Pv:Nat->aE->Prop}{h:Nat->aK->Prop}
theorem LU{J:List (List aW×aB×aE)}(b:(J.map (·.1)).Nodup){i:Nat}{x:List aW×aB×aE}(h:J[i]?=some x):atKey (J.take i) x.1=aG:=by
 unfold atKey;rw[Option.map_eq_none_iff,List.find?_eq_none];intro y m e;have c:y.1=x.1:=of_decide_eq_true e;obtain⟨j,a⟩:=lh.mp m;rw[List.getElem?_take]at a;split at a
 .rename_i lt;have hi:=(dI.mp h).1;have d:=(dI.mp a).1;rw[rY,w3]at b;refine b j i (by rw[aS];exact d) (by rw[aS];exact hi) lt ?_;rw[pD,pD,(dI.mp a).2,(dI.mp h).2,c]
 .cases a
theorem LO(W:WalksS P w A.in1 I fp g G n Pv h)(al:A.units+4<cLine)(D:aB)(B:D∉fp)(C:aE)(J:List (List aW×aB×aE))(am:J.length=n)(an:n<=dH)(U:(J.map (·.1)).Nodup)(p:aK)
 (E:∀x∈J,x.2.1∉D::g/\(kH (dZ P w)).is p.heap x.1 x.2.1)
 (Y:∀(i:Nat)(v:aE),Pv i v->∃(a b:aB)(k:List aW)(x:aE)(l:aY)(c:Nat),v=.ref a/\a∉D::g/\p.heap.get? a=some l/\l.cls=.type "tuple"/\l.data=.seq #[.ref b,x] c/\J[i]?=some (k,b,x)) :
  ∀(m i:Nat)(s:aK),n-i=m->i<=n->h i s->(∀b o,b∉D::g->p.heap.get? b=some o->s.heap.get? b=some o)->s.heap.DictOfH (kH (dZ P w)) D (J.take i) ->
   (∀L,Moved (D::g) G s L->L.heap.DictOfH (kH (dZ P w)) D J->R (.ok (.ret C)) L) ->
   codeAny (aX P w) A (.builtin "dict.update.loop" ⟨[.ref D,.ref I,rawInt i,C],[]⟩) R s:=by
 have a0:D∉g:=λd=>B (W.sub _ d);have sub:∀b∈g,b∈D::g:=λb d=>eY _ d;have H:∀{s L:aK} {i:Nat},Moved g G s L->s.heap.DictOfH (kH (dZ P w)) D (J.take i)->L.heap.DictOfH (kH (dZ P w)) D (J.take i):=λf ⟨o,es,ep,a1,h2,a2,a3,a4,a5⟩=>⟨o,es,ep,f.heap D _ a0 a1,h2,a2,a3,λx M=>by
  obtain⟨o,q,n,e,r⟩:=a4 x M;exact⟨o,q,n,f.heap _ _ (λd=>(E x (pz M)).1 (sub _ d)) e,r⟩,a5⟩
 intro m
 induction m with
 |zero=>
  intro i s a6 a7 st kp t u;obtain rfl:i=n:=VF;refine nh vG ?_;rw[ow oS _];show aU _ A.in1 (pyNext (.ref I)>>=_) _ _ s;refine aO (W.done s _ _ st λL f=>?_);show aU _ A.in1 (Builtin.Dict.addKeywords D []>>=_) _ _ L;refine aO (bH ?_);have:=H f t;rw[dY VF]at this;exact bH (u L (f.mono sub) this)
 |succ m a8=>
  intro i s a6 a7 st kp t u;have lt:i<n:=VF;refine nh vG ?_;rw[ow oS _];show aU _ A.in1 (pyNext (.ref I)>>=_) _ _ s;refine aO (W.item i s _ _ lt st λv L pv a9 f=>?_);obtain⟨a,b,k,x,l,c,rfl,N,aa,ac,ae,hi⟩:=Y i v pv;have af:=H f t;have Q:L.heap.get? a=some l:=f.heap a l (λd=>N (sub a d)) (kp a l N aa);have ag:L.TypeIs (.ref a) "tuple":=⟨l,Q,ac⟩
  refine aO (jn (aO (wpAny_tryCatch ?_)));unfold Builtin.Dict.pairItems;refine aO (qQ ag ?_);rw[if_pos VD];refine aO (xN Q ae (bH ?_));show aU _ _ (holding [.ref b,x] (dictSet D (.ref b) x)) _ _ L;obtain⟨T,ah⟩:=E _ (dN hi);have j:(kH (dZ P w)).is L.heap k b:=by
   obtain⟨o,q,n,e,r⟩:=ah;exact⟨o,q,n,f.heap _ _ (λd=>T (sub _ d)) (kp _ _ T e),r⟩
  refine jn (wpAny_dictSet_heap (qD VF) j af (λh' y z=>?_) ?_)
  .rw[storedH_new (LU U hi)]at y;have e:J.take i++[(k,b,x)]=J.take (i+1):=by rw[eL,hi];rfl
   rw[e]at y;refine bH ⟨nV oS _,a8 (i+1) _ VF lt (W.frame _ L _ _ a9 (uw _ _) λb j o e=>?_) (λb o j e=>?_) y λai aj ak=>?_⟩
   .rw[z.2 b (λd:b=D=>B (by rw[←d];exact j))];exact e
   .rw[z.2 b (λd:b=D=>j (by rw[d];exact eJ))];exact f.heap b o (λd=>j (sub b d)) (kp b o j e)
   .refine u ai (Moved.trans W.gtrans ((f.mono sub).then_heap (uw _ _) λb o j e=>?_) aj) ak;rw[z.2 b (λd:b=D=>j (by rw[d];exact eJ))];exact e
  .rw[dU];omega
end
section
variable{P:bT}{w:bN}{A:bX}{E:aE->aK->Prop}{s:aK}
theorem JI{l:aB}{d:List aE}{J:List (List aW×aB×aE)}{Q:aE->aK->Prop}(u:A.handled=aG)(ar:A.units+20<cLine)(a1:PlainL s.heap l d.toArray)(a2:d.length=J.length)(a3:d.length<=dH)(a4:(J.map (·.1)).Nodup)
 (a5:∀x∈J,(kH (dZ P w)).is s.heap x.1 x.2.1)
 (a6:∀(i:Nat)(v:aE),d[i]?=some v->∃(a b:aB)(k:List aW)(x:aE)(f:aY)(c:Nat),v=.ref a/\s.heap.get? a=some f/\f.cls=.type "tuple"/\f.data=.seq #[.ref b,x] c/\J[i]?=some (k,b,x))
 (h:∀(h':bE)(tk:Nat),h'.DictOfH (kH (dZ P w)) s.heap.objs.size J->(∀b o,s.heap.get? b=some o->h'.get? b=some o)->Q (.ref s.heap.objs.size) {s with heap:=h',toks:=tk}) :
  aU (aX P w) A (call (.type "dict") [.ref l]) Q E s:=by
 refine xO (Q₁:=λ(y:aE)(z:aK)=>y=cZ s.heap.objs.size/\z={s with heap:=s.heap.push {cls:=.type "dict",data:=.dict #[]}}) F.kt_called_dict (F.kt_typeCall_dict_1 _) F.entry_dict_init (kt_code_dict_new _ ⟨O,O⟩) ?_;rintro y z ⟨rfl,rfl⟩;have B:(s.heap.push {cls:=.type "dict",data:=.dict #[]}).DictOfH (kH (dZ P w)) s.heap.objs.size []:=⟨_,#[],_,gF _ O,⟨O,O,O⟩,O,O,(λ_ m=>nomatch m),.nil⟩
 have C:({s with heap:=s.heap.push {cls:=.type "dict",data:=.dict #[]}}:aK).TypeIs (.ref s.heap.objs.size) "dict":=⟨_,gF _ O,O⟩
 obtain⟨⟨as,au,av,aw⟩,a7,D,G,H,I⟩:=id a1;simp only at G H I;subst G H I;have a8:l<s.heap.objs.size:=dQ D;have j:=dM (h:=s.heap) {cls:=.type "dict",data:=.dict #[]} D;refine⟨C,F.args_dict_init_2 _ _,?_⟩;unfold Builtin.«dict.__init__»;refine aO ?_;unfold Builtin.Dict.selfAndRest;refine aO (ue C ?_);show aU _ _ (pure (s.heap.objs.size,[cZ l])) _ _ _;refine bH ?_;show aU _ _ (t2 "dict.__init__" s.heap.objs.size (.ref l) [] .none) _ _ _;unfold t2;refine aO (qQ (T:="list") ⟨_,j,O⟩ ?_);rw[if_pos VD];refine aO (II (by simp[u]) j λh1 L k1=>?_);show aU _ _ (rule _>>=_) _ _ _;refine aO (qT ?_);have M:=k1 _ _ j;have N:h1.IsList l d.toArray:=⟨_,M,O,a7,O⟩
 refine aO (qE (s:={s with heap:=h1,toks:=L}) N ?_);have U:s.heap.objs.size<h1.objs.size:=by
  obtain⟨o,es,ep,p,_⟩:=B;exact dQ (k1 _ _ p)
 have a9:l≠h1.objs.size:=eF (dQ M);have aa:s.heap.objs.size∉[h1.objs.size,l]:=by
  simp only[eM,fG,mF,or_false,not_or];exact⟨eF U,nk a8⟩
 refine bH ⟨nV oS _,?_⟩;have ac:A.in1.in1.handled=aG:=by simp[u]
 have q:∀{b:aB} {o:aY},s.heap.get? b=some o->b∉[s.heap.objs.size,h1.objs.size]:=λ{b o} e=>by
  have Y:=dQ e;simp only[eM,fG,mF,or_false,not_or];exact⟨eF Y,eF (qM Y U)⟩
 refine LO ((sA ac _ l a9 d.toArray).toS) ?_ s.heap.objs.size aa .none J (by rw[eO,a2]) (by rw[eO];exact a3) a4 {s with heap:=h1.push {cls:=.type "list_iterator",data:=.fields #[.ref l,.int 0 0]},toks:=L} (λx m=>?_) (λi v pv=>?_) (d.toArray.size-0) 0 _ VF (jo _)
  ⟨⟨_,gF _ O,O,O⟩,(N.push _)⟩ (λ_ _ _ e=>e) ?_ ?_
 .show A.units+1+4<_;omega
 .obtain⟨o,d,n,e,r⟩:=a5 x m;exact⟨q e,o,d,n,dM _ (k1 _ _ (dM _ e)),r⟩
 .obtain⟨a,b,k,x,f,c,rfl,a0,ae,af,hi⟩:=a6 i v (by simpa using pv);exact⟨a,b,k,x,f,c,O,q a0,dM _ (k1 _ _ (dM _ a0)),ae,af,hi⟩
 .obtain⟨o,es,ep,p,h2,t,ag,ax,ah⟩:=B;exact⟨o,es,ep,dM _ (k1 _ _ p),h2,t,ag,(λ_ m=>nomatch m),ah⟩
 .intro ai g aj;obtain⟨t,ak,al,am,an⟩:=ai;have ao:ak=s.gens:=g.gens;have ap:al=s.drawn:=g.drawn;have aq:an=s.os:=g.os;subst ao ap aq;refine⟨O,h t am aj λb o e=>?_⟩;exact g.heap b o (q e) (dM _ (k1 _ _ (dM _ e)))
end
def ml(H:aD)(ys:List V)(J:List (List aW×V)):Prop:=Paired (λ(y:V)(c:List aW×V)=>∃a b,y=.ref a/\H a=some (.tup [.ref b,c.2])/\H b=some (.tup (c.1.map kV))) ys J
theorem ml.nil(H:aD):ml H [] []:=lm
theorem ml.len(h:ml H ys J):ys.length=J.length:=oC h
theorem ml.same(S:aM H H'):∀{ys:List V} {J:List (List aW×V)},ml H ys J->ml H' ys J
 |_,_,lm=>lm
 |_,_,nn ⟨a,b,e,o,G⟩ t=>nn ⟨a,b,e,S _ _ o,S _ _ G⟩ (ml.same S t)
section
variable{X:aZ}
theorem GY(I:Inv X U Y H s):∀{ys:List V} {J:List (List aW×V)} {h:List aE},ml H ys J->cB ys h ->
  ∃d:List (List aW×aB×aE),KT H J d/\h.length=d.length/\(∀x∈d,(kH (dZ X.prog X.w)).is s.heap x.1 x.2.1)/\∀(i:Nat)(v:aE),h[i]?=some v->∃(a b:aB)(k:List aW)(x:aE)(f:aY)(c:Nat),v=.ref a/\s.heap.get? a=some f/\f.cls=.type "tuple"/\f.data=.seq #[.ref b,x] c/\d[i]?=some (k,b,x)
 |_,_,_,lm,lm=>⟨[],lm,O,(λ_ m=>nomatch m),λi v e=>by simp at e⟩
 |_,(k,Q)::J,u::h,nn ⟨a,b,e,o,G⟩ t,nn r l=>by
  obtain⟨d,h1,h2,n,p⟩:=GY I t l;subst e;cases r;obtain⟨T,w,⟨f,g,y,c,z⟩,_⟩:=I.tuple (bY.of o);obtain⟨A,j,rfl,B,C⟩:=cB.two w;cases(show A=cZ b from B);refine⟨(k,b,j)::d,nn ⟨O,G,C⟩ h1,by simp[h2],λx m=>?_,λi v e=>?_⟩
  .rcases eM.mp m with rfl|m
   .exact qs I.hok G
   .exact n x m
  .cases i with
   |zero=>
    simp at e;subst e;exact⟨a,b,k,j,f,c,O,g,y,z,O⟩
   |succ i=>
    obtain⟨D,E,L,M,N,c',q⟩:=p i v (by simpa using e);exact⟨D,E,L,M,N,c',by simpa using q⟩
theorem FW(m:X.calm=aC)(N:X.A.units+64<cLine):iY X (.type "dict") (λxs H Q=>∃(p:aB)(ys:List V)(J:List (List aW×V)),xs=[.ref p]/\aT X.K H p ys/\ml H ys J/\J.length<=1000/\(J.map (·.1)).Nodup/\∀l,H l=aG->Q (.ref l) (aI H l (.dT J))):=by
 intro U s Y H xs us Q I r h;obtain⟨p,ys,J,rfl,n,f,t,g,q⟩:=h;obtain⟨u,rfl,w⟩:=cB.one r;cases w;obtain⟨T,x,pl,a0⟩:=I.list n;obtain⟨c,d,i,j,k⟩:=GY I f x;have a1:(1000:Nat)<=dH:=VD;have y:J.length=c.length:=oC d;have z:c.map (·.1)=J.map (·.1):=by
  clear j k i t g y f q
  induction d with
  |nil=>rfl
  |cons a r A=>rw[dW,dW,A,a.1]
 refine JI (J:=c) (I.ok.hd m) VF pl i VF (by rw[z];exact g) j k λh' tk B C=>?_;have fr:=I.hok.fresh (bQ _);obtain⟨o,es,ep,D,E,G,L,a2,M⟩:=B;refine⟨.ref s.heap.objs.size,_,I.laid (t':=tk) C (bQ _) (show dR X.prog X.w _ h' _ (.dT J) from⟨VF,?_,c,d.keeps λb ys e=>aM.upd fr _ _ e,o,es,ep,D,E,G,L,M⟩),rfl,q _ fr⟩;have b:=I.big;exact beq_eq_false_iff_ne.mpr (nk b)
theorem Ql:xS X .Mult (λx y H Q=>∃i j,x=.int i/\y=.int j/\IntMulOk i j/\Q (.int (i*j)) H):=by
 intro U s Y H x y v u Q I a b h;obtain⟨i,j,c,d,hm,q⟩:=h;subst c d;obtain⟨t,rfl⟩:=a;obtain⟨t',rfl⟩:=b;exact imul_int ⟨.int (i*j),H,I.tok _,⟨_,O⟩,q⟩ hm
theorem Gv{K:bI}(h:X.K=K):iY X (.type "tuple") (λxs H Q=>∃p ys,xs=[.ref p]/\((aT K H p ys/\∀l,H l=aG->Q (.ref l) (aI H l (.tup ys)))\/(bY K H p ys/\Q (.ref p) H))):=by
 subst h;exact ze
end
section
variable{X:aZ}{K:bI}
theorem EE(e:X.K=K)(h:bL X ex (zG X.K T r to M)):bL X ex (zG K T r to M):=e▸h
theorem EJ{i:Nat}{v:V}{tb:eR}{D:Ends}{Y:St}{H:aD}(h:∀a:Ends,(∀σ' H',D.nx σ' H'->a.nx σ' H')->tb a (Y.set i (some v)) H):oo i v Y H (tb D):=h D λ_ _ x=>x
theorem QF{g:iX}{x:V}{tb:eR}{D:Ends}{Y:St}{H:aD}(h:∀a:Ends,(∀σ' H',D.nx σ' H'->a.nx σ' H')->g x Y H (tb a)):g x Y H (tb D):=h D λ_ _ x=>x
theorem qf(h:∀u:eR,(∀c σ' H',b c σ' H'->u c σ' H')->jv a u D Y H):jv a b D Y H:=h b λ_ _ _ x=>x
theorem rF(h:∀u:eR,(∀a σ' H',b a σ' H'->u a σ' H')->jv a1 (jv a2 u) D Y H):jv a1 (jv a2 b) D Y H:=h b λ_ _ _ x=>x
theorem Ni(h:∀u:eR,(∀a σ' H',b a σ' H'->u a σ' H')->jv a1 (jv a2 (jv a3 u)) D Y H):jv a1 (jv a2 (jv a3 b)) D Y H:=h b λ_ _ _ x=>x
theorem Nh(h:∀u:eR,(∀a σ' H',b a σ' H'->u a σ' H')->jv a1 (jv a2 (jv a3 (jv a4 u))) D Y H):jv a1 (jv a2 (jv a3 (jv a4 b))) D Y H:=h b λ_ _ _ x=>x
end
structure Jt (h base:bE) (e:aB) (cls d:aE) (p:Option aB) (fl:aE) (oe:aY) (vs:Array aE) (T:aB) (oT:aY) (m:Array aE):Prop where
 he:h.get? e=some oe
 cl:oe.cls=cls
 kp:vs[0]?=some d
 dc:oe.dict=p
 hd:oe.data=.fields vs
 h1:vs[1]?=some (.ref T)
 nT:base.get? T=aG
 ne:T≠e
 hT:h.get? T=some oT
 dT:oT.data=.fields m
 h3:m[3]?=some fl
def yV(h base:bE)(e:aB)(cls d:aE)(p:Option aB)(fl:aE):Prop:=∃oe vs T a m,Jt h base e cls d p fl oe vs T a m
theorem yV.w:yV h base e cls d p fl->h.TracedAtW base e cls d fl
 |⟨oe,vs,T,a,m,t⟩=>⟨oe,vs,T,a,m,t.he,⟨t.cl,t.kp⟩,t.hd,t.h1,t.nT,t.ne,t.hT,t.dT,t.h3⟩
def lc(base:bE)(l:List eP)(e:aB)(cls d:aE)(p:Option aB)(fl:aE)(h:bE):Prop:=base.StaysIn h/\base.get? e=aG/\h.FunFrames base l/\yV h base e cls d p fl
theorem lc.w(x:lc base l e cls d p .none h):bE.FlyingW base l e cls d h:=⟨x.1,x.2.1,x.2.2.1,x.2.2.2.w⟩
theorem Gu(f:Array aE->Array aE)(o:aY):(kO f o).dict=o.dict:=by unfold kO;split<;>rfl
section
variable{M:Model}{A:bX}{E:aE->aK->Prop}{s:aK}{base:bE}{env:eP}{outer l:List eP}{L e:aB}{cls d fl:aE}{p:Option aB}
theorem yi(G:A.frames=some (env::outer))(j:s.heap.FunFrames base (env::outer))(H:env.frame=some L)
 (n:s.heap.get? e=some oe)(I:base.StaysIn s.heap)(r:base.get? e=aG)(k:oe.data=.fields vs)(hsz:1<vs.size)(kp:vs[0]?=some d)(J:oe.dict=p)
 (h:∀h',lc base (env::outer) e oe.cls d p (rawInt L) h'->s.heap.UpToSlots h'->Q () {s with heap:=h'}) :
  aU M A (do let a ←frameOf env;let pl ←entryPlaceOf L D;let b ←EntryCells.newEntry head a .none (rawInt L) .none pl;setField (.ref e) 1 b) Q E s:=by
 have t:∀b o,s.heap.get? b=some o->(∀vs,o.data≠.fields vs)->b≠e:=λb o c f q=>by
  rw[q,n]at c;cases c;exact f vs k
 have N:e∉(env::outer).filterMap (·.frame):=λhm=>by
  obtain⟨_,o,T,f⟩:=j.mem hm;exact t e o T f O
 refine aO (wpAny_frameOf_fun G j H λh1 l=>aO (wpAny_entryPlaceOf λpl u=>?_));unfold EntryCells.newEntry newFields;refine aO (ng ?_ (u.sizeOk5 _ _ _ _ _));generalize w:({cls:=.type "traceback",dict:=aG,data:=.fields ([head,.ref L,.none,rawInt L,.none]++(if pl.isEmpty then uG 6 iZ else pl)).toArray}:aY)=g;have m:h1.get? e=some oe:=(l.2.1 e N).trans n;have x:base.StaysIn h1:=λb o i=>(l.2.1 b λhm=>by rw[(j.mem hm).1]at i;cases i).trans (I b o i);have y:h1.objs.size≠e:=nk (dQ m);have z:=pB k (·.setIfInBounds 1 (cZ h1.objs.size));have U:=ov (kO (·.setIfInBounds 1 (cZ h1.objs.size))) (dM g m) (r4 z);have B:∀b o,b≠e->h1.get? b=some o->((h1.push g).update e (kO (·.setIfInBounds 1 (cZ h1.objs.size)))).get? b=some o:=λb o Y c=>by
  rw[kE _ _ (Ne.symm Y)];exact dM _ c
 have a0:((h1.push g).update e (kO (·.setIfInBounds 1 (cZ h1.objs.size)))).get? h1.objs.size=some g:=by
  rw[kE _ _ (Ne.symm y)];exact gF h1 (by rw[←w];rfl)
 have us:s.heap.UpToSlots ((h1.push g).update e (kO (·.setIfInBounds 1 (cZ h1.objs.size)))):=λb o c f=>by
  obtain⟨C,q⟩:=l.2.2 b o c;exact⟨C,B b _ (t b o c f) q⟩
 refine qI (dM g m) k hsz (h _ ⟨λb o i=>B b o (λq=>by rw[q,r]at i;cases i) (x b o i),r,j.of_keeps λb o c f=>?_,?_⟩ us)
 .obtain⟨C,q⟩:=us b o c f;exact⟨_,q,O⟩
 .exact⟨_,_,h1.objs.size,g,_,U,xx _ _,by rw[Array.getElem?_setIfInBounds_ne VD];exact kp,(Gu _ _).trans J,z,by simp[hsz],x.fresh,y,a0,by rw[←w],by first|(simp;done)|(rcases u with rfl|⟨_,_,_,_,_,_,_,rfl⟩<;>simp)⟩
theorem Eb{Q:Unit->aK->Prop}(r:A.frames=some (env :: outer))(j:env.frame=some L)(x:lc base (env :: outer) e cls d p .none s.heap)
 (h:∀ h',lc base (env :: outer) e cls d p (rawInt L) h'->s.heap.UpToSlots h'->Q () { s with heap:=h' }):aU M A (noteFrame (.ref e) env) Q E s:=by
 obtain⟨u,w,z,oe,vs,T,H,m,t⟩:=x;obtain⟨k,cl,kp,B,l,h1,C,D,c,dT,n⟩:=t;subst cl;unfold noteFrame;simp only[j];refine aO (nr k l h1 ?_);rw[if_pos (show (cZ T != iZ)=aC from by simp)];refine aO (nr c dT n ?_);rw[if_neg (show ¬ ((iZ == rawInt L)=aC) from by simp[rawInt])];refine aO (qI c dT (t1.mp n).1 ?_);have f:∀ b,b≠T->(s.heap.update T (kO (·.setIfInBounds 3 iZ))).get? b=s.heap.get? b:=λ b a=>kE _ _ (Ne.symm a);have us:s.heap.UpToSlots (s.heap.update T (kO (·.setIfInBounds 3 iZ))):=λ b o a g=>⟨o.slots,(f b λ q=>by rw[q,c] at a;cases a;exact g m dT).trans a⟩
 refine yi r (z.of_keeps λ b o a g=>?_) j ((f e (Ne.symm D)).trans k) (λ b o i=>(f b λ q=>by rw[q,C] at i;cases i).trans (u b o i)) w l (t1.mp h1).1 kp B
  λ h' y G=>h h' y (us.trans G)
 obtain⟨I,q⟩:=us b o a g;exact⟨_,q,O⟩
theorem tE{fr:Option aB}{Q:Unit->aK->Prop}(x:lc base l e cls d p fl s.heap)(h:∀ h',lc base l e cls d p (fr.elim .none λ f=>rawInt f) h'->s.heap.UpToSlots h'->Q () { s with heap:=h' }):aU M A (setFlight (.ref e) fr) Q E s:=by
 obtain⟨y,z,B,oe,vs,T,G,m,t⟩:=x;obtain⟨k,cl,kp,C,n,h1,r,u,c,dT,D⟩:=t;have w:3<m.size:=(t1.mp D).1;unfold setFlight;refine aO (nr k n h1 ?_);rw[if_pos (show (cZ T != iZ)=aC from by simp)];have g:∀ b,b≠T->(s.heap.update T (kO (·.setIfInBounds 3 (fr.elim iZ λ f=>rawInt f)))).get? b=s.heap.get? b:=λ b a=>kE _ _ (Ne.symm a);have us:s.heap.UpToSlots (s.heap.update T (kO (·.setIfInBounds 3 (fr.elim iZ λ f=>rawInt f)))):=λ b o a i=>⟨o.slots,(g b λ q=>by rw[q,c] at a;cases a;exact i m dT).trans a⟩
 refine qI c dT w (h _ ⟨λ b o j=>(g b λ q=>by rw[q,r] at j;cases j).trans (y b o j),z,B.of_keeps λ b o a i=>?_,?_⟩ us)
 .obtain⟨H,q⟩:=us b o a i;exact⟨_,q,O⟩
 .exact⟨oe,vs,T,_,_,(g e (Ne.symm u)).trans k,cl,kp,C,n,h1,r,u,ov _ c (r4 (pB dT _)),pB dT _,by simp[w]⟩
theorem OX(j:A.frames=some (env::outer))(f:env.frame=some L)(g:base.StaysIn h)(k:h.FunFrames base (env::outer))(c:xG h s.heap e cls args)
 (l:∀h' t,lc base outer e cls (.ref t) aG .none h'->s.heap.UpToSlots h'->Q () {s with heap:=h'}):aU M A (leaving env (.ref e)) Q E s:=by
 obtain⟨t,i,z,B⟩:=c.there;have fresh:∀b,h.get? b=aG->base.get? b=aG:=λb a=>by
  cases m:base.get? b with
  |none=>rfl
  |some G=>have:=g b G m;rw[a]at this;cases this
 unfold leaving noteFrame;simp only[f];refine aO (aO (nr i O (x:=.none) O ?_));rw[if_neg VD];refine yi (d:=.ref t) (p:=aG) j (k.of_keeps λb o a _=>⟨o,c.keeps b o a,O⟩) f i (λb o a=>c.keeps b o (g b o a)) (fresh e c.new) O (by show 1<6;decide) O O λh1 n q=>?_;refine tE (fr:=aG) (s:={s with heap:=h1}) n λh2 r u=>?_;obtain⟨p1,D,⟨_,_,w⟩,y⟩:=r;exact l h2 t ⟨p1,D,w,y⟩ (q.trans u)
end
def kc(P:bT)(w:bN):mH:=λouter H s E e L=>∃(ea:aB)(cls d:aE)(p:Option aB)(B:bE)(H':aD),e=.ref ea/\L.os=s.os/\AllBare L.gens/\eC (gO outer) [] H H' s.heap L.heap/\eB P w H' L.heap /\
 lc B outer ea cls d p .none L.heap/\(∀b o G,s.heap.get? b=some o->L.heap.get? b=some G->b∉gO outer->B.get? b=some G)/\(∀b G,H' b≠aG->L.heap.get? b=some G->B.get? b=some G)/\E cls p H'
section
variable{X:aZ}{U:List (aB×aY)}{Y:St}{H H':aD}{s L:aK}{B h2:bE}{ea:aB}{cls d:aE}
theorem Ei(I:Inv X U Y H s)(u:eC (gO X.stack) [] H H' s.heap L.heap)(hB:∀b o G,s.heap.get? b=some o->L.heap.get? b=some G->b∉gO X.stack->B.get? b=some G)
 (k:B.StaysIn h2)(us:L.heap.UpToSlots h2):eC (gO X.stack) [] H H' s.heap h2 where
 keep:=λb o e n a c=>k b o (hB b o o e (u.keep b o e n a c) a)
 slot:=λb o e n a c=>by
  obtain⟨i,f⟩:=u.slot b o e n a c;obtain⟨_,j,d,hd⟩:=I.stack.mem a;rw[e]at d;cases d;obtain⟨h,g⟩:=us b _ f hd;exact⟨h,g⟩
 free:=u.free
 there:=λb o e c=>by
  obtain⟨G,f⟩:=u.there b o e c;by_cases a:b∈gO X.stack
  .obtain⟨_,j,d,hd⟩:=I.stack.mem a;rw[e]at d;cases d;obtain⟨i,g⟩:=u.slot b o e (I.stkFree b a) a c;obtain⟨h,l⟩:=us b _ g hd;exact⟨_,l⟩
  .exact⟨G,k b G (hB b o G e f a)⟩
 tups:=u.tups
 frzs:=u.frzs
 tbls:=u.tbls
theorem Dm(d:eB P w H' L.heap)(f:∀b G,H' b≠aG->L.heap.get? b=some G->B.get? b=some G)(k:B.StaysIn h2):eB P w H' h2:=λa o e=>
 (d a o e).stay (λb v c q=>k b v (f b v (by
  rcases c with rfl|c
  .rw[e];simp
  .rw[c];simp) q)) (λ_ q=>q) λ_ _ q=>q
theorem Dl(I:Inv X U Y H s)(os:L.os=s.os)(bare:AllBare L.gens)(u:eC (gO X.stack) [] H H' s.heap L.heap)(a:eB X.prog X.w H' L.heap)(c:∀b o G,s.heap.get? b=some o->L.heap.get? b=some G->b∉gO X.stack->B.get? b=some G)
 (d:∀b G,H' b≠aG->L.heap.get? b=some G->B.get? b=some G)(k:B.StaysIn h2)(us:L.heap.UpToSlots h2):Inv X U Y H' {L with heap:=h2}:=
 I.call' (L:={L with heap:=h2}) (ch:=[]) os (Ei I u c k us) (Dm a d k) bare λb e=>absurd e (by simp)
end
theorem dR.has(x:dR P w H h a o):∃u,h.get? a=some u:=by
 cases o with
 |lst xs=>obtain⟨_,_,_,_,e⟩:=x;exact⟨_,e⟩
 |tup xs=>obtain⟨_,_,_,b,e,_⟩:=x;exact⟨_,e⟩
 |dK J=>obtain⟨_,_,_,_,o,_,_,e,_⟩:=x;exact⟨_,e⟩
 |dT J=>obtain⟨_,_,_,_,o,_,_,e,_⟩:=x;exact⟨_,e⟩
 |set S n=>obtain⟨o,_,_,_,e,_⟩:=x;exact⟨_,e⟩
 |ins C dx fs=>obtain⟨_,_,_,e,_⟩:=x;exact⟨_,e⟩
 |own y=>obtain⟨_,e⟩:=x;exact⟨_,e⟩
 |xd fs=>obtain⟨_,⟨_,_,_,e,_⟩,_⟩:=x;exact⟨_,e⟩
 |rng lo hi=>obtain⟨_,_,_,e⟩:=x;exact⟨_,e⟩
 |frz b u=>obtain⟨e,_⟩:=x;exact⟨_,e⟩
 |tbl ps=>exact⟨_,show h.get? a=some _ from x⟩
 |met f y=>exact⟨_,show h.get? a=some _ from x⟩
 |ext c=>obtain⟨_,⟨_,e⟩,_⟩:=x;exact⟨_,e⟩
theorem eB.has(x:eB P w H h)(e:H a≠aG):∃u,h.get? a=some u:=by
 cases q:H a with
 |none=>exact absurd q e
 |some o=>exact(x a o q).has
theorem RJ(a:A.frames=some (env::outer))(b:env.frame=some L)(x:lc base (env::outer) e cls d p .none s.heap)
 (h:∀h',lc base outer e cls d p .none h'->s.heap.UpToSlots h'->Q () {s with heap:=h'}):aU M A (leaving env (.ref e)) Q E s:=by
 unfold leaving;refine aO (Eb a b x λh1 c f=>?_);refine tE (fr:=aG) (s:={s with heap:=h1}) c λh2 ⟨p1,D,⟨_,_,g⟩,i⟩ j=>?_;exact h h2 ⟨p1,D,g,i⟩ (f.trans j)
section
variable{P:bT}{w:bN}{K:bI}{mg:aA->Option aE}{base:bE}{N:List aA}{j:aA}{scope:jI}{f:aB}{cd:aE}{A:bX}{outer:List eP}{s:aK}{H:aD}{E:dL}
theorem yl{U:List (aB×aY)}{Y:St}{z H':aD}{s1 L:aK}{B h2:bE}{ea:aB}{cls d:aE}{p:Option aB}(I:Inv (iH (kc P w) P w K mg base N j scope f cd A outer s H E) U Y z s1)(os:L.os=s1.os)(bare:AllBare L.gens)
 (u:eC (gO (envOfC j scope s.heap.objs.size f cd::outer)) [] z H' s1.heap L.heap)(m:eB P w H' L.heap)(t:∀b o G,s1.heap.get? b=some o->L.heap.get? b=some G->b∉gO (envOfC j scope s.heap.objs.size f cd::outer)->B.get? b=some G)
 (x:∀b G,H' b≠aG->L.heap.get? b=some G->B.get? b=some G)(fl:lc B outer ea cls d p .none h2)(us:L.heap.UpToSlots h2)(q:E cls p H'):kc P w outer H s E (.ref ea) {L with heap:=h2}:=by
 have h:=Dl (h2:=h2) I os bare u m t x fl.1 us;refine⟨ea,cls,d,p,B,H',O,h.os,h.bare,h.base,h.hok,fl,λb o G e i D=>?_,λb G n i=>?_,q⟩
 .obtain⟨y,C⟩:=I.base.there b o e (λk=>absurd k (by simp[iH]));obtain⟨a,l⟩:=u.there b y C (by simp);have J:b∉gO (envOfC j scope s.heap.objs.size f cd::outer):=λk=>by
   have lt:b<s.heap.objs.size:=dQ e;have M:b∈s.heap.objs.size::gO outer:=k;rcases eM.mp M with r|r
   .exact absurd lt (by rw[r];exact nj _)
   .exact D r
  have c:=t b y a C l J;have g:=fl.1 b a c;rw[show h2.get? b=some G from i]at g;cases g;exact c
 .obtain⟨a,l⟩:=m.has n;have c:=x b a n l;have g:=fl.1 b a c;rw[show h2.get? b=some G from i]at g;cases g;exact c
theorem o4:oj (kc P w) (iH (kc P w) P w K mg base N j scope f cd A outer s H E) E:=λU Y z s1 e L I h=>by
 obtain⟨ea,cls,d,p,B,H',rfl,os,bare,u,a,fl,b,c,q⟩:=h;exact RJ (env:=envOfC j scope s.heap.objs.size f cd) (outer:=outer) I.ok.frames O fl λh2 g us=>yl I os bare u a b c g us q
theorem Oy(I:Inv (iH (kc P w) P w K mg base N j scope f cd A outer s H E) U Y z s1)(a:xG s1.heap h1 e cls args)(q:E cls aG z) :
  (iH (kc P w) P w K mg base N j scope f cd A outer s H E).xe (.ref e) {s1 with heap:=h1}:=by
 have S:s1.heap.FunFrames base (envOfC j scope s.heap.objs.size f cd::outer):=I.stack;have k:∀v∈envOfC j scope s.heap.objs.size f cd::outer,∀b,v.frame=some b->b∈gO (envOfC j scope s.heap.objs.size f cd::outer):=λv l b m=>uj.mpr ⟨v,l,m⟩;refine OX (base:=xw s1.heap (gO (envOfC j scope s.heap.objs.size f cd::outer))) (h:=s1.heap) (env:=envOfC j scope s.heap.objs.size f cd) (outer:=outer) I.ok.frames O (λb o g=>xi _ g) (PySem.W.funFrames_hide S k) a λh2 t fl us=>?_;refine yl (s1:=s1) (L:={s1 with heap:=h1}) I O I.bare (eC.kept a.keeps) (I.hok.kept a.keeps) (λb o G c i p=>?_) (λb G n i=>?_) fl us q
 .have d:=a.keeps b o c;rw[show h1.get? b=some G from i]at d;cases d;exact r6 _ c p
 .obtain⟨o,c⟩:=I.hok.has n;have d:=a.keeps b o c;rw[show h1.get? b=some G from i]at d;cases d;exact r6 _ c λg=>n (I.stkFree b g)
end
abbrev om:List aE:=[.type "ValueError",.type "Exception",.type "BaseException",.type "object"]
structure oL (K:bI) (C:aB):Prop where
 q:PySem.W.excIn K C om "ValueError.__new__"=aC
theorem oL.own{K:bI}{C:aB}{h:bE}{x:aA}{mg:aA->Option aE}(E:oL K C)(X:K.In h)(hm:mg x=some (.ref C)):OwnCls x C om "ValueError.__new__" mg h:=by
 refine⟨hm,?_⟩;have q:=E.q;unfold PySem.W.excIn at q;split at q
 .rename_i j k l m;split at q
  .rename_i b tl d a1 a2 a3 n c em es;have e:=iV.mp q;have a:=iV.mp e.1;have f:=iV.mp a.1;have g:=iV.mp f.1;have i:=iV.mp g.1;obtain rfl:b=C:=beq_iff_eq.mp i.1;obtain rfl:n="ValueError.__new__":=beq_iff_eq.mp i.2;obtain⟨o,p,r,s,t,u,w,y,z,A,B⟩:=k;obtain rfl:r=.ref b::tl:=em;obtain rfl:B=aJ:=by simpa using g.2
   obtain⟨D⟩:=l;obtain rfl:D=[d,a1,a2,a3,some (.builtin "ValueError.__new__"),c]:=es;exact⟨tl,s,o,t,p,u,w,y,z,A,j,d,a1,a2,a3,c,_,X _ _ m,.of_isNs (PySem.W.isNs_of_in X a.2),PySem.W.nsMap_none_of_in X a.2 (beq_iff_eq.mp e.2),PySem.W.tail_of_in X f.2⟩
  .cases q
 .cases q
def En(X:aZ)(E:dL):Prop:=∀(U:List (aB×aY))(Y:St)(H:aD)(s:aK)(h1:bE)(e:aB)(cls:aE)(args:List aE),Inv X U Y H s->xG s.heap h1 e cls args->E cls aG H->X.xe (.ref e) {s with heap:=h1}
theorem vZ{P:bT}{w:bN}{K:bI}{mg:aA->Option aE}{base:bE}{N:List aA}{j:aA}{scope:jI}{f:aB}{cd:aE}{A:bX}{outer:List eP}{s:aK}{H:aD}{E:dL} :
  En (iH (kc P w) P w K mg base N j scope f cd A outer s H E) E:=λ_ _ _ _ _ _ _ _ I a q=>Oy I a q
section
variable{X:aZ}{C:aB}{x:aA}{E:dL}{np c pos:Pos}{e:bJ}{es:List bJ}{t:fU}
def Pu(C:aB)(E:dL)(t:fU):eR:=λ_ Y H=>t Y H λvs z=>vs.length<=dH/\E (.ref C) aG z
theorem wv(hm:X.mg x=some (.ref C))(d:oL X.K C)(f:X.calm=aC)(R:En X E)(i:jf X (e::es) t)(j:jH X x:=by rfl)(k:(x==("__debug__":aA))=aJ:=by decide)
 (b:dA (e::es) X.env=(aJ,eval e X.env)::dA es X.env:=by rfl)(m:(backTo c (dA es X.env)).any (·.1)=aJ:=by rfl) :
  jY X (.Raise (some (.Call (.Name x np) (e::es) [] c)) aG pos) (Pu C E t):=by
 refine⟨?_⟩;intro U s Y H D I h;obtain⟨tl,N,nm,n,bs,l,sn,sub,ab,u,dd,k0,k1,k2,k3,k5,mN,o,p,r,T⟩:=(d.own I.ok.mod.kin hm).obj;refine wpAny_Raise_call_subT (C:=C) (N:=N) (nm:=nm) (q:=n) (bs:=bs) (bm:=tl) (hdct:=l) (sn:=sn) (sub:=sub) (ab:=ab) (col:=u) (dd:=dd) (k0:=k0) (k1:=k1) (k2:=k2) (k3:=k3) (k5:=k5)
  py (mN:=mN) (T.hasType py.hasBase) (I.ok.hd f) ?_ r (qo I j hm ⟨O,?_⟩ k)
 .rw[b];show(aJ||(backTo c (dA es X.env)).any (·.1))=aJ;rw[m];rfl
 .have g:=i c U s Y H _ I h;rw[b]at g ⊢;refine r5 (cD g λus w ⟨vs,H2,a,y,z,q⟩=>?_);exact⟨O,by rw[←y.length];exact z,a.bk _ _ o,p.keeps a.bk,T.keeps a.bk,λh1 ea A=>R U Y H2 w h1 ea _ _ a A q⟩
end
def qy(X:aZ)(U:List (aB×aY))(Y:St)(E:dL)(e:aE)(L:aK):Prop:=∃s1 z,Inv X U Y z s1/\kc X.prog X.w X.stack z s1 E e L
abbrev xU:=dL->bG
structure u1 (X:aZ) (e:bJ) (t:xU):Prop where
 run:∀(U:List (aB×aY))(s:aK)(Y:St)(H:aD)(Q:aP)(E:dL),Inv X U Y H s->t E Y H Q->aU (aX X.prog X.w) X.A (eval e X.env) (gG X U Y Q) (qy X U Y E) s
instance {X:aZ} {e:bJ} {t:xU}:CoeFun (u1 X e t) λ_=>∀(U:List (aB×aY))(s:aK)(Y:St)(H:aD)(Q:aP)(E:dL),Inv X U Y H s->t E Y H Q->aU (aX X.prog X.w) X.A (eval e X.env) (gG X U Y Q) (qy X U Y E) s:=⟨u1.run⟩
section
variable{X:aZ}{k:Nat}{f C:aB}{fd:iW}{ps:List aA}{sp:cA}{E:dL}{x m:aA}{p pos i:Pos}{e o:bJ}{es:List bJ}{M:bG}{t:fU}
theorem gG.unwish(h:gG (X.wish F) U Y Q u L):gG X U Y Q u L:=by
 obtain⟨v,H',I,r,q⟩:=h;exact⟨v,H',I.unwish,r,q⟩
theorem Ow(F:iP X.prog X.w X.K X.mg X.base (kc X.prog X.w) k f fd ps sp)(c:eQ k X.A)(d:kj X.K fd ps [])
 (I:Inv X U Y H s)(r:cB vs us)(h:sp vs H Q E):aU (aX X.prog X.w) X.A (call (.ref f) us) (gG X U Y Q) (qy X U Y E) s:=by
 have j:Inv (X.wish (qy X U Y E)) U Y H s:=I.wish _;have g:(us++[]).length=ps.length:=by rw[kG,←r.length];exact F.len _ _ _ _ h
 have b:=d s us I.kIn g;rw[kG]at b;refine lK (nl (F.run X.A X.stack s H ⟨us,[]⟩ us vs Q E c I.env0 b r h) λi L a=>?_);cases i with
 |error e=>exact⟨s,H,I,a⟩
 |ok fl=>
  cases fl with
  |ret u=>exact I.after a
  |next=>exact gZ a
  |brk=>exact gZ a
  |cont=>exact gZ a
end
structure kI (P:bT) (w:bN) (K:bI) (mg:aA->Option aE) (base:bE) (k:Nat) (x:aA) (ps:List aA) (sp:cA):Prop where
 ex:∃(f:aB)(fd:iW),iP P w K mg base (kc P w) k f fd ps sp/\kj K fd ps []/\mg x=some (.ref f)/\mG K (.ref f)=aC
structure uY (P:bT) (w:bN) (K:bI) (mg:aA->Option aE) (base:bE) (k:Nat) (C:aB) (m:aA) (ps:List aA) (sp:cA):Prop where
 ex:∃(f:aB)(fd:iW),iP P w K mg base (kc P w) k f fd ps sp/\kj K fd ps []/\qZ K C m f
structure UF (P:bT) (w:bN) (K:bI) (mg:aA->Option aE) (base:bE) (k:Nat) (C:aB) (ps:List aA) (sp:cA):Prop where
 ex:∃(f:aB)(fd:iW),iP P w K mg base (kc P w) k f fd ps sp/\kj K fd ps []/\sJ K C f
section
variable{P:bT}{w:bN}{K:bI}{mg:aA->Option aE}{base:bE}{C:aB}{x m j:aA}{st:bS}{N ps:List aA}{k:Nat}{sp a:cA}
theorem lN.okX(F:lN K x j st f fd)(S:cN N ps (bP st))(len:∀vs H Q E,sp vs H Q E->vs.length=ps.length)
 (b:∀(a:aE)(A:bX)(outer:List eP)(s:aK)(H:aD)(vs:List V)(Q:aP)(E:dL),eQ k (A.deeper (envOfC j (bP st) s.heap.objs.size f a))->sp vs H Q E ->
   ∃t,iQ (iH (kc P w) P w K mg base N j (bP st) f a A outer s H E) (jC st) t/\t {nx:=λ_ H'=>Q .non H',rt:=Q} (start N vs) H):iP P w K mg base (kc P w) (k+1) f fd ps sp:=by
 obtain⟨g,h,kV,doc,pm,i,a,l,m,rfl,lk,c⟩:=F.ex;exact yP lk c S len λA outer s H vs Q E d e=>b a A outer s H vs Q E d e
theorem dE.fcX(D:dE K mg x st ps)(S:cN N ps (bP st))(len:∀vs H Q E,sp vs H Q E->vs.length=ps.length)
 (c:∀(f:aB)(a:aE)(A:bX)(outer:List eP)(s:aK)(H:aD)(vs:List V)(Q:aP)(E:dL),eQ k (A.deeper (envOfC x (bP st) s.heap.objs.size f a))->sp vs H Q E ->
   ∃t,iQ (iH (kc P w) P w K mg base N x (bP st) f a A outer s H E) (jC st) t/\t {nx:=λ_ H'=>Q .non H',rt:=Q} (start N vs) H):kI P w K mg base (k+1) x ps sp:=by
 obtain⟨f,fd,F,b,d⟩:=D.ex;exact⟨f,fd,F.okX S len λa A outer s H vs Q E e h=>c f a A outer s H vs Q E e h,b,d,F.kp⟩
theorem MethAt.mcX(D:MethAt K C m j st ps)(S:cN N ps (bP st))(len:∀vs H Q E,sp vs H Q E->vs.length=ps.length)
 (c:∀(f:aB)(a:aE)(A:bX)(outer:List eP)(s:aK)(H:aD)(vs:List V)(Q:aP)(E:dL),eQ k (A.deeper (envOfC j (bP st) s.heap.objs.size f a))->sp vs H Q E ->
   ∃t,iQ (iH (kc P w) P w K mg base N j (bP st) f a A outer s H E) (jC st) t/\t {nx:=λ_ H'=>Q .non H',rt:=Q} (start N vs) H):uY P w K mg base (k+1) C m ps sp:=by
 obtain⟨f,fd,F,b,d⟩:=D.ex;exact⟨f,fd,F.okX S len λa A outer s H vs Q E e h=>c f a A outer s H vs Q E e h,b,d⟩
end
section
variable{X:aZ}{k:Nat}{C:aB}{ps:List aA}{sp:cA}{E:dL}{x m:aA}{p pos i:Pos}{e o:bJ}{es:List bJ}{M:bG}{t:fU}
theorem jf.cat(a:jf X.nox es t)(I:Inv X U Y H s)(h:t Y H Q):aU (aX X.prog X.w) X.A (spliced (backTo pos (dA es X.env))) (rT X U Y Q) F s:=
 fL (a pos U s Y H Q (I.wish _) h) (λ_ _ ⟨vs,H',b,r,q⟩=>⟨vs,H',b.unwish,r,q⟩) λ_ _ c=>gZ c
theorem bL.cat(b:bL X.nox e M)(I:Inv X U Y H s)(h:M Y H Q):aU (aX X.prog X.w) X.A (eval e X.env) (gG X U Y Q) F s:=
 fL (b U s Y H Q (I.wish _) h) (λ_ _ a=>a.unwish) λ_ _ a=>gZ a
theorem RD(c:kQ X.K C)(F:uY X.prog X.w X.K X.mg X.base k C m ps sp)(w:eQ k X.A)(x:bL X.nox o M)(A:jf X.nox (e::es) t)
 (B:dA (e::es) X.env=(aJ,eval e X.env)::dA es X.env:=by rfl)(D:(backTo pos (dA es X.env)).any (·.1)=aJ:=by rfl)
 (J:eval (.Call (.Attribute o m i) (e::es) [] pos) X.env=(do
   let d ←eval o X.env
   standAt i.atName
   let (f,first) ←holding [d] (nu d m pl)
   pR pos f first (backTo pos (dA (e::es) X.env)) (lL pos (lI [] X.env))):=by rfl) :
  u1 X (.Call (.Attribute o m i) (e::es) [] pos) (λE=>sR C m sp [] E M t):=by
 refine⟨?_⟩;intro U s Y H Q E I h;obtain⟨f,fd,G,b,g⟩:=F.ex;refine t7 (pl:=pl) (cD (x.cat I h) λu s1 ⟨y,z,j,L,a,dx,fs,ex,ea,l,q⟩=>?_) J;subst ex;obtain rfl:u=cZ a:=L;refine zC j ea c g l ?_;refine uf (first:=[.ref a]) (h₀:=X.base) I.ok.mod.kin g.kp (cD (A.cat j q) λus N ⟨vs,H2,n,r,p⟩=>⟨n.kIn,?_⟩) B D;simp only[EI,EH,Ec,kG]at p;exact Ow (us:=.ref a::us) (vs:=.ref a::vs) G w b n (.cons O r) p
abbrev TB:=dL->eR
structure uZ (X:aZ) (body:List bS) (t:TB):Prop where
 run:∀(U:List (aB×aY))(s:aK)(Y:St)(H:aD)(D:Ends)(E:dL),Inv X U Y H s->t E D Y H->aU (aX X.prog X.w) X.A (execs body X.env) (kT X U D) (qy X U Y E) s
instance {X:aZ} {body:List bS} {t:TB}:CoeFun (uZ X body t) λ_=>∀(U:List (aB×aY))(s:aK)(Y:St)(H:aD)(D:Ends)(E:dL),Inv X U Y H s->t E D Y H->aU (aX X.prog X.w) X.A (execs body X.env) (kT X U D) (qy X U Y E) s:=⟨uZ.run⟩
theorem OJ{t:xU}(a:u1 X e t)(b:pP e aG pos.line X.env=pure aJ:=by rfl):uZ X [.Expr e pos] (λE=>Eu (t E)):=by
 refine⟨?_⟩;intro U s Y H D E I h;refine xI (wpAny_Expr_any (cD (a U s Y H _ E I h) λv s1 ⟨y,z,c,f,d⟩=>?_) I.quiet b);exact qH ⟨Y,z,c,d⟩
end
abbrev aZ.held (X:aZ) (ea:aB):aZ:={X with A:=X.A.mark (some (.ref ea)),calm:=aJ,xe:=λ_ _=>False}
section
variable{X:aZ}{U:List (aB×aY)}{Y:St}{H H':aD}{s L:aK}{ea:aB}
theorem aZ.Ok.held(a:X.Ok)(ea:aB):(X.held ea).Ok:=
 ⟨a.mod,a.kind,a.glob,a.blt,a.above,a.inj,a.has,a.cab,λb=>absurd b (by simp),a.frames,a.stk,a.exf,a.bs,a.bsz,a.noex,a.exfs,a.funs,a.frf⟩
theorem Inv.held(I:Inv X U Y H s)(ea:aB):Inv (X.held ea) U Y H s:=⟨I.ok.held ea,I.os,I.bare,I.base,I.loc,I.cell,I.free,I.freeC,I.pin,I.hok,I.len⟩
theorem Inv.unheld(a:X.Ok)(I:Inv (X.held ea) U Y H s):Inv X U Y H s:=⟨a,I.os,I.bare,I.base,I.loc,I.cell,I.free,I.freeC,I.pin,I.hok,I.len⟩
theorem kT.unheld(a:X.Ok)(h:kT (X.held ea) U D f L):kT X U D f L:=by
 cases f with
 |next=>obtain⟨σ',H',I,q⟩:=h;exact⟨σ',H',I.unheld a,q⟩
 |brk=>obtain⟨σ',H',I,q⟩:=h;exact⟨σ',H',I.unheld a,q⟩
 |cont=>obtain⟨σ',H',I,q⟩:=h;exact⟨σ',H',I.unheld a,q⟩
 |ret u=>obtain⟨v,σ',H',I,r,q⟩:=h;exact⟨v,σ',H',I.unheld a,r,q⟩
end
theorem ME(fl:bE.FlyingW B l ea cls d h):rU M h (typeOf (.ref ea)) cls:=by
 obtain⟨c,a,b⟩:=fl.there;subst b;exact(r8 a).andThen .now
def Fa(a:aB)(cls:aE)(p:Option aB)(h:bE):Prop:=∃o vs,h.get? a=some o/\o.cls=cls/\o.data=.fields vs/\o.dict=p
def lC(a:aB)(cls:aE)(p:Option aB):dX:=.ext (Fa a cls p)
theorem eC.new(u:eC fs ex H H' h h')(n:H' a=aG)(d:h.get? a=aG):eC fs ex H (aI H' a o) h h' where
 keep:=u.keep
 slot:=u.slot
 free:=λb c e f g=>by
  rw[bD (λi=>by rw[i,d]at e;cases e)];exact u.free b c e f g
 there:=u.there
 tups:=λb xs e=>by rw[bD (dC (u.tups b xs e) n)];exact u.tups b xs e
 frzs:=λb c v e=>by rw[bD (dC (u.frzs b c v e) n)];exact u.frzs b c v e
 tbls:=λb ps e=>by
  obtain⟨m,q⟩:=u.tbls b ps e;exact⟨m,by rw[bD (dC q n)];exact q⟩
theorem eB.new(f:eB P w H h)(n:H a=aG)(new:dR P w (aI H a o) h a o):eB P w (aI H a o) h:=λb u e=>by
 by_cases d:b=a
 .subst d;rw[aV]at e;cases e;exact new
 .rw[bD d]at e;exact(f b u e).stay (λ_ _ _ q=>q) (λc q=>by rw[bD (dC q n)];exact q) λc xs q=>by rw[bD (dC q n)];exact q
section
variable{X:aZ}{U:List (aB×aY)}{Y:St}{H H':aD}{s L:aK}{B h2:bE}{ea:aB}{cls d:aE}{p:Option aB}
theorem NN(I:Inv X U Y H s)(os:L.os=s.os)(bare:AllBare L.gens)(u:eC (gO X.stack) [] H H' s.heap L.heap)(g:eB X.prog X.w H' L.heap)(h:∀b o G,s.heap.get? b=some o->L.heap.get? b=some G->b∉gO X.stack->B.get? b=some G)
 (i:∀b G,H' b≠aG->L.heap.get? b=some G->B.get? b=some G)(fl:lc B X.stack ea cls d p .none h2)(us:L.heap.UpToSlots h2):H' ea=aG/\Inv X U Y (aI H' ea (lC ea cls p)) {L with heap:=h2}:=by
 obtain⟨oe,j,_,_,_,e,t,_,w,l,_⟩:=fl.2.2.2;have x:=Ei I u h fl.1 us;have k2:=Dm (h2:=h2) g i fl.1;have n:H' ea=aG:=by
  cases q:H' ea with
  |none=>rfl
  |some o=>
   have m:H' ea≠aG:=by rw[q];simp
   obtain⟨f,a⟩:=g.has m;have:=i ea f m a;rw[fl.2.1]at this;cases this
 have y:s.heap.get? ea=aG:=by
  cases q:s.heap.get? ea with
  |none=>rfl
  |some o=>
   obtain⟨f,a⟩:=u.there ea o q (by simp);by_cases r:ea∈gO X.stack
   .obtain⟨_,D,c,z⟩:=fl.2.2.1.mem r;rw[e]at c;cases c;exact absurd l (z j)
   .have:=h ea o f q a r;rw[fl.2.1]at this;cases this
 refine⟨n,I.call' (L:={L with heap:=h2}) (ch:=[]) os (x.new n y) (k2.new n ?_) bare λb A=>absurd A (by simp)⟩;exact⟨⟨oe,j,e,t,l,w⟩,⟨oe,e⟩,λh1 E ⟨o,vs,c,a,C⟩ k=>⟨o,vs,k o c,a,C⟩⟩
theorem v4{M:Model}{A:bX}{E:aE->aK->Prop}{i:Nat}{n:aA}{pos:Pos}{Q:Unit->aK->Prop}(I:Inv X U Y H s)(N:X.N.Nodup)(hi:X.N[i]?=some n)(T:X.env.scope.names.lookup n=some .local)
 (h:∀ L,Inv X U (Y.set i aG) H L->Q () L):aU M A (do bindName X.env n .none;unbindBehindTheSuite X.env n pos) Q E s:=by
 obtain⟨m,z,a0⟩:=id I.loc;have a1:(X.env.scope.kind == .class || (X.env.scope.kind == .module && X.env.locals != X.env.globals))=aJ:=by rw[I.ok.kind];rfl
 have a2:i<Y.length:=by rw[I.len];exact (dI.mp hi).1
 obtain⟨ae,_,_,af,_⟩:=id z;have w:∀ b o,X.s₀.heap.get? b=some o->b≠X.env.locals:=λ b o e=>eF (iK (dQ e) I.ok.above);refine PySem.wpAny_nameGoes_keeps T z a1 λ h' v a3 a=>h _ ?_;refine⟨I.ok,I.os,I.bare,⟨λ b o e l x r=>?_,λ b o e l x r=>?_,I.base.free,λ b o e r=>?_,I.base.tups,I.base.frzs,I.base.tbls⟩,⟨_,a3,λ j y a4 g t a5=>?_⟩,λ y c e=>?_,I.free,I.freeC,λ p a6=>?_,λ b a7 e=>?_,by simpa using I.len⟩
 .exact (a.2 b (w b o e)).trans (I.base.keep b o e l x r)
 .obtain⟨a8,g⟩:=I.base.slot b o e l x r;exact⟨a8,(a.2 b (w b o e)).trans g⟩
 .obtain⟨G,g⟩:=I.base.there b o e r;exact⟨G,(a.2 b (w b o e)).trans g⟩
 .have B:j≠i:=λ f=>by
   subst f;rw[xa a2] at t;cases t
  rw[qB (Ne.symm B)] at t;obtain⟨C,a9,q⟩:=a0 j y a4 g t a5;refine⟨C,a9,?_⟩;rcases q with ⟨k,e⟩ | ⟨k,c,e,f⟩
  .refine .inl ⟨k,?_⟩;have aa:y≠n:=λ f=>B (wx N g (f▸hi));show (if y=n then v else m y)=some C;rw[if_neg aa];exact e
  .exact .inr ⟨k,c,e,f.sameBut a (I.cne y c e)⟩
 .obtain⟨D,f⟩:=I.cell y c e;exact⟨D,f.sameBut a (I.cne y c e)⟩
 .obtain⟨e,l,J,ac,d⟩:=I.pin p a6;exact⟨(a.2 p.1 J).trans e,l,J,ac,d⟩
 .refine (I.hok b a7 e).stay (λ c D u q=>(a.2 c ?_).trans q) (λ_ q=>q) λ_ _ q=>q;rintro rfl;rcases u with rfl | u
  .rw[I.free] at e;cases e
  .rw[I.free] at u;cases u
end
section
variable{X:aZ}{C:aB}{x n:aA}{np a2 pos:Pos}{body A:List bS}{Q:bS}{tb:TB}{m:eR}{i:Nat}
def Ends.gone(D:Ends)(i:Nat):Ends:={nx:=λY H=>D.nx (Y.set i aG) H,rt:=D.rt,bk:=λY H=>D.bk (Y.set i aG) H,ct:=λY H=>D.ct (Y.set i aG) H}
def QA(K:bI)(C:aB)(i:Nat)(tb:TB)(m:eR):eR:=λD Y H=>tb (λcls p z=>uy K cls (.ref C)=some aC/\∀ea,z ea=aG->m (D.gone i) (Y.set i (some (.ref ea))) (aI z ea (lC ea cls p))) D Y H
theorem Oz(j:X.N.Nodup)(hi:X.N[i]?=some n)(g:X.env.scope.names.lookup n=some .local)(hm:X.mg x=some (.ref C))(N:uZ X body tb)(T:∀ea,iQ (X.held ea) (Q::A) m)(a0:jH X x:=by rfl)(a1:(x==("__debug__":aA))=aJ:=by decide)
 (o:X.stack=X.env::X.outer:=by rfl)(a3:X.env.frame=some X.env.locals:=by rfl) :
  jY X (.Try body [.ExceptHandler (some (.Name x np)) (some n) (Q::A) a2] [] [] pos) (QA X.K C i tb m):=by
 refine⟨?_⟩;intro U s Y H D I h;refine wpAny_Try_except (fL (N U s Y H D _ I h) (λf s1 q=>?_) λe s1 q=>?_)
 .cases f with
  |next=>exact qH q
  |ret v=>exact q
  |brk=>exact q
  |cont=>exact q
 .obtain⟨ai,H0,w,ea,cls,d,p,B,H',rfl,os,bare,u,z,fl,E,G,em,q⟩:=q;have a4:X.A.frames=some (X.env::X.outer):=o▸I.ok.frames;have a5:lc B (X.env::X.outer) ea cls d p .none s1.heap:=o▸fl;refine Eb a4 a3 a5 λa6 a7 J=>?_;refine tE (fr:=aG) (s:={s1 with heap:=a6}) a7 λa8 r L=>?_;have M:=Dl w os bare u z E G r.1 (J.trans L);refine wpAny_handleBy_cons (codeAny_handlers_test (qo (X:=X.held ea) (M.held ea) a0 hm ?_ a1)) (by intro k;cases k);refine(PySem.W.exm_one M.kIn (ME r.w) em).here ?_;refine codeAny_handlers_suite_as ?_;refine tE (fr:=aG) (s:={s1 with heap:=a8}) r λaj a9 aa=>?_;obtain⟨ac,ae⟩:=NN w os bare u z E G (o.symm▸a9) ((J.trans L).trans aa);refine wo (X:=X.held ea) (i:=i) (v:=.ref ea) (ae.held ea) j hi (.inl g) O (λaf ag=>?_) (.inr g);refine fL (T ea U af _ _ (D.gone i) ag (q ea ac)) (λf ak k=>?_) λ_ _ k=>gZ k;have l:=k.unheld (X:=X) I.ok;cases f with
  |next=>
   obtain⟨σ',H2,a,b⟩:=l;exact v4 a j hi g λt c=>⟨_,H2,c,b⟩
  |brk=>
   obtain⟨σ',H2,a,b⟩:=l;exact v4 a j hi g λt c=>⟨_,H2,c,b⟩
  |cont=>
   obtain⟨σ',H2,a,b⟩:=l;exact v4 a j hi g λt c=>⟨_,H2,c,b⟩
  |ret v=>
   obtain⟨y,σ',H2,a,ah,b⟩:=l;exact v4 a j hi g λt c=>⟨y,_,H2,c,ah,b⟩
end
section
open PySem.W PySem.Calls PySem.Builtin PySem.Builtin.ObjectAttr PySem.Builtin.Getset_descriptor
variable{prog:bT}{w:bN}{A:bX}{E:aE->aK->Prop}{s:aK}{K:bI}{x C:aB}
theorem LA(X:K.In h)(b:findIn K (.ref C) name=some (some a))(c:specialIn K a "__get__"=some (some g))(d:takesIn K a=some aC) :
  Looks M h (find (.ref x) (.ref C) name) (.bind g a):=
 (ll (M:=M) X b).andThen ((show Looks M h (getOf (some a)) (some g) from looks_specialIn X c).andThen
  ((show Looks M h (dataDescriptor? (some a) (some g)) (some (g,a)) from(looks_takesIn (M:=M) X d).andThen .now).andThen (Looks.tag .now)))
theorem NX(X:K.In s.heap)(b:Looks (aX prog w) s.heap (typeOf (.ref x)) (.ref C))(hm:mroIn K C (.type "object")=some aC)(h:R (.ok (.ret (.ref C))) s) :
  codeAny (aX prog w) A (.call (.builtin "getset_descriptor.__get__") ⟨[.builtin "object.__class__",.ref x,a],[]⟩) R s:=by
 have c:=uV (M:=aX prog w) X hm;obtain⟨h2,d,e,f,g⟩:=s;refine pA KF.slot_gs.plain KF.entry_gs (KF.slot_gs.check _ _ _ _ _ _ _ _ KF.type_class (KF.args_gs _ _ _) (?_));unfold Builtin.«getset_descriptor.__get__»;unfold descrGet;rw[dga_obj];refine aO (bH ?_);unfold descrGetter descrCheckInstance;unfold descrNameAndClass qV;simp only[KF.owner_class]
 repeat lk
 refine⟨uo _ VE,(nh KF.entry_class ?_)⟩;unfold Builtin.«object.__class__»;unfold shownTypeOf
 repeat lk
 exact h
end
structure Ag (K:bI) (C:aB):Prop where
 ex:oL K C
 em:uy K (.ref C) (.ref C)=some aC
structure UC (K:bI) (C:aB):Prop extends Ag K C where
 pg:r9 K C "__class__"=aC
 ic:sG K C
section
open PySem.W PySem.Calls PySem.Builtin PySem.Builtin.ObjectAttr PySem.Builtin.Getset_descriptor
variable{prog:bT}{w:bN}{A:bX}{E:aE->aK->Prop}{s:aK}{K:bI}{x C:aB}
theorem Kw(X:K.In s.heap)(a:Looks (aX prog w) s.heap (typeOf (.ref x)) (.ref C))(c:findIn K (.ref C) "__getattribute__"=some (some (.builtin "BaseException.__getattribute__")))(hgt:findIn K (.ref C) "__getattr__"=some aG)
 (d:mroIn K C (.type "BaseException")=some aC)(I:sG K C)(h:Q (some (.ref C)) {s with toks:=s.toks+1}):aU (aX prog w) A (getAttr? (.ref x) "__class__") Q E s:=by
 have e:=ll (M:=aX prog w) X c;have f:=LA (M:=aX prog w) (x:=x) X I.ha I.hn I.htk;have g:=ll (M:=aX prog w) X hgt;have i:=uV (M:=aX prog w) X d;have j:=X;obtain⟨h2,k,l,b,m⟩:=s;unfold getAttr?;unfold getAttrBy?;unfold getAttrBy;refine aO (wpAny_mkText (aO (pI (jn (aO (a.at (aO (e.at (?_)))))))));have n:(sj "BaseException.__getattribute__" == sj "object.__getattribute__")=aJ:=VE;dsimp only;rw[n,Bool.and_false,if_neg fX];unfold xM hookBefore;refine aO (show aU _ _ (oH (.ref C) "__getattr__") _ _ _ from g.at ?_);refine aO (pI (jn ?_));show aU _ _ (sk _ _ _) _ _ _;unfold sk;refine aO (kb (t4.ga.bind (.ref x)) ?_);show aU _ _ (call (.builtin "BaseException.__getattribute__") [.ref x,.str "__class__" b]) _ _ _;refine lK (pA t4.ga.plain F.entry_bexc_ga ?_);have o:uW "BaseException.__getattribute__"=some .slot:=VE;have p:splitId "BaseException.__getattribute__"=some ("BaseException","__getattribute__"):=VE;have q:=F.args_bexc_ga (.ref x) (.str "__class__" b);simp only[uF,o,p];refine aO ?_;unfold qV;refine aO (a.at (i.at ?_));rw[if_neg VD];refine kb q ?_;unfold Builtin.«object.__getattribute__»;refine aO (bH ?_);refine aO (bH ?_);refine aO (a.at ?_);refine aO (f.at ?_);dsimp only;show aU _ _ (holding [.builtin "object.__class__"] (call (.builtin "getset_descriptor.__get__") [.builtin "object.__class__",.ref x,.ref C])>>=ret) _ _ _;refine aO (jn (lK (NX (s:=⟨h2,k,l,b+1,m⟩) j a I.hm (?_))));refine bH ?_;dsimp only;exact handed_on O (bH h)
end
structure qR (K:bI) (C:aB):Prop extends Ag K C where
 ga:ka K (.ref C) "__getattribute__"=some (some (.builtin "BaseException.__getattribute__"))
 gt:ka K (.ref C) "__getattr__"=some aG
 mb:PySem.W.mroIn K C (.type "BaseException")=some aC
 ic:sG K C
section
variable{X:aZ}{k:Nat}{ps:List aA}{sp:cA}{x:aA}{p pos:Pos}{e:bJ}{es:List bJ}{t:fU}{E:dL}
theorem pi(F:kI X.prog X.w X.K X.mg X.base k x ps sp)(a:eQ k X.A)(c:oj (kc X.prog X.w) X E)(d:jf X (e::es) t)(g:jH X x:=by rfl)(h:(x==("__debug__":aA))=aJ:=by decide)
 (i:dA (e::es) X.env=(aJ,eval e X.env)::dA es X.env:=by rfl)(j:(backTo pos (dA es X.env)).any (·.1)=aJ:=by rfl):bL X (.Call (.Name x p) (e::es) [] pos) (yK sp [] E t):=by
 obtain⟨f,fd,G,b,m,kp⟩:=F.ex;exact CW G a g m kp b .nil c d h i j
end
section
variable{prog:bT}{w:bN}{A:bX}{E:aE->aK->Prop}{h:bE}{g:Array mM}{d:Drawn}{t:Nat}{os:OsState}{nm q:aA}{C N:aB}{bs bm H:List aE}{l:Bool}{sn:List aA}{sub:List aE}{ab:Bool}{u:Option Bool}{dd:Option aB}{k0 k1 k2 k3 k5:Option aE}{B k y:String}
theorem TZ(F:ExcBaseFacts B k y H){rest:List aE}{fI:aB}{f:aY}{Q:PySem.Fin->aK->Prop}(a:h.get? C=some (qS nm q C N bs bm l sn sub ab u dd k0 k1 k2 k3 k5 k))(T:OwnTail h H bm)
 (hi:rU (aX prog w) h (oH (.ref C) (pM "__init__")) (some (.ref fI)))(j:h.get? fI=some f)(n:f.cls=.type "function")(p:rest.length<=dH)
 (s:∀h' e,h.MadeExcOf h' e (.ref C) rest->aU (aX prog w) A (call (.ref fI) (.ref e::rest)) (λr L=>r=.none/\Q (.done (.ret (.ref e))) L) E {heap:=h',gens:=g,drawn:=d,toks:=t,os:=os}) :
  aU (aX prog w) A (Builtin.«type.__call__» {pos:=.ref C::rest}) Q E {heap:=h,gens:=g,drawn:=d,toks:=t,os:=os}:=by
 unfold Builtin.«type.__call__»;dsimp only;refine iN (by simp) ?_;unfold mroOf classData;refine aO (aO (aO (wpAny_load' a ?_)));refine bH (bH (iN (by simp) ?_));refine aO (wpAny_madeBy_exc a ?_);dsimp only;refine aO (bH (aO (jn (lK (codeAny_call_builtin_code (uo _ F.quiet) (wpAny_check_new_subT F T a (codeAny_exc_new_subT F T a ?_ p)))))));dsimp only;have m:h.MadeExcOf ((h.push {cls:=.type "tuple",data:=.seq rest.toArray}).push {cls:=.ref C,data:=.fields #[.ref h.objs.size,.none,.none,.none,.bool aJ,.none]}) (h.objs.size+1) (.ref C) rest:=⟨λb o e=>dM _ (dM _ e),uc (nq _),h.objs.size,bE.get?_push_at (by rw[pG]) O,uc (bQ _),dM _ (bE.get?_push_at O O)⟩
 generalize D:(h.push {cls:=.type "tuple",data:=.seq rest.toArray}).push {cls:=.ref C,data:=.fields #[.ref h.objs.size,.none,.none,.none,.bool aJ,.none]}=h' at m ⊢;have x:=m.keeps _ _ a;have z:=m.keeps _ _ j;have G:=T.keeps m.keeps;obtain⟨I,i,_,_⟩:=m.there;unfold qV;refine aO (aO ?_);refine aO (nQ i (bH (uq x ?_)));refine iN (by simp) ?_;refine aO (jn ?_);unfold callSpecial? specialOf;refine aO (aO (aO (nQ i (bH (hi _ _ _ _ m.keeps ?_)))));dsimp only;refine jn ?_;unfold bindSpecial;refine aO (aO (aO (nQ z (bH ?_))));rw[n];refine qJ (by simp) (bH ?_);dsimp only;refine aO (fL (s _ _ m) (λr L c=>?_) λ_ _ c=>c);obtain⟨rfl,c⟩:=c;exact bH (iN (by simp) (bH c))
theorem LR(F:ExcBaseFacts B k y H){rest:List aE}{fI:aB}{b:aY}{Q:aE->aK->Prop}(a:h.get? C=some (qS nm q C N bs bm l sn sub ab u dd k0 k1 k2 k3 k5 k))(T:OwnTail h H bm)
 (hi:rU (aX prog w) h (oH (.ref C) (pM "__init__")) (some (.ref fI)))(c:h.get? fI=some b)(f:b.cls=.type "function")(i:rest.length<=dH)
 (j:∀h' e,h.MadeExcOf h' e (.ref C) rest->aU (aX prog w) (A.under (.builtin "type.__call__" {pos:=.ref C::rest})) (call (.ref fI) (.ref e::rest)) (λr L=>r=.none/\Q (.ref e) L) E {heap:=h',gens:=g,drawn:=d,toks:=t,os:=os}) :
  aU (aX prog w) A (call (.ref C) rest) Q E {heap:=h,gens:=g,drawn:=d,toks:=t,os:=os}:=by
 refine lK (codeAny_of_tree ?_);show aU _ _ (callAny (.ref C) {pos:=rest}) _ _ _;unfold callAny;refine aO (wpAny_load' a ?_);show aU _ _ (callAny.viaDunder (.ref C) {pos:=rest}) _ _ _;unfold callAny.viaDunder;refine aO (uK (T:="type") ⟨_,a,O⟩ tc_lookup ?_);dsimp only;refine aO (kb (tc_bind _) ?_);dsimp only;refine aO (bH (qJ O (bH ⟨O,?_⟩)));exact codeAny_call_builtin_at (uo _ VE) entry_typeCall (wpAny_check_type_call_sub a (TZ F a T hi c f i j))
variable{P:bT}{s:aK}{env:eP}
theorem JU(n:bm.contains (.type "BaseException")=aC)(o:A.handled=aG)
 (p:aU (aX P w) A x (λv a=>∃e oe vs,v=.ref e/\a.heap.get? C=some (qS nm q C N bs bm l sn sub ab u dd k0 k1 k2 k3 k5 k) /\
   a.heap.get? e=some oe/\oe.cls=.ref C/\oe.data=.fields vs/\vs[1]?=some .none/\E (.ref e) a) E s) :
  aU (aX P w) A (raiseStmt env (some x) aG) Q E s:=by
 have r:(cZ C::bm).contains (.type "BaseException")=aC:=by rw[List.contains_cons,n,Bool.or_true]
 unfold raiseStmt;refine aO (fL p (λv a h₁=>?_) λ_ _ x=>x);obtain⟨e,oe,vs,rfl,f,h,t,y,h1,z⟩:=h₁;refine aO (bH (aO (jn ?_)));obtain⟨c,dx,J,M⟩:=oe;cases t;cases y;have B:aU (aX P w) A (excFromValue (.ref e) "exceptions must derive from BaseException") (λv L=>v=.ref e/\L=a) E a:=by
  unfold excFromValue;obtain⟨m,g,d,tk,os⟩:=a
  repeat (first|exact⟨O,O⟩|with_reducible refine nQ h ?_|with_reducible refine nQ f ?_|(with_reducible refine uq f ?_;rw[r])|wp_step)
 refine fL B (λv L i=>?_) λ_ _ x=>x;obtain⟨rfl,rfl⟩:=i;have D:aU (aX P w) A (setFlight (.ref e) aG>>=λ_=>(raiseNew (.ref e):Sem Flow)) Q E L:=by
  refine aO ?_;unfold setFlight;refine aO (nr h O h1 ?_);rw[if_neg VD];refine bH ?_;unfold raiseNew;refine aO (wpAny_handled ?_);rw[o];exact wpAny_throw z
 have G:aU (aX P w) A (isType (.ref e)) (λb j=>b=aJ/\j=L) E L:=by
  obtain⟨m,g,d,tk,os⟩:=L
  repeat (first|exact⟨O,O⟩|with_reducible refine nQ h ?_|with_reducible refine nQ f ?_|(with_reducible refine uq f ?_)|wp_step)
 have H:aU (aX P w) A (raisedInstance (.ref e)) (λv j=>v=.ref e/\j=L) E L:=by
  obtain⟨m,g,d,tk,os⟩:=L;unfold raisedInstance
  repeat (first|exact⟨O,O⟩|with_reducible refine nQ h ?_|with_reducible refine nQ f ?_|(with_reducible refine uq f ?_)|wp_step)
 dsimp only;refine aO (fL G (λb T I=>?_) λ_ _ x=>x);obtain⟨rfl,rfl⟩:=I;rw[if_neg fX];refine aO (fL H (λv U i=>?_) λ_ _ x=>x);obtain⟨rfl,rfl⟩:=i;exact D
theorem LW(F:ExcBaseFacts B k y H){x:aA}{np c pos:Pos}{args:List bJ}{fI:aB}{Q:Flow->aK->Prop}
 (p:bm.contains (.type "BaseException")=aC)(t:A.handled=aG)(z:(backTo c (dA args env)).any (·.1)=aJ)
 (D:aU (aX P w) A (eval (.Name x np) env) (λf m=>f=.ref C/\aU (aX P w) A (evalArgs (.ref C) aC (backTo c (dA args env)) [])
   (λa b=>a.kw=[]/\a.pos.length<=dH/\b.heap.get? C=some (qS nm q C N bs bm l sn sub ab u dd k0 k1 k2 k3 k5 k)/\rU (aX P w) b.heap (oH (.ref C) (pM "__init__")) (some (.ref fI))/\OwnTail b.heap H bm/\(∃h,b.heap.get? fI=some h/\h.cls=.type "function") /\
    ∀h' e,b.heap.MadeExcOf h' e (.ref C) a.pos->aU (aX P w) (A.under (.builtin "type.__call__" {pos:=.ref C::a.pos})) (call (.ref fI) (.ref e::a.pos)) (λr L=>r=.none/\L.heap.get? C=some (qS nm q C N bs bm l sn sub ab u dd k0 k1 k2 k3 k5 k)/\(∃oe vs,L.heap.get? e=some oe/\oe.cls=.ref C/\oe.data=.fields vs/\vs[1]?=some .none)/\E (.ref e) L) E {b with heap:=h'}) E m) E s) :
  aU (aX P w) A (exec (.Raise (some (.Call (.Name x np) args [] c)) aG pos) env) Q E s:=by
 rw[arm_exec_Raise];simp only[evalOpt,Option.map];refine aO (qL (JU (C:=C) (nm:=nm) (q:=q) (N:=N) (bs:=bs) (bm:=bm) (l:=l) (sn:=sn) (sub:=sub) (ab:=ab) (u:=u) (dd:=dd) (k0:=k0) (k1:=k1) (k2:=k2) (k3:=k3) (k5:=k5) (k:=k) p t (aO (fL (wpAny_Call_ofName (fL D (λf m h₁=>?_) λ_ _ x=>x)) (λv a6 G=>aO (qL (bH G))) λ_ _ x=>x))));obtain⟨rfl,h₁⟩:=h₁;unfold pR;refine aO (jn (fL h₁ (λa b j=>aO (qL ?_)) λ_ _ x=>x));obtain⟨i,I⟩:=a;obtain⟨J,M,n,U,T,⟨h,Y,a0⟩,j⟩:=j;obtain rfl:I=[]:=J;obtain⟨a7,g,d,tk,os⟩:=b;simp only[z];refine aO (wpAny_keeperOf_exc n ?_);refine aO (LR F n T U Y a0 M λh' e hm=>fL (j h' e hm) (λr L o=>⟨o.1,?_⟩) λ_ _ x=>x);obtain⟨_,a1,⟨oe,vs,a2,a3,a4,h1⟩,a5⟩:=o;exact aO (jn (wpAny_point (bH ⟨e,oe,vs,O,a1,a2,a3,a4,h1,a5⟩)))
end
end L2
namespace L2
open PySem PySem.Spec PyProof.Rows PySem.W
section
variable{prog:bT}{w:bN}{A:bX}{E:aE->aK->Prop}{s:aK}{K:Frag}{D:aB}
theorem Kb(X:K.In s.heap)(a:Looks (aX prog w) s.heap (typeOf (.ref D)) (.type "type"))(f:findIn K (.ref D) "__init__"=some (some (.builtin "ValueError.__init__")))(op:nsIn K cStatics "thirdparty.any"=some aG)
 (h:Q (.builtin "ValueError.__init__",[]) {s with toks:=s.toks+1}):aU (aX prog w) A (nu (.ref D) "__init__" pl) Q E s:=by
 have d:=ll (M:=aX prog w) (t:=.type "type") (name:="__getattribute__") (r:=some (.builtin "type.__getattribute__")) X (by show sC "type" "__getattribute__"=_;decide +kernel);have g:=ll (M:=aX prog w) (t:=.type "type") (name:="__init__") (r:=some (.builtin "type.__init__")) X (by show sC "type" "__init__"=_;decide +kernel);have i:=ll (M:=aX prog w) (t:=.type "wrapper_descriptor") (name:="__get__") (r:=some (.builtin "wrapper_descriptor.__get__")) X (by show sC "wrapper_descriptor" "__get__"=_;decide +kernel);have j:=ll (M:=aX prog w) (t:=.type "wrapper_descriptor") (name:="__set__") (r:=aG) X (by show sC "wrapper_descriptor" "__set__"=_;decide +kernel);have k:=ll (M:=aX prog w) (t:=.type "wrapper_descriptor") (name:="__delete__") (r:=aG) X (by show sC "wrapper_descriptor" "__delete__"=_;decide +kernel);have l:=ll (M:=aX prog w) X f;have m:=looks_nsIn (M:=aX prog w) X op;obtain⟨h2,p,q,e,u⟩:=s;unfold nu specialOf;refine aO (aO (a.at (d.at ?_)));dsimp only;refine qJ VE ?_;unfold getAttr getAttrBy;refine aO (aO (wpAny_mkText (jn (aO (a.at (aO (d.at ?_)))))));dsimp only;refine iN VE ?_;unfold xM hookBefore;refine aO (iN VE (bH ?_));refine aO (pI (jn ?_));show aU _ _ (sk _ _ _) _ _ _;unfold sk;refine aO (kb (show bindSpecial (.builtin "type.__getattribute__") (.ref D)=pure (.builtin "type.__getattribute__",[.ref D]) from ?_) ?_)
 .rfl
 show aU _ _ (call (.builtin "type.__getattribute__") [.ref D,.str "__init__" e]) _ _ _;refine lK (pA VE (b:=Builtin.«type.__getattribute__») (entryFor_of_fast (by kernel_rfl)) ?_);have n:uW "type.__getattribute__"=some .slot:=VE;have o:splitId "type.__getattribute__"=some ("type","__getattribute__"):=VE;simp only[uF,n,o];refine aO ?_;unfold qV;refine aO (a.at (kb tc_sub ?_));rw[if_neg VD];refine kb (show argsOk "type.__getattribute__" {pos:=[.ref D,.str "__init__" e]} from by kernel_rfl) ?_;unfold Builtin.«type.__getattribute__»;refine aO (bH ?_);unfold opaqueClassAbove anyOpaqueLoaded;refine aO (aO (aO (m.at (bH (qJ O (bH ?_))))));refine aO (a.at (aO (g.at ?_)));dsimp only;have c:typeOf (.builtin "type.__init__")=pure (.type "wrapper_descriptor"):=by kernel_rfl
 have tv:typeOf (.builtin "ValueError.__init__")=pure (.type "wrapper_descriptor"):=by kernel_rfl
 unfold specialOf;refine aO (aO (kb c (i.at ?_)));dsimp only;refine aO (aO (kb c (j.at ?_)));refine iN VD ?_;refine aO (aO (kb c (k.at (aO (bH (iN VD ?_))))));refine aO (l.at ?_);dsimp only;refine iN VE (aO (kb tv (qJ VE (bH ?_))));dsimp only;exact handed_on VE (bH h)
end
noncomputable def pb(K:Frag)(C:aB):Bool:=match lG C K with
 |some {cls:=.type "type",dict:=_,data:=.cls cd,slots:=a}=>match cd.mro,a.toList with
  |.ref b::bm,[_,_,_,_,some (.builtin n),_]=>b==C&&n == "ValueError.__new__" && !cd.hasDel&&tailIn K om bm
  |_,_=>aJ
 |_=>aJ
theorem x2{K:Frag}{C:aB}{h:bE}(q:pb K C=aC)(X:K.In h):∃(tl:List aE)(N:aB)(nm g:aA)(bs:List aE)(l:Bool)(sn:List aA)(sub:List aE)(ab:Bool)(u:Option Bool)(dd:Option aB)(k0 k1 k2 k3 k5:Option aE),
  h.get? C=some (qS nm g C N bs tl l sn sub ab u dd k0 k1 k2 k3 k5 "ValueError.__new__")/\OwnTail h om tl:=by
 unfold pb at q;split at q
 .rename_i i j k m;split at q
  .rename_i a tl d a1 a2 a3 n b em es;have c:=iV.mp q;have e:=iV.mp c.1;have f:=iV.mp e.1;obtain rfl:a=C:=beq_iff_eq.mp f.1;obtain rfl:n="ValueError.__new__":=beq_iff_eq.mp f.2;obtain⟨o,p,r,s,t,y,z,A,B,D,w⟩:=j;obtain rfl:r=.ref a::tl:=em;obtain rfl:w=aJ:=by simpa using e.2
   obtain⟨x⟩:=k;obtain rfl:x=[d,a1,a2,a3,some (.builtin "ValueError.__new__"),b]:=es;exact⟨tl,s,o,t,p,_,_,_,_,_,i,d,a1,a2,a3,b,X _ _ m,PySem.W.tail_of_in X c.2⟩
  .cases q
 .cases q
theorem oL.n{K:Frag}{C:aB}(E:oL K C):pb K C=aC:=by
 have q:=E.q;unfold PySem.W.excIn at q;unfold pb;split at q
 .rename_i c e f a;split at q
  .rename_i g tl d a1 a2 a3 h i em es;have b:=iV.mp q;simp only[a,em,es];exact(iV.mp b.1).1
  .cases q
 .cases q
section
variable{P:bT}{w:bN}{A:bX}{E:aE->aK->Prop}{s:aK}{K:Frag}{C e:aB}{oe:aY}{vs:Array aE}
theorem LS{v:aE}{Q:aE->aK->Prop}(q:pb K C=aC)(X:K.In s.heap)(i:s.heap.get? e=some oe)(cl:oe.cls=.ref C)(f:oe.data=.fields vs)(j:0<vs.size)
 (n:∀h',(∀b o,b≠e->s.heap.get? b=some o->h'.get? b=some o)->(∃t,h'.get? e=some (kO (·.setIfInBounds 0 (.ref t)) oe))->Q .none {s with heap:=h'}):aU (aX P w) A (call (.builtin "ValueError.__init__") [.ref e,v]) Q E s:=by
 obtain⟨tl,N,nm,z,bs,l,sn,sub,ab,u,dd,k0,k1,k2,k3,k5,p,T⟩:=x2 q X;obtain⟨a,g,d,tk,os⟩:=s;refine lK (pA py.init.plain py.initEntry (wpAny_check_init_subT py T p i cl ?_));unfold Builtin.«BaseException.__init__»;dsimp only;refine iN (by simp) ?_;unfold newTuple;refine aO (ng ?_ (show sizeOk (.seq [v].toArray) from by unfold sizeOk;first|decide|(simp[dH])));generalize B:({cls:=.type "tuple",dict:=aG,data:=.seq [v].toArray}:aY)=c;have h:(a.push c).get? e=some oe:=dM c i;have r:=pB f (·.setIfInBounds 0 (cZ a.objs.size));have x:=ov (kO (·.setIfInBounds 0 (cZ a.objs.size))) h (r4 r);unfold Builtin.BaseException.bexcPut;have k:∀b o,b≠e->a.get? b=some o->((a.push c).update e (kO (·.setIfInBounds 0 (cZ a.objs.size)))).get? b=some o:=λb o y q=>(kE _ _ (Ne.symm y)).trans (dM c q);refine aO (aO (nr h f (t3 j) (aO (qI h f j ?_))));have m:=n _ k ⟨_,x⟩;split
 .exact wpAny_letGo (bH m)
 .exact bH (bH m)
end
def jL(a:aB)(cls:aE)(p:Option aB):dX:=.ext λh=>∃o vs,h.get? a=some o/\o.cls=cls/\o.data=.fields vs/\0<vs.size/\vs[1]?=some .none/\o.dict=p
theorem Pr(e:H a=some o):aI H a o=H:=by
 funext b
 unfold aI;split
 .rename_i q;rw[q,e]
 .rfl
def Py(K:Frag)(t:fU):bG:=λY H Q=>t Y H λvs z=>∃ea v C p,vs=[.ref ea,v]/\z ea=some (jL ea (.ref C) p)/\pb K C=aC/\Q .non z
section
variable{X:aZ}{x:aA}{D:aB}{np i pos:Pos}{e:bJ}{es:List bJ}{t:fU}
theorem Ny(hm:X.mg x=some (.ref D))(z:oL X.K D)(A:findIn X.K (.ref D) "__init__"=some (some (.builtin "ValueError.__init__")))(op:nsIn X.K cStatics "thirdparty.any"=some aG)(B:jf X (e::es) t)(E:jH X x:=by rfl)(G:(x==("__debug__":aA))=aJ:=by decide)
 (d:dA (e::es) X.env=(aJ,eval e X.env)::dA es X.env:=by rfl)(J:(backTo pos (dA es X.env)).any (·.1)=aJ:=by rfl)
 (L:eval (.Call (.Attribute (.Name x np) "__init__" i) (e::es) [] pos) X.env=(do
   let j ←eval (.Name x np) X.env
   standAt i.atName
   let (f,first) ←holding [j] (nu j "__init__" pl)
   pR pos f first (backTo pos (dA (e::es) X.env)) (lL pos (lI [] X.env))):=by rfl) :
  bL X (.Call (.Attribute (.Name x np) "__init__" i) (e::es) [] pos) (Py X.K t):=by
 refine⟨?_⟩;intro U s Y H Q I h;obtain⟨tl,N,nm,aa,bs,l,sn,sub,ab,u,dd,k0,k1,k2,k3,k5,mN,M,ac,ae,T⟩:=(z.own I.ok.mod.kin hm).obj;refine t7 (pl:=pl) (qo I E hm ?_ G) L;refine Kb I.kIn ((r8 (I.bk _ _ M)).andThen .now) A op ?_;have a0:=I.tok (s.toks+1);refine t6 ?_ ?_
 .rw[d];show(aJ||(backTo pos (dA es X.env)).any (·.1))=aJ;rw[J];rfl
 .have g:=B pos U _ Y H _ a0 h;rw[d]at g ⊢;refine r5 (cD g λus m ⟨vs,H2,a,a1,ea,v,C,p,ev,b,q,a2⟩=>?_);subst ev;obtain⟨af,ag,rfl,a3,ah⟩:=cB.two a1;cases a3;obtain⟨⟨o,ai,a4,n,r,w,a5,a6⟩,_,_⟩:=(show dR X.prog X.w H2 m.heap ea (jL ea (.ref C) p) from a.hok ea _ b)
  refine LS q a.kIn a4 n r w λh' k ⟨t,c⟩=>⟨.non,H2,?_,rfl,a2⟩
  have y:=a.write (x:=ea) (e:=ea) (o:=jL ea (.ref C) p) (t':=m.toks) (h':=h') (by rw[b];trivial) (.inl rfl) k ⟨_,c⟩ ⟨⟨_,_,c,(xx _ _).trans n,pB r _,by simpa using w,by rw[Array.getElem?_setIfInBounds_ne (by decide)];exact a5,(Gu _ _).trans a6⟩,⟨_,c⟩,λh1 aj ⟨o,vs,a7,a8,a9⟩ k=>⟨o,vs,k o a7,a8,a9⟩⟩;rw[Pr b]at y;exact y
end
noncomputable def rQ(K:Frag)(C D:aB):Bool:=match clsIn K C with
 |some cd=>cd.mro==.ref C::.ref D::om&&cd.hasDict
 |none=>aJ
section
variable{P:bT}{w:bN}{A:bX}{E:aE->aK->Prop}{s:aK}{K:Frag}{C D e:aB}{oe:aY}{vs:Array aE}{f:aA}
theorem Mp(X:K.In s.heap)(m:rQ K C D=aC)(a:s.heap.get? e=some oe)(cl:oe.cls=.ref C)(h:Q () s):aU (aX P w) A (Builtin.ObjectAttr.refuseIfOverridden (.ref e) "__setattr__") Q E s:=by
 unfold rQ at m;split at m
 .rename_i cd b;have c:=iV.mp m;have d:cd.mro=.ref C::.ref D::om:=by simpa using c.1
  unfold Builtin.ObjectAttr.refuseIfOverridden;refine aO (aO (pH a (bH ?_)));rw[cl];refine aO (aO (w7 (ub X b) (bH ?_)));rw[d];have f:classOwn (.type "ValueError") "__setattr__"=pure aG:=by kernel_rfl
  have g:classOwn (.type "Exception") "__setattr__"=pure aG:=by kernel_rfl
  have i:classOwn (.type "BaseException") "__setattr__"=pure aG:=by kernel_rfl
  have j:classOwn (.type "object") "__setattr__"=pure (some (.builtin "object.__setattr__")):=by kernel_rfl
  unfold om;simp only[uD,List.forIn_nil];refine aO (aO (bH (aO (bH ?_))));refine aO (iN VD (iN VD (aO (kb f (iN VD (bH ?_))))));refine aO (iN VD (iN VD (aO (kb g (iN VD (bH ?_))))));refine aO (iN VD (iN VD (aO (kb i (iN VD (bH ?_))))));refine aO (iN VD (iN VD (aO (kb j (qJ VD (iN VE (bH ?_)))))));exact bH (bH h)
 .cases m
def nM(d:aB)(f:aA)(v:V):dX:=.ext λh=>∃T u,h.Ns1 d T/\cK v u/\T f=some u
theorem Ov(X:K.In s.heap)(m:rQ K C D=aC)(x:findIn K (.ref C) "__setattr__"=some (some (.builtin "object.__setattr__")))(B:findIn K (.ref C) f=some aG)(c:s.heap.get? e=some oe)(cl:oe.cls=.ref C)(k:oe.data=.fields vs)(l:oe.dict=aG)
 (h:∀h' d,s.heap.objs.size<=d->(∀b o,b≠e->s.heap.get? b=some o->h'.get? b=some o)->h'.get? e=some {oe with dict:=some d}->h'.Ns1 d (λy=>if y=f then some v else aG)->Q () {s with heap:=h',toks:=s.toks+2}) :
  aU (aX P w) A (setAttr (.ref e) f v) Q E s:=by
 have G:=ll (M:=aX P w) X B;have H:InstAt s.heap e oe C aG:=⟨c,cl,by unfold notCls;rw[k],by rw[l];trivial⟩
 refine PySem.W.set_plain X H x (pA VE (b:=Builtin.«object.__setattr__») (entryFor_of_fast (by kernel_rfl)) ?_);have I:uW "object.__setattr__"=some .slot:=VE;have J:splitId "object.__setattr__"=some ("object","__setattr__"):=VE;simp only[uF,I,J];have L:∃cd,clsIn K C=some cd/\cd.mro=.ref C::.ref D::om/\cd.hasDict=aC:=by
  have i:=m;unfold rQ at i;split at i
  .rename_i cd j;have n:=iV.mp i;exact⟨cd,j,by simpa using n.1,n.2⟩
  .cases i
 obtain⟨cd,j,N,T⟩:=L;have U:=uV (M:=aX P w) (C:=C) (base:=.type "object") (r:=aC) X (by unfold mroIn;rw[j];simp[N,om]);refine aO ?_;unfold qV;refine aO (aO (pH c (bH ?_)));rw[cl];refine U.at (iN VD ?_);refine kb (show argsOk "object.__setattr__" {pos:=[.ref e,.str f s.toks,v]} from by kernel_rfl) ?_;unfold Builtin.«object.__setattr__»;refine iN (by simp) ?_;refine aO (Mp X m c cl ?_);refine aO (bH (aO (aO (pH c (bH ?_)))));rw[cl];refine aO (G.at (aO (bH ?_)));dsimp only;unfold Builtin.ObjectAttr.storeInOwnDict;refine aO (bH (iN (by simp) ?_));unfold Builtin.ObjectAttr.ownDictForStores instanceDict;refine aO (aO (pH c ?_));rw[cl];dsimp only;refine aO (w7 (ub X j) ?_);rw[T,l];refine iN VD ?_;dsimp only;refine iN (by simp[typeHasDict]) ?_;rw[k];dsimp only;obtain⟨a,g,a8,tk,os⟩:=s;refine aO (wpAny_alloc' ?_);have p:(a.push {cls:=.type "dict",data:=.dict #[]}).get? e=some oe:=dM _ c;have lt:e<a.objs.size:=dQ c;have Y:=ov (λo:aY=>{o with dict:=some a.objs.size}) p (by
  show aY.isFreed {oe with dict:=some a.objs.size}=aJ;exact r4 (vs:=vs) k)
 have a0:(a.push {cls:=.type "dict",data:=.dict #[]}).Ns1 a.objs.size λ_=>aG:=.of_empty ⟨_,_,_,gF _ O,O,by unfold StrKeys;simp,λ_=>O⟩;have a1:((a.push {cls:=.type "dict",data:=.dict #[]}).update e λo=>{o with dict:=some a.objs.size}).Ns1 a.objs.size λ_=>aG:=a0.at λo q=>(kE _ _ (eF lt)).trans q;refine aO (wpAny_update' p (bH ?_));dsimp only;unfold Builtin.ObjectAttr.storeInDict;refine aO (bH (aO (wpAny_nsSet1 a1 λh' t u=>?_)));have a2:=t;obtain⟨a9,aa,ac,a3,a4,a5⟩:=t.count (su.cons f v (ns:=[]) λy a6=>absurd O a6);refine aO (wpAny_lookBehind a3 (by rw[a4];exact pastItsLine_dict (fF a5 (by rw[hJ];decide))) ?_);refine bH (h h' a.objs.size (bQ _) (λb o a7 q=>?_) ((u.2 e (eF lt)).trans Y) a2);refine(u.2 b (λz=>?_)).trans ((kE _ _ (Ne.symm a7)).trans (dM _ q));exact absurd (dQ q) (by rw[z];exact nj _)
end
def QJ(K:Frag)(M tv:bG)(f:aA):eR:=λD Y H=>tv Y H λy z=>M Y z λx H2=>∃(e C a:aB),x=.ref e/\H2 e=some (jL e (.ref C) aG)/\rQ K C a=aC/\findIn K (.ref C) "__setattr__"=some (some (.builtin "object.__setattr__"))/\findIn K (.ref C) f=some aG /\
 ∀d,H2 d=aG->d≠e->D.nx Y (aI (aI H2 e (jL e (.ref C) (some d))) d (nM d f y))
section
variable{X:aZ}{o value:bJ}{f:aA}{pos t:Pos}{M tv:bG}
theorem OA(B:bL X o M)(E:bL X value tv)(G:pP value (some (.Attribute o f t)) pos.line X.env=pure aJ):jY X (.Assign [.Attribute o f t] value pos) (QJ X.K M tv f):=by
 refine⟨?_⟩;intro U s Y H D I h;refine plainObj_wpAny_Assign_Attribute (cD (E U s Y H _ I h) λu s1 ⟨y,z,J,L,q⟩=>cD (B U s1 Y z _ J q) λN l ⟨x,H2,b,Q,e,C,aj,ex,c,m,a0,a3,a4⟩=>?_) G;subst ex;obtain rfl:N=cZ e:=Q;obtain⟨⟨oe,vs,a5,n,p,a6,a7,a8⟩,_,_⟩:=(show dR X.prog X.w H2 l.heap e (jL e (.ref C) aG) from b.hok e _ c)
 refine Ov b.kIn m a0 a3 a5 n p a8 λh' d ld k g r=>⟨Y,_,?_,a4 d (b.hok.fresh ld) ?_⟩
 .have i:H2 d=aG:=b.hok.fresh ld;have w:d≠e:=λj=>by rw[j,c]at i;cases i
  have A:q0 (H2 e):=by rw[c];trivial
  have a9:dR X.prog X.w (aI H2 e (jL e (.ref C) (some d))) h' e (jL e (.ref C) (some d)):=⟨⟨_,vs,g,n,p,a6,a7,O⟩,⟨_,g⟩,λh1 aa ⟨o,vs,ac,ae,af⟩ k=>⟨o,vs,k o ac,ae,af⟩⟩
  have ag:eC X.fs [] H2 (aI H2 e (jL e (.ref C) (some d))) l.heap h':=eC.write A VG k ⟨_,g⟩;have k1:eB X.prog X.w (aI H2 e (jL e (.ref C) (some d))) h':=b.hok.write A VG k ⟨_,g⟩ a9;refine b.un (ag.new (by rw[bD w];exact i) (uc ld)) (eB.new k1 (by rw[bD w];exact i) ?_);obtain⟨ah,_,_,ai,_⟩:=id r;exact⟨⟨_,u,r,L,if_pos O⟩,⟨ah,ai⟩,λh1 aa ⟨T,u,a1,a2⟩ k=>⟨T,u,a1.at k,a2⟩⟩
 .exact λj=>by
   have:=b.hok.fresh (a:=d) ld;rw[j,c]at this;cases this
end
section
variable{M:Model}{A:bX}{E:aE->aK->Prop}{s:aK}{base:bE}{env:eP}{outer:List eP}{L e:aB}{d:aE}{p:Option aB}{oe:aY}{vs:Array aE}
theorem QW(f:A.frames=some (env::outer))(a:env.frame=some L)(g:base.StaysIn s.heap)(h:base.get? e=aG)(i:s.heap.FunFrames base (env::outer))(b:s.heap.get? e=some oe)(c:oe.data=.fields vs)(j:vs[0]?=some d)(h1:vs[1]?=some .none)(k:oe.dict=p)
 (l:∀h',lc base outer e oe.cls d p .none h'->s.heap.UpToSlots h'->Q () {s with heap:=h'}):aU M A (leaving env (.ref e)) Q E s:=by
 unfold leaving noteFrame;simp only[a];refine aO (aO (nr b c h1 ?_));rw[if_neg VD];refine yi f i a b g h c (t1.mp h1).1 j k λh1 m n=>?_;refine tE (fr:=aG) (s:={s with heap:=h1}) m λh2 o q=>?_;obtain⟨p1,D,⟨_,_,r⟩,t⟩:=o;exact l h2 ⟨p1,D,r,t⟩ (n.trans q)
end
def Dx(X:aZ)(E:dL):Prop:=∀(U:List (aB×aY))(Y:St)(H a:aD)(s L:aK)(e:aB)(oe:aY)(vs:Array aE),Inv X U Y H s->L.os=s.os->AllBare L.gens->eC (gO X.stack) [] H a s.heap L.heap->eB X.prog X.w a L.heap->s.heap.get? e=aG->a e=aG->L.heap.get? e=some oe->oe.data=.fields vs->0<vs.size->vs[1]?=some .none->E oe.cls oe.dict a->X.xe (.ref e) L
section
variable{P:bT}{w:bN}{K:Frag}{mg:aA->Option aE}{base:bE}{N:List aA}{j:aA}{scope:jI}{f:aB}{cd:aE}{A:bX}{outer:List eP}{s:aK}{H:aD}{E:dL}
theorem Ln:Dx (iH (kc P w) P w K mg base N j scope f cd A outer s H E) E:=by
 intro U Y z C s1 L e oe vs I os bare u d i k l m p h1 q;have g:=I.call' (L:=L) (ch:=[]) os u d bare λb a=>absurd a (by simp);have S:L.heap.FunFrames base (envOfC j scope s.heap.objs.size f cd::outer):=g.stack;have t:∀v∈envOfC j scope s.heap.objs.size f cd::outer,∀b,v.frame=some b->b∈e::gO (envOfC j scope s.heap.objs.size f cd::outer):=λv x b y=>eY _ (uj.mpr ⟨v,x,y⟩);refine QW (base:=xw L.heap (e::gO (envOfC j scope s.heap.objs.size f cd::outer))) (env:=envOfC j scope s.heap.objs.size f cd) (outer:=outer) I.ok.frames O (λb o a=>xi _ a) (PySem.W.hideAll_none _ eJ) (PySem.W.funFrames_hide S t) l m (t3 p) h1 O λh2 fl us=>?_;refine yl I os bare u d (λb o G h c B=>r6 _ c λa=>?_) (λb G n c=>r6 _ c λa=>?_) fl us q
 .rcases eM.mp a with r|r
  .rw[r,i]at h;cases h
  .exact B r
 .rcases eM.mp a with r|r
  .rw[r]at n;exact n k
  .exact n (g.stkFree b r)
end
theorem eC.untrack(u:eC fs ex H H' h h')(n:H e=aG)(d:h.get? e=aG):eC fs ex H (λb=>if b=e then aG else H' b) h h' where
 keep:=u.keep
 slot:=u.slot
 free:=λb o q m c=>by
  by_cases a:b=e
  .rw[if_pos a]
  .rw[if_neg a];exact u.free b o q m c
 there:=u.there
 tups:=λb xs q=>by rw[if_neg (λa=>by rw[a,n]at q;cases q)];exact u.tups b xs q
 frzs:=λb o v q=>by rw[if_neg (λa=>by rw[a,n]at q;cases q)];exact u.frzs b o v q
 tbls:=λb ps q=>by rw[if_neg (λa=>by rw[a,n]at q;cases q)];exact u.tbls b ps q
theorem eB.untrack(f:eB P w H h)(q:H e=some (.ext d)):eB P w (λb=>if b=e then aG else H b) h:=λa o c=>by
 have c:(if a=e then aG else H a)=some o:=c;have g:a≠e:=λr=>by rw[if_pos r]at c;cases c
 rw[if_neg g]at c;refine(f a o c).stay (λ_ _ _ r=>r) (λb r=>?_) λb xs r=>?_
 .show(if b=e then aG else H b)=_;rw[if_neg (λy=>by rw[y,q]at r;cases r)];exact r
 .show(if b=e then aG else H b)=_;rw[if_neg (λy=>by rw[y,q]at r;cases r)];exact r
inductive tN(C:aB)(f:aA)(vs:List V)(H:aD)(Q:aP)(z3:dL):Prop
 |mk:∀(e:aB)(v:V),vs=[.ref e,v]->H e=some (jL e (.ref C) aG)->(∀d,H d=aG->d≠e->Q .non (aI (aI H e (jL e (.ref C) (some d))) d (nM d f v)))->tN C f vs H Q z3
def Og(C:aB)(f:aA)(E:dL)(t:fU):eR:=λ_ Y H=>t Y H λvs z=>∃v,vs=[v]/\∀d,z d=aG->E (.ref C) (some d) (aI z d (nM d f v))
section
variable{X:aZ}{C:aB}{x f:aA}{E:dL}{np c pos:Pos}{e:bJ}{es:List bJ}{t:fU}{k:Nat}{ps:List aA}
theorem Mr(hm:X.mg x=some (.ref C))(al:pb X.K C=aC)(F:fA X.prog X.w X.K X.mg X.base k C "__init__" ps (tN C f))(am:eQ (k+1) X.A)(an:X.calm=aC)(R:Dx X E)(ao:jf X (e::es) t)(ap:jH X x:=by rfl)(aq:(x==("__debug__":aA))=aJ:=by decide)
 (a6:dA (e::es) X.env=(aJ,eval e X.env)::dA es X.env:=by rfl)(ar:(backTo c (dA es X.env)).any (·.1)=aJ:=by rfl) :
  jY X (.Raise (some (.Call (.Name x np) (e::es) [] c)) aG pos) (Og C f E t):=by
 refine⟨?_⟩;intro U s Y H D I h;obtain⟨fI,fd,G,b,a7⟩:=F.ex;obtain⟨tl,N,nm,as,bs,l,sn,sub,ab,u,dd,k0,k1,k2,k3,k5,a8,T⟩:=x2 al I.ok.mod.kin;obtain⟨A,au,av⟩:∃A,X.K.lookup fI=some A/\A.cls=.type "function":=by
  have j:typeIn X.K (.ref fI)=some (.type "function"):=beq_iff_eq.mp a7.fn;unfold typeIn at j;exact kD.mp j
 refine LW (C:=C) (N:=N) (nm:=nm) (q:=as) (bs:=bs) (bm:=tl) (l:=l) (sn:=sn) (sub:=sub) (ab:=ab) (u:=u) (dd:=dd) (k0:=k0) (k1:=k1) (k2:=k2) (k3:=k3) (k5:=k5) (fI:=fI)
  py (T.hasType py.hasBase) (I.ok.hd an) ?_ (qo I ap hm ⟨O,?_⟩ aq)
 .rw[a6];show(aJ||(backTo c (dA es X.env)).any (·.1))=aJ;rw[ar];rfl
 .have g:=ao c U s Y H _ I h;rw[a6]at g ⊢;refine r5 (cD g λus w ⟨vs,H2,m,aw,v,ev,ax⟩=>?_);subst ev;obtain⟨n,rfl,ay⟩:=cB.one aw;refine⟨O,by show(1:Nat)<=dH;rw[kP];omega,m.bk _ _ a8,ll (M:=aX X.prog X.w) m.kIn a7.at_,T.keeps m.bk,⟨A,m.kIn _ _ au,av⟩,λh' ea i=>?_⟩;have p:H2 ea=aG:=by
   cases j:H2 ea with
   |none=>rfl
   |some o=>
    obtain⟨a1,B⟩:=m.hok.has (a:=ea) (by rw[j];simp);rw[i.new]at B;cases B
  obtain⟨be,a9,_,_⟩:=i.there;have az:dR X.prog X.w (aI H2 ea (jL ea (.ref C) aG)) h' ea (jL ea (.ref C) aG):=⟨⟨_,_,a9,O,O,by show 0<6;decide,O,O⟩,⟨_,a9⟩,λh1 bf ⟨o,vs,aR,B,b0⟩ k=>⟨o,vs,k o aR,B,b0⟩⟩
  have b1:eC X.fs [] H2 (aI H2 ea (jL ea (.ref C) aG)) w.heap h':=(eC.kept i.keeps).new p i.new;have a2:Inv X U Y (aI H2 ea (jL ea (.ref C) aG)) {w with heap:=h'}:=m.un b1 (eB.new (m.hok.kept i.keeps) p az);have sp1:tN C f [.ref ea,v] (aI H2 ea (jL ea (.ref C) aG)) (λy b2=>y=.non/\∃d,aI H2 ea (jL ea (.ref C) aG) d=aG/\d≠ea/\b2=aI (aI (aI H2 ea (jL ea (.ref C) aG)) ea (jL ea (.ref C) (some d))) d (nM d f v)) lM:=⟨ea,v,O,aV,λd b3 b4=>⟨O,d,b3,b4,O⟩⟩
  have b5:cB [V.ref ea,v] [cZ ea,n]:=.cons O (.cons ay .nil);have aa:=b {w with heap:=h'} [cZ ea,n] a2.kIn (by rw[kG];exact(G.len _ _ _ _ sp1));rw[kG]at aa;refine lK (nl (G.run _ X.stack _ _ ⟨[cZ ea,n],[]⟩ [cZ ea,n] _ _ lM (am.make C [n] []) (a2.env0.make C [n] []) aa b5 sp1) λj L z=>?_);cases j with
  |error e=>exact gZ z
  |ok fl=>
   cases fl with
   |ret r=>
    obtain⟨y,J,os,bare,ac,a3,b6,b7,d,ae,Q,a4⟩:=z;subst b7;cases(show r=iZ from b6);have b8:=a2.call' (L:=L) (ch:=[]) os ac a3 bare λb j=>absurd j (by simp);rw[Ob]at a4;have af:J ea=some (jL ea (.ref C) (some d)):=by rw[a4,bD (Ne.symm Q),aV]
    obtain⟨⟨oe,ag,ah,a1,ai,b9,aj,ba⟩,_,_⟩:=(show dR X.prog X.w J L.heap ea (jL ea (.ref C) (some d)) from a3 ea _ af)
    have bb:H2 d=aG:=by rw[bD Q]at ae;exact ae
    have bc:(λb=>if b=ea then aG else J b)=aI H2 d (nM d f v):=by
     funext b
     rw[a4];by_cases a0:b=ea
     .rw[if_pos a0,a0,bD (Ne.symm Q),p]
     .rw[if_neg a0];by_cases a5:b=d
      .rw[a5,aV,aV]
      .rw[bD a5,bD a0,bD a5]
    have bd:eC (gO X.stack) [] H2 J w.heap L.heap:=eC.trans (eC.new (eC.kept i.keeps) p i.new) ac;have ak:=bd.untrack p i.new;have k3:=eB.untrack a3 af;rw[bc]at ak k3;refine⟨O,b8.bk _ _ a8,⟨oe,ag,ah,a1,ai,aj⟩,R U Y H2 _ w L ea oe ag m os bare ak k3 i.new (by rw[bD (Ne.symm Q)];exact p) ah ai b9 aj ?_⟩;rw[a1,ba];exact ax d bb
   |next=>exact gZ z
   |brk=>exact gZ z
   |cont=>exact gZ z
end
end L2
namespace L2
open PySem PySem.Spec PyProof.Rows PySem.W PySem.Builtin.ObjectAttr
section
variable{prog:bT}{w:bN}{A:bX}{E:aE->aK->Prop}{s:aK}{K:Frag}{C x d:aB}{f:aA}{T:aA->Option aE}{o:aY}{vs:Array aE}
theorem KZ(X:K.In s.heap)(a:s.heap.get? x=some o)(e:o.cls=.ref C)(i:o.data=.fields vs)(j:o.dict=some d)(n:s.heap.Ns1 d T)(k:T f=some v)(l:findIn K (.ref C) "__getattribute__"=some (some (.builtin "BaseException.__getattribute__")))(hgt:findIn K (.ref C) "__getattr__"=some aG)
 (m:mroIn K C (.type "BaseException")=some aC)(p:findIn K (.ref C) f=some aG)(q:hasDictIn K C=aC)(h:Q v {s with toks:=s.toks+1})(r:∀id,v≠.builtin id):aU (aX prog w) A (getAttr (.ref x) f b) Q E s:=by
 have c:Looks (aX prog w) s.heap (typeOf (.ref x)) (.ref C):=e▸(r8 a).andThen .now;have t:=ll (M:=aX prog w) X l;have u:=ll (M:=aX prog w) X p;have y:=ll (M:=aX prog w) X hgt;have z:=uV (M:=aX prog w) X m;obtain⟨cd,B,D⟩:=PySem.W.any_some q;have G:=ub (M:=aX prog w) X B;obtain⟨h2,N,U,g,Y⟩:=s;unfold getAttr getAttrBy;refine aO (wpAny_mkText (jn (aO (c.at (aO (t.at (?_)))))));have H:(sj "BaseException.__getattribute__" == sj "object.__getattribute__")=aJ:=VE;dsimp only;rw[H,Bool.and_false,if_neg fX];unfold xM hookBefore;refine aO (show aU _ _ (oH (.ref C) "__getattr__") _ _ _ from y.at ?_);refine aO (pI (jn ?_));unfold callGetattribute;refine iN (by simp[onTheHeap]) ?_;unfold sk;refine aO (kb (t4.ga.bind (.ref x)) ?_);show aU _ _ (call (.builtin "BaseException.__getattribute__") [.ref x,.str f g]) _ _ _;refine lK (pA t4.ga.plain F.entry_bexc_ga ?_);have I:uW "BaseException.__getattribute__"=some .slot:=VE;have J:splitId "BaseException.__getattribute__"=some ("BaseException","__getattribute__"):=VE;have L:=F.args_bexc_ga (.ref x) (.str f g);simp only[uF,I,J];refine aO ?_;unfold qV;refine aO (c.at (z.at ?_));rw[if_neg VD];refine kb L ?_;unfold Builtin.«object.__getattribute__»;refine aO (bH ?_);refine aO (bH ?_);refine aO (c.at ?_);unfold Builtin.ObjectAttr.find;refine aO (aO (u.at (aO (bH (aO (bH ?_))))));dsimp only;unfold Builtin.ObjectAttr.ownThenClass Builtin.ObjectAttr.inOwnDict Builtin.ObjectAttr.ownDict;refine aO (aO (aO (pH a ?_)));rw[i];dsimp only;unfold instanceDict;refine aO (pH a ?_);rw[e,j];dsimp only;refine aO (G.at ?_);rw[D];refine iN VD (bH ?_);refine wpAny_nsGet n.ns ?_;rw[k];refine aO (qT (bH (bH ?_)));dsimp only;cases v with
 |builtin id=>exact absurd O (r id)
 |_=>exact bH h
def QG(K:Frag)(M:bG)(f:aA):bG:=λY H Q=>M Y H λy z=>∃(x C d:aB)(v:V),y=.ref x/\z x=some (lC x (.ref C) (some d))/\z d=some (nM d f v)/\findIn K (.ref C) "__getattribute__"=some (some (.builtin "BaseException.__getattribute__"))/\findIn K (.ref C) "__getattr__"=some aG/\mroIn K C (.type "BaseException")=some aC/\findIn K (.ref C) f=some aG/\hasDictIn K C=aC/\(∃a,v=.str a)/\Q v z
end
section
variable{X:aZ}{e:bJ}{M:bG}{f:aA}{pos:Pos}
theorem OH{K:Frag}(c:X.K=K)(g:bL X e M)(i:pJ e f X.env (eval e X.env)=eval e X.env):bL X (.Attribute e f pos) (QG K M f):=by
 subst c;refine⟨?_⟩;intro U s Y H Q I h;refine Dw i (cD (g U s Y H _ I h) λu s1 ⟨y,z,b,j,x,C,d,v,k,l,m,p,w,A,B,D,⟨a,E⟩,q⟩=>?_);subst k;subst E;obtain rfl:u=cZ x:=j;obtain⟨⟨o,vs,G,J,L,N⟩,_,_⟩:=(show dR X.prog X.w z s1.heap x (lC x (.ref C) (some d)) from b.hok x _ l)
 obtain⟨⟨T,u,n,r,a0⟩,_,_⟩:=(show dR X.prog X.w z s1.heap d (nM d f (.str a)) from b.hok d _ m)
 obtain⟨tk,rfl⟩:=(show ∃t,u=nW a t from r)
 exact KZ b.kIn G J L N n a0 p w A B D ⟨.str a,z,b.tok _,r,q⟩ (λid=>by intro a;cases a)
end
structure sm (K:Frag) (C:aB):Prop where
 ex:pb K C=aC
 em:exmOne K (.ref C) (.ref C)=some aC
 ga:findIn K (.ref C) "__getattribute__"=some (some (.builtin "BaseException.__getattribute__"))
 gt:findIn K (.ref C) "__getattr__"=some aG
 mb:mroIn K C (.type "BaseException")=some aC
 ic:sG K C
theorem qR.k{K:Frag}{C:aB}(e:qR K C):sm K C:=⟨e.ex.n,e.em,e.ga,e.gt,e.mb,e.ic⟩
theorem NE{K:Frag}{a C:aB}{p:Option aB}(e:sm K C):KitX K (.ref a) (.ref C) (Fa a (.ref C) p) where
 ty:=λM h X ⟨o,vs,q,c,d⟩=>c▸(r8 q).andThen .now
 it:=λM h X _=>by
  have q:=e.em;unfold uy at q;split at q
  .exact(PySem.W.kit_cls (M:=M) X q).2.1
  .cases q
 ne:=λh f dd j n m X g=>by
  obtain⟨tl,N,nm,r,bs,l,sn,sub,ab,u,s,k0,k1,k2,k3,k5,b,_⟩:=x2 e.ex X;refine Bool.eq_false_iff.mpr λq=>?_;have i:C=f:=cZ.inj (beq_iff_eq.mp q);rw[i,g]at b;have w:=congrArg aY.data (gK b);exact absurd w (by intro w;cases w)
 ca:=λX ⟨o,vs,q,c,d⟩ k=>Kw X (c▸(r8 q).andThen .now) e.ga e.gt e.mb e.ic k
theorem p8{X:aZ}{K:Frag}(d:X.K=K):iY X (.builtin "isinstance") (λxs H Q=>∃a y c C b p,xs=[.ref a,y]/\vv y=some c/\H a=some (lC a (.ref C) p)/\sm K C/\kitOne K (.ref C) c=some b/\Q (.bl b) H):=by
 subst d;intro U s Y H xs us Q I r h;obtain⟨a,y,c,C,b,f,rfl,g,i,e,k,q⟩:=h;obtain⟨u,v,rfl,j,l⟩:=cB.two r;obtain rfl:=Cz g l;cases j;obtain⟨p,_,_⟩:=(show dR X.prog X.w H s.heap a (lC a (.ref C) f) from I.hok a _ i)
 exact l7 (NE e) I.kIn p k (λm=>nomatch m) λtk=>⟨.bl b,H,I.tok tk,O,q⟩
def KX(K:Frag)(mg:aA->Option aE)(r n:aA)(b:Bool):Prop:=∀c d,mg r=some (.ref c)->mg n=some (.ref d)->kitOne K (.ref c) (.ref d)=some b
def qY(K:Frag)(mg:aA->Option aE)(r:aA)(b:Bool):Prop:=∀c,mg r=some (.ref c)->kitOne K (.ref c) (.type "ValueError")=some b
def q6(K:Frag)(mg:aA->Option aE)(r n:aA):Prop:=∀c d,mg r=some (.ref c)->mg n=some (.ref d)->exmOne K (.ref c) (.ref d)=some aC
section
variable{K:Frag}{mg:aA->Option aE}{r n:aA}{b:Bool}{c d:aB}
theorem Vj(h1:mg r=some (.ref c))(h2:mg n=some (.ref d))(k:kitOne K (.ref c) (.ref d)=some b):KX K mg r n b:=λc' d' a e=>by
 rw[h1]at a;rw[h2]at e;cases a;cases e;exact k
theorem Vi(h1:mg r=some (.ref c))(k:kitOne K (.ref c) (.type "ValueError")=some b):qY K mg r b:=λc' a=>by
 rw[h1]at a;cases a;exact k
theorem VC(h1:mg r=some (.ref c))(h2:mg n=some (.ref d))(k:exmOne K (.ref c) (.ref d)=some aC):q6 K mg r n:=λc' d' a b=>by
 rw[h1]at a;rw[h2]at b;cases a;cases b;exact k
end
end L2
namespace Mt46
open PySem L2 Ld Mt21
def vT:aA:="nosuchxx"
theorem Kr:vT.cps.toList=[110,111,115,117,99,104,120,120]:=VE
theorem Qy(h:ab i=n)(h1:97<=n):i%26=(n:Int)-97:=by
 unfold ab at h;have a:=iM i (show(26:Int)≠0 by decide);omega
theorem ON{b s:aA}{a pl:Nat}{q:Int}{x:Nat}(f:b.cps.toList=(fH a).map λ(j:Nat)=>ab (q+(j:Int)*(j:Int)))(u:pl<a)(w:a<=8)(k:s.cps.toList=b.cps.toList.take pl++[x]++b.cps.toList.drop (pl+1)):s≠vT:=λe=>by
 have l:s.cps.toList=[110,111,115,117,99,104,120,120]:=by rw[e];exact Kr
 have p:s.cps.toList.length=a:=by
  rw[k,eW,eW,dU,nR,f,aS,oy];show min pl a+1+(a-(pl+1))=a;omega
 have r:a=8:=by rw[←p,l];rfl
 subst r;have get:∀j:Nat,j<8->j≠pl->s.cps.toList[j]?=some (ab (q+(j:Int)*(j:Int))):=λj g m=>by
  have o:b.cps.toList[j]?=some (ab (q+(j:Int)*(j:Int))):=by
   rw[f,dO,List.getElem?_range g];rfl
  have i:b.cps.toList.length=8:=by rw[f,aS,oy]
  rw[k];by_cases h:j<pl
  .rw[nc,nN (by rw[dU,i];omega),List.getElem?_take,if_pos h];exact o
  .rw[qz (by rw[eW,dU,i];show min pl 8+1<=j;omega),eW,dU,i,um];show b.cps.toList[pl+1+(j-(min pl 8+1))]?=_;rw[show pl+1+(j-(min pl 8+1))=j by omega];exact o
 have c:∀(j n:Nat),j<8->j≠pl->([110,111,115,117,99,104,120,120]:List Nat)[j]?=some n->97<=n->(q+(j:Int)*(j:Int))%26=(n:Int)-97:=λj n g m t h1=>by
  have:=get j g m;rw[l,t]at this;exact Qy (gK this).symm h1
 by_cases p1:pl=1
 .have d:=c 0 110 VF VF O VF;have a2:=c 2 115 VF VF O VF;omega
 .by_cases D:pl=2
  .have d:=c 0 110 VF VF O VF;have a3:=c 3 117 VF VF O VF;omega
  .have a1:=c 1 111 VF VF O VF;have a2:=c 2 115 VF VF O VF;omega
end Mt46
namespace L2
open PySem PySem.Spec PyProof.Rows
def mm(v d:aB):dX:=.ext λh=>h.IsItemsView v d
theorem mm.ok(x:h.IsItemsView v d):dR P w H h v (mm v d):=
 ⟨x,let ⟨o,a,_⟩:=x;⟨o,a⟩,λ_ _ ⟨o,a,r⟩ k=>⟨o,k o a,r⟩⟩
def wU(H:aD):List aB->List (aW×V)->Prop
 |[],J=>J=[]
 |a::as,J=>∃k v r,J=(k,v)::r/\H a=some (.tup [kV k,v])/\wU H as r
section
variable{P:bT}{w:bN}{fs:List aB}{H0 H:aD}{h h':bE}
theorem OU(d:eC fs [] H0 H h h')(j:eB P w H h')(k:h.objs.size<=a)(f:H a=aG)(new:dR P w (aI H a (.tup xs)) h' a (.tup xs)) :
  eC fs [] H0 (aI H a (.tup xs)) h h'/\eB P w (aI H a (.tup xs)) h':=by
 refine⟨⟨d.keep,d.slot,λb o q n l=>?_,d.there,λb ys q=>?_,λb o u q=>?_,λb ps q=>?_⟩,λb u e=>?_⟩
 .rw[bD (eF (iK (dQ q) k))];exact d.free b o q n l
 .rw[bD (dC (d.tups b ys q) f)];exact d.tups b ys q
 .rw[bD (dC (d.frzs b o u q) f)];exact d.frzs b o u q
 .obtain⟨m,g⟩:=d.tbls b ps q;exact⟨m,by rw[bD (dC g f)];exact g⟩
 .by_cases i:b=a
  .subst i;rw[aV]at e;cases e;exact new
  .rw[bD i]at e;exact(j b u e).stay (λc v _ q=>q) (λc q=>by rw[bD (dC q f)];exact q) λc xs q=>by rw[bD (dC q f)];exact q
theorem Bd:∀(as:List aB)(J:List (aW×V))(vs:List (aW×aE))(H:aD),fJ J vs->as.length=vs.length->as.Pairwise (·<·)->(∀a∈as,h.objs.size<=a)->(∀a∈as,H a=aG) ->
      (∀(j:Nat)(a:aB),as[j]?=some a->∃key c x,vs[j]?=some (c,x)/\pq c key=aC/\h'.get? a=some {cls:=.type "tuple",data:=.seq #[key,x]}) ->
      eC fs [] H0 H h h'->eB P w H h'->∃H',aM H H'/\wU H' as J/\eC fs [] H0 H' h h'/\eB P w H' h'
  |[],J,vs,H,g,d,_,_,_,_,i,k=>by
    cases g with
    |nil=>exact⟨H,aM.refl _,O,i,k⟩
    |cons _ _=>cases d
  |a::as,J,vs,H,g,d,l,n,o,s,i,k=>by
    cases g with
    |nil=>cases d
    |@cons p q J vs r t=>
      obtain⟨key,c,x,y,z,A⟩:=s 0 a O;have B:q=(c,x):=by simpa using y
      subst B;obtain⟨C,D⟩:=r;obtain⟨f,pv⟩:=p;have E:f=c:=C;subst E;have ha:=o a eJ;have G:(2:Nat)<=dH:=VD;obtain⟨I,L⟩:=OU (xs:=[kV f,pv]) i k (n a eJ) ha ⟨G,[key,x],.cons (v5 z) (.cons D .nil),_,A,O,0,O,O⟩;obtain⟨H',u,M,N,Q⟩:=Bd as J vs (aI H a (.tup [kV f,pv])) t (by simpa using d) (List.pairwise_cons.mp l).2 (λb m=>n b (eY _ m))
        (λb m=>by rw[bD (Ne.symm (eF ((List.pairwise_cons.mp l).1 b m)))];exact o b (eY _ m)) (λj b e=>by
          obtain⟨key,c,x,T,U,Y⟩:=s (j+1) b (by simpa using e);exact⟨key,c,x,by simpa using T,U,Y⟩) I L
      exact⟨H',(aM.upd ha).trans u,⟨f,pv,J,O,u _ _ aV,M⟩,N,Q⟩
theorem Ji:∀as:List aB,cB (as.map V.ref) (as.map cZ)
 |[]=>.nil
 |a::as=>.cons O (Ji as)
end
section
variable{X:aZ}
theorem Co:sL X "dict.items" (λx vs H Q=>∃d J,x=.ref d/\vs=[]/\fB H d (.dK J)/\∀v,H v=aG->Q (.ref v) (aI H v (mm v d))):=by
 intro U s Y H x vs v us Q I c f h;obtain⟨d,J,rfl,rfl,g,q⟩:=h;cases c;have i:=f.zero;subst i;obtain⟨k,lo,j,l,a⟩:=g.ok I.hok;refine uT w5 a.typeIs PySem.F.entry_dict_items (PySem.F.args_dict_items_1 _) (meets_dict_items (dZ X.prog X.w) d lo) ⟨⟨j,a⟩,?_⟩;exact⟨.ref s.heap.objs.size,_,I.laid (t':=s.toks) (λb m e=>dM _ e) (bQ _) (mm.ok ⟨_,gF _ O,O,O⟩),O,q _ (I.hok.fresh (bQ _))⟩
theorem Uo(i:X.calm=aC):iY X (.type "list") (λxs H Q=>∃v d J,xs=[.ref v]/\H v=some (mm v d)/\fB H d (.dK J)/\∀(l:aB)(as:List aB)(H':aD),H l=aG->aM H H'->H' l=some (.lst (as.map V.ref))->wU H' as J->Q (.ref l) H'):=by
 intro U s Y H xs us Q I r h;obtain⟨v,d,J,rfl,ev,j,q⟩:=h;obtain⟨u,rfl,k⟩:=cB.one r;cases k;obtain⟨D,lo,vs,e,n⟩:=j.ok I.hok;obtain⟨o,_⟩:=I.hok v _ ev;obtain⟨ep,p⟩:=n.dictAt;have E:=fJ.length e;refine PySem.W.kdx_call (knd:=dZ X.prog X.w) (kvs:=vs) (ep:=ep) (I.ok.hd i) o p VF λh' tk G c as f t w b x=>?_;have y:eC X.fs [] H (aI H s.heap.objs.size (.lst (as.map V.ref))) s.heap h':=eC.laid f (bQ _) (I.hok.fresh (bQ _));have z:eB X.prog X.w (aI H s.heap.objs.size (.lst (as.map V.ref))) h':=I.hok.laid f (bQ _) ⟨by rw[aS];omega,as.map cZ,c,Ji as,by rw[←x];simpa using t⟩;obtain⟨H',g,A,B,C⟩:=Bd as J vs _ e w b.rise (λa m=>qN (b.above a m)) (λa m=>by
  rw[bD (nk (b.above a m))];exact I.hok.fresh (qN (b.above a m))) b.pairs y z
 exact⟨.ref s.heap.objs.size,H',I.un (t':=tk) B C,O,q _ as H' (I.hok.fresh (bQ _)) ((aM.upd (I.hok.fresh (bQ _))).trans g) (g _ _ aV) A⟩
end
def xP(d:aB)(o:aY)(J:List (aW×V)):jr where
 go:=λi H=>H d=some (.frz o (.dK J))/\i<J.length
 yld:=λi H v H'=>∃p a,H p=aG/\v=.ref p/\H'=aI H p (.tup [kV a.1,a.2])/\J[i]?=some a
 stop:=λi H=>H d=some (.frz o (.dK J))/\J.length<=i
theorem JH:entryFor table "dict_itemiterator.__iter__"=some Builtin.«dict_keyiterator.__iter__»:=entryFor_alias (id':="dict_keyiterator.__iter__") (by kernel_rfl) O VE (by kernel_rfl)
theorem LF(e:IsItemIter s.heap it d i n ep b c)(h:Q (.ref it) s):aU (aX prog w) A (pyIter (.ref it)) Q E s:=by
 have a:s.TypeIs (.ref it) "dict_itemiterator":=⟨_,e,O⟩
 refine wpAny_pyIter_slot a F.slot_dict_itemiterator_iter (pE F.slot_dict_itemiterator_iter a JH ?_ (F.args_dict_itemiterator_iter_1 _));show aU _ _ (ret (.ref it)) _ _ s;exact bH ⟨_,O,"dict_itemiterator",_,a,F.slot_dict_itemiterator_next.lookup,h⟩
theorem Li{P:bT}{w:bN}{K:bI}{a5:List bJ}{k:Nat}{pos:Pos}{d it:aB}{o:aY}{J:List (aW×V)}{vs:List (aW×aE)}{ep:Nat}{N:bE}(y:fJ J vs)(Q:N.get? d=some o)(T:N.DictAt (dZ P w) d vs ep) :
  oO P w K (.Tuple a5 k pos) (xP d o J) [it] it (λi h=>∃ok j,IsItemIter h it d i vs.length ep ok j) where
 mem:=by simp
 obj:=λi h ⟨ok,j,st⟩ b a=>by
  have e:b=it:=by simpa using a
  subst e;exact⟨_,st,λv l=>by cases l⟩
 keep:=λi h h' ⟨ok,j,st⟩ k=>⟨ok,j,k it (by simp) _ st⟩
 item:=by
  intro X z A B f i U s Y H E I hf ⟨ok,j,st⟩ C;subst z A B;obtain⟨D,hi⟩:=C;have g:=hf it (by simp);have now:=T.at' (h':=s.heap) λG e=>by
   rw[Q]at e;cases e;exact(show dR X.prog X.w H s.heap d (.frz o (.dK J)) from I.hok d _ D).1
  have a6:=fJ.length y;obtain⟨⟨k,v⟩,a0⟩:∃p,vs[i]?=some p:=⟨_,cY VF⟩
  obtain⟨q,a7,a8,a9⟩:=fJ.get y a0;refine wpAny_pyNext_items_item st now a0 λkey h1 aa ac ae aq af=>?_;refine⟨_,O,wpAny_letOwnedTupleGo_items ac λh2 ag x=>?_⟩
  replace x:oF it h1 h2:=x
  have a1:it<s.heap.objs.size:=dQ st;have t:∀b o,b≠it->s.heap.get? b=some o->h2.get? b=some o:=λb o a2 q=>x.extBut b o a2 (af b o a2 q);have ah:h2.get? s.heap.objs.size=some {cls:=.type "tuple",data:=.seq #[key,v]}:=x.extBut _ _ (nk a1) ae;have fresh:H s.heap.objs.size=aG:=I.hok.fresh (bQ _);have L:∀b,b∉[it]->b≠it:=λb a l=>a (by simp[l]);have a3:∀b o,H b=some o->b≠it:=λb o q l=>(by rw[l,g.1]at q;cases q)
  have ai:cK (kV q.1) key:=by
   rw[show q.1=k from a8];exact v5 aa
  have aj:Inv X U Y (aI H s.heap.objs.size (.tup [kV q.1,q.2])) {s with heap:=h2}:=by
   refine I.step (g':=s.gens) (d':=s.drawn) (ch:=[it]) (λb a=>?_) (λb o _ _ f q _=>t b o (L b f) q) (λb o _ _ f q _=>⟨o.slots,t b o (L b f) q⟩)
    (λb o _ q n=>by rw[bD (eF (dQ q))];exact n) (λb o f q=>⟨o,t b o (L b f) q⟩)
    (λb ys q=>by rw[bD (dC q fresh)];exact q) (λb o v q=>by rw[bD (dC q fresh)];exact q) (λb ps q=>⟨#[],by rw[bD (dC q fresh),q];simp⟩) (λm hm=>?_) (λb a4 u=>?_) I.bare
   .have M:b=it:=by simpa using a
    subst M;exact⟨g.2.2.2.1,g.2.1,g.2.2.2.2.1,g.2.2.2.2.2⟩
   .obtain⟨o,es,ep,ak,r⟩:=hm;exact⟨o,es,ep,t _ o (Ne.symm g.2.1) ak,r⟩
   .by_cases a:b=s.heap.objs.size
    .subst a;rw[aV]at u;cases u;exact⟨by show 2<=dH;decide,[key,v],.cons ai (.cons a9 .nil),⟨_,ah,O,_,O,O⟩⟩
    .rw[bD a]at u;refine(I.hok b a4 u).stay (λc o f r=>?_) (λc r=>by rw[bD (dC r fresh)];exact r) λc ys r=>by rw[bD (dC r fresh)];exact r
     have al:c≠it:=by
      rcases f with rfl|f
      .exact a3 c a4 u
      .exact a3 c _ f
     exact t c o al r
  refine⟨.ref s.heap.objs.size,_,aj,O,⟨_,q,fresh,O,O,a7⟩,⟨_,_,ag⟩,λb a=>?_⟩;have M:b=it:=by simpa using a
  subst M;rw[bD (eF a1)];exact g.1
 done:=by
  intro X z A B f i U s Y H E I hf ⟨ok,j,st⟩ C;subst z A B;obtain⟨D,hi⟩:=C;obtain⟨am,f1,f2,f3,an,ao⟩:=hf it (by simp);have now:=T.at' (h':=s.heap) λG e=>by
   rw[Q]at e;cases e;exact(show dR X.prog X.w H s.heap d (.frz o (.dK J)) from I.hok d _ D).1
  have a6:=fJ.length y;exact wpAny_pyNext_items_end (I.ok.hd f) st now (xc VF) λh' ap=>⟨O,I.turned (t':=s.toks) (λb G a e=>ap b G a e) am f1 f3 an ao⟩
 self:=λ_ _ _ _ _ ⟨_,_,st⟩ h=>LF st h
section
variable{X:aZ}
def Qo(t:bG):TI:=λY H R=>t Y H λx z=>∃v d J,x=.ref v/\z v=some (mm v d)/\z d=some (.dK J)/\∀o,R (xP d o J) (aI z d (.frz o (.dK J)))
theorem Nr{n:List bJ}{k:Nat}{C:Pos}{l:bJ}{tl:bG}(p:bL X l tl):lu X (.Tuple n k C) l (Qo tl):=by
 refine⟨?_⟩;intro U s Y H R I h;refine cD (p U s Y H _ I h) λu s1 ⟨x,z,a,r,v,d,J,e,t,i,q⟩=>?_;subst e;cases r;have hok:=a.hok d _ i;obtain⟨w,lo,vs,j,m⟩:=id hok;obtain⟨ep,c⟩:=m.dictAt;obtain⟨o,es,f,_⟩:=id c;obtain⟨view,_⟩:=a.hok v _ t;have g:Inv X U Y (aI z d (.frz o (.dK J))) s1:=a.write (x:=d) (e:=d) (o:=.frz o (.dK J)) (h':=s1.heap) (t':=s1.toks) (by rw[i];exact trivial) VG (λ_ _ _ q=>q) ⟨o,f⟩ ⟨f,w,lo,vs,j,m⟩;refine wpAny_pyIter_items view c ⟨s1.heap.objs.size,[s1.heap.objs.size],_,_,aI z d (.frz o (.dK J)),O,g.kept (t':=s1.toks) (λb A e=>dM _ e),Li j f c,⟨_,_,gF _ O⟩,λb y=>?_,q o⟩;rw[show b=s1.heap.objs.size by simpa using y];exact g.fpOk (bQ _) (g.hok.fresh (bQ _))
theorem LQ(C:J.length<=dH)(Pv:Nat->List V->aD->Prop)(k:Pv 0 [] H)
 (l:∀i ys H,i<=J.length->Pv i ys H->H d=some (.frz o (.dK J))/\ys.length<=i)
 (n:∀i a ys H p (K:aP) (j:aD->Prop),J[i]?=some a->Pv i ys H->H p=aG->(∀y b,Pv (i+1) (ys++[y]) b->K y b)->(∀c,Pv (i+1) ys c->j c) ->
   g (.ref p) e (aI H p (.tup [kV a.1,a.2])) (tr f te K j))
 (s:∀ys H,Pv J.length ys H->h ys H):rd e g f te h (xP d o J) H:=by
 refine⟨λi m ys H=>m+i=J.length/\Pv i ys H,⟨J.length,O,k⟩,?_⟩;intro i m ys H t;obtain⟨hm,p⟩:=t;obtain⟨q,D⟩:=l i ys H VF p;rcases Nat.lt_or_ge i J.length with lt|ge
 .refine .inr ⟨⟨q,lt⟩,VF,λx H' y=>?_⟩;obtain⟨u,a,w,ex,z,A⟩:=y;subst z ex;exact n i a ys _ u _ _ A p w (λy b r=>⟨J.length-(i+1),VF,VF,r⟩) λc r=>⟨J.length-(i+1),VF,VF,r⟩
 .have B:i=J.length:=VF;subst B;exact .inl ⟨⟨q,bQ _⟩,s ys H p⟩
end
section
variable{X:aZ}{pos:Pos}
inductive Sz(K:bI)(n:Nat)(t:lP)(v:V)(Y:St)(H:aD)(Q:St->aD->Prop):Prop
 |mk:∀a xs,v=.ref a->aT K H a xs->xs.length=n->t xs Y H Q->Sz K n t v Y H Q
end
section
variable{X:aZ}
theorem JL:iY X (.type "dict") (λxs H Q=>∃(p:aB)(J:List (aW×V)),xs=[.ref p]/\H p=some (.dK J)/\∀l,H l=aG->Q (.ref l) (aI H l (.dK J))):=by
 intro U s Y H xs us Q I r h;obtain⟨p,J,rfl,c,q⟩:=h;obtain⟨u,rfl,d⟩:=cB.one r;cases d;obtain⟨f,lo,g,a,i⟩:=(show dR X.prog X.w H s.heap p (.dK J) from I.hok p _ c)
 have l1:=fJ.length a;refine kt_call_dict lo i VF λh' j m=>?_;have k:∀b o,s.heap.get? b=some o->h'.get? b=some o:=λb o e=>(m.2 b (eF (dQ e))).trans (dM _ e);refine⟨.ref s.heap.objs.size,_,I.laid (t':=s.toks) k (bQ _) (show dR X.prog X.w _ h' _ (.dK J) from⟨f,?_,g,a,j⟩),O,q _ (I.hok.fresh (bQ _))⟩;have b:=I.big;exact beq_eq_false_iff_ne.mpr (nk b)
end
def nw(a b:cA):cA:=λvs H Q E=>a vs H Q E\/b vs H Q E
structure px (P:bT) (w:bN) (K:bI) (mg:aA->Option aE) (base:bE) (k:Nat) (x:aA) (st:bS) (N ps:List aA) (sp:cA):Prop where
 len:∀vs H Q E,sp vs H Q E->vs.length=ps.length
 body:∀(f:aB)(cdv:aE)(A:bX)(outer:List eP)(s:aK)(H:aD)(vs:List V)(Q:aP)(E:dL),eQ k (A.deeper (envOfC x (bP st) s.heap.objs.size f cdv))->sp vs H Q E ->
   ∃t,iQ (iH jb P w K mg base N x (bP st) f cdv A outer s H E).nox (jC st) t/\t {nx:=λ_ H'=>Q .non H',rt:=Q} (start N vs) H
structure ou (P:bT) (w:bN) (K:bI) (mg:aA->Option aE) (base:bE) (k:Nat) (x:aA) (st:bS) (N ps:List aA) (sp:cA):Prop where
 len:∀vs H Q E,sp vs H Q E->vs.length=ps.length
 body:∀(f:aB)(cdv:aE)(A:bX)(outer:List eP)(s:aK)(H:aD)(vs:List V)(Q:aP)(E:dL),eQ k (A.deeper (envOfC x (bP st) s.heap.objs.size f cdv))->sp vs H Q E ->
   ∃t,iQ (iH (kc P w) P w K mg base N x (bP st) f cdv A outer s H E) (jC st) t/\t {nx:=λ_ H'=>Q .non H',rt:=Q} (start N vs) H
section
variable{P:bT}{w:bN}{K:bI}{mg:aA->Option aE}{base:bE}{k:Nat}{x m:aA}{st:bS}{N ps:List aA}{sp sq:cA}{C:aB}
theorem px.or(a:px P w K mg base k x st N ps sp)(b:px P w K mg base k x st N ps sq):px P w K mg base k x st N ps (nw sp sq):=
 ⟨λvs H Q E h=>h.elim (a.len vs H Q E) (b.len vs H Q E),λf c A outer s H vs Q E d h=>h.elim (a.body f c A outer s H vs Q E d) (b.body f c A outer s H vs Q E d)⟩
theorem ou.or(a:ou P w K mg base k x st N ps sp)(b:ou P w K mg base k x st N ps sq):ou P w K mg base k x st N ps (nw sp sq):=
 ⟨λvs H Q E h=>h.elim (a.len vs H Q E) (b.len vs H Q E),λf c A outer s H vs Q E d h=>h.elim (a.body f c A outer s H vs Q E d) (b.body f c A outer s H vs Q E d)⟩
theorem dE.fcB(D:dE K mg x st ps)(S:cN N ps (bP st))(b:px P w K mg base k x st N ps sp):bA P w K mg base (k+1) x ps sp:=D.fc S b.len b.body
theorem MethAt.mcB(D:MethAt K C m x st ps)(S:cN N ps (bP st))(b:ou P w K mg base k x st N ps sp):uY P w K mg base (k+1) C m ps sp:=D.mcX S b.len b.body
end
end L2
namespace Mt73
open PySem L2 Mt22 Mt61
theorem PS{P:Nat->Prop}:(∃n,P n)->∃n,P n/\∀m,P m->n<=m:=by
 rintro⟨n,a⟩
 induction n using Nat.strongRecOn with
 |_ n b=>
  by_cases h:∃m,m<n/\P m
  .obtain⟨m,lt,pm⟩:=h;exact b m lt pm
  .exact⟨n,a,λm pm=>xA λlt=>h ⟨m,lt,pm⟩⟩
theorem yH(b:gM a G)(X:aA->Bool):0<=nB G X:=by
 have:dD G (λ_=>(0:Int))<=dD G (nK X):=sT λg m=>by
  have:=b.cap g m;unfold nK;split<;>omega
 rw[oa λ_ _=>O]at this;exact this
theorem NB{g:List aA}{G:List cC}(d:gM g G){a:List aA}(ns:Mt22.sea∉a):∃c,lA G a c:=by
 obtain⟨n,⟨X,s,w,e⟩,h⟩:=PS (P:=λn=>∃X:aA->Bool,X Mt22.sea=aJ/\(∀b∈a,X b=aC)/\(nB G X).toNat=n) ⟨_,λb=>decide (b∈a),decide_eq_false ns,λb m=>decide_eq_true m,O⟩;refine⟨nB G X,⟨X,s,w,O⟩,λf i j=>?_⟩;have h1:=h _ ⟨f,i,j,O⟩;have h2:=yH d X;have h3:=yH d f;omega
theorem NZ(d:gM b G)(ns:Mt22.sea∉a):lA G a (ku G a):=by
 obtain⟨c,h⟩:=NB d ns;rw[EM h];exact h
structure UD (zs:List aA) (v:List aA->Int):Prop where
 cg:∀a b:List aA,(∀z,z∈a↔z∈b)->v a=v b
 aG:v []=0
 mono:∀a b:List aA,(∀z∈a,z∈b)->(∀z∈b,z∈zs)->v a<=v b
 sub:∀a b e c:List aA,(∀z∈e,z∈a\/z∈b)->(∀z∈c,z∈a/\z∈b)->(∀z∈a,z∈zs)->(∀z∈b,z∈zs)->v e+v c<=v a+v b
noncomputable def shr(v:List aA->Int)(zs:List aA)(a:aA):Int:=dD (m6 zs.length) λns=>rO v zs a (ns.map λi=>zs.getD i "")
end Mt73
namespace L2
open PySem PySem.Spec PyProof.Rows PySem.SeqAt
section
variable{X:aZ}
open Classical in
noncomputable def qd(H:aD)(N:List aH)(d:aH)(u:aE):Bool:=decide (∃e y,e∈N/\cK y u/\bK H e y/\fQ e d=aC)
open Classical in
theorem Ee(m:e∈N)(r:cK y u)(h:bK H e y)(f:∀x∈N,dG 30 x=aC):qd H N d u=fQ e d:=by
 unfold qd;cases c:fQ e d with
 |true=>exact decide_eq_true ⟨e,y,m,r,h,c⟩
 |false=>
  refine decide_eq_false ?_;rintro⟨g,i,a,b,h',c'⟩;cases b.inj r;have:=bK.inj _ _ _ h' h ⟨_,f _ a⟩ ⟨_,f _ m⟩;subst this;rw[c]at c';cases c'
theorem Dj(f:∀x∈all,dG 30 x=aC):∀{N:List aH} {xs:List V} {us:List aE},(∀x∈N,x∈all)->IsL H N xs->cB xs us->us.any (qd H all d)=N.any λe=>fQ e d
 |[],_,_,_,h,v=>by
  cases(show _=[] from h);cases v;rfl
 |e::N,_,_,m,⟨y,r,rfl,h,t⟩,.cons a b=>by
  rw[oD,oD,Ee (m e eJ) a h f,Dj f (λx c=>m x (eY _ c)) t b]
theorem Di(f:∀x∈all,dG 30 x=aC)(q:∀e y u,e∈all->bK H e y->cK y u->EqAt A s u v (fQ e d)):∀{N:List aH} {xs:List V} {us:List aE},(∀x∈N,x∈all)->IsL H N xs->cB xs us->∀u∈us,EqAt A s u v (qd H all d u)
 |[],_,_,_,h,w=>λu a=>by
  cases(show _=[] from h);cases w;cases a
 |e::N,_,_,m,⟨y,r,rfl,h,t⟩,.cons b c=>λu a=>by
  rcases eM.mp a with rfl|a
  .rw[Ee (m e eJ) b h f];exact q e y _ (m e eJ) h b
  .exact Di f q (λx g=>m x (eY _ g)) t c u a
theorem Bm:∀{n:Nat} {N:List aH},iR n N=aC->∀d∈N,dG n d=aC
 |_,[],_,d,m=>by cases m
 |n,e::N,h,d,m=>by
  rw[iR,fK]at h;rcases eM.mp m with rfl|m
  .exact h.1
  .exact Bm h.2 d m
end
theorem Up(b:aA)(u:Tok)(a:s.heap.get? l=some o)(c:o.data=.dict es ep)
 (h:Q .notImplemented s):aU (aX prog w) A (call (.builtin "str.__eq__") [.str b u,.ref l]) Q E s:=by
 obtain⟨cls,dd,data,e⟩:=o;cases(show data=_ from c);refine pE F.slot_str_eq (qU s b u) F.entry_str_eq ?_ (F.args_str_eq_2 _ _);obtain⟨f,g,d,tk,os⟩:=s
 wp_walk using AutoSeq1.wpAny_loadPart' a,wpAny_load a
 exact⟨_,O,h⟩
theorem JJ(b:aA)(u:Tok)(a:s.TypeIs (.ref l) "dict")
 (h:Q .notImplemented s):aU (aX prog w) A (call (.builtin "dict.__eq__") [.ref l,.str b u]) Q E s:=by
 refine pE F.slot_dict_eq_refl a F.entry_dict_eq ?_ (F.args_dict_eq_2 _ _);show aU _ _ (Builtin.Dict.dictSlotArgs "__eq__" ⟨[.ref l,.str b u],[]⟩>>=_) _ _ s;refine aO ?_;unfold Builtin.Dict.dictSlotArgs;refine aO (ue a ?_);show aU _ _ (pure (cZ l,nW b u)) _ _ s;refine bH ?_;refine aO (xH (T:="str") (qU s b u) F.sub_str_dict ?_);rw[if_pos VD];exact aO (qT (bH ⟨_,O,h⟩))
theorem Kc(b:aA)(u:Tok)(c:s.TypeIs (.ref l) "dict")(d:s.heap.get? l=some o)(e:o.data=.dict es ep)(f:A.units<cLine):EqAt A s (.str b u) (.ref l) aJ:=λprog w E Q h=>by
 unfold eqBool;refine jn ?_;refine wpAny_ite_split (λg=>absurd (eq_of_beq g) nofun) (λ_=>?_);refine aO (rc_eq_decline_or (k:=aJ) (qU s b u) c VD F.sub_dict_str F.slot_str_eq F.slot_dict_eq_refl (λ_ a=>Up b u d e a) (λ_ a=>JJ b u c a) (λ_ a=>kb (rfl:isSame (.str b u) (.ref l)=pure aJ) a) (.inr f) (mE h))
section
variable{X:aZ}
inductive GA(neg:Bool)(x y:V)(H:aD)(Q:aP):Prop
 |mk:∀(d:aH)(p:aB)(zs:List aA),y=.ref p->H p=some (.lst (zs.map V.str))->bK H d x->((dG 30 d=aC\/∃B es,d=.dct B es))->(Q (.bl (if neg then !((zs.map aH.str).any λe=>fQ e d) else(zs.map aH.str).any λe=>fQ e d)) H)->GA neg x y H Q
theorem Bl(n:Nat):∀zs:List aA,iR n (zs.map aH.str)=aC
 |[]=>by cases n<;>rfl
 |z::zs=>by
  show(dG n (.str z)&&iR n (zs.map aH.str))=aC;rw[Bl n zs];cases n<;>rfl
theorem wP(E:X.A.units+64<cLine):fO X (iO .NotIn) (GA aC):=by
 intro U s Y H x y v u Q I b k h;obtain⟨d,p,zs,rfl,l,c,fd,q⟩:=h;cases k;have f:=Bm (Bl 30 zs);have g:=IsL.strs H zs;have key:∀{A:bX},A.units<=X.A.units+8->∀e y u,e∈zs.map aH.str->bK H e y->cK y u->EqAt A s u v (fQ e d):=λ{A} G e y u m h r=>by
  rcases fd with fd|⟨B,es,rfl⟩
  .exact bK.eqAt I 30 e d y x u v A VF (f e m) fd h c r b
  .obtain⟨i,_,rfl⟩:=cP.mp m;obtain⟨a,vs,rfl,n,_,_⟩:=c;cases b;cases(show y=.str i from h);obtain⟨_,_,_,_,dd⟩:=EK I.hok n;have hT:=dd.typeIs;obtain⟨o,J,ep,z,_,C,_⟩:=dd;obtain⟨t,rfl⟩:=r;exact Kc i t hT z C VF
 obtain⟨j,r,pl,L⟩:=I.list (aT.of l);refine SeqAt.notIn_listAt (qd H (zs.map aH.str) d) pl.isList (λw D=>Di f (key (A:=X.A.in1) (by show X.A.units+1<=_;omega)) (λx m=>m) g r w (by simpa using D)) ⟨.bl _,H,I,O,?_⟩;rw[show j.toArray.any (qd H (zs.map aH.str) d)=j.any (qd H (zs.map aH.str) d) by simp,Dj f (λx m=>m) g r];exact q
inductive GF(x y:V)(H:aD)(Q:aP):Prop
 |mk:∀(p q:aB)(xs:List V),x=.ref p->y=.ref q->H p=some (.lst xs)->H q=some (.lst [])->Q (.bl (!xs.isEmpty)) H->GF x y H Q
theorem DX(i:X.A.units+64<cLine):fO X (iO .NotEq) GF:=by
 intro U s Y H x y v u Q I c d h;obtain⟨p,q,xs,rfl,rfl,h1,h2,k⟩:=h;cases c;cases d;obtain⟨l,r,pl,m⟩:=I.list (aT.of h1);obtain⟨its',f,b,n⟩:=I.list (aT.of h2);cases f;have l1:=r.length;cases xs with
 |nil=>
  cases r;exact RcNeAt.lists (e:=λ_=>aC) pl.isList b.isList O VF (λj g=>absurd g (by simp)) _ _ _ _ ⟨.bl _,H,I,O,k⟩
 |cons a xs=>exact RcNeAt.lists_lengths pl.isList b.isList (by rw[eO,←l1];rfl) VF _ _ _ _ ⟨.bl _,H,I,O,k⟩
end
end L2
namespace L2
open PySem PySem.Spec PyProof.Rows
variable{X:aZ}
theorem AH:∀{zs:List aA} {us:List aE},cB (zs.map V.str) us->StrsAre us zs
 |[],_,h=>by cases h;exact .nil
 |z::zs,_,h=>by
  cases h with
  |cons a r=>
   obtain⟨t,rfl⟩:=(show ∃t,_=nW z t from a)
   exact .cons z t (AH r)
theorem Nj(y a:aA):Spec.same (.str y) (.str a)=decide (y=a):=by
 by_cases h:y=a
 .subst h;simp[Spec.same]
 .simp[Spec.same,h]
theorem Jf(a:aA):∀zs:List aA,Spec.countIn (.str a) (zs.map PyData.str)=((zs.count a:Nat):Int)
 |[]=>rfl
 |y::zs=>by
  rw[dW,Spec.countIn.eq_2,Jf a zs,Nj,List.count_cons];by_cases h:y=a
  .subst h;simp;omega
  .simp[h]
theorem Cp:xR X "list.count" (λx vs H Q=>∃(l:aB)(zs:List aA)(a:aA),x=.ref l/\vs=[.str a]/\H l=some (.lst (zs.map V.str))/\Q (.int (zs.count a:Nat)) H):=by
 intro U s Y H x xs v us Q I b c h;obtain⟨l,zs,a,rfl,rfl,d,q⟩:=h;cases b;obtain⟨u,rfl,e⟩:=cB.one c;obtain⟨t,rfl⟩:=(show ∃t,u=nW a t from e)
 obtain⟨f,r,pl,g⟩:=I.list (aT.of (K:=X.K) d);refine count_list_strs pl.isList (AH r) ⟨.int _,H,I.tok _,⟨_,O⟩,?_⟩;rw[Jf];exact q
end L2
namespace K82
open PySem L2
noncomputable def cX(i:Nat):bS:=PySem.Challenge.pw_dykemoot_k82_what_is_due_first.main.body.getD i (.Pass ⟨0,0,0,0⟩)
abbrev Nk:bS:=cX 0
abbrev GD:bS:=kx (cX 10) 0
theorem Uq:cN ["self","field"] ["self","field"] (bP GD):={}
abbrev Iy:bS:=cX 19
theorem JO:cN ["thing"] ["thing"] (bP Iy):={}
abbrev IS:bS:=cX 20
theorem Ki:cN ["thing"] ["thing"] (bP IS):={}
abbrev GJ:bS:=cX 21
theorem Us:cN ["thing"] ["thing"] (bP GJ):={}
abbrev GK:bS:=cX 22
theorem Ut:cN ["thing"] ["thing"] (bP GK):={}
abbrev GH:bS:=cX 23
theorem Ur:cN ["thing","names"] ["thing","names"] (bP GH):={}
abbrev Gj:bS:=cX 24
theorem Uc:cN ["thing","most"] ["thing","most"] (bP Gj):={}
abbrev Ga:bS:=cX 25
theorem TP:cN ["thing","length"] ["thing","length"] (bP Ga):={}
abbrev Gi:bS:=cX 26
theorem Ub:cN ["rows"] ["rows"] (bP Gi):={}
abbrev Iz:bS:=cX 27
theorem JP:cN ["thing"] ["thing"] (bP Iz):={}
abbrev Gn:bS:=cX 28
theorem Ud:cN ["thing"] ["thing"] (bP Gn):={}
abbrev GQ:bS:=cX 29
theorem Uw:cN ["one","other","sides"] ["one","other","sides"] (bP GQ):={}
abbrev IR:bS:=cX 30
theorem Kh:cN ["thing","crown"] ["thing","crown"] (bP IR):={}
abbrev IT:bS:=cX 31
theorem Kj:cN ["thing","sides"] ["thing","sides"] (bP IT):={}
abbrev GR:bS:=cX 32
theorem Ux:cN ["thing","sides"] ["thing","sides"] (bP GR):={}
abbrev IQ:bS:=cX 33
theorem Kg:cN ["land","thing"] ["land","thing"] (bP IQ):={}
abbrev GP:bS:=cX 34
theorem Uv:cN ["land","thing"] ["land","thing"] (bP GP):={}
abbrev Fn:bS:=cX 35
theorem vC:cN ["land","thing","names"] ["land","thing"] (bP Fn):={}
abbrev Gg:bS:=cX 36
theorem Ua:cN ["dyke","crown"] ["dyke","crown"] (bP Gg):={}
abbrev IE:bS:=kx (cX 37) 0
theorem JT:cN ["self","fields","dykes"] ["self","fields","dykes"] (bP IE):={}
abbrev Ge:bS:=kx (cX 37) 1
theorem TS:cN ["self"] ["self"] (bP Ge):={}
abbrev Go:bS:=kx (cX 37) 2
theorem Ue:cN ["self"] ["self"] (bP Go):={}
abbrev Fk:bS:=kx (cX 37) 3
theorem SU:cN ["self"] ["self"] (bP Fk):={}
abbrev Fo:bS:=kx (cX 37) 4
theorem Td:cN ["self"] ["self"] (bP Fo):={}
abbrev TU:bS:=kx (cX 37) 5
abbrev Gd:bS:=kx (cX 37) 6
theorem TR:cN ["self","field"] ["self","field"] (bP Gd):={}
abbrev GX:bS:=kx (cX 37) 7
theorem Jw:cN ["self","field"] ["self","field"] (bP GX):={}
abbrev GW:bS:=kx (cX 37) 8
theorem Jv:cN ["self","name"] ["self","name"] (bP GW):={}
abbrev Gc:bS:=kx (cX 37) 9
theorem y1:cN ["self","works","crowns","dykes"] ["self","works"] (bP Gc):={}
abbrev Am:bS:=cX 39
theorem tm:cN ["starts","steps","came","waiting","near","step"] ["starts","steps"] (bP Am):={}
abbrev IP:bS:=cX 40
theorem vI:cN ["came","side","path","step"] ["came","side"] (bP IP):={}
abbrev Gk:bS:=cX 42
theorem FX:cN ["land","fields","height"] ["land","fields","height"] (bP Gk):={}
abbrev IB:bS:=cX 43
theorem JQ:cN ["dyke","height"] ["dyke","height"] (bP IB):={}
abbrev IC:bS:=cX 44
theorem JR:cN ["land","works"] ["land","works"] (bP IC):={}
abbrev Ao:bS:=cX 45
theorem KH:cN ["land","side","height"] ["land","side","height"] (bP Ao):={}
abbrev Ap:bS:=cX 46
theorem KI:cN ["land","dyke","height"] ["land","dyke","height"] (bP Ap):={}
abbrev GN:bS:=cX 47
theorem Uu:cN ["land","height"] ["land","height"] (bP GN):={}
abbrev Gh:bS:=cX 48
theorem vD:cN ["land","names","steps","name","dyke"] ["land","names"] (bP Gh):={}
abbrev BW:bS:=cX 49
theorem Mk:cN ["step","most","stream"] ["step","most","stream"] (bP BW):={}
abbrev IN:bS:=cX 50
theorem Kf:cN ["steps","most","stream"] ["steps","most","stream"] (bP IN):={}
abbrev Fq:bS:=cX 51
theorem yY:cN ["steps","most","stream","fields","came","ends"] ["steps","most","stream","fields"] (bP Fq):={}
abbrev Fs:bS:=cX 52
theorem rl:cN ["steps","most","fields","stream","path","amount","step"] ["steps","most","fields"] (bP Fs):={}
abbrev FZ:bS:=cX 53
theorem FO:cN ["steps","flowed","fields","height","behind"] ["steps","flowed","fields","height"] (bP FZ):={}
abbrev Aq:bS:=cX 54
theorem rn:cN ["land","fields","height","most","steps","stream","works","amounts"] ["land","fields","height"] (bP Aq):={}
abbrev FP:bS:=cX 57
theorem TH:cN ["height"] ["height"] (bP FP):={}
abbrev BZ:bS:=cX 58
theorem Mn:cN ["land","fields","height"] ["land","fields","height"] (bP BZ):={}
abbrev Fm:bS:=cX 59
theorem vB:cN ["count","lists","place"] ["count"] (bP Fm):={}
abbrev GO:bS:=cX 60
theorem td:cN ["land","fields","height","told","places","company"] ["land","fields","height"] (bP GO):={}
abbrev Fj:bS:=cX 62
theorem vA:cN ["one","other","rest"] ["one","other"] (bP Fj):={}
abbrev IA:bS:=cX 63
theorem GC:cN ["top","bottom","divisor"] ["top","bottom"] (bP IA):={}
abbrev BX:bS:=cX 64
theorem Ml:cN ["one","other"] ["one","other"] (bP BX):={}
abbrev AP:bS:=cX 65
theorem Ll:cN ["one","other"] ["one","other"] (bP AP):={}
abbrev BY:bS:=cX 66
theorem Mm:cN ["one","other"] ["one","other"] (bP BY):={}
abbrev GG:bS:=cX 67
theorem vH:cN ["count","product","number"] ["count"] (bP GG):={}
abbrev FI:bS:=cX 68
theorem Tw:cN ["ahead","count"] ["ahead","count"] (bP FI):={}
abbrev Ix:bS:=cX 69
theorem tf:cN ["field","fields","costs","total","company","joined"] ["field","fields","costs"] (bP Ix):={}
abbrev An:bS:=cX 70
theorem vJ:cN ["land","fields","height","costs"] ["land","fields","height"] (bP An):={}
abbrev GS:bS:=cX 73
theorem Uy:cN ["thing"] ["thing"] (bP GS):={}
abbrev Gm:bS:=cX 74
theorem FY:cN ["land","thing","names"] ["land","thing"] (bP Gm):={}
abbrev FQ:bS:=cX 75
theorem FG:cN ["land","yes","names"] ["land","yes"] (bP FQ):={}
abbrev Gl:bS:=cX 76
theorem y4:cN ["land","yes","names","for_it"] ["land","yes"] (bP Gl):={}
abbrev FR:bS:=cX 77
theorem FH:cN ["purse_of","share_of","name"] ["purse_of","share_of"] (bP FR):={}
abbrev ID:bS:=kx (cX 78) 0
theorem JS:cN ["self","land","purses"] ["self","land","purses"] (bP ID):={}
abbrev tj:bS:=kx (cX 78) 1
theorem oU:cN ["self","fields","height","yes","land","share_of","told","name"] ["self","fields","height","yes"] (bP tj):={}
abbrev Kk:bS:=kx (cX 78) 2
abbrev GU:bS:=kx (cX 78) 3
theorem Uz:cN ["self"] ["self"] (bP GU):={}
abbrev Gb:bS:=kx (cX 78) 4
theorem TQ:cN ["self"] ["self"] (bP Gb):={}
abbrev GV:bS:=kx (cX 78) 5
theorem Ju:cN ["self"] ["self"] (bP GV):={}
abbrev AS:bS:=cX 80
theorem zy:cN ["_law_script","_law_k","_law_number"] ["_law_script","_law_k"] (bP AS):={}
abbrev AQ:bS:=cX 81
theorem n4:cN ["_law_cell","_law_letters","_law_size","_law_place","_law_by","_law_base","_law_found","_law_k","_law_sign"] ["_law_cell"] (bP AQ):={}
abbrev As:bS:=cX 82
theorem KJ:cN ["_law_cell"] ["_law_cell"] (bP As):={}
abbrev At:bS:=cX 83
theorem ro:cN ["_law_script","_law_most","_law_names_here","_law_fields_here","_law_k","_law_cell","_law_dues"] ["_law_script","_law_most"] (bP At):={}
abbrev AT:bS:=cX 84
theorem lR:cN ["_law_script","_law_at","_law_most","_law_fields_here","_law_names_here","_law_sides","_law_dykes_here","_law_k","_law_cell","_law_one","_law_others","_law_other","_law_crown","_law_rate","_law_sill"] ["_law_script","_law_at","_law_most","_law_fields_here"] (bP AT):={}
abbrev Ca:bS:=cX 85
theorem tt:cN ["_law_cell","_law_fields_here","_law_most","_law_left","_law_found","_law_k"] ["_law_cell","_law_fields_here","_law_most"] (bP Ca):={}
abbrev Ar:bS:=cX 86
theorem vK:cN ["_law_cell","_law_fields_here","_law_names_here","_law_yes"] ["_law_cell","_law_fields_here"] (bP Ar):={}
abbrev wM:bS:=cX 87
theorem kX:cN ["_law_moot","_law_fields_here","_law_wish_here","_law_height_here","_law_yes","_law_land","_law_names_here","_law_strange","_law_dues","_law_told_here","_law_held","_law_short"] ["_law_moot","_law_fields_here","_law_wish_here","_law_height_here","_law_yes"] (bP wM):={}
abbrev AR:bS:=cX 88
theorem vN:cN ["_law_moot","_law_wish_here","_law_height_here","_law_yes","e","_law_word"] ["_law_moot","_law_wish_here","_law_height_here","_law_yes"] (bP AR):={}
abbrev Cc:bS:=cX 89
theorem vY:cN ["_law_script","_law_names_here","_law_fields_here","_law_moot"] ["_law_script"] (bP Cc):={}
abbrev Cb:bS:=cX 90
theorem Mo:cN ["_law_moot"] ["_law_moot"] (bP Cb):={}
abbrev yd:bS:=cX 91
theorem kd:cN ["_law_script","_law_fields_here","_law_land","_law_purses","_law_name","_law_ground","_law_dues","_law_cell","_law_moot","_law_k","_law_wish_here","_law_height_here","_law_yes","_law_due_here","_law_ahead"] ["_law_script"] (bP yd):={}
structure Txt (K:bI) (mg:aA->Option aE) (C:aB):Prop where
 ad:kQ K C
 gb:mg "Land"=some (.ref C)
 gc:m0 K C "field_rows"
 gd:m0 K C "dyke_rows"
 se:sG K C
 so:sF K C "Land.__init__" IE ["self","fields","dykes"]
 Cl:MethAt K C "fields" "Land.fields" Ge ["self"]
 Da:MethAt K C "dykes" "Land.dykes" Go ["self"]
 Id:MethAt K C "field_names" "Land.field_names" Fk ["self"]
 Os:MethAt K C "dyke_names" "Land.dyke_names" Fo ["self"]
 Pi:MethAt K C "sluices" "Land.sluices" TU ["self"]
 Re:MethAt K C "ground" "Land.ground" Gd ["self","field"]
 Tm:MethAt K C "dues" "Land.dues" GX ["self","field"]
 Ty:MethAt K C "dyke" "Land.dyke" GW ["self","name"]
 Wa:MethAt K C "raised" "Land.raised" Gc ["self","works"]
 Wb:∃C_Moot:aB,kQ K C_Moot/\mg "Moot"=some (.ref C_Moot)/\m0 K C_Moot "land_now"/\m0 K C_Moot "purse_of"/\m0 K C_Moot "works_done"/\sF K C_Moot "Moot.__init__" ID ["self","land","purses"]/\MethAt K C_Moot "move" "Moot.move" tj ["self","fields","height","yes"]/\MethAt K C_Moot "put" "Moot.put" Kk ["self","field","coins"]/\MethAt K C_Moot "land" "Moot.land" GU ["self"]/\MethAt K C_Moot "purses" "Moot.purses" Gb ["self"]/\MethAt K C_Moot "done" "Moot.done" GV ["self"]
 Wc:∃c:aB,qR K c/\mg "NoWish"=some (.ref c)
 Wd:∃c:aB,qR K c/\mg "TooMany"=some (.ref c)
 We:∃c:aB,qR K c/\mg "NoVoice"=some (.ref c)
 Wf:∃c:aB,qR K c/\mg "Outvoted"=some (.ref c)
 Wg:∃c_Short c_DykeError:aB,(sm K c_Short/\rQ K c_Short c_DykeError=aC/\ka K (.ref c_Short) "__setattr__"=some (some (.builtin "object.__setattr__"))/\ka K (.ref c_Short) "field"=some aG/\ui K c_Short=aC/\MethAt K c_Short "__init__" "Short.__init__" GD ["self","field"]/\ka K (.ref c_DykeError) "__init__"=some (some (.builtin "ValueError.__init__"))/\PySem.W.nsIn K cStatics "thirdparty.any"=some aG/\oL K c_DykeError)/\mg "Short"=some (.ref c_Short)/\mg "DykeError"=some (.ref c_DykeError)
 Wh:∃c:aB,mg "NoPurse"=some (.ref c)
 Wi:qY K mg "NoWish" aC
 Wj:KX K mg "NoWish" "NoPurse" aJ
 Wk:KX K mg "NoWish" "Short" aJ
 Wl:KX K mg "NoWish" "NoWish" aC
 Wm:KX K mg "NoWish" "NoVoice" aJ
 Wn:KX K mg "NoWish" "TooMany" aJ
 Wo:KX K mg "NoWish" "Outvoted" aJ
 Wp:qY K mg "TooMany" aC
 Wq:KX K mg "TooMany" "NoPurse" aJ
 Wr:KX K mg "TooMany" "Short" aJ
 Ws:KX K mg "TooMany" "NoWish" aJ
 Wt:KX K mg "TooMany" "NoVoice" aJ
 Wu:KX K mg "TooMany" "TooMany" aC
 Wv:KX K mg "TooMany" "Outvoted" aJ
 Ww:qY K mg "NoVoice" aC
 Wx:KX K mg "NoVoice" "NoPurse" aJ
 Wy:KX K mg "NoVoice" "Short" aJ
 Wz:KX K mg "NoVoice" "NoWish" aJ
 Xa:KX K mg "NoVoice" "NoVoice" aC
 Xb:KX K mg "NoVoice" "TooMany" aJ
 Xc:KX K mg "NoVoice" "Outvoted" aJ
 Xd:qY K mg "Outvoted" aC
 Xe:KX K mg "Outvoted" "NoPurse" aJ
 Xf:KX K mg "Outvoted" "Short" aJ
 Xg:KX K mg "Outvoted" "NoWish" aJ
 Xh:KX K mg "Outvoted" "NoVoice" aJ
 Xi:KX K mg "Outvoted" "TooMany" aJ
 Xj:KX K mg "Outvoted" "Outvoted" aC
 Xk:qY K mg "Short" aC
 Xl:KX K mg "Short" "NoPurse" aJ
 Xm:KX K mg "Short" "Short" aC
 Xn:KX K mg "Short" "NoWish" aJ
 Xo:KX K mg "Short" "NoVoice" aJ
 Xp:KX K mg "Short" "TooMany" aJ
 Xq:KX K mg "Short" "Outvoted" aJ
 Xr:q6 K mg "NoWish" "DykeError"
 Xs:q6 K mg "TooMany" "DykeError"
 Xt:q6 K mg "NoVoice" "DykeError"
 Xu:q6 K mg "Outvoted" "DykeError"
 Xv:q6 K mg "Short" "DykeError"
 Xw:dE K mg "_wall" Nk ["k"]
 Xx:dE K mg "is_whole" Iy ["thing"]
 Xy:dE K mg "is_name" IS ["thing"]
 Xz:dE K mg "is_height" GJ ["thing"]
 Ya:dE K mg "is_amount" GK ["thing"]
 Yb:dE K mg "is_one_of" GH ["thing","names"]
 Yc:dE K mg "is_list_of" Gj ["thing","most"]
 Yd:dE K mg "is_tuple_of" Ga ["thing","length"]
 Ye:dE K mg "none_twice" Gi ["rows"]
 Yf:dE K mg "is_field" Iz ["thing"]
 Yg:dE K mg "are_fields" Gn ["thing"]
 Yh:dE K mg "are_sides" GQ ["one","other","sides"]
 Yi:dE K mg "is_sill" IR ["thing","crown"]
 Yj:dE K mg "is_dyke" IT ["thing","sides"]
 Yk:dE K mg "are_dykes" GR ["thing","sides"]
 Yl:dE K mg "is_work" IQ ["land","thing"]
 Ym:dE K mg "are_works" GP ["land","thing"]
 Yn:dE K mg "are_some_fields" Fn ["land","thing"]
 Yo:dE K mg "with_crown" Gg ["dyke","crown"]
 Yp:dE K mg "spread" Am ["starts","steps"]
 Yq:dE K mg "path_to" IP ["came","side"]
 Yr:dE K mg "check_wish" Gk ["land","fields","height"]
 Ys:dE K mg "coins_to" IB ["dyke","height"]
 Yt:dE K mg "coins_of" IC ["land","works"]
 Yu:dE K mg "is_low" Ao ["land","side","height"]
 Yv:dE K mg "is_gap" Ap ["land","dyke","height"]
 Yw:dE K mg "gap_coins" GN ["land","height"]
 Yx:dE K mg "steps_over" Gh ["land","names"]
 Yy:dE K mg "room" BW ["step","most","stream"]
 Yz:dE K mg "reached" IN ["steps","most","stream"]
 Za:dE K mg "path_with_room" Fq ["steps","most","stream","fields"]
 Zb:dE K mg "fullest_stream" Fs ["steps","most","fields"]
 Zc:dE K mg "works_round" FZ ["steps","flowed","fields","height"]
 Zd:dE K mg "fewest" Aq ["land","fields","height"]
 Ze:dE K mg "cost_of_none" FP ["height"]
 Zf:dE K mg "cost" BZ ["land","fields","height"]
 Zg:dE K mg "lists_of_places" Fm ["count"]
 Zh:dE K mg "companies" GO ["land","fields","height"]
 Zi:dE K mg "greatest_divisor" Fj ["one","other"]
 Zj:dE K mg "fraction" IA ["top","bottom"]
 Zk:dE K mg "plus" BX ["one","other"]
 Zl:dE K mg "minus" AP ["one","other"]
 Zm:dE K mg "less" BY ["one","other"]
 Zn:dE K mg "orders_of" GG ["count"]
 Zo:dE K mg "orders_behind" FI ["ahead","count"]
 Zp:dE K mg "share_of" Ix ["field","fields","costs"]
 Zq:dE K mg "shares" An ["land","fields","height"]
 Zr:dE K mg "are_coins" GS ["thing"]
 Zs:dE K mg "are_purses" Gm ["land","thing"]
 Zt:dE K mg "check_voices" FQ ["land","yes"]
 Zu:dE K mg "check_dues" Gl ["land","yes"]
 Zv:dE K mg "check_purses" FR ["purse_of","share_of"]
 Zw:dE K mg "_law_mixed" AS ["_law_script","_law_k"]
 Zx:dE K mg "_law_names" AQ ["_law_cell"]
 Zy:dE K mg "_law_height" As ["_law_cell"]
 Zz:dE K mg "_law_fields" At ["_law_script","_law_most"]
 q00:dE K mg "_law_dykes" AT ["_law_script","_law_at","_law_most","_law_fields_here"]
 q01:dE K mg "_law_wish" Ca ["_law_cell","_law_fields_here","_law_most"]
 q02:dE K mg "_law_voices" Ar ["_law_cell","_law_fields_here"]
 q03:dE K mg "_law_due" wM ["_law_moot","_law_fields_here","_law_wish_here","_law_height_here","_law_yes"]
 q04:dE K mg "_law_moved" AR ["_law_moot","_law_wish_here","_law_height_here","_law_yes"]
 q05:dE K mg "_law_nine" Cc ["_law_script"]
 q06:dE K mg "_law_told" Cb ["_law_moot"]
 q07:dE K mg "law" yd ["_law_script"]
 q08:m1 mg "SEA" (.str "sea")
 q09:m1 mg "LETTERS" (.str "abcdefghijklmnopqrstuvwxyz")
 q10:m1 mg "MOST_LETTERS" (.int 8)
 q11:m1 mg "MOST_HEIGHT" (.int 1000000)
 q12:m1 mg "MOST_AMOUNT" (.int 1000000)
 q13:m1 mg "MOST_FIELDS" (.int 12)
 q14:m1 mg "MOST_DYKES" (.int 40)
 q15:m1 mg "MOST_IN_A_WISH" (.int 8)
 q16:m1 mg "MOST_COINS" (.int 1000000000000)
 q17:mg "ValueError"=aG
 q18:mg "abs"=aG
 q19:mg "all"=aG
 q20:mg "bool"=aG
 q21:mg "dict"=aG
 q22:mg "int"=aG
 q23:mg "isinstance"=aG
 q24:mg "len"=aG
 q25:mg "list"=aG
 q26:mg "max"=aG
 q27:mg "min"=aG
 q28:mg "range"=aG
 q29:mg "reversed"=aG
 q30:mg "set"=aG
 q31:mg "sorted"=aG
 q32:mg "str"=aG
 q33:mg "sum"=aG
 q34:mg "tuple"=aG
section
variable{P:bT}{w:bN}{K:bI}{mg:aA->Option aE}{base:bE}{C:aB}
open Ld
theorem gB:(1000:Nat)<=dH:=VD
inductive Iq(x:V)(H:aD)(Q:aP):Prop
 |mk:∀d,bK H d x->Q (.bl (isInt d)) H->Iq x H Q
def wG:cA:=sp1 (Iq)
theorem zb(T:Txt K mg C):bA P w K mg base 1 "is_whole" ["thing"] wG:=by
 refine T.Xx.fc JO jN (λf g A outer s H vs Q E i h=>?_);obtain⟨x,rfl,d,a,q⟩:=h;obtain⟨t,ty,b,c,_⟩:=rS K a;refine⟨_,(bF (cJ (jh (dB (kL (K:=K) O) O T.q23 jA (aF (pv 0) (aF (kz T.q22 qc) aL))) (jS (PI (dB (kL (K:=K) O) O T.q23 jA (aF (pv 0) (aF (kz T.q20 zK) aL)))))))),?_⟩;refine⟨_,O,_,_,_,t,_,O,O,ty,b,_,O,?_⟩;refine jO (λh=>?_) (λh=>?_)
 .refine⟨_,O,_,_,_,t,_,O,O,ty,c,_,O,?_⟩;have e:(!s6 d)=isInt d:=by cases d<;>simp_all [isInt,s6]
  rw[e];exact q
 .have e:isInt d=aJ:=by cases d<;>simp_all [isInt,s6]
  rw[e]at q;exact q
inductive HN(x:V)(H:aD)(Q:aP):Prop
 |mk:∀d,bK H d x->gT d=aC->Q (.bl (qt d)) H->HN x H Q
def yu:cA:=sp1 (HN)
theorem IH(T:Txt K mg C):bA P w K mg base 1 "is_name" ["thing"] yu:=by
 refine T.Xy.fcD Ki jN (λf I A outer s H vs Q E J h=>?_);obtain⟨x,rfl,d,o,l,q⟩:=h;obtain⟨t,ty,L,M,r,_⟩:=rS K o;have N:=gB;refine⟨_,(bB (fD (gU.pt (ju (iF (fY (dB (kL (K:=K) rfl) rfl T.q23 jA (aF (pv 0) (aF (kz T.q32 Bz) aL))))) (kg (iF (Np lZ lZ aQ (dB Ky rfl T.q24 iD (aF (pv 0) aL)) (lB T.q10)))))) (bF (cJ m5)) fC) (bF (cJ (jh (kv pj (pv 0) (lB T.q08) (eI _)) (jS (dB (o3 rfl) rfl T.q19 oZ (aF (fM ["sign"] 1 [] rfl (PG (pv 0)) (λR=>dJ (i:=0) (VE:eG (["sign"]:List aA)) rfl VG) (eN VD) (λR=>gN) (λR=>(kv Mv (pv 0) (lB T.q09) (by with_unfolding_all rfl)))) aL))))))),?_⟩;refine⟨_,rfl,_,_,_,t,_,rfl,rfl,ty,r,_,rfl,?_⟩;cases d with
 |str g=>
  cases(show x=.str g from o);have l:g.length<=1000:=of_decide_eq_true l;have q:Q (.bl (jq g)) H:=q;have u:g.length<=dH:=VF;refine cG ?_;refine⟨_,rfl,g,rfl,u,_,_,rfl,rfl,_,rfl,?_⟩;refine jO (λh1=>?_) (λh1=>?_)
  .refine⟨_,_,rfl,rfl,_,rfl,?_⟩;have m:1<=g.length:=by
    have:=of_decide_eq_true h1;omega
   refine jO (λh2=>?_) (λh2=>?_)
   .have e:jq g=aJ:=by
     have n:¬g.length<=8:=by
      intro j;have:((g.length:Nat):Int)<=8:=VF;simp[this]at h2
     simp[jq,n]
    rw[e]at q;exact gJ.of (.refl _) q
   .have n:g.length<=8:=by
     have j:decide (((g.length:Nat):Int)<=8)=aC:=by
      cases k:decide (((g.length:Nat):Int)<=8) with
      |true=>rfl
      |false=>exact absurd (by rw[k];rfl) h2
     have:=of_decide_eq_true j;omega
    refine⟨_,rfl,rfl,_,rfl,?_⟩;refine jO (λj=>?_) (λj=>?_)
    .have y:¬g="sea":=by
      intro k;subst k;simp at j
     refine⟨_,rfl,g,rfl,?_⟩;refine NV (fF l VD) (λi ys H'=>H'=H/\ys=(g.cps.toList.take i).map λc=>V.bl (mZ c)) ⟨rfl,rfl⟩ ?_ ?_ ?_
     .rintro i ys H' ⟨_,rfl⟩;rw[aS,dU];omega
     .rintro i c ys H' U Y z ⟨rfl,rfl⟩ k1 k2;refine⟨_,rfl,_,_,rfl,rfl,k1 _ _ ⟨rfl,?_⟩⟩;have B:g.cps.toList[i]?=some c:=by simpa using z
      rw[eL,B,LH];simp
     .rintro ys H' ⟨rfl,rfl⟩;intro p D;refine⟨p,g.cps.toList.map mZ,rfl,aT.of ?_,?_⟩
      .rw[aV,dY (by simp),fS];rfl
      .refine⟨H',iI.lst D,?_⟩;have e:jq g=(g.cps.toList.map mZ).all id:=by
        rw[oE];simp[jq,m,n,y]
       rw[←e];exact q
    .have e:jq g=aJ:=by
      have k:g="sea":=by
       apply rX;intro G;exact j (by simp[G])
      subst k;simp[jq]
     rw[e]at q;exact gJ.of (.refl _) q
  .have e:jq g=aJ:=by
    have m:¬1<=g.length:=by
     intro j;exact h1 (decide_eq_true VF)
    simp[jq,m]
   rw[e]at q;exact⟨_,rfl,gJ.of (.refl _) q⟩
 |non=>exact gJ.of (.refl _) q
 |bl b=>exact gJ.of (.refl _) q
 |int i=>exact gJ.of (.refl _) q
 |lst a=>exact gJ.of (.refl _) q
 |tup a=>exact gJ.of (.refl _) q
 |dct a b=>exact gJ.of (.refl _) q
inductive Hz(x:V)(H:aD)(Q:aP):Prop
 |mk:∀d,bK H d x->Q (.bl (kY d)) H->Hz x H Q
def o0:cA:=sp1 (Hz)
theorem p7(T:Txt K mg C):bA P w K mg base 2 "is_height" ["thing"] o0:=by
 refine T.Xz.fc Us jN (λf e A outer s H vs Q E c h=>?_);obtain⟨x,rfl,d,a,q⟩:=h;refine⟨_,(bF (cJ (jh (bZ (zb T) (c.mono VD) (aF (pv 0) aL)) (jS (ww lZ lZ (yO yq (lB T.q11)) (pv 0) (lB T.q11)))))),?_⟩;refine⟨_,O,_,O,d,a,_,O,?_⟩;cases d with
 |int i=>
  cases(show x=.int i from a);refine cU ?_;have q:Q (.bl (decide (-1000000<=i)&&decide (i<=1000000))) H:=q;refine⟨_,O,_,O,_,_,O,O,_,O,?_⟩;refine jO (λh1=>?_) (λh1=>?_)
  .refine⟨_,_,O,O,?_⟩;rw[decide_eq_true (show -1000000<=i from of_decide_eq_true h1),jX]at q;exact q
  .rw[show decide (-1000000<=i)=aJ from by simpa using h1,sg]at q;exact q
 |_=>exact cG q
inductive Hb(x:V)(H:aD)(Q:aP):Prop
 |mk:∀d,bK H d x->Q (.bl (rH d)) H->Hb x H Q
def Ab:cA:=sp1 (Hb)
theorem Gq(T:Txt K mg C):bA P w K mg base 2 "is_amount" ["thing"] Ab:=by
 refine T.Ya.fc Ut jN (λf e A outer s H vs Q E c h=>?_);obtain⟨x,rfl,d,a,q⟩:=h;refine⟨_,(bF (cJ (jh (bZ (zb T) (c.mono VD) (aF (pv 0) aL)) (jS (ww lZ lZ aQ (pv 0) (lB T.q12)))))),?_⟩;refine⟨_,O,_,O,d,a,_,O,?_⟩;cases d with
 |int i=>
  cases(show x=.int i from a);refine cU ?_;have q:Q (.bl (decide (0<=i)&&decide (i<=1000000))) H:=q;refine⟨_,O,_,_,O,O,_,O,?_⟩;refine jO (λh1=>?_) (λh1=>?_)
  .refine⟨_,_,O,O,?_⟩;rw[decide_eq_true (show 0<=i from of_decide_eq_true h1),jX]at q;exact q
  .rw[show decide (0<=i)=aJ from by simpa using h1,sg]at q;exact q
 |_=>exact cG q
inductive HP(K:bI)(x y:V)(H:aD)(Q:aP):Prop
 |mk:∀(d:aH)(p:aB)(zs:List aA),bK H d x->y=.ref p->aT K H p (zs.map V.str)->Q (.bl (eE zs d)) H->HP K x y H Q
def qk(K:bI):cA:=gY (HP K)
theorem rM(a:aA)(zs:List aA):rv (.str a) (zs.map V.str)=decide (a∈zs):=by
 unfold rv;rw[lj,sd,decide_eq_true_iff];constructor
 .rintro⟨y,b,e⟩;obtain⟨u,c,rfl⟩:=cP.mp b;have d:(u==a)=aC:=e;rw[←beq_iff_eq.mp d];exact c
 .intro h;exact⟨_,cP.mpr ⟨a,h,O⟩,beq_self_eq_true a⟩
theorem rA(zs:List aA):(zs.map V.str).all oq=aC:=by
 rw[j9];intro y a;obtain⟨u,_,rfl⟩:=cP.mp a;rfl
theorem rm(T:Txt K mg C):bA P w K mg base 1 "is_one_of" ["thing","names"] (qk K):=by
 refine T.Yb.fc Ur iC (λf g A outer s H vs Q E i h=>?_);obtain⟨x,y,rfl,d,p,zs,a,rfl,c,q⟩:=h;obtain⟨t,ty,j,k,e,_⟩:=rS K a;refine⟨_,(bF (cJ (jh (dB (kL (K:=K) rfl) rfl T.q23 jA (aF (pv 0) (aF (kz T.q32 Bz) aL))) (jS (kv (rr (K:=K) rfl) (pv 0) (pv 1) (by with_unfolding_all rfl)))))),?_⟩;refine⟨_,rfl,_,_,_,t,_,rfl,rfl,ty,e,_,rfl,?_⟩;cases d with
 |str b=>
  cases(show x=.str b from a);refine cU ⟨_,rfl,_,rfl,p,_,rfl,.inl c,rfl,rA zs,?_⟩;show Q (.bl (rv (.str b) (zs.map V.str))) H;rw[rM];exact q
 |_=>exact cG q
inductive HD(x y:V)(H:aD)(Q:aP):Prop
 |mk:∀(d:aH)(n:Int),bK H d x->y=.int n->Q (.bl (ra n d)) H->HD x y H Q
def tB:cA:=gY (HD)
theorem vE(T:Txt K mg C):bA P w K mg base 1 "is_list_of" ["thing","most"] tB:=by
 refine T.Yc.fc Uc iC (λf k A outer s H vs Q E l h=>?_);obtain⟨x,y,rfl,d,n,e,rfl,q⟩:=h;obtain⟨t,ty,m,p,r,g,_⟩:=rS K e;refine⟨_,(bF (cJ (jh (dB (kL (K:=K) O) O T.q23 jA (aF (pv 0) (aF (kz T.q25 kW) aL))) (jS (ww lZ lZ aQ (dB (jt (K:=K) O) O T.q24 iD (aF (pv 0) aL)) (pv 1)))))),?_⟩;refine⟨_,O,_,_,_,t,_,O,O,ty,g,_,O,?_⟩;cases d with
 |lst N=>
  obtain⟨a,vs,rfl,o,i⟩:=e;have j:=i.length;have q:Q (.bl (decide (1<=N.length)&&decide ((N.length:Int)<=n))) H:=q;refine cU ⟨_,O,a,vs,O,.inl (aT.of o),_,_,O,O,_,O,?_⟩;rw[j];refine jO (λh1=>?_) (λh1=>?_)
  .refine⟨_,O,_,_,O,O,?_⟩;have b:1<=N.length:=by have:=of_decide_eq_true h1;omega
   rw[decide_eq_true b,jX]at q;exact q
  .have b:¬1<=N.length:=λc=>h1 (decide_eq_true VF);rw[decide_eq_false b,sg]at q;exact q
 |_=>exact cG q
inductive Im(x y:V)(H:aD)(Q:aP):Prop
 |mk:∀(d:aH)(n:Int),bK H d x->y=.int n->Q (.bl (vi n d)) H->Im x y H Q
def wI:cA:=gY (Im)
theorem y2(T:Txt K mg C):bA P w K mg base 1 "is_tuple_of" ["thing","length"] wI:=by
 refine T.Yd.fc TP iC (λf j A outer s H vs Q E k h=>?_);obtain⟨x,y,rfl,d,n,b,rfl,q⟩:=h;obtain⟨t,ty,l,m,p,r,c⟩:=rS K b;refine⟨_,(bF (cJ (jh (dB (kL (K:=K) O) O T.q23 jA (aF (pv 0) (aF (kz T.q34 tp) aL))) (jS (kv lx (dB (jt (K:=K) O) O T.q24 iD (aF (pv 0) aL)) (pv 1) (eI _)))))),?_⟩;refine⟨_,O,_,_,_,t,_,O,O,ty,c,_,O,?_⟩;cases d with
 |tup N=>
  obtain⟨a,vs,rfl,o,g⟩:=b;have i:=g.length;have q:Q (.bl (decide ((N.length:Int)=n))) H:=q;refine cU ⟨_,O,a,vs,O,.inr (bY.of o),_,O,O,?_⟩;rw[i];have e:decide (V.int (N.length:Int)=V.int n)=decide ((N.length:Int)=n):=by rw[nG,lj];simp
  rw[e];exact q
 |_=>exact cG q
inductive Io(x:V)(H:aD)(Q:aP):Prop
 |mk:∀(p:aB)(vs:List V)(N:List aH)(zs:List aA),x=.ref p->H p=some (.lst vs)->IsL H N vs->N.map iB=zs.map some->zs.length<=1000->Q (.bl (decide zs.Nodup)) H->Io x H Q
def wH:cA:=sp1 (Io)
theorem MO(h:bK H d v)(e:iB d=some b):∃a r,v=.ref a/\H a=some (.tup (.str b::r)):=by
 cases d with
 |tup N=>
  cases N with
  |nil=>cases e
  |cons c N=>
   cases c with
   |str y=>
    cases e;obtain⟨a,vs,rfl,o,f,r,rfl,g,_⟩:=h;cases(show f=.str b from g);exact⟨a,r,O,o⟩
   |_=>cases e
 |_=>cases e
theorem n7(zs:List aA):(zs.map (Sum.inr:aA->aW)).Nodup↔zs.Nodup:=by
 induction zs with
 |nil=>simp
 |cons b zs a=>
  rw[dW,iL,iL,a];simp
theorem yf(zs:List aA):(zs.map (Sum.inr:aA->aW)).map kV=zs.map V.str:=by
 rw[fS];rfl
theorem y6(T:Txt K mg C):bA P w K mg base 1 "none_twice" ["rows"] wH:=by
 refine T.Ye.fcD Ub jN (λf L A outer s H vs Q E M h=>?_);obtain⟨x,rfl,p,us,N,zs,rfl,b,hi,g,y,q⟩:=h;have U:=gB;have l1:=hi.length;have Y:N.length=zs.length:=by have:=congrArg mI g;simpa using this
 refine⟨_,(bF (cJ (kv lx (dB call_len_set O T.q24 iD (aF (hU (zf O) O T.q30 z8 (aF (fM ["row"] 1 [] O (eV (pv 0)) (λR=>dJ (i:=0) (VE:eG (["row"]:List aA)) O VG) (eN VD) (λR=>gN) (λR=>(cF (cR (K:=K) O) (pv 0) aQ (λ_ _=>O)))) aL)) aL)) (dB (jt (K:=K) O) O T.q24 iD (aF (pv 0) aL)) (eI _)))),?_⟩;refine⟨_,O,p,O,⟨_,aT.of b⟩,?_⟩;refine fP (F:=K) (xs:=us) VF (λi ys H'=>H'=H/\ys=(zs.take i).map V.str) ⟨O,O⟩ ?_ ?_ ?_
 .rintro i ys H' a0 ⟨rfl,rfl⟩;exact⟨aT.of b,by rw[aS,dU];omega⟩
 .rintro i x ys H' a1 a2 k ⟨rfl,rfl⟩ k1 k2;have a3:i<us.length:=(dI.mp k).1;obtain⟨d,m⟩:∃d,N[i]?=some d:=⟨_,cY VF⟩
  obtain⟨c,n⟩:∃c,zs[i]?=some c:=⟨_,cY VF⟩
  obtain⟨v,ev,z⟩:=hi.get m;rw[k]at ev;cases ev;have B:iB d=some c:=by
   have:=congrArg (λl=>l[i]?) g;simpa [m,n] using this
  obtain⟨a,r,rfl,o⟩:=MO z B;refine⟨_,O,a,_,0,.str c,O,O,bY.of o,cE (j:=0) O,k1 _ _ ⟨O,?_⟩⟩;rw[eL,n];simp
 .rintro ys H' ⟨rfl,rfl⟩;intro p1 t;have G:(zs.take us.length).map V.str=(zs.map (Sum.inr:aA->aW)).map kV:=by
   rw[dY VF,yf]
  refine⟨p1,zs.map Sum.inr,O,aT.of (by rw[aV,G]),by rw[aS];exact y,λD u=>?_⟩;have I:=yn (zs.map (Sum.inr:aA->aW));rw[aS]at I;have np:p≠p1:=dC b t;have J:p≠D:=dC (show aI H' p1 _ p=_ from(bD np).trans b) u;refine⟨D,_,_,O,aV,VF,_,O,p,us,O,.inl (aT.of (by rw[bD J,bD np];exact b)),O,?_⟩;have e:decide (V.int ((my (zs.map (Sum.inr:aA->aW))).length:Int)=V.int (us.length:Int))=decide zs.Nodup:=by
   rw[nG,lj,decide_eq_true_iff,←n7,←z4,aS,beq_iff_eq];omega
  rw[e];exact gJ.of ((iI.new u O).trans (iI.lst t)) q
inductive Hs(x:V)(H:aD)(Q:aP):Prop
 |mk:∀d,bK H d x->gT d=aC->Q (.bl (jg d)) H->Hs x H Q
def CK:cA:=sp1 (Hs)
theorem JX(T:Txt K mg C):bA P w K mg base 3 "is_field" ["thing"] CK:=by
 refine T.Yf.fc JP jN (λf a1 A outer s H vs Q E i h=>?_);obtain⟨x,rfl,d,k,u,q⟩:=h;refine⟨_,(bB (fD (iF (fY (bZ (y2 T) (i.mono VD) (aF (pv 0) (aF aQ aL))))) (bF (cJ m5)) fC) (bF (cJ (jh (bZ (IH T) (i.mono VD) (aF (cF (cR (K:=K) O) (pv 0) aQ (λ_ _=>O)) aL)) (jh (bZ (p7 T) (i.mono VD) (aF (cF (cR (K:=K) O) (pv 0) aQ (λ_ _=>O)) aL)) (jS (bZ (Gq T) (i.mono VD) (aF (cF (cR (K:=K) O) (pv 0) aQ (λ_ _=>O)) aL)))))))),?_⟩;refine⟨_,O,_,_,O,d,3,k,O,_,O,?_⟩;by_cases g:∃a b c,d=.tup [a,b,c]
 .obtain⟨a,b,c,rfl⟩:=g;obtain⟨t,us,rfl,o,y,a2,rfl,z,B,a3,rfl,D,G,I,rfl,J,L⟩:=k;cases(show I=[] from L);have M:gT a=aC:=by
   exact rq (zQ u) eJ
  have q:Q (.bl (qt a&&(kY b&&rH c))) H:=q;refine cG ⟨_,O,t,_,0,y,O,O,bY.of o,cE (j:=0) O,_,O,a,z,M,_,O,?_⟩;cases ea:qt a with
  |false=>rw[ea]at q;exact cG q
  |true=>
   rw[ea,jX]at q;refine cU ⟨_,O,t,_,1,B,O,O,bY.of o,cE (j:=1) O,_,O,b,D,_,O,?_⟩;cases l:kY b with
   |false=>rw[l]at q;exact cG q
   |true=>
    rw[l,jX]at q;exact cU ⟨_,O,t,_,2,G,O,O,bY.of o,cE (j:=2) O,_,O,c,J,q⟩
 .have U:jg d=aJ:=Bool.eq_false_iff.mpr λe=>by obtain⟨_,_,_,rfl,_⟩:=jc e;exact g ⟨_,_,_,O⟩
  have Y:vi 3 d=aJ:=by
   cases d with
   |tup N=>
    refine decide_eq_false (λe=>?_);have a0:N.length=3:=VF
    match N,a0,g with
    |[a,b,c],_,g=>exact g ⟨a,b,c,O⟩
   |_=>rfl
  dsimp only;rw[Y];rw[U]at q;exact cU q
theorem v8(b:∀d,p d=aC->∃a,iB d=some a):∀{N:List aH},N.all p=aC->∃zs:List aA,N.map iB=zs.map some
 |[],_=>⟨[],O⟩
 |d::N,h=>by
  rw[qK,fK]at h;obtain⟨a,e⟩:=b d h.1;obtain⟨zs,c⟩:=v8 b h.2;exact⟨a::zs,by rw[dW,dW,e,c]⟩
theorem Ka(d:aH)(h:jg d=aC):∃e,iB d=some e:=by
 obtain⟨e,_,_,rfl,_⟩:=jc h;exact⟨e,O⟩
inductive Ht(x:V)(H:aD)(Q:aP):Prop
 |mk:∀d,bK H d x->gT d=aC->Q (.bl (tz d)) H->Ht x H Q
def BQ:cA:=sp1 (Ht)
theorem Uj(T:Txt K mg C):bA P w K mg base 4 "are_fields" ["thing"] BQ:=by
 refine T.Yg.fcD Ud jN (λf G A outer s H vs Q E b h=>?_);obtain⟨x,rfl,d,g,r,q⟩:=h;have I:=gB;refine⟨_,(bF (cJ (jh (bZ (vE T) (b.mono VD) (aF (pv 0) (aF (lB T.q13) aL))) (jh (dB (o3 O) O T.q19 oZ (aF (fM ["row"] 1 [] O (eV (pv 0)) (λR=>dJ (i:=0) (VE:eG (["row"]:List aA)) O VG) (eN VD) (λR=>gN) (λR=>(bZ (JX T) (b.mono VD) (aF (pv 0) aL)))) aL)) (jS (bZ (y6 T) (b.mono VD) (aF (pv 0) aL))))))),?_⟩;refine⟨_,O,_,_,O,d,12,g,O,_,O,?_⟩;cases d with
 |lst N=>
  obtain⟨p,us,rfl,o,hi⟩:=g;have l1:=hi.length;have j:=iV.mp (show(decide (N.length<=1000)&&lX N)=aC from r);have J:N.length<=1000:=of_decide_eq_true j.1;have q:Q (.bl ((decide (1<=N.length)&&decide (N.length<=12))&&(N.all jg&&decide ((N.map iB).Nodup)))) H:=q;have t:(decide (1<=N.length)&&decide ((N.length:Int)<=12))=(decide (1<=N.length)&&decide (N.length<=12)):=by
   congr 1;rw[lj,decide_eq_true_iff,decide_eq_true_iff];omega
  show if (decide (1<=N.length)&&decide ((N.length:Int)<=12))=aC then _ else _
  rw[t];refine jO (λh1=>?_) (λh1=>?_)
  .rw[h1,jX]at q;refine⟨_,O,p,O,⟨_,aT.of o⟩,?_⟩;refine fP (F:=K) (xs:=us) VF (λi ys H'=>H'=H/\ys=(N.take i).map λd=>V.bl (jg d)) ⟨O,O⟩ ?_ ?_ ?_
   .rintro i ys H' L ⟨rfl,rfl⟩;exact⟨aT.of o,by rw[aS,dU];omega⟩
   .rintro i x ys H' M U k ⟨rfl,rfl⟩ k1 k2;have Y:i<us.length:=(dI.mp k).1;obtain⟨d,c⟩:∃d,N[i]?=some d:=⟨_,cY VF⟩
    obtain⟨v,ev,u⟩:=hi.get c;rw[k]at ev;cases ev;refine⟨_,O,_,O,d,u,rq j.2 (dN c),k1 _ _ ⟨O,?_⟩⟩;rw[eL,c];simp
   .rintro ys H' ⟨rfl,rfl⟩;intro p1 a;have np:p≠p1:=dC o a;refine⟨p1,N.map jg,O,aT.of ?_,_,O,?_⟩
    .rw[aV,dY VF,fS];rfl
    have y:(N.map jg).all id=N.all jg:=by rw[oE];rfl
    rw[y];refine jO (λh2=>?_) (λh2=>?_)
    .rw[h2,jX]at q;obtain⟨zs,e⟩:=v8 Ka h2;have a0:zs.length=N.length:=by have:=congrArg mI e;simpa using this.symm
     refine⟨_,O,_,O,p,us,N,zs,O,by rw[bD np];exact o,IsL.same (aM.upd a) _ _ hi,e,VF,?_⟩;have z:decide zs.Nodup=decide (N.map iB).Nodup:=by rw[e,lj,decide_eq_true_iff,decide_eq_true_iff,n5]
     rw[z];exact gJ.of (iI.lst a) q
    .have B:N.all jg=aJ:=by simpa using h2
     rw[B]at q;exact gJ.of (iI.lst a) q
  .have D:(decide (1<=N.length)&&decide (N.length<=12))=aJ:=by simpa using h1
   rw[D]at q;exact gJ.of (.refl _) q
 |_=>exact cG (gJ.of (.refl _) q)
inductive Ib(K:bI)(x y u:V)(H:aD)(Q:aP):Prop
 |mk:∀(a b:aH)(p:aB)(zs:List aA),bK H a x->bK H b y->u=.ref p->aT K H p (zs.map V.str)->Q (.bl (tJ zs a b)) H->Ib K x y u H Q
def CI(K:bI):cA:=kB (Ib K)
theorem JA(T:Txt K mg C):bA P w K mg base 2 "are_sides" ["one","other","sides"] (CI K):=by
 refine T.Yh.fc Uw k9 (λf n A outer s H vs Q E j h=>?_);obtain⟨x,y,u,rfl,a,b,p,zs,k,l,rfl,m,q⟩:=h;refine⟨_,(bF (cJ (jh (bZ (rm T) (j.mono VD) (aF (pv 0) (aF (pv 2) aL))) (jh (bZ (rm T) (j.mono VD) (aF (pv 1) (aF (pv 2) aL))) (jS (kv pj (pv 0) (pv 1) (eI _))))))),?_⟩;have q:Q (.bl (eE zs a&&(eE zs b&&!fQ a b))) H:=q;refine⟨_,O,_,O,_,_,O,a,p,zs,k,O,m,_,O,?_⟩;cases ea:eE zs a with
 |false=>rw[ea]at q;exact cG q
 |true=>
  rw[ea,jX]at q;refine cU ⟨_,O,_,O,_,_,O,b,p,zs,l,O,m,_,O,?_⟩;cases c:eE zs b with
  |false=>rw[c]at q;exact cG q
  |true=>
   rw[c,jX]at q;cases a with
   |str d=>
    cases b with
    |str g=>
     cases(show x=.str d from k);cases(show y=.str g from l);refine cU ⟨_,O,_,O,O,?_⟩;have e:(!decide (V.str d=V.str g))=!fQ (.str d) (.str g):=by rw[qq];rfl
     rw[e];exact q
    |_=>cases c
   |_=>cases ea
inductive Ic(x y:V)(H:aD)(Q:aP):Prop
 |mk:∀(d:aH)(j:Int),bK H d x->y=.int j->Q (.bl (nH (.int j) d)) H->Ic x y H Q
def DH:cA:=gY (Ic)
theorem Kp(T:Txt K mg C):bA P w K mg base 3 "is_sill" ["thing","crown"] DH:=by
 refine T.Yi.fc Kh iC (λf n A outer s H vs Q E m h=>?_);obtain⟨x,y,rfl,d,j,k,rfl,q⟩:=h;refine⟨_,(bF (cJ (EG (kv PL (pv 0) jp (eI _)) (jS (jh (bZ (p7 T) (m.mono VD) (aF (pv 0) aL)) (jS (kv q8 (pv 0) (pv 1) (eI _)))))))),?_⟩;refine⟨_,O,O,_,O,?_⟩;cases d with
 |non=>
  cases(show x=.non from k);rw[decide_eq_true O];exact cU q
 |int i=>
  cases(show x=.int i from k);rw[decide_eq_false (show ¬V.int i=V.non by intro g;cases g)];refine cG ⟨_,O,_,O,.int i,O,_,O,?_⟩;have q:Q (.bl (hgt i&&decide (i<j))) H:=q;show if hgt i=aC then _ else _
  cases e:hgt i with
  |false=>rw[e]at q;exact cG q
  |true=>rw[e,jX]at q;exact cU ⟨_,O,_,O,_,_,O,O,q⟩
 |bl b=>
  cases(show x=.bl b from k);rw[decide_eq_false (show ¬V.bl b=V.non by intro g;cases g)];exact cG ⟨_,O,_,O,.bl b,O,_,O,cG q⟩
 |str b=>
  cases(show x=.str b from k);rw[decide_eq_false (show ¬V.str b=V.non by intro g;cases g)];exact cG ⟨_,O,_,O,.str b,O,_,O,cG q⟩
 |lst b=>
  obtain⟨a,us,rfl,o⟩:=id k;rw[decide_eq_false (show ¬V.ref a=V.non by intro g;cases g)];exact cG ⟨_,O,_,O,.lst b,k,_,O,cG q⟩
 |tup b=>
  obtain⟨a,us,rfl,o⟩:=id k;rw[decide_eq_false (show ¬V.ref a=V.non by intro g;cases g)];exact cG ⟨_,O,_,O,.tup b,k,_,O,cG q⟩
 |dct b c=>
  obtain⟨a,us,rfl,o⟩:=id k;rw[decide_eq_false (show ¬V.ref a=V.non by intro g;cases g)];exact cG ⟨_,O,_,O,.dct b c,k,_,O,cG q⟩
inductive Hm(K:bI)(x y:V)(H:aD)(Q:aP):Prop
 |mk:∀(d:aH)(p:aB)(zs:List aA),bK H d x->gT d=aC->y=.ref p->aT K H p (zs.map V.str)->Q (.bl (jj zs d)) H->Hm K x y H Q
def DM(K:bI):cA:=gY (Hm K)
theorem Kq(T:Txt K mg C):bA P w K mg base 4 "is_dyke" ["thing","sides"] (DM K):=by
 refine T.Yj.fc Kj iC (λf aj A outer s H vs Q E i h=>?_);obtain⟨x,y,rfl,d,p,zs,J,a5,rfl,a6,q⟩:=h;refine⟨_,(bB (fD (gU.pt (ju (iF (fY (bZ (y2 T) (i.mono VD) (aF (pv 0) (aF aQ aL))))) (ju (iF (fY (bZ (IH T) (i.mono VD) (aF (cF (cR (K:=K) O) (pv 0) aQ (λ_ _=>O)) aL)))) (kg (iF (fY (bZ (JA T) (i.mono VD) (aF (cF (cR (K:=K) O) (pv 0) aQ (λ_ _=>O)) (aF (cF (cR (K:=K) O) (pv 0) aQ (λ_ _=>O)) (aF (pv 1) aL)))))))))) (bF (cJ m5)) fC) (bF (cJ (jh (bZ (p7 T) (i.mono VD) (aF (cF (cR (K:=K) O) (pv 0) aQ (λ_ _=>O)) aL)) (jh (bZ (Gq T) (i.mono VD) (aF (cF (cR (K:=K) O) (pv 0) aQ (λ_ _=>O)) aL)) (jS (bZ (Kp T) (i.mono VD) (aF (cF (cR (K:=K) O) (pv 0) aQ (λ_ _=>O)) (aF (cF (cR (K:=K) O) (pv 0) aQ (λ_ _=>O)) aL))))))))),?_⟩;refine⟨_,O,_,_,O,d,6,J,O,_,O,?_⟩;by_cases k:∃n a b c r l,d=.tup [n,a,b,c,r,l]
 .obtain⟨n,a,b,c,r,l,rfl⟩:=k;obtain⟨t,us,rfl,o,u,ak,rfl,a7,z,al,rfl,a8,B,am,rfl,a9,m,an,rfl,L,D,ao,rfl,aa,G,ac,rfl,ae,af⟩:=J;cases(show ac=[] from af);have sn:gT n=aC:=by
   exact rq (zQ a5) eJ
  have q:Q (.bl (qt n&&tJ zs a b&&(kY c&&(rH r&&nH c l)))) H:=q;have g:∀(j:Nat)(v:V),([u,z,B,m,D,G]:List V)[j]?=some v->kU [u,z,B,m,D,G] (j:Int)=some v:=λj v e=>cE e;refine cG ⟨_,O,t,_,0,u,O,O,bY.of o,g 0 _ O,_,O,n,a7,sn,_,O,?_⟩;cases M:qt n with
  |false=>rw[M]at q;exact cU q
  |true=>
   rw[M,jX]at q;refine cG ⟨_,O,t,_,1,z,O,O,bY.of o,g 1 _ O,_,O,t,_,2,B,O,O,bY.of o,g 2 _ O,_,O,_,_,_,O,a,b,p,zs,a8,a9,O,a6,_,O,?_⟩;cases es:tJ zs a b with
   |false=>rw[es]at q;exact cU q
   |true=>
    rw[es,jX]at q;refine cG ⟨_,O,t,_,3,m,O,O,bY.of o,g 3 _ O,_,O,c,L,_,O,?_⟩;cases I:kY c with
    |false=>rw[I]at q;exact cG q
    |true=>
     rw[I,jX]at q;refine cU ⟨_,O,t,_,4,D,O,O,bY.of o,g 4 _ O,_,O,r,aa,_,O,?_⟩;cases U:rH r with
     |false=>rw[U]at q;exact cG q
     |true=>
      rw[U,jX]at q;cases c with
      |int j=>
       cases(show m=.int j from L);exact cU ⟨_,O,t,_,5,G,O,O,bY.of o,g 5 _ O,_,O,t,_,3,_,O,O,bY.of o,g 3 _ O,_,_,O,l,j,ae,O,q⟩
      |_=>cases I
 .have ag:jj zs d=aJ:=Bool.eq_false_iff.mpr λe=>by obtain⟨_,_,_,_,_,_,rfl,_⟩:=jB e;exact k ⟨_,_,_,_,_,_,O⟩
  have ah:vi 6 d=aJ:=by
   cases d with
   |tup N=>
    refine decide_eq_false (λe=>?_);have ai:N.length=6:=VF
    match N,ai,k with
    |[n,a,b,c,r,l],_,k=>exact k ⟨n,a,b,c,r,l,O⟩
   |_=>rfl
  dsimp only;rw[ah];rw[ag]at q;exact cU q
theorem Kv(d:aH)(h:jj zs d=aC):∃e,iB d=some e:=by
 obtain⟨e,_,_,_,_,_,rfl,_⟩:=jB h;exact⟨e,O⟩
inductive Ho(K:bI)(x y:V)(H:aD)(Q:aP):Prop
 |mk:∀(d:aH)(p:aB)(zs:List aA),bK H d x->gT d=aC->y=.ref p->H p=some (.lst (zs.map V.str))->Q (.bl (tK zs d)) H->Ho K x y H Q
def CL(K:bI):cA:=gY (Ho K)
theorem JB(T:Txt K mg C):bA P w K mg base 5 "are_dykes" ["thing","sides"] (CL K):=by
 refine T.Yk.fcD Ux iC (λf M A outer s H vs Q E c h=>?_);obtain⟨x,y,rfl,d,t,a,j,u,rfl,z,q⟩:=h;have U:=gB;refine⟨_,(bF (cJ (jh (bZ (vE T) (c.mono VD) (aF (pv 0) (aF (lB T.q14) aL))) (jh (dB (o3 O) O T.q19 oZ (aF (fM ["row","sides"] 1 [1] O (eV (pv 0)) (λR=>dJ (i:=0) (VE:eG (["row","sides"]:List aA)) O VG) (eN VD) (λR=>gN) (λR=>(bZ (Kq T) (c.mono VD) (aF (pv 0) (aF (pv 1) aL))))) aL)) (jS (bZ (y6 T) (c.mono VD) (aF (pv 0) aL))))))),?_⟩;refine⟨_,O,_,_,O,d,40,j,O,_,O,?_⟩;cases d with
 |lst N=>
  obtain⟨p,us,rfl,o,hi⟩:=j;have l1:=hi.length;have k:=iV.mp (show(decide (N.length<=1000)&&lX N)=aC from u);have Y:N.length<=1000:=of_decide_eq_true k.1;have q:Q (.bl ((decide (1<=N.length)&&decide (N.length<=40))&&(N.all (jj a)&&decide ((N.map iB).Nodup)))) H:=q;have B:(decide (1<=N.length)&&decide ((N.length:Int)<=40))=(decide (1<=N.length)&&decide (N.length<=40)):=by
   congr 1;rw[lj,decide_eq_true_iff,decide_eq_true_iff];omega
  show if (decide (1<=N.length)&&decide ((N.length:Int)<=40))=aC then _ else _
  rw[B];refine jO (λh1=>?_) (λh1=>?_)
  .rw[h1,jX]at q;refine⟨_,O,p,O,⟨_,aT.of o⟩,?_⟩;refine fP (F:=K) (xs:=us) VF (λi ys H'=>H'=H/\ys=(N.take i).map λd=>V.bl (jj a d)) ⟨O,O⟩ ?_ ?_ ?_
   .rintro i ys H' a0 ⟨rfl,rfl⟩;exact⟨aT.of o,by rw[aS,dU];omega⟩
   .rintro i x ys H' a1 a2 l ⟨rfl,rfl⟩ k1 k2;have a3:i<us.length:=(dI.mp l).1;obtain⟨d,e⟩:∃d,N[i]?=some d:=⟨_,cY VF⟩
    obtain⟨v,ev,D⟩:=hi.get e;rw[l]at ev;cases ev;refine⟨_,O,_,O,_,_,O,d,t,a,D,rq k.2 (dN e),O,aT.of z,k1 _ _ ⟨O,?_⟩⟩;rw[eL,e];simp
   .rintro ys H' ⟨rfl,rfl⟩;intro p1 b;have np:p≠p1:=dC o b;refine⟨p1,N.map (jj a),O,aT.of ?_,_,O,?_⟩
    .rw[aV,dY VF,fS];rfl
    have G:(N.map (jj a)).all id=N.all (jj a):=by rw[oE];rfl
    rw[G];refine jO (λh2=>?_) (λh2=>?_)
    .rw[h2,jX]at q;obtain⟨zs,g⟩:=v8 Kv h2;have a4:zs.length=N.length:=by have:=congrArg mI g;simpa using this.symm
     refine⟨_,O,_,O,p,us,N,zs,O,by rw[bD np];exact o,IsL.same (aM.upd b) _ _ hi,g,VF,?_⟩;have I:decide zs.Nodup=decide (N.map iB).Nodup:=by rw[g,lj,decide_eq_true_iff,decide_eq_true_iff,n5]
     rw[I];exact gJ.of (iI.lst b) q
    .have J:N.all (jj a)=aJ:=by simpa using h2
     rw[J]at q;exact gJ.of (iI.lst b) q
  .have L:(decide (1<=N.length)&&decide (N.length<=40))=aJ:=by simpa using h1
   rw[L]at q;exact gJ.of (.refl _) q
 |_=>exact cG (gJ.of (.refl _) q)
inductive HB(C:aB)(x v1 v2:V)(H:aD)(Q:aP):Prop
 |mk:∀(p dx:aB)(fs N:List aH),x=.ref p->H p=some (.ins C dx [])->bK H (.lst fs) v1->bK H (.lst N) v2->gT (.lst fs)=aC->gT (.lst N)=aC->tz (.lst fs)=aC->tK ("sea" :: fs.map aN) (.lst N)=aC->(∀H',eZ C H' p fs N->(∀b o,H b=some o->b≠p->H' b=some o)->Q .non H')->HB C x v1 v2 H Q
def u8(C:aB):cA:=kB (HB C)
inductive HX(C:aB)(sel:List aH->List aH->List aH)(x:V)(H:aD)(Q:aP):Prop
 |mk:∀(p:aB)(fs N:List aH),x=.ref p->eZ C H p fs N->(∀(l:aB)(vs:List V)(H':aD),aM H H'->H l=aG->H' l=some (.lst vs)->IsL H' (sel fs N) vs->Q (.ref l) H')->HX C sel x H Q
def u3(C:aB)(a:List aH->List aH->List aH):cA:=sp1 (HX C a)
inductive Ij(C:aB)(sel:List aH->List aH->List aA)(x:V)(H:aD)(Q:aP):Prop
 |mk:∀(p:aB)(fs N:List aH),x=.ref p->eZ C H p fs N->(∀(l:aB)(H':aD),aM H H'->H l=aG->H' l=some (.lst ((sel fs N).map V.str))->Q (.ref l) H')->Ij C sel x H Q
def o6(C:aB)(a:List aH->List aH->List aA):cA:=sp1 (Ij C a)
inductive HY(C:aB)(sel:List aH->List aH->List aH)(x:V)(H:aD)(Q:aP):Prop
 |mk:∀(p:aB)(fs N:List aH),x=.ref p->eZ C H p fs N->(∀(l:aB)(vs:List V),H l=aG->IsL H (sel fs N) vs->Q (.ref l) (aI H l (.lst vs)))->HY C sel x H Q
def tP(C:aB)(a:List aH->List aH->List aH):cA:=sp1 (HY C a)
inductive Ik(C:aB)(sel:List aH->List aH->List aA)(x:V)(H:aD)(Q:aP):Prop
 |mk:∀(p:aB)(fs N:List aH),x=.ref p->eZ C H p fs N->(∀(l:aB),H l=aG->Q (.ref l) (aI H l (.lst ((sel fs N).map V.str))))->Ik C sel x H Q
def wJ(C:aB)(a:List aH->List aH->List aA):cA:=sp1 (Ik C a)
theorem Nm:∀vs H Q E,u3 C b vs H Q E->tP C b vs H Q E:=by
 rintro vs H Q E ⟨x,rfl,p,fs,N,rfl,L,q⟩;exact⟨_,O,p,fs,N,O,L,λl us a hi=>q l us _ (aM.upd a) a aV (IsL.same (aM.upd a) _ _ hi)⟩
theorem Nc:∀vs H Q E,o6 C a vs H Q E->wJ C a vs H Q E:=by
 rintro vs H Q E ⟨x,rfl,p,fs,N,rfl,L,q⟩;exact⟨_,O,p,fs,N,O,L,λl b=>q l _ (aM.upd b) b aV⟩
theorem TM(T:Txt K mg C):fA P w K mg base 1 C "fields" ["self"] (tP C λfs _=>fs):=by
 refine T.Cl.mcD TS jN (λf i A outer s H vs Q E j h=>?_);obtain⟨x,rfl,p,fs,N,rfl,L,q⟩:=h;obtain⟨dx,a,k,d,⟨k1,h1,m,e⟩,n⟩:=L.ex;refine⟨_,(bF (cJ (hU (FV O) O T.q25 kW (aF (vb r0 w2 PySem.F.type_dict_values Ba (ky (pv 0) O)) aL)))),?_⟩;refine⟨_,O,p,C,dx,_,_,O,d,T.ad,T.gc,wR _ _,.inr (.inr (.inl ⟨O,.inl ⟨_,h1⟩⟩)),a,k1,O,O,.inl h1,λv b=>?_⟩;have g:a≠v:=dC h1 b;refine⟨v,a,k1,O,aV,.inl (by rw[bD g];exact h1),λl c=>?_⟩;exact gJ.of (iI.under b O c) (q l _ ((aM.upd b).free c) e)
theorem FU(T:Txt K mg C):fA P w K mg base 1 C "dykes" ["self"] (tP C λ_ N=>N):=by
 refine T.Da.mcD Ue jN (λf i A outer s H vs Q E j h=>?_);obtain⟨x,rfl,p,fs,N,rfl,L,q⟩:=h;obtain⟨dx,k,a,d,m,⟨k1,h1,n,e⟩⟩:=L.ex;refine⟨_,(bF (cJ (hU (FV O) O T.q25 kW (aF (vb r0 w2 PySem.F.type_dict_values Ba (ky (pv 0) O)) aL)))),?_⟩;refine⟨_,O,p,C,dx,_,_,O,d,T.ad,T.gd,yh _ _,.inr (.inr (.inl ⟨O,.inl ⟨_,h1⟩⟩)),a,k1,O,O,.inl h1,λv b=>?_⟩;have g:a≠v:=dC h1 b;refine⟨v,a,k1,O,aV,.inl (by rw[bD g];exact h1),λl c=>?_⟩;exact gJ.of (iI.under b O c) (q l _ ((aM.upd b).free c) e)
theorem Gf(T:Txt K mg C):fA P w K mg base 1 C "dykes" ["self"] (u3 C λ_ N=>N):=(FU T).imp Nm
theorem Aw{J:List (aW×V)}{N:List aH}(e:J.map (·.1)=N.map mr):(J.map λa=>kV a.1)=(N.map aN).map V.str:=by
 have h:(J.map λa=>kV a.1)=(J.map (·.1)).map kV:=by rw[fS];rfl
 rw[h,e,fS,fS];rfl
theorem SR(T:Txt K mg C):fA P w K mg base 1 C "field_names" ["self"] (wJ C λfs _=>fs.map aN):=by
 refine T.Id.mc SU jN (λf e A outer s H vs Q E g h=>?_);obtain⟨x,rfl,p,fs,N,rfl,L,q⟩:=h;obtain⟨dx,a,i,b,⟨k1,h1,c,j⟩,k⟩:=L.ex;refine⟨_,(bF (cJ (hU (Gw O) O T.q25 kW (aF (ky (pv 0) O) aL)))),?_⟩;refine⟨_,O,p,C,dx,_,_,O,b,T.ad,T.gc,wR _ _,a,k1,O,.inl h1,λl d=>?_⟩;have:=q l d;rw[Aw c];exact this
theorem Tc(T:Txt K mg C):fA P w K mg base 1 C "dyke_names" ["self"] (wJ C λ_ N=>N.map aN):=by
 refine T.Os.mc Td jN (λf e A outer s H vs Q E g h=>?_);obtain⟨x,rfl,p,fs,N,rfl,L,q⟩:=h;obtain⟨dx,i,a,b,j,⟨k1,h1,c,k⟩⟩:=L.ex;refine⟨_,(bF (cJ (hU (Gw O) O T.q25 kW (aF (ky (pv 0) O) aL)))),?_⟩;refine⟨_,O,p,C,dx,_,_,O,b,T.ad,T.gd,yh _ _,a,k1,O,.inl h1,λl d=>?_⟩;have:=q l d;rw[Aw c];exact this
theorem rk(T:Txt K mg C):fA P w K mg base 1 C "field_names" ["self"] (o6 C λfs _=>fs.map aN):=(SR T).imp Nc
theorem qi(h:bK H (.tup [.str n,.str a,.str b,.int c,.int r,s]) v):∃t vs,v=.ref t/\H t=some (.tup [.str n,.str a,.str b,.int c,.int r,vs])/\bK H s vs:=by
 obtain⟨t,us,rfl,o,d,y,rfl,e,f,z,rfl,g,i,A,rfl,j,k,B,rfl,l,m,C,rfl,p,q,u,rfl,w,x⟩:=h;cases(show u=[] from x);cases(show d=_ from e);cases(show f=_ from g);cases(show i=_ from j);cases(show k=_ from l);cases(show m=_ from p);exact⟨t,q,O,o,w⟩
theorem nE(h:bK H (.tup [.str n,.int g,.int e]) v):∃t,v=.ref t/\H t=some (.tup [.str n,.int g,.int e]):=by
 obtain⟨t,us,rfl,o,a,l,rfl,b,c,m,rfl,d,f,i,rfl,j,k⟩:=h;cases(show i=[] from k);cases(show a=_ from b);cases(show c=_ from d);cases(show f=_ from j);exact⟨t,O,o⟩
theorem iE(L:eZ C H p fs N):sE fs/\lO ("sea" :: fs.map aN) N:=⟨(zZ _).mp L.okf,(v6 _ _).mp L.okd⟩
inductive Hy(C:aB)(x y:V)(H:aD)(Q:aP):Prop
 |mk:∀(p:aB)(fs N:List aH)(z:aA)(g e:Int),x=.ref p->y=.str z->eZ C H p fs N->aH.tup [.str z,.int g,.int e]∈fs->Q (.int g) H->Hy C x y H Q
def BP(C:aB):cA:=gY (Hy C)
theorem TY(T:Txt K mg C):fA P w K mg base 1 C "ground" ["self","field"] (BP C):=by
 refine T.Re.mc TR iC (λf u A outer s H vs Q E a h=>?_);obtain⟨x,y,rfl,p,fs,N,b,g,e,rfl,rfl,L,m,q⟩:=h;have c:=j7 a;obtain⟨dx,d,z,i,⟨k1,h1,l,n⟩,B⟩:=L.ex;obtain⟨v,ev,r⟩:=wD l n (iE L).1.nd m;obtain⟨t,rfl,o⟩:=nE r;refine⟨_,(bF (cJ (cF (cR (K:=K) O) (j6 c (ky (pv 0) O) (pv 1) (λ_ _=>O)) aQ (λ_ _=>O)))),?_⟩;refine⟨_,O,p,C,dx,_,_,O,i,T.ad,T.gc,wR _ _,_,O,d,.ref t,O,?_,t,_,1,.int g,O,O,bY.of o,cE (j:=1) O,q⟩;rw[←ev];exact kA.k (k:=Sum.inr b) h1
inductive Hl(C:aB)(x y:V)(H:aD)(Q:aP):Prop
 |mk:∀(p:aB)(fs N:List aH)(z:aA)(g e:Int),x=.ref p->y=.str z->eZ C H p fs N->aH.tup [.str z,.int g,.int e]∈fs->Q (.int e) H->Hl C x y H Q
def DN(C:aB):cA:=gY (Hl C)
theorem JD(T:Txt K mg C):fA P w K mg base 1 C "dues" ["self","field"] (DN C):=by
 refine T.Tm.mc Jw iC (λf u A outer s H vs Q E a h=>?_);obtain⟨x,y,rfl,p,fs,N,b,g,e,rfl,rfl,L,m,q⟩:=h;have c:=j7 a;obtain⟨dx,d,z,i,⟨k1,h1,l,n⟩,B⟩:=L.ex;obtain⟨v,ev,r⟩:=wD l n (iE L).1.nd m;obtain⟨t,rfl,o⟩:=nE r;refine⟨_,(bF (cJ (cF (cR (K:=K) O) (j6 c (ky (pv 0) O) (pv 1) (λ_ _=>O)) aQ (λ_ _=>O)))),?_⟩;refine⟨_,O,p,C,dx,_,_,O,i,T.ad,T.gc,wR _ _,_,O,d,.ref t,O,?_,t,_,2,.int e,O,O,bY.of o,cE (j:=2) O,q⟩;rw[←ev];exact kA.k (k:=Sum.inr b) h1
inductive Hn(C:aB)(x y:V)(H:aD)(Q:aP):Prop
 |mk:∀(p:aB)(fs N:List aH)(d:aH),x=.ref p->y=.str (aN d)->eZ C H p fs N->d∈N->(∀v,bK H d v->Q v H)->Hn C x y H Q
def wL(C:aB):cA:=gY (Hn C)
theorem y9(T:Txt K mg C):fA P w K mg base 1 C "dyke" ["self","name"] (wL C):=by
 refine T.Ty.mc Jv iC (λf l A outer s H vs Q E a h=>?_);obtain⟨x,y,rfl,p,fs,N,d,rfl,rfl,L,m,q⟩:=h;have b:=j7 a;obtain⟨dx,n,c,e,o,⟨k1,h1,g,i⟩⟩:=L.ex;obtain⟨v,ev,j⟩:=wD g i (iE L).2.nd m;refine⟨_,(bF (cJ (j6 b (ky (pv 0) O) (pv 1) (λ_ _=>O)))),?_⟩;refine⟨_,O,p,C,dx,_,_,O,e,T.ad,T.gd,yh _ _,_,O,c,v,O,?_,q v j⟩;rw[←ev];exact kA.k (k:=Sum.inr (aN d)) h1
theorem CE{q n:Type}:∀{xs:List q} {ys:List n},xs.length=ys.length->(xs.zip ys).map (·.1)=xs
 |[],[],_=>rfl
 |x::xs,y::ys,h=>by rw[xo,dW,CE (by simpa using h)]
 |[],_::_,h=>by simp at h
 |_::_,[],h=>by simp at h
theorem CC{q n:Type}:∀{xs:List q} {ys:List n},xs.length=ys.length->(xs.zip ys).map (·.2)=ys
 |[],[],_=>rfl
 |x::xs,y::ys,h=>by rw[xo,dW,CC (by simpa using h)]
 |[],_::_,h=>by simp at h
 |_::_,[],h=>by simp at h
def kf(N:List aH)(us:List V):List (aW×V):=(N.map mr).zip us
theorem vO(h:us.length=N.length):(kf N us).map (·.1)=N.map mr:=CE (by rw[aS];exact h.symm)
theorem Au(h:us.length=N.length):(kf N us).map (·.2)=us:=CC (by rw[aS];exact h.symm)
theorem v0(h:us.length=N.length):(kf N us).length=us.length:=by
 unfold kf;rw[List.length_zip,aS];omega
theorem Ck{N:List aH}{us:List V}{i:Nat}{d:aH}{v:V}(a:N[i]?=some d)(b:us[i]?=some v):(kf N us)[i]?=some (mr d,v):=by
 unfold kf;rw[List.getElem?_zip_eq_some];exact⟨by rw[dO,a];rfl,b⟩
theorem zV{N:List aH}(h:(N.map aN).Nodup):(N.map mr).Nodup:=by
 have e:N.map mr=(N.map aN).map Sum.inr:=by rw[fS];rfl
 rw[e,n7];exact h
theorem zd(T:Txt K mg C):nX P w K mg base 6 C ["self","fields","dykes"] (u8 C):=by
 refine T.so.ic JT k9 (λ f bo A outer s H vs Q E an h=>?_);obtain⟨x,bp,bq,rfl,p,dx,fs,N,rfl,a0,ao,ap,b7,b8,a9,aa,q⟩:=h;have br:=gB;have a3:=(zZ _).mp a9;have ac:=(v6 _ _).mp aa;have lf:=a3.l2;have ld:=ac.l2;obtain⟨a1,us,rfl,a4,a5⟩:=id ao;obtain⟨a2,B,rfl,aq,ae⟩:=id ap;have l1:=a5.length;have l2:=ae.length;refine⟨_,(bB (fD (iF (fY (bZ (Uj T) (an.mono VD) (aF (pv 1) aL)))) (bF o1) fC) (bB (fD (iF (fY (bZ (JB T) (an.mono VD) (aF (pv 2) (aF (bC o9 (eA (aF (lB T.q08) aL)) (fM ["field"] 1 [] O (eV (pv 1)) (λ R=>dJ (i:=0) (VE:eG (["field"]:List aA)) O VG) (eN VD) (λ R=>gN) (λ R=>(cF (cR (K:=K) O) (pv 0) aQ (λ_ _=>O))))) aL))))) (bF o1) fC) (bB (rP (pv 0) (hU (n3 O) O T.q21 lS (aF (fM ["field"] 1 [] O (eV (pv 1)) (λ R=>dJ (i:=0) (VE:eG (["field"]:List aA)) O VG) (eN VD) (λ R=>gN) (λ R=>(jd (aF (cF (cR (K:=K) O) (pv 0) aQ (λ_ _=>O)) (aF (pv 0) aL))))) aL)) O) (bF (rP (pv 0) (hU (n3 O) O T.q21 lS (aF (fM ["dyke"] 1 [] O (eV (pv 2)) (λ R=>dJ (i:=0) (VE:eG (["dyke"]:List aA)) O VG) (eN VD) (λ R=>gN) (λ R=>(jd (aF (cF (cR (K:=K) O) (pv 0) aQ (λ_ _=>O)) (aF (pv 0) aL))))) aL)) O))))),?_⟩;refine⟨_,O,_,O,.lst fs,ao,b7,_,O,?_⟩;rw[a9];refine cG ?_;refine⟨_,O,cQ O,λ p1 b9=>?_⟩;have a6:=aM.upd (o:=.lst [.str "sea"]) b9;refine⟨_,O,a1,O,⟨_,aT.of (a6 _ _ a4)⟩,?_⟩;refine fP (F:=K) (xs:=us) VF (λ i ys H'=>H'=aI H p1 (.lst [.str "sea"])/\ys=((fs.take i).map aN).map V.str) ⟨O,O⟩ ?_ ?_ ?_
 .rintro i ys H' ar ⟨rfl,rfl⟩;exact⟨aT.of (a6 _ _ a4),by rw[aS,aS,dU];omega⟩
 .rintro i x ys H' as au z ⟨rfl,rfl⟩ k1 k2;have av:i<us.length:=(dI.mp z).1;obtain⟨d,y⟩:∃ d,fs[i]?=some d:=⟨_,cY VF⟩
  obtain⟨v,ev,M⟩:=a5.get y;rw[z] at ev;cases ev;obtain⟨u,g,e,rfl,_⟩:=jc (a3.all d (dN y));obtain⟨t,rfl,o⟩:=nE M;refine⟨_,O,t,_,0,.str u,O,O,bY.of (a6 _ _ o),cE (j:=0) O,k1 _ _ ⟨O,?_⟩⟩;rw[eL,y];simp[aN,iB]
 .rintro ys H' ⟨rfl,rfl⟩;intro D ba;rw[dY VF];have aw:=aM.upd (o:=.lst ((fs.map aN).map V.str)) ba;refine⟨p1,D,_,_,O,O,aw _ _ aV,aV,by simp only[aS,hJ,uC];omega,λ af bb=>?_⟩;have bc:=aM.upd (o:=.lst ([.str "sea"]++(fs.map aN).map V.str)) bb;have S:=a6.trans (aw.trans bc);generalize bd:aI (aI (aI H p1 (.lst [.str "sea"])) D (.lst ((fs.map aN).map V.str))) af (.lst ([.str "sea"]++(fs.map aN).map V.str))=ax at S;have be:ax af=some (.lst ((("sea":aA) :: fs.map aN).map V.str)):=by rw[← bd,aV];rfl
  refine⟨_,_,O,.lst N,af,_,bK.same S _ _ ap,b8,O,be,_,O,?_⟩;rw[aa];refine cG ?_;refine⟨_,O,a1,O,⟨_,aT.of (S _ _ a4)⟩,?_⟩;refine fP (F:=K) (xs:=us) VF (λ i ys H'=>aM ax H'/\gC H' ys ((kf fs us).take i)) ⟨aM.refl _,gC.nil _⟩ ?_ ?_ ?_
  .rintro i ys H' ar ⟨J,m⟩;exact⟨aT.of (J _ _ (S _ _ a4)),by have:=m.len;rw[dU] at this;omega⟩
  .rintro i x ys H' as au z ⟨J,m⟩ k1 k2;have av:i<us.length:=(dI.mp z).1;obtain⟨d,y⟩:∃ d,fs[i]?=some d:=⟨_,cY VF⟩
   obtain⟨v,ev,M⟩:=a5.get y;rw[z] at ev;cases ev;obtain⟨u,g,e,rfl,_⟩:=jc (a3.all d (dN y));obtain⟨t,rfl,o⟩:=nE M;have ag:=J _ _ (S _ _ o);refine⟨_,O,t,_,0,.str u,O,O,bY.of ag,cE (j:=0) O,_,O,cQ O,λ bf U=>k1 _ _ ⟨J.trans (aM.upd U),?_⟩⟩;rw[eL,Ck y z];exact m.snoc (k:=Sum.inr u) U
  .rintro ys ay ⟨J,m⟩;rw[dY (by rw[v0 l1];omega)] at m;intro ah bg;have az:=aM.upd (o:=.lst ys) bg;refine⟨ah,ys,kf fs us,O,aT.of aV,m.same az,by rw[v0 l1];omega,by rw[vO l1];exact zV a3.nd,λ l bh=>?_⟩;have bi:=aM.upd (o:=.dK (kf fs us)) bh;have a7:=S.trans (J.trans (az.trans bi));have ai:aI (aI ay ah (.lst ys)) l (.dK (kf fs us)) l=some (.dK (kf fs us)):=aV;generalize aI (aI ay ah (.lst ys)) l (.dK (kf fs us))=Y at a7 ai;refine⟨_,O,p,C,dx,[],O,a7 _ _ a0,T.ad,T.gc,(by show 0<1000;decide),?_⟩;have SB:∀ b o,H b=some o->b≠p->aI Y p (.ins C dx (gX "field_rows" (.ref l) [])) b=some o:=λ b o e G=>by rw[bD G];exact a7 _ _ e
   have aR:l≠p:=q9 ai (a7 _ _ a0) (by intro u;cases u);have a8:re H (aI Y p (.ins C dx (gX "field_rows" (.ref l) []))):=λ b o e aj=>SB b o e (λ u=>by subst u;rw[a0] at e;cases e;cases aj);have ak:aI Y p (.ins C dx (gX "field_rows" (.ref l) [])) p=some (.ins C dx (gX "field_rows" (.ref l) [])):=aV;have b0:aI Y p (.ins C dx (gX "field_rows" (.ref l) [])) l=some (.dK (kf fs us)):=by rw[bD aR];exact ai
   generalize aI Y p (.ins C dx (gX "field_rows" (.ref l) []))=bj at SB a8 ak b0;refine⟨_,O,a2,O,⟨_,aT.of (a8 _ _ aq O)⟩,?_⟩;refine fP (F:=K) (xs:=B) VF (λ i ys H'=>aM bj H'/\gC H' ys ((kf N B).take i)) ⟨aM.refl _,gC.nil _⟩ ?_ ?_ ?_
   .rintro i ys H' ar ⟨L,m⟩;exact⟨aT.of (L _ _ (a8 _ _ aq O)),by have:=m.len;rw[dU] at this;omega⟩
   .rintro i x ys H' as au z ⟨L,m⟩ k1 k2;have av:i<B.length:=(dI.mp z).1;obtain⟨d,y⟩:∃ d,N[i]?=some d:=⟨_,cY VF⟩
    obtain⟨v,ev,M⟩:=ae.get y;rw[z] at ev;cases ev;obtain⟨n,a,b,c,r,bs,rfl,_⟩:=jB (ac.all d (dN y));obtain⟨t,vs,rfl,o,_⟩:=qi M;have ag:=L _ _ (a8 _ _ o O);refine⟨_,O,t,_,0,.str n,O,O,bY.of ag,cE (j:=0) O,_,O,cQ O,λ bf U=>k1 _ _ ⟨L.trans (aM.upd U),?_⟩⟩;rw[eL,Ck y z];exact m.snoc (k:=Sum.inr n) U
   .rintro ys b1 ⟨L,m⟩;rw[dY (by rw[v0 l2];omega)] at m;intro al bk;have b2:=aM.upd (o:=.lst ys) bk;refine⟨al,ys,kf N B,O,aT.of aV,m.same b2,by rw[v0 l2];omega,by rw[vO l2];exact zV ac.nd,λ I bl=>?_⟩;have bm:=aM.upd (o:=.dK (kf N B)) bl;have SC:=L.trans (b2.trans bm);have am:aI (aI b1 al (.lst ys)) I (.dK (kf N B)) I=some (.dK (kf N B)):=aV;generalize aI (aI b1 al (.lst ys)) I (.dK (kf N B))=b3 at SC am;refine⟨_,O,p,C,dx,_,O,SC _ _ ak,T.ad,T.gd,(by show 1<1000;decide),?_⟩;have bn:I≠p:=q9 am (SC _ _ ak) (by intro u;cases u);have b4:re H (aI b3 p (.ins C dx (mq l I))):=λ b o e aj=>by
     have G:b≠p:=λ u=>by subst u;rw[a0] at e;cases e;cases aj
     rw[bD G];exact SC _ _ (SB _ _ e G)
    refine q _ ⟨⟨dx,l,I,aV,⟨_,(bD aR).trans (SC _ _ b0),vO l1,?_⟩,⟨_,(bD bn).trans am,vO l2,?_⟩⟩,a9,aa⟩ λ b o e G=>?_
    .rw[Au l1];exact IsL.sameD b4 _ _ a5
    .rw[Au l2];exact IsL.sameD b4 _ _ ae
    .show aI b3 p (.ins C dx (mq l I)) b=some o;rw[bD G];exact SC _ _ (SB _ _ e G)
open Mt02
def lv(K:bI)(H:aD)(x:V):Prop:=∃(a:aB)(ns:List Int),x=.ref a/\aT K H a (ns.map V.int)/\ns.length<=63
theorem lv.same(S:aM H H')(h:lv K H x):lv K H' x:=by
 obtain⟨a,ns,e,q,l⟩:=h;exact⟨a,ns,e,S.seq q,l⟩
theorem vz(e:0<=i)(h1:i<4):∃m:Int,kU ([.int a,.int b,.int c,.int d]:List V) i=some (.int m)/\(m=a\/m=b\/m=c\/m=d):=by
 obtain⟨k,rfl⟩:=kC e;have f:k<4:=VF
 match k,f with
 |0,_=>exact⟨a,cE O,.inl O⟩
 |1,_=>exact⟨b,cE O,.inr VG⟩
 |2,_=>exact⟨c,cE O,.inr (.inr VG)⟩
 |3,_=>exact⟨d,cE O,.inr (.inr (.inr O))⟩
structure pQ (fs:List aH) (n:Nat):Prop where
 l1:1<=fs.length
 l2:fs.length<=n
 all:∀d∈fs,jg d=aC
 nd:(fs.map aN).Nodup
theorem Az(h:jg d=aC):mU d=aC:=by
 obtain⟨a,g,e,rfl,_⟩:=jc h;rfl
theorem Cw(b:jq a=aC)(c:-1000000<=g)(d:g<=1000000)(f:0<=e)(h:e<=1000000):jg (.tup [.str a,.int g,.int e])=aC:=by
 show(jq a&&(hgt g&&mf e))=aC;unfold hgt mf;rw[b,decide_eq_true c,decide_eq_true d,decide_eq_true f,decide_eq_true h];rfl
structure w0 (zs:List aA) (N:List aH) (n:Nat):Prop where
 l1:1<=N.length
 l2:N.length<=n
 all:∀d∈N,jj zs d=aC
 nd:(N.map aN).Nodup
theorem Mh(h:nH c s=aC):mU s=aC:=by
 cases s with
 |non=>rfl
 |int i=>rfl
 |_=>cases h
theorem Bp(h:jj zs d=aC):mU d=aC:=by
 obtain⟨n,a,b,c,r,s,rfl,_,_,_,_,_,_,e⟩:=jB h;have:=Mh e;show(aC&&(aC&&(aC&&(aC&&(aC&&(mU s&&aC))))))=aC;rw[this];rfl
theorem Dp(d:jq n=aC)(e:a∈zs)(f:b∈zs)(g:a≠b)(h:hgt c=aC)(i:mf r=aC)(j:nH (.int c) s=aC):jj zs (.tup [.str n,.str a,.str b,.int c,.int r,s])=aC:=by
 show(jq n&&(decide (a∈zs)&&(decide (b∈zs)&&!(a==b)))&&(hgt c&&(mf r&&nH (.int c) s)))=aC;rw[d,decide_eq_true e,decide_eq_true f,h,i,j,beq_eq_false_iff_ne.mpr g];rfl
theorem yF(a:-1000000<=i)(h1:i<=1000000):hgt i=aC:=by
 unfold hgt;rw[decide_eq_true a,decide_eq_true h1];rfl
theorem Qw(a:0<=i)(h1:i<=1000000):mf i=aC:=by
 unfold mf;rw[decide_eq_true a,decide_eq_true h1];rfl
theorem yc(h:jq a=aC):a≠"sea":=by
 intro e;subst e;simp[jq]at h
theorem Nd(h:pQ fs n):("sea" :: fs.map aN:List aA).Nodup:=by
 rw[iL];refine⟨λm=>?_,h.nd⟩;obtain⟨d,a,e⟩:=cP.mp m;obtain⟨c,g,f,rfl,b,_⟩:=jc (h.all d a);exact yc b e
theorem Bn(h:pQ fs n)(a:n<=12):tz (.lst fs)=aC:=(zZ fs).mpr ⟨h.l1,fF h.l2 a,h.all,h.nd⟩
theorem Cx(h:w0 zs N n)(a:n<=40):tK zs (.lst N)=aC:=(v6 zs N).mpr ⟨h.l1,fF h.l2 a,h.all,h.nd⟩
theorem ru(h:jq a=aC):a.length<=1000:=by
 unfold jq at h;rw[fK,fK,fK]at h;have:=of_decide_eq_true h.1.1.2;omega
theorem vL(h:jg d=aC):gT d=aC:=by
 obtain⟨a,g,e,rfl,b,_⟩:=jc h;show(decide (3<=1000)&&(decide (a.length<=1000)&&(aC&&(aC&&aC))))=aC;rw[decide_eq_true (ru b)];rfl
theorem Jn{fs:List aH}(b:∀d∈fs,jg d=aC){a:aA}(h:a∈("sea" :: fs.map aN:List aA)):a.length<=1000:=by
 rcases eM.mp h with rfl|h
 .decide +kernel
 .obtain⟨d,m,rfl⟩:=cP.mp h;obtain⟨f,g,e,rfl,c,_⟩:=jc (b d m);exact ru c
theorem zI{fs:List aH}(f:∀d∈fs,jg d=aC){d:aH}(h:jj ("sea" :: fs.map aN) d=aC):gT d=aC:=by
 obtain⟨n,a,b,c,r,s,rfl,g,j,k,_,_,_,l⟩:=jB h;have e:gT s=aC:=by
  cases s with
  |non=>rfl
  |int i=>rfl
  |_=>cases l
 show(decide (6<=1000)&&(decide (n.length<=1000)&&(decide (a.length<=1000)&&(decide (b.length<=1000)&&(aC&&(aC&&(gT s&&aC)))))))=aC;rw[decide_eq_true (ru g),decide_eq_true (Jn f j),decide_eq_true (Jn f k),e];rfl
theorem nD(h:∀d∈N,gT d=aC)(a:N.length<=1000):gT (.lst N)=aC:=by
 show(decide (N.length<=1000)&&lX N)=aC;rw[decide_eq_true a,AO h];rfl
theorem x0(h:∀d∈N,dG 29 d=aC):dG 30 (.lst N)=aC:=vS h
theorem zn(zs:List aA):dG 30 (.lst (zs.map aH.str))=aC:=x0 λd m=>by
 obtain⟨a,_,rfl⟩:=cP.mp m;rfl
theorem xX(a:bK H d x)(b:bK H d y)(f:dG 30 d=aC)(q:Q (.bl aJ) H):v7 aC x y H Q:=⟨d,d,a,b,f,f,by rw[x3 30 d f];exact q⟩
theorem Ol{H:aD}{l:aB}{zs:List aA}(h:H l=some (.lst (zs.map V.str))):bK H (.lst (zs.map aH.str)) (.ref l):=⟨l,_,O,h,IsL.strs H zs⟩
open Mt04
inductive It(C:aB)(x y:V)(H:aD)(Q:aP):Prop
 |mk:∀(p:aB)(fs N:List aH)(d:aH),x=.ref p->eZ C H p fs N->bK H d y->Q (.bl (jT N d)) H->It C x y H Q
def DD(C:aB):cA:=gY (It C)
theorem Ko(T:Txt K mg C):bA P w K mg base 3 "is_work" ["land","thing"] (DD C):=by
 refine T.Yl.fcD Kg iC (λf ao A outer s H vs Q E g h=>?_);obtain⟨x,y,rfl,p,fs,N,d,rfl,L,D,q⟩:=h;obtain⟨dx,aa,ac,I,_⟩:=L.ex;have J:∀m:aA,¬m="dyke_rows"->¬m="field_rows"->(mq aa ac).lookup m=aG:=λm h1 h2=>kM _ _ h1 h2;refine⟨_,(bB (fD (gU.pt (ju (iF (fY (bZ (y2 T) (g.mono VD) (aF (pv 1) (aF aQ aL))))) (kg (iF (fY (bZ (rm T) (g.mono VD) (aF (cF (cR (K:=K) O) (pv 1) aQ (λ_ _=>O)) (aF (ki T.ad (Tc T) (g.mono VD) (pv 0)) aL)))))))) (bF (cJ m5)) fC) (bF (cJ (jh (bZ (p7 T) (g.mono VD) (aF (cF (cR (K:=K) O) (pv 1) aQ (λ_ _=>O)) aL)) (jS (kv QP (cF (cR (K:=K) O) (pv 1) aQ (λ_ _=>O)) (cF (cR (K:=K) O) (p3 T.ad (y9 T) (g.mono VD) (pv 0) (aF (cF (cR (K:=K) O) (pv 1) aQ (λ_ _=>O)) aL)) aQ (λ_ _=>O)) (eI _))))))),?_⟩;refine⟨_,O,_,_,O,d,2,D,O,_,O,?_⟩;by_cases h2:∃a b,d=.tup [a,b]
 .obtain⟨a,b,rfl⟩:=h2;obtain⟨t,us,rfl,o,M,ap,rfl,U,Y,ae,rfl,a0,af⟩:=D;cases(show ae=[] from af);refine cG ⟨_,O,t,_,0,M,O,O,bY.of o,cE (j:=0) O,_,O,p,dx,_,O,I,J _ VE VE,_,O,p,fs,N,O,L,λl a1=>?_⟩;have S:=aM.upd (o:=.lst ((N.map aN).map V.str)) a1;refine⟨_,_,O,a,l,N.map aN,bK.same S _ _ U,O,aT.of aV,_,O,?_⟩;have k:=iI.lst (xs:=(N.map aN).map V.str) a1;cases ea:eE (N.map aN) a with
  |false=>
   have e:jT N (.tup [a,b])=aJ:=Bool.eq_false_iff.mpr λe=>by obtain⟨i,v,u,m,_⟩:=rp e;cases u;cases(decide_eq_true m).symm.trans ea
   rw[e]at q;exact cU (gJ.of k q)
  |true=>
   refine cG ⟨_,O,t,_,1,Y,O,O,bY.of (S _ _ o),cE (j:=1) O,_,O,b,bK.same S _ _ a0,_,O,?_⟩;cases z:kY b with
   |false=>
    have e:jT N (.tup [a,b])=aJ:=Bool.eq_false_iff.mpr λe=>by obtain⟨i,v,u,_,m,_⟩:=rp e;cases u;cases m.symm.trans z
    rw[e]at q;exact cG (gJ.of k q)
   |true=>
    cases a with
    |str i=>
     cases b with
     |int v=>
      have a2:i∈N.map aN:=of_decide_eq_true ea;obtain⟨d',B,rfl⟩:=cP.mp a2;cases(show M=.str (aN d') from U);cases(show Y=.int v from a0);have a3:=(iE L).2;refine cU ⟨_,O,t,_,1,_,O,O,bY.of (S _ _ o),cE (j:=1) O,_,O,p,dx,_,O,S _ _ I,J _ VE VE,_,O,t,_,0,_,O,O,bY.of (S _ _ o),cE (j:=0) O,_,_,O,p,fs,N,d',O,O,L.same S,B,λaq ag=>?_⟩;have ah:=wB a3.nd B;obtain⟨n,ai,aj,c,r,ak,rfl,_⟩:=jB (a3.all d' B);obtain⟨t',ar,rfl,G,_⟩:=qi ag;refine⟨t',_,3,.int c,O,O,bY.of G,cE (j:=3) O,_,_,O,O,gJ.of k ?_⟩;have e:jT N (.tup [.str (aN (.tup [.str n,.str ai,.str aj,.int c,.int r,ak])),.int v])=decide (c<=v):=by
       show(decide (_∈N.map aN)&&(hgt v&&decide (lU N _<=v)))=_;rw[decide_eq_true a2,show hgt v=aC from z,ah];rfl
      rw[e]at q;exact q
     |_=>cases z
    |_=>cases ea
 .have al:jT N d=aJ:=Bool.eq_false_iff.mpr λe=>by obtain⟨i,v,rfl,_⟩:=rp e;exact h2 ⟨_,_,O⟩
  have am:vi 2 d=aJ:=by
   cases d with
   |tup a4=>
    refine decide_eq_false (λe=>?_);have an:a4.length=2:=VF
    match a4,an,h2 with
    |[a,b],_,h2=>exact h2 ⟨a,b,O⟩
   |_=>rfl
  dsimp only;rw[am];rw[al]at q;exact cU (gJ.of (.refl _) q)
inductive Iu(C:aB)(x y:V)(H:aD)(Q:aP):Prop
 |mk:∀(p:aB)(fs N:List aH)(d:aH),x=.ref p->eZ C H p fs N->bK H d y->gT d=aC->Q (.bl (CB N d)) H->Iu C x y H Q
def x8(C:aB):cA:=gY (Iu C)
theorem Gr(T:Txt K mg C):bA P w K mg base 4 "are_works" ["land","thing"] (x8 C):=by
 refine T.Ym.fcD Uv iC (λf J A outer s H vs Q E e h=>?_);obtain⟨x,y,rfl,u,fs,a,d,rfl,L,g,z,q⟩:=h;have M:=gB;obtain⟨t,ty,j,k,U,B,_⟩:=rS K g;refine⟨_,(bF (cJ (jh (dB (kL (K:=K) O) O T.q23 jA (aF (pv 1) (aF (kz T.q25 kW) aL))) (jh (dB (o3 O) O T.q19 oZ (aF (fM ["row","land"] 1 [0] O (eV (pv 1)) (λR=>dJ (i:=0) (VE:eG (["row","land"]:List aA)) O VG) (eN VD) (λR=>gN) (λR=>(bZ (Ko T) (e.mono VD) (aF (pv 1) (aF (pv 0) aL))))) aL)) (jS (bZ (y6 T) (e.mono VD) (aF (pv 1) aL))))))),?_⟩;refine⟨_,O,_,_,_,t,_,O,O,ty,B,_,O,?_⟩;cases d with
 |lst N=>
  obtain⟨p,us,rfl,o,hi⟩:=g;have l1:=hi.length;have D:=iV.mp (show(decide (N.length<=1000)&&lX N)=aC from z);have Y:N.length<=1000:=of_decide_eq_true D.1;have q:Q (.bl (N.all (jT a)&&decide ((N.map iB).Nodup))) H:=q;refine cU ⟨_,O,p,O,⟨_,aT.of o⟩,?_⟩;refine fP (F:=K) (xs:=us) VF (λi ys H'=>H'=H/\ys=(N.take i).map λd=>V.bl (jT a d)) ⟨O,O⟩ ?_ ?_ ?_
  .rintro i ys H' a0 ⟨rfl,rfl⟩;exact⟨aT.of o,by rw[aS,dU];omega⟩
  .rintro i x ys H' a1 a2 l ⟨rfl,rfl⟩ k1 k2;have a3:i<us.length:=(dI.mp l).1;obtain⟨d,m⟩:∃d,N[i]?=some d:=⟨_,cY VF⟩
   obtain⟨v,ev,G⟩:=hi.get m;rw[l]at ev;cases ev;refine⟨_,O,_,O,_,_,O,u,fs,a,d,O,L,G,k1 _ _ ⟨O,?_⟩⟩;rw[eL,m];simp
  .rintro ys H' ⟨rfl,rfl⟩;intro p1 b;have np:p≠p1:=dC o b;refine⟨p1,N.map (jT a),O,aT.of ?_,_,O,?_⟩
   .rw[aV,dY VF,fS];rfl
   have j:(N.map (jT a)).all id=N.all (jT a):=by rw[oE];rfl
   rw[j];refine jO (λh2=>?_) (λh2=>?_)
   .rw[h2,jX]at q;obtain⟨zs,c⟩:=v8 zx h2;have a4:zs.length=N.length:=by have:=congrArg mI c;simpa using this.symm
    refine⟨_,O,_,O,p,us,N,zs,O,by rw[bD np];exact o,IsL.same (aM.upd b) _ _ hi,c,VF,?_⟩;have k:decide zs.Nodup=decide (N.map iB).Nodup:=by rw[c,lj,decide_eq_true_iff,decide_eq_true_iff,n5]
    rw[k];exact gJ.of (iI.lst b) q
   .have I:N.all (jT a)=aJ:=by simpa using h2
    rw[I]at q;exact gJ.of (iI.lst b) q
 |_=>exact cG (gJ.of (.refl _) q)
inductive Hj(x y:V)(H:aD)(Q:aP):Prop
 |mk:∀(t:aB)(n a b:aA)(c r h:Int)(sv:V),x=.ref t->y=.int h->H t=some (.tup [.str n,.str a,.str b,.int c,.int r,sv])->(∀(p:aB)(H':aD),aM H H'->H' p=some (.tup [.str n,.str a,.str b,.int h,.int r,sv])->Q (.ref p) H')->Hj x y H Q
def CM:cA:=gY (Hj)
theorem Uf(T:Txt K mg C):bA P w K mg base 1 "with_crown" ["dyke","crown"] CM:=by
 refine T.Yo.fc Ua iC (λf L A outer s H vs Q E M h=>?_);obtain⟨x,y,rfl,t,n,a,b,c,r,h,d,rfl,rfl,o,q⟩:=h;refine⟨_,(bF (cJ (bC (Cm (K:=K) O) (bC (Cm (K:=K) O) (qg (CR (K:=K) O) (pv 0) qm (ql aQ)) (jd (aF (pv 1) aL))) (qg (CR (K:=K) O) (pv 0) (ql aQ) qm)))),?_⟩;refine⟨_,O,_,O,t,_,O,bY.of o,(λw=>absurd (show HT.sIx 6 6 (some 3)=6 from w.2) VD),λp1 j=>?_⟩;have k:=aM.upd (o:=.tup [.str n,.str a,.str b]) j;refine⟨_,O,cQ O,λD l=>?_⟩;have e:=aM.upd (o:=.tup [.int h]) l;refine⟨p1,D,[.str n,.str a,.str b],[.int h],O,O,bY.of (e _ _ aV),bY.of aV,(by intro w;cases w),cQ O,(λw=>by cases w),λ_ m p=>?_⟩;have u:=aM.upd (o:=.tup ([.str n,.str a,.str b]++[.int h])) p;have g:=k.trans (e.trans u);refine⟨_,O,_,O,t,_,O,bY.of (g _ _ o),(λw=>absurd (show HT.sIx 6 0 (some 4)=0 from w.1) VD),λz B=>?_⟩;have i:=aM.upd (o:=.tup [.int r,d]) B;refine⟨m,z,[.str n,.str a,.str b]++[.int h],[.int r,d],O,O,bY.of (i _ _ aV),bY.of aV,(by intro w;cases w),cQ O,(λw=>by cases w),λ_ G I=>?_⟩;have J:=aM.upd (o:=.tup (([.str n,.str a,.str b]++[.int h])++[.int r,d])) I;exact q G _ (g.trans (i.trans J)) aV
theorem BI(h:bK H (.tup [.str a,.int v]) x):∃t,x=.ref t/\H t=some (.tup [.str a,.int v]):=by
 obtain⟨t,us,rfl,o,b,i,rfl,c,d,e,rfl,f,g⟩:=h;cases(show e=[] from g);cases(show b=_ from c);cases(show d=_ from f);exact⟨t,O,o⟩
theorem IK:∀{b:List aH} {us:List V},(∀d∈b,jT N d=aC)->IsL H b us->gC H us (b.map ny)
 |[],_,_,e=>by rw[show _=[] from e];exact gC.nil _
 |d::b,_,g,⟨v,r,e,h,t⟩=>by
  subst e;obtain⟨c,n,rfl,_⟩:=rp (g d eJ);obtain⟨a,rfl,o⟩:=BI h;exact .cons ⟨a,O,o⟩ (IK (λe m=>g e (eY _ m)) t)
theorem Lc(a:List aH):(a.map ny).map (·.1)=a.map mr:=by
 rw[fS];rfl
inductive HU(C:aB)(x y:V)(H:aD)(Q:aP):Prop
 |mk:∀(p:aB)(fs N ws:List aH),x=.ref p->eZ C H p fs N->bK H (.lst ws) y->ws.length<=1000->GoodW N ws->(∀(p':aB)(H':aD),aM H H'->H p'=aG->eZ C H' p' fs (og N ws)->Q (.ref p') H')->HU C x y H Q
def BN(C:aB):cA:=gY (HU C)
theorem NL{o:Option Int}{c:Int}:(o.map V.int).getD (.int c)=.int (o.getD c):=by cases o<;>rfl
theorem TX(T:Txt K mg C):fA P w K mg base 8 C "raised" ["self","works"] (BN C):=by
 refine T.Wa.mc y1 iC (λ f bk A outer s H vs Q E u h=>?_);obtain⟨x,y,rfl,p,fs,N,g,rfl,L,af,lw,D,q⟩:=h;have bl:=gB;have aR:=j7 u;obtain⟨dx,b0,b1,ag,_⟩:=L.ex;have ah:∀ m:aA,¬ m="dyke_rows"->¬ m="field_rows"->(mq b0 b1).lookup m=aG:=λ m h1 h2=>kM _ _ h1 h2;have ai:=(iE L).1;have U:=(iE L).2;have bm:=U.l2;have f2:=ai.l2;have aj:∀ d∈fs,jg d=aC:=ai.all;have b2:gT (.lst g)=aC:=nD (λ d m=>by
  obtain⟨z,v,rfl,b3,_⟩:=rp (D.all d m);obtain⟨d',b4,rfl⟩:=cP.mp b3;obtain⟨n,a,b,c,r,b5,rfl,b6,_⟩:=jB (U.all d' b4);have e:=ru b6;show (decide (2<=1000) && (decide (n.length<=1000) && (aC && aC)))=aC;rw[decide_eq_true e];rfl) lw
 refine⟨_,(bB (fD (iF (fY (bZ (Gr T) (u.mono VD) (aF (pv 0) (aF (pv 1) aL))))) (bF o1) fC) (bB (cH (i:=2) y1.nd O (Or.inr O) (hU (n3 O) O T.q21 lS (aF (pv 1) aL))) (bB (mh (i:=3) y1.nd O ["dyke","crowns"] 1 [2] O (eV (ki T.ad (FU T) (u.mono VD) (pv 0))) (λ R=>dJ (i:=0) (VE:eG (["dyke","crowns"]:List aA)) O VG) (eN VD) (λ R=>gN) (λ R=>(bZ (Uf T) (u.mono VD) (aF (pv 0) (aF (Nx aR (pv 1) (cF (cR (K:=K) O) (pv 0) aQ (λ_ _=>O)) (cF (cR (K:=K) O) (pv 0) aQ (λ_ _=>O)) ⟨O,O,O,O⟩) aL))))) (bF (cJ (sV T.gb (zd T) (u.mono VD) (aF (ki T.ad (TM T) (u.mono VD) (pv 0)) (aF (pv 3) aL)))))))),?_⟩;refine⟨_,O,_,O,_,_,O,p,fs,N,.lst g,O,L,af,b2,_,O,?_⟩;rw[(Bk N g).mpr D];refine cG ?_;obtain⟨a,us,rfl,b7,hi⟩:=af;refine⟨_,O,a,us,g.map ny,O,aT.of b7,IK D.all hi,by rw[aS];exact lw,by rw[Lc];exact zV D.nd,λ cd b8=>?_⟩;have a2:=aM.upd (o:=.dK (g.map ny)) b8;refine⟨_,O,p,dx,_,O,a2 _ _ ag,ah _ VE VE,_,O,p,fs,N,O,L.same a2,λ l vs b9 ba=>?_⟩;have a3:=aM.upd (o:=.lst vs) b9;have a4:aI (aI H cd (.dK (g.map ny))) l (.lst vs) cd=some (.dK (g.map ny)):=a3 _ _ aV;have a5:aI (aI H cd (.dK (g.map ny))) l (.lst vs) l=some (.lst vs):=aV;have a6:=IsL.same a3 _ _ ba;have ak:=a2.trans a3;generalize aI (aI H cd (.dK (g.map ny))) l (.lst vs)=H2 at a4 a5 a6 ak;have bn:vs.length=N.length:=a6.length;refine⟨l,O,⟨_,aT.of a5⟩,?_⟩;refine fP (F:=K) (xs:=vs) VF (λ i ys H'=>aM H2 H'/\IsL H' ((N.take i).map (s3 g)) ys) ⟨aM.refl _,O⟩ ?_ ?_ ?_
 .rintro i ys H' bo ⟨S,B⟩;have:=B.length;rw[aS,dU] at this;exact⟨aT.of (S _ _ a5),VF⟩
 .rintro i bp ys H' bq br al ⟨S,B⟩ k1 k2;have bs:i<vs.length:=(dI.mp al).1;obtain⟨d,a7⟩:∃ d,N[i]?=some d:=⟨_,cY VF⟩
  obtain⟨v,ev,bb⟩:=(show IsL H2 N vs from a6).get a7;rw[al] at ev;cases ev;obtain⟨n,am,an,c,r,b5,rfl,_⟩:=jB (U.all d (dN a7));obtain⟨t,ao,rfl,o,bc⟩:=qi bb;refine⟨_,O,_,O,cd,O,.inl ⟨_,.inl (S _ _ a4)⟩,_,O,t,_,0,.str n,O,O,bY.of (S _ _ o),cE (j:=0) O,_,O,t,_,3,.int c,O,O,bY.of (S _ _ o),cE (j:=3) O,_,kA.k (k:=Sum.inr n) (S _ _ a4),?_⟩;refine⟨_,_,O,t,n,am,an,c,r,(mu g n).getD c,ao,O,by rw[Lf,NL],S _ _ o,λ bd a8 G be=>k1 _ _ ⟨S.trans G,?_⟩⟩;rw[eL,a7,dP];refine IsL.snoc ?_ (IsL.same G _ _ B);exact⟨bd,_,O,be,.str n,_,O,O,.str am,_,O,O,.str an,_,O,O,.int _,_,O,O,.int r,_,O,O,ao,_,O,bK.same (S.trans G) _ _ bc,O⟩
 rintro ys a8 ⟨G,B⟩;rw[dY VF] at B;intro Y bf;have ap:=aM.upd (o:=.lst ys) bf;have aq:aI a8 Y (.lst ys) Y=some (.lst ys):=aV;have ar:=IsL.same ap _ _ B;have I:=ak.trans (G.trans ap);generalize aI a8 Y (.lst ys)=as at aq ar I;refine⟨_,O,p,dx,_,O,I _ _ ag,ah _ VE VE,_,O,p,fs,N,O,L.same I,λ a9 a0 bg bh=>?_⟩;have J:=aM.upd (o:=.lst a0) bg;refine⟨_,O,λ a1 aa ac bi bt=>?_⟩;have M:aM (aI as a9 (.lst a0)) (aI (aI (aI as a9 (.lst a0)) aa (.own a1)) a1 (.ins C aa [])):=λ b o e=>by
  rw[bD (dC e ac),bD (dC e bi)];exact e
 have ae:=KN U D;have bu:=ae.l2;refine⟨_,_,_,O,a1,aa,fs,og N g,O,aV,⟨a9,a0,O,M _ _ aV,IsL.same (J.trans M) _ _ bh⟩,⟨Y,ys,O,M _ _ (J _ _ aq),IsL.same (J.trans M) _ _ ar⟩,nD (λ d m=>vL (aj d m)) VF,nD (λ d m=>zI aj (ae.all d m)) VF,L.okf,(v6 _ _).mpr ae,λ H' bj fr=>⟨O,?_⟩⟩;refine q a1 H' (λ b o e=>?_) (I.free (J.free ac)) bj;have au:=J _ _ (I _ _ e);exact fr b o (M _ _ au) (dC au ac)
def lz(p:aB)(H H':aD):Prop:=∀b o,H b=some o->b≠p->H' b=some o
theorem lz.then(X:lz p H H')(S:aM H' a):lz p H a:=λb o e n=>S _ _ (X b o e n)
theorem lz.put(X:lz p H H'):lz p H (aI H' p o):=λb G e n=>by rw[bD n];exact X b G e n
theorem aM.x(S:aM H H'):lz p H H':=λb o e _=>S _ _ e
inductive zD(f:V->V->V->V->aD->aP->Prop)(vs:List V)(H:aD)(Q:aP)(z3:dL):Prop
 |mk:∀x y z u,vs=[x,y,z,u]->f x y z u H Q->zD f vs H Q z3
theorem RG:∀vs H Q E,zD f vs H Q E->vs.length=4:=λvs H Q E h=>by cases h;subst_vars;rfl
open Mt21 Mt46
inductive HL(K:bI)(x y:V)(H:aD)(Q:aP):Prop
 |mk:∀k:Int,lv K H x->y=.int k->0<=k->(∀m:Int,0<=m->m<10^24->Q (.int m) H)->HL K x y H Q
def Ex(K:bI):cA:=gY (HL K)
inductive HM(K:bI)(x y:V)(H:aD)(Q:aP):Prop
 |mk:∀k:Int,lv K H x->y=.int k->0<=k->(∀m:Int,0<=m->Q (.int m) H)->HM K x y H Q
def vq(K:bI):cA:=gY (HM K)
theorem IX(T:Txt K mg C):bA P w K mg base 1 "_law_mixed" ["_law_script","_law_k"] (Ex K):=by
 refine T.Zw.fc zy iC (λf l A outer s H vs Q E n h=>?_);obtain⟨x,y,rfl,k,⟨a,ns,rfl,c,o⟩,rfl,g,q⟩:=h;obtain⟨j,rfl⟩:=kC g;refine⟨_,(bB (cH (i:=2) zy.nd O VG aQ) (bB (fD (eU q8 (pv 1) (dB (jt (K:=K) O) O T.q24 iD (aF (pv 0) aL)) (eI _)) (bF (cH (i:=2) zy.nd O VG (cF (jJ (K:=K) O) (pv 0) (pv 1) (λ_ _=>O)))) fC) (bF (cJ (bC gR (bC mj (pv 2) aQ) (bC ji aQ aQ)))))),?_⟩;have b:(0:Int)<10^(24:Int).toNat:=VD;have d:∀m:Int,Q (.int (m%10^(24:Int).toNat)) H:=λm=>q _ (iM _ VD) (je _ b);refine⟨_,O,_,O,a,_,O,.inl c,_,_,O,O,_,O,?_⟩;rw[aS];refine jO (λh1=>?_) (λh1=>?_)
 .have e:j<ns.length:=by
   have:=of_decide_eq_true h1;omega
  refine⟨_,O,_,O,a,_,_,.int (ns.getD j 0),O,O,c,cE ?_,?_⟩
  .rw[dO,cY e,jV,cY e];rfl
  exact⟨_,O,_,_,O,O,.inr ⟨VD,VD⟩,_,_,O,O,⟨VD,VD,VD⟩,_,_,O,O,b,d _⟩
 .exact⟨_,O,_,_,O,O,.inr ⟨VD,VD⟩,_,_,O,O,⟨VD,VD,VD⟩,_,_,O,O,b,d _⟩
theorem zB(T:Txt K mg C):bA P w K mg base 1 "_law_mixed" ["_law_script","_law_k"] (vq K):=
 (IX T).imp λ_ _ _ _ ⟨x,y,e,k,a,b,c,q⟩=>⟨x,y,e,k,a,b,c,λm h _=>q m h⟩
inductive HA(x:V)(H:aD)(Q:aP):Prop
 |mk:∀n:Int,x=.int n->(∀m:Int,hgt m=aC->Q (.int m) H)->HA x H Q
def vr:cA:=sp1 (HA)
theorem zl(T:Txt K mg C):bA P w K mg base 1 "_law_height" ["_law_cell"] vr:=by
 refine T.Zy.fc KJ jN (λf b A outer s H vs Q E c h=>?_);obtain⟨x,rfl,n,rfl,q⟩:=h;have a:(10:Int)^(6:Int).toNat=1000000:=VD;refine⟨_,(bB (fD (eU lx (bC gR (pv 0) aQ) aQ (eI _)) (bF (cJ (bC mi (bC gR (bC hZ (pv 0) aQ) aQ) (bC ji aQ aQ)))) fC) (bF (cJ (bC mi (bC gR (bC hZ (pv 0) aQ) aQ) aQ)))),?_⟩;refine⟨_,O,_,_,O,O,(jw O),O,_,O,?_⟩;rw[nG];refine jO (λh1=>?_) (λh1=>?_)
 .refine⟨_,O,_,_,O,O,⟨VD,VD⟩,_,_,O,O,(jw O),_,_,O,O,⟨VD,VD,VD⟩,_,_,O,O,q _ ?_⟩;rw[a];have d:=iM (n/4) (show(2000001:Int)≠0 by decide);have a1:=je (n/4) (show(0:Int)<2000001 by decide);exact yF VF VF
 .refine⟨_,O,_,_,O,O,⟨VD,VD⟩,_,_,O,O,(jw O),_,_,O,O,q _ ?_⟩;have d:=iM (n/4) (show(7:Int)≠0 by decide);have a1:=je (n/4) (show(0:Int)<7 by decide);exact yF VF VF
theorem QU:("abcdefghijklmnopqrstuvwxyz":aA).length=26:=VE
inductive HO(x:V)(H:aD)(Q:aP):Prop
 |mk:∀c:Int,x=.int c->(∀(zs:List aA)(l:aB)(H':aD),Ai zs->(∀z∈zs,z≠vT)->aM H H'->H l=aG->H' l=some (.lst (zs.map V.str))->Q (.ref l) H')->HO x H Q
def vp:cA:=sp1 (HO)
theorem zA(T:Txt K mg C):bA P w K mg base 1 "_law_names" ["_law_cell"] vp:=by
 refine T.Zx.fc n4 jN (λf ay A outer s H vs Q E az h=>?_);obtain⟨x,rfl,c,rfl,q⟩:=h;have aR:=gB;have af:=QU;have a2:("abcdefghijklmnopqrstuvwxyz":aA).length<=dH:=by rw[af];omega
 refine⟨_,(bB (cH (i:=1) n4.nd O (Or.inr O) gE) (bB (cH (i:=2) n4.nd O VG (bC km aQ (bC gR (pv 0) aQ))) (bB (cH (i:=3) n4.nd O VG (bC gR (bC hZ (pv 0) aQ) (pv 2))) (bB (cH (i:=4) n4.nd O VG (cF (jJ (K:=K) O) (eA (aF aQ (aF aQ (aF aQ (aF aQ (aF aQ (aF aQ (aF aQ (aF aQ (aF aQ (aF aQ (aF aQ (aF aQ aL))))))))))))) (bC gR (bC hZ (pv 0) aQ) aQ) (λ_ _=>O))) (bB (cH (i:=5) n4.nd O VG (k7 PySem.F.plainAttrs_str PySem.F.slot_str_join PySem.F.type_str_join OS gE (aF (fM ["_law_j","_law_cell","_law_letters"] 1 [0,1] O (oX O T.q28 (aF (pv 2) aL)) (λR=>dJ (i:=0) (VE:eG (["_law_j","_law_cell","_law_letters"]:List aA)) O VG) (eN VD) (λR=>gN) (λR=>(cF Ed (pv 2) (bC gR (bC km (bC hZ (pv 1) aQ) (bC mj (pv 0) (pv 0))) aQ) (λ_ _=>O)))) aL))) (bB (cH (i:=6) n4.nd O VG (eA aL)) (bB (k4 kt O (oX O T.q28 (aF aQ aL)) (dJ (i:=7) n4.nd O VG) (bB (cH (i:=8) n4.nd O VG (cF Ed (pv 1) (bC gR (bC km (bC mj (pv 7) (pv 4)) (bC hZ (pv 0) aQ)) aQ) (λ_ _=>O))) (bF (jK (k7 lg nb m9 nC (pv 6) (aF (bC tq (bC tq (qg DQ (pv 5) qm (ql (pv 3))) (pv 8)) (qg DQ (pv 5) (ql (bC km (pv 3) aQ)) qm)) aL)))))) (bF (cJ (fM ["_law_name"] 1 [] O (eV (pv 6)) (λR=>dJ (i:=0) (VE:eG (["_law_name"]:List aA)) O VG) (eN VD) (λR=>ke (eU pj (pv 0) gE (eI _))) (λR=>(pv 0)))))))))))),?_⟩;have b0:0<=c%8:=iM _ VD;have b1:c%8<8:=je _ VD;obtain⟨a,hsz⟩:=kC (show 0<=1+c%8 by omega);refine⟨_,O,_,_,O,O,(jw O),_,_,O,O,?_⟩;dsimp only;rw[hsz];have ag:(0:Int)<(a:Int):=VF;refine⟨_,O,_,_,O,O,⟨VD,VD⟩,_,O,_,_,O,O,ag,?_⟩;have d:0<=c/8%(a:Int):=iM _ VF;have a1:c/8%(a:Int)<(a:Int):=je _ VF;obtain⟨t,ah⟩:=kC d;dsimp only;rw[ah];refine⟨cQ O,λa3 ai=>?_⟩;have J:=aM.upd (o:=.lst [.int 1,.int 3,.int 5,.int 7,.int 9,.int 11,.int 15,.int 17,.int 19,.int 21,.int 23,.int 25]) ai;obtain⟨u,a4,aj⟩:=Sq (i:=c/64%12) (iM _ VD) (je _ VD);refine⟨_,O,_,_,O,O,⟨VD,VD⟩,_,_,O,O,(jw O),a3,_,_,.int u,O,O,aT.of aV,aj,?_⟩;generalize aI H a3 (.lst [.int 1,.int 3,.int 5,.int 7,.int 9,.int 11,.int 15,.int 17,.int 19,.int 21,.int 23,.int 25])=H0 at J;refine⟨O,_,O,_,O,VF,VF,?_⟩;refine AD (lo:=0) (n:=a) VF (λi ys H'=>H0=H'/\ys=((fH i).map λ(j:Nat)=>mR (c/768+(j:Int)*(j:Int))).map V.str) ⟨O,O⟩ ?_ ?_ ?_
 .rintro i ys H' ⟨rfl,rfl⟩;simp
 .rintro i ys H' ak al hi ⟨rfl,rfl⟩ k1 k2;refine⟨_,O,_,O,_,_,O,O,⟨VD,VD⟩,_,O,_,O,_,_,O,O,.inl ⟨VF,VF⟩,_,_,O,O,_,_,O,O,(jw O),_,_,ab (c/768+(0+(i:Int))*(0+(i:Int))),O,O,a2,EP _,k1 _ _ ⟨O,?_⟩⟩;rw[uz,dP,dP];show _++[V.str (mR _)]=_++[V.str (mR _)];rw[qO]
 rintro ys H' ⟨rfl,rfl⟩;intro p1 am;have a5:=aM.upd (o:=.lst (((fH a).map λ(j:Nat)=>mR (c/768+(j:Int)*(j:Int))).map V.str)) am;have an:((((fH a).map λ(j:Nat)=>mR (c/768+(j:Int)*(j:Int)))).map λy=>y.length).sum=a:=by
  rw[fS];show((fH a).map λ_=>1).sum=a;have e:∀m:Nat,((fH m).map λ_=>1).sum=m:=λm=>by
   induction m with
   |zero=>rfl
   |succ m L=>rw[uz,dP,List.sum_append,L];rfl
  exact e a
 refine⟨"",p1,(fH a).map λ(j:Nat)=>mR (c/768+(j:Int)*(j:Int)),O,O,aT.of aV,by rw[an,aS,oy,show("":aA).length=0 by decide +kernel];omega,?_⟩;generalize z:Txt.join "" ((fH a).map λ(j:Nat)=>mR (c/768+(j:Int)*(j:Int)))=b;have M:b.cps.toList=(fH a).map λ(j:Nat)=>ab (c/768+(j:Int)*(j:Int)):=by
  rw[←z,LD,fS];show(((fH a).map λj=>[ab _]).flatten)=_
  induction (fH a) with
  |nil=>rfl
  |cons x r L=>rw[dW,List.flatten_cons,L,dW];rfl
 have bl:b.length=a:=by rw[rz,M,aS,oy]
 have ao:b.cps.toList.all mZ=aC:=by
  rw[M,j9];intro x B;obtain⟨j,_,rfl⟩:=cP.mp B;exact BG _
 have bs:b.length<=dH:=VF;refine⟨cQ O,λl a6=>?_⟩;have ap:=aM.upd (o:=.lst []) a6;have aq:=a5.free a6;have b2:1<=u/\u<=25:=(show ∀u∈units,1<=u/\u<=25 by decide +kernel) u a4;refine⟨_,O,VF,VF,?_⟩;refine p9 (lo:=0) (n:=26) (λi Y H'=>∃(N U:Option V)(g:Nat->aA),Y=[some (.int c),some (.str "abcdefghijklmnopqrstuvwxyz"),some (.int a),some (.int t),some (.int u),some (.str b),some (.ref l),N,U]/\aM H0 H'/\H' l=some (.lst (((fH i).map g).map V.str))/\∀k,k<i->(g k).cps.toList=b.cps.toList.take t++[ab ((k:Int)*u+c/19968)]++b.cps.toList.drop (t+1))
  ⟨_,_,λ_=>"",O,a5.trans ap,aV,(λk a7=>absurd a7 VF)⟩ ?_ ?_
 .rintro i Y a8 hi ⟨N,U,g,rfl,G,D,pu⟩;have b3:0<=(0+(i:Int))*u:=Int.mul_nonneg VF VF;refine⟨_,O,_,O,_,O,_,_,O,O,.inl ⟨VF,VF⟩,_,O,_,_,O,O,⟨VD,VD⟩,_,_,O,O,_,_,O,O,(jw O),_,_,ab ((0+(i:Int))*u+c/19968),O,O,a2,EP _,?_⟩;have tl:(ma b aG (some (t:Int))).length<=8:=by
   rw[rz,Jk b t VF,dU];omega
  have dl:(ma b (some ((t:Int)+1)) aG).length<=8:=by
   rw[show((t:Int)+1)=((t+1:Nat):Int) from O,rz,AC b (t+1) VF,nR,←rz];omega
  have a9:(mR ((0+(i:Int))*u+c/19968)).length=1:=O;have ar:(mR ((0+(i:Int))*u+c/19968)).cps.toList=[ab ((0+(i:Int))*u+c/19968)]:=O;refine⟨_,O,.inl ⟨O,_,aT.of D⟩,_,O,_,O,_,O,b,O,bs,_,O,_,_,O,O,?_,_,O,_,O,_,_,O,O,_,O,b,O,bs,_,_,O,O,?_,l,_,_,O,O,D,by rw[aS,aS,oy];omega,?_⟩
  .refine fF (xJ tl (sx a9)) VF
  .rw[Tx.UP];refine fF (xJ (xJ tl (sx a9)) dl) VF
  .refine⟨_,_,λk=>if k=i then ma b aG (some (t:Int))++mR ((0+(i:Int))*u+c/19968)++ma b (some ((t:Int)+1)) aG else g k,O,G.over ?_,?_,λk a7=>?_⟩
   .exact aq
   .rw[aV,uz,dP,dP];have as:(fH i).map (λk=>if k=i then ma b aG (some (t:Int))++mR ((0+(i:Int))*u+c/19968)++ma b (some ((t:Int)+1)) aG else g k)=(fH i).map g:=l4 λk m=>by
     rw[if_neg (by have:=oB.mp m;omega)]
    rw[as];show _=some (dX.lst (_++[V.str (if i=i then _ else _)]));rw[if_pos O];rfl
   .by_cases aa:k=i
    .subst aa;dsimp only;rw[if_pos O];rw[Tx.UO,Tx.UO,Jk b t VF,show((t:Int)+1)=((t+1:Nat):Int) from O,AC b (t+1) VF,ar,qO]
    .dsimp only;rw[if_neg aa];exact pu k VF
 .rintro Y a8 ⟨N,U,g,rfl,G,D,pu⟩;have au:=QQ (g:=g) (r:=c/19968) ao bl VF VF VF a4 pu;have av:∀p∈((fH 26).map g).filter (λp=>!decide (p=("sea":aA))),p≠vT:=λp m=>by
   obtain⟨k,mk,rfl⟩:=cP.mp (jD.mp m).1;exact ON M VF VF (pu k (oB.mp mk))
  refine⟨_,O,l,O,⟨_,aT.of D⟩,?_⟩;generalize aw:(fH 26).map g=zs at *;have b4:zs.length=26:=by rw[←aw,aS,oy]
  refine fP (F:=K) (xs:=zs.map V.str) (by rw[aS];omega) (λi ys H'=>a8=H'/\ys=((zs.take i).filter λp=>!decide (p=("sea":aA))).map V.str/\ys.length<=i) ⟨O,O,bQ _⟩ ?_ ?_ ?_
  .rintro i ys H' b5 ⟨rfl,rfl,a0⟩;exact⟨aT.of D,a0⟩
  .rintro i b6 ys H' ak al B ⟨rfl,rfl,a0⟩ k1 k2;obtain⟨p,ac⟩:∃p,zs[i]?=some p:=by
    have:=(dI.mp B).1;rw[aS]at this;exact⟨_,cY this⟩
   rw[dO,ac]at B;cases B;refine⟨_,O,O,_,O,?_⟩;show if (!decide (V.str p=V.str "sea"))=aC then _ else _
   rw[qq];have I:((zs.take (i+1)).filter λp=>!decide (p=("sea":aA)))=((zs.take i).filter λp=>!decide (p=("sea":aA)))++(if (!decide (p=("sea":aA)))=aC then [p] else []):=by
    rw[eL,ac,lE];cases z:(!decide (p=("sea":aA)))<;>simp_all
   cases z:(!decide (p=("sea":aA))) with
   |true=>
    rw[z]at I;refine cU ⟨_,O,k1 _ _ ⟨O,?_,by rw[eW,li];omega⟩⟩;rw[I,dP];rfl
   |false=>
    rw[z]at I;refine cG (k2 _ ⟨O,?_,VF⟩);rw[I];simp
  rintro ys H' ⟨rfl,rfl,a0⟩;rw[aS,dY (bQ _)];intro ax ae;exact q _ ax _ au av (J.trans (G.trans (aM.upd ae))) (J.free (G.free ae)) aV
theorem wT(h:hgt i=aC):-1000000<=i/\i<=1000000:=by
 unfold hgt at h;rw[fK,decide_eq_true_iff,decide_eq_true_iff]at h;exact h
theorem lT:∀{N:List aH},(∀d∈N,mU d=aC)->on N=aC
 |[],_=>rfl
 |d::N,h=>by
  rw[on,h d eJ,lT λe m=>h e (eY _ m)];rfl
inductive Hq(K:bI)(x y:V)(H:aD)(Q:aP):Prop
 |mk:∀n:Nat,lv K H x->y=.int n->1<=n->n<=12->(∀(l:aB)(vs:List V)(fs:List aH)(H':aD),aM H H'->H l=aG->H' l=some (.lst vs)->IsL H' fs vs->pQ fs n->(∀d∈fs,aN d≠Mt46.vT)->Q (.ref l) H')->Hq K x y H Q
def EB(K:bI):cA:=gY (Hq K)
theorem KS(T:Txt K mg C):bA P w K mg base 2 "_law_fields" ["_law_script","_law_most"] (EB K):=by
 refine T.Zz.fc ro iC (λf b0 A outer s H vs Q E B h=>?_);obtain⟨x,y,rfl,n,⟨a,ns,rfl,aj,ak⟩,rfl,b1,b2,q⟩:=h;have a0:lv K H (.ref a):=⟨a,ns,O,aj,ak⟩
 have b3:=gB;refine⟨_,(bB (cH (i:=2) ro.nd O VG (bZ (zA T) (B.mono VD) (aF (bZ (zB T) (B.mono VD) (aF (pv 0) (aF aQ aL))) aL))) (bB (cH (i:=3) ro.nd O VG (eA aL)) (bB (k4 kt O (oX O T.q28 (aF (bC km aQ (bC gR (bZ (zB T) (B.mono VD) (aF (pv 0) (aF aQ aL))) (pv 1))) aL)) (dJ (i:=4) ro.nd O VG) (bB (cH (i:=5) ro.nd O VG (bZ (zB T) (B.mono VD) (aF (pv 0) (aF (bC km aQ (pv 4)) aL)))) (bB (cH (i:=6) ro.nd O VG (cF (jJ (K:=K) O) (eA (aF aQ (aF aQ (aF (bC km aQ (bC gR (bC hZ (pv 5) aQ) aQ)) (aF (bC gR (bC hZ (pv 5) aQ) (bC km (bC ji aQ aQ) aQ)) aL))))) (bC gR (pv 5) aQ) (λ_ _=>O))) (bF (jK (k7 lg nb m9 nC (pv 3) (aF (jd (aF (cF (jJ (K:=K) O) (pv 2) (pv 4) (λ_ _=>O)) (aF (bZ (zl T) (B.mono VD) (aF (bC hZ (pv 5) (bC ji aQ aQ)) aL)) (aF (pv 6) aL)))) aL))))))) (bF (cJ (pv 3)))))),?_⟩;refine⟨_,O,_,_,O,0,a0,O,VD,λal b4=>?_⟩;refine⟨_,O,al,O,λzs ln z I am a9 b5 an=>?_⟩;refine⟨cQ O,λl aa=>?_⟩;have ac:=aM.upd (o:=.lst []) aa;have a1:H l=aG:=a9.free aa;have a2:aI z l (.lst []) l=some (.lst []):=aV;have J:=a9.trans ac;have L:=ac _ _ an;have ao:ln≠l:=λj=>by rw[j,a2]at L;have:=(dX.lst.inj (gK L));have h1:=I.l1;rw[←aS (f:=V.str),←this]at h1;exact absurd h1 VD
 generalize aI z l (.lst [])=H2 at J a2 L;refine⟨_,O,_,_,O,1,a0.same J,O,VD,λp b6=>?_⟩;have np:(0:Int)<(n:Int):=VF;have b7:0<=p%(n:Int):=iM _ VF;have b8:p%(n:Int)<(n:Int):=je _ np;obtain⟨cnt,b9⟩:=kC (show 0<=1+p%(n:Int) by omega);refine⟨_,O,_,_,O,O,np,_,_,O,O,_,O,by show -(2^62)<=1+p%(n:Int);omega,by show 1+p%(n:Int)<2^62;omega,?_⟩;rw[show(1+p%(n:Int)).toNat=cnt by omega];have ba:=I.l1;refine p9 (lo:=0) (n:=cnt) (λi Y H'=>∃(a3 a4 a5:Option V)(vs:List V)(es:List aH),Y=[some (.ref a),some (.int n),some (.ref ln),some (.ref l),a3,a4,a5]/\lz l H2 H'/\H' l=some (.lst vs)/\IsL H' es vs/\es.map aN=zs.take i/\es.length=i/\∀d∈es,jg d=aC) ⟨_,_,_,[],[],O,(λb o e _=>e),a2,O,O,O,λd m=>by cases m⟩ ?_ ?_
 .rintro i Y H' hi ⟨a3,a4,a5,ys,es,rfl,X,r,M,N,le,all⟩;have a6:aM H H':=λb o e=>X _ _ (J _ _ e) (λj=>by rw[j,a1]at e;cases e);have bb:=M.length;obtain⟨j,a7⟩:∃j,zs[i]?=some j:=⟨_,cY VF⟩
  have ap:(0:Int)+(i:Int)=(i:Int):=qO _;refine⟨_,O,_,O,_,_,O,O,_,_,O,_,a0.same a6,O,by show 0<=2+(0+(i:Int));omega,λk bc=>?_⟩;have aq:(10:Int)^(6:Int).toNat=1000000:=VD;have ar:(0:Int)<10^(6:Int).toNat+1:=VD;refine⟨_,O,_,_,O,O,⟨VD,VD⟩,_,_,O,O,(jw O),_,_,O,O,_,O,_,_,O,O,⟨VD,VD⟩,_,_,O,O,⟨VD,VD,VD⟩,_,_,O,O,_,_,O,O,ar,cQ O,λp1 as=>?_⟩;have D:=aM.upd (o:=.lst [.int 0,.int 1,.int (1+k/16%5),.int (k/16%(10^(6:Int).toNat+1))]) as;obtain⟨u,au,ae⟩:=vz (a:=0) (b:=1) (c:=1+k/16%5) (d:=k/16%(10^(6:Int).toNat+1)) (i:=k%4) (iM _ VD) (je _ VD);have af:0<=u/\u<=1000000:=by
   have bd:=iM (k/16) (show(5:Int)≠0 by decide);have be:=je (k/16) (show(0:Int)<5 by decide);rw[aq]at ae;have bf:=iM (k/16) (show(1000000+1:Int)≠0 by decide);have bg:=je (k/16) (show(0:Int)<1000000+1 by decide);rcases ae with rfl|rfl|rfl|rfl<;>omega
  refine⟨_,O,_,_,O,O,(jw O),p1,_,_,.int u,O,O,aT.of aV,au,?_⟩;generalize aI H' p1 (.lst [.int 0,.int 1,.int (1+k/16%5),.int (k/16%(10^(6:Int).toNat+1))])=av at D ⊢;refine⟨_,O,.inl ⟨O,_,aT.of (D _ _ r)⟩,?_⟩;refine⟨_,O,_,O,ln,_,_,.str j,O,O,aT.of (D _ _ (X _ _ L ao)),(by rw[ap];exact cE (by rw[dO,a7];rfl)),?_⟩;refine⟨_,O,_,_,O,O,⟨VD,VD,VD⟩,_,_,O,O,⟨VD,VD⟩,_,O,_,O,λg aw=>?_⟩;refine⟨_,O,cQ O,λt a8=>?_⟩;have ax:=aM.upd (o:=.tup [.str j,.int g,.int u]) a8;have A:=D.trans ax;have ay:=A _ _ r;refine⟨l,_,_,O,O,ay,VF,?_⟩;have az:=I.nm j (dN a7);have aR:t≠l:=λe=>by rw[e,D _ _ r]at a8;cases a8
  have kp:iU H' (aI (aI av t (.tup [.str j,.int g,.int u])) l (.lst (ys++[.ref t]))):=λb xs e=>by
   rw[bD (λj=>by rw[j,r]at e;cases e)];exact A _ _ e
  have ag:=wT aw;refine⟨_,_,_,ys++[.ref t],es++[.tup [.str j,.int g,.int u]],O,(X.then A).put,aV,IsL.snoc ?_ (IsL.keep kp _ _ (lT λd m=>Az (all d m)) M),?_,by rw[eW,le];rfl,?_⟩
  .exact⟨t,_,O,by rw[bD aR,aV],_,_,O,O,_,_,O,O,_,_,O,O,O⟩
  .rw[dP,N,eL,a7];rfl
  .intro d G;rcases gQ.mp G with G|G
   .exact all d G
   .rw[fG.mp G];exact Cw az ag.1 ag.2 af.1 af.2
 .rintro Y H' ⟨a3,a4,a5,ys,es,rfl,X,r,M,N,le,all⟩;have a6:aM H H':=λb o e=>X _ _ (J _ _ e) (λj=>by rw[j,a1]at e;cases e);refine⟨_,O,q l ys es H' a6 a1 r M ⟨VF,VF,all,?_⟩ λd m=>?_⟩
  .rw[N];exact I.nd.sublist (ur _ _)
  .have h:aN d∈es.map aN:=cP.mpr ⟨d,m,O⟩;rw[N]at h;exact am _ (pz h)
theorem vX(R:L2.St->aD->Prop)(h:∀σ' H',R σ' H'->u D σ' H')(k:∀d:Ends,(∀σ' H',R σ' H'->d.nx σ' H')->yS c a b d Y H):jv (yS c a b) u D Y H:=k {D with nx:=u D} h
theorem Se{A B X:Prop}(a:A)(c:A->b=aJ->X):if b=aC then(if aC=aC then A else B) else X:=by
 cases b with
 |true=>rw[if_pos O,if_pos O];exact a
 |false=>rw[if_neg (by intro d;cases d)];exact c a O
inductive Hk(K:bI)(x y z u:V)(H:aD)(Q:aP):Prop
 |mk:∀(ia im:Nat)(lf:aB)(vf:List V)(fs:List aH)(nf:Nat),lv K H x->y=.int ia->ia<=63->z=.int im->1<=im->im<=20->u=.ref lf->H lf=some (.lst vf)->IsL H fs vf->pQ fs nf->nf<=12->(∀(l:aB)(us:List V)(N:List aH)(H':aD),aM H H'->H l=aG->H' l=some (.lst us)->IsL H' N us->w0 ("sea" :: fs.map aN) N im->(∀d∈N,aN d≠Mt46.vT)->Q (.ref l) H')->Hk K x y z u H Q
def EC(K:bI):cA:=zD (Hk K)
theorem Lv(T:Txt K mg C):bA P w K mg base 2 "_law_dykes" ["_law_script","_law_at","_law_most","_law_fields_here"] (EC K):=by
 refine T.q00.fc lR RG (λf da A outer s H vs Q E a8 h=>?_)
 obtain⟨x,y,k,u,rfl,L,I,lf,vf,fs,db,⟨a,ns,rfl,ba,c4⟩,rfl,dc,rfl,dd,de,rfl,bb,bc,a9,df,q⟩:=h
 have bd:lv K H (.ref a):=⟨a,ns,O,ba,c4⟩
 have dg:=gB
 have dh:=bc.length
 have f1:=a9.l1
 have f2:=a9.l2
 have c5:=Nd a9
 refine⟨_,(bB (cH (i:=4) lR.nd O VG (bZ (zA T) (a8.mono VD) (aF (bC hZ (bZ (zB T) (a8.mono VD) (aF (pv 0) (aF aQ aL))) (bC ji aQ aQ)) aL))) (bB (cH (i:=5) lR.nd O VG (bC o9 (eA (aF gE aL)) (fM ["_law_field"] 1 [] O (eV (pv 3)) (λR=>dJ (i:=0) (VE:eG (["_law_field"]:List aA)) O VG) (eN VD) (λR=>gN) (λR=>(cF (cR (K:=K) O) (pv 0) aQ (λ_ _=>O)))))) (bB (cH (i:=6) lR.nd O VG (eA aL)) (bB (k4 kt O (oX O T.q28 (aF (dB (Bx O) O T.q26 BA (aF aQ (aF (dB (z7 O) O T.q27 wb (aF (pv 2) (aF (bC mi (dB (jt (K:=K) O) O T.q24 iD (aF (pv 0) aL)) (pv 1)) aL))) aL))) aL)) (dJ (i:=7) lR.nd O VG) (bB (cH (i:=8) lR.nd O VG (bZ (zB T) (a8.mono VD) (aF (pv 0) (aF (bC km (pv 1) (pv 7)) aL)))) (bB (cH (i:=9) lR.nd O (Or.inr O) (cF (jJ (K:=K) O) (pv 5) (bC gR (pv 8) (dB (jt (K:=K) O) O T.q24 iD (aF (pv 5) aL))) (λ_ _=>O))) (bB (mh (i:=10) lR.nd O ["_law_side","_law_one"] 1 [9] O (eV (pv 5)) (λR=>dJ (i:=0) (VE:eG (["_law_side","_law_one"]:List aA)) O VG) (eN VD) (λR=>ke (eU pj (pv 0) (pv 1) (eI _))) (λR=>(pv 0))) (bB (cH (i:=11) lR.nd O VG (cF (jJ (K:=K) O) (pv 10) (bC gR (bC hZ (pv 8) aQ) (dB (jt (K:=K) O) O T.q24 iD (aF (pv 10) aL))) (λ_ _=>O))) (bB (cH (i:=12) lR.nd O VG (bZ (zl T) (a8.mono VD) (aF (bC hZ (pv 8) aQ) aL))) (bB (cH (i:=13) lR.nd O VG (cF (jJ (K:=K) O) (eA (aF aQ (aF aQ (aF (bC km aQ (bC gR (bC hZ (pv 8) (bC ji aQ aQ)) aQ)) (aF (bC gR (bC hZ (pv 8) (bC ji aQ aQ)) (bC km (bC ji aQ aQ) aQ)) aL))))) (bC gR (bC hZ (pv 8) (bC ji aQ aQ)) aQ) (λ_ _=>O))) (bB (cH (i:=14) lR.nd O VG (bC mi (bC mi (pv 12) aQ) (cF (jJ (K:=K) O) (eA (aF aQ (aF aQ (aF aQ (aF (bC ji aQ aQ) aL))))) (bC gR (bC hZ (pv 8) (bC ji aQ aQ)) aQ) (λ_ _=>O)))) (bB (fD (gU.pt (ju (eU lx (bC gR (bC hZ (pv 8) (bC ji aQ aQ)) aQ) aQ (eI _)) (kg (eU q8 (pv 14) (bC mi aQ (bC ji aQ aQ)) (eI _))))) (bF (cH (i:=14) lR.nd O VG jp)) fC) (bF (jK (k7 lg nb m9 nC (pv 6) (aF (jd (aF (cF (jJ (K:=K) O) (pv 4) (pv 7) (λ_ _=>O)) (aF (pv 9) (aF (pv 11) (aF (pv 12) (aF (pv 13) (aF (pv 14) aL))))))) aL))))))))))))) (bF (cJ (pv 6))))))),?_⟩
 refine⟨_,O,_,_,O,1,bd,O,VD,λdi dj=>?_⟩
 refine⟨_,_,O,O,⟨VD,VD,VD⟩,_,_,O,O,⟨VD,VD⟩,_,O,_,O,λzs ln z am c6 c7 dk c8=>?_⟩
 refine⟨cQ O,λp1 c9=>?_⟩
 have be:=aM.upd (o:=.lst [.str "sea"]) c9
 have aa:=c7.trans be
 refine⟨_,O,lf,O,⟨_,aT.of (aa _ _ bb)⟩,?_⟩
 refine fP (F:=K) (xs:=vf) VF (λi ys H'=>aI z p1 (.lst [.str "sea"])=H'/\ys=((fs.take i).map aN).map V.str) ⟨O,O⟩ ?_ ?_ ?_
 .rintro i ys H' ca ⟨rfl,rfl⟩
  exact⟨aT.of (aa _ _ bb),by rw[aS,aS,dU];omega⟩
 .rintro i cb ys H' cc cd U ⟨rfl,rfl⟩ k1 k2
  have dm:i<vf.length:=(dI.mp U).1
  obtain⟨d,an⟩:∃d,fs[i]?=some d:=⟨_,cY VF⟩
  obtain⟨v,ev,ce⟩:=bc.get an
  rw[U]at ev
  cases ev
  obtain⟨k,g,e,rfl,_⟩:=jc (a9.all d (dN an))
  obtain⟨t,rfl,o⟩:=nE ce
  refine⟨_,O,t,_,0,.str k,O,O,bY.of (aa _ _ o),cE (j:=0) O,k1 _ _ ⟨O,?_⟩⟩
  rw[eL,an]
  simp[aN,iB]
 rintro ys H' ⟨rfl,rfl⟩
 rw[dY VF]
 intro D cf
 have ao:=aM.upd (o:=.lst ((fs.map aN).map V.str)) cf
 refine⟨p1,D,_,_,O,O,ao _ _ aV,aV,by simp only[aS,hJ,uC];omega,λJ cg=>?_⟩
 have bf:=aM.upd (o:=.lst ([.str "sea"]++(fs.map aN).map V.str)) cg
 have ap:=aa.trans (ao.trans bf)
 have ch:=be.trans (ao.trans bf)
 have ac:aI (aI (aI z p1 (.lst [.str "sea"])) D (.lst ((fs.map aN).map V.str))) J (.lst ([.str "sea"]++(fs.map aN).map V.str)) J=some (.lst ((("sea":aA)::fs.map aN).map V.str)):=aV
 have ae:=ch _ _ c8
 generalize aI (aI (aI z p1 (.lst [.str "sea"])) D (.lst ((fs.map aN).map V.str))) J (.lst ([.str "sea"]++(fs.map aN).map V.str))=bg at ap ac ae
 generalize ci:(("sea":aA)::fs.map aN)=p at *
 have dp:2<=p.length/\p.length<=13:=by rw[←ci,hJ,aS];omega
 refine⟨cQ O,λl af=>?_⟩
 have aq:=aM.upd (o:=.lst []) af
 have ag:=ap.trans aq
 have ar:H l=aG:=ap.free af
 have bh:aI bg l (.lst []) l=some (.lst []):=aV
 have bi:=aq _ _ ac
 have bj:=aq _ _ ae
 have cj:J≠l:=λk=>by rw[k,af]at ac;cases ac
 have ck:ln≠l:=λk=>by rw[k,af]at ae;cases ae
 generalize aI bg l (.lst [])=cm at ag bh bi bj
 have dq:(ns.map V.int).length=ns.length:=aS ..
 refine⟨_,O,_,O,a,_,O,.inl (ag.seq ba),_,O,_,_,O,O,_,_,O,_,_,O,?_⟩
 obtain⟨cnt,cn,co,dr⟩:∃cnt:Nat,(if (if (((ns.map V.int).length:Nat):Int)-(L:Int)<(I:Int) then(((ns.map V.int).length:Nat):Int)-(L:Int) else(I:Int))>1 then(if (((ns.map V.int).length:Nat):Int)-(L:Int)<(I:Int) then(((ns.map V.int).length:Nat):Int)-(L:Int) else(I:Int)) else 1)=(cnt:Int)/\1<=cnt/\cnt<=I:=by
  generalize (((ns.map V.int).length:Nat):Int)-(L:Int)=w
  by_cases h1:w<(I:Int)
  .rw[if_pos h1]
   by_cases h2:w>1
   .rw[if_pos h2]
    exact⟨w.toNat,VF,VF,VF⟩
   .rw[if_neg h2]
    exact⟨1,O,VF,VF⟩
  .rw[if_neg h1]
   by_cases h2:(I:Int)>1
   .rw[if_pos h2]
    exact⟨I,O,VF,VF⟩
   .rw[if_neg h2]
    exact⟨1,O,VF,VF⟩
 refine⟨(cnt:Int),congrArg (λx=>[V.int x]) cn,VF,VF,?_⟩
 rw[oz]
 have ds:=am.l1
 refine p9 (lo:=0) (n:=cnt) (λi Y H'=>∃(as au av aw ax ay az aR:Option V)(vs:List V)(es:List aH),Y=[some (.ref a),some (.int L),some (.int I),some (.ref lf),some (.ref ln),some (.ref J),some (.ref l),as,au,av,aw,ax,ay,az,aR]/\lz l cm H'/\H' l=some (.lst vs)/\IsL H' es vs/\es.map aN=zs.take i/\es.length=i/\∀d∈es,jj p d=aC) ⟨_,_,_,_,_,_,_,_,[],[],O,(λb o e _=>e),bh,O,O,O,λd m=>by cases m⟩ ?_ ?_
 .rintro i Y H' hi ⟨as,au,av,aw,ax,ay,az,aR,ys,es,rfl,X,a3,ah,ai,le,all⟩
  refine EJ λdt cp=>?_
  have b0:aM H H':=λb o e=>X _ _ (ag _ _ e) (λk=>by rw[k,ar]at e;cases e)
  have du:=ah.length
  obtain⟨k,b1⟩:∃k,zs[i]?=some k:=⟨_,cY VF⟩
  have cq:=am.nm k (dN b1)
  have cr:(0:Int)+(i:Int)=(i:Int):=qO _
  refine⟨_,O,_,O,_,O,_,_,O,O,_,_,O,_,bd.same b0,O,by show 0<=(L:Int)+(0+(i:Int));omega,λB dv=>?_⟩
  have aj:=X _ _ bi cj
  have bk:(0:Int)<(((p.map V.str).length:Nat):Int):=by rw[aS];omega
  have cs:0<=B%(((p.map V.str).length:Nat):Int):=iM _ VF
  have ct:B%(((p.map V.str).length:Nat):Int)<(((p.map V.str).length:Nat):Int):=je _ bk
  obtain⟨bl,bm⟩:=kC cs
  have cu:bl<p.length:=by rw[bm,aS]at ct;omega
  obtain⟨r,bn⟩:∃k,p[bl]?=some k:=⟨_,cY cu⟩
  refine⟨_,O,_,O,_,O,J,_,O,.inl (aT.of aj),_,_,O,O,bk,J,_,_,.str r,O,O,aT.of aj,by rw[bm];exact cE (by rw[dO,bn];rfl),?_⟩
  refine⟨_,O,J,O,⟨_,aT.of aj⟩,?_⟩
  refine fP (F:=K) (xs:=p.map V.str) (by rw[aS];omega) (λi ys ak=>H'=ak/\ys=((p.take i).filter λy=>!decide (y=r)).map V.str/\ys.length<=i) ⟨O,O,bQ _⟩ ?_ ?_ ?_
  .rintro i ys ak ca ⟨rfl,rfl,b2⟩
   exact⟨aT.of aj,b2⟩
  .rintro i cb ys ak cc cd U ⟨rfl,rfl,b2⟩ k1 k2
   obtain⟨y,bo⟩:∃y,p[i]?=some y:=by
    have:=(dI.mp U).1
    rw[aS]at this
    exact⟨_,cY this⟩
   rw[dO,bo]at U
   cases U
   refine⟨_,O,_,O,O,_,O,?_⟩
   show if (!decide (V.str y=V.str r))=aC then _ else _
   rw[qq]
   have al:((p.take (i+1)).filter λy=>!decide (y=r))=((p.take i).filter λy=>!decide (y=r))++(if (!decide (y=r))=aC then [y] else []):=by
    rw[eL,bo,lE]
    cases b3:(!decide (y=r))<;>simp_all
   cases b3:(!decide (y=r)) with
   |true=>
    rw[b3]at al
    refine cU ⟨_,O,k1 _ _ ⟨O,?_,by rw[eW,li];omega⟩⟩
    rw[al,dP]
    rfl
   |false=>
    rw[b3]at al
    refine cG (k2 _ ⟨O,?_,VF⟩)
    rw[al]
    simp
  rintro dw ak ⟨rfl,rfl,b2⟩
  rw[aS,dY (bQ _)]
  intro a0 cv
  have bp:=aM.upd (o:=.lst ((p.filter λy=>!decide (y=r)).map V.str)) cv
  have b4:aI H' a0 (.lst ((p.filter λy=>!decide (y=r)).map V.str)) a0=some (.lst ((p.filter λy=>!decide (y=r)).map V.str)):=aV
  have dx:=yD r p c5
  have bq:(0:Int)<((((p.filter λy=>!decide (y=r)).map V.str).length:Nat):Int):=by rw[aS];omega
  generalize cw:(p.filter λy=>!decide (y=r))=a1 at *
  generalize aI H' a0 (.lst (a1.map V.str))=cx at bp b4 ⊢
  have cy:0<=B/16%(((a1.map V.str).length:Nat):Int):=iM _ VF
  have cz:B/16%(((a1.map V.str).length:Nat):Int)<(((a1.map V.str).length:Nat):Int):=je _ bq
  obtain⟨br,bs⟩:=kC cy
  have cI:br<a1.length:=by rw[bs,aS]at cz;omega
  obtain⟨a2,bt⟩:∃k,a1[br]?=some k:=⟨_,cY cI⟩
  have bu:=dN bt
  rw[←cw]at bu
  obtain⟨cL,bv⟩:=jD.mp bu
  have cM:r≠a2:=λe=>by rw[e]at bv;simp at bv
  refine⟨_,O,_,O,_,_,O,O,⟨VD,VD⟩,_,O,a0,_,O,.inl (aT.of b4),_,_,O,O,bq,a0,_,_,.str a2,O,O,aT.of b4,by rw[bs];exact cE (by rw[dO,bt];rfl),?_⟩
  refine⟨_,O,_,_,O,O,⟨VD,VD⟩,_,O,_,O,λM bw=>?_⟩
  have dy:=wT bw
  have bx:(10:Int)^(6:Int).toNat=1000000:=VD
  have cO:(0:Int)<10^(6:Int).toNat+1:=VD
  refine⟨_,O,_,_,O,O,⟨VD,VD,VD⟩,_,_,O,O,⟨VD,VD⟩,_,_,O,O,(jw O),_,_,O,O,_,O,_,_,O,O,⟨VD,VD,VD⟩,_,_,O,O,⟨VD,VD⟩,_,_,O,O,⟨VD,VD,VD⟩,_,_,O,O,_,_,O,O,cO,cQ O,λbz cS=>?_⟩
  have bM:=aM.upd (o:=.lst [.int 0,.int 1,.int (1+B/10^(9:Int).toNat%4),.int (B/10^(9:Int).toNat%(10^(6:Int).toNat+1))]) cS
  obtain⟨N,cT,bO⟩:=vz (a:=0) (b:=1) (c:=1+B/10^(9:Int).toNat%4) (d:=B/10^(9:Int).toNat%(10^(6:Int).toNat+1)) (i:=B/10^(8:Int).toNat%4) (iM _ VD) (je _ VD)
  have bR:0<=N/\N<=1000000:=by
   have dz:=iM (B/10^(9:Int).toNat) (show(4:Int)≠0 by decide)
   have dF:=je (B/10^(9:Int).toNat) (show(0:Int)<4 by decide)
   rw[bx]at bO
   have dK:=iM (B/10^(9:Int).toNat) (show(1000000+1:Int)≠0 by decide)
   have co:=je (B/10^(9:Int).toNat) (show(0:Int)<1000000+1 by decide)
   rcases bO with rfl|rfl|rfl|rfl<;>omega
  refine⟨_,O,_,_,O,O,⟨VD,VD,VD⟩,_,_,O,O,⟨VD,VD⟩,_,_,O,O,(jw O),bz,_,_,.int N,O,O,aT.of aV,cT,?_⟩
  generalize aI cx bz (.lst [.int 0,.int 1,.int (1+B/10^(9:Int).toNat%4),.int (B/10^(9:Int).toNat%(10^(6:Int).toNat+1))])=cV at bM ⊢
  refine⟨_,O,_,_,O,O,_,_,O,O,⟨VD,VD,VD⟩,cQ O,λbV cW=>?_⟩
  have bW:=aM.upd (o:=.lst [.int 0,.int 1,.int 2,.int (10^(5:Int).toNat)]) cW
  obtain⟨a4,d0,d1⟩:=vz (a:=0) (b:=1) (c:=2) (d:=10^(5:Int).toNat) (i:=B/10^(15:Int).toNat%4) (iM _ VD) (je _ VD)
  have dS:0<=a4:=by rcases d1 with rfl|rfl|rfl|rfl<;>decide
  refine⟨_,O,_,_,O,O,⟨VD,VD,VD⟩,_,_,O,O,⟨VD,VD⟩,_,_,O,O,(jw O),bV,_,_,.int a4,O,O,aT.of aV,d0,_,_,O,O,?_⟩
  generalize aI cV bV (.lst [.int 0,.int 1,.int 2,.int (10^(5:Int).toNat)])=d2 at bW ⊢
  have b5:=bp.trans (bM.trans bW)
  unfold oo
  dsimp only
  refine vX (fun σ' b6=>b6=d2/\∃(a5:V)(a6:aH),σ'=[some (.ref a),some (.int L),some (.int I),some (.ref lf),some (.ref ln),some (.ref J),some (.ref l),some (.int (0+(i:Int))),some (.int B),some (.str r),some (.ref a0),some (.str a2),some (.int M),some (.int N),some a5]/\(∀G:aD,bK G a6 a5)/\nH (.int M) a6=aC/\mU a6=aC) (fun σ' b6 d3=>?_) (λdT c0=>?_)
  rotate_left
  .refine⟨_,O,_,_,O,O,⟨VD,VD,VD⟩,_,_,O,O,⟨VD,VD⟩,_,_,O,O,(jw O),O,_,O,?_⟩
   rw[nG]
   try dsimp only
   refine Se ?_ (λd4 dV=>?_)
   .exact c0 _ _ ⟨O,.non,.non,O,(λ_=>O),O,O⟩
   refine⟨_,O,_,_,O,O,⟨VD,VD,VD⟩,_,_,O,O,_,_,O,O,_,O,?_⟩
   refine jO (λ_=>d4) (λh2=>?_)
   have d5:¬(M-1-a4<0-10^(6:Int).toNat):=λh=>h2 (decide_eq_true h)
   rw[bx]at d5
   refine c0 _ _ ⟨O,.int (M-1-a4),.int (M-1-a4),O,(λ_=>O),?_,O⟩
   show(hgt _&&decide _)=aC
   rw[yF VF VF,decide_eq_true VF]
   rfl
  obtain⟨rfl,a5,a6,rfl,d6,d7,e0⟩:=d3
  have c1:=b5 _ _ a3
  refine⟨_,O,.inl ⟨O,_,aT.of c1⟩,?_⟩
  refine⟨_,O,_,O,ln,_,_,.str k,O,O,aT.of (b5 _ _ (X _ _ bj ck)),(by rw[cr];exact cE (by rw[dO,b1];rfl)),_,O,_,O,_,O,_,O,_,O,cQ O,λt b7=>?_⟩
  have d8:=aM.upd (o:=.tup [.str k,.str r,.str a2,.int M,.int N,a5]) b7
  have b8:=b5.trans d8
  refine⟨l,_,_,O,O,b8 _ _ a3,VF,?_⟩
  have d9:t≠l:=λe=>by rw[e,c1]at b7;cases b7
  have kp:iU H' (aI (aI b6 t (.tup [.str k,.str r,.str a2,.int M,.int N,a5])) l (.lst (ys++[.ref t]))):=λb xs e=>by
   rw[bD (λk=>by rw[k,a3]at e;cases e)]
   exact b8 _ _ e
  refine cp _ _ ⟨_,_,_,_,_,_,_,_,ys++[.ref t],es++[.tup [.str k,.str r,.str a2,.int M,.int N,a6]],O,(X.then b8).put,aV,IsL.snoc ?_ (IsL.keep kp _ _ (lT λd m=>Bp (all d m)) ah),?_,by rw[eW,le];rfl,?_⟩
  .exact⟨t,_,O,by rw[bD d9,aV],_,_,O,O,_,_,O,O,_,_,O,O,_,_,O,O,_,_,O,O,_,_,O,d6 _,O⟩
  .rw[dP,ai,eL,b1]
   rfl
  .intro d a7
   rcases gQ.mp a7 with a7|a7
   .exact all d a7
   .rw[fG.mp a7]
    exact Dp cq (dN bn) cL cM bw (Qw bR.1 bR.2) d7
 .rintro Y H' ⟨as,au,av,aw,ax,ay,az,aR,ys,es,rfl,X,a3,ah,ai,le,all⟩
  have b0:aM H H':=λb o e=>X _ _ (ag _ _ e) (λk=>by rw[k,ar]at e;cases e)
  refine⟨_,O,q l ys es H' b0 ar a3 ah ⟨VF,VF,all,?_⟩ λd m=>?_⟩
  .rw[ai]
   exact am.nd.sublist (ur _ _)
  .have h:aN d∈es.map aN:=cP.mpr ⟨d,m,O⟩
   rw[ai]at h
   exact c6 _ (pz h)
open Mt53
theorem nG(a b:Int):decide (V.int a=V.int b)=decide (a=b):=by
 by_cases h:a=b
 .subst h;simp
 .rw[decide_eq_false h,decide_eq_false (λc=>h (by cases c;rfl))]
inductive Hf(x y:V)(H:aD)(Q:aP):Prop
 |mk:∀(t:aB)(n a b:aA)(c r h:Int)(sv:V),x=.ref t->y=.int h->H t=some (.tup [.str n,.str a,.str b,.int c,.int r,sv])->0<=r->r<=1000000->Q (.int (r*(h-c))) H->Hf x y H Q
def zP:cA:=gY (Hf)
theorem GZ(T:Txt K mg C):bA P w K mg base 1 "coins_to" ["dyke","height"] zP:=by
 refine T.Ys.fc JQ iC (λf d A outer s H vs Q E e h=>?_);obtain⟨x,y,rfl,t,n,a,b,c,r,h,g,rfl,rfl,o,i,k,q⟩:=h;refine⟨_,(bF (cJ (bC mj (cF (cR (K:=K) O) (pv 0) aQ (λ_ _=>O)) (bC mi (pv 1) (cF (cR (K:=K) O) (pv 0) aQ (λ_ _=>O)))))),?_⟩;exact⟨_,O,t,_,4,.int r,O,O,bY.of o,cE (j:=4) O,_,O,_,O,t,_,3,.int c,O,O,bY.of o,cE (j:=3) O,_,_,O,O,_,_,O,O,.inl ⟨VF,VF⟩,q⟩
theorem Qx(h:mf r=aC):0<=r/\r<=1000000:=by
 have:=iV.mp h;exact⟨of_decide_eq_true this.1,of_decide_eq_true this.2⟩
theorem KC(g:lO zs N)(h:GoodW N f)(lw:f.length<=1000):gT (.lst f)=aC:=nD (λd m=>by
  obtain⟨l,v,rfl,i,_⟩:=rp (h.all d m);obtain⟨d',j,rfl⟩:=cP.mp i;obtain⟨n,a,b,c,r,o,rfl,k,_⟩:=jB (g.all d' j);have e:=ru k;show(decide (2<=1000)&&(decide (n.length<=1000)&&(aC&&aC)))=aC;rw[decide_eq_true e];rfl) lw
inductive He(C:aB)(x y:V)(H:aD)(Q:aP):Prop
 |mk:∀(p:aB)(fs N ws:List aH),x=.ref p->eZ C H p fs N->bK H (.lst ws) y->ws.length<=1000->GoodW N ws->Q (.int (ve N ws)) H->He C x y H Q
def AN(C:aB):cA:=gY (He C)
theorem JY(T:Txt K mg C):bA P w K mg base 5 "coins_of" ["land","works"] (AN C):=by
 refine T.Yt.fcD JR iC (λf ai A outer s H vs Q E l h=>?_);obtain⟨x,y,rfl,p,fs,N,b,rfl,L,D,lw,u,q⟩:=h;have aj:=gB;obtain⟨dx,a0,a1,a2,_⟩:=L.ex;have a3:∀m:aA,¬m="dyke_rows"->¬m="field_rows"->(mq a0 a1).lookup m=aG:=λm h1 h2=>kM _ _ h1 h2;have g:=(iE L).2;refine⟨_,(bB (fD (iF (fY (bZ (Gr T) (l.mono VD) (aF (pv 0) (aF (pv 1) aL))))) (bF o1) fC) (bF (cJ (dB (qj O) O T.q33 qb (aF (fM ["work","land"] 1 [0] O (eV (pv 1)) (λR=>dJ (i:=0) (VE:eG (["work","land"]:List aA)) O VG) (eN VD) (λR=>gN) (λR=>(bZ (GZ T) (l.mono VD) (aF (p3 T.ad (y9 T) (l.mono VD) (pv 1) (aF (cF (cR (K:=K) O) (pv 0) aQ (λ_ _=>O)) aL)) (aF (cF (cR (K:=K) O) (pv 0) aQ (λ_ _=>O)) aL))))) aL))))),?_⟩;refine⟨_,O,_,O,_,_,O,p,fs,N,.lst b,O,L,D,KC g u lw,_,O,?_⟩;rw[(Bk N b).mpr u];refine cG ?_;obtain⟨a,us,rfl,I,hi⟩:=D;have ak:=hi.length;refine⟨_,O,a,O,⟨_,aT.of I⟩,?_⟩;refine fP (F:=K) (xs:=us) VF (λi ys H'=>H'=H/\ys=((b.take i).map (sX N)).map V.int) ⟨O,O⟩ ?_ ?_ ?_
 .rintro i ys H' al ⟨rfl,rfl⟩;exact⟨aT.of I,by rw[aS,aS,dU];omega⟩
 .rintro i x ys H' am an J ⟨rfl,rfl⟩ k1 k2;have ao:i<us.length:=(dI.mp J).1;obtain⟨d,B⟩:∃d,b[i]?=some d:=⟨_,cY VF⟩
  obtain⟨v,ev,a4⟩:=hi.get B;rw[J]at ev;cases ev;obtain⟨z,h,rfl,a5,_⟩:=rp (u.all d (dN B));obtain⟨d',k,rfl⟩:=cP.mp a5;obtain⟨t,rfl,o⟩:=BI a4;have a6:=wB g.nd k;have a7:=CU g.nd k;refine⟨_,O,p,dx,_,O,a2,a3 _ VE VE,_,O,t,_,0,_,O,O,bY.of o,cE (j:=0) O,_,_,O,p,fs,N,d',O,O,L,k,λap a8=>?_⟩;obtain⟨n,a9,aa,c,r,aq,rfl,_,_,_,_,_,ac,_⟩:=jB (g.all d' k);obtain⟨t',ae,rfl,G,_⟩:=qi a8;obtain⟨af,ag⟩:=Qx ac;refine⟨_,O,t,_,1,.int h,O,O,bY.of o,cE (j:=1) O,_,_,O,t',n,a9,aa,c,r,h,ae,O,O,G,af,ag,k1 _ _ ⟨O,?_⟩⟩;rw[eL,B,dP,dP];have e:sX N (.tup [.str n,.int h])=r*(h-c):=by
   show sP N n*(h-lU N n)=_;rw[show lU N n=c from a6,show sP N n=r from a7]
  show _++[V.int _]=_++[V.int (sX N (.tup [.str n,.int h]))];rw[e]
 .rintro ys H' ⟨rfl,rfl⟩;intro p1 ah;rw[dY VF]at *;exact⟨p1,_,O,aT.of aV,gJ.of (iI.lst ah) q⟩
open Mt22 MtF
theorem PT{zs:List aA}{n:Int}(h1:1<=zs.length)(h2:(zs.length:Int)<=n):ra n (.lst (zs.map aH.str))=aC:=by
 unfold ra;simp only[aS];rw[decide_eq_true VF,decide_eq_true VF];rfl
inductive Ig(C:aB)(x y:V)(H:aD)(Q:aP):Prop
 |mk:∀(p l:aB)(fs N:List aH)(zs:List aA),x=.ref p->eZ C H p fs N->y=.ref l->H l=some (.lst (zs.map V.str))->1<=zs.length->zs.Nodup->(∀z∈zs,z∈fs.map aN)->(∀H',aM H H'->Q (.bl aC) H')->Ig C x y H Q
def DG(C:aB):cA:=gY (Ig C)
theorem Tf(T:Txt K mg C):bA P w K mg base 2 "are_some_fields" ["land","thing"] (DG C):=by
 refine T.Yn.fc vC iC (λ f a3 A outer s H vs Q E g h=>?_);obtain⟨x,y,rfl,p,l,fs,N,zs,rfl,L,rfl,J,M,n,sub,q⟩:=h;have a4:=gB;have U:=(iE L).1;have f2:=U.l2;have a5:zs.length<=fs.length:=by
  have:=vd n sub;rw[aS] at this;exact this
 obtain⟨dx,a6,a7,c,_⟩:=L.ex;refine⟨_,(bB (cH (i:=2) vC.nd O (Or.inr O) (ki T.ad (rk T) (g.mono VD) (pv 0))) (bB (fD (gU.pt (ju (iF (fY (bZ (vE T) (g.mono VD) (aF (pv 1) (aF (dB (jt (K:=K) O) O T.q24 iD (aF (pv 2) aL)) aL))))) (kg (iF (fY (dB (o3 O) O T.q19 oZ (aF (fM ["name","names"] 1 [2] O (eV (pv 1)) (λ R=>dJ (i:=0) (VE:eG (["name","names"]:List aA)) O VG) (eN VD) (λ R=>gN) (λ R=>(bZ (rm T) (g.mono VD) (aF (pv 0) (aF (pv 1) aL))))) aL))))))) (bF (cJ m5)) fC) (bF (cJ (kv lx (dB call_len_set O T.q24 iD (aF (hU (zf O) O T.q30 z8 (aF (pv 1) aL)) aL)) (dB (jt (K:=K) O) O T.q24 iD (aF (pv 1) aL)) (eI _)))))),?_⟩;refine⟨_,O,p,dx,_,O,c,kM _ _ VE VE,_,O,p,fs,N,O,L,λ ln z r a8 t=>?_⟩;have d:=r _ _ J;refine⟨_,O,_,O,ln,_,O,.inl (aT.of t),_,_,O,.lst (zs.map aH.str),_,Ol d,O,_,O,?_⟩;rw[PT M (by rw[aS,aS];omega)];refine cG ?_;refine⟨_,O,l,O,⟨_,aT.of d⟩,?_⟩;refine fP (F:=K) (xs:=zs.map V.str) (by rw[aS];omega) (λ i ys H'=>z=H'/\ys=(zs.take i).map λ a=>V.bl aC) ⟨O,O⟩ ?_ ?_ ?_
 .rintro i ys H' a9 ⟨rfl,rfl⟩;exact⟨aT.of d,by rw[aS,dU];omega⟩
 .rintro i aa ys H' ac ae c ⟨rfl,rfl⟩ k1 k2;obtain⟨a,j⟩:∃ a,zs[i]?=some a:=by
   have:=(dI.mp c).1;rw[aS] at this;exact⟨_,cY this⟩
  rw[dO,j] at c;cases c;refine⟨_,O,_,O,_,_,O,.str a,ln,_,O,O,aT.of t,?_⟩;rw[show eE (fs.map aN) (.str a)=aC from decide_eq_true (sub a (dN j))];refine k1 _ _ ⟨O,?_⟩;rw[eL,j,dP];rfl
 rintro ys H' ⟨rfl,rfl⟩;rw[aS,dY (bQ _)];intro Y a0;have u:=aM.upd (o:=.lst (zs.map λ a=>V.bl aC)) a0;refine⟨Y,zs.map λ_=>aC,O,aT.of ?_,_,O,?_⟩
 .rw[aV,fS];rfl
 rw[show (zs.map λ_=>aC).all id=aC from j9.mpr λ b m=>by obtain⟨a,_,rfl⟩:=cP.mp m;rfl];refine cG ?_;have k:=u _ _ d;refine⟨_,O,l,zs.map Sum.inr,O,aT.of (by rw[k,yf]),by rw[aS];omega,λ a1 B=>?_⟩;have a2:=yn (zs.map (Sum.inr:aA->aW));rw[aS] at a2;refine⟨a1,_,_,O,aV,VF,_,O,l,zs.map V.str,O,.inl (aT.of (by rw[bD (dC k B)];exact k)),O,?_⟩;have e:decide (V.int ((my (zs.map (Sum.inr:aA->aW))).length:Int)=V.int ((zs.map V.str).length:Int))=aC:=by
  rw[nG,aS,(z4 _).mpr ((n7 zs).mpr n),aS]
  first | exact decide_eq_true O | exact beq_self_eq_true _
 rw[e];exact q _ (r.trans (u.trans (aM.upd B)))
inductive Is(C:aB)(x y u:V)(H:aD)(Q:aP):Prop
 |mk:∀(p l:aB)(fs N:List aH)(zs:List aA)(L:Int),x=.ref p->eZ C H p fs N->y=.ref l->H l=some (.lst (zs.map V.str))->1<=zs.length->zs.Nodup->(∀z∈zs,z∈fs.map aN)->u=.int L->hgt L=aC->(∀H',aM H H'->Q .non H')->Is C x y u H Q
def rE(C:aB):cA:=kB (Is C)
theorem tc(T:Txt K mg C):bA P w K mg base 3 "check_wish" ["land","fields","height"] (rE C):=by
 refine T.Yr.fc FX k9 (λf m A outer s H vs Q E a h=>?_);obtain⟨x,y,u,rfl,p,l,fs,N,zs,b,rfl,L,rfl,e,g,i,sub,rfl,j,q⟩:=h;refine⟨_,(bF (fD (gU.pt (ju (iF (fY (bZ (Tf T) (a.mono VD) (aF (pv 0) (aF (pv 1) aL))))) (kg (iF (fY (bZ (p7 T) (a.mono VD) (aF (pv 2) aL))))))) (bF o1) fC)),?_⟩;refine⟨_,O,_,O,_,_,O,p,l,fs,N,zs,O,L,O,e,g,i,sub,λz k=>⟨_,O,cG ?_⟩⟩;refine⟨_,O,_,O,.int b,O,_,O,?_⟩;rw[show kY (.int b)=aC from j];exact cG (q z k)
open Mt31 Mt61
noncomputable def mw(fs:List aH)(L:Int)(a:aA):Bool:=decide (a="sea")||decide (wz fs a<L)
noncomputable def oY(L:Int):aH->cC
 |.tup [.str n,.str a,.str b,.int c,.int r,_]=>⟨n,a,b,r*(L-c)⟩
 |_=>⟨"","","",0⟩
noncomputable def n9(fs:List aH)(L:Int):aH->Bool
 |.tup [.str _,.str a,.str b,.int c,.int _,_]=>decide (c<L)&&(mw fs L a&&mw fs L b)
 |_=>aJ
def bU(fs N:List aH)(L:Int):List cC:=(N.filter (n9 fs L)).map (oY L)
def iS(G:List cC):List (aW×V):=G.map λg=>(Sum.inr g.nm,V.int g.cap)
theorem Eg(h:jj zs d=aC)(L:Int):(oY L d).nm=aN d:=by
 obtain⟨n,a,b,c,r,s,rfl,_⟩:=jB h;rfl
theorem rN(i:sE fs)(h:lO ("sea" :: fs.map aN) N)(L:Int):gM ("sea" :: fs.map aN) (bU fs N L):=by
 have j:∀g∈bU fs N L,∃d∈N,n9 fs L d=aC/\g=oY L d:=λg m=>by
  obtain⟨d,f,rfl⟩:=cP.mp m;rw[jD]at f;exact⟨d,f.1,f.2,O⟩
 refine⟨?_,λg m=>?_,λg m=>?_,?_,eJ⟩
 .have e:(bU fs N L).map (·.nm)=(N.filter (n9 fs L)).map aN:=by
   unfold bU;rw[fS];refine l4 λd f=>?_;exact Eg (h.all d (jD.mp f).1) L
  rw[e];exact eG.sublist (List.Sublist.map _ List.filter_sublist) h.nd
 .obtain⟨d,f,_,rfl⟩:=j g m;obtain⟨n,a,b,c,r,s,rfl,_,k,l,o,_⟩:=jB (h.all d f);exact⟨k,l,o⟩
 .obtain⟨d,f,p,rfl⟩:=j g m;obtain⟨n,a,b,c,r,s,rfl,_,k,l,o,w,q,_⟩:=jB (h.all d f);have h1:c<L:=of_decide_eq_true (iV.mp (show(decide (c<L)&&(mw fs L a&&mw fs L b))=aC from p)).1;have h2:0<=r:=by
   have:=iV.mp (show(decide (0<=r)&&decide (r<=1000000))=aC from q);exact of_decide_eq_true this.1
  show 0<=r*(L-c);exact Int.mul_nonneg h2 VF
 .rw[iL];refine⟨λm=>?_,i.nd⟩;obtain⟨d,f,e⟩:=cP.mp m;obtain⟨x,g,u,rfl,t,_⟩:=jc (i.all d f);exact yc t e
inductive HG(C:aB)(x y u:V)(H:aD)(Q:aP):Prop
 |mk:∀(p:aB)(fs N:List aH)(z:aA)(L:Int),x=.ref p->eZ C H p fs N->y=.str z->z∈(("sea":aA)::fs.map aN)->u=.int L->Q (.bl (mw fs L z)) H->HG C x y u H Q
def Ey(C:aB):cA:=kB (HG C)
theorem KO(T:Txt K mg C):bA P w K mg base 2 "is_low" ["land","side","height"] (Ey C):=by
 refine T.Yu.fc KH k9 (λf D A outer s H vs Q E n h=>?_);obtain⟨x,y,u,rfl,p,fs,N,i,j,rfl,L,rfl,o,rfl,q⟩:=h;obtain⟨dx,G,I,r,_⟩:=L.ex;have l:=(iE L).1;refine⟨_,(bF (cJ (EG (kv lx (pv 1) (lB T.q08) (eI _)) (jS (kv q8 (p3 T.ad (TY T) (n.mono VD) (pv 0) (aF (pv 1) aL)) (pv 2) (eI _)))))),?_⟩;refine⟨_,O,O,?_⟩;by_cases a:i="sea"
 .subst a;rw[decide_eq_true O];exact⟨_,O,cU q⟩
 .rw[decide_eq_false (λc=>a (V.str.inj c))];have t:i∈fs.map aN:=by
   rcases eM.mp o with h|h
   .exact absurd h a
   .exact h
  obtain⟨d,k,e⟩:=cP.mp t;obtain⟨b,g,u,rfl,J,_⟩:=jc (l.all d k);have z:b=i:=e;subst z;have B:wz fs b=g:=MK l.nd k;refine⟨_,O,cG ?_⟩;refine⟨_,O,p,dx,_,O,r,kM _ _ VE VE,_,O,_,_,O,p,fs,N,b,g,u,O,O,L,k,_,O,_,_,O,O,?_⟩;have:mw fs j b=decide (g<j):=by
   unfold mw;rw[decide_eq_false a,B];rfl
  show Q (V.bl (decide (g<j))) H;rw[←this];exact q
inductive Hv(C:aB)(x y u:V)(H:aD)(Q:aP):Prop
 |mk:∀(p:aB)(fs N:List aH)(d:aH)(L:Int),x=.ref p->eZ C H p fs N->bK H d y->d∈N->u=.int L->Q (.bl (n9 fs L d)) H->Hv C x y u H Q
def EA(C:aB):cA:=kB (Hv C)
theorem KP(T:Txt K mg C):bA P w K mg base 3 "is_gap" ["land","dyke","height"] (EA C):=by
 refine T.Yv.fc KI k9 (λf D A outer s H vs Q E i h=>?_);obtain⟨x,y,u,rfl,p,fs,N,d,e,rfl,L,k,l,rfl,q⟩:=h;have m:=(iE L).2;obtain⟨n,a,b,c,r,G,rfl,_,z,B,I,J,M,_⟩:=jB (m.all d l);obtain⟨t,U,rfl,o,Y⟩:=qi k;refine⟨_,(bF (cJ (jh (kv q8 (cF (cR (K:=K) O) (pv 1) aQ (λ_ _=>O)) (pv 2) (eI _)) (jh (bZ (KO T) (i.mono VD) (aF (pv 0) (aF (cF (cR (K:=K) O) (pv 1) aQ (λ_ _=>O)) (aF (pv 2) aL)))) (jS (bZ (KO T) (i.mono VD) (aF (pv 0) (aF (cF (cR (K:=K) O) (pv 1) aQ (λ_ _=>O)) (aF (pv 2) aL))))))))),?_⟩;refine⟨_,O,t,_,3,.int c,O,O,bY.of o,cE (j:=3) O,_,O,_,_,O,O,?_⟩;have q:Q (.bl (decide (c<e)&&(mw fs e a&&mw fs e b))) H:=q;refine⟨_,O,?_⟩;cases h1:decide (c<e) with
 |false=>
  rw[h1]at q;exact cG q
 |true=>
  rw[h1]at q;refine cU ?_;refine⟨_,O,_,O,t,_,1,.str a,O,O,bY.of o,cE (j:=1) O,_,O,_,_,_,O,p,fs,N,a,e,O,L,O,z,O,?_⟩;refine⟨_,O,?_⟩;cases h2:mw fs e a with
  |false=>
   rw[h2]at q;exact cG q
  |true=>
   rw[h2]at q;refine cU ?_;exact⟨_,O,_,O,t,_,2,.str b,O,O,bY.of o,cE (j:=2) O,_,O,_,_,_,O,p,fs,N,b,e,O,L,O,B,O,q⟩
theorem tw(G:List cC):(iS G).length=G.length:=aS _
theorem LK(G:List cC):(iS G).map (·.1)=(G.map (·.nm)).map Sum.inr:=by
 unfold iS;rw[fS,fS];rfl
theorem tG(fs N:List aH)(L:Int):(bU fs N L).length<=N.length:=by
 unfold bU;rw[aS];exact l3 _ _
inductive Hw(C:aB)(x y:V)(H:aD)(Q:aP):Prop
 |mk:∀(p:aB)(fs N:List aH)(L:Int),x=.ref p->eZ C H p fs N->y=.int L->(∀(cd:aB)(H':aD),aM H H'->H cd=aG->H' cd=some (.dK (iS (bU fs N L)))->Q (.ref cd) H')->Hw C x y H Q
def DK(C:aB):cA:=gY (Hw C)
theorem Jy(T:Txt K mg C):bA P w K mg base 4 "gap_coins" ["land","height"] (DK C):=by
 refine T.Yw.fc Uu iC (λf am A outer s H vs Q E u h=>?_);obtain⟨x,y,rfl,p,fs,N,e,rfl,L,rfl,q⟩:=h;have an:=gB;have a8:=(iE L).1;have z:=(iE L).2;have ao:=z.l2;have a9:=rN a8 z e;have ap:=tG fs N e;obtain⟨dx,aq,ar,aa,_⟩:=L.ex;refine⟨_,(bF (cJ (hU (n3 O) O T.q21 lS (aF (fM ["dyke","land","height"] 1 [0,1] O (eV (ki T.ad (Gf T) (u.mono VD) (pv 0))) (λR=>dJ (i:=0) (VE:eG (["dyke","land","height"]:List aA)) O VG) (eN VD) (λR=>ke (fY (bZ (KP T) (u.mono VD) (aF (pv 1) (aF (pv 0) (aF (pv 2) aL)))))) (λR=>(jd (aF (cF (cR (K:=K) O) (pv 0) aQ (λ_ _=>O)) (aF (bZ (GZ T) (u.mono VD) (aF (pv 0) (aF (pv 2) aL))) aL))))) aL)))),?_⟩;refine⟨_,O,p,dx,_,O,aa,kM _ _ VE VE,_,O,p,fs,N,O,L,λac B H2 G as I J=>?_⟩;have au:B.length=N.length:=J.length;refine⟨ac,O,⟨_,aT.of I⟩,?_⟩;refine fP (F:=K) (xs:=B) VF (λi ys H'=>aM H2 H'/\gC H' ys (iS (bU fs (N.take i) e))) ⟨aM.refl _,gC.nil _⟩ ?_ ?_ ?_
 .rintro i ys H' av ⟨l,g⟩;have:=g.len;have:=tG fs (N.take i) e;rw[tw]at *;rw[dU]at this;exact⟨aT.of (l _ _ I),VF⟩
 .rintro i aw ys H' ax ay M ⟨l,g⟩ k1 k2;have az:i<B.length:=(dI.mp M).1;obtain⟨d,D⟩:∃d,N[i]?=some d:=⟨_,cY VF⟩
  obtain⟨v,ev,ae⟩:=J.get D;rw[M]at ev;cases ev;have U:=dN D;have Y:=bK.same l _ _ ae;refine⟨_,O,_,O,_,O,_,_,_,O,p,fs,N,d,e,O,L.same (G.trans l),Y,U,O,_,O,?_⟩;have m:bU fs (N.take (i+1)) e=bU fs (N.take i) e++(if n9 fs e d=aC then [oY e d] else []):=by
   unfold bU;rw[eL,D,lE,dP];cases h:n9 fs e d<;>simp[h]
  cases a0:n9 fs e d with
  |false=>
   rw[a0]at m;refine cG (k2 _ ⟨l,?_⟩);rw[m];simpa using g
  |true=>
   rw[a0]at m;refine cU ?_;obtain⟨n,a,b,c,r,af,rfl,_,aR,b0,b1,b2,ag,_⟩:=jB (z.all d U);obtain⟨t,ah,rfl,o,b3⟩:=qi Y;have h2:=iV.mp (show(decide (0<=r)&&decide (r<=1000000))=aC from ag);refine⟨_,O,t,_,0,.str n,O,O,bY.of o,cE (j:=0) O,_,O,_,O,_,_,O,t,n,a,b,c,r,e,ah,O,O,o,of_decide_eq_true h2.1,of_decide_eq_true h2.2,cQ O,λb4 a1=>k1 _ _ ⟨l.trans (aM.upd a1),?_⟩⟩;rw[m];have ai:iS (bU fs (N.take i) e++[oY e (.tup [.str n,.str a,.str b,.int c,.int r,af])])=iS (bU fs (N.take i) e)++[(Sum.inr n,V.int (r*(e-c)))]:=by
    unfold iS;rw[dP];rfl
   rw[if_pos O,ai];exact gC.snoc (k:=Sum.inr n) g a1
 rintro ys b5 ⟨aj,g⟩;rw[dY VF]at g;intro ak al;have a2:=aM.upd (o:=.lst ys) al;refine⟨ak,ys,iS (bU fs N e),O,aT.of aV,g.same a2,by rw[tw];omega,by rw[LK];exact(n7 _).mpr a9.nd,λcd a3=>?_⟩;have a4:=G.trans (aj.trans a2);exact q cd _ (a4.trans (aM.upd a3)) (a4.free a3) aV
theorem LN(h:jj zs d=aC):mU d=aC:=by
 obtain⟨n,a,b,c,r,s,rfl,_,_,_,_,_,_,e⟩:=jB h;cases s with
 |non=>rfl
 |int i=>rfl
 |_=>cases e
theorem oW(s:Mt22.St):mU (gH s)=aC:=rfl
theorem CG(h:m8 H g fs)(l:H d=some (.dK J))(m:∀v∈J.map (·.2),∀a,v≠.ref a)(n:1<=fs.length)(p:∀f∈fs,∃us,f=.tup us)(q:on fs=aC):m8 (aI H d (.frz o (.dK J))) g fs:=by
 obtain⟨s,e,k,i⟩:=h;have t:g≠d:=λc=>by
  rw[c,l]at e;cases e;cases fs with
  |nil=>exact absurd n VD
  |cons f fs=>
   obtain⟨us,rfl⟩:=p f eJ;obtain⟨v,r,ev,⟨a,w,ea,_⟩,_⟩:=i;exact m v (by rw[ev];exact eJ) a ea
 refine⟨s,by rw[bD t];exact e,k,IsL.keep (λb xs j=>?_) fs _ q i⟩;rw[bD (λc=>by rw[c,l]at j;cases j)];exact j
theorem NC(L:eZ C H x fs N)(h:H d=some (.dK J))(k:∀v∈J.map (·.2),∀a,v≠.ref a):eZ C (aI H d (.frz o (.dK J))) x fs N:=by
 obtain⟨i,j⟩:=iE L;obtain⟨⟨dx,l,p,e,q,t⟩,a,b⟩:=L;refine⟨⟨dx,l,p,by rw[bD (λc=>by rw[c,h]at e;cases e)];exact e,CG q h k i.l1 (λf m=>?_) (lT λf m=>?_),CG t h k j.l1 (λf m=>?_) (lT λd m=>LN (j.all d m))⟩,a,b⟩
 .obtain⟨u,g,e,rfl,_⟩:=jc (i.all f m);exact⟨_,O⟩
 .obtain⟨u,g,e,rfl,_⟩:=jc (i.all f m);rfl
 .obtain⟨n,a,b,c,r,s,rfl,_⟩:=jB (j.all f m);exact⟨_,O⟩
theorem Cv(b:lO zs N)(m:g∈bU fs N L):∃d∈N,n9 fs L d=aC/\g=oY L d/\aN d=g.nm:=by
 obtain⟨d,a,rfl⟩:=cP.mp m;rw[jD]at a;exact⟨d,a.1,a.2,O,(Eg (b.all d a.1) L).symm⟩
theorem vV(G:List cC):(Mt61.lb G).length=2*G.length:=by
 unfold Mt61.lb
 induction G with
 |nil=>rfl
 |cons g G a=>
  rw[xt,eW,a];show 2+2*G.length=2*(G.length+1);omega
theorem AL(h:H t=some (.tup [.str s.nm,.str s.near,.str s.far,.int s.h])):bK H (gH s) (.ref t):=⟨t,_,O,h,_,_,O,O,_,_,O,O,_,_,O,O,_,_,O,O,O⟩
inductive Ii(C:aB)(x y:V)(H:aD)(Q:aP):Prop
 |mk:∀(p d:aB)(fs N:List aH)(L:Int),x=.ref p->eZ C H p fs N->y=.ref d->H d=some (.dK (iS (bU fs N L)))->(∀(o:aY)(l:aB)(us:List V)(H':aD),aM (aI H d (.frz o (.dK (iS (bU fs N L))))) H'->H l=aG->H' l=some (.lst us)->IsL H' ((Mt61.lb (bU fs N L)).map gH) us->Q (.ref l) H')->Ii C x y H Q
def BM(C:aB):cA:=gY (Ii C)
theorem Ug(T:Txt K mg C):bA P w K mg base 2 "steps_over" ["land","names"] (BM C):=by
 refine T.Yx.fc vD iC (λf b9 A outer s H vs Q E aw h=>?_);obtain⟨x,y,rfl,p,d,fs,N,k,rfl,L,rfl,a1,q⟩:=h;have ba:=gB;have ax:=(iE L).1;have G:=(iE L).2;have bb:=G.l2;have bc:=rN ax G k;have bd:=tG fs N k;refine⟨_,(bB (cH (i:=2) vD.nd O VG (eA aL)) (bB (k4 kt O (wO (pv 1)) (dJ (i:=3) vD.nd O VG) (bB (cH (i:=4) vD.nd O VG (p3 T.ad (y9 T) (aw.mono VD) (pv 0) (aF (pv 3) aL))) (bB (jK (k7 lg nb m9 nC (pv 2) (aF (jd (aF (pv 3) (aF (cF (cR (K:=K) O) (pv 4) aQ (λ_ _=>O)) (aF (cF (cR (K:=K) O) (pv 4) aQ (λ_ _=>O)) (aF aQ aL))))) aL))) (bF (jK (k7 lg nb m9 nC (pv 2) (aF (jd (aF (pv 3) (aF (cF (cR (K:=K) O) (pv 4) aQ (λ_ _=>O)) (aF (cF (cR (K:=K) O) (pv 4) aQ (λ_ _=>O)) (aF (yO yq aQ) aL))))) aL))))))) (bF (cJ (pv 2))))),?_⟩;refine⟨cQ O,λl I=>?_⟩;have ay:=aM.upd (o:=.lst []) I;have a2:d≠l:=dC a1 I;refine⟨_,O,d,_,O,by rw[bD a2];exact a1,λo=>?_⟩;have az:∀v∈(iS (bU fs N k)).map (·.2),∀a,v≠.ref a:=λv m a e=>by
  obtain⟨af,mk,rfl⟩:=cP.mp m;obtain⟨g,_,rfl⟩:=cP.mp mk;cases e
 have ag:eZ C (aI H d (.frz o (.dK (iS (bU fs N k))))) p fs N:=NC L a1 az;have a3:aI H d (.frz o (.dK (iS (bU fs N k)))) l=aG:=by rw[bD (Ne.symm a2)];exact I
 have a4:aM (aI H d (.frz o (.dK (iS (bU fs N k))))) (aI (aI H l (.lst [])) d (.frz o (.dK (iS (bU fs N k))))):=λb u e=>by
  by_cases ah:b=d
  .subst ah;rw[aV]at e ⊢;exact e
  .rw[bD ah]at e ⊢;exact ay _ _ e
 have ai:aI (aI H l (.lst [])) d (.frz o (.dK (iS (bU fs N k)))) l=some (.lst []):=by rw[bD (Ne.symm a2),aV]
 have aj:=λus H'=>q o l us H';have ak:aI H d (.frz o (.dK (iS (bU fs N k)))) d=some (.frz o (.dK (iS (bU fs N k)))):=aV;generalize aI (aI H l (.lst [])) d (.frz o (.dK (iS (bU fs N k))))=H2 at a4 ai;generalize aI H d (.frz o (.dK (iS (bU fs N k))))=H0 at ag a3 a4 aj ak;refine xY (λi Y H'=>∃(a5 a6:Option V)(us:List V),Y=[some (.ref p),some (.ref d),some (.ref l),a5,a6]/\aM H0 H'/\H' l=some (.lst us)/\IsL H' ((Mt61.lb ((bU fs N k).take i)).map gH) us) ⟨_,_,[],O,a4,ai,O⟩ (λi Y H' _ ⟨_,_,_,_,z,_⟩=>z _ _ ak) ?_ ?_
 .rintro i af Y H' a7 ⟨a5,a6,us,rfl,z,J,B⟩;unfold iS at a7;rw[dO]at a7;obtain⟨g,a8,aR⟩:=kD.mp a7;have be:=(dI.mp a8).1;have b0:=dN a8;obtain⟨a9,al,bf,rfl,bg⟩:=Cv G b0;have am:=ag.same z;obtain⟨dx,bh,bi,b1,_⟩:=am.ex;have b2:=B.length;rw[aS,vV,dU]at b2;have b3:Mt61.lb ((bU fs N k).take (i+1))=Mt61.lb ((bU fs N k).take i)++[up (oY k a9),dn (oY k a9)]:=by
   unfold Mt61.lb;rw[eL,a8,List.flatMap_append];rfl
  obtain⟨n,a,b,c,r,bj,rfl,_⟩:=jB (G.all a9 al);have b4:kV af.1=V.str n:=by rw[←aR];rfl
  rw[b4];refine⟨_,O,p,dx,_,O,b1,kM _ _ VE VE,_,O,_,_,O,p,fs,N,_,O,O,am,al,λv b5=>?_⟩;obtain⟨t,bk,rfl,aa,bl⟩:=qi b5;refine⟨_,O,.inl ⟨O,_,aT.of J⟩,_,O,_,O,t,_,1,.str a,O,O,bY.of aa,cE (j:=1) O,_,O,t,_,2,.str b,O,O,bY.of aa,cE (j:=2) O,cQ O,λM b6=>?_⟩;have D:=aM.upd (o:=.tup [.str n,.str a,.str b,.int 1]) b6;have an:aI H' M (.tup [.str n,.str a,.str b,.int 1]) M=_:=aV;generalize aI H' M (.tup [.str n,.str a,.str b,.int 1])=U at D an;have ao:=D _ _ J;refine⟨l,us,.ref M,O,O,ao,VF,?_⟩;have KT:=iU.lst (o:=.lst (us++[.ref M])) ao;have ap:aM H0 (aI U l (.lst (us++[.ref M]))):=(z.trans D).over a3;have ac:aI U l (.lst (us++[.ref M])) l=some (.lst (us++[.ref M])):=aV;have aq:IsL (aI U l (.lst (us++[.ref M]))) ((Mt61.lb ((bU fs N k).take i)).map gH++[gH (up ⟨n,a,b,r*(k-c)⟩)]) (us++[.ref M]):=by
   refine IsL.keep KT _ _ (lT λd m=>?_) (IsL.snoc (AL an) (IsL.same D _ _ B));rcases gQ.mp m with m|m
   .obtain⟨s,_,rfl⟩:=cP.mp m;exact oW s
   .rw[fG.mp m];exact oW _
  have ae:=KT _ _ (D _ _ aa);generalize aI U l (.lst (us++[.ref M]))=ar at ap ac aq ae;refine⟨_,O,.inl ⟨O,_,aT.of ac⟩,_,O,_,O,t,_,2,.str b,O,O,bY.of ae,cE (j:=2) O,_,O,t,_,1,.str a,O,O,bY.of ae,cE (j:=1) O,_,O,cQ O,λtb b7=>?_⟩;have a0:=aM.upd (o:=.tup [.str n,.str b,.str a,.int (-1)]) b7;have as:aI ar tb (.tup [.str n,.str b,.str a,.int (-1)]) tb=_:=aV;generalize aI ar tb (.tup [.str n,.str b,.str a,.int (-1)])=bm at a0 as;have au:=a0 _ _ ac;refine⟨l,us++[.ref M],.ref tb,O,O,au,by rw[eW];show _+1<_;omega,?_⟩;have b8:=iU.lst (o:=.lst (us++[.ref M]++[.ref tb])) au;refine⟨_,_,us++[.ref M]++[.ref tb],O,(ap.trans a0).over a3,aV,?_⟩;rw[b3,dP];show IsL _ (_++[gH (up ⟨n,a,b,r*(k-c)⟩),gH (dn ⟨n,a,b,r*(k-c)⟩)]) _;rw[show ∀(xs:List aH)(p q:aH),xs++[p,q]=xs++[p]++[q] from λxs p q=>by simp];refine IsL.keep b8 _ _ (lT λd m=>?_) (IsL.snoc (AL (s:=dn ⟨n,a,b,r*(k-c)⟩) as) (IsL.same a0 _ _ aq));rcases gQ.mp m with m|m
  .rcases gQ.mp m with m|m
   .obtain⟨s,_,rfl⟩:=cP.mp m;exact oW s
   .rw[fG.mp m];exact oW _
  .rw[fG.mp m];exact oW _
 .rintro Y H' ⟨a5,a6,us,rfl,z,J,B⟩;rw[tw,dY (bQ _)]at B;exact⟨_,O,aj us H' z I J B⟩
def nU(H:aD)(o:Option Mt22.St)(v:V):Prop:=match o with
 |none=>v=.non
 |some s=>bK H (gH s) v
theorem nU.same(S:aM H H')(h:nU H o v):nU H' o v:=by
 cases o with
 |none=>exact h
 |some s=>exact bK.same S _ _ h
theorem nU.keep(S:iU H H')(h:nU H o v):nU H' o v:=by
 cases o with
 |none=>exact h
 |some s=>exact bK.keep S _ _ (oW s) h
structure jG (H:aD) (J:List (aW×V)) (cm:gL):Prop where
 len:J.length=cm.length
 at':∀(i:Nat)(z:aA)(o:Option Mt22.St),cm[i]?=some (z,o)->∃v,J[i]?=some (Sum.inr z,v)/\nU H o v
theorem jG.keys(h:jG H J a):J.map (·.1)=(Mt31.keys a).map Sum.inr:=by
 apply List.ext_getElem?;intro i;unfold Mt31.keys;rw[dO,dO,dO];cases e:a[i]? with
 |none=>
  rw[List.getElem?_eq_none_iff]at e;rw[xc (by rw[h.len];exact e)];rfl
 |some x=>
  obtain⟨b,o⟩:=x;obtain⟨v,ev,_⟩:=h.at' i b o e;rw[ev];rfl
theorem jG.same(S:aM H H')(h:jG H J a):jG H' J a:=
 ⟨h.len,λi b o e=>by obtain⟨v,d,c⟩:=h.at' i b o e;exact⟨v,d,c.same S⟩⟩
theorem jG.keep(S:iU H H')(h:jG H J a):jG H' J a:=
 ⟨h.len,λi b o e=>by obtain⟨v,d,c⟩:=h.at' i b o e;exact⟨v,d,c.keep S⟩⟩
theorem BK{f:Type}[DecidableEq f]:∀{J:List (f×V)} {i:Nat} {k:f} {v:V},(J.map (·.1)).Nodup->J[i]?=some (k,v)->fE J k=some v
 |p::r,0,k,v,a,e=>by cases e;exact rB O
 |p::r,i+1,k,v,a,e=>by
  rw[dW,iL]at a;have b:r[i]?=some (k,v):=e;rw[rC (λc=>a.1 (by rw[c];exact cP.mpr ⟨_,dN b,O⟩))];exact BK a.2 b
theorem Lw{zs:List aA}(h:zs.Nodup):(zs.map (Sum.inr:aA->aW)).Nodup:=(n7 zs).mpr h
theorem jG.val{H:aD}{S:List Mt22.St}{J:List (aW×V)}{a:gL}(h:jG H J a)(c:tX S a){i:Nat}{b:aA}{o:Option Mt22.St}(e:a[i]?=some (b,o)):∃v,fE J (Sum.inr b)=some v/\nU H o v:=by
 obtain⟨v,ev,d⟩:=h.at' i b o e;exact⟨v,BK (by rw[h.keys];exact Lw c.nd) ev,d⟩
theorem jG.none(h:jG H J b)(n:¬a∈Mt31.keys b):fE J (Sum.inr a)=aG:=by
 cases e:fE J (Sum.inr a) with
 |none=>rfl
 |some v=>
  have:=Oa e;rw[h.keys]at this;obtain⟨y,c,d⟩:=cP.mp this;cases d;exact absurd c n
theorem jG.some(h:jG H J b)(n:a∈Mt31.keys b):(fE J (Sum.inr a)).isSome=aC:=by
 cases e:fE J (Sum.inr a) with
 |some v=>rfl
 |none=>
  have:=MY e;rw[h.keys]at this;exact absurd (cP.mpr ⟨a,n,O⟩) this
theorem Sf(x:V)(r:List V):seqIndex? 0 (x::r).length=some 0:=by
 rw[hJ];unfold seqIndex?;simp;try omega
theorem rD(h:bK H (gH s) v):∃t,v=.ref t/\H t=some (.tup [.str s.nm,.str s.near,.str s.far,.int s.h]):=by
 obtain⟨t,us,rfl,o,a,l,rfl,b,c,m,rfl,d,e,n,rfl,f,g,i,rfl,j,k⟩:=h;cases(show i=[] from k);cases(show a=_ from b);cases(show c=_ from d);cases(show e=_ from f);cases(show g=_ from j);exact⟨t,O,o⟩
theorem qq(a b:aA):decide (V.str a=V.str b)=decide (a=b):=by
 by_cases h:a=b
 .subst h;simp
 .rw[decide_eq_false h,decide_eq_false (λc=>h (by cases c;rfl))]
inductive Ih(x y:V)(H:aD)(Q:aP):Prop
 |mk:∀(ls lt:aB)(us:List V)(S:List Mt22.St)(zs V0:List aA),x=.ref ls->y=.ref lt->zs.Nodup->(∀z∈zs,z∈V0)->H ls=some (.lst (zs.map V.str))->H lt=some (.lst us)->IsL H (S.map gH) us->S.length<=80->V0.length<=13->(∀s∈S,s.far∈V0)->(∀(d:aB)(cm:gL)(J:List (aW×V))(H':aD),aM H H'->H d=aG->H' d=some (.dK J)->jG H' J cm->jy zs S cm->mz S cm cm.length->cm.length<=13->Q (.ref d) H')->Ih x y H Q
def zN:cA:=gY (Ih)
theorem IV(T:Txt K mg C):bA P w K mg base 1 "spread" ["starts","steps"] zN:=by
 refine T.Yp.fc tm iC (λf cf A outer s H vs Q E br h=>?_);obtain⟨x,y,rfl,aa,lt,us,S,zs,ah,rfl,rfl,ai,az,aj,aR,b0,cg,ch,bs,q⟩:=h;have ci:zs.length<=13:=by have:=vd ai az;omega
 have cj:=gB;have b1:=j7 br;have bt:=b0.length;rw[aS]at bt;have lcm:∀g:gL,jy zs S g->(∀l∈keys g,l∈ah)->g.length<=13:=λg c sub=>by
  have:=vd c.nd sub;unfold keys at this;rw[aS]at this;omega
 refine⟨_,(bB (cH (i:=2) tm.nd O VG (hU (n3 O) O T.q21 lS (aF (fM ["side"] 1 [] O (eV (pv 0)) (λR=>dJ (i:=0) (VE:eG (["side"]:List aA)) O VG) (eN VD) (λR=>gN) (λR=>(jd (aF (pv 0) (aF jp aL))))) aL))) (bB (cH (i:=3) tm.nd O VG (hU (zg (K:=K) O) O T.q25 kW (aF (pv 0) aL))) (bB (wu kt (yA (pv 3)) (bB (cH (i:=4) tm.nd O VG (k7 lg PySem.F.slot_list_pop PySem.F.type_list_pop Cn (pv 3) (aF aQ aL))) (bF (k4 kt O (eV (pv 1)) (dJ (i:=5) tm.nd O VG) (bF (fD (gU.pt (u9 (eU lx (cF (cR (K:=K) O) (pv 5) aQ (λ_ _=>O)) (pv 4) (eI _)) (wN (va (AX b1 (cF (cR (K:=K) O) (pv 5) aQ (λ_ _=>O)) (pv 2)))))) (bB (ye b1 (pv 2) (cF (cR (K:=K) O) (pv 5) aQ (λ_ _=>O)) (pv 5) O) (bF (jK (k7 lg nb m9 nC (pv 3) (aF (cF (cR (K:=K) O) (pv 5) aQ (λ_ _=>O)) aL))))) fC)))))) (bF (cJ (pv 2)))))),?_⟩;refine⟨_,O,aa,O,⟨_,aT.of aj⟩,?_⟩;refine fP (F:=K) (xs:=zs.map V.str) (by rw[aS];omega) (λi ys H'=>aM H H'/\gC H' ys ((zs.take i).map λl=>((Sum.inr l,.non):aW×V))) ⟨aM.refl _,gC.nil _⟩ ?_ ?_ ?_
 .rintro i ys H' ck ⟨a4,U⟩;have:=U.len;rw[aS,dU]at this;exact⟨aT.of (a4 _ _ aj),VF⟩
 .rintro i bu ys H' cm cn b2 ⟨a4,U⟩ k1 k2;rw[dO]at b2;obtain⟨l,ak,rfl⟩:=kD.mp b2;refine⟨_,O,cQ O,λco b3=>k1 _ _ ⟨a4.trans (aM.upd b3),?_⟩⟩;rw[eL,ak,dP];exact gC.snoc (k:=Sum.inr l) U b3
 rintro ys z ⟨b4,U⟩;rw[aS,dY (bQ _)]at U;intro a5 bv;have al:=aM.upd (o:=.lst ys) bv;have bw:(zs.map λl=>((Sum.inr l,.non):aW×V)).map (·.1)=zs.map Sum.inr:=by rw[fS];rfl
 refine⟨a5,ys,zs.map λl=>((Sum.inr l,.non):aW×V),O,aT.of aV,U.same al,by rw[aS];omega,by rw[bw];exact(n7 zs).mpr ai,λd b5=>?_⟩;have bx:=aM.upd (o:=.dK (zs.map λl=>((Sum.inr l,.non):aW×V))) b5;have am:=b4.trans (al.trans bx);have b6:=(b4.trans al).free b5;refine⟨_,O,aa,_,O,.inl (aT.of (am _ _ aj)),λlw an=>?_⟩;have b7:=aM.upd (o:=.lst (zs.map V.str)) an;have b8:=am.trans b7;have b9:aI (aI (aI z a5 (.lst ys)) d (.dK (zs.map λl=>((Sum.inr l,.non):aW×V)))) lw (.lst (zs.map V.str)) d=some (.dK (zs.map λl=>((Sum.inr l,.non):aW×V))):=b7 _ _ aV;have ba:aI (aI (aI z a5 (.lst ys)) d (.dK (zs.map λl=>((Sum.inr l,.non):aW×V)))) lw (.lst (zs.map V.str)) lw=some (.lst (zs.map V.str)):=aV;have bb:=am.free an;have ao:d≠lw:=dC (show aI (aI z a5 (.lst ys)) d (.dK (zs.map λl=>((Sum.inr l,.non):aW×V))) d=some _ from aV) an;generalize aI (aI (aI z a5 (.lst ys)) d (.dK (zs.map λl=>((Sum.inr l,.non):aW×V)))) lw (.lst (zs.map V.str))=bz at b8 b9 ba;have bM:jy zs S (zs.map λl=>(l,aG)):=jy.init S ai;have bc:keys (zs.map λl=>((l,aG):aA×Option Mt22.St))=zs:=by unfold keys;rw[fS];exact uS _
 have k0:jG bz (zs.map λl=>((Sum.inr l,.non):aW×V)) (zs.map λl=>(l,aG)):=⟨by rw[aS,aS],λi l o e=>by
  rw[dO]at e;obtain⟨cp,ak,bO⟩:=kD.mp e;cases bO;exact⟨.non,by rw[dO,ak];rfl,O⟩⟩
 refine wm (λY H'=>∃(bd ac:Option V)(p:Nat)(g:gL)(J:List (aW×V)),Y=[some (.ref aa),some (.ref lt),some (.ref d),some (.ref lw),bd,ac]/\aM H H'/\H' d=some (.dK J)/\jG H' J g/\jy zs S g/\(∀l∈keys g,l∈ah)/\p<=g.length/\H' lw=some (.lst (((keys g).drop p).map V.str))/\mz S g p)
  (λ_ H'=>match H' d,H' lw with|some (.dK J),some (.lst bR)=>14-(J.length-bR.length)|_,_=>0) ⟨_,_,0,zs.map λl=>(l,aG),_,O,b8,b9,k0,bM,(λl m=>by rw[bc]at m;exact az l m),jo _,by rw[bc,uH];exact ba,(λi u hi=>absurd hi VF)⟩ ?_ ?_
 .rintro Y a6 ⟨bd,ac,p,g,J,rfl,be,ap,aq,c,sub,cq,a0,op⟩;have bV:=lcm g c sub;refine⟨_,O,lw,_,O,aT.of a0,?_⟩;have cr:(keys g).length=g.length:=by unfold keys;rw[aS]
  by_cases cs:p<g.length
  .obtain⟨u,ar⟩:∃u,(keys g)[p]?=some u:=⟨_,cY VF⟩
   have bW:(keys g).drop p=u::(keys g).drop (p+1):=by
    obtain⟨h1,h2⟩:=dI.mp ar;rw[←h2];exact(List.getElem_cons_drop h1).symm
   rw[bW]at a0 ⊢;refine cU ?_;refine⟨_,O,.inl ⟨O,_,aT.of a0⟩,lw,_,0,0,.str u,O,O,a0,VD,VD,Sf _ _,O,?_⟩;have bf:aI a6 lw (.lst (((u::(keys g).drop (p+1)).map V.str).eraseIdx 0)) lw=some (.lst (((keys g).drop (p+1)).map V.str)):=aV;have bg:aI a6 lw (.lst (((u::(keys g).drop (p+1)).map V.str).eraseIdx 0)) d=some (.dK J):=by rw[bD ao];exact ap
   have bh:=aq.keep (iU.lst (o:=.lst (((u::(keys g).drop (p+1)).map V.str).eraseIdx 0)) a0);have as:aM H (aI a6 lw (.lst (((u::(keys g).drop (p+1)).map V.str).eraseIdx 0))):=be.over bb;generalize aI a6 lw (.lst (((u::(keys g).drop (p+1)).map V.str).eraseIdx 0))=ct at bf bg bh as;refine⟨_,O,lt,O,⟨_,aT.of (as _ _ aR)⟩,wA (K:=K) (a:=lt) (xs:=us)
    (λj Y H'=>∃(ac:Option V)(n:gL)(J:List (aW×V)),Y=[some (.ref aa),some (.ref lt),some (.ref d),some (.ref lw),some (.str u),ac]/\aM H H'/\H' d=some (.dK J)/\jG H' J (g++n)/\jy zs S (g++n)/\(∀l∈keys (g++n),l∈ah)/\H' lw=some (.lst (((keys (g++n)).drop (p+1)).map V.str))/\mz S (g++n) p/\∀s∈S.take j,s.near=u->s.far∈keys (g++n))
    ⟨_,[],J,O,as,bg,by rw[kG];exact bh,by rw[kG];exact c,by rw[kG];exact sub,by rw[kG];exact bf,by rw[kG];exact op,(λs m=>by cases m)⟩ (λj Y H' _ ⟨_,_,_,_,a4,_⟩=>aT.of (a4 _ _ aR)) ?_ ?_⟩
   .rintro j bu Y I bi ⟨c0,n,r,rfl,a1,L,D,M,N,a2,a7,a3⟩;have cu:j<us.length:=(dI.mp bi).1;obtain⟨st,es⟩:∃st,S[j]?=some st:=⟨_,cY VF⟩
    obtain⟨v,ev,c1⟩:=b0.get (show(S.map gH)[j]?=some (gH st) by rw[dO,es];rfl);rw[bi]at ev;cases ev;have a8:=dN es;obtain⟨t,rfl,o⟩:=rD c1;have ae:=a1 _ _ o;have au:S.take (j+1)=S.take j++[st]:=by rw[eL,es];rfl
    have c2:=lcm _ M N;have bj:(keys (g++n)).length=(g++n).length:=by unfold keys;rw[aS]
    have cv:(((keys (g++n)).drop (p+1)).map V.str).length<=13:=by rw[aS,nR];omega
    have c3:u∈keys (g++n):=by rw[rG];exact nO _ (dN ar)
    refine⟨_,O,t,_,1,.str st.near,O,O,bY.of ae,cE (j:=1) O,_,O,O,_,O,?_⟩;rw[qq];refine jO (λav=>?_) (λav=>?_)
    .have c4:st.near=u:=of_decide_eq_true av;refine⟨_,O,t,_,2,.str st.far,O,O,bY.of ae,cE (j:=2) O,_,O,d,_,O,.inl ⟨r,Sum.inr st.far,.inl L,O,O⟩,_,O,?_⟩;by_cases af:st.far∈keys (g++n)
     .rw[D.some af];refine cG ⟨_,n,r,O,a1,L,D,M,N,a2,a7,λs m B=>?_⟩;rw[au]at m;rcases gQ.mp m with m|m
      .exact a3 s m B
      .rw[fG.mp m];exact af
     .have bk:=D.none af;rw[bk];refine cU ?_;have c5:r.length<dH:=by rw[D.len];omega
      refine⟨_,O,_,O,_,O,t,_,2,.str st.far,O,O,bY.of ae,cE (j:=2) O,d,_,O,.inl ⟨r,Sum.inr st.far,L,O,c5,O⟩,?_⟩;rw[Cf _ bk];have bl:iU I (aI I d (.dK (r++[(Sum.inr st.far,.ref t)]))):=λb ys e=>by
       rw[bD (λc6=>by rw[c6,L]at e;cases e)];exact e
      have ag:aI I d (.dK (r++[(Sum.inr st.far,.ref t)])) lw=some (.lst (((keys (g++n)).drop (p+1)).map V.str)):=by rw[bD (Ne.symm ao)];exact a2
      have aw:aI I d (.dK (r++[(Sum.inr st.far,.ref t)])) t=some (.tup [.str st.nm,.str st.near,.str st.far,.int st.h]):=bl _ _ ae;have bm:aI I d (.dK (r++[(Sum.inr st.far,.ref t)])) d=some (.dK (r++[(Sum.inr st.far,.ref t)])):=aV;have bn:aM H (aI I d (.dK (r++[(Sum.inr st.far,.ref t)]))):=a1.over b6;have bo:=D.keep bl;generalize aI I d (.dK (r++[(Sum.inr st.far,.ref t)]))=cw at ag aw bm bn bo;refine⟨_,O,.inl ⟨O,_,aT.of ag⟩,_,O,t,_,2,.str st.far,O,O,bY.of aw,cE (j:=2) O,lw,_,.str st.far,O,O,ag,VF,?_⟩;have bp:=iU.lst (o:=.lst (((keys (g++n)).drop (p+1)).map V.str++[.str st.far])) ag;have bq:=M.snoc a8 (by rw[c4];exact c3) af;rw[nc]at bq;have ax:keys (g++(n++[(st.far,some st)]))=keys (g++n)++[st.far]:=by rw[←nc,rG];rfl
      refine⟨_,n++[(st.far,some st)],r++[(Sum.inr st.far,.ref t)],O,bn.over bb,by rw[bD ao];exact bm,?_,bq,?_,?_,?_,?_⟩
      .rw[←nc];have a9:=bo.keep bp;refine⟨by rw[eW,eW,a9.len];rfl,λi l G e=>?_⟩;by_cases hi:i<(g++n).length
       .rw[nN hi]at e;obtain⟨v,ev,c7⟩:=a9.at' i l G e;exact⟨v,by rw[nN (by rw[a9.len];exact hi)];exact ev,c7⟩
       .have c8:=(dI.mp e).1;rw[eW]at c8;have cx:([(st.far,some st)]:gL).length=1:=O;have ay:i=(g++n).length:=VF;subst ay;rw[qz (bQ _),Nat.sub_self]at e;cases e;refine⟨.ref t,by rw[qz (by rw[a9.len];exact bQ _),a9.len,Nat.sub_self];rfl,?_⟩;exact⟨t,_,O,bp _ _ aw,_,_,O,O,_,_,O,O,_,_,O,O,_,_,O,O,O⟩
      .intro l m;rw[ax]at m;rcases gQ.mp m with m|m
       .exact N l m
       .rw[fG.mp m];exact bs st a8
      .rw[aV,ax,List.drop_append_of_le_length (by rw[bj,eW];omega),dP];rfl
      .rw[←nc];exact a7.snoc (by rw[eW];omega) _
      .intro s m B;rw[ax];rw[au]at m;rcases gQ.mp m with m|m
       .exact nO _ (a3 s m B)
       .rw[fG.mp m];exact jx _ (fG.mpr O)
    .refine⟨_,n,r,O,a1,L,D,M,N,a2,a7,λs m B=>?_⟩;rw[au]at m;rcases gQ.mp m with m|m
     .exact a3 s m B
     .rw[fG.mp m]at B;exact absurd (decide_eq_true B) av
   .rintro Y I ⟨c0,n,r,rfl,a1,L,D,M,N,a2,a7,a3⟩;rw[dY VF]at a3;have c2:=lcm _ M N;have bj:(keys (g++n)).length=(g++n).length:=by unfold keys;rw[aS]
    have cy:(g++n).length=g.length+n.length:=eW;refine⟨⟨_,_,p+1,g++n,r,O,a1,L,D,M,N,VF,a2,λi c9 hi e s a8 B=>?_⟩,?_⟩
    .by_cases ca:i<p
     .exact a7 i c9 ca e s a8 B
     .have ay:i=p:=VF;subst ay;rw[rG,nN VF,ar]at e;cases e;exact a3 s a8 B
    .rw[L,a2,ap,a0];dsimp only;rw[D.len,aq.len,aS,aS,nR,hJ,nR];omega
  .have cb:p=g.length:=VF;subst cb;rw[show(keys g).drop g.length=[] from t8 VF];refine cG ⟨_,O,q d g J a6 be b6 ap aq c op bV⟩
 .intro Y H Q cz h cc;obtain⟨v,e,p,xs,cd,ce,q⟩:=cc;exact⟨v,e,p,xs,cd,ce,h _ _ q⟩
theorem rb{f:cC->V}:∀{G:List cC} {g:cC},(G.map (·.nm)).Nodup->g∈G->fE (G.map λg=>((Sum.inr g.nm:aW),f g)) (Sum.inr g.nm)=some (f g)
 |e::G,g,a,m=>by
  rw[dW]at a ⊢;rw[iL]at a;rcases eM.mp m with rfl|m
  .exact rB O
  .rw[rC (λc=>a.1 (by rw[oG c];exact cP.mpr ⟨g,m,O⟩))];exact rb a.2 m
def fN(G:List cC)(f:eS):List (aW×V):=G.map λg=>(Sum.inr g.nm,V.int (f g.nm))
theorem tR(r:fB H a u)(S:aM H H'):fB H' a u:=by
 rcases r with h|⟨o,h⟩
 .exact .inl (S _ _ h)
 .exact .inr ⟨o,S _ _ h⟩
theorem wp(m:s∈Mt61.lb G):∃g∈G,g.nm=s.nm/\(s.h=1\/s.h=-1):=by
 obtain⟨g,mg,e⟩:=ry.mp m;rcases e with rfl|rfl
 .exact⟨g,mg,O,.inl O⟩
 .exact⟨g,mg,O,.inr O⟩
inductive HW(x y u:V)(H:aD)(Q:aP):Prop
 |mk:∀(dm de:aB)(V0:List aA)(G:List cC)(f:eS)(s:Mt22.St),bK H (gH s) x->s∈Mt61.lb G->gM V0 G->y=.ref dm->fB H dm (.dK (iS G))->u=.ref de->fB H de (.dK (fN G f))->Q (.int (Mt61.room G f s)) H->HW x y u H Q
def yt:cA:=kB (HW)
theorem AY(T:Txt K mg C):bA P w K mg base 1 "room" ["step","most","stream"] yt:=by
 refine T.Yy.fc Mk k9 (λf D A outer s H vs Q E i h=>?_)
 obtain⟨x,y,u,rfl,k,l,I,G,fl,st,m,n,a,rfl,hm,rfl,p,q⟩:=h
 have d:=j7 i
 obtain⟨t,rfl,o⟩:=rD m
 obtain⟨g,b,c,r⟩:=wp n
 have z:fE (iS G) (Sum.inr st.nm)=some (.int g.cap):=by rw[←c];exact rb (f:=λg=>V.int g.cap) a.nd b
 have B:fE (fN G fl) (Sum.inr st.nm)=some (.int (fl st.nm)):=by rw[←c];exact rb (f:=λg=>V.int (fl g.nm)) a.nd b
 refine⟨_,(bF (cJ (bC mi (j6 d (pv 1) (cF (cR (K:=K) O) (pv 0) aQ (λ_ _=>O)) (λ_ _=>O)) (bC mj (cF (cR (K:=K) O) (pv 0) aQ (λ_ _=>O)) (j6 d (pv 2) (cF (cR (K:=K) O) (pv 0) aQ (λ_ _=>O)) (λ_ _=>O)))))),?_⟩
 refine⟨_,O,_,O,t,_,0,.str st.nm,O,O,bY.of o,cE (j:=0) O,k,_,O,.inl ⟨_,Sum.inr st.nm,hm,O,z.symm⟩,?_⟩
 refine⟨_,O,t,_,3,.int st.h,O,O,bY.of o,cE (j:=3) O,_,O,_,O,t,_,0,.str st.nm,O,O,bY.of o,cE (j:=0) O,l,_,O,.inl ⟨_,Sum.inr st.nm,p,O,B.symm⟩,?_⟩
 refine⟨_,_,O,O,.inl (by rcases r with h|h<;>rw[h]<;>exact⟨VD,VD⟩),_,_,O,O,?_⟩
 have e:Mt61.room G fl st=g.cap-st.h*fl st.nm:=by
  unfold Mt61.room
  rw[←c,tI a b]
 rw[e]at q
 exact q
def mV(G:List cC)(f:eS):List Mt22.St:=(Mt61.lb G).filter λs=>decide (0<Mt61.room G f s)
theorem Do(d:gM a G)(m:s∈Mt61.lb G):s.near∈a/\s.far∈a:=by
 obtain⟨g,mg,e⟩:=ry.mp m;obtain⟨b,c,_⟩:=d.ends g mg;rcases e with rfl|rfl
 .exact⟨b,c⟩
 .exact⟨c,b⟩
inductive HV(x y u:V)(H:aD)(Q:aP):Prop
 |mk:∀(l dm de:aB)(us:List V)(V0:List aA)(G:List cC)(f:eS),x=.ref l->H l=some (.lst us)->IsL H ((Mt61.lb G).map gH) us->G.length<=40->V0.length<=13->gM V0 G->y=.ref dm->fB H dm (.dK (iS G))->u=.ref de->fB H de (.dK (fN G f))->(∀(d:aB)(cm:gL)(J:List (aW×V))(H':aD),aM H H'->H d=aG->H' d=some (.dK J)->jG H' J cm->jy [Mt22.sea] (mV G f) cm->mz (mV G f) cm cm.length->cm.length<=13->Q (.ref d) H')->HV x y u H Q
def zO:cA:=kB (HV)
theorem IG(T:Txt K mg C):bA P w K mg base 2 "reached" ["steps","most","stream"] zO:=by
 refine T.Yz.fc Kf k9 (λf ac A outer s H vs Q E k h=>?_);obtain⟨x,y,u,rfl,l,N,U,us,n,G,fl,rfl,p,r,ae,Y,j,rfl,hm,rfl,a0,q⟩:=h;have af:=gB;have a1:=r.length;have a2:=vV G;rw[aS,a2]at a1;refine⟨_,(bF (cJ (bZ (IV T) (k.mono VD) (aF (eA (aF (lB T.q08) aL)) (aF (fM ["step","most","stream"] 1 [1,2] O (eV (pv 0)) (λR=>dJ (i:=0) (VE:eG (["step","most","stream"]:List aA)) O VG) (eN VD) (λR=>ke (eU pp (bZ (AY T) (k.mono VD) (aF (pv 0) (aF (pv 1) (aF (pv 2) aL)))) aQ (eI _))) (λR=>(pv 0))) aL))))),?_⟩;refine⟨cQ O,λc h1=>?_⟩;have a:=aM.upd (o:=.lst [.str "sea"]) h1;have t:aI H c (.lst [.str "sea"]) c=some (.lst (([Mt22.sea]:List aA).map V.str)):=aV;generalize aI H c (.lst [.str "sea"])=z at a t;refine⟨_,O,l,O,⟨_,aT.of (a _ _ p)⟩,?_⟩;refine fP (F:=K) (xs:=us) VF (λi ys H'=>z=H'/\IsL H' ((((Mt61.lb G).take i).filter λs=>decide (0<Mt61.room G fl s)).map gH) ys) ⟨O,O⟩ ?_ ?_ ?_
 .rintro i ys H' hi ⟨rfl,b⟩;refine⟨aT.of (a _ _ p),?_⟩;have:=b.length;have:=l3 (λs=>decide (0<Mt61.room G fl s)) ((Mt61.lb G).take i);rw[dU]at this;rw[aS]at *;omega
 .rintro i ag ys H' ah ai B ⟨rfl,b⟩ k1 k2;have aj:i<us.length:=(dI.mp B).1;obtain⟨st,es⟩:∃st,(Mt61.lb G)[i]?=some st:=⟨_,cY VF⟩
  obtain⟨v,ev,D⟩:=(IsL.same a _ _ r).get (show((Mt61.lb G).map gH)[i]?=some (gH st) by rw[dO,es];rfl);rw[B]at ev;cases ev;refine⟨_,O,_,O,_,O,_,_,_,O,N,U,n,G,fl,st,D,dN es,j,O,tR hm a,O,tR a0 a,_,_,O,O,_,O,?_⟩;have e:((Mt61.lb G).take (i+1)).filter (λs=>decide (0<Mt61.room G fl s))=((Mt61.lb G).take i).filter (λs=>decide (0<Mt61.room G fl s))++(if decide (0<Mt61.room G fl st)=aC then [st] else []):=by
   rw[eL,es,lE];cases h:decide (0<Mt61.room G fl st)<;>simp[h]
   all_goals simpa using h
  cases I:decide (0<Mt61.room G fl st) with
  |false=>
   rw[I]at e;refine cG (k2 _ ⟨O,?_⟩);rw[e];simpa using b
  |true=>
   rw[I]at e;refine cU ⟨_,O,k1 _ _ ⟨O,?_⟩⟩;rw[e,if_pos O,dP];exact IsL.snoc D b
 rintro ys H2 ⟨rfl,b⟩;rw[dY VF]at b;intro a3 h2;have g:=aM.upd (o:=.lst ys) h2;refine⟨_,_,O,c,a3,ys,mV G fl,[Mt22.sea],n,O,O,by simp,(λz m=>by rw[fG.mp m];exact j.sea),g _ _ t,aV,IsL.same g _ _ b,?_,Y,λs m=>(Do j (jD.mp m).1).2,λd a4 J H' a5 a6 a7 a8 a9 op aa=>?_⟩
 .have:=l3 (λs=>decide (0<Mt61.room G fl s)) (Mt61.lb G);unfold mV;omega
 .exact q d a4 J H' (a.trans (g.trans a5)) ((a.trans g).free a6) a7 a8 a9 op aa
inductive HQ(x y:V)(H:aD)(Q:aP):Prop
 |mk:∀(d:aB)(J:List (aW×V))(cm:gL)(S:List Mt22.St)(side:aA),x=.ref d->y=.str side->fB H d (.dK J)->jG H J cm->tX S cm->cm.length<=13->side∈keys cm->(∀(l:aB)(us:List V)(ss:List Mt22.St)(H':aD),aM H H'->H l=aG->H' l=some (.lst us)->IsL H' (ss.map gH) us->lJ S ss side->ss.length<=13->Q (.ref l) H')->HQ x y H Q
def DI:cA:=gY (HQ)
theorem Ea(m:c∈keys b):∃(i:Nat)(o:Option Mt22.St),b[i]?=some (c,o):=by
 obtain⟨i,hi⟩:=lh.mp m;unfold keys at hi;rw[dO]at hi;cases e:b[i]? with
 |none=>rw[e]at hi;cases hi
 |some x=>
  rw[e]at hi;obtain⟨a,o⟩:=x;cases hi;exact⟨i,o,e⟩
theorem Kn(T:Txt K mg C):bA P w K mg base 1 "path_to" ["came","side"] DI:=by
 refine T.Yq.fc vI iC (λ f aw A outer s H vs Q E a7 h=>?_);obtain⟨x,y,rfl,d,J,n,S,p,rfl,rfl,U,a0,c,ax,a8,q⟩:=h;have ay:=gB;have a1:=j7 a7;obtain⟨a2,a9,u⟩:=Ea a8;obtain⟨a3,aa,ac⟩:=a0.val c u;have az:=(dI.mp u).1;refine⟨_,(bB (cH (i:=2) vI.nd O VG (eA aL)) (bB (cH (i:=3) vI.nd O VG (j6 a1 (pv 0) (pv 1) (λ_ _=>O))) (bB (wu kt (eU OK (pv 3) jp (eI _)) (bB (jK (k7 lg nb m9 nC (pv 2) (aF (pv 3) aL))) (bF (cH (i:=3) vI.nd O VG (j6 a1 (pv 0) (cF (cR (K:=K) O) (pv 3) aQ (λ_ _=>O)) (λ_ _=>O)))))) (bF (cJ (Lq O O T.q25 O T.q29 (aF (pv 2) aL))))))),?_⟩;refine⟨cQ O,λ lp a4=>?_⟩;have r:=aM.upd (o:=.lst []) a4;have h1:aI H lp (.lst []) lp=some (.lst []):=aV;generalize aI H lp (.lst [])=z at r h1;refine⟨_,O,_,O,d,a3,O,.inl ⟨J,Sum.inr p,tR U r,O,aa.symm⟩,?_⟩;refine wm (λ Y H'=>∃(j:Nat)(a:aA)(o:Option Mt22.St)(v:V)(ps:List Mt22.St)(us:List V),Y=[some (.ref d),some (.str p),some (.ref lp),some v]/\aM H H'/\H' lp=some (.lst us)/\IsL H' (ps.map gH) us/\n[j]?=some (a,o)/\nU H' o v/\yW S n j a ps.reverse p/\ps.length+j<n.length)
  (λ_ H'=>match H' lp with | some (.lst us)=>14 - us.length | _=>0) ⟨a2,p,a9,a3,[],[],O,r,h1,O,u,ac.same r,(λ aR ch _=>by rw[List.reverse_nil,kG];exact ch),by show 0+a2<_;omega⟩ ?_ ?_
 .rintro Y H2 ⟨j,a,o,v,ps,us,rfl,B,h2,D,b,G,tl,b0⟩;have ae:=D.length;rw[aS] at ae;refine⟨_,O,O,_,O,?_⟩;cases o with
  | none =>
   have af:v=.non:=G;subst af;have I:j=0:=by
    cases j with
    | zero=>rfl
    | succ j =>
     obtain⟨L,h',_⟩:=c.prev (j+1) a aG VF b;cases h'
   subst I;have ag:a=Mt22.sea:=by
    have:=c.first;rw[b] at this;cases this;rfl
   subst ag;have ch:=tl [] .nil (λ y m=>by cases m);rw[uB] at ch;rw[decide_eq_true O];refine cG ⟨_,O,lp,us,O,aT.of h2,λ l M=>?_⟩;refine q l us.reverse ps.reverse _ (B.trans (aM.upd M)) (B.free M) aV ?_ ch (by rw[ug];omega);rw[List.map_reverse];exact IsL.rev (IsL.same (aM.upd M) _ _ D)
  | some s =>
   obtain⟨t,rfl,ah⟩:=rD G;have I:0<j:=by
    cases j with
    | zero =>
     have:=c.first;rw[b] at this;cases this
    | succ j=>omega
   obtain⟨L,ai,aj,ak,al⟩:=c.prev j a (some s) I b;cases ai;obtain⟨i,am,g⟩:=Ea al;have an:=(dI.mp g).1;rw[dU] at an;have a5:i<j:=VF;rw[mC a5] at g;obtain⟨a6,ao,ap⟩:=a0.val c g;have aq:(keys n)[i]?=some s.near:=by unfold keys;rw[dO,g];rfl
   have ar:(!decide (V.ref t=V.non))=aC:=by rw[decide_eq_false (by intro c;cases c)];rfl
   rw[ar];refine cU ?_;refine⟨_,O,.inl ⟨O,_,aT.of h2⟩,_,O,lp,us,.ref t,O,O,h2,VF,?_⟩;have KT:=iU.lst (o:=.lst (us++[.ref t])) h2;have N:aM H (aI H2 lp (.lst (us++[.ref t]))):=B.over a4;refine⟨_,O,_,O,t,_,1,.str s.near,O,O,bY.of (KT _ _ ah),cE (j:=1) O,d,a6,O,.inl ⟨J,Sum.inr s.near,tR U N,O,ao.symm⟩,?_⟩;refine⟨⟨i,s.near,am,a6,ps++[s],us++[.ref t],O,N,aV,?_,g,ap.same N,?_,by rw[eW];show _+1+_<_;omega⟩,?_⟩
   .refine IsL.keep KT _ _ (lT λ d m=>?_) ?_
    .obtain⟨s,_,rfl⟩:=cP.mp m;exact oW s
    .rw[dP];exact IsL.snoc (d:=gH s) (v:=.ref t) G D
   .rw[List.reverse_append];exact Mb c b aj ak a5 aq tl
   .rw[h2,aV];dsimp only;rw[eW];show 14 - (us.length+1)<14 - us.length;omega
 .intro Y H Q b1 h as;obtain⟨v,e,au,k,av,q⟩:=as;exact⟨v,e,au,k,av,h _ _ q⟩
theorem MT(c:lJ S a b):a=[]->b=Mt22.sea:=by
 induction c with
 |nil=>intro _;rfl
 |snoc c m n d=>intro e;simp at e
def yR(G:List cC)(f:eS)(b:List aA):Prop:=∃a:gL,jy [Mt22.sea] (mV G f) a/\mz (mV G f) a a.length/\∀c∈b,c∉keys a
def Fg(G:List cC)(f:eS)(b:List aA)(a:List Mt22.St):Prop:=(a=[]/\yR G f b)\/∃c,lJ (mV G f) a c/\c∈b/\a≠[]/\a.length<=13
inductive wf(vs:List V)(H:aD)(Q:aP)(z3:dL):Prop
 |mk:∀(x y u v:V)(l dm de lw:aB)(us:List V)(V0:List aA)(G:List cC)(f:eS)(ws:List aA),vs=[x,y,u,v]->x=.ref l->H l=some (.lst us)->IsL H ((Mt61.lb G).map gH) us->G.length<=40->V0.length<=13->gM V0 G->y=.ref dm->fB H dm (.dK (iS G))->u=.ref de->fB H de (.dK (fN G f))->v=.ref lw->H lw=some (.lst (ws.map V.str))->Mt22.sea∉ws->(∀(lp:aB)(us:List V)(ss:List Mt22.St)(H':aD),aM H H'->H lp=aG->H' lp=some (.lst us)->IsL H' (ss.map gH) us->Fg G f ws ss->Q (.ref lp) H')->wf vs H Q z3
theorem QT:∀vs H Q E,wf vs H Q E->vs.length=4:=λvs H Q E h=>by cases h;subst_vars;rfl
theorem Tl(T:Txt K mg C):bA P w K mg base 3 "path_with_room" ["steps","most","stream","fields"] wf:=by
 refine T.Za.fc yY QT (λf b0 A outer s H vs Q E D h=>?_);obtain⟨x,y,u,v,l,a9,aa,lw,us,ac,G,fl,g,rfl,rfl,ae,af,ag,ah,ai,rfl,hm,rfl,aj,rfl,ak,ns,q⟩:=h;have b1:=gB;have b2:=j7 D;refine⟨_,(bB (cH (i:=4) yY.nd rfl VG (bZ (IG T) (D.mono VD) (aF (pv 0) (aF (pv 1) (aF (pv 2) aL))))) (bB (mh (i:=5) yY.nd rfl ["side","fields"] 1 [3] rfl (wO (pv 4)) (λR=>dJ (i:=0) (VE:eG (["side","fields"]:List aA)) rfl VG) (eN VD) (λR=>ke (eU (rr (K:=K) rfl) (pv 0) (pv 1) (by with_unfolding_all rfl))) (λR=>(pv 0))) (bF (cJ (Nw (yA (pv 5)) (bZ (Kn T) (D.mono VD) (aF (pv 4) (aF (cF (jJ (K:=K) rfl) (pv 5) aQ (λ_ _=>rfl)) aL))) (eA aL)))))),?_⟩;refine⟨_,rfl,_,rfl,_,rfl,_,_,_,rfl,l,a9,aa,us,ac,G,fl,rfl,ae,af,ag,ah,ai,rfl,hm,rfl,aj,λd k J z al am Y a0 a1 op an=>?_⟩;refine⟨_,rfl,d,J,rfl,Y,λo=>?_⟩;have I:aM H (aI z d (.frz o (.dK J))):=al.over am;have KF:iU z (aI z d (.frz o (.dK J))):=λb ys e=>by
  rw[bD (λc=>by rw[c,Y]at e;cases e)];exact e
 have L:=a0.keep KF;have M:aI z d (.frz o (.dK J)) d=some (.frz o (.dK J)):=aV;generalize aI z d (.frz o (.dK J))=H2 at I L M;have lk:J.length=k.length:=a0.len;have ao:=I _ _ ak;refine z6 VF (λi ys H'=>H2=H'/\ys=(((keys k).take i).filter λa=>decide (a∈g)).map V.str) ⟨rfl,rfl⟩ ?_ ?_ ?_
 .rintro i ys H' hi ⟨rfl,rfl⟩;refine⟨M,?_⟩;have:=l3 (λa=>decide (a∈g)) ((keys k).take i);rw[dU]at this;rw[aS];omega
 .rintro i b3 ys H' b4 b5 a2 ⟨rfl,rfl⟩ k1 k2;have b6:=(dI.mp a2).1;obtain⟨⟨a,ap⟩,a3⟩:∃x,k[i]?=some x:=⟨_,cY VF⟩
  obtain⟨b7,ev,_⟩:=L.at' i a ap a3;rw[a2]at ev;cases ev;have aq:(keys k)[i]?=some a:=by unfold keys;rw[dO,a3];rfl
  refine⟨_,rfl,_,rfl,lw,_,rfl,.inl (aT.of ao),rfl,rA g,_,rfl,?_⟩;show(if rv (V.str a) (g.map V.str)=aC then _ else _);rw[rM];have p:((keys k).take (i+1)).filter (λa=>decide (a∈g))=((keys k).take i).filter (λa=>decide (a∈g))++(if decide (a∈g)=aC then [a] else []):=by
   rw[eL,aq,lE];cases h:decide (a∈g)<;>simp[h]
   all_goals simpa using h
  cases a4:decide (a∈g) with
  |false=>
   rw[a4]at p;refine cG (k2 _ ⟨rfl,?_⟩);rw[p];simp
  |true=>
   rw[a4]at p;refine cU ⟨_,rfl,k1 _ _ ⟨rfl,?_⟩⟩;rw[p,if_pos rfl,dP];rfl
 rintro ys ar ⟨rfl,rfl⟩;rw[dY (by unfold keys;rw[aS];omega)];intro le as;have r:=aM.upd (o:=.lst (((keys k).filter λa=>decide (a∈g)).map V.str)) as;have t:aI H2 le (.lst (((keys k).filter λa=>decide (a∈g)).map V.str)) le=some (.lst (((keys k).filter λa=>decide (a∈g)).map V.str)):=aV;have m:=I.trans r;have a5:=L.same r;have a6:=r _ _ M;generalize aI H2 le (.lst (((keys k).filter λa=>decide (a∈g)).map V.str))=ar at r t m a5 a6;refine⟨_,rfl,le,_,rfl,aT.of t,?_⟩;cases N:(keys k).filter λa=>decide (a∈g) with
 |nil=>
  refine cG ⟨cQ rfl,λlp B=>?_⟩;refine q lp [] [] _ (m.trans (aM.upd B)) (m.free B) aV rfl (.inl ⟨rfl,k,a1,op,λa n mk=>?_⟩);have:a∈(keys k).filter λa=>decide (a∈g):=jD.mpr ⟨mk,decide_eq_true n⟩;rw[N]at this;cases this
 |cons a b8=>
  have n:a∈(keys k).filter λa=>decide (a∈g):=by rw[N];exact eJ
  rw[jD]at n;have U:a∈g:=of_decide_eq_true n.2;rw[N]at t;refine cU ?_;refine⟨_,rfl,_,rfl,le,_,0,.str a,rfl,rfl,aT.of t,cE (j:=0) rfl,_,_,rfl,d,J,k,mV G fl,a,rfl,rfl,.inr ⟨o,a6⟩,a5,a1.came,an,n.1,λlp au av aw ax ay B az ch aR=>?_⟩;refine q lp au av aw (m.trans ax) (m.free ay) B az (.inr ⟨a,ch,U,λe=>?_,aR⟩);have:=MT ch e;rw[this]at U;exact ns U
noncomputable def s7(J:List (aW×V)):eS:=λn=>match fE J (Sum.inr n) with
 |some (.int i)=>i
 |_=>0
theorem Dh(h:IsL H N us):N.length=us.length:=by have:=h.length;omega
theorem Dn{G:List cC}(a:(G.map (·.nm)).Nodup)(f:eS){g:cC}(m:g∈G):s7 (fN G f) g.nm=f g.nm:=by
 unfold s7;rw[show fE (fN G f) (Sum.inr g.nm)=some (.int (f g.nm)) from rb (f:=λg=>V.int (f g.nm)) a m]
theorem AJ(h:∀g∈G,f g.nm=a g.nm):val G f=val G a:=by
 unfold val jl;rw[n8 λg m=>show oQ f Mt22.sea g=oQ a Mt22.sea g by unfold oQ;rw[h g m]]
theorem NO(m:n∈G.map (·.nm)):jM (fN G f) (Sum.inr n) (.int x)=fN G (λk=>if k=n then x else f k):=by
 unfold jM;have a:((fN G f).any λb=>decide (b.1=(Sum.inr n:aW)))=aC:=by
  obtain⟨g,mg,e⟩:=cP.mp m;refine sd.mpr ⟨_,cP.mpr ⟨g,mg,O⟩,?_⟩;rw[←e];exact decide_eq_true O
 rw[if_pos a];unfold fN;rw[fS];refine l4 λg _=>?_;show(if (Sum.inr g.nm:aW)=Sum.inr n then((Sum.inr g.nm:aW),V.int x) else(Sum.inr g.nm,V.int (f g.nm)))=(Sum.inr g.nm,V.int (if g.nm=n then x else f g.nm))
 by_cases e:g.nm=n
 .rw[if_pos (by rw[e]),if_pos e]
 .rw[if_neg (λc=>e (oG c)),if_neg e]
theorem NP(a:s∈Mt61.lb G):jM (fN G f) (Sum.inr s.nm) (.int (f s.nm+s.h*m))=fN G (jP m f s):=by
 obtain⟨g,mg,b,_⟩:=wp a;rw[NO (by rw[←b];exact cP.mpr ⟨g,mg,O⟩)];unfold fN;refine l4 λg _=>?_;show(Sum.inr g.nm,V.int (if g.nm=s.nm then f s.nm+s.h*m else f g.nm))=(Sum.inr g.nm,V.int (if g.nm=s.nm then f g.nm+s.h*m else f g.nm))
 by_cases e:g.nm=s.nm
 .rw[if_pos e,if_pos e,e]
 .rw[if_neg e,if_neg e]
theorem tH(G:List cC)(f:eS):(fN G f).length=G.length:=aS _
theorem MN(G:List cC)(f:eS):(fN G f).map (·.1)=(G.map (·.nm)).map Sum.inr:=by
 unfold fN;rw[fS,fS];rfl
theorem xZ:∀s∈mV G f,s∈Mt61.lb G:=λs m=>(jD.mp m).1
inductive Hu(x y u:V)(H:aD)(Q:aP):Prop
 |mk:∀(l dm lw:aB)(o:aY)(us:List V)(V0:List aA)(G:List cC)(ws:List aA),x=.ref l->H l=some (.lst us)->IsL H ((Mt61.lb G).map gH) us->G.length<=40->V0.length<=13->gM V0 G->y=.ref dm->H dm=some (.frz o (.dK (iS G)))->u=.ref lw->H lw=some (.lst (ws.map V.str))->Mt22.sea∉ws->(∀(de:aB)(f:eS)(H':aD),aM H H'->H de=aG->H' de=some (.dK (fN G f))->Stream V0 G ws f->yR G f ws->Q (.ref de) H')->Hu x y u H Q
def DL:cA:=kB (Hu)
theorem Tn(T:Txt K mg C):bA P w K mg base 4 "fullest_stream" ["steps","most","fields"] DL:=by
 refine T.Zb.fc rl k9 (λ f cj A outer s H vs Q E a8 h=>?_);obtain⟨x,y,u,rfl,l,N,lw,o,us,a4,G,U,rfl,aw,ax,ay,az,I,rfl,hm,rfl,aR,ns,q⟩:=h;have ck:=gB;have bg:=j7 a8;refine⟨_,(bB (cH (i:=3) rl.nd O (Or.inr O) (hU (n3 O) O T.q21 lS (aF (fM ["name"] 1 [] O (Ci (pv 1)) (λ R=>dJ (i:=0) (VE:eG (["name"]:List aA)) O VG) (eN VD) (λ R=>gN) (λ R=>(jd (aF (pv 0) (aF aQ aL))))) aL))) (bB (cH (i:=4) rl.nd O VG (bZ (Tl T) (a8.mono VD) (aF (pv 0) (aF (pv 1) (aF (pv 3) (aF (pv 2) aL)))))) (bB (wu kt (yA (pv 4)) (bB (cH (i:=5) rl.nd O VG (dB (MU O) O T.q27 wb (aF (fM ["step","most","stream"] 1 [1,3] O (eV (pv 4)) (λ R=>dJ (i:=0) (VE:eG (["step","most","stream"]:List aA)) O VG) (eN VD) (λ R=>gN) (λ R=>(bZ (AY T) (a8.mono VD) (aF (pv 0) (aF (pv 1) (aF (pv 2) aL)))))) aL))) (bB (k4 kt O (eV (pv 4)) (dJ (i:=6) rl.nd O VG) (bF (OB bg (pv 3) (cF (cR (K:=K) O) (pv 6) aQ (λ_ _=>O)) (bC mj (cF (cR (K:=K) O) (pv 6) aQ (λ_ _=>O)) (pv 5)) Qn (λ_ _ _=>O)))) (bF (cH (i:=4) rl.nd O VG (bZ (Tl T) (a8.mono VD) (aF (pv 0) (aF (pv 1) (aF (pv 3) (aF (pv 2) aL)))))))))) (bF (cJ (pv 3)))))),?_⟩;refine⟨_,O,N,o,_,O,hm,?_⟩;refine z6 (by rw[tw];omega) (λ i ys H'=>aM H H'/\gC H' ys (fN (G.take i) λ_=>0)) ⟨aM.refl _,gC.nil _⟩ ?_ ?_ ?_
 .rintro i ys H' hi ⟨a0,a1⟩;have:=a1.len;rw[tH,dU] at this;exact⟨a0 _ _ hm,VF⟩
 .rintro i bh ys H' bi bj ai ⟨a0,a1⟩ k1 k2;unfold iS at ai;rw[dO] at ai;obtain⟨g,bk,bl⟩:=kD.mp ai;have bm:kV bh.1=V.str g.nm:=by rw[← bl];rfl
  rw[bm];refine⟨_,O,cQ O,λ cm b0=>k1 _ _ ⟨a0.trans (aM.upd b0),?_⟩⟩;have aj:fN (G.take (i+1)) (λ_=>0)=fN (G.take i) (λ_=>0)++[(Sum.inr g.nm,V.int 0)]:=by
   unfold fN;rw[eL,bk,dP];rfl
  rw[aj];exact gC.snoc (k:=Sum.inr g.nm) a1 b0
 rintro ys z ⟨b1,a1⟩;rw[tw,dY (bQ _)] at a1;intro ak bn;have al:=aM.upd (o:=.lst ys) bn;refine⟨ak,ys,fN G λ_=>0,O,aT.of aV,a1.same al,by rw[tH];omega,by rw[MN];exact (n7 _).mpr I.nd,λ B b2=>?_⟩;have b3:=aM.upd (o:=.dK (fN G λ_=>0)) b2;have a2:=b1.trans (al.trans b3);have b4:=(b1.trans al).free b2;have am:aI (aI z ak (.lst ys)) B (.dK (fN G λ_=>0)) B=some (.dK (fN G λ_=>0)):=aV;generalize aI (aI z ak (.lst ys)) B (.dK (fN G λ_=>0))=cn at b3 a2 am;have bo:Stream a4 G U (λ_=>0):=Stream.none I U λ_ _=>O;refine⟨_,O,_,O,_,O,_,O,_,_,_,_,l,N,B,lw,us,a4,G,λ_=>0,U,O,O,a2 _ _ aw,IsL.same a2 _ _ ax,ay,az,I,O,.inr ⟨o,a2 _ _ hm⟩,O,.inl am,O,a2 _ _ aR,ns,λ lp bp n co b5 cp bq br bs=>?_⟩;refine wm (λ Y H'=>∃(r:eS)(lp:aB)(D:List V)(n:List Mt22.St)(b6 L:Option V),Y=[some (.ref l),some (.ref N),some (.ref lw),some (.ref B),some (.ref lp),b6,L]/\aM H H'/\H' B=some (.dK (fN G r))/\Stream a4 G U r/\H' lp=some (.lst D)/\IsL H' (n.map gH) D/\Fg G r U n)
  (λ_ H'=>match H' B with | some (.dK J)=>(kk G - val G (s7 J)).toNat | _=>0) ⟨λ_=>0,lp,bp,n,_,_,O,a2.trans b5,b5 _ _ am,bo,bq,br,bs⟩ ?_ ?_
 .rintro Y a9 ⟨r,lp,D,n,b6,L,rfl,an,aa,b7,ac,ao,bt⟩;have ae:=Dh ao;rw[aS] at ae;refine⟨_,O,lp,D,O,aT.of ac,?_⟩;rcases bt with ⟨rfl,ap⟩ | ⟨z,ch,bu,b8,cq⟩
  .have:D=[]:=List.eq_nil_of_length_eq_zero ae.symm;subst this;exact cG ⟨_,O,q B r a9 an b4 aa b7 ap⟩
  have bv:D.isEmpty=aJ:=by
   cases D with
   | nil=>exact absurd (List.eq_nil_of_length_eq_zero ae) b8
   | cons a b=>rfl
  rw[bv];refine cU ?_;obtain⟨aq,cr⟩:=Bw ch;have bw:∀ s∈n,0<Mt61.room G r s:=λ s m=>of_decide_eq_true (jD.mp (aq s m)).2;have bx:=an _ _ hm;refine⟨_,O,lp,O,⟨_,aT.of ac⟩,?_⟩;refine fP (F:=K) (xs:=D) VF (λ i ys H'=>a9=H'/\ys=((n.take i).map (Mt61.room G r)).map V.int) ⟨O,O⟩ ?_ ?_ ?_
  .rintro i ys H' hi ⟨rfl,rfl⟩;exact⟨aT.of ac,by rw[aS,aS,dU];omega⟩
  .rintro i bz ys H' bi bj b9 ⟨rfl,rfl⟩ k1 k2;have bM:i<D.length:=(dI.mp b9).1;obtain⟨st,es⟩:∃ st,n[i]?=some st:=⟨_,cY VF⟩
   obtain⟨v,ev,ar⟩:=ao.get (show (n.map gH)[i]?=some (gH st) by rw[dO,es];rfl);rw[b9] at ev;cases ev;have a3:=dN es;refine⟨_,O,_,O,_,O,_,_,_,O,N,B,a4,G,r,st,ar,xZ _ (aq st a3),I,O,.inr ⟨o,bx⟩,O,.inl aa,k1 _ _ ⟨O,?_⟩⟩;rw[eL,es,dP,dP];rfl
  rintro ys bO ⟨rfl,rfl⟩;rw[dY VF];intro af bR;have a5:=aM.upd (o:=.lst ((n.map (Mt61.room G r)).map V.int)) bR;have ba:aI a9 af (.lst ((n.map (Mt61.room G r)).map V.int)) af=some (.lst ((n.map (Mt61.room G r)).map V.int)):=aV;generalize aI a9 af (.lst ((n.map (Mt61.room G r)).map V.int))=bO at a5 ba;have bV:=an.trans a5;refine⟨af,n.map (Mt61.room G r),O,aT.of ba,by rw[aS];exact List.length_pos_iff.mpr b8,λ M bW c0=>?_⟩;have c1:0<M:=by
   obtain⟨s,a3,rfl⟩:=cP.mp bW;exact bw s a3
  have c2:∀ s∈n,M<=Mt61.room G r s:=λ s m=>c0 _ (cP.mpr ⟨s,m,O⟩);have c3:=a5 _ _ aa;have bb:=a5 _ _ ac;have c4:=IsL.same a5 _ _ ao;refine⟨_,O,lp,O,⟨_,aT.of bb⟩,wA (K:=K) (a:=lp) (xs:=D) (λ i Y H'=>∃ L,Y=[some (.ref l),some (.ref N),some (.ref lw),some (.ref B),some (.ref lp),some (.int M),L]/\aM H H'/\H' B=some (.dK (fN G ((n.take i).foldl (jP M) r)))/\H' lp=some (.lst D)/\IsL H' (n.map gH) D) ⟨_,O,bV,c3,bb,c4⟩ ?_ ?_ ?_⟩
  .rintro i Y H' hi ⟨L,rfl,a0,a6,ag,as⟩;exact aT.of ag
  .rintro i bz Y H' bc ⟨L,rfl,a0,a6,ag,as⟩;have bM:i<D.length:=(dI.mp bc).1;obtain⟨st,es⟩:∃ st,n[i]?=some st:=⟨_,cY VF⟩
   obtain⟨v,ev,ar⟩:=as.get (show (n.map gH)[i]?=some (gH st) by rw[dO,es];rfl);rw[bc] at ev;cases ev;have a3:=xZ _ (aq st (dN es));obtain⟨t,rfl,bd⟩:=rD ar;obtain⟨g,c5,ap,c6⟩:=wp a3;have c7:fE (fN G ((n.take i).foldl (jP M) r)) (Sum.inr st.nm)=some (.int (((n.take i).foldl (jP M) r) st.nm)):=by rw[← ap];exact rb (f:=λ g=>V.int (((n.take i).foldl (jP M) r) g.nm)) I.nd c5
   refine⟨_,O,_,O,t,_,0,.str st.nm,O,O,bY.of bd,cE (j:=0) O,B,_,O,.inl ⟨_,Sum.inr st.nm,.inl a6,O,c7.symm⟩,?_⟩;refine⟨_,O,t,_,3,.int st.h,O,O,bY.of bd,cE (j:=3) O,_,O,_,_,O,O,.inl (by rcases c6 with h | h <;> rw[h] <;> exact⟨VD,VD⟩),_,_,O,O,_,.inl ⟨_,Sum.inr st.nm,a6,O,by rw[tH];omega,O⟩,?_⟩;rw[NP a3];have c8:lp≠B:=q9 ag a6 (by intro c;cases c);have KT:iU H' (aI H' B (.dK (fN G (jP M ((n.take i).foldl (jP M) r) st)))):=λ b ys e=>by
    rw[bD (λ c=>by rw[c,a6] at e;cases e)];exact e
   refine⟨_,O,a0.over b4,?_,by rw[bD c8];exact ag,IsL.keep KT _ _ (lT λ d m=>?_) as⟩
   .rw[aV,eL,es,List.foldl_append];rfl
   .obtain⟨s,_,rfl⟩:=cP.mp m;exact oW s
  .rintro Y cs ⟨L,rfl,a7,ah,ct,cu⟩;rw[← ae,dY (bQ _)] at ah;obtain⟨be,c9⟩:=b7.more I ch xZ (uQ c1) c2 bu ns;refine⟨_,O,_,O,_,O,_,O,_,_,_,_,l,N,B,lw,us,a4,G,n.foldl (jP M) r,U,O,O,a7 _ _ aw,IsL.same a7 _ _ ax,ay,az,I,O,.inr ⟨o,a7 _ _ hm⟩,O,.inl ah,O,a7 _ _ aR,ns,λ ca cb cc cv au cw cd ce cf=>?_⟩;refine⟨⟨_,ca,cb,cc,_,_,O,a7.trans au,au _ _ ah,be,cd,ce,cf⟩,?_⟩;rw[aa,au _ _ ah];show (kk G - val G (s7 (fN G (n.foldl (jP M) r)))).toNat<(kk G - val G (s7 (fN G r))).toNat;rw[AJ λ g m=>Dn I.nd _ m,AJ λ g m=>Dn I.nd r m,c9];have:=LY I be.fits;omega
 .intro Y H Q cx h cg;obtain⟨v,e,p,xs,aj,ci,q⟩:=cg;exact⟨v,e,p,xs,aj,ci,h _ _ q⟩
theorem yJ(h:jG H J a)(b:aA):(fE J (Sum.inr b)).isSome=decide (b∈keys a):=by
 by_cases m:b∈keys a
 .rw[h.some m,decide_eq_true m]
 .rw[h.none m,decide_eq_false m];rfl
def rg(G:List cC)(R:List aA):List Mt22.St:=(Mt61.lb G).filter λs=>!decide (s.far∈R)
noncomputable def lV(L:Int)(s:Mt22.St):aH:=.tup [.str s.nm,.int L]
theorem v9{q:Type}{P:q->Bool}{xs:List q}{i:Nat}{x:q}(e:xs[i]?=some x):(xs.take (i+1)).filter P=(xs.take i).filter P++(if P x=aC then [x] else []):=by
 rw[eL,e,lE];cases h:P x<;>simp[h]
inductive wg(vs:List V)(H:aD)(Q:aP)(z3:dL):Prop
 |mk:∀(x y u v:V)(l df lw:aB)(us:List V)(V0:List aA)(G:List cC)(J:List (aW×V))(cm:gL)(ws:List aA)(L:Int),vs=[x,y,u,v]->x=.ref l->H l=some (.lst us)->IsL H ((Mt61.lb G).map gH) us->G.length<=40->V0.length<=13->gM V0 G->y=.ref df->fB H df (.dK J)->jG H J cm->u=.ref lw->H lw=some (.lst (ws.map V.str))->ws.Nodup->(∀z∈ws,z∈V0)->v=.int L->(∀(cmB:gL)(lr:aB)(us':List V)(H':aD),aM H H'->H lr=aG->H' lr=some (.lst us')->IsL H' ((jR G (keys cm) (keys cmB)).map (lV L)) us'->jy ws (rg G (keys cm)) cmB->mz (rg G (keys cm)) cmB cmB.length->Q (.ref lr) H')->wg vs H Q z3
theorem PV:∀vs H Q E,wg vs H Q E->vs.length=4:=λvs H Q E h=>by cases h;subst_vars;rfl
theorem TV(T:Txt K mg C):bA P w K mg base 2 "works_round" ["steps","flowed","fields","height"] wg:=by
 refine T.Zc.fc FO PV (λf az A outer s H vs Q E I h=>?_);obtain⟨x,y,u,v,l,L,lw,us,a9,G,J,b,aa,N,rfl,rfl,n,z,aR,ac,ae,rfl,U,Y,rfl,af,ag,ah,rfl,q⟩:=h;have b0:=gB;have B:=j7 I;have ai:=Dh z;have aj:=vV G;rw[aS,aj]at ai;refine⟨_,(bB (cH (i:=4) FO.nd O (Or.inr O) (bZ (IV T) (I.mono VD) (aF (pv 2) (aF (fM ["step","flowed"] 1 [1] O (eV (pv 0)) (λR=>dJ (i:=0) (VE:eG (["step","flowed"]:List aA)) O VG) (eN VD) (λR=>ke (va (AX B (cF (cR (K:=K) O) (pv 0) aQ (λ_ _=>O)) (pv 1)))) (λR=>(pv 0))) aL)))) (bF (cJ (fM ["step","flowed","height","behind"] 1 [1,3,4] O (eV (pv 0)) (λR=>dJ (i:=0) (VE:eG (["step","flowed","height","behind"]:List aA)) O VG) (eN VD) (λR=>ke (gU.pt (u9 (va (DV B (cF (cR (K:=K) O) (pv 0) aQ (λ_ _=>O)) (pv 1))) (wN (va (DV B (cF (cR (K:=K) O) (pv 0) aQ (λ_ _=>O)) (pv 3))))))) (λR=>(jd (aF (cF (cR (K:=K) O) (pv 0) aQ (λ_ _=>O)) (aF (pv 2) aL)))))))),?_⟩;refine⟨_,O,_,O,l,O,⟨_,aT.of n⟩,?_⟩;refine fP (F:=K) (xs:=us) VF (λi ys H'=>H=H'/\IsL H' ((((Mt61.lb G).take i).filter λs=>!decide (s.far∈keys b)).map gH) ys) ⟨O,O⟩ ?_ ?_ ?_
 .rintro i ys H' hi ⟨rfl,a⟩;refine⟨aT.of n,?_⟩;have:=a.length;have:=l3 (λs:Mt22.St=>!decide (s.far∈keys b)) ((Mt61.lb G).take i);rw[dU]at this;rw[aS]at *;omega
 .rintro i ak ys H' al a0 k ⟨rfl,a⟩ k1 k2;have am:i<us.length:=(dI.mp k).1;obtain⟨st,es⟩:∃st,(Mt61.lb G)[i]?=some st:=⟨_,cY VF⟩
  obtain⟨v,ev,p⟩:=z.get (show((Mt61.lb G).map gH)[i]?=some (gH st) by rw[dO,es];rfl);rw[k]at ev;cases ev;obtain⟨t,rfl,o⟩:=rD p;have c:=v9 (P:=λs:Mt22.St=>!decide (s.far∈keys b)) es;refine⟨_,O,t,_,2,.str st.far,O,O,bY.of o,cE (j:=2) O,_,O,L,_,O,.inl ⟨J,Sum.inr st.far,U,O,O⟩,_,O,?_⟩;rw[yJ Y];cases r:(!decide (st.far∈keys b)) with
  |false=>
   rw[r]at c;refine cG (k2 _ ⟨O,?_⟩);rw[c];simpa using a
  |true=>
   rw[r]at c;refine cU ⟨_,O,k1 _ _ ⟨O,?_⟩⟩;rw[c,if_pos O,dP];exact IsL.snoc p a
 rintro ys H2 ⟨rfl,a⟩;rw[dY VF]at a;intro an h2;have D:=aM.upd (o:=.lst ys) h2;refine⟨_,_,O,lw,an,ys,rg G (keys b),aa,a9,O,O,ag,ah,D _ _ af,aV,IsL.same D _ _ a,?_,ac,λs m=>(Do ae (jD.mp m).1).2,λao e ap aq ar b1 as au av aw b2=>?_⟩
 .have:=l3 (λs:Mt22.St=>!decide (s.far∈keys b)) (Mt61.lb G);unfold rg;omega
 have g:=D.trans ar;have ax:=IsL.same g _ _ z;refine⟨_,O,l,O,⟨_,aT.of (g _ _ n)⟩,?_⟩;refine fP (F:=K) (xs:=us) VF (λi ys H'=>aM aq H'/\IsL H' ((((Mt61.lb G).take i).filter λs=>decide (s.near∈keys b)&&decide (s.far∈keys e)).map (lV N)) ys) ⟨aM.refl _,O⟩ ?_ ?_ ?_
 .rintro i ys H' hi ⟨d,a⟩;refine⟨aT.of (d _ _ (g _ _ n)),?_⟩;have:=a.length;have:=l3 (λs:Mt22.St=>decide (s.near∈keys b)&&decide (s.far∈keys e)) ((Mt61.lb G).take i);rw[dU]at this;rw[aS]at *;omega
 .rintro i ak ys H' al a0 k ⟨d,a⟩ k1 k2;have am:i<us.length:=(dI.mp k).1;obtain⟨st,es⟩:∃st,(Mt61.lb G)[i]?=some st:=⟨_,cY VF⟩
  obtain⟨v,ev,p⟩:=(IsL.same d _ _ ax).get (show((Mt61.lb G).map gH)[i]?=some (gH st) by rw[dO,es];rfl);rw[k]at ev;cases ev;obtain⟨t,rfl,o⟩:=rD p;have c:=v9 (P:=λs:Mt22.St=>decide (s.near∈keys b)&&decide (s.far∈keys e)) es;have a1:(decide (st.near∈keys b)&&decide (st.far∈keys e))=aJ->a0 H':=λr=>by
   refine k2 _ ⟨d,?_⟩;rw[c,r];simpa using a
  refine⟨_,O,t,_,1,.str st.near,O,O,bY.of o,cE (j:=1) O,_,O,L,_,O,.inl ⟨J,Sum.inr st.near,tR U (g.trans d),O,O⟩,_,O,?_⟩;rw[yJ Y];cases h1:decide (st.near∈keys b) with
  |false=>exact cG (a1 (by rw[h1];rfl))
  |true=>
   refine cU ?_;refine⟨_,O,t,_,2,.str st.far,O,O,bY.of o,cE (j:=2) O,_,O,ao,_,O,.inl ⟨ap,Sum.inr st.far,.inl (d _ _ as),O,O⟩,_,O,?_⟩;rw[yJ au];cases h2:decide (st.far∈keys e) with
   |false=>exact cG (a1 (by rw[h1,h2];rfl))
   |true=>
    refine cU ⟨_,O,t,_,0,.str st.nm,O,O,bY.of o,cE (j:=0) O,_,O,cQ O,λM a2=>k1 _ _ ⟨d.trans (aM.upd a2),?_⟩⟩;rw[h1,h2]at c;rw[c,dP];exact IsL.snoc (show bK _ (lV N st) (.ref M) from⟨M,_,O,aV,_,_,O,O,_,_,O,O,O⟩) (IsL.same (aM.upd a2) _ _ a)
 rintro a3 b3 ⟨a4,a5⟩;rw[dY VF]at a5;intro ay a6;have a7:=aM.upd (o:=.lst a3) a6;exact q e ay a3 _ (g.trans (a4.trans a7)) ((g.trans a4).free a6) aV (IsL.same a7 _ _ a5) av aw
theorem NY{zs:List aA}{S:List Mt22.St}{b:gL}(h:jy zs S b){R:List aA}(l:∀a∈zs,a∈R)(cl:∀s∈S,s.near∈R->s.far∈R):∀a∈keys b,a∈R:=by
 have:∀(n i:Nat)(a:aA),i<n->(keys b)[i]?=some a->a∈R:=by
  intro n
  induction n with
  |zero=>intro i a hi;omega
  |succ n p=>
   intro i a hi e;unfold keys at e;rw[dO]at e;obtain⟨⟨d,o⟩,f,rfl⟩:=kD.mp e;by_cases q:i<zs.length
   .obtain⟨y,g⟩:∃y,zs[i]?=some y:=⟨_,cY q⟩
    have:=h.first i y g;rw[f]at this;cases this;exact l _ (dN g)
   .obtain⟨s,_,r,t,u⟩:=h.prev i d o VF f;obtain⟨j,c⟩:=lh.mp u;have k:=(dI.mp c).1;unfold keys at k;rw[aS,dU]at k;have w:(keys b)[j]?=some s.near:=by
     unfold keys at c ⊢;rw[dO,mC VF]at c;rw[dO];exact c
    show d∈R;rw[←t];exact cl s r (p j _ VF w)
 intro a m;obtain⟨i,hi⟩:=lh.mp m;exact this (i+1) i a VF hi
theorem Nn{l:List aA}{G:List cC}(x:gM l G){f:eS}{d:List aA}(n:yR G f d){b e:gL}(h:jy [Mt22.sea] (mV G f) b)(op:mz (mV G f) b b.length)(i:jy d (rg G (keys b)) e)(o:mz (rg G (keys b)) e e.length):pX G f d (keys b) (keys e):=by
 obtain⟨p,q,r,t⟩:=n;have sub:=NY h (R:=keys p) (λa m=>by rw[fG.mp m];exact q.start (fG.mpr O)) (zj r);have j:∀a∈d,a∉keys b:=λa m k=>t a m (sub a k);refine⟨h.start (fG.mpr O),λs c u g=>?_,j,λa m=>i.start m,λa m=>?_,λs c w g=>?_⟩
 .exact zj op s (jD.mpr ⟨c,decide_eq_true u⟩) g
 .rcases i.mem m with m|⟨s,c,rfl⟩
  .exact j a m
  .have:=(jD.mp c).2;simpa using this
 .exact zj o s (jD.mpr ⟨c,by simpa using w⟩) g
theorem Cd(c:∀h∈B,h∉R):∀{G:List cC},(G.map (·.nm)).Nodup->((jR G R B).map (·.nm)).Nodup/\∀n∈(jR G R B).map (·.nm),n∈G.map (·.nm)
 |[],_=>⟨by simp[jR,Mt61.lb],λn m=>by simp[jR,Mt61.lb]at m⟩
 |g::G,b=>by
  rw[dW,iL]at b;obtain⟨h1,h2⟩:=Cd c b.2;have e:jR (g::G) R B=([up g,dn g].filter λs=>decide (s.near∈R)&&decide (s.far∈B))++jR G R B:=by
   unfold jR Mt61.lb;rw[xt,lE]
  have a:([up g,dn g].filter λs=>decide (s.near∈R)&&decide (s.far∈B))=[]\/∃s,s.nm=g.nm/\([up g,dn g].filter λs=>decide (s.near∈R)&&decide (s.far∈B))=[s]:=by
   rw[nS];cases d:(decide ((up g).near∈R)&&decide ((up g).far∈B)) with
   |true=>
    rw[fK]at d;have i:g.b∈B:=of_decide_eq_true d.2;have:(decide ((dn g).near∈R)&&decide ((dn g).far∈B))=aJ:=by
     have:(dn g).near∉R:=c _ i;rw[decide_eq_false this];rfl
    rw[nS,this];exact .inr ⟨up g,O,O⟩
   |false=>
    rw[nS];cases j:(decide ((dn g).near∈R)&&decide ((dn g).far∈B)) with
    |true=>exact .inr ⟨dn g,O,O⟩
    |false=>exact .inl O
  rw[e];rcases a with a|⟨s,f,a⟩
  .rw[a,uB];exact⟨h1,λn m=>eY _ (h2 n m)⟩
  .rw[a];refine⟨?_,λn m=>?_⟩
   .rw[dP,dW,lF,xb,iL,f];exact⟨λm=>b.1 (h2 _ m),h1⟩
   .rw[dP]at m;rcases gQ.mp m with m|m
    .rw[dW,lF,fG,f]at m;rw[m];exact eJ
    .exact eY _ (h2 n m)
theorem AV:∀s∈jR G R B,s∈Mt61.lb G:=λs m=>(jD.mp m).1
theorem Cy(e:lO zs N)(l:gM k (bU fs N L))(m:s∈Mt61.lb (bU fs N L)):sX N (lV L s)=ot (bU fs N L) s.nm/\s.nm∈N.map aN/\lU N s.nm<=L:=by
 obtain⟨g,mg,i,_⟩:=wp m;obtain⟨d,f,o,rfl,h⟩:=Cv e mg;have j:=wB e.nd f;have p:=CU e.nd f;have cap:=tI l mg;rw[←i,←h];rw[←h]at cap;refine⟨?_,cP.mpr ⟨d,f,O⟩,?_⟩
 .show sP N s.nm*(L-lU N s.nm)=_;rw[←i,←h,cap,j,p];obtain⟨n,a,b,c,r,q,rfl,_⟩:=jB (e.all d f);rfl
 .rw[j];obtain⟨n,a,b,c,r,q,rfl,_⟩:=jB (e.all d f);have h1:c<L:=of_decide_eq_true (iV.mp (show(decide (c<L)&&(mw fs L a&&mw fs L b))=aC from o)).1;show c<=L;omega
theorem Jh(b:lO zs N)(c:hgt L=aC)(a:gM e (bU fs N L))(f:∀g∈B,g∉R):GoodW N ((jR (bU fs N L) R B).map (lV L)):=by
 refine⟨λd m=>?_,?_⟩
 .obtain⟨s,h,rfl⟩:=cP.mp m;obtain⟨_,h2,i⟩:=Cy b a (AV s h);show(decide (s.nm∈N.map aN)&&(hgt L&&decide (lU N s.nm<=L)))=aC;rw[decide_eq_true h2,c,decide_eq_true i];rfl
 .rw[fS];exact(Cd f a.nd).1
theorem Le(d:lO zs N)(b:gM a (bU fs N L))(st:Stream a (bU fs N L) c f)(r:pX (bU fs N L) f c R B):ve N ((jR (bU fs N L) R B).map (lV L))=val (bU fs N L) f:=by
 rw[←Lm b st r];unfold ve;rw[fS];show dD _ _=_;exact n8 λs m=>(Cy d b (AV s m)).1
theorem AW:(jR G R B).length<=2*G.length:=by
 rw[←vV];exact l3 _ _
noncomputable def EN(f:eS)(g:cC):aH:=.tup [.str g.nm,.int (f g.nm)]
def ta(G:List cC)(f:eS):List aH:=(G.filter λg=>!decide (f g.nm=0)).map (EN f)
inductive Hr(C:aB)(x y u:V)(H:aD)(Q:aP):Prop
 |mk:∀(p l:aB)(fs N:List aH)(zs:List aA)(L:Int),x=.ref p->eZ C H p fs N->y=.ref l->H l=some (.lst (zs.map V.str))->1<=zs.length->zs.Nodup->(∀z∈zs,z∈fs.map aN)->u=.int L->hgt L=aC->(∀(t lk la:aB)(uk ua:List V)(f:eS)(R B:List aA)(H':aD),aM H H'->H t=aG->H lk=aG->H la=aG->lk≠la->H' t=some (.tup [.int (val (bU fs N L) f),.ref lk,.ref la])->H' lk=some (.lst uk)->IsL H' ((jR (bU fs N L) R B).map (lV L)) uk->H' la=some (.lst ua)->IsL H' (ta (bU fs N L) f) ua->Stream ("sea" :: fs.map aN) (bU fs N L) zs f->pX (bU fs N L) f zs R B->Q (.ref t) H')->Hr C x y u H Q
def Aa(C:aB):cA:=kB (Hr C)
theorem IW(T:Txt K mg C):bA P w K mg base 6 "fewest" ["land","fields","height"] (Aa C):=by
 refine T.Zd.fc rn k9 (λ f ce A outer s H vs Q E n h=>?_);obtain⟨x,y,u,rfl,p,l,fs,N,zs,a,rfl,L,rfl,ag,bq,aw,sub,rfl,ax,q⟩:=h;have cf:=gB;have ay:=j7 n;have ah:=(iE L).1;have a6:=(iE L).2;have cg:=a6.l2;have f2:=ah.l2;have r:=rN ah a6 a;have ch:=tG fs N a;have ai:(("sea":aA) :: fs.map aN).length<=13:=by rw[hJ,aS];omega
 have ns:Mt22.sea∉zs:=λ m=>by
  obtain⟨d,br,e⟩:=cP.mp (sub _ m);obtain⟨z,g,u,rfl,bs,_⟩:=jc (ah.all d br);exact yc bs e
 refine⟨_,(bB (jK (bZ (tc T) (n.mono VD) (aF (pv 0) (aF (pv 1) (aF (pv 2) aL))))) (bB (cH (i:=3) rn.nd O VG (bZ (Jy T) (n.mono VD) (aF (pv 0) (aF (pv 2) aL)))) (bB (cH (i:=4) rn.nd O VG (bZ (Ug T) (n.mono VD) (aF (pv 0) (aF (pv 3) aL)))) (bB (cH (i:=5) rn.nd O (Or.inr O) (bZ (Tn T) (n.mono VD) (aF (pv 4) (aF (pv 3) (aF (pv 1) aL))))) (bB (cH (i:=6) rn.nd O VG (bZ (TV T) (n.mono VD) (aF (pv 4) (aF (bZ (IG T) (n.mono VD) (aF (pv 4) (aF (pv 3) (aF (pv 5) aL)))) (aF (pv 1) (aF (pv 2) aL)))))) (bB (mh (i:=7) rn.nd O ["name","stream"] 1 [5] O (wO (pv 5)) (λ R=>dJ (i:=0) (VE:eG (["name","stream"]:List aA)) O VG) (eN VD) (λ R=>ke (eU pj (j6 ay (pv 1) (pv 0) (λ_ _=>O)) aQ (eI _))) (λ R=>(jd (aF (pv 0) (aF (j6 ay (pv 1) (pv 0) (λ_ _=>O)) aL))))) (bF (cJ (jd (aF (bZ (JY T) (n.mono VD) (aF (pv 0) (aF (pv 6) aL))) (aF (pv 6) (aF (pv 7) aL)))))))))))),?_⟩;refine⟨_,O,_,O,_,O,_,_,_,O,p,l,fs,N,zs,a,O,L,O,ag,bq,aw,sub,O,ax,λ z aj=>?_⟩;refine⟨_,O,_,O,_,_,O,p,fs,N,a,O,L.same aj,O,λ a0 H2 bt bu bv=>?_⟩;have az:=aj.trans bt;refine⟨_,O,_,O,_,_,O,p,a0,fs,N,a,O,L.same az,O,bv,λ o ak us aR b0 ci al b1=>?_⟩;have bw:H a0=aG:=aj.free bu;have am:aM H aR:=λ b u e=>b0 _ _ (by rw[bD (λ c=>by rw[c,bw] at e;cases e)];exact az _ _ e);have b2:aR a0=some (.frz o (.dK (iS (bU fs N a)))):=b0 _ _ aV;refine⟨_,O,_,O,_,O,_,_,_,O,ak,a0,l,o,us,"sea" :: fs.map aN,bU fs N a,zs,O,al,b1,VF,ai,r,O,b2,O,am _ _ ag,ns,λ j fl cj a1 bx b3 st bz=>?_⟩;have bM:=am.trans a1;have b4:=IsL.same a1 _ _ b1;refine⟨_,O,_,O,_,O,_,O,_,_,_,O,ak,a0,j,us,"sea" :: fs.map aN,bU fs N a,fl,O,a1 _ _ al,b4,VF,ai,r,O,.inr ⟨o,a1 _ _ b2⟩,O,.inl b3,λ bO I J ck a7 cm bR bV bW op cn=>?_⟩;have an:=bM.trans a7;refine⟨_,O,_,O,_,_,_,_,ak,bO,l,us,"sea" :: fs.map aN,bU fs N a,J,I,zs,a,O,O,(a1.trans a7) _ _ al,IsL.same a7 _ _ b4,VF,ai,r,O,.inl bR,bV,O,an _ _ ag,aw,λ z m=>eY _ (sub z m),O,λ a2 lk a8 D b5 c0 b6 c1 c2 c3=>?_⟩;have ao:=Nn r bz bW op c2 c3;have c4:=an.trans b5;have ap:=(a7.trans b5) _ _ b3;have c5:H j=aG:=am.free bx;refine⟨_,O,j,_,O,ap,λ k=>?_⟩;have aq:aM H (aI D j (.frz k (.dK (fN (bU fs N a) fl)))):=c4.over c5;have c6:iU D (aI D j (.frz k (.dK (fN (bU fs N a) fl)))):=λ b ys e=>by
  rw[bD (λ c=>by rw[c,ap] at e;cases e)];exact e
 have b7:IsL (aI D j (.frz k (.dK (fN (bU fs N a) fl)))) ((jR (bU fs N a) (keys I) (keys a2)).map (lV a)) a8:=IsL.keep c6 _ _ (lT λ d m=>by obtain⟨s,_,rfl⟩:=cP.mp m;rfl) c1;have ar:aI D j (.frz k (.dK (fN (bU fs N a) fl))) lk=some (.lst a8):=by rw[bD (q9 b6 ap (by intro c;cases c))];exact b6
 have a9:aI D j (.frz k (.dK (fN (bU fs N a) fl))) j=some (.frz k (.dK (fN (bU fs N a) fl))):=aV;generalize aI D j (.frz k (.dK (fN (bU fs N a) fl)))=c7 at aq b7 ar a9;refine z6 (by rw[tH];omega) (λ i ys H'=>aM c7 H'/\IsL H' (ta ((bU fs N a).take i) fl) ys) ⟨aM.refl _,O⟩ ?_ ?_ ?_
 .rintro i ys H' hi ⟨U,a3⟩;refine⟨U _ _ a9,?_⟩;have:=a3.length;unfold ta at this;have:=l3 (λ g:cC=>!decide (fl g.nm=0)) ((bU fs N a).take i);rw[dU] at this;rw[aS] at *;omega
 .rintro i c8 ys H' co cp as ⟨U,a3⟩ k1 k2;unfold fN at as;rw[dO] at as;obtain⟨g,b8,c9⟩:=kD.mp as;have ca:=dN b8;have cb:kV c8.1=V.str g.nm:=by rw[← c9];rfl
  rw[cb];have b9:fE (fN (bU fs N a) fl) (Sum.inr g.nm)=some (.int (fl g.nm)):=rb (f:=λ g=>V.int (fl g.nm)) r.nd ca;have aa:=v9 (P:=λ g:cC=>!decide (fl g.nm=0)) b8;refine⟨_,O,_,O,j,_,O,.inl ⟨_,Sum.inr g.nm,.inr ⟨k,U _ _ a9⟩,O,b9.symm⟩,O,_,O,?_⟩;rw[nG];cases ba:(!decide (fl g.nm=0)) with
  | false =>
   rw[ba] at aa;refine cG (k2 _ ⟨U,?_⟩);unfold ta at a3 ⊢;rw[aa];simpa using a3
  | true =>
   rw[ba] at aa;refine cU ⟨_,O,_,O,_,O,j,_,O,.inl ⟨_,Sum.inr g.nm,.inr ⟨k,U _ _ a9⟩,O,b9.symm⟩,cQ O,λ M bb=>k1 _ _ ⟨U.trans (aM.upd bb),?_⟩⟩;unfold ta;rw[aa,if_pos O,dP];exact IsL.snoc (show bK _ (EN fl g) (.ref M) from⟨M,_,O,aV,_,_,O,O,_,_,O,O,O⟩) (IsL.same (aM.upd bb) _ _ a3)
 rintro a4 bc ⟨ac,bd⟩;rw[tH,dY (bQ _)] at bd;intro Y au;have ae:=aM.upd (o:=.lst a4) au;have be:aI bc Y (.lst a4) Y=some (.lst a4):=aV;have af:=aq.trans (ac.trans ae);have cc:=(aq.trans ac).free au;have av:=ac.trans ae;have bf:=IsL.same ae _ _ bd;have cd:lk≠Y:=dC (ac _ _ ar) au;generalize aI bc Y (.lst a4)=cq at ae be af av bf;have bg:=IsL.same av _ _ b7;have bh:=av _ _ ar;have cr:=AW (G:=bU fs N a) (R:=keys I) (B:=keys a2);refine⟨_,O,_,O,_,_,O,p,fs,N,(jR (bU fs N a) (keys I) (keys a2)).map (lV a),O,L.same af,⟨lk,a8,O,bh,bg⟩,by rw[aS];omega,Jh a6 ax r ao.bout,_,O,_,O,cQ O,λ t bi=>?_⟩;have a5:=aM.upd (o:=.tup [.int (ve N ((jR (bU fs N a) (keys I) (keys a2)).map (lV a))),.ref lk,.ref Y]) bi;refine q t lk Y a8 a4 fl (keys I) (keys a2) _ (af.trans a5) (af.free bi) (an.free c0) cc cd ?_ (a5 _ _ bh) (IsL.same a5 _ _ bg) (a5 _ _ be) (IsL.same a5 _ _ bf) st ao;rw[aV,Le a6 r st ao]
theorem LB(b:gM a G):lA G [] 0:=by
 refine⟨⟨λ_=>aJ,O,λc m=>(nomatch m),oa λg _=>if_pos O⟩,λX _ _=>?_⟩;have:dD G (λ_=>(0:Int))<=dD G (nK X):=sT λg m=>by
  have:=b.cap g m;unfold nK;split<;>omega
 rw[oa λ_ _=>O]at this;exact this
inductive Hi(x:V)(H:aD)(Q:aP):Prop
 |mk:∀L:Int,x=.int L->hgt L=aC->Q (.int 0) H->Hi x H Q
def CN:cA:=sp1 (Hi)
theorem TL(T:Txt K mg C):bA P w K mg base 3 "cost_of_none" ["height"] CN:=by
 refine T.Ze.fc TH jN (λf e A outer s H vs Q E c h=>?_);obtain⟨x,rfl,a,rfl,d,q⟩:=h;refine⟨_,(bB (fD (iF (fY (bZ (p7 T) (c.mono VD) (aF (pv 0) aL)))) (bF o1) fC) (bF (cJ aQ))),?_⟩;refine⟨_,O,_,O,.int a,O,_,O,?_⟩;rw[show kY (.int a)=aC from d];exact cG q
inductive Hh(C:aB)(x y u:V)(H:aD)(Q:aP):Prop
 |mk:∀(p l:aB)(fs N:List aH)(zs:List aA)(L:Int),x=.ref p->eZ C H p fs N->y=.ref l->H l=some (.lst (zs.map V.str))->zs.Nodup->(∀z∈zs,z∈fs.map aN)->u=.int L->hgt L=aC->(∀(c:Int)(H':aD),aM H H'->lA (bU fs N L) zs c->Q (.int c) H')->Hh C x y u H Q
def DO(C:aB):cA:=kB (Hh C)
theorem My(T:Txt K mg C):bA P w K mg base 7 "cost" ["land","fields","height"] (DO C):=by
 refine T.Zf.fc Mn k9 (λf J A outer s H vs Q E c h=>?_);obtain⟨x,y,u,rfl,p,l,fs,N,zs,a,rfl,L,rfl,b,m,sub,rfl,d,q⟩:=h;have n:=(iE L).1;have o:=(iE L).2;have g:=rN n o a;refine⟨_,(bB (fD (gU.pt (u9 (fY (dB (kL (K:=K) O) O T.q23 jA (aF (pv 1) (aF (kz T.q25 kW) aL)))) (wN (eU lx (dB (jt (K:=K) O) O T.q24 iD (aF (pv 1) aL)) aQ (eI _))))) (bF (cJ (bZ (TL T) (c.mono VD) (aF (pv 2) aL)))) fC) (bF (cJ (cF (cR (K:=K) O) (bZ (IW T) (c.mono VD) (aF (pv 0) (aF (pv 1) (aF (pv 2) aL)))) aQ (λ_ _=>O))))),?_⟩;refine⟨_,O,_,_,_,_,_,O,O,js.lst b,mY _ _,_,O,?_⟩;refine cU ?_;refine⟨_,O,l,_,O,.inl (aT.of b),O,_,O,?_⟩;cases zs with
 |nil=>
  show(if aC=aC then _ else _);exact cU ⟨_,O,_,O,a,O,d,q 0 H (aM.refl _) (LB g)⟩
 |cons r z=>
  rw[decide_eq_false (λe=>by have:=V.int.inj e;rw[aS,hJ]at this;omega)];refine cG ?_;refine⟨_,O,_,O,_,O,_,_,_,O,p,l,fs,N,r::z,a,O,L,O,b,by rw[hJ];omega,m,sub,O,d,λt lk M U Y a0 R B H' D a1 a2 a3 a4 G a5 a6 a7 a8 st I=>?_⟩;exact⟨t,_,0,_,O,O,bY.of G,cE (j:=0) O,q _ H' D (KL g st I)⟩
noncomputable def RH:aA:=("lists_of_places":aA)++".<locals>."++"<lambda>"
abbrev fR (a:aB) (H:aD):Prop:=fZ a ⟨204,29,204,59⟩ RH H
inductive HE(Tb:aB)(x:V)(H:aD)(Q:aP):Prop
 |mk:∀n:Nat,x=.int n->1<=n->n<=5->fR Tb H->(∀(D:aB)(ps:List (aB×List Int))(H':aD),fV Tb H H'->fR Tb H'->H' D=some (.lst (ps.map λp=>V.ref p.1))->k8 H' ps->(∀p∈ps,H p.1=aG)->ps.map (·.2)=nZ n->Q (.ref D) H')->HE Tb x H Q
def CJ(a:aB):cA:=sp1 (HE a)
theorem SX{f:L2.St->aD->Prop}{Y σ':L2.St}{H:aD}(e:Y=σ')(h:f σ' H):f Y H:=e▸h
theorem iJ(e:Y.set i (some v)=σ')(h:Q σ' H):oo i v Y H Q:=by
 unfold oo;rw[e];exact h
theorem Jb:∀{ns:List Int} {xs:List V},IsL H (ns.map aH.int) xs->xs=ns.map V.int
 |[],xs,h=>h
 |n::ns,xs,h=>by
  obtain⟨v,vs,rfl,e,r⟩:=h;cases(show v=.int n from e);rw[Jb r];rfl
theorem Lu(T:Txt K mg C)(B:kJ K mg base "lists_of_places" c a7):bA P w K mg base 5 "lists_of_places" ["count"] (CJ a7):=by
 refine T.Zg.fcC B vB jN (λf A outer s H vs Q E ap h=>?_);obtain⟨x,rfl,n,rfl,a8,a9,aa,q⟩:=h;have bb:=gB;have KB:yX (ER (sS (wl (λxs H Q=>∃a ys,xs=[.ref a]/\(aT K H a ys\/bY K H a ys)/\Q (.int ys.length) H) (sS (tQ 0) rf)) (sS (tQ 0) rf))):=λa ns H Q ea q=>⟨_,O,a,_,O,.inl (aT.of ea),_,O,cQ O,λt aq=>q t _ (aM.upd aq) (by rw[aV,aS])⟩
 refine⟨_,(bB (cH (i:=1) vB.nd O VG (eA (aF (eA aL) aL))) (bB (k4 kt O (oX O T.q28 (aF (pv 0) aL)) (dJ (i:=2) vB.nd O (Or.inr O)) (bF (cH (i:=1) vB.nd O VG (bC o9 (pv 1) (fM ["some","place"] 1 [2] O (eV (pv 1)) (λR=>dJ (i:=0) (VE:eG (["some","place"]:List aA)) O VG) (eN VD) (λR=>gN) (λR=>(bC o9 (pv 0) (eA (aF (pv 1) aL))))))))) (bF (cJ (Nu (k:=0) (ap.mono VD) O T.q31 (pv 1) (PJ B O O O O) ⟨O,O,O,VE,O,VE,VE⟩ (λ_ _ _ _=>O) (λ_ _ _ _ _ _=>(jd (aF (dB (jt (K:=K) O) O T.q24 iD (aF (pv 0) aL)) (aF (pv 0) aL)))) KB))))),?_⟩;refine⟨cQ O,λd ac=>?_⟩;have ae:=aM.upd (o:=.lst []) ac;have af:aI H d (.lst []) d=some (.lst []):=aV;generalize aI H d (.lst [])=H0 at ae af;refine⟨cQ O,λy ar=>?_⟩;have U:=aM.upd (o:=.lst [.ref d]) ar;have ag:aI H0 y (.lst [.ref d]) y=some (.lst [.ref d]):=aV;have ah:IsL (aI H0 y (.lst [.ref d])) ((iG 0).map λns=>aH.lst (ns.map aH.int)) [.ref d]:=⟨_,_,O,⟨d,_,O,U _ _ af,O⟩,O⟩
 generalize aI H0 y (.lst [.ref d])=z at U ag ah;have ai:=ae.trans U;refine iJ (σ':=[some (.int n),some (.ref y),aG]) O ?_;refine⟨_,O,n,O,VF,VF,p9 (n:=n) (λi Y H'=>∃(l:aB)(us:List V)(a0:Option V),Y=[some (.int n),some (.ref l),a0]/\aM z H'/\H' l=some (.lst us)/\IsL H' ((iG i).map λns=>aH.lst (ns.map aH.int)) us/\∀v∈us,∃a,v=.ref a/\H a=aG) ⟨y,[.ref d],_,O,aM.refl _,ag,ah,λv m=>⟨d,fG.mp m,ac⟩⟩ ?_ ?_⟩
 .rintro i Y H' hi ⟨l,us,a0,rfl,aj,I,G,fr⟩;have cl:(iG i).length<=54:=by
   rw[wn];have:2^i<=2^5:=qC VD VF;omega
  have ak:∀ns∈iG i,ns.length<=5:=λns m=>by have:=vM i ns m;omega
  have es:iG (i+1)=iG i++(iG i).map (·++[(i:Int)]):=O;rw[es];generalize iG i=a1 at G cl ak;have as:=G.length;rw[aS]at as;refine⟨_,O,_,O,l,O,⟨_,aT.of I⟩,?_⟩;refine fP (F:=K) (xs:=us) VF (λj ys M=>aM H' M/\IsL M ((a1.take j).map λns=>aH.lst ((ns++[(i:Int)]).map aH.int)) ys/\∀v∈ys,∃a,v=.ref a/\H a=aG) ⟨aM.refl _,O,λ_ m=>nomatch m⟩ ?_ ?_ ?_
  .rintro j ys M bc ⟨g,u,_⟩;refine⟨aT.of (g _ _ I),?_⟩;have:=u.length;rw[aS,dU]at this;omega
  .rintro j bd ys M be bf al ⟨g,u,a2⟩ k1 k2;have bg:j<us.length:=(dI.mp al).1;obtain⟨ns,a3⟩:∃c,a1[j]?=some c:=⟨_,cY VF⟩
   obtain⟨v,ev,au⟩:=(IsL.same g _ _ G).get (show(a1.map λns=>aH.lst (ns.map aH.int))[j]?=some (aH.lst (ns.map aH.int)) by rw[dO,a3];rfl);rw[al]at ev;cases ev;obtain⟨av,xs,rfl,aw,ax⟩:=au;have ex:xs=ns.map V.int:=Jb ax;subst ex;have:=ak ns (dN a3);refine⟨_,O,_,O,cQ O,λay h1=>?_⟩;have r:=aM.upd (o:=.lst [.int (0+(i:Int))]) h1;refine⟨av,ay,_,_,O,O,r _ _ aw,aV,by rw[aS];show _+1<=_;omega,λJ h2=>k1 _ _ ⟨g.trans (r.trans (aM.upd h2)),?_,λv m=>?_⟩⟩;rotate_left
   .rcases gQ.mp m with m|m
    .exact a2 v m
    .exact⟨J,fG.mp m,(ai.trans (aj.trans (g.trans r))).free h2⟩
   rw[eL,a3,dP];refine IsL.snoc (show bK _ (aH.lst ((ns++[(i:Int)]).map aH.int)) (.ref J) from⟨J,_,O,aV,?_⟩) (IsL.same (r.trans (aM.upd h2)) _ _ u);rw[show ns.map V.int++[V.int (0+(i:Int))]=(ns++[(i:Int)]).map V.int by rw[dP,qO];rfl];exact wy _
  rintro ys bh ⟨g,u,a2⟩;rw[dY VF]at u;intro az aR;have r:=aM.upd (o:=.lst ys) aR;have b0:=u.length;rw[aS]at b0;refine⟨l,az,_,_,O,O,(g.trans r) _ _ I,aV,VF,λb1 b2=>?_⟩;have a4:=aM.upd (o:=.lst (us++ys)) b2;refine⟨b1,us++ys,_,O,aj.trans (g.trans (r.trans a4)),aV,?_,λv m=>(gQ.mp m).elim (fr v) (a2 v)⟩;rw[dP,fS];exact IsL.app (IsL.same (r.trans a4) _ _ u) (IsL.same (g.trans (r.trans a4)) _ _ G)
 .rintro Y H2 ⟨l,us,a0,rfl,g,I,G,fr⟩;obtain⟨ps,rfl,it,ep⟩:=Ct G;obtain⟨b3,L,b4,_⟩:=ya n a8 a9;have lp:ps.length=(iG n).length:=by rw[←ep,aS]
  have J:2<=ps.length/\ps.length<=54:=by
   rw[lp,wn];have:2^1<=2^n:=qC VD a8;have:2^n<=2^5:=qC VD a9;omega
  have a5:=ai.trans g;refine⟨_,O,l,ps,(oP n).toArray,O,I,it,J.1,VF,by rw[ep];exact b3,λi m=>by rw[lp];exact L i (by simpa using m),by rw[lp,eO];exact b4,aa.keep a5,λD b5 am b6 an=>?_⟩;have b7:(oP n).toArray.toList.map (λi=>(ps.map λp=>V.ref p.1).getD i .non)=((oP n).map λi=>ps.getD i (0,[])).map λp=>V.ref p.1:=by
   rw[fS];refine l4 λi m=>?_;have hi:=L i m;rw[←lp]at hi;show(ps.map λp=>V.ref p.1).getD i .non=V.ref (ps.getD i (0,[])).1;rw[qh,jV,cY hi];rfl
  rw[b7]at an;obtain⟨bi,b8,_⟩:=aa.keep a5;refine q D _ b5 (λb o b9 e=>am b o b9 (a5 _ _ e)) b6 an (λp m=>?_) (λp m=>?_) ?_
  .obtain⟨i,a6,rfl⟩:=cP.mp m;have hi:=L i a6;rw[←lp]at hi;have N:ps.getD i (0,[])∈ps:=by
    rw[jV,cY hi];exact qF hi
   refine am _ _ (λz=>?_) (it _ N);have ao:=it _ N;rw[z,b8]at ao;cases ao
  .obtain⟨i,a6,rfl⟩:=cP.mp m;have hi:=L i a6;rw[←lp]at hi;have N:ps.getD i (0,[])∈ps:=by
    rw[jV,cY hi];exact qF hi
   obtain⟨a,ea,ba⟩:=fr _ (cP.mpr ⟨_,N,O⟩);cases ea;exact ba
  .unfold nZ;rw[fS];refine l4 λi m=>?_;have hi:=L i m;rw[←ep];rw[←lp]at hi;show(ps.getD i (0,[])).2=(ps.map (·.2)).getD i [];rw[qh,jV,cY hi];rfl
theorem vm(k:fV a H H')(t:fR a H):re H H':=λb o e d=>k b o (λc=>by
 obtain⟨ps,f,_⟩:=t;rw[c,f]at e;cases e;cases d) e
theorem zT(k:fV c H H')(t:fR c H)(h:eZ C H x fs N):eZ C H' x fs N:=by
 have D:=vm k t;have tb:∀{a:aB} {N:List aH},m8 H a N->m8 H' a N:=fun⟨J,e,k1,i⟩=>⟨J,D _ _ e O,k1,IsL.sameD D _ _ i⟩
 obtain⟨⟨dx,d,f,e,g,j⟩,a,b⟩:=h;refine⟨⟨dx,d,f,k _ _ (λl=>?_) e,tb g,tb j⟩,a,b⟩;obtain⟨ps,m,_⟩:=t;rw[l,m]at e;cases e
theorem x7:∀k,∀ns∈iG k,ns.Nodup/\∀i∈ns,0<=i/\i<(k:Int)
 |0,ns,m=>by rw[fG.mp m];exact⟨.nil,λ_ m=>nomatch m⟩
 |k+1,ns,m=>by
  unfold iG at m;rcases gQ.mp m with m|m
  .obtain⟨a,b⟩:=x7 k ns m;exact⟨a,λi c=>by have:=b i c;omega⟩
  .obtain⟨d,f,rfl⟩:=cP.mp m;obtain⟨a,b⟩:=x7 k d f;refine⟨ut.mpr ⟨a,List.pairwise_singleton _ _,λx g y h e=>?_⟩,λi c=>?_⟩
   .have:=b x g;rw[e,fG.mp h]at this;omega
   .rcases gQ.mp c with c|c
    .have:=b i c;omega
    .rw[fG.mp c];omega
def kK(zs:List aA)(i:Int):aA:=zs.getD i.toNat ""
theorem vg(a:0<=i)(h1:i<zs.length):kU (zs.map V.str) i=some (.str (kK zs i))/\zs[i.toNat]?=some (kK zs i):=by
 obtain⟨k,rfl⟩:=kC a;have b:k<zs.length:=VF;have e:zs[k]?=some (kK zs (k:Int)):=by
  unfold kK;rw[oz,jV,cY b];rfl
 exact⟨cE (by rw[dO,e];rfl),by rw[oz];exact e⟩
theorem Rr(g:zs.Nodup):∀{ns:List Int},ns.Nodup->(∀i∈ns,0<=i/\i<(zs.length:Int))->(ns.map (kK zs)).Nodup/\∀d∈ns.map (kK zs),d∈zs:=λ{ns} h1 h2=>by
 refine⟨?_,λd m=>?_⟩
 .induction ns with
  |nil=>exact .nil
  |cons i ns h=>
   rw[dW];refine iL.mpr ⟨λm=>?_,h (iL.mp h1).2 λj c=>h2 j (eY _ c)⟩;obtain⟨j,c,e⟩:=cP.mp m;have a:=(vg (h2 i eJ).1 (h2 i eJ).2).2;have b:=(vg (h2 j (eY _ c)).1 (h2 j (eY _ c)).2).2;rw[e]at b;have:=wx g a b;have:=h2 i eJ;have:=h2 j (eY _ c);have k:i=j:=VF;exact(iL.mp h1).1 (k▸c)
 .obtain⟨i,f,rfl⟩:=cP.mp m;exact dN (vg (h2 i f).1 (h2 i f).2).2
noncomputable def mX(X:aB)(H:aD):aD:=λb=>if b=X then aG else H b
theorem NT(X:aB)(H:aD):aM (mX X H) H:=λb o e=>by
 unfold mX at e;by_cases h:b=X
 .rw[if_pos h]at e;cases e
 .rw[if_neg h]at e;exact e
theorem Ek(n:b≠X)(e:H b=some o):mX X H b=some o:=by
 unfold mX;rw[if_neg n];exact e
theorem Rp(S:aM H H'):aM (mX X H) (mX X H'):=λb o e=>by
 unfold mX at e ⊢;by_cases h:b=X
 .rw[if_pos h]at e;cases e
 .rw[if_neg h]at e ⊢;exact S _ _ e
theorem Si:aM (mX X H) (mX X (aI H X o)):=λb G e=>by
 unfold mX at e ⊢;by_cases h:b=X
 .rw[if_pos h]at e;cases e
 .rw[if_neg h]at e ⊢;rw[bD h];exact e
theorem Nb(x:fZ T pos j H)(h:H lt=some (.lst us)):fZ T pos j (aI H lt (.lst vs)):=by
 obtain⟨ps,e,t,r⟩:=x;refine⟨ps,by rw[bD (λa=>by rw[a,h]at e;cases e)];exact e,t,r.imp id fun⟨c,d,b⟩=>⟨c,d,by rw[bD (λa=>by rw[a,h]at b;cases b)];exact b⟩⟩
noncomputable def s8(r:List aA×Int):aH:=.tup [.lst (r.1.map aH.str),.int r.2]
structure Told (G:List cC) (zs:List aA) (rs:List (List aA×Int)):Prop where
 cos:rs.map (·.1)=(nZ zs.length).map λns=>ns.map (kK zs)
 lst:∀r∈rs,lA G r.1 r.2
inductive Hg(C Tb:aB)(x y u:V)(H:aD)(Q:aP):Prop
 |mk:∀(p l:aB)(fs N:List aH)(zs:List aA)(L:Int),x=.ref p->eZ C H p fs N->y=.ref l->H l=some (.lst (zs.map V.str))->1<=zs.length->zs.length<=5->zs.Nodup->(∀z∈zs,z∈fs.map aN)->u=.int L->hgt L=aC->fR Tb H->(∀(D:aB)(us:List V)(rs:List (List aA×Int))(H':aD),fV Tb H H'->fR Tb H'->H' D=some (.lst us)->IsL H' (rs.map s8) us->Told (bU fs N L) zs rs->Q (.ref D) H')->Hg C Tb x y u H Q
def IM(C a:aB):cA:=kB (Hg C a)
theorem Jz(T:Txt K mg C)(B:kJ K mg base "lists_of_places" c g):bA P w K mg base 8 "companies" ["land","fields","height"] (IM C g):=by
 refine T.Zh.fc td k9 (λf bR A outer s H vs Q E al h=>?_);obtain⟨x,y,u,rfl,p,l,fs,N,zs,J,rfl,L,rfl,M,a2,a6,au,sub,rfl,av,am,q⟩:=h;have bV:=gB;refine⟨_,(bB (jK (bZ (tc T) (al.mono VD) (aF (pv 0) (aF (pv 1) (aF (pv 2) aL))))) (bB (fD (eU pp (dB (jt (K:=K) O) O T.q24 iD (aF (pv 1) aL)) (lB T.q15) (eI _)) (bF o1) fC) (bB (cH (i:=3) td.nd O VG (eA aL)) (bB (k4 kt O (eV (bZ (Lu T B) (al.mono VD) (aF (dB (jt (K:=K) O) O T.q24 iD (aF (pv 1) aL)) aL))) (dJ (i:=4) td.nd O VG) (bB (mh (i:=5) td.nd O ["place","fields"] 1 [1] O (eV (pv 4)) (λR=>dJ (i:=0) (VE:eG (["place","fields"]:List aA)) O VG) (eN VD) (λR=>gN) (λR=>(cF (jJ (K:=K) O) (pv 1) (pv 0) (λ_ _=>O)))) (bF (jK (k7 lg nb m9 nC (pv 3) (aF (jd (aF (pv 5) (aF (bZ (My T) (al.mono VD) (aF (pv 0) (aF (pv 5) (aF (pv 2) aL)))) aL))) aL)))))) (bF (cJ (pv 3))))))),?_⟩;refine⟨_,O,_,O,_,O,_,_,_,O,p,l,fs,N,zs,J,O,L,O,M,a2,au,sub,O,av,λz U=>?_⟩;refine⟨_,O,l,_,O,.inl (aT.of (U _ _ M)),_,_,O,O,_,O,?_⟩;have bf:decide ((8:Int)<((zs.map V.str).length:Int))=aJ:=decide_eq_false (by rw[aS];omega);rw[bf];refine cG ?_;refine⟨cQ O,λlt aw=>?_⟩;have an:=aM.upd (o:=.lst []) aw;have aa:aI z lt (.lst []) lt=some (.lst []):=aV;have bg:∀b o,z b=some o->b≠lt:=λb o e=>dC e aw;generalize aI z lt (.lst [])=H2 at an aa;refine iJ (σ':=[some (.ref p),some (.ref l),some (.int J),some (.ref lt),aG,aG]) O ?_;have a0:=U.trans an;refine⟨_,O,l,_,O,.inl (aT.of (a0 _ _ M)),_,O,zs.length,by rw[aS],a2,a6,am.keep a0,λD ps bh ac bi ae it fr ep=>?_⟩;have ax:fR g H2:=am.keep a0;have ay:∀b (ys:List V),H2 b=some (.lst ys)->b≠g:=λb ys e d=>by
  obtain⟨bj,ao,_⟩:=ax;rw[d,ao]at e;cases e
 have bW:=ac _ _ (ay _ _ (a0 _ _ M)) (a0 _ _ M);have az:=ac _ _ (ay _ _ aa) aa;have c0:=zT ac ax (L.same a0);have c1:ps.length<=54/\1<=ps.length:=by
  have:=congrArg mI ep;rw[aS]at this;unfold nZ at this;rw[aS]at this;obtain⟨_,_,bk,_⟩:=ya zs.length a2 a6;rw[bk,wn]at this;have:2^1<=2^zs.length:=qC VD a2;have:2^zs.length<=2^5:=qC VD a6;omega
 have bl:D≠lt:=λd=>by
  rw[d,az]at ae;have:=congrArg mI (dX.lst.inj (gK ae));rw[aS]at this;simp at this;omega
 have c2:∀(H':aD),fV g H2 H'->fV g H H':=λH' k b o n e=>k b o n (a0 _ _ e);have bm:fV g z bh:=λb o n e=>ac b o n (an _ _ e);have aR:fR g z:=am.keep U;have bn:∀q∈ps,q.1≠lt:=λq m d=>by
  have:=fr q m;rw[d,aa]at this;cases this
 have bo:∀q∈ps,q.2.Nodup/\∀i∈q.2,0<=i/\i<(zs.length:Int):=λq m=>by
  have:q.2∈nZ zs.length:=by rw[←ep];exact cP.mpr ⟨q,m,O⟩
  exact x7 _ _ ((xW a2 a6).mp this)
 refine⟨D,O,⟨_,aT.of ae⟩,wA (K:=K) (a:=D) (xs:=ps.map λq=>V.ref q.1) (λi Y H'=>∃(af a7:Option V)(us:List V)(G:List (List aA×Int)),Y=[some (.ref p),some (.ref l),some (.int J),some (.ref lt),af,a7]/\fV g z H'/\fR g H'/\H' D=some (.lst (ps.map λq=>V.ref q.1))/\k8 H' ps/\H' lt=some (.lst us)/\IsL (mX lt H') (G.map s8) us/\G.map (·.1)=(ps.take i).map (λq=>q.2.map (kK zs))/\∀r∈G,lA (bU fs N J) r.1 r.2)
  ⟨_,_,[],[],O,bm,bi,ae,it,az,O,O,λ_ m=>nomatch m⟩ ?_ ?_ ?_⟩
 .rintro i Y H' hi ⟨af,a7,us,G,rfl,a3,ag,d',ah,t',a8,a4,ai⟩;exact aT.of d'
 .rintro i c3 Y H' b0 ⟨af,a7,us,G,rfl,a3,ag,d',ah,t',a8,a4,ai⟩;rw[dO]at b0;obtain⟨⟨a9,ns⟩,b1,rfl⟩:=kD.mp b0;have ap:(a9,ns)∈ps:=dN b1;have b2:H' a9=some (.lst (ns.map V.int)):=ah _ ap;obtain⟨bp,b3⟩:=bo _ ap;have c4:ns.length<=5:=by
   have:ns∈nZ zs.length:=by rw[←ep];exact cP.mpr ⟨_,ap,O⟩
   have:=vM _ _ ((xW a2 a6).mp this);omega
  have bq:l≠g:=λd=>by
   obtain⟨bj,ao,_⟩:=aR;have:=U _ _ M;rw[d,ao]at this;cases this
  have br:H' l=some (.lst (zs.map V.str)):=a3 _ _ bq (U _ _ M);refine iJ (σ':=[some (.ref p),some (.ref l),some (.int J),some (.ref lt),some (.ref a9),a7]) O ?_;refine⟨_,O,a9,O,⟨_,aT.of b2⟩,?_⟩;refine fP (F:=K) (xs:=ns.map V.int) (by rw[aS];omega) (λj ys aj=>H'=aj/\ys=((ns.take j).map (kK zs)).map V.str) ⟨O,O⟩ ?_ ?_ ?_
  .rintro j ys aj c5 ⟨rfl,rfl⟩;exact⟨aT.of b2,by rw[aS,aS,dU];omega⟩
  .rintro j c6 ys aj c7 c8 b4 ⟨rfl,rfl⟩ k1 k2;rw[dO]at b4;obtain⟨b5,b6,rfl⟩:=kD.mp b4;have b7:=b3 b5 (dN b6);refine⟨_,O,_,O,l,_,b5,_,O,O,aT.of br,(vg b7.1 b7.2).1,k1 _ _ ⟨O,?_⟩⟩;rw[eL,b6,dP,dP];rfl
  rintro ys aj ⟨rfl,rfl⟩;rw[aS,dY (bQ _)];intro t aq;obtain⟨bs,bt⟩:=Rr au bp b3;have ak:=aM.upd (o:=.lst ((ns.map (kK zs)).map V.str)) aq;have ar:aI H' t (.lst ((ns.map (kK zs)).map V.str)) t=some (.lst ((ns.map (kK zs)).map V.str)):=aV;have bu:t≠lt:=λd=>by rw[d,t']at aq;cases aq
  generalize aI H' t (.lst ((ns.map (kK zs)).map V.str))=bv at ak ar;refine iJ (σ':=[some (.ref p),some (.ref l),some (.int J),some (.ref lt),some (.ref a9),some (.ref t)]) O ?_;have bw:eZ C bv p fs N:=(zT a3 aR (L.same U)).same ak;refine⟨_,O,.inl ⟨O,_,aT.of (ak _ _ t')⟩,_,O,_,O,_,O,_,O,_,_,_,O,p,t,fs,N,_,J,O,bw,O,ar,bs,(λd m=>sub d (bt d m)),O,av,λa5 b8 b9 bx=>?_⟩;refine⟨cQ O,λI mt=>?_⟩;have as:=aM.upd (o:=.tup [.ref t,.int a5]) mt;have ba:aI b8 I (.tup [.ref t,.int a5]) I=some (.tup [.ref t,.int a5]):=aV;have bb:=ak.trans b9;have bz:I≠lt:=λd=>by have:=bb _ _ t';rw[d,this]at mt;cases mt
  generalize aI b8 I (.tup [.ref t,.int a5])=c9 at as ba;have a1:=bb.trans as;have bM:=a8.length;rw[aS]at bM;have bO:=congrArg mI a4;rw[aS,aS,dU]at bO;refine⟨lt,us,.ref I,O,O,a1 _ _ t',VF,?_⟩;refine⟨_,_,us++[.ref I],G++[(ns.map (kK zs),a5)],O,(λb o n e=>by rw[bD (bg b o e)];exact a1 _ _ (a3 b o n e)),Nb (ag.keep a1) (a1 _ _ t'),by rw[bD bl];exact a1 _ _ d',(λr m=>by rw[bD (bn r m)];exact a1 _ _ (ah r m)),aV,?_,?_,?_⟩
  .rw[dP];refine IsL.same Si _ _ (IsL.snoc (show bK _ (s8 (ns.map (kK zs),a5)) (.ref I) from⟨I,_,O,Ek bz ba,_,_,O,⟨t,_,O,Ek bu ((b9.trans as) _ _ ar),IsL.strs _ _⟩,_,_,O,O,O⟩) (IsL.same (Rp a1) _ _ a8))
  .rw[dP,a4,eL,b1,dP];rfl
  .intro r m;rcases gQ.mp m with m|m
   .exact ai r m
   .rw[fG.mp m];exact bx
 .rintro Y H' ⟨af,a7,us,G,rfl,a3,ag,d',ah,t',a8,a4,ai⟩;rw[aS,dY (bQ _)]at a4;refine⟨_,O,q lt us G H' (λb o n e=>a3 b o n (U _ _ e)) ag t' (IsL.same (NT _ _) _ _ a8) ⟨?_,ai⟩⟩;rw[a4,←ep,fS];rfl
open Mt73
inductive Hx(x y:V)(H:aD)(Q:aP):Prop
 |mk:∀i j:Nat,x=.int i->y=.int j->Q (.int (Nat.gcd i j:Nat)) H->Hx x y H Q
def Ez:cA:=gY (Hx)
theorem NM{a b:Nat}(h:b≠0):((a:Int)%(b:Int))=((a%b:Nat):Int)/\Nat.gcd b (a%b)=Nat.gcd a b/\a%b<b:=
 ⟨(Int.natCast_emod a b).symm,by rw[Nat.gcd_comm b,←Nat.gcd_rec,Nat.gcd_comm],Nat.mod_lt _ VF⟩
theorem CZ(a b:Int):(!decide (V.int a=V.int b))=!decide (a=b):=by
 by_cases h:a=b
 .subst h;simp
 .rw[decide_eq_false h,decide_eq_false (λc=>h (by cases c;rfl))]
theorem SY(T:Txt K mg C):bA P w K mg base 1 "greatest_divisor" ["one","other"] Ez:=by
 refine T.Zi.fc vA iC (λ f p A outer s H vs Q E r h=>?_);obtain⟨x,y,rfl,i,j,rfl,rfl,q⟩:=h;refine⟨_,(bB (wu kt (eU pj (pv 1) aQ (eI _)) (bB (cH (i:=2) vA.nd O VG (bC gR (pv 0) (pv 1))) (bB (cH (i:=0) vA.nd O VG (pv 1)) (bF (cH (i:=1) vA.nd O VG (pv 2)))))) (bF (cJ (pv 0)))),?_⟩;refine wm (λ Y H'=>∃(a b:Nat)(v:Option V),Y=[some (.int a),some (.int b),v]/\H'=H/\Nat.gcd a b=Nat.gcd i j) (λ Y _=>match Y with | [_,some (.int b),_]=>b.toNat | _=>0) ⟨i,j,_,O,O,O⟩ ?_ ?_
 .rintro Y H' ⟨a,b,v,rfl,rfl,e⟩;refine⟨_,O,O,_,O,?_⟩;rw[CZ];by_cases d:b=0
  .subst d;rw[Nat.gcd_zero_right] at e;refine cG ⟨_,O,?_⟩;rw[e];exact q
  .obtain⟨g,c,l⟩:=NM (a:=a) d;have m:(!decide ((b:Int)=0))=aC:=by
    rw[decide_eq_false VF];rfl
   rw[m];refine cU ⟨_,O,_,O,_,_,O,O,VF,_,O,_,O,⟨b,a % b,some (.int ((a:Int) % (b:Int))),?_,O,by rw[c,e]⟩,?_⟩
   .show [some (V.int b),some (V.int ((a:Int) % (b:Int))),some (V.int ((a:Int) % (b:Int)))]=_;rw[g]
   .show ((a:Int) % (b:Int)).toNat<b;rw[g];exact l
 .intro Y H Q t h n;obtain⟨v,e,o,k,c,q⟩:=n;exact⟨v,e,o,k,c,h _ _ q⟩
def Fr(H:aD)(x:V)(a b:Int):Prop:=∃l,x=.ref l/\H l=some (.tup [.int a,.int b])
theorem Fr.same(S:aM H H')(h:Fr H x a b):Fr H' x a b:=by
 obtain⟨l,rfl,e⟩:=h;exact⟨l,O,S _ _ e⟩
inductive HF(x y:V)(H:aD)(Q:aP):Prop
 |mk:∀a b:Int,x=.int a->y=.int b->0<b->b.natAbs<=1000000->(∀v H',aM H H'->Fr H' v (low a b).1 (low a b).2->Q v H')->HF x y H Q
def vk:cA:=gY (HF)
theorem Pm(a:Int):(if a<0 then -a else a)=((a.natAbs:Nat):Int):=by split<;>omega
theorem Pc{a b:Int}(c:0<b):∃n:Nat,b=n/\Nat.gcd a.natAbs n=Int.gcd a b:=by
 obtain⟨n,rfl⟩:=kC (uQ c);exact⟨n,O,O⟩
theorem Qq(c:0<b)(h:b.natAbs<=1000000):(((Int.gcd a b:Nat):Int)).natAbs.log2<9000:=by
 refine PU ?_;have h1:Int.gcd a b<=b.natAbs:=Nat.gcd_le_right _ VF;show Int.gcd a b<=_;exact fF h1 h
theorem zc(T:Txt K mg C):bA P w K mg base 2 "fraction" ["top","bottom"] vk:=by
 refine T.Zj.fc GC iC (fun f o A outer s H vs Q E j h=>?_);obtain⟨x,y,rfl,a,b,rfl,rfl,c,k,q⟩:=h;obtain⟨n,rfl,l⟩:=Pc (a:=a) c;have d:=yk (a:=a) c;have e:=Qq (a:=a) c k;refine⟨_,(bB (cH (i:=2) GC.nd O VG (bZ (SY T) (j.mono VD) (aF (dB x6 O T.q18 z9 (aF (pv 0) aL)) (aF (pv 1) aL)))) (bF (cJ (jd (aF (bC hZ (pv 0) (pv 2)) (aF (bC hZ (pv 1) (pv 2)) aL)))))),?_⟩;refine⟨_,O,_,O,_,O,_,_,O,a.natAbs,n,by rw[Pm],O,?_⟩;rw[l];refine⟨_,O,_,O,_,_,O,O,⟨d,e⟩,_,O,_,O,_,_,O,O,⟨d,e⟩,cQ O,fun p m=>?_⟩;exact q _ _ (aM.upd m) ⟨p,O,aV⟩
inductive Hp(x:V)(H:aD)(Q:aP):Prop
 |mk:∀n:Nat,x=.int n->n<=8->Q (.int (fac n:Nat)) H->Hp x H Q
def yL:cA:=sp1 (Hp)
theorem yG:∀n,n<=8->fac n<=40320:=λn h=>(by decide:∀n,n<9->fac n<=40320) n (Nat.lt_succ_of_le h)
theorem Gp(T:Txt K mg C):bA P w K mg base 1 "orders_of" ["count"] yL:=by
 refine T.Zn.fc vH jN (λf c A outer s H vs Q E d h=>?_);obtain⟨x,rfl,n,rfl,e,q⟩:=h;refine⟨_,(bB (cH (i:=1) vH.nd O VG aQ) (bB (k4 kt O (Mu O T.q28 (aF aQ (aF (bC km (pv 0) aQ) aL))) (dJ (i:=2) vH.nd O VG) (bF (DT (i:=1) vH.nd O VG (pv 2) Ql))) (bF (cJ (pv 1))))),?_⟩;refine⟨_,O,_,_,O,O,_,_,O,⟨VD,VD,VF,VF⟩,?_⟩;have b:((n:Int)+1-1).toNat=n:=VF;rw[b];refine p9 (lo:=1) (n:=n) (λi Y H'=>∃a:Option V,Y=[some (.int n),some (.int (fac i:Nat)),a]/\H'=H) ⟨_,O,O⟩ ?_ ?_
 .rintro i Y H' hi ⟨a,rfl,rfl⟩;refine⟨_,O,_,O,_,_,O,O,(show vy _ _ from .inr ⟨VF,VF⟩).ok,some (.int (1+(i:Int))),?_,O⟩;show [some (V.int n),some (V.int ((fac i:Nat)*(1+(i:Int)))),some (V.int (1+(i:Int)))]=_;rw[show((fac i:Nat):Int)*(1+(i:Int))=((fac (i+1):Nat):Int) by rw[show fac (i+1)=fac i*(i+1) from O,xF,Int.add_comm];rfl]
 .rintro Y H' ⟨a,rfl,rfl⟩;exact⟨_,O,q⟩
inductive Hc(x y:V)(H:aD)(Q:aP):Prop
 |mk:∀a n:Nat,x=.int a->y=.int n->a<n->n<=5->Q (.int (fac a*fac (n-a-1):Nat)) H->Hc x y H Q
def BR:cA:=gY (Hc)
theorem Tz(T:Txt K mg C):bA P w K mg base 2 "orders_behind" ["ahead","count"] BR:=by
 refine T.Zo.fc Tw iC (λf d A outer s H vs Q E c h=>?_);obtain⟨x,y,rfl,a,n,rfl,rfl,e,g,q⟩:=h;refine⟨_,(bF (cJ (bC mj (bZ (Gp T) (c.mono VD) (aF (pv 0) aL)) (bZ (Gp T) (c.mono VD) (aF (bC mi (bC mi (pv 1) (pv 0)) aQ) aL))))),?_⟩;refine⟨_,O,_,O,a,O,VF,_,O,_,O,_,_,O,O,_,_,O,O,_,O,n-a-1,?_,VF,_,_,O,O,?_,?_⟩
 .show V.int _=V.int _;congr 1;omega
 .have:=yG a VF;exact .inl ⟨VF,VF⟩
 .show Q (.int (((fac a:Nat):Int)*((fac (n-a-1):Nat):Int))) H;rw[←xF];exact q
def mT(a:List aA):List aW:=a.map Sum.inr
theorem yE(a:List aA):(mT a).map kV=a.map V.str:=by
 unfold mT;rw[fS];rfl
theorem Cs(h:mT a=mT b):a=b:=by
 induction a generalizing b with
 |nil=>cases b with
  |nil=>rfl
  |cons y b=>cases h
 |cons x a c=>cases b with
  |nil=>cases h
  |cons y b=>
   have:=List.cons.inj h;rw[oG this.1,c this.2]
theorem QO(S:aM H H')(r:fB H d u):fB H' d u:=r.imp (S _ _) fun⟨o,e⟩=>⟨o,S _ _ e⟩
theorem rK{t:aD->Prop}{H:aD}{l:aB}{o:dX}(n:H l=aG)(h:∀H',aM H H'->H' l=some o->t H'):t (aI H l o):=h _ (aM.upd n) aV
def jk(zs:List aA):List (List aA):=(m6 zs.length).map (List.map λi=>zs.getD i "")
noncomputable def j8(G:List cC)(zs:List aA):List (List aW×V):=(jk zs).map λa=>(mT a,V.int (ku G a))
theorem Bt:∀{b:List (List aA)},a∈b->fE (b.map λa=>(mT a,V.int (ku G a))) (mT a)=some (.int (ku G a))
 |x::r,m=>by
  rw[dW];by_cases e:x=a
  .subst e;exact rB O
  .rw[rC (λh=>e (Cs h))];rcases eM.mp m with h|h
   .exact absurd h.symm e
   .exact Bt h
theorem Bu(m:a∈jk zs):fE (j8 G zs) (mT a)=some (.int (ku G a)):=Bt m
theorem LP(a:1<=zs.length)(b:zs.length<=5)(q:aA->Bool):zs.filter q∈jk zs:=by
 rw[MP];exact cP.mpr ⟨_,Lp _ _ a b,O⟩
theorem Qu(c:1<=zs.length)(d:zs.length<=5)(m:a∈jk zs):∀b∈a,b∈zs:=by
 obtain⟨ns,e,rfl⟩:=cP.mp m;intro b f;obtain⟨i,g,rfl⟩:=cP.mp f;have:=yB _ c d ns e i g;rw[jV,cY this];exact qF this
theorem Du(c:1<=zs.length)(d:zs.length<=5)(m:a∈jk zs)(e:b∈zs)(f:b∉a):a.length<zs.length:=by
 obtain⟨ns,g,rfl⟩:=cP.mp m;obtain⟨i,hi,rfl⟩:=List.getElem_of_mem e;rw[aS];refine OC _ c d ns g i (oB.mpr hi) λh=>f (cP.mpr ⟨i,h,?_⟩);rw[jV,cY hi];rfl
theorem Ph(y a:aA):decide (V.str y=V.str a)=decide (y=a):=by
 by_cases h:y=a
 .subst h;simp
 .rw[decide_eq_false h,decide_eq_false λe=>h (V.str.inj e)]
theorem ym:∀n,0<fac n
 |0=>Nat.one_pos
 |n+1=>Nat.mul_pos (ym n) (Nat.succ_pos n)
theorem yQ:∀n,n<=5->fac n<=720:=by
 intro n h;have:n=0\/n=1\/n=2\/n=3\/n=4\/n=5:=VF;rcases this with rfl|rfl|rfl|rfl|rfl|rfl<;>decide
noncomputable def kk(G:List cC)(zs:List aA)(a:aA)(k:Nat):Int:=dD ((jk zs).take k) λb=>rO (ku G) zs a b
theorem Jj(e:(jk zs)[i]?=some co):kk G zs a (i+1)=kk G zs a i+rO (ku G) zs a co:=by
 unfold kk;rw[eL,e,yx];show _+dD [co] _=_;rw[iA,tV];omega
theorem Sh(k:∀R,R (.ref d) H->p Y H R)(l:fB H d (.dT J))(Pv:aY->Nat->L2.St->aD->Prop)(a:∀o H',fV d H H'->H' d=some (.frz o (.dT J))->Pv o 0 Y H')
 (c:∀o i Y H,i<=J.length->Pv o i Y H->H d=some (.frz o (.dT J)))(f:∀o i h b Y H,J[i]?=some h->H b=some (.tup (h.1.map kV))->Pv o i Y H->g (.ref b) Y H λm H2=>tb {D with nx:=Pv o (i+1),ct:=Pv o (i+1),bk:=u D} m H2)
 (j:∀o Y H,Pv o J.length Y H->u D Y H):jv (ET (Ef p) g tb) u D Y H:=by
 refine k _ ?_;rcases l with e|⟨o,e⟩
 .exact⟨d,J,O,.inl ⟨e,λo=>Eh (Pv o) (a o _ (λb u n e=>by rw[bD n];exact e) aV) (c o) (f o) (j o)⟩⟩
 .exact⟨d,J,O,.inr ⟨o,e,Eh (Pv o) (a o H (λ_ _ _ e=>e) e) (c o) (f o) (j o)⟩⟩
theorem Dq(r:fB H d (.dT J))(f:H b=some (.tup (a.map V.str)))(e:fE J (mT a)=some (.int c)):kA H d (.ref b) (some (.int c)):=
 .inr ⟨J,mT a,b,r,O,by rw[f,yE],e.symm⟩
inductive HZ(x y u:V)(H:aD)(Q:aP):Prop
 |mk:∀(z:aA)(l d:aB)(G:List cC)(zs:List aA),x=.str z->y=.ref l->H l=some (.lst (zs.map V.str))->1<=zs.length->zs.length<=5->zs.Nodup->z∈zs->u=.ref d->fB H d (.dT (j8 G zs))->(∀v H',fV d H H'->fB H' d (.dT (j8 G zs))->Fr H' v (low (kk G zs z (jk zs).length) (fac zs.length:Nat)).1 (low (kk G zs z (jk zs).length) (fac zs.length:Nat)).2->Q v H')->HZ x y u H Q
def AM:cA:=kB (HZ)
theorem JW(T:Txt K mg C):bA P w K mg base 3 "share_of" ["field","fields","costs"] AM:=by
 refine T.Zp.fc tf k9 (λf aR A outer s H vs Q E D h=>?_);obtain⟨x,y,u,rfl,c,l,d,G,zs,rfl,rfl,I,a3,L,b0,ak,rfl,a4,q⟩:=h;have b1:=gB;have a5:=j7 D;refine⟨_,(bB (cH (i:=3) tf.nd rfl VG aQ) (bB (k4 kt rfl (Nt (pv 2)) (dJ (i:=4) tf.nd rfl (Or.inr rfl)) (bF (fD (eU (JV (K:=K) rfl) (pv 0) (pv 4) (by with_unfolding_all rfl)) (bB (cH (i:=5) tf.nd rfl VG (hU ze rfl T.q34 tp (aF (fM ["name","field","company"] 1 [0,4] rfl (eV (pv 1)) (λR=>dJ (i:=0) (VE:eG (["name","field","company"]:List aA)) rfl VG) (eN VD) (λR=>ke (gU.pt (ju (eU lx (pv 0) (pv 1) (eI _)) (kg (eU (rr (K:=K) rfl) (pv 0) (pv 2) (by with_unfolding_all rfl)))))) (λR=>(pv 0))) aL))) (bF (DT (i:=3) tf.nd rfl VG (bC mj (bZ (Tz T) (D.mono VD) (aF (dB (jt (K:=K) rfl) rfl T.q24 iD (aF (pv 4) aL)) (aF (dB (jt (K:=K) rfl) rfl T.q24 iD (aF (pv 1) aL)) aL))) (bC mi (j6 a5 (pv 2) (pv 5) (λ_ _=>rfl)) (j6 a5 (pv 2) (pv 4) (λ_ _=>rfl)))) Qm))) fC))) (bF (cJ (bZ (zc T) (D.mono VD) (aF (pv 3) (aF (bZ (Gp T) (D.mono VD) (aF (dB (jt (K:=K) rfl) rfl T.q24 iD (aF (pv 1) aL)) aL)) aL))))))),?_⟩;have a6:l≠d:=λe=>by rw[e]at I;rcases a4 with h|⟨_,h⟩<;>rw[I]at h<;>cases h
 refine iJ (σ':=[some (.str c),some (.ref l),some (.ref d),some (.int 0),aG,aG]) rfl ?_;dsimp only;refine Sh (d:=d) (J:=j8 G zs) (λR h=>⟨_,rfl,h⟩) a4 (λo i Y H'=>∃M m:Option V,Y=[some (.str c),some (.ref l),some (.ref d),some (.int (kk G zs c i)),M,m]/\fV d H H'/\H' d=some (.frz o (.dT (j8 G zs)))) (λo z a7 al=>⟨_,_,rfl,a7,al⟩) ?_ ?_ ?_
 .rintro o i Y H' hi ⟨M,m,rfl,g,p⟩;exact p
 .rintro o i b2 b Y H' a0 r ⟨M,m,rfl,g,p⟩;unfold j8 at a0;rw[dO]at a0;obtain⟨a,a1,rfl⟩:=kD.mp a0;have a8:a∈jk zs:=dN a1;have r:H' b=some (.tup (a.map V.str)):=by rw[r,yE]
  have a2:=g _ _ a6 I;refine iJ (σ':=[some (.str c),some (.ref l),some (.ref d),some (.int (kk G zs c i)),some (.ref b),m]) rfl ?_;refine⟨_,rfl,_,rfl,b,_,rfl,.inr (bY.of r),rfl,rA a,_,rfl,?_⟩;rw[if_pos rfl,rM];by_cases t:c∈a
  .rw[decide_eq_true t];refine cG ⟨some (.ref b),m,?_,g,p⟩;rw[Jj a1];unfold rO;rw[if_pos t,Int.add_zero]
  .rw[decide_eq_false t];refine cU ?_;have am:=Du a3 L a8 ak t;refine⟨_,rfl,l,rfl,⟨_,aT.of a2⟩,?_⟩;refine fP (F:=K) (xs:=zs.map V.str) (by rw[aS];omega) (λj ys N=>H'=N/\ys=((zs.take j).filter λy=>decide (y=c)||decide (y∈a)).map V.str) ⟨rfl,rfl⟩ ?_ ?_ ?_
   .rintro j ys N b3 ⟨rfl,rfl⟩;have:=l3 (λy:aA=>decide (y=c)||decide (y∈a)) (zs.take j);rw[dU]at this;exact⟨aT.of a2,by rw[aS];omega⟩
   .rintro j b4 ys N a7 b5 a9 ⟨rfl,rfl⟩ k1 k2;rw[dO]at a9;obtain⟨y,an,rfl⟩:=kD.mp a9;have k:=v9 (P:=λy:aA=>decide (y=c)||decide (y∈a)) an;refine⟨_,rfl,_,rfl,rfl,_,rfl,?_⟩;rw[Ph];by_cases aa:y=c
    .rw[decide_eq_true aa]at k ⊢;exact cU (cU ⟨_,rfl,k1 _ _ ⟨rfl,by rw[k,Bool.true_or,if_pos rfl,dP];rfl⟩⟩)
    .rw[decide_eq_false aa]at k ⊢;refine cG ⟨_,rfl,_,rfl,b,_,rfl,.inr (bY.of r),rfl,rA a,_,rfl,?_⟩;rw[if_neg fX,rM];cases ac:decide (y∈a) with
     |false=>
      rw[ac]at k;exact cG (k2 _ ⟨rfl,by rw[k];simp⟩)
     |true=>
      rw[ac]at k;exact cU ⟨_,rfl,k1 _ _ ⟨rfl,by rw[k,Bool.or_true,if_pos rfl,dP];rfl⟩⟩
   rintro ys N ⟨rfl,rfl⟩;rw[aS,dY (bQ _)];intro ao ap;refine rK ap λH2 U aq=>?_;refine⟨ao,_,rfl,.inl ⟨aT.of aq,λae mt=>?_⟩⟩;refine rK mt λar as au=>?_;have B:=U.trans as;refine iJ (σ':=[some (.str c),some (.ref l),some (.ref d),some (.int (kk G zs c i)),some (.ref b),some (.ref ae)]) rfl ?_;have af:=B _ _ p;have ag:fB ar d (.dT (j8 G zs)):=.inr ⟨o,af⟩;refine⟨_,rfl,_,rfl,b,_,rfl,.inr (bY.of (B _ _ r)),_,rfl,l,_,rfl,.inl (aT.of (B _ _ a2)),_,_,rfl,a.length,zs.length,by rw[aS],by rw[aS],am,L,?_⟩;refine⟨_,rfl,_,rfl,d,_,rfl,Dq ag au (Bu (LP a3 L _)),_,rfl,_,rfl,d,_,rfl,Dq ag (B _ _ r) (Bu a8),_,_,rfl,rfl,_,_,rfl,rfl,?_,_,_,rfl,rfl,some (.ref b),some (.ref ae),?_,(λav aw ax e=>B _ _ (g av aw ax e)),af⟩
   .have h1:=yG a.length VF;have h2:=yG (zs.length-a.length-1) VF;have ay:fac a.length*fac (zs.length-a.length-1)<=40320*40320:=si h1 h2;generalize fac a.length*fac (zs.length-a.length-1)=x at ay;exact .inl ⟨VF,VF⟩
   .rw[Jj a1];unfold rO;rw[if_neg t];rfl
 .rintro o Y H' ⟨M,m,rfl,g,p⟩;have az:(j8 G zs).length=(jk zs).length:=by unfold j8;rw[aS]
  rw[az];refine⟨_,rfl,_,rfl,l,_,rfl,.inl (aT.of (g _ _ a6 I)),_,rfl,zs.length,by rw[aS],VF,?_⟩;have b6:0<fac zs.length:=ym _;exact⟨_,_,rfl,_,_,rfl,rfl,VF,by have:=yQ _ L;omega,λv H2 U fr=>q v H2 (λb u n e=>U _ _ (g b u n e)) (.inr ⟨o,U _ _ p⟩) fr⟩
theorem Od(t:Told G zs a):a=(jk zs).map λb=>(b,ku G b):=by
 have e:a.map (·.1)=jk zs:=by
  rw[t.cos];unfold jk m6;rw[fS];refine l4 λns _=>?_;show ns.map (kK zs)=(ns.map Int.toNat).map λi=>zs.getD i "";rw[fS];rfl
 rw[←e,fS]
 conv=>lhs;rw[←uS a]
 refine l4 λr m=>?_;show r=(r.1,ku G r.1)
 rw[EM (t.lst r m)]
theorem v3{q n:Type}{f:q->n}:∀{l:List q},(∀a∈l,∀b∈l,f a=f b->a=b)->l.Nodup->(l.map f).Nodup
 |[],_,_=>.nil
 |x::r,inj,c=>by
  rw[dW];refine iL.mpr ⟨λm=>?_,v3 (λa g b h=>inj a (eY _ g) b (eY _ h)) (iL.mp c).2⟩;obtain⟨y,d,e⟩:=cP.mp m;exact(iL.mp c).1 (inj y (eY _ d) x eJ e▸d)
theorem Dc(inj:∀a b,a<n->b<n->f a=f b->a=b):∀{a b:List Nat},(∀i∈a,i<n)->(∀i∈b,i<n)->a.map f=b.map f->a=b
 |[],[],_,_,_=>rfl
 |[],_::_,_,_,e=>by cases e
 |_::_,[],_,_,e=>by cases e
 |x::a,y::b,c,d,e=>by
  rw[dW,dW]at e;obtain⟨g,h⟩:=List.cons.inj e;rw[inj x y (c x eJ) (d y eJ) g,Dc inj (λi m=>c i (eY _ m)) (λi m=>d i (eY _ m)) h]
theorem NU(f:zs.Nodup)(c:1<=zs.length)(d:zs.length<=5):((j8 G zs).map (·.1)).Nodup:=by
 unfold j8 jk;rw[fS,fS];exact v3 (λa g b k e=>Dc (λi j hi l h=>Qv f hi l h) (yB _ c d a g) (yB _ c d b k) (Cs e)) (Mt _ c d)
theorem MR(a:1<=zs.length)(b:zs.length<=5):(j8 G zs).length<=54:=by
 unfold j8 jk;rw[aS,aS];exact Cg _ a b
theorem zi:∀{zs:List aA} {vs:List V},IsL H (zs.map aH.str) vs->vs=zs.map V.str
 |[],_,h=>h
 |z::zs,_,h=>by
  obtain⟨v,r,rfl,e,t⟩:=h;cases(show v=.str z from e);rw[zi t];rfl
def oR(H:aD)(G:List cC)(zs c:List aA)(J:List (aW×V)):Prop:=Paired (λ(a:aA)(b:aW×V)=>b.1=Sum.inr a/\Fr H b.2 (low (kk G zs a (jk zs).length) (fac zs.length:Nat)).1 (low (kk G zs a (jk zs).length) (fac zs.length:Nat)).2) c J
theorem oR.mono(h:oR H G zs b J)(k:∀a xs,H a=some (.tup xs)->H' a=some (.tup xs)):oR H' G zs b J:=
 Paired.mapP h λ_ _ ⟨e,a,c,d⟩=>⟨e,a,c,k _ _ d⟩
theorem Lr(h:gC H ys J)(k:∀a xs,H a=some (.tup xs)->H' a=some (.tup xs)):gC H' ys J:=
 Paired.mapP h λ_ _ ⟨a,b,c⟩=>⟨a,b,k _ _ c⟩
theorem Na(k:fV d H H')(b:fB H d (.dT J)):∀a xs,H a=some (.tup xs)->H' a=some (.tup xs):=λa xs e=>k _ _ (λc=>by
 rw[c]at e;rcases b with h|⟨o,h⟩<;>rw[e]at h<;>cases h) e
theorem Mc(k:fV d H H')(f:fB H d (.dT J))(x:fZ T pos j H):fZ T pos j H':=by
 have a:∀{b:aB} {o:dX},H b=some o->(∀J,o≠.dT J)->(∀q J,o≠.frz q (.dT J))->H' b=some o:=λ{b o} e g i=>k _ _ (λl=>by
  rw[l]at e;rcases f with h|⟨q,h⟩<;>rw[e]at h
  .exact g _ (gK h)
  .exact i _ _ (gK h)) e
 obtain⟨ps,e,t,r⟩:=x;exact⟨ps,a e (λ_=>nofun) (λ_ _=>nofun),t,r.imp id fun⟨c,m,n⟩=>⟨c,m,a n (λ_=>nofun) (λ_ _=>nofun)⟩⟩
theorem Nf(h:oR H G zs b J):J.map (·.1)=b.map Sum.inr:=by
 induction h with
 |nil=>rfl
 |cons a r c=>rw[dW,dW,c,a.1]
inductive Ia(C Tb:aB)(x y u:V)(H:aD)(Q:aP):Prop
 |mk:∀(p l:aB)(fs N:List aH)(zs:List aA)(L:Int),x=.ref p->eZ C H p fs N->y=.ref l->H l=some (.lst (zs.map V.str))->1<=zs.length->zs.length<=5->zs.Nodup->(∀z∈zs,z∈fs.map aN)->u=.int L->hgt L=aC->fR Tb H->(∀(d:aB)(J:List (aW×V))(H':aD),fV Tb H H'->fR Tb H'->H d=aG->H' d=some (.dK J)->oR H' (bU fs N L) zs zs J->Q (.ref d) H')->Ia C Tb x y u H Q
def wq(C a:aB):cA:=kB (Ia C a)
theorem zk(T:Txt K mg C){c I:aB}(B:kJ K mg base "lists_of_places" c I):bA P w K mg base 9 "shares" ["land","fields","height"] (wq C I):=by
 refine T.Zq.fc vJ k9 (λf bz A outer s H vs Q E ac h=>?_);obtain⟨x,y,u,rfl,p,l,fs,N,zs,k,rfl,L,rfl,ae,af,ag,ah,sub,rfl,b7,ar,q⟩:=h;have bM:=gB;have bO:=j7 ac;refine⟨_,(bB (cH (i:=3) vJ.nd O (Or.inr O) (hU (FW O ac.units) O T.q21 lS (aF (fM ["row"] 1 [] O (eV (bZ (Jz T B) (ac.mono VD) (aF (pv 0) (aF (pv 1) (aF (pv 2) aL))))) (λR=>dJ (i:=0) (VE:eG (["row"]:List aA)) O VG) (eN VD) (λR=>gN) (λR=>(jd (aF (hU (Gv (K:=K) O) O T.q34 tp (aF (cF (cR (K:=K) O) (pv 0) aQ (λ_ _=>O)) aL)) (aF (cF (cR (K:=K) O) (pv 0) aQ (λ_ _=>O)) aL))))) aL))) (bF (cJ (hU (n3 O) O T.q21 lS (aF (fM ["field","fields","costs"] 1 [1,3] O (eV (pv 1)) (λR=>dJ (i:=0) (VE:eG (["field","fields","costs"]:List aA)) O VG) (eN VD) (λR=>gN) (λR=>(jd (aF (pv 0) (aF (bZ (JW T) (ac.mono VD) (aF (pv 0) (aF (pv 1) (aF (pv 2) aL)))) aL))))) aL))))),?_⟩;refine⟨_,O,_,O,_,O,_,_,_,O,p,l,fs,N,zs,k,O,L,O,ae,af,ag,ah,sub,O,b7,ar,λD us bR z ao as au av b8=>?_⟩;have b9:=Od b8;subst b9;have ba:l≠I:=λg=>by
  obtain⟨aw,a2,_⟩:=ar;rw[g,a2]at ae;cases ae
 have bb:=ao _ _ ba ae;have bc:=av.length;rw[aS,aS]at bc;have bV:(jk zs).length<=54:=by have:=MR (G:=bU fs N k) af ag;unfold j8 at this;rw[aS]at this;exact this
 refine⟨D,O,⟨_,aT.of au⟩,?_⟩;refine fP (F:=K) (xs:=us) VF (λj ys H'=>aM z H'/\ml H' ys ((j8 (bU fs N k) zs).take j)) ⟨aM.refl _,ml.nil _⟩ ?_ ?_ ?_
 .rintro j ys H' bd ⟨r,a0⟩;have:=a0.len;rw[dU]at this;exact⟨aT.of (r _ _ au),VF⟩
 .rintro j be ys H' bf bg a3 ⟨r,a0⟩ k1 k2;have bW:=(dI.mp a3).1;obtain⟨co,ax⟩:∃co,(jk zs)[j]?=some co:=⟨_,cY VF⟩
  obtain⟨v,ev,bh⟩:=av.get (show(((jk zs).map λco=>(co,ku (bU fs N k) co)).map s8)[j]?=some (s8 (co,ku (bU fs N k) co)) by rw[dO,dO,ax];rfl);rw[a3]at ev;cases ev;obtain⟨t,m,rfl,ay,c0,c1,rfl,⟨bi,xs,rfl,bj,bk⟩,bl,bm,rfl,bn,bo⟩:=bh;cases(show bl=.int (ku (bU fs N k) co) from bn);cases(show bm=[] from bo);have bp:xs=co.map V.str:=zi bk;subst bp;refine⟨_,O,t,_,0,_,O,O,bY.of (r _ _ ay),cE (j:=0) O,bi,_,O,.inl ⟨aT.of (r _ _ bj),λtk mt=>?_⟩⟩;have M:=aM.upd (o:=.tup (co.map V.str)) mt;have ai:aI H' tk (.tup (co.map V.str)) tk=some (.tup (co.map V.str)):=aV;generalize aI H' tk (.tup (co.map V.str))=H2 at M ai;refine⟨_,O,t,_,1,_,O,O,bY.of (M _ _ (r _ _ ay)),cE (j:=1) O,cQ O,λap a4=>?_⟩;refine rK a4 λaz a5 a1=>k1 _ _ ⟨r.trans (M.trans a5),?_⟩;have bq:(j8 (bU fs N k) zs)[j]?=some (mT co,V.int (ku (bU fs N k) co)):=by unfold j8;rw[dO,ax];rfl
  rw[eL,bq];exact qP (a0.same (M.trans a5)) ⟨ap,tk,O,a1,by rw[a5 _ _ ai,yE]⟩
 rintro ys H' ⟨r,a0⟩;have c2:(j8 (bU fs N k) zs).length=(jk zs).length:=by unfold j8;rw[aS]
 rw[dY VF]at a0;intro lp a4;refine rK a4 λH2 M ai=>?_;refine⟨lp,ys,_,O,aT.of ai,a0.same M,VF,NU ah af ag,λd aq=>?_⟩;refine rK aq λaz a5 a1=>?_;have aj:=r.trans (M.trans a5);refine iJ (σ':=[some (.ref p),some (.ref l),some (.int k),some (.ref d)]) O ?_;have a6:=aj _ _ bb;have br:I≠d:=λg=>by
  obtain⟨aw,a2,_⟩:=as;have:=aj _ _ a2;rw[g,a1]at this;cases this
 have aR:l≠d:=λg=>by rw[g,a1]at a6;cases a6
 have bs:H d=aG:=by
  cases e:H d with
  |none=>rfl
  |some o=>
   have a:=ao _ _ (λg=>br g.symm) e;have:=(r.trans M) _ _ a;rw[this]at aq;cases aq
 refine⟨_,O,l,O,⟨_,aT.of a6⟩,?_⟩;refine fP (F:=K) (xs:=zs.map V.str) (by rw[aS];omega) (λj ys H'=>∃J,fV d az H'/\fB H' d (.dT (j8 (bU fs N k) zs))/\gC H' ys J/\oR H' (bU fs N k) zs (zs.take j) J) ⟨[],(λ_ _ _ e=>e),.inl a1,gC.nil _,lm⟩ ?_ ?_ ?_
 .rintro j ys H' bd ⟨J,Y,ak,a7,U⟩;have h1:=a7.len;have h2:(zs.take j).length=J.length:=oC U;rw[dU]at h2;exact⟨aT.of (Y _ _ aR a6),VF⟩
 .rintro j be ys H' bf bg a3 ⟨J,Y,ak,a7,U⟩ k1 k2;rw[dO]at a3;obtain⟨g,b0,rfl⟩:=kD.mp a3;refine⟨_,O,_,O,_,O,_,O,_,_,_,O,g,l,d,bU fs N k,zs,O,O,Y _ _ aR a6,af,ag,ah,dN b0,O,ak,λv c3 b1 bt fr=>?_⟩;have tk:=Na b1 ak;refine⟨cQ O,λap a4=>?_⟩;refine rK a4 λc4 a8 bu=>k1 _ _ ⟨J++[(Sum.inr g,v)],(λb u n e=>a8 _ _ (b1 _ _ n (Y _ _ n e))),QO a8 bt,qP ((Lr a7 tk).same a8) ⟨ap,O,bu⟩,?_⟩;rw[eL,b0];exact qP (oR.mono U λa xs e=>a8 _ _ (tk _ _ e)) ⟨O,fr.same a8⟩
 rintro ys H' ⟨J,Y,ak,a7,U⟩;rw[aS,dY (bQ _)]at U;intro al bv;have lk:zs.length=J.length:=oC U;have a9:=aM.upd (o:=.lst ys) bv;have b2:aI H' al (.lst ys) al=some (.lst ys):=aV;generalize aI H' al (.lst ys)=am at a9 b2;refine⟨al,ys,J,O,aT.of b2,a7.same a9,VF,?_,λdd aa=>?_⟩
 .rw[Nf U];exact v3 (λa _ b _ e=>oG e) ah
 have an:=aM.upd (o:=.dK J) aa;have b3:aI am dd (.dK J) dd=some (.dK J):=aV;generalize aI am dd (.dK J)=bw at an b3;have bx:=a9.trans an;have KK:∀b o,b≠I->H b=some o->am b=some o:=λb o n e=>a9 _ _ (Y _ _ (λg=>by rw[g,bs]at e;cases e) (aj _ _ (ao _ _ n e)));have b4:fR I am:=(Mc Y (.inl a1) (as.keep aj)).keep a9;refine q dd J bw (λb o n e=>an _ _ (KK b o n e)) (b4.keep an) ?_ b3 (oR.mono U λa xs e=>bx _ _ e);cases e:H dd with
 |none=>rfl
 |some o=>
  by_cases g:dd=I
  .obtain⟨aw,a2,_⟩:=b4;rw[g,a2]at aa;cases aa
  .rw[KK _ _ g e]at aa;cases aa
def vo(zs:List aA):aH->Bool
 |.lst N=>N.all (eE zs)
 |_=>aJ
noncomputable def lW:List aH->List aA
 |[]=>[]
 |.str a::N=>a::lW N
 |_::N=>lW N
noncomputable def k6(zs:List aA)(d:aH):Bool:=ra (zs.length:Int) d&&vo zs d&&(match d with|.lst N=>decide ((lW N).Nodup)|_=>aJ)
theorem rI:∀{N:List aH},N.all (eE zs)=aC->N=(lW N).map aH.str/\∀a∈lW N,a∈zs
 |[],_=>⟨O,λa m=>by cases m⟩
 |d::N,h=>by
  rw[qK,fK]at h;obtain⟨e,s⟩:=rI h.2;cases d with
  |str a=>
   refine⟨?_,λy m=>?_⟩
   .show aH.str a::N=aH.str a::(lW N).map aH.str;rw[←e]
   .rcases eM.mp m with rfl|m
    .exact of_decide_eq_true h.1
    .exact s y m
  |_=>cases h.1
theorem wF:∀{zs:List aA} {us:List V},IsL H (zs.map aH.str) us->us=zs.map V.str
 |[],us,h=>h
 |z::zs,us,⟨v,r,e,a,t⟩=>by
  rw[e,show v=.str z from a,wF t];rfl
inductive Ie(C:aB)(x y:V)(H:aD)(Q:aP):Prop
 |mk:∀(p:aB)(fs N:List aH)(d:aH),x=.ref p->eZ C H p fs N->bK H d y->gT d=aC->(∀H',aM H H'->Q (.bl (k6 (fs.map aN) d)) H')->Ie C x y H Q
def CH(C:aB):cA:=gY (Ie C)
theorem Ta(T:Txt K mg C):bA P w K mg base 2 "are_some_fields" ["land","thing"] (CH C):=by
 refine T.Yn.fc vC iC (λf aa A outer s H vs Q E j h=>?_);obtain⟨x,y,rfl,p,fs,N,d,rfl,L,a0,dD,q⟩:=h;have ac:=gB;have a1:=(iE L).1;have f2:=a1.l2;obtain⟨dx,ae,af,a,_⟩:=L.ex;refine⟨_,(bB (cH (i:=2) vC.nd O (Or.inr O) (ki T.ad (rk T) (j.mono VD) (pv 0))) (bB (fD (gU.pt (ju (iF (fY (bZ (vE T) (j.mono VD) (aF (pv 1) (aF (dB (jt (K:=K) O) O T.q24 iD (aF (pv 2) aL)) aL))))) (kg (iF (fY (dB (o3 O) O T.q19 oZ (aF (fM ["name","names"] 1 [2] O (eV (pv 1)) (λR=>dJ (i:=0) (VE:eG (["name","names"]:List aA)) O VG) (eN VD) (λR=>gN) (λR=>(bZ (rm T) (j.mono VD) (aF (pv 0) (aF (pv 1) aL))))) aL))))))) (bF (cJ m5)) fC) (bF (cJ (kv lx (dB call_len_set O T.q24 iD (aF (hU (zf O) O T.q30 z8 (aF (pv 1) aL)) aL)) (dB (jt (K:=K) O) O T.q24 iD (aF (pv 1) aL)) (eI _)))))),?_⟩;refine⟨_,O,p,dx,_,O,a,kM _ _ VE VE,_,O,p,fs,N,O,L,λln z b ag t=>?_⟩;have u:=bK.same b _ _ a0;have a2:((fs.map aN).map V.str).length=(fs.map aN).length:=aS ..;refine⟨_,O,_,O,ln,_,O,.inl (aT.of t),_,_,O,d,_,u,O,_,O,?_⟩;rw[a2];cases k:ra ((fs.map aN).length:Int) d with
 |false=>
  refine cU (cU ?_);have e:k6 (fs.map aN) d=aJ:=by unfold k6;rw[k];rfl
  rw[e]at q;exact q _ b
 |true=>
  refine cG ?_;cases d with
  |lst es=>
   obtain⟨l,us,rfl,c,g⟩:=u;have B:=g.length;have ah:es.length<=1000:=of_decide_eq_true (iV.mp dD).1;refine⟨_,O,l,O,⟨_,aT.of c⟩,?_⟩;refine fP (F:=K) (xs:=us) VF (λi ys H'=>z=H'/\ys=((es.take i).map (eE (fs.map aN))).map V.bl) ⟨O,O⟩ ?_ ?_ ?_
   .rintro i ys H' ai ⟨rfl,rfl⟩;exact⟨aT.of c,by rw[aS,aS,dU];omega⟩
   .rintro i aj ys H' ak al a ⟨rfl,rfl⟩ k1 k2;have am:i<us.length:=(dI.mp a).1;obtain⟨e,D⟩:∃e,es[i]?=some e:=⟨_,cY VF⟩
    obtain⟨v,ev,a3⟩:=(show IsL z es us from g).get D;rw[a]at ev;cases ev;refine⟨_,O,_,O,_,_,O,e,ln,_,a3,O,aT.of t,?_⟩;refine k1 _ _ ⟨O,?_⟩;rw[eL,D,dP,dP];rfl
   rintro ys H' ⟨rfl,rfl⟩;rw[B,dY (bQ _)];intro a4 a5;have m:=aM.upd (o:=.lst ((es.map (eE (fs.map aN))).map V.bl)) a5;refine⟨a4,es.map (eE (fs.map aN)),O,aT.of aV,_,O,?_⟩;have a6:(es.map (eE (fs.map aN))).all id=es.all (eE (fs.map aN)):=by rw[oE];rfl
   rw[a6];cases n:es.all (eE (fs.map aN)) with
   |false=>
    refine cU ?_;have e:k6 (fs.map aN) (.lst es)=aJ:=by unfold k6;rw[show vo (fs.map aN) (.lst es)=aJ from n];simp
    rw[e]at q;exact q _ (b.trans m)
   |true=>
    refine cG ?_;obtain⟨G,sub⟩:=rI n;generalize a7:lW es=zs at G sub;have e:k6 (fs.map aN) (.lst es)=decide (zs.Nodup):=by
     show(ra ((fs.map aN).length:Int) (.lst es)&&vo (fs.map aN) (.lst es)&&decide ((lW es).Nodup))=_;rw[k,show vo (fs.map aN) (.lst es)=aC from n,a7];rfl
    rw[e]at q;have I:us=zs.map V.str:=by
     rw[G]at g;exact wF g
    have an:zs.length<=1000:=by rw[I,aS]at B;omega
    rw[I]at c;have r:=m _ _ c;refine⟨_,O,l,zs.map Sum.inr,O,aT.of (by rw[r,yf]),by rw[aS];omega,λa8 J=>?_⟩;have a9:=yn (zs.map (Sum.inr:aA->aW));rw[aS]at a9;refine⟨a8,_,_,O,aV,VF,_,O,l,zs.map V.str,O,.inl (aT.of (by rw[bD (dC r J)];exact r)),O,?_⟩;have e:decide (V.int ((my (zs.map (Sum.inr:aA->aW))).length:Int)=V.int ((zs.map V.str).length:Int))=decide zs.Nodup:=by
     rw[nG,aS,lj,decide_eq_true_eq,decide_eq_true_eq,←n7,←z4,aS];omega
    rw[e];exact q _ (b.trans (m.trans (aM.upd J)))
  |_=>cases k
inductive wj(mg:aA->Option aE)(C:aB)(vs:List V)(H:aD)(Q:aP)(E:dL):Prop
 |mk:∀(x y u:V)(p:aB)(fs N:List aH)(d e:aH)(c:aB),vs=[x,y,u]->x=.ref p->eZ C H p fs N->bK H d y->gT d=aC->bK H e u->((k6 (fs.map aN) d=aJ\/kY e=aJ))->mg "NoWish"=some (.ref c)->(∀H',aM H H'->E (.ref c) aG H')->wj mg C vs H Q E
theorem FT(T:Txt K mg C):kI P w K mg base 3 "check_wish" ["land","fields","height"] (wj mg C):=by
 obtain⟨B,k,g⟩:=T.Wc;refine T.Yr.fcX FX (λvs H Q E h=>?_) (λf D A outer s H vs Q E i h=>?_)
 .obtain⟨x,y,u,p,fs,N,d,e,c,rfl,_⟩:=h;rfl
 obtain⟨x,y,u,p,fs,N,d,e,c,rfl,rfl,L,n,dD,o,r,j,q⟩:=h;rw[g]at j;cases j;refine⟨_,(bB (fD (gU.pt (ju (iF (fY (bZ (Ta T) (i.mono VD) (aF (pv 0) (aF (pv 1) aL))))) (kg (iF (fY (bZ (p7 T) (i.mono VD) (aF (pv 2) aL))))))) (bF (wv g k.ex O vZ (aF gE aL))) fC) rx),?_⟩;refine⟨_,O,_,O,_,_,O,p,fs,N,d,O,L,n,dD,λz a=>⟨_,O,?_⟩⟩;cases t:k6 (fs.map aN) d with
 |false=>exact cU (cU ⟨cQ O,q _ a⟩)
 |true=>
  refine cG ?_;rcases r with b|b
  .rw[t]at b;cases b
  .refine⟨_,O,_,O,e,bK.same a _ _ o,_,O,?_⟩;rw[b];exact cU ⟨cQ O,q _ a⟩
def Rt(zs:List aA)(d e:aH)(x:aA):Prop:=(x="NoWish"/\(k6 zs d=aJ\/kY e=aJ))\/(x="TooMany"/\∃(a:List aA)(L:Int),d=.lst (a.map aH.str)/\a.Nodup/\(∀b∈a,b∈zs)/\8<a.length/\e=.int L/\hgt L=aC)
inductive tM(mg:aA->Option aE)(C:aB)(vs:List V)(H:aD)(Q:aP)(E:dL):Prop
 |mk:∀(x y u:V)(p:aB)(fs N:List aH)(d e:aH)(nm:aA)(c:aB),vs=[x,y,u]->x=.ref p->eZ C H p fs N->bK H d y->gT d=aC->bK H e u->Rt (fs.map aN) d e nm->mg nm=some (.ref c)->(∀H',aM H H'->E (.ref c) aG H')->tM mg C vs H Q E
theorem Uh(T:Txt K mg C):kI P w K mg base 8 "companies" ["land","fields","height"] (tM mg C):=by
 obtain⟨M,B,i⟩:=T.Wd;refine T.Zh.fcX td (λvs H Q E h=>?_) (λf U A outer s H vs Q E j h=>?_)
 .obtain⟨x,y,u,p,fs,N,d,e,nm,c,rfl,_⟩:=h;rfl
 obtain⟨x,y,u,p,fs,N,d,e,nm,c,rfl,rfl,L,k,dD,m,a,b,q⟩:=h;rcases a with ⟨rfl,a⟩|⟨rfl,n,o,rfl,D,sub,Y,rfl,G⟩
 .have g:kI P w K mg base 3 "check_wish" ["land","fields","height"] (wj mg C):=FT T;refine⟨_,(bB (jK (pi g (j.mono VD) o4 (aF (pv 0) (aF (pv 1) (aF (pv 2) aL))))) rx),?_⟩;exact⟨_,O,_,O,_,O,_,_,_,p,fs,N,d,e,c,O,O,L,k,dD,m,a,b,q⟩
 .have g:bA P w K mg base 3 "check_wish" ["land","fields","height"] (rE C):=tc T;rw[i]at b;cases b;obtain⟨l,us,rfl,r,hi⟩:=k;have eu:=zi hi;subst eu;have I:u=.int o:=m;subst I;refine⟨_,(bB (jK (bZ g (j.mono VD) (aF (pv 0) (aF (pv 1) (aF (pv 2) aL))))) (bB (fD (eU pp (dB (jt (K:=K) O) O T.q24 iD (aF (pv 1) aL)) (lB T.q15) (eI _)) (bF (wv i B.ex O vZ (aF gE aL))) fC) rx)),?_⟩;refine⟨_,O,_,O,_,O,_,_,_,O,p,l,fs,N,n,o,O,L,O,r,VF,D,sub,O,G,λz t=>?_⟩;refine⟨_,O,l,_,O,.inl (aT.of (t _ _ r)),_,_,O,O,_,O,?_⟩;have J:decide ((8:Int)<((n.map V.str).length:Int))=aC:=decide_eq_true (by rw[aS];omega);rw[J];exact cU ⟨cQ O,q _ t⟩
theorem Km(T:Txt K mg C):kI P w K mg base 9 "shares" ["land","fields","height"] (tM mg C):=by
 refine T.Zq.fcX vJ (λvs H Q E h=>?_) (λf m A outer s H vs Q E a h=>?_)
 .obtain⟨x,y,u,p,fs,N,d,e,nm,c,rfl,_⟩:=h;rfl
 obtain⟨x,y,u,p,fs,N,d,e,nm,c,rfl,rfl,L,g,dD,j,k,l,q⟩:=h;refine⟨_,(bB (cH (i:=3) vJ.nd O (Or.inr O) (hU (FW O a.units) O T.q21 lS (aF (fM ["row"] 1 [] O (eV (pi (Uh T) (a.mono VD) o4 (aF (pv 0) (aF (pv 1) (aF (pv 2) aL))))) (λR=>dJ (i:=0) (VE:eG (["row"]:List aA)) O VG) (eN VD) (λR=>gN) (λR=>(jd (aF (hU (Gv (K:=K) O) O T.q34 tp (aF (cF (cR (K:=K) O) (pv 0) aQ (λ_ _=>O)) aL)) (aF (cF (cR (K:=K) O) (pv 0) aQ (λ_ _=>O)) aL))))) aL))) rx),?_⟩;exact⟨_,O,_,O,_,O,_,_,_,p,fs,N,d,e,nm,c,O,O,L,g,dD,j,k,l,q⟩
noncomputable def nI:aH->Bool
 |.int i=>decide (0<=i)&&decide (i<=1000000000000)
 |_=>aJ
inductive Hd(x:V)(H:aD)(Q:aP):Prop
 |mk:∀d,bK H d x->Q (.bl (nI d)) H->Hd x H Q
def CO:cA:=sp1 (Hd)
theorem JC(T:Txt K mg C):bA P w K mg base 2 "are_coins" ["thing"] CO:=by
 refine T.Zr.fc Uy jN (λf e A outer s H vs Q E c h=>?_);obtain⟨x,rfl,d,a,q⟩:=h;refine⟨_,(bF (cJ (jh (bZ (zb T) (c.mono VD) (aF (pv 0) aL)) (jS (ww lZ lZ aQ (pv 0) (lB T.q16)))))),?_⟩;refine⟨_,O,_,O,d,a,_,O,?_⟩;cases d with
 |int i=>
  cases(show x=.int i from a);refine cU ?_;have q:Q (.bl (decide (0<=i)&&decide (i<=1000000000000))) H:=q;refine⟨_,O,_,_,O,O,_,O,?_⟩;refine jO (λh1=>?_) (λh1=>?_)
  .refine⟨_,_,O,O,?_⟩;rw[decide_eq_true (show 0<=i from of_decide_eq_true h1),jX]at q;exact q
  .rw[show decide (0<=i)=aJ from by simpa using h1,sg]at q;exact q
 |_=>exact cG q
noncomputable def mn:aW->aH
 |.inl i=>.int i
 |.inr a=>.str a
theorem QY(k:aW):bK H (mn k) (kV k):=by
 cases k with
 |inl i=>rfl
 |inr a=>rfl
noncomputable def p2(zs:List aA)(B:List aW)(N:List aH):Bool:=decide (B.length=zs.length)&&(pK (λk d=>eE zs (mn k)&&nI d) B N).all id
def DY:aH->Bool
 |.dct _ _=>aJ
 |_=>aC
theorem CD{q n:Type}:∀{B:List q} {vs:List n} {i:Nat} {k:q} {v:n},(B.zip vs)[i]?=some (k,v)->B[i]?=some k/\vs[i]?=some v
 |[],_,_,_,_,h=>by simp at h
 |_::_,[],_,_,_,h=>by simp at h
 |a::B,b::vs,0,k,v,h=>by
  simp at h;simp[h]
 |a::B,b::vs,i+1,k,v,h=>by
  simp only[xo,List.getElem?_cons_succ]at h ⊢;exact CD h
theorem Bj:∀{N:List aH} {d:aH},on N=aC->d∈N->mU d=aC
 |e::N,d,h,m=>by
  have h:=iV.mp h;rcases eM.mp m with rfl|m
  .exact h.1
  .exact Bj h.2 m
theorem PN(a b:Nat):(!decide ((a:Int)=(b:Int)))=!decide (a=b):=by
 by_cases h:a=b
 .subst h;simp
 .rw[decide_eq_false h,decide_eq_false (λc=>h VF)]
theorem PO(K:bI)(h:bK H d x)(n:DY d=aC):∃t,js K H x t/\jW K t (.type "dict")=some aJ:=by
 cases d with
 |non=>cases(show x=.non from h);exact⟨_,.non,O⟩
 |bl b=>cases(show x=.bl b from h);exact⟨_,.bl b,O⟩
 |int i=>cases(show x=.int i from h);exact⟨_,.int i,O⟩
 |str c=>cases(show x=.str c from h);exact⟨_,.str c,O⟩
 |lst N=>obtain⟨a,vs,rfl,e,_⟩:=h;exact⟨_,.lst e,O⟩
 |tup N=>obtain⟨a,vs,rfl,e,_⟩:=h;exact⟨_,.tup e,O⟩
 |dct B N=>cases n
inductive HS(C:aB)(x y:V)(H:aD)(Q:aP):Prop
  |mk:∀(pl:aB)(fs gs:List aH),x=.ref pl->eZ C H pl fs gs->(((∃d,bK H d y/\DY d=aC/\∀H',aM H H'->Q (.bl aJ) H') \/
   (∃(a:aB)(B:List aW)(vs:List V)(N:List aH),y=.ref a/\H a=some (.dK (B.zip vs))/\vs.length=B.length/\IsL H N vs/\on N=aC/\B.length<=100 /\
     ∀H',lz a H H'->(H' a=some (.dK (B.zip vs))\/∃o,H' a=some (.frz o (.dK (B.zip vs))))->Q (.bl (p2 (fs.map aN) B N)) H')))->HS C x y H Q
def BO(C:aB):cA:=gY (HS C)
theorem Ui(T:Txt K mg C):bA P w K mg base 3 "are_purses" ["land","thing"] (BO C):=by
 refine T.Zs.fc FY iC (λ f aw A outer s H vs Q E r h=>?_);obtain⟨x,y,rfl,pl,fs,gs,rfl,L,ac⟩:=h;have ax:=gB;obtain⟨ae,D,ay,af,_⟩:=L.ex;refine⟨_,(bB (cH (i:=2) FY.nd O (Or.inr O) (ki T.ad (rk T) (r.mono VD) (pv 0))) (bB (fD (gU.pt (ju (iF (fY (dB (kL (K:=K) O) O T.q23 jA (aF (pv 1) (aF (kz T.q21 lS) aL))))) (kg (eU pj (dB By O T.q24 iD (aF (pv 1) aL)) (dB (jt (K:=K) O) O T.q24 iD (aF (pv 2) aL)) (eI _))))) (bF (cJ m5)) fC) (bF (cJ (dB (o3 O) O T.q19 oZ (aF (fM ["name","coins","names"] 2 [2] O (Nr (vb r0 w5 PySem.F.type_dict_items Co (pv 1))) (λ R=>OE (K:=K) (n:=2) O O (tC (dJ (i:=0) (VE:eG (["name","coins","names"]:List aA)) O VG) (tC (dJ (i:=1) (VE:eG (["name","coins","names"]:List aA)) O VG) CV))) (ML (Jc VD (Jc VD LI))) (λ R=>gN) (λ R=>(jh (bZ (rm T) (r.mono VD) (aF (pv 0) (aF (pv 2) aL))) (jS (bZ (JC T) (r.mono VD) (aF (pv 1) aL)))))) aL)))))),?_⟩;refine⟨_,O,pl,ae,_,O,af,kM _ _ VE VE,_,O,pl,fs,gs,O,L,λ ln z c Y j=>?_⟩;have j:z ln=some (.lst ((fs.map aN).map V.str)):=j;refine iJ (σ':=[some (.ref pl),some y,some (.ref ln)]) O ?_;rcases ac with ⟨d,ag,ah,q⟩ | ⟨a,B,vs,N,rfl,g,az,a0,ai,lk,q⟩
 .obtain⟨t,ty,aj⟩:=PO K (bK.same c _ _ ag) ah;exact⟨_,O,_,_,_,_,_,O,O,ty,aj,_,O,cU (q _ c)⟩
 refine⟨_,O,_,_,_,_,_,O,O,.dK (c _ _ g),mY _ _,_,O,cG ?_⟩;have a1:(B.zip vs).length=B.length:=by rw[List.length_zip];omega
 have ak:ln≠a:=λ G=>by rw[G,g] at Y;cases Y
 refine⟨_,O,a,_,O,c _ _ g,_,O,ln,_,O,.inl (aT.of j),O,_,O,?_⟩;rw[a1,aS,aS,CZ,PN];have aR:=a0.length;cases l:decide (B.length=fs.length) with
 | false =>
  refine cU ?_;have I:p2 (fs.map aN) B N=aJ:=by unfold p2;rw[aS,l];rfl
  rw[I] at q;exact q _ (aM.x c) (.inl (c _ _ g))
 | true =>
  refine cG ?_;have l:=of_decide_eq_true l;refine⟨_,O,.inr (.inr (.inl ⟨O,.inl ⟨_,c _ _ g⟩⟩)),a,_,O,O,.inl (c _ _ g),λ v al=>?_⟩;have J:=aM.upd (o:=mm v a) al;refine⟨v,a,_,O,aV,J _ _ (c _ _ g),λ o=>?_⟩;have M:lz a H (aI (aI z v (mm v a)) a (.frz o (.dK (B.zip vs)))):=(aM.x (c.trans J)).put;have a3:aI (aI z v (mm v a)) a (.frz o (.dK (B.zip vs))) ln=some (.lst ((fs.map aN).map V.str)):=by rw[bD ak];exact J _ _ j
  have a2:aI (aI z v (mm v a)) a (.frz o (.dK (B.zip vs))) a=some (.frz o (.dK (B.zip vs))):=aV;generalize aI (aI z v (mm v a)) a (.frz o (.dK (B.zip vs)))=H2 at M a3 a2 ⊢;refine LQ VF (λ i ys H'=>aM H2 H'/\ys=((pK (λ k d=>eE (fs.map aN) (mn k) && nI d) B N).take i).map V.bl) ⟨aM.refl _,O⟩ ?_ ?_ ?_
  .rintro i ys H' b0 ⟨S,rfl⟩;exact⟨S _ _ a2,by rw[aS,dU];omega⟩
  .rintro i ⟨k,u⟩ ys H' p b1 b2 am ⟨S,rfl⟩ an k1 k2;obtain⟨ao,a4⟩:=CD am;obtain⟨d,U⟩:∃ d,N[i]?=some d:=by
    have:=(dI.mp a4).1;exact⟨_,cY VF⟩
   obtain⟨b3,a5,ap⟩:=a0.get U;rw[a4] at a5;cases a5;have m:=aM.upd (o:=.tup [kV k,u]) an;have aq:iU H (aI H' p (.tup [kV k,u])):=λ b xs e=>m _ _ (S _ _ (M _ _ e λ G=>by rw[G,g] at e;cases e));have ar:=bK.keep aq _ _ (Bj ai (dN U)) ap;have as:(pK (λ k d=>eE (fs.map aN) (mn k) && nI d) B N)[i]?=some (eE (fs.map aN) (mn k) && nI d):=by rw[List.getElem?_zipWith,ao,U]
   have a6:∀ b,(eE (fs.map aN) (mn k) && nI d)=b->((pK (λ k d=>eE (fs.map aN) (mn k) && nI d) B N).take i).map V.bl++[V.bl b]=((pK (λ k d=>eE (fs.map aN) (mn k) && nI d) B N).take (i+1)).map V.bl:=λ b e=>by rw[eL,as,dP,e];rfl
   refine⟨p,_,O,bY.of aV,O,_,_,O,_,_,O,O,?_⟩;refine⟨_,O,_,O,_,_,O,mn k,ln,_,QY k,O,aT.of (m _ _ (S _ _ a3)),_,O,?_⟩;cases D:eE (fs.map aN) (mn k) with
   | false =>
    refine cG (k1 _ _ ⟨S.trans m,a6 _ ?_⟩);rw[D];rfl
   | true =>
    refine cU ⟨_,O,_,O,d,ar,k1 _ _ ⟨S.trans m,a6 _ ?_⟩⟩;rw[D];rfl
  .rintro ys H' ⟨S,rfl⟩;rw[dY (by rw[List.length_zipWith,a1];omega)];intro au av;have a7:=aM.upd (o:=.lst ((pK (λ k d=>eE (fs.map aN) (mn k) && nI d) B N).map V.bl)) av;refine⟨au,_,O,aT.of aV,?_⟩;have I:p2 (fs.map aN) B N=(pK (λ k d=>eE (fs.map aN) (mn k) && nI d) B N).all id:=by
    unfold p2;rw[aS,decide_eq_true l,jX]
   rw[I] at q;exact q _ (M.then (S.trans a7)) (.inr ⟨o,a7 _ _ (S _ _ a2)⟩)
def ln(a:Int):Prop:=a.natAbs<=10^60
theorem nJ(h:ln a):a.natAbs<2^4096:=xq h VE
inductive HC(x y:V)(H:aD)(Q:aP):Prop
 |mk:∀a b c d:Int,Fr H x a b->Fr H y c d->ln a->ln b->ln c->ln d->Q (.bl (decide (a*d<c*b))) H->HC x y H Q
def u6:cA:=gY (HC)
theorem zR(T:Txt K mg C):bA P w K mg base 1 "less" ["one","other"] u6:=by
 refine T.Zm.fc Mm iC (λf n A outer s H vs Q E o h=>?_);obtain⟨x,y,rfl,a,b,c,d,⟨l,rfl,e⟩,⟨m,rfl,em⟩,a1,g,i,k,q⟩:=h;refine⟨_,(bF (cJ (kv q8 (bC tT (cF (cR (K:=K) O) (pv 0) aQ (λ_ _=>O)) (cF (cR (K:=K) O) (pv 1) aQ (λ_ _=>O))) (bC tT (cF (cR (K:=K) O) (pv 1) aQ (λ_ _=>O)) (cF (cR (K:=K) O) (pv 0) aQ (λ_ _=>O))) (eI _)))),?_⟩;exact⟨_,O,l,_,0,.int a,O,O,bY.of e,cE (j:=0) O,_,O,m,_,1,.int d,O,O,bY.of em,cE (j:=1) O,_,_,O,O,⟨nJ a1,nJ k⟩,_,O,m,_,0,.int c,O,O,bY.of em,cE (j:=0) O,_,O,l,_,1,.int b,O,O,bY.of e,cE (j:=1) O,_,_,O,O,⟨nJ i,nJ g⟩,_,_,O,O,q⟩
inductive HR(g:Int)(x y:V)(H:aD)(Q:aP):Prop
 |mk:∀a b c d:Int,Fr H x a b->Fr H y c d->ln a->ln c->0<b->b<=1000->0<d->d<=1000->(∀v H',aM H H'->Fr H' v (low (a*d+g*c*b) (b*d)).1 (low (a*d+g*c*b) (b*d)).2->Q v H')->HR g x y H Q
def u4(g:Int):cA:=gY (HR g)
theorem s4(a:0<b)(h:b<=1000):ln b:=fF (show b.natAbs<=1000 by omega) VE
theorem QR{b d:Int}(c:0<b)(e:b<=1000)(a:0<d)(f:d<=1000):0<b*d/\(b*d).natAbs<=1000000:=by
 have g:=Int.mul_pos c a;have h1:b*d<=1000*1000:=Int.mul_le_mul e f (uQ a) VD;exact⟨g,VF⟩
theorem Mx(T:Txt K mg C):bA P w K mg base 3 "plus" ["one","other"] (u4 1):=by
 refine T.Zk.fc Ml iC (λ f t A outer s H vs Q E p h=>?_);obtain⟨x,y,rfl,a,b,c,d,⟨l,rfl,e⟩,⟨m,rfl,em⟩,a1,r,g,i,k,n,q⟩:=h;have hm:=QR g i k n;rw[Int.one_mul] at q;refine⟨_,(bF (cJ (bZ (zc T) (p.mono VD) (aF (bC km (bC tT (cF (cR (K:=K) O) (pv 0) aQ (λ_ _=>O)) (cF (cR (K:=K) O) (pv 1) aQ (λ_ _=>O))) (bC tT (cF (cR (K:=K) O) (pv 1) aQ (λ_ _=>O)) (cF (cR (K:=K) O) (pv 0) aQ (λ_ _=>O)))) (aF (bC tT (cF (cR (K:=K) O) (pv 0) aQ (λ_ _=>O)) (cF (cR (K:=K) O) (pv 1) aQ (λ_ _=>O))) aL))))),?_⟩;exact⟨_,O,l,_,0,.int a,O,O,bY.of e,cE (j:=0) O,_,O,m,_,1,.int d,O,O,bY.of em,cE (j:=1) O,_,_,O,O,⟨nJ a1,nJ (s4 k n)⟩,_,O,m,_,0,.int c,O,O,bY.of em,cE (j:=0) O,_,O,l,_,1,.int b,O,O,bY.of e,cE (j:=1) O,_,_,O,O,⟨nJ r,nJ (s4 g i)⟩,_,_,O,O,_,O,l,_,1,.int b,O,O,bY.of e,cE (j:=1) O,_,O,m,_,1,.int d,O,O,bY.of em,cE (j:=1) O,_,_,O,O,⟨nJ (s4 g i),nJ (s4 k n)⟩,_,_,O,_,_,O,O,hm.1,hm.2,q⟩
theorem Ls(T:Txt K mg C):bA P w K mg base 4 "minus" ["one","other"] (u4 (-1)):=by
 refine T.Zl.fc Ll iC (λf B A outer s H vs Q E g h=>?_);obtain⟨x,y,rfl,a,b,c,d,⟨l,rfl,i⟩,⟨m,rfl,em⟩,a1,D,k,n,r,t,q⟩:=h;refine⟨_,(bF (cJ (bZ (Mx T) (g.mono VD) (aF (pv 0) (aF (jd (aF (yO yq (cF (cR (K:=K) O) (pv 1) aQ (λ_ _=>O))) (aF (cF (cR (K:=K) O) (pv 1) aQ (λ_ _=>O)) aL))) aL))))),?_⟩;refine⟨_,O,_,O,m,_,0,.int c,O,O,bY.of em,cE (j:=0) O,_,O,_,O,m,_,1,.int d,O,O,bY.of em,cE (j:=1) O,cQ O,λp u=>?_⟩;have S:=aM.upd (o:=.tup [.int (-c),.int d]) u;refine⟨_,_,O,a,b,-c,d,⟨l,O,S _ _ i⟩,⟨p,O,aV⟩,a1,by unfold ln at *;omega,k,n,r,t,λv H' z fr=>q v H' (S.trans z) ?_⟩;rw[show(1:Int)*-c*b=-1*c*b by rw[Int.one_mul,Int.neg_mul,Int.neg_mul,Int.neg_mul,Int.one_mul]]at fr;exact fr
theorem Jx(T:Txt K mg C)(g:mg "Short"=some (.ref a)):fA P w K mg base 1 a "__init__" ["self","field"] (tN a "field"):=by
 obtain⟨x,y,⟨i,j,k,l,z,m,n,o,p⟩,b,r⟩:=T.Wg;rw[g]at b;cases b;refine m.mc Uq (λvs H Q E h=>?_) (λf B A outer s H vs Q E D h=>?_)
 .obtain⟨e,v,rfl,_⟩:=h;rfl
 obtain⟨e,v,rfl,c,q⟩:=h;refine⟨_,(bB (jK (Ny r p n o (aF (pv 0) (aF (pv 1) aL)))) (bF (OA (pv 0) (pv 1) O))),?_⟩;refine⟨_,O,_,O,e,v,_,aG,O,c,i.ex,?_⟩;exact⟨_,O,_,O,e,_,_,O,c,j,k,l,λd t u=>q d t u⟩
def qr(b:Bool)(c:aB)(Q:aP)(E:dL)(H:aD):Prop:=if b=aC then Q .non H else E (.ref c) aG H
inductive wh(C c:aB)(vs:List V)(H:aD)(Q:aP)(E:dL):Prop
 |mk:∀(p l:aB)(fs N es:List aH)(us:List V),vs=[.ref p,.ref l]->eZ C H p fs N->H l=some (.lst us)->IsL H es us->es.length<=100->(∀H',aM H H'->qr ((es.map (eE (fs.map aN))).all id) c Q E H')->wh C c vs H Q E
theorem Ft(T:Txt K mg C)(u:mg "NoVoice"=some (.ref c)):kI P w K mg base 2 "check_voices" ["land","yes"] (wh C c):=by
 obtain⟨a1,x,j⟩:=T.We;have k:=j;rw[u]at k;cases k;refine T.Zt.fcX FG (λvs H Q E h=>?_) (λf a2 A outer s H vs Q E m h=>?_)
 .obtain⟨p,l,fs,N,es,us,rfl,_⟩:=h;rfl
 obtain⟨p,l,fs,N,es,us,rfl,L,D,G,le,q⟩:=h;have a3:=gB;obtain⟨dx,a4,a5,b,_⟩:=L.ex;refine⟨_,(bB (cH (i:=2) FG.nd O (Or.inr O) (ki T.ad (rk T) (m.mono VD) (pv 0))) (bF (fD (gU.pt (ju (iF (fY (dB (kL (K:=K) O) O T.q23 jA (aF (pv 1) (aF (kz T.q25 kW) aL))))) (kg (iF (fY (dB (o3 O) O T.q19 oZ (aF (fM ["name","names"] 1 [2] O (eV (pv 1)) (λR=>dJ (i:=0) (VE:eG (["name","names"]:List aA)) O VG) (eN VD) (λR=>gN) (λR=>(bZ (rm T) (m.mono VD) (aF (pv 0) (aF (pv 1) aL))))) aL))))))) (bF (wv j x.ex O vZ (aF gE aL))) fC))),?_⟩;refine⟨_,O,p,dx,_,O,b,kM _ _ VE VE,_,O,p,fs,N,O,L,λln z d a6 I=>?_⟩;have g:=d _ _ D;have n:=IsL.same d _ _ G;have J:=n.length;refine⟨_,O,_,_,_,_,_,O,O,js.lst g,mY _ _,_,O,cG ?_⟩;refine⟨_,O,l,O,⟨_,aT.of g⟩,?_⟩;refine fP (F:=K) (xs:=us) VF (λi ys H'=>z=H'/\ys=((es.take i).map (eE (fs.map aN))).map V.bl) ⟨O,O⟩ ?_ ?_ ?_
 .rintro i ys H' a7 ⟨rfl,rfl⟩;exact⟨aT.of g,by rw[aS,aS,dU];omega⟩
 .rintro i a8 ys H' a9 aa b ⟨rfl,rfl⟩ k1 k2;have ac:i<us.length:=(dI.mp b).1;obtain⟨e,r⟩:∃e,es[i]?=some e:=⟨_,cY VF⟩
  obtain⟨v,ev,M⟩:=n.get r;rw[b]at ev;cases ev;refine⟨_,O,_,O,_,_,O,e,ln,_,M,O,aT.of I,?_⟩;refine k1 _ _ ⟨O,?_⟩;rw[eL,r,dP,dP];rfl
 rintro ys H' ⟨rfl,rfl⟩;rw[J,dY (bQ _)];intro U Y;have a0:=aM.upd (o:=.lst ((es.map (eE (fs.map aN))).map V.bl)) Y;refine⟨U,es.map (eE (fs.map aN)),O,aT.of aV,_,O,?_⟩;have a:=q _ (d.trans a0);unfold qr at a;cases t:(es.map (eE (fs.map aN))).all id with
 |true=>
  rw[t,if_pos O]at a;exact cG a
 |false=>
  rw[t,if_neg fX]at a;exact cU ⟨cQ O,a⟩
noncomputable def ko:aH->Int
 |.tup [_,_,.int e]=>e
 |_=>0
def kn(fs:List aH)(ys:List aA):Int:=((fs.filter λd=>decide (aN d∈ys)).map ko).sum
def kq(fs:List aH):Int:=(fs.map ko).sum
inductive zF(C c:aB)(vs:List V)(H:aD)(Q:aP)(E:dL):Prop
 |mk:∀(p l:aB)(fs N:List aH)(ys:List aA),vs=[.ref p,.ref l]->eZ C H p fs N->H l=some (.lst (ys.map V.str))->ys.length<=100->(∀H',aM H H'->qr (!decide (2*kn fs ys<=kq fs)) c Q E H')->zF C c vs H Q E
theorem TW(T:Txt K mg C)(a3:mg "Outvoted"=some (.ref c)):kI P w K mg base 2 "check_dues" ["land","yes"] (zF C c):=by
 obtain⟨al,a4,J⟩:=T.Wf;have M:=J;rw[a3]at M;cases M;refine T.Zu.fcX y4 (λvs H Q E h=>?_) (λf am A outer s H vs Q E x h=>?_)
 .obtain⟨p,l,fs,N,ys,rfl,_⟩:=h;rfl
 obtain⟨p,l,fs,N,ys,rfl,L,a6,le,q⟩:=h;have an:=gB;have y:=(iE L).1;have f2:=y.l2;obtain⟨dx,ao,ap,B,_⟩:=L.ex;refine⟨_,(bB (cH (i:=2) y4.nd rfl VG (ki T.ad (rk T) (x.mono VD) (pv 0))) (bB (cH (i:=3) y4.nd rfl VG (dB (qj rfl) rfl T.q33 qb (aF (fM ["name","land","yes"] 1 [0,1] rfl (eV (pv 2)) (λR=>dJ (i:=0) (VE:eG (["name","land","yes"]:List aA)) rfl VG) (eN VD) (λR=>ke (eU (rr (K:=K) rfl) (pv 0) (pv 2) (by with_unfolding_all rfl))) (λR=>(p3 T.ad (JD T) (x.mono VD) (pv 1) (aF (pv 0) aL)))) aL))) (bF (fD (eU lZ (bC mj aQ (pv 3)) (dB (qj rfl) rfl T.q33 qb (aF (fM ["name","land"] 1 [0] rfl (eV (pv 2)) (λR=>dJ (i:=0) (VE:eG (["name","land"]:List aA)) rfl VG) (eN VD) (λR=>gN) (λR=>(p3 T.ad (JD T) (x.mono VD) (pv 1) (aF (pv 0) aL)))) aL)) (eI _)) (bF (wv J a4.ex rfl vZ (aF gE aL))) fC)))),?_⟩;refine⟨_,rfl,p,dx,_,rfl,B,kM _ _ VE VE,_,rfl,p,fs,N,rfl,L,λln z r aq m=>?_⟩;have m:z ln=some (.lst ((fs.map aN).map V.str)):=m;have a7:=r _ _ a6;have a8:=L.same r;have Y:((fs.map aN).map V.str).length=fs.length:=by rw[aS,aS]
 refine⟨_,rfl,ln,rfl,⟨_,aT.of m⟩,?_⟩;refine fP (F:=K) (xs:=(fs.map aN).map V.str) VF (λi vs H'=>z=H'/\vs=(((fs.take i).filter λd=>decide (aN d∈ys)).map ko).map V.int/\vs.length<=i) ⟨rfl,rfl,bQ _⟩ ?_ ?_ ?_
 .rintro i vs H' a9 ⟨rfl,rfl,D⟩;exact⟨aT.of m,D⟩
 .rintro i aa vs H' ac ae j ⟨rfl,rfl,D⟩ k1 k2;obtain⟨d,b⟩:∃d,fs[i]?=some d:=by
   have:=(dI.mp j).1;exact⟨_,cY VF⟩
  rw[dO,dO,b]at j;cases j;obtain⟨a,k,e,rfl,_⟩:=jc (y.all d (dN b));have t:(((fs.take (i+1)).filter λd=>decide (aN d∈ys)).map ko)=(((fs.take i).filter λd=>decide (aN d∈ys)).map ko)++(if a∈ys then [e] else []):=by
   rw[eL,b,lE,dP];by_cases g:a∈ys
   .rw[if_pos g];have:decide (aN (.tup [.str a,.int k,.int e])∈ys)=aC:=decide_eq_true g;simp only[uI,nS,this,if_true,uE,dW,lF];rfl
   .rw[if_neg g];have:decide (aN (.tup [.str a,.int k,.int e])∈ys)=aJ:=decide_eq_false g;simp only[uI,nS,this,uE,lF];rfl
  refine⟨_,rfl,_,rfl,l,_,rfl,.inl (aT.of a7),rfl,rA ys,_,rfl,?_⟩;rw[if_neg fX,rM];cases a0:decide (aN (.tup [.str a,.int k,.int e])∈ys) with
  |true=>
   have g:a∈ys:=of_decide_eq_true a0;rw[if_pos g]at t;refine cU ⟨_,rfl,_,_,_,rfl,(r _ _ B),kM _ _ VE VE,_,rfl,_,_,rfl,p,fs,N,a,k,e,rfl,rfl,a8,dN b,k1 _ _ ⟨rfl,?_,by rw[eW,li];omega⟩⟩;rw[t,dP];rfl
  |false=>
   have g:a∉ys:=of_decide_eq_false a0;rw[if_neg g]at t;refine cG (k2 _ ⟨rfl,?_,VF⟩);rw[t,kG]
 rintro vs H' ⟨rfl,rfl,D⟩;rw[Y,dY (bQ _)];intro a1 af;have G:=aM.upd (o:=.lst (((fs.filter λd=>decide (aN d∈ys)).map ko).map V.int)) af;refine⟨a1,_,rfl,aT.of aV,?_⟩;have u:=r.trans G;have I:=G _ _ m;generalize aI z a1 (.lst (((fs.filter λd=>decide (aN d∈ys)).map ko).map V.int))=ag at G u I ⊢;have ah:=L.same u;refine⟨_,rfl,_,_,rfl,rfl,.inl ⟨VD,VD⟩,?_⟩;refine⟨_,rfl,ln,rfl,⟨_,aT.of I⟩,?_⟩;refine fP (F:=K) (xs:=(fs.map aN).map V.str) VF (λi vs H'=>ag=H'/\vs=((fs.take i).map ko).map V.int) ⟨rfl,rfl⟩ ?_ ?_ ?_
 .rintro i vs H' a9 ⟨rfl,rfl⟩;exact⟨aT.of I,by rw[aS,aS,dU];omega⟩
 .rintro i aa vs H' ac ae j ⟨rfl,rfl⟩ k1 k2;obtain⟨d,b⟩:∃d,fs[i]?=some d:=by
   have:=(dI.mp j).1;exact⟨_,cY VF⟩
  rw[dO,dO,b]at j;cases j;obtain⟨a,k,e,rfl,_⟩:=jc (y.all d (dN b));refine⟨_,rfl,_,_,_,rfl,(u _ _ B),kM _ _ VE VE,_,rfl,_,_,rfl,p,fs,N,a,k,e,rfl,rfl,ah,dN b,k1 _ _ ⟨rfl,?_⟩⟩;rw[eL,b,dP,dP];rfl
 rintro vs H' ⟨rfl,rfl⟩;rw[Y,dY (bQ _)];intro ai aj;have ak:=aM.upd (o:=.lst ((fs.map ko).map V.int)) aj;refine⟨ai,_,rfl,aT.of aV,_,_,rfl,rfl,_,rfl,?_⟩;change if decide (2*kn fs ys<=kq fs)=aC then _ else _
 have n:=q _ (u.trans ak);unfold qr at n;cases a2:decide (2*kn fs ys<=kq fs) with
 |false=>
  rw[a2,if_pos (by rfl)]at n;exact cG n
 |true=>
  rw[a2,if_neg VD]at n;exact cU ⟨cQ rfl,n⟩
def gA(H:aD)(J:List (aW×V))(zs:List aA)(pu:aA->Int×Int):Prop:=Paired (λ(a:aA)(b:aW×V)=>b.1=Sum.inr a/\Fr H b.2 (pu a).1 (pu a).2) zs J
def tu(pu:aA->Int×Int)(zs:List aA):Prop:=∀a∈zs,ln (pu a).1/\ln (pu a).2
theorem gA.same(S:iU H H')(h:gA H J zs pu):gA H' J zs pu:=by
 unfold gA at *
 induction h with
 |nil=>exact .nil
 |cons a r b=>
  obtain⟨e,l,ev,c⟩:=a;exact .cons ⟨e,l,ev,S _ _ c⟩ b
theorem gA.val(h:gA H J zs pu)(m:b∈zs):∃v,fE J (Sum.inr b)=some v/\Fr H v (pu b).1 (pu b).2:=by
 unfold gA at h
 induction h with
 |nil=>cases m
 |@cons y f zs J a r g=>
  obtain⟨e,fr⟩:=a;obtain⟨k,v⟩:=f;cases(show k=Sum.inr y from e);by_cases c:y=b
  .subst c;exact⟨v,by unfold fE;simp[kN],fr⟩
  .obtain⟨u,d,i⟩:=g (by rcases eM.mp m with q|q;exact absurd q.symm c;exact q);refine⟨u,?_,i⟩;unfold fE at d ⊢;have:decide ((Sum.inr y:aW)=Sum.inr b)=aJ:=decide_eq_false (λq=>c (by cases q;rfl));simp only[kN,this];exact d
theorem gA.key(h:gA H J zs pu):J.map (·.1)=zs.map (Sum.inr:aA->aW):=by
 unfold gA at h
 induction h with
 |nil=>rfl
 |cons a r b=>rw[dW,dW,a.1,b]
noncomputable def gI(pu b:aA->Int×Int)(a:aA):Bool:=decide ((pu a).1*(b a).2<(b a).1*(pu a).2)
inductive zE(cS:aB)(vs:List V)(H:aD)(Q:aP)(E:dL):Prop
 |mk:∀(dp dS:aB)(kp kS:List (aW×V))(zs ws:List aA)(pu sh:aA->Int×Int),vs=[.ref dp,.ref dS]->fB H dp (.dK kp)->gA H kp zs pu->H dS=some (.dK kS)->dp≠dS->gA H kS ws sh->tu pu zs->tu sh ws->(∀z∈ws,z∈zs)->(∀o,((∀z∈ws,gI pu sh z=aJ)->Q .non (aI H dS (.frz o (.dK kS))))/\∀i z,ws[i]?=some z->gI pu sh z=aC->(∀y∈ws.take i,gI pu sh y=aJ)->∀d,H d=aG->E (.ref cS) (some d) (aI (aI H dS (.frz o (.dK kS))) d (nM d "field" (.str z))))->zE cS vs H Q E
theorem TA(T:Txt K mg C)(D:mg "Short"=some (.ref c)):kI P w K mg base 3 "check_purses" ["purse_of","share_of"] (zE c):=by
 obtain⟨al,am,⟨a3,an,ao,ap,aq,ar,as,au,av⟩,G,aw⟩:=T.Wg;have I:=G;rw[D]at I;cases I;refine T.Zv.fcX FH (λvs H Q E h=>?_) (λf ax A outer s H vs Q E u h=>?_)
 .obtain⟨dp,j,kp,kS,zs,n,pu,p,rfl,_⟩:=h;rfl
 obtain⟨dp,j,kp,kS,zs,n,pu,p,rfl,a4,fp,J,a5,fs,lp,L,sub,q⟩:=h;have M:=j7 u;refine⟨_,(bF (k4 tW.leaving O (wO (pv 1)) (dJ (i:=2) FH.nd O VG) (bF (fD (fY (bZ (zR T) (u.mono VD) (aF (j6 M (pv 0) (pv 2) (λ_ _=>O)) (aF (j6 M (pv 1) (pv 2) (λ_ _=>O)) aL)))) (bF (Mr G a3.ex (Jx T D) (u.mono VD) O Ln (aF (pv 2) aL))) fC)))),?_⟩;refine⟨_,O,j,kS,O,J,λo=>?_⟩;obtain⟨a6,a7⟩:=q o;have KT:iU H (aI H j (.frz o (.dK kS))):=λb xs e=>by rw[bD (λg=>by rw[g,J]at e;cases e)];exact e
 have a8:fB (aI H j (.frz o (.dK kS))) dp (.dK kp):=by unfold fB;rw[bD a5];exact a4
 have a9:=fp.same KT;have aa:=fs.same KT;have B:=fs.key;have ac:kS.length=n.length:=by have:=congrArg mI B;rwa [aS,aS]at this
 have N:aI H j (.frz o (.dK kS)) j=some (.frz o (.dK kS)):=aV;have ae:∀d,aI H j (.frz o (.dK kS)) d=aG->H d=aG:=λd e=>by
  by_cases g:d=j
  .rw[g,aV]at e;cases e
  .rwa [bD g]at e
 generalize aI H j (.frz o (.dK kS))=z at *;refine xY (λi Y H'=>H'=z/\(∀y∈n.take i,gI pu p y=aJ)/\∃x,Y=[some (.ref dp),some (.ref j),x]) ⟨O,(λy m=>absurd m (by simp)),_,O⟩ (λi Y H' _ ⟨e,_⟩=>e▸N) ?_ ?_
 .rintro i af Y H' U ⟨rfl,r,x,rfl⟩;obtain⟨g,t⟩:∃g,n[i]?=some g:=⟨_,cY (by have:=(dI.mp U).1;omega)⟩
  have ag:af.1=Sum.inr g:=by
   have h:=congrArg (λl=>l[i]?) B;simp only[dO,U,t]at h;exact gK h
  have k:=dN t;obtain⟨a,ea,ah⟩:=a9.val (sub g k);obtain⟨b,ai,aj⟩:=aa.val k;rw[ag];refine⟨_,O,_,O,dp,a,O,?_,_,O,_,O,j,b,O,?_,_,_,O,_,_,_,_,ah,aj,(lp g (sub g k)).1,(lp g (sub g k)).2,(L g k).1,(L g k).2,_,O,?_⟩
  .exact .inl ⟨kp,Sum.inr g,a8,O,ea.symm⟩
  .exact .inl ⟨kS,Sum.inr g,.inr ⟨o,N⟩,O,ai.symm⟩
  change if gI pu p g=aC then _ else _
  cases a0:gI pu p g with
  |true=>exact cU ⟨_,O,_,O,λd ak=>a7 i g t a0 r d (ae d ak)⟩
  |false=>
   refine cG ⟨O,λy m=>?_,_,O⟩;rw[eL,t]at m;rcases gQ.mp m with m|m
   .exact r y m
   .cases fG.mp m;exact a0
 .rintro Y H' ⟨rfl,r,x,rfl⟩;exact a6 λg m=>r g (by rw[ac,dY (bQ _)];exact m)
def iT(zs:List aA)(cnt:aA->Int):List (aW×V):=zs.map λa=>(Sum.inr a,V.int (cnt a))
theorem Bv:∀{zs:List aA} {g:aA},g∈zs->fE (iT zs c) (Sum.inr g)=some (.int (c g))
 |[],_,m=>by cases m
 |z::zs,g,m=>by
  unfold fE iT;by_cases e:z=g
  .subst e;simp
  .have a:g∈zs:=by
    rcases eM.mp m with h|h
    .exact absurd h.symm e
    .exact h
   have:=Bv (c:=c) (zs:=zs) a;unfold fE iT at this;rw[dW,List.find?_cons_of_neg (by simp[e])];exact this
noncomputable def EZ:List aA:=["land_now","purse_of","works_done"]
structure sK (F:List (aA×V)) (pl dp lw:aB):Prop where
 f1:F.lookup ("land_now":aA)=some (.ref pl)
 f2:F.lookup ("purse_of":aA)=some (.ref dp)
 f3:F.lookup ("works_done":aA)=some (.ref lw)
 no:∀m:aA,¬m∈EZ->F.lookup m=aG
theorem fB.same'(S:aM H H')(h:fB H a u):fB H' a u:=by
 rcases h with h|⟨o,h⟩
 .exact .inl (S _ _ h)
 .exact .inr ⟨o,S _ _ h⟩
def mo(pl:aB):List (aA×V):=gX "land_now" (.ref pl) []
def m2(pl dp:aB):List (aA×V):=gX "purse_of" (.ref dp) (mo pl)
def m3(pl dp lw:aB):List (aA×V):=gX "works_done" (.ref lw) (m2 pl dp)
theorem Lx(pl dp lw:aB):sK (m3 pl dp lw) pl dp lw:=by
 unfold m3 m2 mo;have q:∀(m f:aA)(v:V)(F:List (aA×V)),¬m=f->(gX f v F).lookup m=F.lookup m:=λm f v F h=>by rw[lQ,if_neg h]
 have r:∀(f:aA)(v:V)(F:List (aA×V)),(gX f v F).lookup f=some v:=λf v F=>by rw[lQ,if_pos O]
 refine⟨?_,?_,?_,λm hm=>?_⟩
 .rw[q _ _ _ _ VE,q _ _ _ _ VE,r]
 .rw[q _ _ _ _ VE,r]
 .rw[r]
 .unfold EZ at hm;simp only[eM,mF,or_false,not_or]at hm;obtain⟨a,b,c⟩:=hm;rw[q _ _ _ _ c,q _ _ _ _ b,q _ _ _ _ a];rfl
theorem tS(f:aA)(v:V):∀F:List (aA×V),(gX f v F).length<=F.length+1
 |[]=>bQ _
 |(g,x)::F=>by
  have a:=tS f v F;unfold gX;by_cases e:g=f
  .subst e;simp
  .simp[e];exact a
theorem DZ(pl dp lw:aB):(mo pl).length<=1/\(m2 pl dp).length<=2/\(m3 pl dp lw).length<=3:=by
 have h1:(mo pl).length<=1:=tS "land_now" (.ref pl) [];have h2:=tS "purse_of" (.ref dp) (mo pl);have h3:=tS "works_done" (.ref lw) (m2 pl dp);unfold m3 m2 at *;omega
def yC(zs b:List aA)(c:aA->Int):Prop:=b.length=zs.length/\(∀a∈b,a∈zs)/\(∀a∈zs,a∈b)/\∀a∈b,0<=c a/\c a<=1000000000000
theorem yC.pur(h:yC zs d c):p2 zs (d.map Sum.inr) (d.map λa=>aH.int (c a))=aC:=by
 unfold p2;rw[aS,decide_eq_true h.1,jX,j9];intro b m;rw[List.zipWith_map,List.zipWith_self]at m;obtain⟨a,e,rfl⟩:=cP.mp m;obtain⟨h1,h2⟩:=h.2.2.2 a e;show(decide (a∈zs)&&(decide (0<=c a)&&decide (c a<=1000000000000)))=aC;rw[decide_eq_true (h.2.1 a e),decide_eq_true h1,decide_eq_true h2];rfl
theorem Cu(f:aA->Int):∀zs:List aA,IsL H (zs.map λz=>aH.int (f z)) (zs.map λz=>V.int (f z))
 |[]=>rfl
 |z::zs=>⟨_,_,O,O,Cu f zs⟩
theorem Bi(f:aA->Int):∀zs:List aA,on (zs.map λz=>aH.int (f z))=aC
 |[]=>rfl
 |z::zs=>Bi f zs
theorem gA.snoc(h:gA H J zs pu)(e:Fr H v (pu b).1 (pu b).2):gA H (J++[(Sum.inr b,v)]) (zs++[b]) pu:=by
 unfold gA at *
 induction h with
 |nil=>exact .cons ⟨O,e⟩ .nil
 |cons a r c=>exact .cons a c
theorem gA.len(h:gA H J zs pu):J.length=zs.length:=by
 have:=congrArg mI h.key
 rwa [aS,aS]at this
theorem o2(S:aM H H'):iU H H':=λb xs e=>S _ _ e
def vU(a:aA->Int)(b:aA):Int×Int:=(a b,1)
theorem OT(a:Int):low a 1=(a,1):=by
 unfold low;rw[Int.gcd_one];exact Prod.ext (Int.ediv_one a) O
structure jz (I C:aB) (H:aD) (p dp lw pl:aB) (fs gs:List aH) (pu:aA->Int×Int) (wk:List aH):Prop where
 ex:∃dx F J us H0,H p=some (.ins I dx F)/\sK F pl dp lw/\F.length<=3+wk.length/\H dp=some (.dK J)/\gA H J (fs.map aN) pu/\H lw=some (.lst us)/\aM H0 H/\H0 p=aG/\H0 dp=aG/\H0 lw=aG/\eZ C H0 pl fs gs/\IsL H0 wk us
section
variable{I C:aB}{H H':aD}{p dp lw pl:aB}{fs gs:List aH}{pu:aA->Int×Int}{wk:List aH}
theorem jz.same(S:aM H H')(M:jz I C H p dp lw pl fs gs pu wk):jz I C H' p dp lw pl fs gs pu wk:=by
 obtain⟨dx,F,J,us,H0,h1,h2,a,b,c,d,s,e,f,g,L,h⟩:=M;exact⟨dx,F,J,us,H0,S _ _ h1,h2,a,S _ _ b,c.same (o2 S),S _ _ d,s.trans S,e,f,g,L,h⟩
theorem jz.lnd(M:jz I C H p dp lw pl fs gs pu wk):eZ C H pl fs gs:=by
 obtain⟨dx,F,J,us,H0,h1,h2,a,b,c,d,s,e,f,g,L,h⟩:=M;exact L.same s
end
inductive HI(I C:aB)(x y z:V)(H:aD)(Q:aP):Prop
 |mk:∀(p dx pl a:aB)(fs gs:List aH)(zs:List aA)(held:aA->Int)(H0:aD),x=.ref p->H p=some (.ins I dx [])->y=.ref pl->aM H0 H->H0 p=aG->H0 a=aG->eZ C H0 pl fs gs->z=.ref a->H a=some (.dK (iT zs held))->yC (fs.map aN) zs held->(∀(dp lw:aB)(H':aD),jz I C H' p dp lw pl fs gs (vU held) []->(∀b o,H b=some o->b≠p->b≠a->H' b=some o)->H lw=aG->Q .non H')->HI I C x y z H Q
def yv(I C:aB):cA:=kB (HI I C)
theorem Ha(T:Txt K mg C)(b9:mg "Moot"=some (.ref I)):nX P w K mg base 4 I ["self","land","purses"] (yv I C):=by
 obtain⟨br,a4,al,ba,bb,bc,bd,bs,bt,bu,bv,bw⟩:=T.Wb;rw[b9]at al;cases al;refine bd.ic JS k9 (λf bx A outer s H vs Q E B h=>?_);obtain⟨x,y,c,rfl,p,dx,pl,a,fs,gs,zs,g,H0,rfl,a5,rfl,l,a6,am,L,rfl,an,a7,q⟩:=h;have bz:=gB;have ao:=(iE L).1;have f2:=ao.l2;have bh:=j7 B;have bM:(iT zs g).length=zs.length:=by unfold iT;rw[aS]
 have ap:iT zs g=(zs.map (Sum.inr:aA->aW)).zip (zs.map λc=>V.int (g c)):=by
  unfold iT;rw[List.zip_map,List.zip_eq_zipWith,List.zipWith_self,fS];rfl
 have bO:zs.length<=12:=by have:=a7.1;rw[aS]at this;omega
 have aq:p≠a:=λc=>by rw[c,an]at a5;cases a5
 refine⟨_,(bB (fD (iF (fY (bZ (Ui T) (B.mono VD) (aF (pv 1) (aF (pv 2) aL))))) (bF o1) fC) (bB (rP (pv 0) (pv 1) O) (bB (rP (pv 0) (hU (n3 O) O T.q21 lS (aF (fM ["name","purses"] 1 [2] O (eV (ki T.ad (rk T) (B.mono VD) (pv 1))) (λR=>dJ (i:=0) (VE:eG (["name","purses"]:List aA)) O VG) (eN VD) (λR=>gN) (λR=>(jd (aF (pv 0) (aF (bZ (zc T) (B.mono VD) (aF (j6 bh (pv 1) (pv 0) (λ_ _=>O)) (aF aQ aL))) aL))))) aL)) O) (bF (rP (pv 0) (eA aL) O))))),?_⟩;refine⟨_,O,_,O,_,_,O,pl,fs,gs,O,L.same l,.inr ⟨a,zs.map Sum.inr,zs.map λc=>V.int (g c),zs.map λc=>aH.int (g c),O,by rw[←ap];exact an,by rw[aS,aS],Cu _ _,Bi _ _,by rw[aS];omega,λz ar h1=>?_⟩⟩;rw[a7.pur,←ap]at *;refine⟨_,O,cG ?_⟩;refine⟨_,O,_,O,p,I,dx,[],O,ar _ _ a5 aq,a4,ba,VD,?_⟩;have D:∀b o,H b=some o->b≠p->b≠a->aI z p (.ins I dx (mo pl)) b=some o:=λb o e j m=>by rw[bD j];exact ar _ _ e m
 have as:aI z p (.ins I dx (mo pl)) p=some (.ins I dx (mo pl)):=aV;have G:fB (aI z p (.ins I dx (mo pl))) a (.dK (iT zs g)):=by unfold fB;rw[bD aq.symm];exact h1
 change jv _ _ _ _ (aI z p (.ins I dx (mo pl)));generalize aI z p (.ins I dx (mo pl))=H2 at D as G;have bi:aM H0 H2:=λb o e=>D _ _ (l _ _ e) (dC e a6) (dC e am);have au:=L.same bi;obtain⟨bj,bR,bV,bk,_⟩:=au.ex;refine⟨_,O,pl,bj,_,O,bk,kM _ _ VE VE,_,O,pl,fs,gs,O,au,λln av a8 bW M=>?_⟩;have M:av ln=some (.lst ((fs.map aN).map V.str)):=M;refine⟨ln,O,⟨_,aT.of M⟩,?_⟩;refine fP (F:=K) (xs:=(fs.map aN).map V.str) (by rw[aS,aS];omega) (λi ys H'=>aM av H'/\∃J,gC H' ys J/\gA H' J ((fs.map aN).take i) (vU g)) ⟨aM.refl _,[],gC.nil _,lm⟩ ?_ ?_ ?_
 .rintro i ys H' c0 ⟨S,J,n,fr⟩;have:=fr.len;rw[dU]at this;exact⟨aT.of (S _ _ M),by have:=n.len;omega⟩
 .rintro i c1 ys H' c2 c3 a9 ⟨S,J,n,fr⟩ k1 k2;obtain⟨c,aa⟩:∃c,(fs.map aN)[i]?=some c:=by
   have:=(dI.mp a9).1;rw[aS]at this;exact⟨_,cY this⟩
  rw[dO,aa]at a9;cases a9;have bl:c∈zs:=a7.2.2.1 c (dN aa);refine⟨_,O,_,O,_,O,a,_,O,?_,_,_,O,g c,1,O,O,VD,VD,λbm c4 ac aw=>?_⟩
  .rw[←Bv bl];exact .inl ⟨_,Sum.inr c,fB.same' (a8.trans S) G,O,O⟩
  rw[OT]at aw;refine⟨cQ O,λt N=>k1 _ _ ⟨S.trans (ac.trans (aM.upd N)),J++[(Sum.inr c,bm)],?_,?_⟩⟩
  .exact(n.same ac).snoc (k:=Sum.inr c) N
  .rw[eL,aa];exact(fr.same (o2 (ac.trans (aM.upd N)))).snoc (Fr.same (aM.upd N) aw)
 rintro ys ax ⟨ay,J,n,fr⟩;rw[dY (by rw[aS,aS,aS];exact bQ _)]at fr;have bn:=fr.len;rw[aS]at bn;intro ae bo;have U:=aM.upd (o:=.lst ys) bo;refine⟨ae,ys,J,O,aT.of aV,n.same U,VF,?_,λdp az=>?_⟩
 .rw[fr.key,n7];exact ao.nd
 have aR:=aM.upd (o:=.dK J) az;have r:=a8.trans (ay.trans (U.trans aR));have b0:=fr.same (o2 (U.trans aR));have Y:aI (aI ax ae (.lst ys)) dp (.dK J) dp=some (.dK J):=aV;have af:H2 dp=aG:=(a8.trans (ay.trans U)).free az;have a0:=r _ _ as;have b1:=fB.same' r G;generalize aI (aI ax ae (.lst ys)) dp (.dK J)=d at r b0 Y a0 b1;have c5:=DZ pl dp dp;refine⟨_,O,p,I,dx,mo pl,O,a0,a4,bb,VF,?_⟩;have b2:dp≠p:=λc=>by rw[c,a0]at Y;cases Y
 have ag:lz p d (aI d p (.ins I dx (m2 pl dp))):=(aM.x (aM.refl d)).put;have ah:aI d p (.ins I dx (m2 pl dp)) p=some (.ins I dx (m2 pl dp)):=aV;change Ends.nx _ _ (aI d p (.ins I dx (m2 pl dp)));generalize aI d p (.ins I dx (m2 pl dp))=u at ag ah;refine⟨cQ O,λlw a1=>?_⟩;have b3:=aM.upd (o:=.lst []) a1;refine⟨_,O,p,I,dx,m2 pl dp,O,b3 _ _ ah,a4,bc,VF,?_⟩;have a2:lw≠p:=λc=>by rw[c,ah]at a1;cases a1
 have a3:lz p d (aI (aI u lw (.lst [])) p (.ins I dx (m3 pl dp lw))):=(ag.then b3).put;have b4:aI (aI u lw (.lst [])) p (.ins I dx (m3 pl dp lw)) p=some (.ins I dx (m3 pl dp lw)):=aV;have b5:aI (aI u lw (.lst [])) p (.ins I dx (m3 pl dp lw)) lw=some (.lst []):=by rw[bD a2,aV]
 show Q .non (aI (aI u lw (.lst [])) p (.ins I dx (m3 pl dp lw)));generalize aI (aI u lw (.lst [])) p (.ins I dx (m3 pl dp lw))=ai at a3 b4 b5 ⊢;have aj:d lw=aG:=by
  cases e:d lw with
  |none=>rfl
  |some o=>
   have:=ag _ _ e a2;rw[a1]at this;cases this
 have bp:dp≠a:=λc=>by
  rw[c]at af;rcases G with h|⟨o,h⟩<;>rw[af]at h<;>cases h
 have b6:lw≠a:=λc=>by
  rw[c]at aj;rcases b1 with h|⟨o,h⟩<;>rw[aj]at h<;>cases h
 have b7:∀b o,H b=some o->b≠p->b≠a->ai b=some o:=λb o e j m=>a3 _ _ (r _ _ (D _ _ e j m)) j;have ak:∀b,b≠p->b≠a->H2 b=aG->H b=aG:=λb j m h=>by
  cases e:H b with
  |none=>rfl
  |some o=>
   have:=D _ _ e j m;rw[h]at this;cases this
 have b8:H2 lw=aG:=by
  cases e:H2 lw with
  |none=>rfl
  |some o=>
   have:=r _ _ e;rw[aj]at this;cases this
 have bq:iU d ai:=λb xs e=>a3 _ _ e (λc=>by rw[c,a0]at e;cases e);exact q dp lw ai ⟨dx,m3 pl dp lw,J,[],H0,b4,Lx _ _ _,(DZ pl dp lw).2.2,a3 _ _ Y b2,b0.same bq,b5,λb o e=>b7 _ _ (l _ _ e) (dC e a6) (dC e am),a6,l.free (ak dp b2 bp af),l.free (ak lw a2 b6 b8),L,O⟩ b7 (ak lw a2 b6 b8)
inductive HK(I C:aB)(x:V)(H:aD)(Q:aP):Prop
 |mk:∀(p dp lw pl:aB)(fs gs:List aH)(pu:aA->Int×Int)(wk:List aH),x=.ref p->jz I C H p dp lw pl fs gs pu wk->(∀(l:aB)(J:List (aW×V)),H l=aG->gA H J (fs.map aN) pu->Q (.ref l) (aI H l (.dK J)))->HK I C x H Q
def u5(I C:aB):cA:=sp1 (HK I C)
theorem y3(T:Txt K mg C)(b:mg "Moot"=some (.ref I)):fA P w K mg base 1 I "purses" ["self"] (u5 I C):=by
 obtain⟨m,c,a,n,d,o,r,t,u,y,e,z⟩:=T.Wb;rw[b]at a;cases a;refine e.mc TQ jN (λf B A outer s H vs Q E D h=>?_);obtain⟨x,rfl,p,dp,lw,pl,fs,gs,pu,wk,rfl,M,q⟩:=h;obtain⟨dx,F,J,us,H0,g,i,_,j,fr,_⟩:=M;refine⟨_,(bF (cJ (hU JL O T.q21 lS (aF (ky (pv 0) O) aL)))),?_⟩;exact⟨_,O,p,I,dx,F,_,O,g,c,d,i.f2,dp,J,O,j,λl k=>q l J k fr⟩
inductive HJ(I C:aB)(x:V)(H:aD)(Q:aP):Prop
 |mk:∀(p dp lw pl:aB)(fs gs:List aH)(pu:aA->Int×Int)(wk:List aH),x=.ref p->jz I C H p dp lw pl fs gs pu wk->Q (.ref pl) H->HJ I C x H Q
def wK(I C:aB):cA:=sp1 (HJ I C)
theorem y7(T:Txt K mg C)(b:mg "Moot"=some (.ref I)):fA P w K mg base 1 I "land" ["self"] (wK I C):=by
 obtain⟨j,c,a,d,k,l,m,n,o,e,r,t⟩:=T.Wb;rw[b]at a;cases a;refine e.mc Uz jN (λf u A outer s H vs Q E y h=>?_);obtain⟨x,rfl,p,dp,lw,pl,fs,gs,pu,wk,rfl,M,q⟩:=h;obtain⟨dx,F,J,us,H0,g,i,_,z,fr,_⟩:=M;refine⟨_,(bF (cJ (ky (pv 0) O))),?_⟩;exact⟨_,O,p,I,dx,F,_,O,g,c,d,i.f1,q⟩
def rh(d:aH):Prop:=∃(a:List aA)(h c:Int),d=.tup [.lst (a.map aH.str),.int h,.int c]/\a.length<=12
inductive HH(I C:aB)(x:V)(H:aD)(Q:aP):Prop
 |mk:∀(p dp lw pl:aB)(fs gs:List aH)(pu:aA->Int×Int)(wk:List aH),x=.ref p->jz I C H p dp lw pl fs gs pu wk->(∀d∈wk,rh d)->wk.length<=100->(∀(l:aB)(us:List V)(H':aD),aM H H'->H l=aG->H' l=some (.lst us)->IsL H' wk us->Q (.ref l) H')->HH I C x H Q
def x9(I C:aB):cA:=sp1 (HH I C)
theorem Gs(T:Txt K mg C)(B:mg "Moot"=some (.ref I)):fA P w K mg base 1 I "done" ["self"] (x9 I C):=by
 obtain⟨ae,D,u,af,ag,G,ah,ai,aj,ak,al,L⟩:=T.Wb;rw[B]at u;cases u;refine L.mc Ju jN (λf am A outer s H vs Q E an h=>?_);obtain⟨x,rfl,p,dp,lw,pl,fs,gs,pu,wk,rfl,M,N,ao,q⟩:=h;obtain⟨dx,F,J,us,H0,U,Y,_,ap,fr,y,a0,_,_,_,_,g⟩:=M;have aq:=gB;have g:=IsL.same a0 _ _ g;have a1:=g.length;refine⟨_,(bF (cJ (fM ["work"] 1 [] O (eV (ky (pv 0) O)) (λR=>dJ (i:=0) (VE:eG (["work"]:List aA)) O VG) (eN VD) (λR=>gN) (λR=>(jd (aF (hU (zg (K:=K) O) O T.q25 kW (aF (cF (cR (K:=K) O) (pv 0) aQ (λ_ _=>O)) aL)) (aF (cF (cR (K:=K) O) (pv 0) aQ (λ_ _=>O)) (aF (cF (cR (K:=K) O) (pv 0) aQ (λ_ _=>O)) aL)))))))),?_⟩;refine⟨_,O,p,I,dx,F,_,O,U,D,G,Y.f3,lw,O,⟨_,aT.of y⟩,?_⟩;refine fP (F:=K) (xs:=us) VF (λi ys H'=>aM H H'/\IsL H' (wk.take i) ys) ⟨aM.refl _,O⟩ ?_ ?_ ?_
 .rintro i ys H' ar ⟨S,b⟩;have:=b.length;rw[dU]at this;exact⟨aT.of (S _ _ y),VF⟩
 .rintro i as ys H' au av z ⟨S,b⟩ k1 k2;obtain⟨d,m⟩:∃d,wk[i]?=some d:=⟨_,cY (by have:=(dI.mp z).1;omega)⟩
  obtain⟨v,ev,a2⟩:=(IsL.same S _ _ g).get m;rw[z]at ev;cases ev;obtain⟨aw,h,c,rfl,ax⟩:=N d (dN m);obtain⟨t,_,rfl,n,ay,_,rfl,⟨a,zs,rfl,a3,a4⟩,a5,_,rfl,a6,a7,_,rfl,a8,rfl⟩:=a2;cases(show a5=.int h from a6);cases(show a7=.int c from a8);refine⟨_,O,t,_,0,_,O,O,bY.of n,cE (j:=0) O,a,zs,O,.inl (aT.of a3),λa9 aa=>?_⟩;have e:=aM.upd (o:=.lst zs) aa;refine⟨_,O,t,_,1,.int h,O,O,bY.of (e _ _ n),cE (j:=1) O,_,O,t,_,2,.int c,O,O,bY.of (e _ _ n),cE (j:=2) O,cQ O,λac k=>k1 _ _ ⟨S.trans (e.trans (aM.upd k)),?_⟩⟩;rw[eL,m];refine IsL.snoc ?_ (IsL.same (e.trans (aM.upd k)) _ _ b);exact⟨ac,_,O,aV,_,_,O,⟨a9,zs,O,aM.upd k _ _ aV,IsL.same (e.trans (aM.upd k)) _ _ a4⟩,_,_,O,O,_,_,O,O,O⟩
 .rintro ys H' ⟨S,b⟩;rw[a1,dY (bQ _)]at b;intro l r;exact q l ys _ (S.trans (aM.upd r)) (S.free r) aV (IsL.same (aM.upd r) _ _ b)
inductive wc(mg:aA->Option aE)(I C c:aB)(vs:List V)(H:aD)(Q:aP)(E:dL):Prop
 |mk:∀(p dp lw pl:aB)(fs gs:List aH)(pu:aA->Int×Int)(wk:List aH)(y u z:V)(d e:aH),vs=[.ref p,y,u,z]->jz I C H p dp lw pl fs gs pu wk->bK H d y->gT d=aC->bK H e u->((k6 (fs.map aN) d=aJ\/kY e=aJ))->(∀H',aM H H'->E (.ref c) aG H')->wc mg I C c vs H Q E
theorem Um(T:Txt K mg C)(b:mg "Moot"=some (.ref I))(g:mg "NoWish"=some (.ref c)):ou P w K mg base 11 "Moot.move" tj ["self","fields","height","yes","land","share_of","told","name"] ["self","fields","height","yes"] (wc mg I C c):=by
 obtain⟨B,j,a,k,D,G,N,U,Y,a0,a1,a2⟩:=T.Wb;rw[b]at a;cases a;refine⟨λvs H Q E h=>?_,λf a3 A outer s H vs Q E m h=>?_⟩
 .obtain⟨p,dp,lw,pl,fs,gs,pu,wk,y,u,n,d,e,rfl,_⟩:=h;rfl
 obtain⟨p,dp,lw,pl,fs,gs,pu,wk,y,u,n,d,e,rfl,M,o,dD,r,t,q⟩:=h;have L:=M.lnd;obtain⟨dx,F,J,us,H0,x,z,_⟩:=M;refine⟨_,(bB (cH (i:=4) oU.nd O VG (ky (pv 0) O)) (bB (jK (pi (FT T) (m.mono VD) o4 (aF (pv 4) (aF (pv 1) (aF (pv 2) aL))))) rx)),?_⟩;refine⟨_,O,p,I,dx,F,_,O,x,j,k,z.f1,?_⟩;exact⟨_,O,_,O,_,O,_,_,_,pl,fs,gs,d,e,c,O,O,L,o,dD,r,t,g,q⟩
inductive tO(I C cM cV:aB)(vs:List V)(H:aD)(Q:aP)(E:dL):Prop
 |mk:∀(p dp lw pl l ly:aB)(fs gs:List aH)(pu:aA->Int×Int)(wk:List aH)(ws:List aA)(L:Int)(es:List aH)(us:List V),vs=[.ref p,.ref l,.int L,.ref ly]->jz I C H p dp lw pl fs gs pu wk->H l=some (.lst (ws.map V.str))->ws.Nodup->(∀z∈ws,z∈fs.map aN)->8<ws.length->gT (.lst (ws.map aH.str))=aC->hgt L=aC->H ly=some (.lst us)->IsL H es us->es.length<=100->(∀H',aM H H'->E (.ref (if (es.map (eE (fs.map aN))).all id=aC then cM else cV)) aG H')->tO I C cM cV vs H Q E
theorem Ul(T:Txt K mg C)(B:mg "Moot"=some (.ref I))(D:mg "TooMany"=some (.ref c))(G:mg "NoVoice"=some (.ref d)):ou P w K mg base 11 "Moot.move" tj ["self","fields","height","yes","land","share_of","told","name"] ["self","fields","height","yes"] (tO I C c d):=by
 obtain⟨ac,N,n,U,ae,af,ag,ah,ai,aj,ak,al⟩:=T.Wb;rw[B]at n;cases n;refine⟨λvs H Q E h=>?_,λf am A outer s H vs Q E e h=>?_⟩
 .obtain⟨p,dp,lw,pl,l,o,fs,gs,pu,wk,a,L,es,us,rfl,_⟩:=h;rfl
 obtain⟨p,dp,lw,pl,l,o,fs,gs,pu,wk,a,g,es,us,rfl,M,r,t,sub,a2,dD,u,a3,a4,le,q⟩:=h;have L:=M.lnd;obtain⟨dx,F,J,us,H0,a5,a6,_⟩:=M;refine⟨_,(bB (cH (i:=4) oU.nd O VG (ky (pv 0) O)) (bB (jK (bZ (tc T) (e.mono VD) (aF (pv 4) (aF (pv 1) (aF (pv 2) aL))))) (bB (jK (pi (Ft T G) (e.mono VD) o4 (aF (pv 4) (aF (pv 3) aL)))) (bB (cH (i:=5) oU.nd O VG (pi (Km T) (e.mono VD) o4 (aF (pv 4) (aF (pv 1) (aF (pv 2) aL))))) rx)))),?_⟩;refine⟨_,O,p,I,dx,F,_,O,a5,N,U,a6.f1,?_⟩;refine⟨_,O,_,O,_,O,_,_,_,O,pl,l,fs,gs,a,g,O,L,O,r,VF,t,sub,O,u,λz b=>?_⟩;refine⟨_,O,_,O,pl,o,fs,gs,es,_,O,L.same b,b _ _ a3,IsL.same b _ _ a4,le,λH2 x=>?_⟩;have j:=q H2 (b.trans x);unfold qr;cases k:(es.map (eE (fs.map aN))).all id with
 |false=>
  rw[k]at j;exact j
 |true=>
  rw[k]at j;have m:=b.trans x;have a7:∀zs:List aA,IsL H2 (zs.map aH.str) (zs.map V.str):=λzs=>by
   induction zs with
   |nil=>rfl
   |cons z zs a8=>exact⟨.str z,_,O,O,a8⟩
  refine⟨_,O,_,O,_,O,_,_,_,pl,fs,gs,.lst (a.map aH.str),.int g,"TooMany",c,O,O,L.same m,⟨l,_,O,m _ _ r,a7 a⟩,dD,O,.inr ⟨O,a,g,O,t,sub,a2,O,u⟩,D,λa9 aa=>?_⟩;have y:=q a9 (m.trans aa);rw[k]at y;exact y
theorem Df(x y:Int):(low x y).1.natAbs<=x.natAbs:=by
 show(x/((Int.gcd x y:Nat):Int)).natAbs<=_;rw[Int.natAbs_ediv_of_dvd (Int.gcd_dvd_left ..)];exact Nat.div_le_self _ _
theorem De(h:0<y):0<(low x y).2:=by
 have g:=yk (a:=x) h;show 0<y/((Int.gcd x y:Nat):Int);exact Int.ediv_pos_of_pos_of_dvd h (uQ g) (Int.gcd_dvd_right ..)
theorem Dd(h:0<y)(b:y∣x*N):(low x y).2∣N:=by
 have g:=yk (a:=x) h;show y/((Int.gcd x y:Nat):Int)∣N;have e:((Int.gcd x y:Nat):Int)*(y/((Int.gcd x y:Nat):Int))=y:=Int.mul_ediv_cancel' (Int.gcd_dvd_right ..);have d:y∣((Int.gcd (x*N) (y*N):Nat):Int):=Int.dvd_coe_gcd b (Int.dvd_mul_right ..);rw[Int.gcd_mul_right,xF]at d;rw[←e]at d;generalize y/((Int.gcd x y:Nat):Int)=k at d e ⊢;rw[e]at d;have c:((Int.gcd x y:Nat):Int)*k∣((Int.gcd x y:Nat):Int)*(N.natAbs:Int):=by rw[e];exact d
 exact Int.dvd_natAbs.mp (Int.dvd_of_mul_dvd_mul_left VF c)
theorem BU{q:Type}{f:q->Int}{B:Int}:∀{xs:List q},(∀x∈xs,f x<=B)->dD xs f<=(xs.length:Int)*B
 |[],_=>by show(0:Int)<=((0:Nat):Int)*B;omega
 |x::xs,h=>by
  rw[iA,hJ,Int.natCast_add,Int.add_mul];have:=BU λy m=>h y (eY _ m);have:=h x eJ;omega
theorem Dt(i:sE fs)(f:lO ("sea" :: fs.map aN) N)(j:hgt L=aC)(ns:Mt22.sea∉zs):0<=ku (bU fs N L) zs/\ku (bU fs N L) zs<=10^14:=by
 have h:=rN i f L;have k:=NZ h ns;have u:=wT j;obtain⟨⟨X,l,o,p⟩,lo⟩:=k;refine⟨by rw[←p];exact yH h X,?_⟩;refine Int.le_trans (lo X l o) ?_;have h1:nB (bU fs N L) X<=((bU fs N L).length:Int)*(2*10^12):=BU λg m=>by
  have w:=h.cap g m;have:g.cap<=2*10^12:=by
   unfold bU at m;obtain⟨d,q,rfl⟩:=cP.mp m;obtain⟨n,a,b,c,r,s,rfl,_,_,_,_,t,e,_⟩:=jB (f.all d (jD.mp q).1);have x:=wT t;unfold mf at e;rw[fK,decide_eq_true_iff,decide_eq_true_iff]at e;show r*(L-c)<=_;refine Int.le_trans (Int.mul_le_mul_of_nonneg_left (show L-c<=2000000 by omega) e.1) ?_;have:r*2000000<=1000000*2000000:=Int.mul_le_mul_of_nonneg_right e.2 VD;omega
  unfold nK;split
  .omega
  .exact this
 have h2:((bU fs N L).length:Int)<=40:=by
  unfold bU;rw[aS];have:=l3 (n9 fs L) N;have:=f.l2;omega
 have y:((bU fs N L).length:Int)*(2*10^12)<=40*(2*10^12):=Int.mul_le_mul_of_nonneg_right h2 VD;omega
theorem DP{q:Type}{f:q->Int}{B:Nat}:∀{xs:List q},(∀x∈xs,(f x).natAbs<=B)->(dD xs f).natAbs<=xs.length*B
 |[],_=>by show(0:Int).natAbs<=_;omega
 |x::xs,h=>by
  rw[iA,hJ,Nat.add_mul];have h1:=DP λy m=>h y (eY _ m);have h2:=h x eJ;omega
noncomputable def jQ(G:List cC)(a:List aA)(b:aA):Int×Int:=low (kk G a b (jk a).length) (fac a.length:Nat)
def l0(B:Nat)(pu:aA->Int×Int)(zs:List aA):Prop:=∀a∈zs,0<(pu a).2/\(pu a).2∣720/\(pu a).1.natAbs<=B
theorem l0.k(h:l0 B pu zs)(m:a∈zs):0<(pu a).2/\(pu a).2<=1000:=by
 obtain⟨h1,h2,_⟩:=h a m;exact⟨h1,Int.le_trans (Int.le_of_dvd VD h2) VD⟩
theorem l0.ln(a:B<=10^60)(h:l0 B pu zs):tu pu zs:=λb m=>⟨fF (h b m).2.2 a,s4 (h.k m).1 (h.k m).2⟩
theorem Pg:∀n,n<=5->((fac n:Nat):Int)∣720:=by
 intro n h;have:n=0\/n=1\/n=2\/n=3\/n=4\/n=5:=VF;rcases this with rfl|rfl|rfl|rfl|rfl|rfl<;>decide
theorem DR(e:sE fs)(f:lO ("sea" :: fs.map aN) N)(g:hgt L=aC)(d:1<=a.length)(c:a.length<=5)(ns:Mt22.sea∉a):l0 (10^30) (jQ (bU fs N L) a) a:=by
 intro i l;have fp:0<((fac a.length:Nat):Int):=by have:=ym a.length;omega
 refine⟨De fp,Dd fp ?_,fF (Df _ _) ?_⟩
 .obtain⟨k,m⟩:=Pg a.length c;exact⟨kk (bU fs N L) a i (jk a).length*k,by rw[m];exact xy _ _ _⟩
 .unfold kk;have n:(jk a).length<=54:=by
   unfold jk;rw[aS];exact Cg _ d c
  rw[dY (bQ _)];refine fF (DP (B:=720*720*10^14) λb j=>?_) ?_
  .unfold rO;split
   .exact jo _
   .rename_i o;have p:=Du d c j l o;have h1:=yQ b.length VF;have h2:=yQ (a.length-b.length-1) VF;have q:=Dt (zs:=a.filter λy=>decide (y=i)||decide (y∈b)) e f g (λh=>ns (jD.mp h).1);have r:=Dt (zs:=b) e f g (λh=>ns (Qu d c j _ h));rw[uJ];refine si ?_ VF;show fac b.length*fac (a.length-b.length-1)<=_;exact si h1 h2
  .refine fF (Nat.mul_le_mul_right _ n) VE
theorem gA.ntab(h:gA H J zs pu)(n:1<=zs.length)(i:IsL H N (J.map (·.2)))(j:∀d∈N,∃a b c r,d=.tup (a::b::c::r)):False:=by
 unfold gA at h;cases h with
 |nil=>cases n
 |@cons y u zs J a r=>
  obtain⟨_,l,ev,k⟩:=a;cases N with
  |nil=>cases i
  |cons d N=>
   obtain⟨v,vs,e,m,_⟩:=i;obtain⟨a,b,c,r,rfl⟩:=j d eJ;rw[dW]at e;cases e;obtain⟨t,xs,f,g,o⟩:=m;rw[ev]at f;cases f;rw[k]at g;cases g;obtain⟨_,_,p,_,_,_,q,_,_,_,s,_⟩:=o;cases p;cases q;cases s
theorem yg(L:eZ C H x fs N)(E:x≠p)(l:H p=some (.ins G dx F))(h:H dp=some (.dK J))(fr:gA H J zs pu)(n:1<=zs.length)
 (k:∀b o,H b=some o->b≠p->b≠dp->(∀us,o≠.lst us)->(∀ps,o≠.tbl ps)->H' b=some o):eZ C H' x fs N:=by
 have t:=(iE L).1;have u:=(iE L).2;have KT:iU H H':=λb xs e=>k _ _ e (λf=>by rw[f,l]at e;cases e) (λf=>by rw[f,h]at e;cases e) (λ_ f=>by cases f) (λ_ f=>by cases f);obtain⟨⟨I,w,y,e,⟨k1,i,M,z⟩,⟨k2,j,Q,A⟩⟩,a,b⟩:=L;have T:w≠dp:=λf=>by
  rw[f,h]at i;cases i;exact fr.ntab n z λd m=>by
   obtain⟨f,g,e,rfl,_⟩:=jc (t.all d m);exact⟨_,_,_,_,O⟩
 have U:y≠dp:=λf=>by
  rw[f,h]at j;cases j;exact fr.ntab n A λd m=>by
   obtain⟨n,a,b,c,r,s,rfl,_⟩:=jB (u.all d m);exact⟨_,_,_,_,O⟩
 have B:∀{q:aB} {D:List (aW×V)},H q=some (.dK D)->q≠dp->H' q=some (.dK D):=λe Y=>k _ _ e (λf=>by rw[f,l]at e;cases e) Y (λ_ f=>by cases f) (λ_ f=>by cases f);refine⟨⟨I,w,y,k _ _ e E (λf=>by rw[f,h]at e;cases e) (λ_ f=>by cases f) (λ_ f=>by cases f),⟨k1,B i T,M,IsL.keep KT _ _ (lT λd m=>?_) z⟩,⟨k2,B j U,Q,IsL.keep KT _ _ (lT λd m=>?_) A⟩⟩,a,b⟩
 .obtain⟨f,g,e,rfl,_⟩:=jc (t.all d m);rfl
 .exact Bp (u.all d m)
theorem gA.put(h:gA H J zs pu)(m:b∈zs)(KT:iU H H')(j:Fr H' v x.1 x.2):gA H' (jM J (Sum.inr b) v) zs (λw=>if w=b then x else pu w):=by
 have f:(J.any λc=>decide (c.1=Sum.inr b))=aC:=by
  obtain⟨u,g,_⟩:=h.val m;unfold fE at g;obtain⟨c,i,_⟩:=kD.mp g;exact sd.mpr ⟨c,List.mem_of_find?_eq_some i,by have:=List.find?_some i;exact this⟩
 unfold jM;rw[if_pos f];clear f m;unfold gA at *
 induction h with
 |nil=>exact .nil
 |@cons y c zs J a r k=>
  obtain⟨e,l,ev,n⟩:=a;rw[dW];refine .cons ?_ k;by_cases d:y=b
  .subst d;rw[if_pos e];exact⟨e,by dsimp only;rw[if_pos O];exact j⟩
  .rw[if_neg (λq=>d (by rw[e]at q;cases q;rfl))];exact⟨e,by dsimp only;rw[if_neg d];exact⟨l,ev,KT _ _ n⟩⟩
theorem vj(t:fR g H)(k:∀b o,H b=some o->(∀J,o≠.dK J)->(∀us,o≠.lst us)->(∀c d f,o≠.ins c d f)->H' b=some o):fR g H':=by
 obtain⟨ps,h,i,e⟩:=t;refine⟨ps,k _ _ h (λ_ a=>by cases a) (λ_ a=>by cases a) (λ_ _ _ a=>by cases a),i,?_⟩;rcases e with e|⟨c',e,j⟩
 .exact .inl e
 .exact .inr ⟨c',e,k _ _ j (λ_ a=>by cases a) (λ_ a=>by cases a) (λ_ _ _ a=>by cases a)⟩
theorem sK.put(h:sK F pl dp lw):sK (gX "land_now" (.ref q) F) q dp lw:=by
 refine⟨by rw[lQ,if_pos O],?_,?_,λm hm=>?_⟩
 .rw[lQ,if_neg VE];exact h.f2
 .rw[lQ,if_neg VE];exact h.f3
 .rw[lQ,if_neg (λa=>hm (by rw[a];decide +kernel))];exact h.no m hm
theorem IY{zs:List aA}{i:Nat}{a:aA}(b:zs.Nodup)(e:zs[i]?=some a):a∉zs.take i:=by
 intro m;obtain⟨j,f,c⟩:=List.mem_take_iff_getElem.mp m;obtain⟨hi,d⟩:=dI.mp e;have:=(sb b).mp (c.trans d.symm);omega
theorem l0.next(h:l0 B pu zs)(g:l0 (10^30) f i)(sub:∀e∈i,e∈zs):l0 (1000*(B+10^30)) (λe=>if e∈i then low ((pu e).1*(f e).2+-1*(f e).1*(pu e).2) ((pu e).2*(f e).2) else pu e) zs:=by
 intro e m;obtain⟨a1,a2,a3⟩:=h e m;have a4:=(h.k m).2;dsimp only;by_cases j:e∈i
 .obtain⟨o,p,q⟩:=g e j;have r:=(g.k j).2;have n:=Int.mul_pos a1 o;rw[if_pos j];generalize (pu e).1=a at *;generalize (pu e).2=b at *;generalize (f e).1=c at *;generalize (f e).2=d at *;refine⟨De n,Dd n ?_,fF (Df _ _) ?_⟩
  .rw[Int.add_mul];refine Int.dvd_add ?_ ?_
   .obtain⟨k,l⟩:=a2;exact⟨a*k,by rw[l];simp only[Int.mul_assoc,Int.mul_comm,xy]⟩
   .obtain⟨k,l⟩:=p;exact⟨-1*c*k,by rw[l];simp only[Int.mul_assoc,Int.mul_comm,xy]⟩
  .have h1:(a*d).natAbs<=B*1000:=by rw[uJ];exact si a3 VF
   have h2:(-1*c*b).natAbs<=10^30*1000:=by rw[uJ];exact si (by rw[uJ,show(-1:Int).natAbs=1 from O,Nat.one_mul];exact q) VF
   have h3:=Int.natAbs_add_le (a*d) (-1*c*b);omega
 .rw[if_neg j];exact⟨a1,a2,VF⟩
inductive we(I C Tb cV cO cS:aB)(vs:List V)(H:aD)(Q:aP)(E:dL):Prop
 |mk:∀(p dp lw pl l ly:aB)(fs gs:List aH)(pu:aA->Int×Int)(wk:List aH)(ws:List aA)(L:Int)(es:List aH)(us:List V)(B:Nat),vs=[.ref p,.ref l,.int L,.ref ly]->jz I C H p dp lw pl fs gs pu wk->H l=some (.lst (ws.map V.str))->l≠lw->1<=ws.length->ws.length<=5->ws.Nodup->(∀z∈ws,z∈fs.map aN)->hgt L=aC->H ly=some (.lst us)->IsL H es us->es.length<=100->fR Tb H->l0 B pu (fs.map aN)->B<=10^56->wk.length<=50->(((es.map (eE (fs.map aN))).all id=aJ->∀H',aM H H'->E (.ref cV) aG H'))->(∀ys,es=ys.map aH.str->(∀y∈ys,y∈fs.map aN)->(2*kn fs ys<=kq fs->∀H',fV Tb H H'->fR Tb H'->E (.ref cO) aG H') /\
  (¬2*kn fs ys<=kq fs->(∀i z,ws[i]?=some z->gI pu (jQ (bU fs gs L) ws) z=aC->(∀y∈ws.take i,gI pu (jQ (bU fs gs L) ws) y=aJ)->∀d H',fV Tb H H'->fR Tb H'->H' d=some (nM d "field" (.str z))->E (.ref cS) (some d) H') /\
   ((∀z∈ws,gI pu (jQ (bU fs gs L) ws) z=aJ)->∀(pl':aB)(gs':List aH)(pu':aA->Int×Int)(wd:aH)(c:Int)(H':aD),jz I C H' p dp lw pl' fs gs' pu' (wk++[wd])->rh wd->l0 (1000*(B+10^30)) pu' (fs.map aN)->(∀b o,H b=some o->b≠p->b≠dp->b≠lw->b≠Tb->H' b=some o)->fR Tb H'->Q (.int c) H')))->we I C Tb cV cO cS vs H Q E
theorem Uk(T:Txt K mg C){I bo bp bq da D:aB}(TB:kJ K mg base "lists_of_places" da D)(db:mg "Moot"=some (.ref I))(dc:mg "NoVoice"=some (.ref bo))(dd:mg "Outvoted"=some (.ref bp))(de:mg "Short"=some (.ref bq)):ou P w K mg base 11 "Moot.move" tj ["self","fields","height","yes","land","share_of","told","name"] ["self","fields","height","yes"] (we I C D bo bp bq):=by
 obtain⟨fm,ao,cb,cc,br,df,fn,fo,fp,fq,ft,fu⟩:=T.Wb;rw[db]at cb;cases cb;refine⟨λvs H Q E h=>?_,λf fv A outer s H vs Q E a8 h=>?_⟩
 .obtain⟨p,dp,lw,pl,l,az,fs,gs,pu,wk,y,L,es,us,B,rfl,_⟩:=h;rfl
 obtain⟨p,dp,lw,pl,l,az,fs,gs,pu,wk,y,u,es,us,B,rfl,M,aR,fw,N,cd,bd,sub,b0,bs,ce,le,tb,be,cf,fx,ds,q⟩:=h;have bt:=j7 a8;have L:=M.lnd;obtain⟨dx,F,J,bf,H0,bg,bu,fy,b1,fr,bv,cg,ch,dt,du,dv,ci⟩:=id M;refine⟨_,(bB (cH (i:=4) oU.nd O VG (ky (pv 0) O)) (bB (jK (bZ (tc T) (a8.mono VD) (aF (pv 4) (aF (pv 1) (aF (pv 2) aL))))) (bB (jK (pi (Ft T dc) (a8.mono VD) o4 (aF (pv 4) (aF (pv 3) aL)))) (bB (cH (i:=5) oU.nd O VG (bZ (zk T TB) (a8.mono VD) (aF (pv 4) (aF (pv 1) (aF (pv 2) aL))))) (bB (jK (pi (TW T dd) (a8.mono VD) o4 (aF (pv 4) (aF (pv 3) aL)))) (bB (jK (pi (TA T de) (a8.mono VD) o4 (aF (ky (pv 0) O) (aF (pv 5) aL)))) (bB (cH (i:=6) oU.nd O VG (bZ (IW T) (a8.mono VD) (aF (pv 4) (aF (pv 1) (aF (pv 2) aL))))) (bB (rP (pv 0) (p3 T.ad (TX T) (a8.mono VD) (pv 4) (aF (cF (cR (K:=K) O) (pv 6) aQ (λ_ _=>O)) aL)) O) (bB (k4 tW.leaving O (Ci (pv 5)) (dJ (i:=7) oU.nd O VG) (bF (ye bt (ky (pv 0) O) (pv 7) (bZ (Ls T) (a8.mono VD) (aF (j6 bt (ky (pv 0) O) (pv 7) (λ_ _=>O)) (aF (j6 bt (pv 5) (pv 7) (λ_ _=>O)) aL))) O))) (bB (jK (k7 lg nb m9 nC (ky (pv 0) O) (aF (jd (aF (hU (zg (K:=K) O) O T.q25 kW (aF (pv 1) aL)) (aF (pv 2) (aF (cF (cR (K:=K) O) (pv 6) aQ (λ_ _=>O)) aL)))) aL))) (bF (cJ (cF (cR (K:=K) O) (pv 6) aQ (λ_ _=>O)))))))))))))),?_⟩;refine⟨_,O,p,I,dx,F,_,O,bg,ao,cc,bu.f1,?_⟩;refine⟨_,O,_,O,_,O,_,_,_,O,pl,l,fs,gs,y,u,O,L,O,aR,N,bd,sub,O,b0,λz b2=>?_⟩;refine⟨_,O,_,O,pl,az,fs,gs,es,us,O,L.same b2,b2 _ _ bs,IsL.same b2 _ _ ce,le,λH2 cj=>?_⟩;unfold qr;cases ck:(es.map (eE (fs.map aN))).all id with
 |false=>exact ds ck H2 (b2.trans cj)
 |true=>
  rw[if_pos O];obtain⟨bh,cm⟩:=rI (show es.all (eE (fs.map aN))=aC by rw[←ck,oE];rfl);generalize lW es=ys at bh cm;obtain⟨dw,dy⟩:=q ys bh cm;have ap:=b2.trans cj;have cn:fR D H2:=fZ.keep tb ap;refine⟨_,O,_,O,_,O,_,_,_,O,pl,l,fs,gs,y,u,O,L.same ap,O,ap _ _ aR,N,cd,bd,sub,O,b0,cn,λU kS bw KB dz dF dK shr=>?_⟩;have co:fV D H bw:=λb o n e=>KB b o n (ap _ _ e);have cp:eZ C bw pl fs gs:=zT KB cn (L.same ap);have dS:∀{G:aD},fR D G->∃ps,G D=some (.tbl ps):=λh=>⟨_,h.choose_spec.1⟩
  obtain⟨fz,cq⟩:=dS tb;have aq:∀{b:aB} {o:dX},H b=some o->(∀ps,o≠.tbl ps)->b≠D:=λe n r=>by rw[r,cq]at e;exact n _ (gK e).symm
  have dT:bw az=some (.lst (ys.map V.str)):=by
   rw[co _ _ (aq bs (λ_ r=>by cases r)) bs,wF (show IsL H (ys.map aH.str) us by rw[←bh];exact ce)]
  refine⟨_,O,_,O,pl,az,fs,gs,ys,O,cp,dT,by rw[bh,aS]at le;exact le,λa2 b3=>?_⟩;have a9:fV D H a2:=λb o n e=>b3 _ _ (co b o n e);have bx:fR D a2:=fZ.keep dz b3;unfold qr;cases b4:decide (2*kn fs ys<=kq fs) with
  |true=>exact dw (of_decide_eq_true b4) a2 a9 bx
  |false=>
   rw[show(!aJ)=aC from O,if_pos O];obtain⟨dV,e0⟩:=dy (of_decide_eq_false b4);have e1:=cp.same b3;have bz:=a9 _ _ (aq bg (λ_ r=>by cases r)) bg;have cr:=a9 _ _ (aq b1 (λ_ r=>by cases r)) b1;have e2:=a9 _ _ (aq bv (λ_ r=>by cases r)) bv;have e3:=a9 _ _ (aq aR (λ_ r=>by cases r)) aR;have e4:iU H a2:=λb xs e=>a9 _ _ (aq e (λ_ r=>by cases r)) e;have cs:=fr.same e4;have b5:=b3 _ _ dK;have bM:H U=aG:=ap.free dF;have bO:gA a2 kS y (jQ (bU fs gs u) y):=gA.same (λb xs e=>b3 _ _ e) shr;have ar:=(iE L).1;have bi:=(iE L).2;have e5:Mt22.sea∉y:=λm=>by
    obtain⟨d,e6,e⟩:=cP.mp (sub _ m);obtain⟨r,g,fI,rfl,e7,_⟩:=jc (ar.all d e6);have:r=Mt22.sea:=e;subst this;exact absurd e7 VE
   have bj:=DR ar bi b0 N cd e5;have bR:dp≠U:=λr=>by rw[r,bM]at b1;cases b1
   refine⟨_,O,p,I,dx,F,_,O,bz,ao,br,bu.f2,_,O,dp,U,J,kS,fs.map aN,y,pu,_,O,.inl cr,cs,b5,bR,bO,be.ln (fF cf VE),bj.ln VE,sub,λo=>⟨λe8=>?_,λi r as e9 eb d b4=>?_⟩⟩;rotate_left
   .have ec:∀{b:aB} {x:dX},H b=some x->b≠D->b≠d:=λe n r=>by
     rw[r]at e n;have:=a9 _ _ n e;rw[b4]at this;cases this
    refine dV i r as e9 eb d _ (λb x n e=>?_) ?_ aV
    .rw[bD (ec e n),bD (λr=>by rw[r,bM]at e;cases e)];exact a9 b x n e
    .exact vj bx λb x e n _ _=>by
      rw[bD (λr=>by rw[r,b4]at e;cases e),bD (λr=>by rw[r,b5]at e;exact n _ (gK e).symm)];exact e
   have ah:∀b x,a2 b=some x->b≠U->aI a2 U (.frz o (.dK kS)) b=some x:=λb x e n=>by rw[bD n];exact e
   have ed:aI a2 U (.frz o (.dK kS)) U=some (.frz o (.dK kS)):=aV;have b6:∀{b:aB} {x:dX},H b=some x->b≠U:=λe r=>by rw[r,bM]at e;cases e
   have ee:pl≠p:=λr=>by
    obtain⟨⟨_,_,_,e,_⟩,_⟩:=dv;rw[r,ch]at e;cases e
   have bV:eZ C (aI a2 U (.frz o (.dK kS))) pl fs gs:=yg e1 ee bz b5 bO N λb x e _ a0 _ _=>ah b x e a0;have ef:fR D (aI a2 U (.frz o (.dK kS))):=vj bx λb x e n _ _=>ah b x e (λr=>by rw[r,b5]at e;exact n _ (gK e).symm);have eg:∀b x,b≠D->H b=some x->aI a2 U (.frz o (.dK kS)) b=some x:=λb x n e=>ah _ _ (a9 b x n e) (b6 e);have ct:=ah _ _ e3 (b6 aR);have cu:=ah _ _ bz (b6 bg);have eh:=ah _ _ cr (b6 b1);have ei:=ah _ _ e2 (b6 bv);have cv:iU a2 (aI a2 U (.frz o (.dK kS))):=λb xs e=>ah _ _ e (λr=>by rw[r,b5]at e;cases e);have ej:=cs.same cv;have ek:=bO.same cv;generalize aI a2 U (.frz o (.dK kS))=fT at *;refine⟨_,O,_,O,_,O,_,_,_,O,pl,l,fs,gs,y,u,O,bV,O,ct,N,bd,sub,O,b0,λt lk g0 el g1 au R b7 g2 bk g3 g4 g5 g6 cw en eo g7 g8 st ep=>?_⟩;have eq:=rN ar bi u;have er:=Jh bi b0 eq (R:=R) (B:=b7) ep.bout;obtain⟨et,g9,a6,eu,_⟩:=(bV.same bk).ex;have ew:((jR (bU fs gs u) R b7).map (lV u)).length<=1000:=by
    have h1:=tG fs gs u;have h2:=AW (G:=bU fs gs u) (R:=R) (B:=b7);have h3:=bi.l2;rw[aS];omega
   refine⟨_,O,pl,et,_,O,eu,kM _ _ VE VE,_,O,t,_,1,.ref lk,O,O,bY.of cw,cE (j:=1) O,_,_,O,pl,fs,gs,_,O,bV.same bk,⟨lk,el,O,en,eo⟩,ew,er,λav a3 cx cy ex=>?_⟩;have aa:=bk.trans cx;have bW:=aa _ _ cu;have c0:=aa _ _ eh;have cz:=aa _ _ ei;have cI:=aa _ _ ct;have cL:=aa _ _ ed;have cM:=cx _ _ cw;have cO:=ej.same (o2 aa);have ey:=ek.same (o2 aa);have ez:fR D a3:=fZ.keep ef aa;have eD:∀b x,b≠D->H b=some x->a3 b=some x:=λb x n e=>aa _ _ (eg b x n e);have cS:av≠p:=λr=>by rw[r,bk _ _ cu]at cy;cases cy
   refine⟨_,O,p,I,dx,F,O,bW,ao,cc,VF,?_⟩;have b8:=bu.put (q:=av);have eH:=tS "land_now" (.ref av) F;generalize gX "land_now" (.ref av) F=a4 at b8 eH ⊢;have ac:∀b x,a3 b=some x->b≠p->aI a3 p (.ins I dx a4) b=some x:=λb x e n=>by rw[bD n];exact e
   have ak:aI a3 p (.ins I dx a4) p=some (.ins I dx a4):=aV;have np:∀{b:aB} {x:dX},a3 b=some x->(∀c d f,x≠.ins c d f)->b≠p:=λe n r=>by rw[r,bW]at e;exact n _ _ _ (gK e).symm
   have ae:=ac _ _ c0 (np c0 (λ_ _ _ r=>by cases r));have b9:=ac _ _ cz (np cz (λ_ _ _ r=>by cases r));have c1:=ac _ _ cI (np cI (λ_ _ _ r=>by cases r));have c2:=ac _ _ cL (np cL (λ_ _ _ r=>by cases r));have c3:=ac _ _ cM (np cM (λ_ _ _ r=>by cases r));have cT:iU a3 (aI a3 p (.ins I dx a4)):=λb xs e=>ac _ _ e (np e (λ_ _ _ r=>by cases r));have cV:=cO.same cT;have c4:=ey.same cT;have eK:eZ C (aI a3 p (.ins I dx a4)) av fs (og gs ((jR (bU fs gs u) R b7).map (lV u))):=yg ex cS bW c0 cO (by rw[aS];exact ar.l1) λb x e n _ _ _=>ac b x e n;have eT:fR D (aI a3 p (.ins I dx a4)):=vj ez λb x e _ _ n=>ac b x e (np e n);have cW:∀b x,b≠D->b≠p->H b=some x->aI a3 p (.ins I dx a4) b=some x:=λb x N a0 e=>ac _ _ (eD b x N e) a0;generalize aI a3 p (.ins I dx a4)=bl at *;generalize og gs ((jR (bU fs gs u) R b7).map (lV u))=eX at *;generalize f0:jQ (bU fs gs u) y=a1 at *;have f1:kS.length=y.length:=by have:=congrArg mI c4.key;rwa [aS,aS]at this
   have f2:∀{G:aD} {al:List (aW×V)} {c5:aA->Int×Int},gA G al (fs.map aN) c5->al.length<dH:=λh=>by
    have:=h.len;have:=ar.l2;rw[aS]at *;rw[kP];omega
   refine⟨_,O,U,o,kS,O,c2,?_⟩;refine xY (λi Y H'=>∃(c6:Option V)(al:List (aW×V)),Y=[some (.ref p),some (.ref l),some (.int u),some (.ref az),some (.ref pl),some (.ref U),some (.ref t),c6]/\(∀b x,bl b=some x->b≠dp->H' b=some x)/\H' dp=some (.dK al)/\gA H' al (fs.map aN) (λr=>if r∈y.take i then low ((pu r).1*(a1 r).2+-1*(a1 r).1*(pu r).2) ((pu r).2*(a1 r).2) else pu r)) ⟨_,J,O,λ_ _ e _=>e,ae,by simpa using cV⟩ (λi Y H' _ ⟨_,_,_,k,_⟩=>k _ _ c2 (λr=>bR r.symm)) ?_ ?_
   .rintro i al Y H' d0 ⟨c6,ba,rfl,a5,a7,aw⟩;obtain⟨r,as⟩:∃r,y[i]?=some r:=⟨_,cY (by have:=(dI.mp d0).1;omega)⟩
    have f3:al.1=Sum.inr r:=by
     have h:=congrArg (λl=>l[i]?) c4.key;simp only[dO,d0,as]at h;exact gK h
    have am:=dN as;have f4:r∉y.take i:=IY bd as;have af:=a5 _ _ ak (λe=>by rw[e,ae]at ak;cases ak);have f5:iU bl H':=λb xs e=>a5 _ _ e (λr=>by rw[r,ae]at e;cases e);obtain⟨a,ea,d1⟩:=aw.val (sub r am);rw[if_neg f4]at d1;obtain⟨b,f6,f7⟩:=(c4.same f5).val am;obtain⟨s1,ga,f8⟩:=bj r am;have d2:=bj.k am;have d3:=be.k (sub r am);rw[f3];refine⟨_,O,p,I,dx,a4,_,O,af,ao,br,b8.f2,_,O,dp,a,O,.inl ⟨ba,Sum.inr r,.inl a7,O,ea.symm⟩,_,O,_,O,U,b,O,.inl ⟨kS,Sum.inr r,.inr ⟨o,a5 _ _ c2 (λr=>bR r.symm)⟩,O,f6.symm⟩,?_⟩;refine⟨_,_,O,_,_,_,_,d1,f7,fF (be r (sub r am)).2.2 (fF cf VE),fF f8 VE,d3.1,d3.2,d2.1,d2.2,λv d4 bb f9=>?_⟩;refine⟨_,O,p,I,dx,a4,_,O,bb _ _ af,ao,br,b8.f2,_,O,dp,_,O,p6.k (k:=Sum.inr r) (bb _ _ a7) (f2 aw),?_⟩;obtain⟨lt,ev,c7⟩:=f9;have fa:lt≠dp:=λe=>by rw[e,bb _ _ a7]at c7;cases c7
    have fb:∀b x,bl b=some x->b≠dp->aI d4 dp (.dK (jM ba (Sum.inr r) v)) b=some x:=λb x e n=>by rw[bD n];exact bb _ _ (a5 _ _ e n)
    refine⟨_,_,O,fb,aV,?_⟩;have d5:=aw.put (x:=low ((pu r).1*(a1 r).2+-1*(a1 r).1*(pu r).2) ((pu r).2*(a1 r).2)) (H':=aI d4 dp (.dK (jM ba (Sum.inr r) v))) (sub r am) (λb xs e=>by rw[bD (λr=>by rw[r,a7]at e;cases e)];exact bb _ _ e) ⟨lt,ev,by rw[bD fa];exact c7⟩;have fc:(λw=>if w=r then low ((pu r).1*(a1 r).2+-1*(a1 r).1*(pu r).2) ((pu r).2*(a1 r).2) else if w∈y.take i then low ((pu w).1*(a1 w).2+-1*(a1 w).1*(pu w).2) ((pu w).2*(a1 w).2) else pu w)=λw=>if w∈y.take (i+1) then low ((pu w).1*(a1 w).2+-1*(a1 w).1*(pu w).2) ((pu w).2*(a1 w).2) else pu w:=by
     funext w
     rw[eL,as];by_cases c8:w=r
     .subst c8;rw[if_pos O,if_pos (jx (y.take i) (show w∈(some w).toList from eJ))]
     .rw[if_neg c8];by_cases hi:w∈y.take i
      .rw[if_pos hi,if_pos (nO _ hi)]
      .rw[if_neg hi,if_neg (λh=>by rcases gQ.mp h with h|h;exact hi h;exact c8 (fG.mp h))]
    rw[fc]at d5;exact d5
   .rintro Y H' ⟨c6,ba,rfl,a5,a7,aw⟩;rw[f1,dY (bQ _)]at aw;have af:=a5 _ _ ak (λe=>by rw[e,ae]at ak;cases ak);have ai:=a5 _ _ b9 (λe=>by rw[e,ae]at b9;cases b9);have fd:=a5 _ _ c1 (λe=>by rw[e,ae]at c1;cases c1);have bm:=a5 _ _ c3 (λe=>by rw[e,ae]at c3;cases c3);refine⟨_,O,p,I,dx,a4,_,O,af,ao,df,b8.f3,.inl ⟨O,_,aT.of ai⟩,?_⟩;refine⟨_,O,l,_,O,.inl (aT.of fd),λa6 d6=>?_⟩;have c9:=aM.upd (o:=.lst (y.map V.str)) d6;refine⟨_,O,_,O,t,_,0,_,O,O,bY.of (c9 _ _ bm),cE (j:=0) O,cQ O,λaj ca=>?_⟩;have ag:=c9.trans (aM.upd (o:=.tup [.ref a6,.int u,.int (val (bU fs gs u) au)]) ca);have d7:=aM.upd (o:=.tup [.ref a6,.int u,.int (val (bU fs gs u) au)]) ca _ _ (aV (H:=H') (a:=a6) (o:=.lst (y.map V.str)));have d8:aI (aI H' a6 (.lst (y.map V.str))) aj (.tup [.ref a6,.int u,.int (val (bU fs gs u) au)]) aj=some (.tup [.ref a6,.int u,.int (val (bU fs gs u) au)]):=aV;generalize aI (aI H' a6 (.lst (y.map V.str))) aj (.tup [.ref a6,.int u,.int (val (bU fs gs u) au)])=an at ag d7 d8 ⊢;refine⟨lw,bf,_,O,O,ag _ _ ai,by rw[ci.length,kP];omega,?_⟩;have ax:∀b x,an b=some x->b≠lw->aI an lw (.lst (bf++[.ref aj])) b=some x:=λb x e n=>by rw[bD n];exact e
    have fe:t≠lw:=λe=>by rw[e,ai]at bm;cases bm
    refine⟨_,O,t,_,0,_,O,O,bY.of (ax _ _ (ag _ _ bm) fe),cE (j:=0) O,?_⟩;have ay:∀{b:aB} {x:dX},H' b=some x->b≠a6/\b≠aj:=λe=>⟨(λr=>by rw[r,d6]at e;cases e),(λr=>by rw[r]at e;have:=c9 _ _ e;rw[ca]at this;cases this)⟩
    have c5:p≠lw:=λr=>by rw[r,ai]at af;cases af
    have ff:dp≠lw:=λr=>by rw[r,ai]at a7;cases a7
    have d9:∀{b:aB} {x:dX},bl b=some x->b≠dp->b≠lw->aI an lw (.lst (bf++[.ref aj])) b=some x:=λe n m=>ax _ _ (ag _ _ (a5 _ _ e n)) m;have bn:∀{b:aB} {x:dX},an b=some x->b≠p->b≠dp->b≠lw->(if b=p\/b=dp\/b=lw then aG else an b)=some x:=λe N a0 bc=>by
     rw[if_neg (λh=>by rcases h with h|h|h;exact N h;exact a0 h;exact bc h)];exact e
    refine e0 (by rw[←f0]at *;exact e8) av eX _ (.tup [.lst (y.map aH.str),.int u,.int (val (bU fs gs u) au)]) _ _ ⟨dx,a4,ba,bf++[.ref aj],(λb=>if b=p\/b=dp\/b=lw then aG else an b),ax _ _ (ag _ _ af) c5,b8,by rw[eW,li];omega,ax _ _ (ag _ _ a7) ff,gA.same (λb xs e=>ax _ _ (ag _ _ e) (λr=>by rw[r,ai]at e;cases e)) aw,aV,λb x e=>?_,if_pos VG,if_pos (.inr VG),if_pos (.inr (.inr O)),?_,IsL.snoc ?_ ?_⟩ ⟨y,u,_,O,VF⟩ (be.next bj sub) (λb x e N a0 bc fg=>d9 (cW b x fg N e) a0 bc) ?_
    .have e:(if b=p\/b=dp\/b=lw then aG else an b)=some x:=e;by_cases h:b=p\/b=dp\/b=lw
     .rw[if_pos h]at e;cases e
     .rw[if_neg h]at e;exact ax _ _ e (λr=>h (.inr (.inr r)))
    .exact yg eK cS ak ae cV (by rw[aS];exact ar.l1) λb x e N a0 fh _=>bn (ag _ _ (a5 _ _ e a0)) N a0 (λr=>by rw[r,b9]at e;exact fh _ (gK e).symm)
    .have fi:∀(G:aD)(zs:List aA),IsL G (zs.map aH.str) (zs.map V.str):=λG zs=>by
      induction zs with
      |nil=>rfl
      |cons r zs fj=>exact⟨.str r,_,O,O,fj⟩
     exact⟨aj,_,O,bn d8 (ay af).2.symm (ay a7).2.symm (ay ai).2.symm,_,_,O,⟨a6,_,O,bn d7 (ay af).1.symm (ay a7).1.symm (ay ai).1.symm,fi _ _⟩,_,_,O,O,_,_,O,O,O⟩
    .refine IsL.sameD (λb x e fk=>?_) _ _ ci;have fl:b≠D:=λr=>by
      have:=cg _ _ e;rw[r,cq]at this;cases this;cases fk
     have N:b≠p:=λr=>by rw[r,ch]at e;cases e
     have a0:b≠dp:=λr=>by rw[r,dt]at e;cases e
     have bc:b≠lw:=λr=>by rw[r,du]at e;cases e
     exact bn (ag _ _ (a5 _ _ (cW _ _ fl N (cg _ _ e)) a0)) N a0 bc
    .exact vj eT λb x e N a0 _=>d9 e (λr=>by rw[r,ae]at e;exact N _ (gK e).symm) (λr=>by rw[r,b9]at e;exact a0 _ (gK e).symm)
theorem Mi{j n:Nat}(h:j<n):PySem.seqIndex? (j:Int) n=some j:=by
 unfold PySem.seqIndex?;have a:¬(j:Int)<0:=VF;have h1:(decide (0<=(j:Int))&&decide ((j:Int)<(n:Int)))=aC:=by rw[decide_eq_true VF,decide_eq_true VF];rfl
 simp only[if_neg a];rw[if_pos h1,oz]
theorem Bo{q n:Type}(f:q->n):∀(l:List q)(k:Nat),(l.map f).eraseIdx k=(l.eraseIdx k).map f
 |[],_=>rfl
 |x::l,0=>rfl
 |x::l,k+1=>by
  show f x::(l.map f).eraseIdx k=f x::(l.eraseIdx k).map f;rw[Bo f l k]
theorem AA{q:Type}:∀(l:List q)(k:Nat)(h:k<l.length),(l[k]::l.eraseIdx k).Perm l
 |x::l,0,_=>.refl _
 |x::l,k+1,h=>by
  show(l[k]'(by simpa using h)::x::l.eraseIdx k).Perm (x::l);exact(List.Perm.swap _ _ _).trans ((AA l k (by simpa using h)).cons x)
inductive Ir(x y u:V)(H:aD)(Q:aP):Prop
 |mk:∀(m:Int)(l:aB)(vf:List V)(fs:List aH),x=.int m->0<=m->y=.ref l->H l=some (.lst vf)->IsL H fs vf->pQ fs 6->u=.int 5->(∀(lw:aB)(zs:List aA)(H':aD),aM H H'->H' lw=some (.lst (zs.map V.str))->H lw=aG->1<=zs.length->zs.length<=5->zs.Nodup->(∀z∈zs,z∈fs.map aN)->Q (.ref lw) H')->Ir x y u H Q
def DE:cA:=kB (Ir)
theorem Mz(T:Txt K mg C):bA P w K mg base 1 "_law_wish" ["_law_cell","_law_fields_here","_law_most"] DE:=by
 refine T.q01.fc tt k9 (λ f ao A outer s H vs Q E ap h=>?_);obtain⟨x,y,u,rfl,m,l,vf,fs,rfl,ac,rfl,J,hi,D,rfl,q⟩:=h;have aq:=gB;refine⟨_,(bB (mh (i:=3) tt.nd O ["_law_field"] 1 [] O (eV (pv 1)) (λ R=>dJ (i:=0) (VE:eG (["_law_field"]:List aA)) O VG) (eN VD) (λ R=>gN) (λ R=>(cF (cR (K:=K) O) (pv 0) aQ (λ_ _=>O)))) (bB (cH (i:=4) tt.nd O VG (eA aL)) (bB (k4 kt O (oX O T.q28 (aF (bC km aQ (bC gR (pv 0) (dB (z7 O) O T.q27 wb (aF (pv 2) (aF (dB (jt (K:=K) O) O T.q24 iD (aF (pv 1) aL)) aL))))) aL)) (dJ (i:=5) tt.nd O VG) (bB (cH (i:=0) tt.nd O VG (bC hZ (pv 0) aQ)) (bF (jK (k7 lg nb m9 nC (pv 4) (aF (k7 lg PySem.F.slot_list_pop PySem.F.type_list_pop Cn (pv 3) (aF (bC gR (pv 0) (dB (jt (K:=K) O) O T.q24 iD (aF (pv 3) aL))) aL)) aL)))))) (bF (cJ (pv 4)))))),?_⟩;have f1:=D.l1;have f2:=D.l2;have ar:=hi.length;refine⟨_,O,l,O,⟨_,aT.of J⟩,?_⟩;refine fP (F:=K) (xs:=vf) VF (λ i ys H'=>H=H'/\ys=((fs.take i).map aN).map V.str) ⟨O,O⟩ ?_ ?_ ?_
 .rintro i ys H' ae ⟨rfl,rfl⟩;exact⟨aT.of J,by rw[aS,aS,dU];omega⟩
 .rintro i as ys H' au av a2 ⟨rfl,rfl⟩ k1 k2;have aw:i<vf.length:=(dI.mp a2).1;obtain⟨d,L⟩:∃ d,fs[i]?=some d:=⟨_,cY VF⟩
  obtain⟨v,ev,af⟩:=hi.get L;rw[a2] at ev;cases ev;obtain⟨B,g,e,rfl,_⟩:=jc (D.all d (dN L));obtain⟨t,rfl,o⟩:=nE af;refine⟨_,O,t,_,0,.str B,O,O,bY.of o,cE (j:=0) O,k1 _ _ ⟨O,?_⟩⟩;rw[eL,L];simp[aN,iB]
 rintro ys H' ⟨rfl,rfl⟩;rw[dY VF];intro p a3;have M:=aM.upd (o:=.lst ((fs.map aN).map V.str)) a3;have G:aI H p (.lst ((fs.map aN).map V.str)) p=some (.lst ((fs.map aN).map V.str)):=aV;generalize aI H p (.lst ((fs.map aN).map V.str))=z at M G;refine iJ (σ':=[some (.int m),some (.ref l),some (.int 5),some (.ref p),aG,aG]) O ?_;refine⟨cQ O,λ lf I=>?_⟩;have N:=aM.upd (o:=.lst []) I;have a4:aI z lf (.lst []) lf=some (.lst (([]:List aA).map V.str)):=aV;generalize aI z lf (.lst [])=H2 at N a4;refine iJ (σ':=[some (.int m),some (.ref l),some (.int 5),some (.ref p),some (.ref lf),aG]) O ?_;have a5:p≠lf:=λ B=>by rw[B] at G;rw[G] at I;cases I
 have a6:=M.trans N;have a7:H lf=aG:=M.free I;obtain⟨r,ag,ax,ay,az⟩:∃ r:Nat,(if (vf.length:Int)<5 then (vf.length:Int) else 5)=r/\1<=r/\r<=5/\r<=fs.length:=by
  by_cases h:(vf.length:Int)<5
  .exact⟨vf.length,by rw[if_pos h],VF,VF,VF⟩
  .exact⟨5,by rw[if_neg h];rfl,VF,VF,VF⟩
 refine⟨_,O,_,O,_,O,l,_,O,.inl (aT.of (a6 _ _ J)),_,_,O,?_⟩;rw[ag];have aR:0<=m % (r:Int):=iM _ VF;have b0:m % (r:Int)<(r:Int):=je _ VF;obtain⟨cnt,b1⟩:=kC (show 0<=1+m % (r:Int) by omega);refine⟨_,_,O,O,VF,_,_,O,O,_,O,by show -(2 ^ 62)<=1+m % (r:Int);omega,by show 1+m % (r:Int)<2 ^ 62;omega,?_⟩;rw[show (1+m % (r:Int)).toNat=cnt by omega];refine p9 (lo:=0) (n:=cnt) (λ i Y H'=>∃(c:Int)(U:Option V)(a zs:List aA),Y=[some (.int c),some (.ref l),some (.int 5),some (.ref p),some (.ref lf),U]/\0<=c/\aM H H'/\H' p=some (.lst (a.map V.str))/\H' lf=some (.lst (zs.map V.str))/\zs.length=i/\(zs++a).Perm (fs.map aN)) ⟨m,_,fs.map aN,[],O,ac,a6,N _ _ G,a4,O,.refl _⟩ ?_ ?_
 .rintro i Y H' ae ⟨c,U,a,zs,rfl,a8,a0,h1,h2,a9,pm⟩;have ah:=pm.length_eq;rw[eW,aS] at ah;refine iJ (σ':=[some (.int c),some (.ref l),some (.int 5),some (.ref p),some (.ref lf),some (.int (0+(i:Int)))]) O ?_;refine⟨_,O,_,_,O,O,⟨VD,VD⟩,?_⟩;refine iJ (σ':=[some (.int (c / 7)),some (.ref l),some (.int 5),some (.ref p),some (.ref lf),some (.int (0+(i:Int)))]) O ?_;have ai:0<=c / 7:=Int.ediv_nonneg a8 VD;have aa:(0:Int)<(a.length:Int):=VF;obtain⟨k,aj⟩:=kC (iM (c / 7) (show (a.length:Int)≠0 by omega));have a1:k<a.length:=by have:=je (c / 7) aa;omega
  have ak:a[k]?=some a[k]:=cY a1;refine⟨_,O,.inl ⟨O,_,aT.of h2⟩,_,O,.inl ⟨O,_,aT.of h1⟩,_,O,_,O,p,_,O,.inl (aT.of h1),_,_,O,O,by rw[aS];exact aa,p,_,k,k,.str a[k],O,by rw[aS];show [V.int (c / 7 % (a.length:Int))]=_;rw[aj],h1,VF,VF,by rw[aS];exact Mi a1,by rw[dO,ak];rfl,?_⟩;have al:(a.map V.str).eraseIdx k=(a.eraseIdx k).map V.str:=Bo _ _ _;rw[al];refine⟨lf,_,_,O,O,by rw[bD (λ B=>a5 B.symm)];exact h2,by rw[aS];omega,?_⟩;refine⟨c / 7,_,a.eraseIdx k,zs++[a[k]],O,ai,(λ b o e=>?_),by rw[bD a5,aV],by rw[aV,dP];rfl,by rw[eW,a9];rfl,?_⟩
  .rw[bD (dC e a7),bD (dC e a3)];exact a0 _ _ e
  .refine List.Perm.trans ?_ pm;rw[nc];refine List.Perm.append_left zs ?_;exact AA a k a1
 .rintro Y H' ⟨c,U,a,zs,rfl,a8,a0,h1,h2,a9,pm⟩;have am:(zs++a).Nodup:=pm.nodup_iff.mpr D.nd;exact⟨_,O,q lf zs H' a0 h2 a7 VF VF (ut.mp am).1 λ B an=>pm.mem_iff.mp (nO _ an)⟩
theorem z5(xs:List V)(k:Nat):n0 xs aG (some (k:Int))=xs.take k:=by
 unfold n0;rw[HT.Vw,HT.Vx,uH,Nat.sub_zero];by_cases h:k<=xs.length
 .rw[xE h]
 .rw[Nat.min_eq_right VF,dY (bQ _),dY VF]
inductive Ip(x y:V)(H:aD)(Q:aP):Prop
 |mk:∀(m:Int)(l:aB)(vf:List V)(fs:List aH),x=.int m->0<=m->m<10^24->y=.ref l->H l=some (.lst vf)->IsL H fs vf->pQ fs 6->(∀(lw:aB)(ys:List aA)(H':aD),aM H H'->H' lw=some (.lst (ys.map V.str))->H lw=aG->ys.length<=12->(∀z∈ys,z∈fs.map aN)->Q (.ref lw) H')->Ip x y H Q
def Ew:cA:=gY (Ip)
theorem KQ(T:Txt K mg C):bA P w K mg base 1 "_law_voices" ["_law_cell","_law_fields_here"] Ew:=by
 refine T.q02.fc vK iC (λf ae A outer s H vs Q E af h=>?_);obtain⟨x,y,rfl,m,l,vf,fs,rfl,ag,ah,rfl,J,hi,z,q⟩:=h;have ai:=gB;have lw:=hi.length;have f1:=z.l1;have f2:=z.l2;refine⟨_,(bB (cH (i:=2) vK.nd O (Or.inr O) (fM ["_law_field"] 1 [] O (eV (pv 1)) (λR=>dJ (i:=0) (VE:eG (["_law_field"]:List aA)) O VG) (eN VD) (λR=>gN) (λR=>(cF (cR (K:=K) O) (pv 0) aQ (λ_ _=>O))))) (bB (mh (i:=3) vK.nd O ["_law_j","_law_cell","_law_names_here"] 1 [0,2] O (oX O T.q28 (aF (dB (jt (K:=K) O) O T.q24 iD (aF (pv 2) aL)) aL)) (λR=>dJ (i:=0) (VE:eG (["_law_j","_law_cell","_law_names_here"]:List aA)) O VG) (eN VD) (λR=>ke (eU pp (bC gR (bC PK (pv 1) (bC km aQ (bC mj aQ (pv 0)))) aQ) aQ (eI _))) (λR=>(cF (jJ (K:=K) O) (pv 2) (pv 0) (λ_ _=>O)))) (bB (fD (eU lx (bC gR (bC hZ (pv 0) (bC ji aQ aQ)) aQ) aQ (eI _)) (bF (cH (i:=3) vK.nd O VG (bC o9 (pv 3) (qg (Ac (K:=K) O) (pv 3) qm (ql aQ))))) fC) (bF (cJ (pv 3)))))),?_⟩;refine⟨_,O,l,O,⟨_,aT.of J⟩,?_⟩;refine fP (F:=K) (xs:=vf) VF (λi ys H'=>H'=H/\ys=((fs.take i).map aN).map V.str) ⟨O,O⟩ ?_ ?_ ?_
 .rintro i ys H' aj ⟨rfl,rfl⟩;exact⟨aT.of J,by rw[aS,aS,dU];omega⟩
 .rintro i x ys H' Y a0 L ⟨rfl,rfl⟩ k1 k2;have ak:i<vf.length:=(dI.mp L).1;obtain⟨d,B⟩:∃d,fs[i]?=some d:=⟨_,cY VF⟩
  obtain⟨v,ev,a1⟩:=hi.get B;rw[L]at ev;cases ev;obtain⟨a,g,e,rfl,_⟩:=jc (z.all d (dN B));obtain⟨t,rfl,o⟩:=nE a1;refine⟨_,O,t,_,0,.str a,O,O,bY.of o,cE (j:=0) O,k1 _ _ ⟨O,?_⟩⟩;rw[eL,B];simp[aN,iB]
 rintro ys H' ⟨rfl,rfl⟩;rw[lw,dY (bQ _)];intro D a2;have k:=aM.upd (o:=.lst ((fs.map aN).map V.str)) a2;have h2:aI H' D (.lst ((fs.map aN).map V.str)) D=some (.lst ((fs.map aN).map V.str)):=aV;generalize aI H' D (.lst ((fs.map aN).map V.str))=H2 at k h2 ⊢;refine iJ (σ':=[some (.int m),some (.ref l),some (.ref D),aG]) O ?_;have ln:((fs.map aN).map V.str).length=fs.length:=by rw[aS,aS]
 refine⟨_,O,D,_,O,.inl (aT.of h2),_,O,VF,VF,?_⟩;rw[show((((fs.map aN).map V.str).length:Nat):Int).toNat=fs.length by rw[ln];rfl];refine AD (lo:=0) (n:=fs.length) VF (λi vs H'=>H'=H2/\∃ys:List aA,vs=ys.map V.str/\ys.length<=i/\∀y∈ys,y∈fs.map aN) ⟨O,[],O,bQ _,λy m=>by cases m⟩ (λi vs H' ⟨_,ys,e,l,_⟩=>by rw[e,aS];exact l) ?_ ?_
 .rintro i vs G Y a0 a3 ⟨rfl,ys,rfl,a4,c⟩ k1 k2;obtain⟨a,M⟩:∃a,(fs.map aN)[i]?=some a:=⟨_,cY (by rw[aS];exact a3)⟩
  refine⟨_,O,_,O,_,_,O,O,.inl ⟨VD,VD⟩,_,_,O,O,_,_,O,O,VF,_,_,O,O,jw O,_,_,O,O,_,O,?_⟩;refine jO (λ_=>?_) (λ_=>k2 _ ⟨O,ys,O,VF,c⟩);refine⟨_,O,_,O,D,_,_,.str a,O,O,aT.of h2,by rw[qO];exact cE (by rw[dO,M];rfl),k1 _ _ ⟨O,ys++[a],by rw[dP];rfl,by rw[eW,li];omega,λy m=>?_⟩⟩;rcases gQ.mp m with m|m
  .exact c y m
  .cases fG.mp m;exact dN M
 rintro vs G ⟨rfl,ys,rfl,a4,c⟩;intro b N;have r:=aM.upd (o:=.lst (ys.map V.str)) N;have u:aI G b (.lst (ys.map V.str)) b=some (.lst (ys.map V.str)):=aV;have a5:=k.free N;generalize aI G b (.lst (ys.map V.str))=a6 at r u ⊢;refine iJ (σ':=[some (.int m),some (.ref l),some (.ref D),some (.ref b)]) O ?_;refine⟨_,O,_,_,O,O,⟨VD,VD,VD⟩,_,_,O,O,⟨VD,VD⟩,_,_,O,O,jw O,O,_,O,?_⟩;refine jO (λ_=>?_) (λ_=>?_)
 .refine⟨_,O,_,O,_,O,b,_,O,aT.of u,λa7 a8=>?_⟩;rw[show(2:Int)=((2:Nat):Int) from O,z5,←uO];have I:=aM.upd (o:=.lst ((ys.take 2).map V.str)) a8;refine⟨b,a7,_,_,O,O,I _ _ u,aV,by rw[aS,aS,dU];omega,λa9 U=>?_⟩;have aa:=aM.upd (o:=.lst (ys.map V.str++(ys.take 2).map V.str)) U;have ac:=k.trans (r.trans (I.trans aa));refine⟨_,O,q a9 (ys++ys.take 2) _ ac (by rw[dP];exact aV) ((k.trans (r.trans I)).free U) (by rw[eW,dU];omega) λa p=>?_⟩;rcases gQ.mp p with p|p
  .exact c a p
  .exact c a (pz p)
 .exact⟨_,O,q b ys a6 (k.trans r) u a5 VF c⟩
noncomputable def Fi(pu:aA->Int×Int)(a:aA):aH:=.tup [.str a,.tup [.int (pu a).1,.int (pu a).2]]
noncomputable def Ep(zs:List aA)(gs:List aH)(pu:aA->Int×Int)(wk:List aH):aH:=.lst [.lst gs,.lst (zs.map (Fi pu)),.lst wk]
theorem MM(h:gA H J zs pu):∀{as:List aB},wU H as J->IsL H (zs.map (Fi pu)) (as.map V.ref):=by
 unfold gA at h
 induction h with
 |nil=>
  intro as p;cases as with
  |nil=>rfl
  |cons a as=>obtain⟨k,v,r,e,_⟩:=p;cases e
 |@cons y i zs J a r c=>
  intro as p;cases as with
  |nil=>cases p
  |cons b as=>
   obtain⟨k,v,r,e,d,t⟩:=p;cases e;obtain⟨f,l,ev,g⟩:=a;refine⟨_,_,O,⟨b,_,O,d,_,_,O,?_,_,_,O,?_,O⟩,c t⟩
   .rw[show k=Sum.inr y from f];rfl
   .rw[show v=.ref l from ev];exact⟨l,_,O,g,_,_,O,O,_,_,O,O,O⟩
inductive Il(I C:aB)(x:V)(H:aD)(Q:aP):Prop
 |mk:∀(p dp lw pl:aB)(fs gs:List aH)(pu:aA->Int×Int)(wk:List aH),x=.ref p->jz I C H p dp lw pl fs gs pu wk->(∀d∈wk,rh d)->wk.length<=100->(∀(l:aB)(H':aD),aM H H'->bK H' (Ep (fs.map aN) gs pu wk) (.ref l)->Q (.ref l) H')->Il I C x H Q
def DF(I C:aB):cA:=sp1 (Il I C)
theorem MA(T:Txt K mg C)(a:mg "Moot"=some (.ref I)):bA P w K mg base 2 "_law_told" ["_law_moot"] (DF I C):=by
 obtain⟨am,g,n,an,ao,ap,aq,ar,au,av,aw,ax⟩:=T.Wb;rw[a]at n;cases n;refine T.q06.fc Mo jN (λf ay A outer s H vs Q E b h=>?_);obtain⟨x,rfl,p,dp,lw,pl,fs,gs,pu,wk,rfl,M,a2,a3,q⟩:=h;have L:=M.lnd;have a4:=(iE L).1;have f2:=a4.l2;have az:=gB;obtain⟨dx,F,J,us,H0,i,j,aR,b0,fr,b1,b2,_⟩:=id M;obtain⟨a5,b3,b4,a6,_⟩:=L.ex;refine⟨_,(bF (cJ (eA (aF (ki T.ad (Gf T) (b.mono VD) (ki g (y7 T a) (b.mono VD) (pv 0))) (aF (hU (Uo O) O T.q25 kW (aF (vb r0 w5 PySem.F.type_dict_items Co (ki g (y3 T a) (b.mono VD) (pv 0))) aL)) (aF (ki g (Gs T a) (b.mono VD) (pv 0)) aL)))))),?_⟩;refine⟨_,O,p,dx,F,O,i,j.no _ VE,_,O,p,dp,lw,pl,fs,gs,pu,wk,O,M,pl,a5,_,O,a6,kM _ _ VE VE,_,O,pl,fs,gs,O,L,λr a7 z c b5 h1 a8=>?_⟩;have M1:=M.same c;refine⟨_,O,p,dx,F,O,c _ _ i,j.no _ VE,_,O,p,dp,lw,pl,fs,gs,pu,wk,O,M1,λk l a9 aa=>?_⟩;have ac:=aM.upd (o:=.dK l) a9;refine⟨.inr (.inr (.inl ⟨O,.inl ⟨_,aV⟩⟩)),k,l,O,O,.inl aV,λv t=>?_⟩;have ae:=ac.trans (aM.upd (o:=mm v k) t);refine⟨v,k,l,O,aV,.inl (aM.upd t _ _ aV),λu as b6 b7 af ag ah=>?_⟩;have d:=ae.trans af;refine⟨_,O,p,dx,F,O,d _ _ (c _ _ i),j.no _ VE,_,O,p,dp,lw,pl,fs,gs,pu,wk,O,M1.same d,a2,a3,λy ai b8 B b9 aj ak=>⟨cQ O,λD al=>?_⟩⟩;have e:=aM.upd (o:=.lst [.ref r,.ref u,.ref y]) al;have m:=d.trans (B.trans e);have G:=B.trans e;refine q D _ (c.trans m) ⟨D,_,O,aV,_,_,O,⟨r,a7,O,m _ _ h1,IsL.same m _ _ a8⟩,_,_,O,⟨u,_,O,G _ _ ag,?_⟩,_,_,O,⟨y,ai,O,e _ _ aj,IsL.same e _ _ ak⟩,O⟩;exact IsL.same G _ _ (MM (aa.same (o2 d)) ah)
def nA(b:Bool):Int:=if b=aC then 1 else 0
theorem pw(b:Bool):nA b<=1048576/\-(2^63)<=nA b:=by cases b<;>decide
noncomputable def m4(r:aA):aA:=if r="NoWish" then "wish" else if r="NoVoice" then "voice" else if r="TooMany" then "many" else "outvoted"
def p4(sp:cA):Prop:=∀vs H (Q a:aP) (E b:dL),(∀v H',Q v H'->a v H')->(∀c p H',E c p H'->b c p H')->sp vs H Q E->sp vs H a b
inductive qw(sp:cA)(mg:aA->Option aE)(I:aB)(vs:List V)(H:aD)(Q:aP)(E:dL):Prop
 |mk:∀(p dx:aB)(F:List (aA×V))(y u z:V),vs=[.ref p,y,u,z]->H p=some (.ins I dx F)->F.lookup ("move":aA)=aG->(sp vs H (λ_ H'=>∀l,H' l=aG->Q (.ref l) (aI H' l (.lst [.str "done",.non])))
  (λcls pd H'=>(∃(r:aA)(c:aB),r∈(["NoWish","TooMany","NoVoice","Outvoted"]:List aA)/\mg r=some (.ref c)/\cls=.ref c/\∀l H2,aM H' H2->H2 l=aG->Q (.ref l) (aI H2 l (.lst [.str (m4 r),.non]))) \/
   ∃(c d:aB)(s:aA),mg "Short"=some (.ref c)/\cls=.ref c/\pd=some d/\H' d=some (nM d "field" (.str s))/\∀l H2,aM H' H2->H2 l=aG->Q (.ref l) (aI H2 l (.lst [.str "short",.str s]))))->qw sp mg I vs H Q E
theorem KR(T:Txt K mg C)(a9:mg "Moot"=some (.ref I))(aa:p4 sp)(ac:uY P w K mg base 12 I "move" ["self","fields","height","yes"] sp):bA P w K mg base 13 "_law_moved" ["_law_moot","_law_wish_here","_law_height_here","_law_yes"] (qw sp mg I):=by
 obtain⟨ay,ae,a1,az,aR,b0,b1,b2,b3,b4,b5,b6⟩:=T.Wb;rw[a9]at a1;cases a1;obtain⟨a2,af,a⟩:=T.Wc;obtain⟨a3,ag,b⟩:=T.Wd;obtain⟨a4,ah,e⟩:=T.We;obtain⟨a5,ai,g⟩:=T.Wf;obtain⟨a6,J⟩:=T.Wh;obtain⟨x,aj,⟨L,b7,b8,ak,al,b9,ba,bb,bc⟩,k,M⟩:=T.Wg;refine T.q04.fc vN (λvs H Q E h=>?_) (λf bd A outer s H vs Q E am h=>?_)
 .obtain⟨p,dx,F,y,u,z,rfl,_⟩:=h;rfl
 obtain⟨p,dx,F,y,u,z,rfl,an,nm,ao⟩:=h;refine⟨_,(bB (Oz (i:=4) vN.nd O O M (OJ (RD ae ac (am.mono VD) (pv 0) (aF (pv 1) (aF (pv 2) (aF (pv 3) aL))))) (λea=>(bB (fD (gU.pt (ju (iF (fY (dB (p8 (K:=K) O) O T.q23 jA (aF (pv 4) (aF (kz T.q17 PyProof.Rows.Boot.«ValueError») aL))))) (kg (fY (dB (p8 (K:=K) O) O T.q23 jA (aF (pv 4) (aF (qn (v:=.ref a6) O J O) aL))))))) (bF (cJ (eA (aF gE (aF jp aL))))) fC) (bB (fD (fY (dB (p8 (K:=K) O) O T.q23 jA (aF (pv 4) (aF (qn (v:=.ref x) O k O) aL)))) (bF (cJ (eA (aF gE (aF (OH (K:=K) O (pv 4) O) aL))))) fC) (bB (cH (i:=5) vN.nd O VG (bC tq (bC vP gE (hU wa O T.q22 qc (aF (dB (p8 (K:=K) O) O T.q23 jA (aF (pv 4) (aF (qn (v:=.ref a2) O a O) aL))) aL))) (bC vP gE (hU wa O T.q22 qc (aF (dB (p8 (K:=K) O) O T.q23 jA (aF (pv 4) (aF (qn (v:=.ref a4) O e O) aL))) aL))))) (bB (cH (i:=5) vN.nd O VG (bC tq (pv 5) (bC vP gE (hU wa O T.q22 qc (aF (dB (p8 (K:=K) O) O T.q23 jA (aF (pv 4) (aF (qn (v:=.ref a3) O b O) aL))) aL))))) (bF (cJ (eA (aF (bC tq (pv 5) (bC vP gE (hU wa O T.q22 qc (aF (dB (p8 (K:=K) O) O T.q23 jA (aF (pv 4) (aF (qn (v:=.ref a5) O g O) aL))) aL)))) (aF jp aL))))))))))) (bF (cJ (eA (aF gE (aF jp aL)))))),?_⟩;refine⟨_,O,p,dx,F,O,an,nm,_,O,_,O,_,O,aa _ _ _ _ _ _ (λv H' ap=>?_) (λcls m H' aq=>?_) ao⟩
 .exact⟨cQ O,λl U=>ap l U⟩
 .rcases aq with ⟨r,c,a7,G,rfl,q⟩|⟨c,d,s,a8,rfl,rfl,ar,q⟩
  .obtain⟨ex,as,k1,k2,k3,n,t,B,D,au,k5,av,aw,ax⟩:sm K c/\uy K (.ref c) (.ref aj)=some aC/\jW K (.ref c) (.type "ValueError")=some aC/\jW K (.ref c) (.ref a6)=some aJ/\jW K (.ref c) (.ref x)=some aJ/\∃n t B D:Bool,jW K (.ref c) (.ref a2)=some n/\jW K (.ref c) (.ref a4)=some t/\jW K (.ref c) (.ref a3)=some B/\jW K (.ref c) (.ref a5)=some D/\(Txt.mul ("wish":aA) (nA n)++Txt.mul ("voice":aA) (nA t)++Txt.mul ("many":aA) (nA B)++Txt.mul ("outvoted":aA) (nA D):aA)=m4 r:=by
    simp only[eM,mF,or_false]at a7;rcases a7 with rfl|rfl|rfl|rfl
    .rw[a]at G;cases G;exact⟨af.k,T.Xr _ _ a M,T.Wi _ a,T.Wj _ _ a J,T.Wk _ _ a k,aC,aJ,aJ,aJ,T.Wl _ _ a a,T.Wm _ _ a e,T.Wn _ _ a b,T.Wo _ _ a g,VE⟩
    .rw[b]at G;cases G;exact⟨ag.k,T.Xs _ _ b M,T.Wp _ b,T.Wq _ _ b J,T.Wr _ _ b k,aJ,aJ,aC,aJ,T.Ws _ _ b a,T.Wt _ _ b e,T.Wu _ _ b b,T.Wv _ _ b g,VE⟩
    .rw[e]at G;cases G;exact⟨ah.k,T.Xt _ _ e M,T.Ww _ e,T.Wx _ _ e J,T.Wy _ _ e k,aJ,aC,aJ,aJ,T.Wz _ _ e a,T.Xa _ _ e e,T.Xb _ _ e b,T.Xc _ _ e g,VE⟩
    .rw[g]at G;cases G;exact⟨ai.k,T.Xu _ _ g M,T.Xd _ g,T.Xe _ _ g J,T.Xf _ _ g k,aJ,aJ,aJ,aC,T.Xg _ _ g a,T.Xh _ _ g e,T.Xi _ _ g b,T.Xj _ _ g g,VE⟩
   refine⟨as,λea Y=>?_⟩;have N:=aM.upd (o:=lC ea (.ref c) m) Y;have j:aI H' ea (lC ea (.ref c) m) ea=some (lC ea (.ref c) m):=aV;generalize aI H' ea (lC ea (.ref c) m)=a0 at j N ⊢;refine⟨_,O,ea,_,_,c,aC,m,O,O,j,ex,k1,_,O,cG ?_⟩;refine⟨_,O,ea,_,_,c,aJ,m,O,O,j,ex,k2,_,O,cG ?_⟩;refine⟨_,O,ea,_,_,c,aJ,m,O,O,j,ex,k3,_,O,cG ?_⟩;refine⟨_,O,ea,_,_,c,n,m,O,O,j,ex,au,.inr ⟨n,O,_,nA n,O,O,VE,(pw n).1,(pw n).2,?_⟩⟩;refine⟨_,O,ea,_,_,c,t,m,O,O,j,ex,k5,.inr ⟨t,O,_,nA t,O,O,VE,(pw t).1,(pw t).2,?_⟩⟩;refine⟨_,_,O,O,by cases n<;>cases t<;>decide +kernel,?_⟩;refine⟨_,O,_,O,ea,_,_,c,B,m,O,O,j,ex,av,.inr ⟨B,O,_,nA B,O,O,VE,(pw B).1,(pw B).2,?_⟩⟩;refine⟨_,_,O,O,by cases n<;>cases t<;>cases B<;>decide +kernel,?_⟩;refine⟨_,O,_,O,ea,_,_,c,D,m,O,O,j,ex,aw,.inr ⟨D,O,_,nA D,O,O,VE,(pw D).1,(pw D).2,?_⟩⟩;refine⟨_,_,O,O,by cases n<;>cases t<;>cases B<;>cases D<;>decide +kernel,cQ O,λl U=>?_⟩;rw[ax];exact q l a0 N U
  .rw[k]at a8;cases a8;refine⟨T.Xv _ _ k M,λea Y=>?_⟩;have N:=aM.upd (o:=lC ea (.ref x) (some d)) Y;have j:aI H' ea (lC ea (.ref x) (some d)) ea=some (lC ea (.ref x) (some d)):=aV;generalize aI H' ea (lC ea (.ref x) (some d))=a0 at j N ⊢;refine⟨_,O,ea,_,_,x,aC,_,O,O,j,L,T.Xk _ k,_,O,cG ?_⟩;refine⟨_,O,ea,_,_,x,aJ,_,O,O,j,L,T.Xl _ _ k J,_,O,cG ?_⟩;refine⟨_,O,ea,_,_,x,aC,_,O,O,j,L,T.Xm _ _ k k,_,O,cU ?_⟩;exact⟨_,O,ea,x,d,.str s,O,j,N _ _ ar,L.ga,L.gt,L.mb,ak,al,⟨s,O⟩,cQ O,λl U=>q l a0 N U⟩
theorem PR:p4 (wc mg I C c):=λvs H Q i E j k a ⟨p,dp,lw,pl,fs,gs,pu,wk,y,u,b,d,e,ev,M,f,dD,g,h,q⟩=>⟨p,dp,lw,pl,fs,gs,pu,wk,y,u,b,d,e,ev,M,f,dD,g,h,λH' S=>a _ _ _ (q H' S)⟩
theorem PQ:p4 (tO I C a b):=λvs H Q n E o r c ⟨p,dp,lw,pl,l,d,fs,gs,pu,wk,e,L,es,us,ev,M,h1,h2,f,g,h,i,j,k,m,q⟩=>⟨p,dp,lw,pl,l,d,fs,gs,pu,wk,e,L,es,us,ev,M,h1,h2,f,g,h,i,j,k,m,λH' S=>c _ _ _ (q H' S)⟩
theorem PP:p4 (we I C h j m n):=λvs H Q ag E ah o e ⟨p,dp,lw,pl,l,r,fs,gs,pu,wk,s,L,es,us,B,ev,M,h1,h2,u,w,x,y,A,D,G,J,N,T,U,Y,a0,q⟩=>⟨p,dp,lw,pl,l,r,fs,gs,pu,wk,s,L,es,us,B,ev,M,h1,h2,u,w,x,y,A,D,G,J,N,T,U,Y,λa H' S=>e _ _ _ (a0 a H' S),λys f g=>⟨λa H' k t=>e _ _ _ ((q ys f g).1 a H' k t),λa=>⟨λi z a1 a2 a3 d H' k t a4=>e _ _ _ (((q ys f g).2 a).1 i z a1 a2 a3 d H' k t a4),λb a5 a6 a7 a8 c H' a9 aa ac ae af=>o _ _ (((q ys f g).2 a).2 b a5 a6 a7 a8 c H' a9 aa ac ae af)⟩⟩⟩
def Ak(K:bI)(H:aD)(x:V)(T:String)(b:Bool):Prop:=∃t,js K H x t/\jW K t (.type T)=some b
def q4(K:bI)(x:V)(T:String)(b:Bool):Prop:=∃t,(∀G:aD,js K G x t)/\jW K t (.type T)=some b
def qx(Q:aP)(H:aD)(a b:V):Prop:=∀l H2,aM H H2->H2 l=aG->Q (.ref l) (aI H2 l (.lst [a,b]))
inductive qu(K:bI)(I C:aB)(vs:List V)(H:aD)(Q:aP)(E:dL):Prop
 |mk:∀(p dp lw pl:aB)(fs gs:List aH)(pu:aA->Int×Int)(wk:List aH)(x1 y u x4:V),vs=[.ref p,x1,y,u,x4]->jz I C H p dp lw pl fs gs pu wk->((Ak K H y "list" aJ\/∃(l:aB)(ws:List aA),y=.ref l/\H l=some (.lst (ws.map V.str))/\ws.length<=100/\(ws=[]\/(ws≠[]/\(q4 K u "bool" aC\/(q4 K u "bool" aJ/\q4 K u "int" aJ))))))->qx Q H (.str "wish") .non->qu K I C vs H Q E
theorem MD(T:Txt K mg C)(TB:kJ K mg base "lists_of_places" U z)(k:mg "Moot"=some (.ref I)):px P w K mg base 10 "_law_due" wM ["_law_moot","_law_fields_here","_law_wish_here","_law_height_here","_law_yes","_law_land","_law_names_here","_law_strange","_law_dues","_law_told_here","_law_held","_law_short"] ["_law_moot","_law_fields_here","_law_wish_here","_law_height_here","_law_yes"] (qu K I C):=by
 obtain⟨ah,B,D,ai,aj,ak,al,am,an,ao,ap,aq⟩:=T.Wb;rw[k]at D;cases D;refine⟨λvs H Q E h=>?_,λf ar A outer s H vs Q E a h=>?_⟩
 .obtain⟨p,dp,lw,pl,fs,gs,pu,wk,a3,y,u,a4,rfl,_⟩:=h;rfl
 obtain⟨p,dp,lw,pl,fs,gs,pu,wk,a3,y,u,a4,rfl,M,b,q⟩:=h;have L:=j7 a;obtain⟨dx,F,J,us,H0,a5,a6,_⟩:=id M;refine⟨_,(bB (cH (i:=5) kX.nd rfl VG (ki B (y7 T k) (a.mono VD) (pv 0))) (bB (fD (gU.pt (ju (iF (fY (dB (kL (K:=K) rfl) rfl T.q23 jA (aF (pv 2) (aF (kz T.q25 kW) aL))))) (ju (eU (vc a.units) (pv 2) (eA aL) (eI _)) (ju (fY (dB (kL (K:=K) rfl) rfl T.q23 jA (aF (pv 3) (aF (kz T.q20 zK) aL)))) (kg (iF (fY (dB (kL (K:=K) rfl) rfl T.q23 jA (aF (pv 3) (aF (kz T.q22 qc) aL)))))))))) (bF (cJ (eA (aF gE (aF jp aL))))) fC) (bB (cH (i:=6) kX.nd rfl (Or.inr rfl) (fM ["_law_field"] 1 [] rfl (eV (pv 1)) (λR=>dJ (i:=0) (VE:eG (["_law_field"]:List aA)) rfl VG) (eN VD) (λR=>gN) (λR=>(cF (cR (K:=K) rfl) (pv 0) aQ (λ_ _=>rfl))))) (bB (mh (i:=7) kX.nd rfl ["_law_name","_law_wish_here","_law_names_here"] 1 [2,6] rfl (eV (pv 2)) (λR=>dJ (i:=0) (VE:eG (["_law_name","_law_wish_here","_law_names_here"]:List aA)) rfl VG) (eN VD) (λR=>ke (gU.pt (ju (eU (wP a.units) (pv 0) (pv 2) (by with_unfolding_all rfl)) (kg (eU pp (EE (K:=K) rfl (k7 lg PySem.F.slot_list_count PySem.F.type_list_count Cp (pv 1) (aF (pv 0) aL))) aQ (eI _)))))) (λR=>(pv 0))) (bB (fD (gU.pt (ju (eU (o8 a.units) (pv 7) (eA aL) (eI _)) (kg (eU pp (dB x6 rfl T.q18 z9 (aF (pv 3) aL)) (bC ji aQ aQ) (eI _))))) (bF (cJ (eA (aF gE (aF jp aL))))) fC) (bB (fD (eU (DX a.units) (fM ["_law_name","_law_names_here"] 1 [6] rfl (eV (pv 4)) (λR=>dJ (i:=0) (VE:eG (["_law_name","_law_names_here"]:List aA)) rfl VG) (eN VD) (λR=>ke (eU (wP a.units) (pv 0) (pv 1) (by with_unfolding_all rfl))) (λR=>(pv 0))) (eA aL) (eI _)) (bF (cJ (eA (aF gE (aF jp aL))))) fC) (bB (cH (i:=8) kX.nd rfl VG (dB (qj rfl) rfl T.q33 qb (aF (fM ["_law_field"] 1 [] rfl (eV (pv 1)) (λR=>dJ (i:=0) (VE:eG (["_law_field"]:List aA)) rfl VG) (eN VD) (λR=>gN) (λR=>(cF (cR (K:=K) rfl) (pv 0) aQ (λ_ _=>rfl)))) aL))) (bB (fD (eU lZ (bC mj aQ (dB (qj rfl) rfl T.q33 qb (aF (fM ["_law_field","_law_yes"] 1 [4] rfl (eV (pv 1)) (λR=>dJ (i:=0) (VE:eG (["_law_field","_law_yes"]:List aA)) rfl VG) (eN VD) (λR=>ke (eU (rr (K:=K) rfl) (cF (cR (K:=K) rfl) (pv 0) aQ (λ_ _=>rfl)) (pv 1) (by with_unfolding_all rfl))) (λR=>(cF (cR (K:=K) rfl) (pv 0) aQ (λ_ _=>rfl)))) aL))) (pv 8) (eI _)) (bF (cJ (eA (aF gE (aF jp aL))))) fC) (bB (cH (i:=9) kX.nd rfl (Or.inr rfl) (bZ (zk T TB) (a.mono VD) (aF (pv 5) (aF (pv 2) (aF (pv 3) aL))))) (bB (cH (i:=10) kX.nd rfl (Or.inr rfl) (ki B (y3 T k) (a.mono VD) (pv 0))) (bB (mh (i:=11) kX.nd rfl ["_law_name","_law_told_here","_law_held"] 1 [9,10] rfl (eV (pv 2)) (λR=>dJ (i:=0) (VE:eG (["_law_name","_law_told_here","_law_held"]:List aA)) rfl VG) (eN VD) (λR=>ke (fY (bZ (zR T) (a.mono VD) (aF (j6 L (pv 2) (pv 0) (λ_ _=>rfl)) (aF (j6 L (pv 1) (pv 0) (λ_ _=>rfl)) aL))))) (λR=>(pv 0))) (bB (fD (eU (o8 a.units) (pv 11) (eA aL) (eI _)) (bF (cJ (eA (aF gE (aF (cF (jJ (K:=K) rfl) (pv 11) aQ (λ_ _=>rfl)) aL))))) fC) (bF (cJ (eA (aF gE (aF jp aL))))))))))))))))),?_⟩;refine rF λas au=>?_;refine⟨_,rfl,p,dx,F,rfl,a5,a6.no _ VE,_,rfl,p,dp,lw,pl,fs,gs,pu,wk,rfl,M,?_⟩;rcases b with ⟨t,ty,c⟩|⟨l,n,rfl,j,lw,b⟩
 .refine⟨_,rfl,y,_,_,t,aJ,rfl,rfl,ty,c,_,rfl,cU (cU ⟨cQ rfl,λl j=>q l H (aM.refl _) j⟩)⟩
 .refine⟨_,rfl,_,_,_,_,aC,rfl,rfl,js.lst j,mY _ _,_,rfl,cG ?_⟩;have a7:∀(G:aD)(zs:List aA),IsL G (zs.map aH.str) (zs.map V.str):=λG zs=>by
   induction zs with
   |nil=>rfl
   |cons r zs a8=>exact⟨.str r,_,rfl,rfl,a8⟩
  refine⟨_,rfl,cQ rfl,λe a9=>?_⟩;have N:=aM.upd (o:=.lst []) a9;have aa:bK (aI H e (.lst [])) (.lst []) (.ref e):=⟨e,[],rfl,aV,rfl⟩
  refine⟨.lst (n.map aH.str),.lst [],⟨l,_,rfl,N _ _ j,a7 _ n⟩,aa,x0 (λd m=>by obtain⟨r,_,rfl⟩:=cP.mp m;rfl),rfl,?_⟩;have x:∀g,aI H e (.lst []) g=aG->Q (.ref g) (aI (aI H e (.lst [])) g (.lst [.str "wish",.non])):=λg h2=>q g _ N h2;rcases b with rfl|⟨ac,b⟩
  .exact⟨_,rfl,cU (cU ⟨cQ rfl,x⟩)⟩
  .cases n with
   |nil=>exact absurd rfl ac
   |cons r zs=>
    refine⟨_,rfl,cG ?_⟩;rcases b with ⟨t,ty,c⟩|⟨⟨t,ty,c⟩,⟨ae,af,ag⟩⟩
    .exact⟨_,rfl,u,_,_,t,aC,rfl,rfl,ty _,c,_,rfl,cU (cU ⟨cQ rfl,x⟩)⟩
    .refine⟨_,rfl,u,_,_,t,aJ,rfl,rfl,ty _,c,_,rfl,cG ?_⟩;exact⟨_,rfl,u,_,_,ae,aJ,rfl,rfl,af _,ag,_,rfl,cU ⟨cQ rfl,x⟩⟩
def lY(c:aB)(Q:aP)(H:aD)(a b:V):Prop:=∀l H2,fV c H H2->fR c H2->H2 l=aG->Q (.ref l) (aI H2 l (.lst [a,b]))
theorem LC(k:∀b o,H b=some o->(∀ps,o≠.tbl ps)->H' b=some o)(h:eZ C H x fs N):eZ C H' x fs N:=by
 have D:re H H':=λb o e d=>k b o e (λps c=>by rw[c]at d;cases d);have tb:∀{a:aB} {N:List aH},m8 H a N->m8 H' a N:=fun⟨J,e,k1,i⟩=>⟨J,D _ _ e O,k1,IsL.sameD D _ _ i⟩
 obtain⟨⟨dx,f,g,e,j,l⟩,a,b⟩:=h;exact⟨⟨dx,f,g,k _ _ e (λ_ c=>by cases c),tb j,tb l⟩,a,b⟩
theorem jz.keepB(k:fV c H H')(t:fR c H)(M:jz I C H p dp lw pl fs gs pu wk):jz I C H' p dp lw pl fs gs pu wk:=by
 obtain⟨ps,l,_⟩:=t;obtain⟨dx,F,J,us,H0,h1,h2,m,h,q,i,s,r,u,w,L,x⟩:=M;have f:∀{b:aB} {o:dX},H b=some o->(∀ps,o≠.tbl ps)->b≠c:=λe n a=>by rw[a,l]at e;exact n _ (gK e).symm
 have j:∀b o,H0 b=some o->(∀ps,o≠.tbl ps)->(if b=c then aG else H0 b)=some o:=λb o e n=>by rw[if_neg (f (s _ _ e) n)];exact e
 have g:∀b,H0 b=aG->(if b=c then aG else H0 b)=aG:=λb e=>by rw[e];split<;>rfl
 refine⟨dx,F,J,us,λb=>if b=c then aG else H0 b,k _ _ (f h1 (λ_ a=>by cases a)) h1,h2,m,k _ _ (f h (λ_ a=>by cases a)) h,q.same (λb xs e=>k _ _ (f e (λ_ a=>by cases a)) e),k _ _ (f i (λ_ a=>by cases a)) i,λb o e=>?_,g _ r,g _ u,g _ w,LC j L,IsL.sameD (λb o e d=>j b o e (λps a=>by rw[a]at d;cases d)) _ _ x⟩;have e:(if b=c then aG else H0 b)=some o:=e;by_cases a:b=c
 .rw[if_pos a]at e;cases e
 .rw[if_neg a]at e;exact k _ _ a (s _ _ e)
theorem zH:∀{a:List aA} {b:aA} {zs:List aA},a.filter p=b::zs->∃i,a[i]?=some b/\p b=aC/\∀y∈a.take i,p y=aJ
 |[],_,_,h=>nomatch h
 |w::a,b,zs,h=>by
  cases c:p w with
  |true=>
   rw[r1 c]at h;cases h;exact⟨0,O,c,λy m=>nomatch m⟩
  |false=>
   rw[r2 (by rw[c];decide)]at h;obtain⟨i,e,d,f⟩:=zH h;refine⟨i+1,e,d,λy m=>?_⟩;rw[List.take_succ_cons]at m;rcases eM.mp m with rfl|m
   .exact c
   .exact f y m
theorem yp(e:aH):∀zs:List aA,((zs.map aH.str).any λn=>fQ n e)=eE zs e
 |[]=>by cases e<;>rfl
 |z::zs=>by
  rw[dW,oD,yp e zs];cases e with
  |str y=>
   show(decide (z=y)||decide (y∈zs))=decide (y∈z::zs);by_cases h:z=y
   .subst h;simp
   .simp[h,Ne.symm h,λq=>h (Eq.symm q)]
  |_=>rfl
noncomputable def jU(zs b:List aA)(a:aA):Bool:=!decide (a∈zs)||decide (1<b.count a)
def s9(zs a:List aA)(L:Int):Prop:=(∃b∈a,b∉zs\/1<a.count b)\/¬(-1000000<=L/\L<=1000000)
inductive qv(I C Tb:aB)(vs:List V)(H:aD)(Q:aP)(E:dL):Prop
 |mk:∀(p dp lw pl lf l ly:aB)(fs gs:List aH)(pu:aA->Int×Int)(wk:List aH)(vf:List V)(ws:List aA)(L:Int)(es:List aH)(us:List V),vs=[.ref p,.ref lf,.ref l,.int L,.ref ly]->jz I C H p dp lw pl fs gs pu wk->H lf=some (.lst vf)->IsL H fs vf->H l=some (.lst (ws.map V.str))->ws≠[]->ws.length<=7->H ly=some (.lst us)->IsL H es us->es.length<=100->((∀e∈es,dG 30 e=aC\/∃B N,e=.dct B N))->fR Tb H->tu pu (fs.map aN)->((s9 (fs.map aN) ws L->qx Q H (.str "wish") .non))->((¬s9 (fs.map aN) ws L->ws.length<=5 /\
  ((es.map (eE (fs.map aN))).all id=aJ->qx Q H (.str "voice") .non) /\
  ∀ys,es=ys.map aH.str->(∀y∈ys,y∈fs.map aN)->(2*kn fs ys<=kq fs->qx Q H (.str "outvoted") .non) /\
   (¬2*kn fs ys<=kq fs->(∀i z,ws[i]?=some z->gI pu (jQ (bU fs gs L) ws) z=aC->(∀y∈ws.take i,gI pu (jQ (bU fs gs L) ws) y=aJ)->lY Tb Q H (.str "short") (.str z)) /\
    ((∀z∈ws,gI pu (jQ (bU fs gs L) ws) z=aJ)->lY Tb Q H (.str "done") .non))))->qv I C Tb vs H Q E
theorem MC(T:Txt K mg C)(TB:kJ K mg base "lists_of_places" cM a3)(b8:mg "Moot"=some (.ref I)):px P w K mg base 10 "_law_due" wM ["_law_moot","_law_fields_here","_law_wish_here","_law_height_here","_law_yes","_law_land","_law_names_here","_law_strange","_law_dues","_law_told_here","_law_held","_law_short"] ["_law_moot","_law_fields_here","_law_wish_here","_law_height_here","_law_yes"] (qv I C a3):=by
 obtain⟨en,bu,bv,eo,ep,eq,er,et,eu,ew,ex,ey⟩:=T.Wb;rw[b8]at bv;cases bv;refine⟨λvs H Q E h=>?_,λf ez A outer s H vs Q E a2 h=>?_⟩
 .obtain⟨p,dp,lw,pl,lf,l,a8,fs,gs,pu,wk,vf,k,L,es,us,rfl,_⟩:=h;rfl
 obtain⟨p,dp,lw,pl,lf,l,a8,fs,gs,pu,wk,vf,k,B,es,us,rfl,M,b9,ba,a9,bw,bx,ap,bb,le,cW,tb,lp,bz,q⟩:=h;have bM:=j7 a2;have eD:=gB;have L:=M.lnd;have aa:=(iE L).1;have d0:=(iE L).2;have f2:=aa.l2;have bc:=ba.length;have d1:=bb.length;obtain⟨dx,F,J,eH,H0,bd,bO,_,eK,fr,_⟩:=id M;have be:∀(G:aD)(zs:List aA),IsL G (zs.map aH.str) (zs.map V.str):=λG zs=>by
  induction zs with
  |nil=>rfl
  |cons c zs d2=>exact⟨.str c,_,rfl,rfl,d2⟩
 refine⟨_,(bB (cH (i:=5) kX.nd rfl VG (ki bu (y7 T b8) (a2.mono VD) (pv 0))) (bB (fD (gU.pt (ju (iF (fY (dB (kL (K:=K) rfl) rfl T.q23 jA (aF (pv 2) (aF (kz T.q25 kW) aL))))) (ju (eU (vc a2.units) (pv 2) (eA aL) (eI _)) (ju (fY (dB (kL (K:=K) rfl) rfl T.q23 jA (aF (pv 3) (aF (kz T.q20 zK) aL)))) (kg (iF (fY (dB (kL (K:=K) rfl) rfl T.q23 jA (aF (pv 3) (aF (kz T.q22 qc) aL)))))))))) (bF (cJ (eA (aF gE (aF jp aL))))) fC) (bB (cH (i:=6) kX.nd rfl (Or.inr rfl) (fM ["_law_field"] 1 [] rfl (eV (pv 1)) (λR=>dJ (i:=0) (VE:eG (["_law_field"]:List aA)) rfl VG) (eN VD) (λR=>gN) (λR=>(cF (cR (K:=K) rfl) (pv 0) aQ (λ_ _=>rfl))))) (bB (mh (i:=7) kX.nd rfl ["_law_name","_law_wish_here","_law_names_here"] 1 [2,6] rfl (eV (pv 2)) (λR=>dJ (i:=0) (VE:eG (["_law_name","_law_wish_here","_law_names_here"]:List aA)) rfl VG) (eN VD) (λR=>ke (gU.pt (ju (eU (wP a2.units) (pv 0) (pv 2) (by with_unfolding_all rfl)) (kg (eU pp (EE (K:=K) rfl (k7 lg PySem.F.slot_list_count PySem.F.type_list_count Cp (pv 1) (aF (pv 0) aL))) aQ (eI _)))))) (λR=>(pv 0))) (bB (fD (gU.pt (ju (eU (o8 a2.units) (pv 7) (eA aL) (eI _)) (kg (eU pp (dB x6 rfl T.q18 z9 (aF (pv 3) aL)) (bC ji aQ aQ) (eI _))))) (bF (cJ (eA (aF gE (aF jp aL))))) fC) (bB (fD (eU (DX a2.units) (fM ["_law_name","_law_names_here"] 1 [6] rfl (eV (pv 4)) (λR=>dJ (i:=0) (VE:eG (["_law_name","_law_names_here"]:List aA)) rfl VG) (eN VD) (λR=>ke (eU (wP a2.units) (pv 0) (pv 1) (by with_unfolding_all rfl))) (λR=>(pv 0))) (eA aL) (eI _)) (bF (cJ (eA (aF gE (aF jp aL))))) fC) (bB (cH (i:=8) kX.nd rfl VG (dB (qj rfl) rfl T.q33 qb (aF (fM ["_law_field"] 1 [] rfl (eV (pv 1)) (λR=>dJ (i:=0) (VE:eG (["_law_field"]:List aA)) rfl VG) (eN VD) (λR=>gN) (λR=>(cF (cR (K:=K) rfl) (pv 0) aQ (λ_ _=>rfl)))) aL))) (bB (fD (eU lZ (bC mj aQ (dB (qj rfl) rfl T.q33 qb (aF (fM ["_law_field","_law_yes"] 1 [4] rfl (eV (pv 1)) (λR=>dJ (i:=0) (VE:eG (["_law_field","_law_yes"]:List aA)) rfl VG) (eN VD) (λR=>ke (eU (rr (K:=K) rfl) (cF (cR (K:=K) rfl) (pv 0) aQ (λ_ _=>rfl)) (pv 1) (by with_unfolding_all rfl))) (λR=>(cF (cR (K:=K) rfl) (pv 0) aQ (λ_ _=>rfl)))) aL))) (pv 8) (eI _)) (bF (cJ (eA (aF gE (aF jp aL))))) fC) (bB (cH (i:=9) kX.nd rfl (Or.inr rfl) (bZ (zk T TB) (a2.mono VD) (aF (pv 5) (aF (pv 2) (aF (pv 3) aL))))) (bB (cH (i:=10) kX.nd rfl (Or.inr rfl) (ki bu (y3 T b8) (a2.mono VD) (pv 0))) (bB (mh (i:=11) kX.nd rfl ["_law_name","_law_told_here","_law_held"] 1 [9,10] rfl (eV (pv 2)) (λR=>dJ (i:=0) (VE:eG (["_law_name","_law_told_here","_law_held"]:List aA)) rfl VG) (eN VD) (λR=>ke (fY (bZ (zR T) (a2.mono VD) (aF (j6 bM (pv 2) (pv 0) (λ_ _=>rfl)) (aF (j6 bM (pv 1) (pv 0) (λ_ _=>rfl)) aL))))) (λR=>(pv 0))) (bB (fD (eU (o8 a2.units) (pv 11) (eA aL) (eI _)) (bF (cJ (eA (aF gE (aF (cF (jJ (K:=K) rfl) (pv 11) aQ (λ_ _=>rfl)) aL))))) fC) (bF (cJ (eA (aF gE (aF jp aL))))))))))))))))),?_⟩;refine rF λeT d3=>?_;refine⟨_,rfl,p,dx,F,rfl,bd,bO.no _ VE,_,rfl,p,dp,lw,pl,fs,gs,pu,wk,rfl,M,?_⟩;refine⟨_,rfl,_,_,_,_,aC,rfl,rfl,js.lst a9,mY _ _,_,rfl,cG ?_⟩;refine⟨_,rfl,cQ rfl,λay d4=>?_⟩;have ac:=aM.upd (o:=.lst []) d4;have d5:bK (aI H ay (.lst [])) (.lst []) (.ref ay):=⟨ay,[],rfl,aV,rfl⟩
 refine⟨.lst (k.map aH.str),.lst [],⟨l,_,rfl,ac _ _ a9,be _ k⟩,d5,zn k,rfl,_,rfl,?_⟩;have u:fQ (.lst (k.map aH.str)) (.lst [])=aJ:=by
  cases k with
  |nil=>exact absurd rfl bw
  |cons c zs=>rfl
 rw[u];generalize aI H ay (.lst [])=z at ac;refine cG ⟨_,rfl,_,_,_,_,aJ,rfl,rfl,(js.int B),?_,_,rfl,cG ⟨_,rfl,_,_,_,_,aC,rfl,rfl,(js.int B),mY _ _,_,rfl,cG (d3 _ _ _ ?_)⟩⟩
 .rfl
 refine rF λeX d6=>?_;refine⟨_,rfl,lf,rfl,⟨_,aT.of (ac _ _ b9)⟩,?_⟩;refine fP (F:=K) (xs:=vf) VF (λi ys H'=>z=H'/\ys=((fs.take i).map aN).map V.str) ⟨rfl,rfl⟩ ?_ ?_ ?_
 .rintro i ys H' aq ⟨rfl,rfl⟩;exact⟨aT.of (ac _ _ b9),by rw[aS,aS,dU];omega⟩
 .rintro i x ys H' ae af ar ⟨rfl,rfl⟩ k1 k2;have d7:i<vf.length:=(dI.mp ar).1;obtain⟨d,u⟩:∃d,fs[i]?=some d:=⟨_,cY VF⟩
  obtain⟨v,ev,a5⟩:=(IsL.same ac _ _ ba).get u;rw[ar]at ev;cases ev;obtain⟨c,g,e,rfl,_⟩:=jc (aa.all d (dN u));obtain⟨t,rfl,o⟩:=nE a5;refine⟨_,rfl,t,_,0,.str c,rfl,rfl,bY.of o,cE (j:=0) rfl,k1 _ _ ⟨rfl,?_⟩⟩;rw[eL,u];simp[aN,iB]
 rintro ys H' ⟨rfl,rfl⟩;rw[bc,dY (bQ _)];intro D d8;have bf:=ac.trans (aM.upd (o:=.lst ((fs.map aN).map V.str)) d8);have h2:aI z D (.lst ((fs.map aN).map V.str)) D=some (.lst ((fs.map aN).map V.str)):=aV;generalize aI z D (.lst ((fs.map aN).map V.str))=H2 at bf h2 ⊢;have az:=bf _ _ a9;refine⟨_,rfl,l,rfl,⟨_,aT.of az⟩,?_⟩;refine fP (F:=K) (xs:=k.map V.str) (by rw[aS];omega) (λi ys H'=>H2=H'/\ys=((k.take i).filter (jU (fs.map aN) k)).map V.str/\ys.length<=i) ⟨rfl,rfl,bQ _⟩ ?_ ?_ ?_
 .rintro i ys H' aq ⟨rfl,rfl,a1⟩;exact⟨aT.of az,a1⟩
 .rintro i bg ys H' ae af a4 ⟨rfl,rfl,a1⟩ k1 k2;obtain⟨c,ag⟩:∃y,k[i]?=some y:=by
   have:=(dI.mp a4).1;rw[aS]at this;exact⟨_,cY this⟩
  rw[dO,ag]at a4;cases a4;have Y:((k.take (i+1)).filter (jU (fs.map aN) k))=((k.take i).filter (jU (fs.map aN) k))++(if jU (fs.map aN) k c=aC then [c] else []):=by
   rw[eL,ag,lE];cases N:jU (fs.map aN) k c<;>simp[N]
  have bR:jU (fs.map aN) k c=aC->ae (.str c) H2:=λN=>k1 _ _ ⟨rfl,by rw[Y,if_pos N,dP];rfl,by rw[eW,li];omega⟩;have d9:jU (fs.map aN) k c=aJ->af H2:=λN=>k2 _ ⟨rfl,by rw[Y,N];simp,VF⟩;refine⟨_,rfl,_,rfl,.str c,D,_,rfl,h2,rfl,.inl rfl,_,rfl,?_⟩;rw[if_pos rfl,yp];cases a6:decide (c∈fs.map aN) with
  |false=>
   rw[show eE (fs.map aN) (.str c)=aJ from a6];exact cU (cU ⟨_,rfl,bR (by unfold jU;rw[a6];rfl)⟩)
  |true=>
   rw[show eE (fs.map aN) (.str c)=aC from a6];refine cG ?_;refine⟨_,rfl,.inl ⟨rfl,_,aT.of az⟩,_,rfl,l,k,c,rfl,rfl,az,_,_,rfl,rfl,_,rfl,?_⟩;have bV:jU (fs.map aN) k c=decide ((1:Int)<((k.count c:Nat):Int)):=by
    unfold jU;rw[a6];by_cases h:1<k.count c
    .rw[decide_eq_true h,decide_eq_true VF];rfl
    .rw[decide_eq_false h,decide_eq_false VF];rfl
   cases bW:decide ((1:Int)<((k.count c:Nat):Int)) with
   |true=>exact cU ⟨_,rfl,bR (bV.trans bW)⟩
   |false=>exact cG (d9 (bV.trans bW))
 rintro ys H' ⟨rfl,rfl,a1⟩;rw[aS,dY (bQ _)];intro ah c0;have c1:=bf.trans (aM.upd (o:=.lst ((k.filter (jU (fs.map aN) k)).map V.str)) c0);have c2:aI H2 ah (.lst ((k.filter (jU (fs.map aN) k)).map V.str)) ah=some (.lst ((k.filter (jU (fs.map aN) k)).map V.str)):=aV;have c3:=aM.upd (o:=.lst ((k.filter (jU (fs.map aN) k)).map V.str)) c0 _ _ h2;generalize aI H2 ah (.lst ((k.filter (jU (fs.map aN) k)).map V.str))=da at c1 c2 c3 ⊢;refine d6 _ _ _ ?_;refine qf λf0 db=>?_;refine iJ (σ':=[some (.ref p),some (.ref lf),some (.ref l),some (.int B),some (.ref a8),some (.ref pl),some (.ref D),some (.ref ah),aG,aG,aG,aG]) rfl ?_;refine⟨_,rfl,cQ rfl,λc4 c5=>?_⟩;have ai:=c1.trans (aM.upd (o:=.lst []) c5);have bh:=aM.upd (o:=.lst []) c5;refine⟨.lst ((k.filter (jU (fs.map aN) k)).map aH.str),.lst [],⟨ah,_,rfl,bh _ _ c2,be _ _⟩,⟨c4,[],rfl,aV,rfl⟩,zn _,rfl,_,rfl,?_⟩;have c6:=bh _ _ c3;generalize aI da c4 (.lst [])=aj at ai c6 bh ⊢;have dc:(10:Int)^(6:Int).toNat=1000000:=VD;by_cases aR:k.filter (jU (fs.map aN) k)=[]
 rotate_left
 .have dd:s9 (fs.map aN) k B:=by
   obtain⟨c,U⟩:=List.exists_mem_of_ne_nil _ aR;obtain⟨U,r⟩:=jD.mp U;refine .inl ⟨c,U,?_⟩;unfold jU at r;rcases xk.mp r with h|h
   .exact .inl (by simpa using h)
   .exact .inr (of_decide_eq_true h)
  have u:fQ (.lst ((k.filter (jU (fs.map aN) k)).map aH.str)) (.lst [])=aJ:=by
   cases as:k.filter (jU (fs.map aN) k) with
   |nil=>exact absurd as aR
   |cons c zs=>rfl
  rw[u];exact cU (cU ⟨cQ rfl,λbi ak=>bz dd bi aj ai ak⟩)
 rw[aR];refine cG ⟨_,rfl,B,rfl,_,_,rfl,rfl,⟨VD,VD,VD⟩,_,_,rfl,rfl,_,rfl,?_⟩;rw[dc];by_cases al:(1000000:Int)<(if B<0 then -B else B)
 .rw[decide_eq_true al];refine cU ⟨cQ rfl,λbi ak=>bz (.inr λh=>?_) bi aj ai ak⟩;split at al<;>omega
 rw[decide_eq_false al];have bj:-1000000<=B/\B<=1000000:=by split at al<;>omega
 have b0:∀c∈k,c∈fs.map aN/\k.count c<=1:=λc U=>by
  have:=r3.mp aR c U;unfold jU at this;rw[Bool.or_eq_true,not_or]at this;exact⟨by simpa using this.1,by simpa using this.2⟩
 have de:¬s9 (fs.map aN) k B:=λh=>by
  rcases h with ⟨c,U,h|h⟩|h
  .exact h (b0 c U).1
  .exact absurd (b0 c U).2 VF
  .exact h bj
 obtain⟨c7,df,q⟩:=q de;refine cG (db _ _ _ ?_);refine qf λf1 dg=>?_;have c8:=ai _ _ ap;have dh:=IsL.same ai _ _ bb;refine⟨_,rfl,a8,rfl,⟨_,aT.of c8⟩,?_⟩;refine fP (F:=K) (xs:=us) VF (λi ys H'=>aj=H'/\IsL aj ((es.take i).filter λe=>!eE (fs.map aN) e) ys/\ys.length<=i) ⟨rfl,rfl,bQ _⟩ ?_ ?_ ?_
 .rintro i ys H' aq ⟨rfl,_,a1⟩;exact⟨aT.of c8,a1⟩
 .rintro i bg ys H' ae af a4 ⟨rfl,au,a1⟩ k1 k2;obtain⟨e,bk⟩:∃e,es[i]?=some e:=⟨_,cY (by have:=(dI.mp a4).1;omega)⟩
  obtain⟨v,ev,a5⟩:=dh.get bk;rw[a4]at ev;cases ev;refine⟨_,rfl,_,rfl,e,D,_,rfl,c6,a5,cW e (dN bk),_,rfl,?_⟩;rw[if_pos rfl,yp];have Y:((es.take (i+1)).filter λe=>!eE (fs.map aN) e)=((es.take i).filter λe=>!eE (fs.map aN) e)++(if (!eE (fs.map aN) e)=aC then [e] else []):=by
   rw[eL,bk,lE];cases N:eE (fs.map aN) e<;>simp[N]
  cases a6:eE (fs.map aN) e with
  |false=>
   refine cU ⟨_,rfl,k1 _ _ ⟨rfl,?_,by rw[eW,li];omega⟩⟩;rw[Y,a6];exact IsL.snoc a5 au
  |true=>
   refine cG (k2 _ ⟨rfl,?_,VF⟩);rw[Y,a6];simpa using au
 rintro ys H' ⟨rfl,au,a1⟩;rw[d1,dY (bQ _)]at au;intro b1 c9;have ca:=ai.trans (aM.upd (o:=.lst ys) c9);have di:=aM.upd (o:=.lst ys) c9;have ak:aI aj b1 (.lst ys) b1=some (.lst ys):=aV;generalize aI aj b1 (.lst ys)=dj at ca ak di ⊢;refine⟨cQ rfl,λcb dk=>?_⟩;have cc:=aM.upd (o:=.lst []) dk;refine⟨b1,cb,ys,rfl,rfl,cc _ _ ak,aV,_,rfl,?_⟩;have bl:=au.length;have am:=ca.trans cc;generalize aI dj cb (.lst [])=b2 at am ⊢;by_cases r:es.filter (λe=>!eE (fs.map aN) e)=[]
 rotate_left
 .have u:ys.isEmpty=aJ:=by
   cases ys with
   |nil=>exact absurd (List.length_eq_zero_iff.mp bl.symm) r
   |cons _ _=>rfl
  rw[u];refine cU ⟨cQ rfl,λbx dm=>df ?_ bx b2 am dm⟩;rw[Bool.eq_false_iff];intro h;apply r;rw[r3];intro e m;have:=j9.mp h _ (List.mem_map_of_mem m);simp[show eE (fs.map aN) e=aC from this]
 rw[r]at bl;cases List.length_eq_zero_iff.mp bl;have al:es.all (eE (fs.map aN))=aC:=j9.mpr λe m=>by
  have:=r3.mp r e m;simpa using this
 obtain⟨bm,cd⟩:=rI al;generalize lW es=ys at bm cd;obtain⟨dq,dr⟩:=q ys bm cd;have ds:b2 a8=some (.lst (ys.map V.str)):=by rw[am _ _ ap,wF (show IsL H (ys.map aH.str) us by rw[←bm];exact bb)]
 have bn:=am _ _ b9;have ce:=IsL.same am _ _ ba;refine cG (dg _ _ _ ?_);refine rF λf3 dt=>?_;refine⟨_,rfl,lf,rfl,⟨_,aT.of bn⟩,?_⟩;refine fP (F:=K) (xs:=vf) VF (λi ys H'=>b2=H'/\ys=((fs.take i).map ko).map V.int) ⟨rfl,rfl⟩ ?_ ?_ ?_
 .rintro i ys H' aq ⟨rfl,rfl⟩;exact⟨aT.of bn,by rw[aS,aS,dU];omega⟩
 .rintro i x ys H' ae af ar ⟨rfl,rfl⟩ k1 k2;have d7:i<vf.length:=(dI.mp ar).1;obtain⟨d,u⟩:∃d,fs[i]?=some d:=⟨_,cY VF⟩
  obtain⟨v,ev,a5⟩:=ce.get u;rw[ar]at ev;cases ev;obtain⟨c,g,e,rfl,_⟩:=jc (aa.all d (dN u));obtain⟨t,rfl,o⟩:=nE a5;refine⟨_,rfl,t,_,2,.int e,rfl,rfl,bY.of o,cE (j:=2) rfl,k1 _ _ ⟨rfl,?_⟩⟩;rw[eL,u,dP,dP];rfl
 rintro vs H' ⟨rfl,rfl⟩;rw[bc,dY (bQ _)];intro cf du;have av:=aM.upd (o:=.lst ((fs.map ko).map V.int)) du;refine⟨cf,_,rfl,aT.of aV,?_⟩;have cg:=am.trans av;generalize aI b2 cf (.lst ((fs.map ko).map V.int))=ch at cg av ⊢;have dv:=av _ _ ds;have ci:=av _ _ bn;have dw:=IsL.same av _ _ ce;refine⟨_,rfl,lf,rfl,⟨_,aT.of ci⟩,?_⟩;refine fP (F:=K) (xs:=vf) VF (λi vs H'=>ch=H'/\vs=(((fs.take i).filter λd=>decide (aN d∈ys)).map ko).map V.int/\vs.length<=i) ⟨rfl,rfl,bQ _⟩ ?_ ?_ ?_
 .rintro i vs H' aq ⟨rfl,rfl,ap⟩;exact⟨aT.of ci,ap⟩
 .rintro i bg vs H' ae af cj ⟨rfl,rfl,ap⟩ k1 k2;obtain⟨d,u⟩:∃d,fs[i]?=some d:=by
   have:=(dI.mp cj).1;exact⟨_,cY VF⟩
  obtain⟨v,ev,a5⟩:=dw.get u;rw[cj]at ev;cases ev;obtain⟨c,ck,e,rfl,_⟩:=jc (aa.all d (dN u));obtain⟨t,rfl,o⟩:=nE a5;have Y:(((fs.take (i+1)).filter λd=>decide (aN d∈ys)).map ko)=(((fs.take i).filter λd=>decide (aN d∈ys)).map ko)++(if c∈ys then [e] else []):=by
   rw[eL,u,lE,dP];by_cases r:c∈ys
   .rw[if_pos r];have:decide (aN (.tup [.str c,.int ck,.int e])∈ys)=aC:=decide_eq_true r;simp only[uI,nS,this,if_true,uE,dW,lF];rfl
   .rw[if_neg r];have:decide (aN (.tup [.str c,.int ck,.int e])∈ys)=aJ:=decide_eq_false r;simp only[uI,nS,this,uE,lF];rfl
  refine⟨_,rfl,t,_,0,.str c,rfl,rfl,bY.of o,cE (j:=0) rfl,_,rfl,a8,_,rfl,.inl (aT.of dv),rfl,rA ys,_,rfl,?_⟩;rw[if_neg fX,rM];cases N:decide (c∈ys) with
  |true=>
   have r:c∈ys:=of_decide_eq_true N;rw[if_pos r]at Y;refine cU ⟨_,rfl,t,_,2,.int e,rfl,rfl,bY.of o,cE (j:=2) rfl,k1 _ _ ⟨rfl,?_,by rw[eW,li];omega⟩⟩;rw[Y,dP];rfl
  |false=>
   have r:c∉ys:=of_decide_eq_false N;rw[if_neg r]at Y;refine cG (k2 _ ⟨rfl,?_,VF⟩);rw[Y,kG]
 rintro vs H' ⟨rfl,rfl,a1⟩;rw[bc,dY (bQ _)];intro cm dy;have cn:=aM.upd (o:=.lst (((fs.filter λd=>decide (aN d∈ys)).map ko).map V.int)) dy;refine⟨cm,_,rfl,aT.of aV,?_⟩;have an:=cg.trans cn;generalize aI ch cm (.lst (((fs.filter λd=>decide (aN d∈ys)).map ko).map V.int))=co at an cn ⊢;refine⟨_,_,rfl,rfl,.inl ⟨VD,VD⟩,_,rfl,_,_,rfl,rfl,_,rfl,?_⟩;change if decide (2*kn fs ys<=kq fs)=aC then _ else _
 by_cases b3:2*kn fs ys<=kq fs
 .rw[decide_eq_true b3];exact cU ⟨cQ rfl,λdz dF=>dq b3 dz co an dF⟩
 rw[decide_eq_false b3];obtain⟨cp,cq⟩:=dr b3;refine cG (dt _ _ _ ?_);have cr:1<=k.length:=by
  cases k with
  |nil=>exact absurd rfl bw
  |cons c zs=>simp
 have dK:k.Nodup:=xh.mpr λc=>by
  by_cases m:c∈k
  .exact(b0 c m).2
  .rw[List.count_eq_zero_of_not_mem m];omega
 have sub:∀c∈k,c∈fs.map aN:=λc m=>(b0 c m).1;have cs:hgt B=aC:=by unfold hgt;rw[decide_eq_true bj.1,decide_eq_true bj.2];rfl
 have dS:fR a3 co:=fZ.keep tb an;refine⟨_,rfl,_,rfl,_,rfl,_,_,_,rfl,pl,l,fs,gs,k,B,rfl,L.same an,rfl,an _ _ a9,cr,c7,dK,sub,rfl,cs,dS,λct kS bo KB dT f4 dV shr=>?_⟩;have b4:fV a3 H bo:=λb o n e=>KB b o n (an _ _ e);have e0:=jz.keepB b4 tb M;obtain⟨f5,e1,_⟩:=id tb;have cu:∀{b:aB} {o:dX},H b=some o->(∀ps,o≠.tbl ps)->b≠a3:=λe n c=>by rw[c,e1]at e;exact n _ (gK e).symm
 have e2:=b4 _ _ (cu bd (λ_ c=>by cases c)) bd;have e3:=b4 _ _ (cu a9 (λ_ c=>by cases c)) a9;refine⟨_,rfl,p,dx,F,rfl,e2,bO.no _ VE,_,rfl,p,dp,lw,pl,fs,gs,pu,wk,rfl,e0,λaw ax e4 e5=>?_⟩;have a7:=aM.upd (o:=.dK ax) e4;have cv:aI bo aw (.dK ax) aw=some (.dK ax):=aV;generalize aI bo aw (.dK ax)=ao at a7 cv ⊢;have cw:=a7 _ _ e3;have e6:=a7 _ _ dV;have e7:=e5.same (o2 a7);have cx:gA ao kS k (jQ (bU fs gs B) k):=gA.same (o2 a7) shr;have e8:Mt22.sea∉k:=λm=>by
  obtain⟨d,e9,e⟩:=cP.mp (sub _ m);obtain⟨c,g,f6,rfl,r,_⟩:=jc (aa.all d e9);have:c=Mt22.sea:=e;subst this;exact absurd r VE
 have bp:=(DR aa d0 cs cr c7 e8).ln VE;have eb:fV a3 H ao:=λb o n e=>a7 _ _ (b4 b o n e);have ec:fR a3 ao:=fZ.keep dT a7;generalize jQ (bU fs gs B) k=a0 at cx bp cp cq;refine iJ (σ':=[some (.ref p),some (.ref lf),some (.ref l),some (.int B),some (.ref a8),some (.ref pl),some (.ref D),some (.ref ah),some (.int (fs.map ko).sum),some (.ref ct),some (.ref aw),aG]) rfl ?_;refine⟨_,rfl,l,rfl,⟨_,aT.of cw⟩,?_⟩;refine fP (F:=K) (xs:=k.map V.str) (by rw[aS];omega) (λi ys H'=>ao=H'/\ys=((k.take i).filter (gI pu a0)).map V.str/\ys.length<=i) ⟨rfl,rfl,bQ _⟩ ?_ ?_ ?_
 .rintro i ys H' aq ⟨rfl,rfl,a1⟩;exact⟨aT.of cw,a1⟩
 .rintro i bg ys H' ae af a4 ⟨rfl,rfl,a1⟩ k1 k2;obtain⟨c,ag⟩:∃y,k[i]?=some y:=by
   have:=(dI.mp a4).1;rw[aS]at this;exact⟨_,cY this⟩
  rw[dO,ag]at a4;cases a4;have U:=dN ag;have Y:((k.take (i+1)).filter (gI pu a0))=((k.take i).filter (gI pu a0))++(if gI pu a0 c=aC then [c] else []):=by
   rw[eL,ag,lE];cases N:gI pu a0 c<;>simp[N]
  obtain⟨a,ea,ed⟩:=e7.val (sub c U);obtain⟨b,ee,ef⟩:=cx.val U;refine⟨_,rfl,_,rfl,aw,a,rfl,?_,_,rfl,_,rfl,ct,b,rfl,?_,_,_,rfl,_,_,_,_,ed,ef,(lp c (sub c U)).1,(lp c (sub c U)).2,(bp c U).1,(bp c U).2,_,rfl,?_⟩
  .exact .inl ⟨ax,Sum.inr c,.inl cv,rfl,ea.symm⟩
  .exact .inl ⟨kS,Sum.inr c,.inl e6,rfl,ee.symm⟩
  change if gI pu a0 c=aC then _ else _
  cases N:gI pu a0 c with
  |true=>
   refine cU ⟨_,rfl,k1 _ _ ⟨rfl,?_,by rw[eW,li];omega⟩⟩;rw[Y,if_pos N,dP];rfl
  |false=>
   refine cG (k2 _ ⟨rfl,?_,VF⟩);rw[Y,N];simp
 rintro f7 H' ⟨rfl,rfl,a1⟩;rw[aS,dY (bQ _)];intro b5 eg;have cy:=aM.upd (o:=.lst ((k.filter (gI pu a0)).map V.str)) eg;have bq:aI ao b5 (.lst ((k.filter (gI pu a0)).map V.str)) b5=some (.lst ((k.filter (gI pu a0)).map V.str)):=aV;generalize aI ao b5 (.lst ((k.filter (gI pu a0)).map V.str))=eh at cy bq ⊢;refine⟨_,rfl,cQ rfl,λcz ei=>?_⟩;have b6:=aM.upd (o:=.lst []) ei;refine⟨.lst ((k.filter (gI pu a0)).map aH.str),.lst [],⟨b5,_,rfl,b6 _ _ bq,be _ _⟩,⟨cz,[],rfl,aV,rfl⟩,zn _,rfl,_,rfl,?_⟩;have br:=b6 _ _ bq;generalize aI eh cz (.lst [])=b7 at b6 br ⊢;have A:=cy.trans b6;have cI:fV a3 H b7:=λb o n e=>A _ _ (eb b o n e);have cL:fR a3 b7:=fZ.keep ec A;cases as:k.filter (gI pu a0) with
 |nil=>
  refine cG ⟨cQ rfl,λbs bt=>cq (λc m=>?_) bs b7 cI cL bt⟩;have:=r3.mp as c m;simpa using this
 |cons c zs=>
  rw[as]at br;refine cU ⟨_,rfl,_,_,0,.str c,rfl,rfl,aT.of br,cE (j:=0) rfl,cQ rfl,λbs bt=>?_⟩;obtain⟨i,ej,ek,el⟩:=zH as;exact cp i c ej ek el bs b7 cI cL bt
theorem Db(g:p4 a)(i:p4 b):p4 (nw a b):=λvs H Q c E d e f h=>h.imp (g vs H Q c E d e f) (i vs H Q c E d e f)
def s0(mg:aA->Option aE)(I C b c d a e f:aB):cA:=nw (wc mg I C c) (nw (tO I C d a) (we I C b a e f))
structure rZ (mg:aA->Option aE) (I cW cM cV cO cS:aB):Prop where
 hCM:mg "Moot"=some (.ref I)
 hW:mg "NoWish"=some (.ref cW)
 hM:mg "TooMany"=some (.ref cM)
 hV:mg "NoVoice"=some (.ref cV)
 hO:mg "Outvoted"=some (.ref cO)
 hS:mg "Short"=some (.ref cS)
theorem Av(T:Txt K mg C)(TB:kJ K mg base "lists_of_places" i f)(h:rZ mg I a b c d e):bA P w K mg base 13 "_law_moved" ["_law_moot","_law_wish_here","_law_height_here","_law_yes"] (qw (s0 mg I C f a b c d e) mg I):=by
 obtain⟨k,l,g,m,n,o,p,j,q,r,s,t⟩:=T.Wb;rw[h.hCM]at g;cases g;exact KR T h.hCM (Db PR (Db PQ PP)) (j.mcB oU ((Um T h.hCM h.hW).or ((Ul T h.hCM h.hM h.hV).or (Uk T TB h.hCM h.hV h.hO h.hS))))
theorem Nz(T:Txt K mg C)(TB:kJ K mg base "lists_of_places" c a)(b:mg "Moot"=some (.ref I)):bA P w K mg base 11 "_law_due" ["_law_moot","_law_fields_here","_law_wish_here","_law_height_here","_law_yes"] (nw (qu K I C) (qv I C a)):=
 T.q03.fcB kX ((MD T TB b).or (MC T TB b))
noncomputable def n6(a:aA):aH:=.tup [.str a,.int 0,.int 1]
def DJ(K:bI):cA:=sp1 λx H Q=>lv K H x/\∀H',Q (.bl aC) H'
theorem MB(T:Txt K mg C)(TB:kJ K mg base "lists_of_places" c7 bc)(h:rZ mg I b9 y L ba bb):bA P w K mg base 14 "_law_nine" ["_law_script"] (DJ K):=by
 obtain⟨dT,c8,ac,dV,e0,e1,e2,e3,e4,e5,e6,e7⟩:=T.Wb;rw[h.hCM]at ac;cases ac;have ac:=h.hCM;refine T.q05.fc vY jN (λf e8 A outer s H vs Q E n h'=>?_);obtain⟨x,rfl,⟨a,ns,rfl,ce,cf⟩,q⟩:=h';have cg:lv K H (.ref a):=⟨a,ns,O,ce,cf⟩
 have e9:=gB;have ea:=j7 n;refine⟨_,(bB (cH (i:=1) vY.nd O VG (qg (Ac (K:=K) O) (bZ (zA T) (n.mono VD) (aF (bZ (zB T) (n.mono VD) (aF (pv 0) (aF aQ aL))) aL)) qm (ql aQ))) (bB (mh (i:=2) vY.nd O ["_law_name"] 1 [] O (eV (pv 1)) (λR=>dJ (i:=0) (VE:eG (["_law_name"]:List aA)) O VG) (eN VD) (λR=>gN) (λR=>(jd (aF (pv 0) (aF aQ (aF aQ aL)))))) (bB (cH (i:=3) vY.nd O VG (sV ac (Ha T h.hCM) (n.mono VD) (aF (sV T.gb (zd T) (n.mono VD) (aF (pv 2) (aF (eA (aF (jd (aF gE (aF gE (aF (cF (jJ (K:=K) O) (pv 1) aQ (λ_ _=>O)) (aF aQ (aF aQ (aF jp aL))))))) aL)) aL))) (aF (hU (n3 O) O T.q21 lS (aF (fM ["_law_name"] 1 [] O (eV (pv 1)) (λR=>dJ (i:=0) (VE:eG (["_law_name"]:List aA)) O VG) (eN VD) (λR=>gN) (λR=>(jd (aF (pv 0) (aF aQ aL))))) aL)) aL)))) (bB (fD (gU.pt (ju (eU (o8 n.units) (bZ (Av T TB h) (n.mono VD) (aF (pv 3) (aF (pv 1) (aF aQ (aF (eA (aF jp aL)) aL))))) (eA (aF gE (aF jp aL))) (eI _)) (kg (eU (o8 n.units) (bZ (Av T TB h) (n.mono VD) (aF (pv 3) (aF (pv 1) (aF aQ (aF (eA aL) aL))))) (eA (aF gE (aF jp aL))) (eI _))))) (bF (cJ m5)) fC) (bF (cJ (jh (kv (vc n.units) (bZ (Av T TB h) (n.mono VD) (aF (pv 3) (aF (pv 1) (aF aQ (aF (pv 1) aL))))) (eA (aF gE (aF jp aL))) (eI _)) (jS (kv (vc n.units) (ki c8 (Gs T h.hCM) (n.mono VD) (pv 3)) (eA aL) (eI _)))))))))),?_⟩;refine rF λeb ch=>?_;refine⟨_,O,_,_,O,0,cg,O,VD,λci ec=>?_⟩;refine⟨_,O,ci,O,λae ln z ar ed cj ee ck=>?_⟩;refine⟨_,O,ln,_,O,aT.of ck,λr cm=>?_⟩;rw[show(9:Int)=((9:Nat):Int) from O,z5,←uO];have ef:=ar.l1;have af:(ae.take 9).Nodup:=ar.nd.sublist (ur _ _);have ag:∀g∈ae.take 9,jq g=aC:=λg m=>ar.nm g (pz m);have cn:(ae.take 9).length=9:=by rw[dU];omega
 generalize ae.take 9=zs at af ag cn;have co:=aM.upd (o:=.lst (zs.map V.str)) cm;have bd:=cj.trans co;have ah:aI z r (.lst (zs.map V.str)) r=some (.lst (zs.map V.str)):=aV;generalize aI z r (.lst (zs.map V.str))=H2 at bd ah ⊢;refine iJ (σ':=[some (.ref a),some (.ref r),aG,aG]) O ?_;refine⟨_,O,r,O,⟨_,aT.of ah⟩,?_⟩;refine fP (F:=K) (xs:=zs.map V.str) (by rw[aS];omega) (λi ys H'=>aM H2 H'/\IsL H' ((zs.take i).map n6) ys) ⟨aM.refl _,O⟩ ?_ ?_ ?_
 .rintro i ys H' cp ⟨S,N⟩;have:=N.length;rw[aS,dU]at this;exact⟨aT.of (S _ _ ah),VF⟩
 .rintro i cq ys H' cr cs a1 ⟨S,N⟩ k1 k2;rw[dO]at a1;obtain⟨g,as,rfl⟩:=kD.mp a1;refine⟨_,O,cQ O,λt D=>k1 _ _ ⟨S.trans (aM.upd D),?_⟩⟩;rw[eL,as,dP];exact IsL.snoc (show bK _ (n6 g) (.ref t) from⟨t,_,O,aV,_,_,O,O,_,_,O,O,_,_,O,O,O⟩) (IsL.same (aM.upd D) _ _ N)
 rintro vf be ⟨ct,N⟩;rw[aS,dY (bQ _)]at N;intro lf bf;have au:=ct.trans (aM.upd (o:=.lst vf) bf);have bg:aI be lf (.lst vf) lf=some (.lst vf):=aV;have hif:=IsL.same (aM.upd (o:=.lst vf) bf) _ _ N;generalize aI be lf (.lst vf)=ai at au bg hif ⊢;have eg:=bd.trans au;have bh:=au _ _ ah;refine iJ (σ':=[some (.ref a),some (.ref r),some (.ref lf),aG]) O ?_;refine ch _ _ _ ?_;refine qf λeh cu=>?_;obtain⟨u,bi⟩:∃g,zs[0]?=some g:=⟨_,cY VF⟩
 have a2:(zs.map n6).map aN=zs:=by
  rw[fS];exact List.map_id_fun'▸l4 λg _=>O
 refine⟨_,O,_,O,r,_,0,.str u,O,O,aT.of bh,cE (j:=0) (by rw[dO,bi];rfl),?_⟩;refine⟨cQ O,λt D=>⟨cQ O,λld cv=>?_⟩⟩;have cw:=aM.upd (o:=.tup [.str "dk",.str "sea",.str u,.int 0,.int 1,.non]) D;have bj:=aM.upd (o:=.lst [.ref t]) cv;have a3:=cw.trans bj;have bk:=bj _ _ (aV (H:=ai) (a:=t) (o:=.tup [.str "dk",.str "sea",.str u,.int 0,.int 1,.non]));have bl:aI (aI ai t (.tup [.str "dk",.str "sea",.str u,.int 0,.int 1,.non])) ld (.lst [.ref t]) ld=some (.lst [.ref t]):=aV;intro p dx np bm ei;generalize aI (aI ai t (.tup [.str "dk",.str "sea",.str u,.int 0,.int 1,.non])) ld (.lst [.ref t])=bn at a3 bk bl np bm ⊢;have a4:aM bn (aI (aI bn dx (.own p)) p (.ins C dx [])):=λb o e=>by
  rw[bD (dC e np),bD (dC e bm)];exact e
 have bo:=dN bi;have av:pQ (zs.map n6) 12:=⟨by rw[aS];omega,by rw[aS];omega,λd m=>by
  obtain⟨g,a5,rfl⟩:=cP.mp m;exact Cw (ag g a5) VD VD VD VD,by rw[a2];exact af⟩
 have bp:w0 ("sea" :: (zs.map n6).map aN) [.tup [.str "dk",.str "sea",.str u,.int 0,.int 1,.non]] 10:=⟨bQ 1,by show 1<=10;omega,λd m=>by
  cases fG.mp m;exact Dp VE eJ (by rw[a2];exact eY _ bo) (λe=>by have:=ag _ bo;rw[←e]at this;exact absurd this VE) O O O,List.pairwise_singleton _ _⟩
 have okf:=Bn av VD;have okd:=Cx bp VD;have cx:gT (.lst (zs.map n6))=aC:=nD (λd m=>vL (av.all d m)) (by rw[aS];omega);have cy:gT (.lst [.tup [.str "dk",.str "sea",.str u,.int 0,.int 1,.non]])=aC:=nD (λd m=>zI av.all (bp.all d m)) (by show 1<=_;omega);refine⟨_,_,_,O,p,dx,zs.map n6,_,O,aV,⟨lf,vf,O,a4 _ _ (a3 _ _ bg),IsL.same (a3.trans a4) _ _ hif⟩,⟨ld,_,O,a4 _ _ bl,show IsL _ [.tup [.str "dk",.str "sea",.str u,.int 0,.int 1,.non]] [.ref t] from⟨_,_,O,⟨t,_,O,a4 _ _ bk,_,_,O,O,_,_,O,O,_,_,O,O,_,_,O,O,_,_,O,O,_,_,O,O,O⟩,O⟩⟩,cx,cy,okf,okd,λa6 bq fr=>⟨O,?_⟩⟩;have cz:aM ai a6:=λb o e=>fr b o (a4 _ _ (a3 _ _ e)) (dC (a3 _ _ e) np);have a7:=cz _ _ bh;generalize ej:([.tup [.str "dk",.str "sea",.str u,.int 0,.int 1,.non]]:List aH)=gs at bq;refine⟨_,O,r,O,⟨_,aT.of a7⟩,?_⟩;refine fP (F:=K) (xs:=zs.map V.str) (by rw[aS];omega) (λi ys H'=>aM a6 H'/\gC H' ys (iT (zs.take i) λ_=>5)) ⟨aM.refl _,gC.nil _⟩ ?_ ?_ ?_
 .rintro i ys H' cp ⟨S,U⟩;have:=U.len;unfold iT at this;rw[aS,dU]at this;exact⟨aT.of (S _ _ a7),VF⟩
 .rintro i cq ys H' cr cs a1 ⟨S,U⟩ k1 k2;rw[dO]at a1;obtain⟨g,as,rfl⟩:=kD.mp a1;refine⟨_,O,cQ O,λt D=>k1 _ _ ⟨S.trans (aM.upd D),?_⟩⟩;unfold iT;rw[eL,as,dP];exact gC.snoc (k:=Sum.inr g) U D
 rintro aw cI ⟨cL,U⟩;rw[aS,dY (bQ _)]at U;intro lp cM;have ax:=aM.upd (o:=.lst aw) cM;refine⟨lp,aw,_,O,aT.of aV,U.same ax,by unfold iT;rw[aS];omega,?_,λa8 ay=>?_⟩
 .unfold iT;rw[fS];exact v3 (λa _ b _ e=>oG e) af
 generalize aI cI lp (.lst aw)=br at ax ay ⊢;have aj:=cL.trans ax;have ak:=aM.upd (o:=.dK (iT zs λ_=>5)) ay;have bs:aI br a8 (.dK (iT zs λ_=>5)) a8=some (.dK (iT zs λ_=>5)):=aV;have bt:a6 a8=aG:=aj.free ay;intro pm B az bu ek;generalize aI br a8 (.dK (iT zs λ_=>5))=al at ak bs az bu ⊢;have am:aM al (aI (aI al B (.own pm)) pm (.ins I B [])):=λb o e=>by
  rw[bD (dC e az),bD (dC e bu)];exact e
 have bv:aI (aI al B (.own pm)) pm (.ins I B []) pm=some (.ins I B []):=aV;generalize aI (aI al B (.own pm)) pm (.ins I B [])=el at am bv ⊢;have bw:a6 pm=aG:=(aj.trans ak).free az;refine⟨_,_,_,O,pm,B,p,a8,zs.map n6,gs,zs,λ_=>5,a6,O,bv,O,aj.trans (ak.trans am),bw,bt,bq,O,am _ _ bs,?_,λdp lw bx M cO _=>⟨O,?_⟩⟩
 .rw[a2];exact⟨O,λ_ m=>m,λ_ m=>m,λ_ _=>⟨by show(0:Int)<=5;omega,by show(5:Int)<=_;omega⟩⟩
 have bz:bx r=some (.lst (zs.map V.str)):=cO _ _ (am _ _ (ak _ _ (aj _ _ a7))) (dC a7 bw) (dC a7 bt);refine iJ (σ':=[some (.ref a),some (.ref r),some (.ref lf),some (.ref pm)]) O ?_;refine cu _ _ _ ?_;have cS:gT (.lst (zs.map aH.str))=aC:=nD (λd m=>by
  obtain⟨g,a5,rfl⟩:=cP.mp m;exact decide_eq_true (ru (ag g a5))) (by rw[aS];omega)
 obtain⟨an,F,J,en,H0,ao,bM,_⟩:=id M.ex;have aR:=bM.no ("move":aA) VE;have b0:∀{G:aD} (Y:aB) (us:List V) (es:List aH) (c:aB) (Q:aP) (E:dL),aM bx G->G Y=some (.lst us)->IsL G es us->es.length<=100->(if (es.map (eE zs)).all id=aC then y else L)=c->(∀H',aM G H'->E (.ref c) aG H')->tO I C y L [.ref pm,.ref r,.int 1,.ref Y] G Q E:=λ{G} Y us es c Q E S cT cV le cW d0=>
  ⟨pm,dp,lw,p,r,Y,zs.map n6,gs,_,[],zs,1,es,us,O,M.same S,S _ _ bz,af,λg m=>by rw[a2];exact m,VF,cS,O,cT,cV,le,λH' d1=>by rw[a2,cW];exact d0 H' d1⟩
 have a0:∀{G:aD} {l:aB} (x:aA),G l=some (.lst [.str x,.non])->bK G (.lst [.str x,.non]) (.ref l):=λx e=>⟨_,_,O,e,_,_,O,O,_,_,O,O,O⟩
 refine⟨_,O,_,O,cQ O,λY d2=>?_⟩;have b1:=aM.upd (o:=.lst [.non]) d2;refine⟨pm,an,F,_,_,_,O,b1 _ _ ao,aR,Or.inr (Or.inl (b0 Y [.non] [.non] L _ _ b1 aV ⟨_,_,O,O,O⟩ VD O λbO a9=>Or.inl ⟨"NoVoice",L,VE,h.hV,O,λb2 bR aa d3=>?_⟩))⟩;have d4:=a9.trans aa;have bV:=b1.trans (d4.trans (aM.upd (o:=.lst [.str (m4 "NoVoice"),.non]) d3));have bW:aI bR b2 (.lst [.str (m4 "NoVoice"),.non]) b2=some (.lst [.str "voice",.non]):=aV;generalize aI bR b2 (.lst [.str (m4 "NoVoice"),.non])=d5 at bV bW ⊢;refine⟨cQ O,λd6 d7=>?_⟩;have b3:=aM.upd (o:=.lst [.str "voice",.non]) d7;refine⟨_,_,a0 "voice" (b3 _ _ bW),a0 "voice" aV,O,O,_,O,cG ?_⟩;generalize aI d5 d6 (.lst [.str "voice",.non])=eo at b3 ⊢;have d8:=bV.trans b3;refine⟨_,O,_,O,cQ O,λd9 da=>?_⟩;have b4:=d8.trans (aM.upd (o:=.lst []) da);refine⟨pm,an,F,_,_,_,O,b4 _ _ ao,aR,Or.inr (Or.inl (b0 d9 [] [] y _ _ b4 aV O VD O λbO a9=>Or.inl ⟨"TooMany",y,VE,h.hM,O,λb5 c0 aa db=>?_⟩))⟩;have dc:=a9.trans aa;have c1:=b4.trans (dc.trans (aM.upd (o:=.lst [.str (m4 "TooMany"),.non]) db));have c2:aI c0 b5 (.lst [.str (m4 "TooMany"),.non]) b5=some (.lst [.str "many",.non]):=aV;generalize aI c0 b5 (.lst [.str (m4 "TooMany"),.non])=dd at c1 c2 ⊢;refine⟨cQ O,λde df=>?_⟩;have b6:=aM.upd (o:=.lst [.str "many",.non]) df;refine⟨_,_,a0 "many" (b6 _ _ c2),a0 "many" aV,O,O,_,O,cG ?_⟩;generalize aI dd de (.lst [.str "many",.non])=dg at b6 ⊢;have ap:=c1.trans b6;have dh:IsL dg (zs.map aH.str) (zs.map V.str):=by
  generalize zs=di
  induction di with
  |nil=>rfl
  |cons g zs dj=>exact⟨.str g,_,O,O,dj⟩
 have dk:((zs.map aH.str).map (eE zs)).all id=aC:=j9.mpr λb m=>by
  obtain⟨d,dm,rfl⟩:=cP.mp m;obtain⟨g,a5,rfl⟩:=cP.mp dm;exact decide_eq_true a5
 refine⟨_,O,_,O,_,O,pm,an,F,_,_,_,O,ap _ _ ao,aR,Or.inr (Or.inl (b0 r (zs.map V.str) (zs.map aH.str) y _ _ ap (ap _ _ bz) dh (by rw[aS];omega) (if_pos dk) λbO a9=>Or.inl ⟨"TooMany",y,VE,h.hM,O,λb7 c3 aa dq=>?_⟩))⟩;have dr:=a9.trans aa;have c4:=ap.trans (dr.trans (aM.upd (o:=.lst [.str (m4 "TooMany"),.non]) dq));have c5:aI c3 b7 (.lst [.str (m4 "TooMany"),.non]) b7=some (.lst [.str "many",.non]):=aV;generalize aI c3 b7 (.lst [.str (m4 "TooMany"),.non])=ds at c4 c5 ⊢;refine⟨cQ O,λdt du=>?_⟩;have b8:=aM.upd (o:=.lst [.str "many",.non]) du;refine⟨_,_,a0 "many" (b8 _ _ c5),a0 "many" aV,O,O,?_⟩;generalize aI ds dt (.lst [.str "many",.non])=ep at b8 ⊢;have c6:=c4.trans b8;refine⟨_,O,cU ?_⟩;refine⟨_,O,pm,an,F,O,c6 _ _ ao,bM.no _ VE,_,O,pm,dp,lw,p,_,gs,_,[],O,M.same c6,(λd m=>by cases m),VD,λdv dw eq er et dy dz=>?_⟩;cases(show dw=[] from dz);refine⟨cQ O,λdF dK=>?_⟩;have dS:=aM.upd (o:=.lst []) dK;exact⟨.lst [],.lst [],⟨dv,[],O,dS _ _ dy,O⟩,⟨dF,[],O,aV,O⟩,O,O,q _⟩
structure mQ (I C Tb:aB) (G:aD) (p dp lw pl:aB) (fs gs:List aH) (pu:aA->Int×Int) (wk:List aH) (B:Nat):Prop where
 M:jz I C G p dp lw pl fs gs pu wk
 tb:fR Tb G
 pk:l0 B pu (fs.map aN)
 hB:B<=10^56
 lk:wk.length<=50
 isw:∀d∈wk,rh d
structure pT (fs:List aH) (wd ud:aH) (ws:List aA) (L:Int):Prop where
 ew:wd=.lst (ws.map aH.str)
 eu:ud=.int L
 l1:1<=ws.length
 l6:ws.length<=5
 nd:ws.Nodup
 sub:∀z∈ws,z∈fs.map aN
 hL:hgt L=aC
inductive md(fs gs:List aH)(pu:aA->Int×Int)(wd ud:aH)(es:List aH):aA->Option aA->Prop
 |wish:(k6 (fs.map aN) wd=aJ\/kY ud=aJ)->md fs gs pu wd ud es "wish" aG
 |voice {ws:List aA} {L:Int}:pT fs wd ud ws L->(es.map (eE (fs.map aN))).all id=aJ->md fs gs pu wd ud es "voice" aG
 |outv {ws ys:List aA} {L:Int}:pT fs wd ud ws L->es=ys.map aH.str->(∀y∈ys,y∈fs.map aN)->2*kn fs ys<=kq fs->md fs gs pu wd ud es "outvoted" aG
 |short {ws ys:List aA} {L:Int} {i:Nat} {z:aA}:pT fs wd ud ws L->es=ys.map aH.str->(∀y∈ys,y∈fs.map aN)->¬2*kn fs ys<=kq fs->ws[i]?=some z->gI pu (jQ (bU fs gs L) ws) z=aC->(∀y∈ws.take i,gI pu (jQ (bU fs gs L) ws) y=aJ)->md fs gs pu wd ud es "short" (some z)
 |done {ws ys:List aA} {L:Int}:pT fs wd ud ws L->es=ys.map aH.str->(∀y∈ys,y∈fs.map aN)->¬2*kn fs ys<=kq fs->(∀z∈ws,gI pu (jQ (bU fs gs L) ws) z=aJ)->md fs gs pu wd ud es "done" aG
def lD:Option aA->V
 |some a=>.str a
 |none=>.non
def vw:Option aA->aH
 |some a=>.str a
 |none=>.non
def me(lw:aB)(zs:List aA)(G:aD)(v:V)(d:aH):Prop:=gT d=aC /\
 ((∃(l:aB)(a:List aA),v=.ref l/\d=.lst (a.map aH.str)/\G l=some (.lst (a.map V.str))/\l≠lw/\a.length<=7/\(a.length<=5\/∃b∈a,b∉zs\/1<a.count b))\/(∃(t:aB)(a:List aA),v=.ref t/\d=.tup (a.map aH.str)/\G t=some (.tup (a.map V.str)))\/(v=.non/\d=.non))
def q5(v:V)(d:aH):Prop:=(∃L:Int,v=.int L/\d=.int L)\/(v=.non/\d=.non)\/(v=.bl aC/\d=.bl aC)\/(v=.str "1"/\d=.str "1")
structure pZ (G:aD) (ly:aB) (us:List V) (es:List aH):Prop where
 hy:G ly=some (.lst us)
 iy:IsL G es us
 le:es.length<=100
 fe:∀e∈es,dG 30 e=aC\/∃B N,e=.dct B N
theorem q5.is(h:q5 v d)(G:aD):bK G d v:=by
 rcases h with ⟨L,rfl,rfl⟩|⟨rfl,rfl⟩|⟨rfl,rfl⟩|⟨rfl,rfl⟩<;>rfl
theorem me.is(h:me lw zs G v d):bK G d v:=by
 rcases h.2 with ⟨l,a,rfl,rfl,e,_⟩|⟨l,a,rfl,rfl,e⟩|⟨rfl,rfl⟩
 .exact⟨l,_,O,e,IsL.strs _ _⟩
 .exact⟨l,_,O,e,IsL.strs _ _⟩
 .rfl
theorem qp(t:fR a G)(e:G b=some o)(n:∀ps,o≠.tbl ps):b≠a:=λc=>by
 obtain⟨ps,d,_⟩:=t;rw[c,d]at e;exact n _ (gK e).symm
theorem me.keepB(k:fV g G G')(t:fR g G)(h:me lw zs G v d):me lw zs G' v d:=
 ⟨h.1,h.2.imp (fun⟨l,b,c,e,a,r⟩=>⟨l,b,c,e,k _ _ (qp t a (λ_ f=>by cases f)) a,r⟩) λh=>h.imp (fun⟨l,b,c,e,a⟩=>⟨l,b,c,e,k _ _ (qp t a (λ_ f=>by cases f)) a⟩) id⟩
theorem pZ.keepB(k:fV a G G')(t:fR a G)(h:pZ G b us es):pZ G' b us es:=
 ⟨k _ _ (qp t h.hy (λ_ c=>by cases c)) h.hy,IsL.sameD (vm k t) _ _ h.iy,h.le,h.fe⟩
theorem mQ.keepB(k:fV a G G')(t:fR a G')(h:mQ I C a G p dp lw pl fs gs pu wk B):mQ I C a G' p dp lw pl fs gs pu wk B:=
 ⟨h.M.keepB k h.tb,t,h.pk,h.hB,h.lk,h.isw⟩
theorem Mg{zs a:List aA}(h:∃c∈a,c∉zs\/1<a.count c):k6 zs (.lst (a.map aH.str))=aJ:=by
 cases d:k6 zs (.lst (a.map aH.str)) with
 |false=>rfl
 |true=>
  unfold k6 at d;rw[fK,fK]at d;obtain⟨⟨_,f⟩,b⟩:=d;have f:(a.map aH.str).all (eE zs)=aC:=f;obtain⟨e,g⟩:=rI f;have i:lW (a.map aH.str)=a:=(ul (λ_ _ h=>aH.str.inj h)).mp e.symm;have b:decide (lW (a.map aH.str)).Nodup=aC:=b;rw[i]at g b;have b:a.Nodup:=of_decide_eq_true b;obtain⟨c,j,h|h⟩:=h
  .exact absurd (g c j) h
  .have:=xh.mp b c;omega
theorem wE(t:fR c H)(h:lY c Q H a b):qx Q H a b:=λl H2 S n=>h l H2 (λb o _ e=>S _ _ e) (fZ.keep t S) n
theorem Qr{I C k:aB}{G:aD}{p dp lw pl lf z:aB}{fs gs es:List aH}{pu:aA->Int×Int}{wk:List aH}{B:Nat}{vf us:List V}{N H:V}{Y a0:aH}(S:mQ I C k G p dp lw pl fs gs pu wk B)(W:me lw (fs.map aN) G N Y)(U:q5 H a0)(o:pZ G z us es)(a8:G lf=some (.lst vf))(a9:IsL G fs vf) :
  ∃w x,md fs gs pu Y a0 es w x/\∀Q E,lY k Q G (.str w) (lD x)->nw (qu K I C) (qv I C k) [.ref p,.ref lf,N,H,.ref z] G Q E:=by
 have A:(Ak K G N "list" aJ\/∃(l:aB)(c:List aA),N=.ref l/\G l=some (.lst (c.map V.str))/\c.length<=100/\(c=[]\/(c≠[]/\(q4 K H "bool" aC\/(q4 K H "bool" aJ/\q4 K H "int" aJ)))))->(k6 (fs.map aN) Y=aJ\/kY a0=aJ)->∃w x,md fs gs pu Y a0 es w x/\∀Q E,lY k Q G (.str w) (lD x)->nw (qu K I C) (qv I C k) [.ref p,.ref lf,N,H,.ref z] G Q E:=λa b=>⟨_,_,.wish b,λQ E t=>.inl ⟨p,dp,lw,pl,fs,gs,pu,wk,_,_,_,_,O,S.M,a,wE S.tb t⟩⟩
 rcases W.2 with ⟨l,c,rfl,rfl,e,an,aa,ah⟩|⟨l,c,rfl,rfl,e⟩|⟨rfl,rfl⟩
 .by_cases q:c=[]
  .exact A (.inr ⟨l,c,O,e,VF,.inl q⟩) (.inl (by rw[q];rfl))
  rcases U with ⟨L,rfl,rfl⟩|⟨rfl,rfl⟩|⟨rfl,rfl⟩|⟨rfl,rfl⟩
  .have lp:tu pu (fs.map aN):=S.pk.ln (fF S.hB VE);by_cases r:s9 (fs.map aN) c L
   .refine⟨_,_,.wish ?_,λQ E t=>.inr ⟨p,dp,lw,pl,lf,l,z,fs,gs,pu,wk,vf,c,L,es,us,O,S.M,a8,a9,e,q,aa,o.hy,o.iy,o.le,o.fe,S.tb,lp,λ_=>wE S.tb t,λn=>absurd r n⟩⟩;rcases r with b|b
    .exact .inl (Mg b)
    .refine .inr ?_;show hgt L=aJ;unfold hgt;by_cases h1:-1000000<=L
     .rw[decide_eq_true h1,decide_eq_false (λh2=>b ⟨h1,h2⟩)];rfl
     .rw[decide_eq_false h1];rfl
   .have ac:c.length<=5:=ah.elim id λh=>absurd (.inl h) r;have ae:∀f∈c,f∈fs.map aN/\c.count f<=1:=λf m=>⟨rX λn=>r (.inl ⟨f,m,.inl n⟩),xA λn=>r (.inl ⟨f,m,.inr n⟩)⟩
    have ai:hgt L=aC:=by
     have:-1000000<=L/\L<=1000000:=rX λn=>r (.inr n);unfold hgt;rw[decide_eq_true this.1,decide_eq_true this.2];rfl
    have g:pT fs (.lst (c.map aH.str)) (.int L) c L:=⟨O,O,List.length_pos_iff.mpr q,ac,xh.mpr λf=>by
     by_cases m:f∈c
     .exact(ae f m).2
     .rw[List.count_eq_zero_of_not_mem m];omega,λf m=>(ae f m).1,ai⟩
    have D:∀{w:aA} {x:Option aA},md fs gs pu (.lst (c.map aH.str)) (.int L) es w x->(∀Q,lY k Q G (.str w) (lD x)->((es.map (eE (fs.map aN))).all id=aJ->qx Q G (.str "voice") .non) /\
     ∀ys,es=ys.map aH.str->(∀y∈ys,y∈fs.map aN)->(2*kn fs ys<=kq fs->qx Q G (.str "outvoted") .non) /\
     (¬2*kn fs ys<=kq fs->(∀i f,c[i]?=some f->gI pu (jQ (bU fs gs L) c) f=aC->(∀y∈c.take i,gI pu (jQ (bU fs gs L) c) y=aJ)->lY k Q G (.str "short") (.str f)) /\
     ((∀f∈c,gI pu (jQ (bU fs gs L) c) f=aJ)->lY k Q G (.str "done") .non)))->∃w x,md fs gs pu (.lst (c.map aH.str)) (.int L) es w x/\∀Q E,lY k Q G (.str w) (lD x)->nw (qu K I C) (qv I C k) [.ref p,.ref lf,.ref l,.int L,.ref z] G Q E:=λv h=>⟨_,_,v,λQ E t=>.inr ⟨p,dp,lw,pl,lf,l,z,fs,gs,pu,wk,vf,c,L,es,us,O,S.M,a8,a9,e,q,aa,o.hy,o.iy,o.le,o.fe,S.tb,lp,λn=>absurd n r,λ_=>⟨ac,h Q t⟩⟩⟩
    have inj:∀{ys T:List aA},ys.map aH.str=T.map aH.str->ys=T:=λh=>(ul (λ_ _ h=>aH.str.inj h)).mp h;cases J:(es.map (eE (fs.map aN))).all id with
    |false=>
     refine D (.voice g J) λQ t=>⟨λ_=>wE S.tb t,λys s a1=>absurd J ?_⟩
     rw[s,Bool.not_eq_false,j9];intro b m;obtain⟨d,aj,rfl⟩:=cP.mp m;obtain⟨f,ak,rfl⟩:=cP.mp aj;exact decide_eq_true (a1 f ak)
    |true=>
     obtain⟨u,a2⟩:=rI (show es.all (eE (fs.map aN))=aC by rw[←J,oE];rfl);generalize lW es=ys at u a2;by_cases M:2*kn fs ys<=kq fs
     .exact D (.outv g u a2 M) λQ t=>⟨λn=>(by rw[J]at n;cases n),λT s a1=>by cases inj (u.symm.trans s);exact⟨λ_=>wE S.tb t,λn=>absurd M n⟩⟩
     .cases af:c.filter (gI pu (jQ (bU fs gs L) c)) with
      |nil=>
       have a3:∀f∈c,gI pu (jQ (bU fs gs L) c) f=aJ:=λf m=>by
        have:=r3.mp af f m;simpa using this
       exact D (.done g u a2 M a3) λQ t=>⟨λn=>(by rw[J]at n;cases n),λT s a1=>by cases inj (u.symm.trans s);exact⟨λn=>absurd n M,λ_=>⟨λi f al a5 _=>(by have:=a3 f (dN al);rw[a5]at this;cases this),λ_=>t⟩⟩⟩
      |cons f zs=>
       obtain⟨i,a4,a6,ag⟩:=zH af;refine D (.short g u a2 M a4 a6 ag) λQ t=>⟨λn=>(by rw[J]at n;cases n),λT s a1=>?_⟩
       cases inj (u.symm.trans s);refine⟨λn=>absurd n M,λ_=>⟨λj y a7 a5 am=>?_,λa3=>(by have:=a3 f (dN a4);rw[a6]at this;cases this)⟩⟩;have:i=j:=by
        rcases uu i j with h|h|h
        .have:=am f (dN (by rw[mC h];exact a4));rw[a6]at this;cases this
        .exact h
        .have:=ag y (dN (by rw[mC h];exact a7));rw[a5]at this;cases this
       subst this;rw[a4]at a7;cases a7;exact t
  .exact A (.inr ⟨l,c,O,e,VF,.inr ⟨q,.inr ⟨⟨_,λ_=>.non,O⟩,⟨_,λ_=>.non,O⟩⟩⟩⟩) (.inr O)
  .exact A (.inr ⟨l,c,O,e,VF,.inr ⟨q,.inl ⟨_,λ_=>.bl aC,O⟩⟩⟩) (.inr O)
  .exact A (.inr ⟨l,c,O,e,VF,.inr ⟨q,.inr ⟨⟨_,λ_=>.str _,O⟩,⟨_,λ_=>.str _,O⟩⟩⟩⟩) (.inr O)
 .exact A (.inl ⟨_,.tup e,O⟩) VG
 .exact A (.inl ⟨_,.non,O⟩) VG
theorem RF(cl:rZ mg I a6 ag a7 a8 a9)(S:mQ I C D G p dp lw pl fs gs pu wk B)(W:me lw (fs.map aN) G ac M)(U:q5 T a0)(Y:pZ G aa us es)(v:md fs gs pu M a0 es r x)
 (q:r≠"done"->lY D Q G (.str r) (lD x))(as:r="done"->∀(ah:aB)(ai:List aH)(ae:aA->Int×Int)(M:aH)(G':aD),jz I C G' p dp lw ah fs ai ae (wk++[M])->rh M->l0 (1000*(B+10^30)) ae (fs.map aN)->(∀b o,G b=some o->b≠p->b≠dp->b≠lw->b≠D->G' b=some o)->fR D G'->∀l,G' l=aG->Q (.ref l) (aI G' l (.lst [.str "done",.non]))) :
  qw (s0 mg I C D a6 ag a7 a8 a9) mg I [.ref p,ac,T,.ref aa] G Q E:=by
 obtain⟨dx,F,J,bb,H0,aq,au,_⟩:=id S.M.ex;have no:=au.no ("move":aA) VE;have av:=W.is;have aw:∀{u:List aA} {L:Int},pT fs M a0 u L->∃l,ac=.ref l/\T=.int L/\G l=some (.lst (u.map V.str))/\l≠lw:=λ{u L} g=>by
  have ax:T=.int L:=by have:=U.is G;rw[g.eu]at this;exact this
  rcases W.2 with ⟨l,ay,s,f,e,aj,_⟩|⟨l,ay,s,f,e⟩|⟨s,f⟩
  .rw[g.ew]at f;cases(ul (λ_ _ h=>aH.str.inj h)).mp (aH.lst.inj f);exact⟨l,s,ax,e,aj⟩
  .rw[g.ew]at f;cases f
  .rw[g.ew]at f;cases f
 have af:∀{u:List aA} {L:Int},pT fs M a0 u L->((es.map (eE (fs.map aN))).all id=aJ->lY D Q G (.str "voice") .non)->(∀ys,es=ys.map aH.str->(∀y∈ys,y∈fs.map aN)->(2*kn fs ys<=kq fs->lY D Q G (.str "outvoted") .non) /\
   (¬2*kn fs ys<=kq fs->(∀i w,u[i]?=some w->gI pu (jQ (bU fs gs L) u) w=aC->(∀y∈u.take i,gI pu (jQ (bU fs gs L) u) y=aJ)->lY D Q G (.str "short") (.str w)) /\
    ((∀w∈u,gI pu (jQ (bU fs gs L) u) w=aJ)->r="done")))->qw (s0 mg I C D a6 ag a7 a8 a9) mg I [.ref p,ac,T,.ref aa] G Q E:=λ{u L} g az ak=>by
  obtain⟨l,rfl,rfl,aR,aj⟩:=aw g;refine⟨p,dx,F,_,_,_,O,aq,no,Or.inr (Or.inr ⟨p,dp,lw,pl,l,aa,fs,gs,pu,wk,u,L,es,us,B,O,S.M,aR,aj,g.l1,g.l6,g.nd,g.sub,g.hL,Y.hy,Y.iy,Y.le,S.tb,S.pk,S.hB,S.lk,λa H' a1=>?_,λys s f=>⟨λA H' k t=>?_,λA=>⟨λi w al a2 am d H' k t b0=>?_,λa3 ah ai ae b1 c H' b2 b3 b4 b5 b6=>?_⟩⟩⟩)⟩
  .exact .inl ⟨"NoVoice",a7,VE,cl.hV,O,λH H2 z n=>az a H H2 (λb o _ e=>z _ _ (a1 _ _ e)) (fZ.keep S.tb (a1.trans z)) n⟩
  .exact .inl ⟨"Outvoted",a8,VE,cl.hO,O,λH H2 z n=>(ak ys s f).1 A H H2 (λb o an e=>z _ _ (k b o an e)) (fZ.keep t z) n⟩
  .exact .inr ⟨a9,d,w,cl.hS,O,O,b0,λH H2 z n=>((ak ys s f).2 A).1 i w al a2 am H H2 (λb o an e=>z _ _ (k b o an e)) (fZ.keep t z) n⟩
  .exact λH n=>as (((ak ys s f).2 A).2 a3) ah ai ae b1 H' b2 b3 b4 b5 b6 H n
 have inj:∀{ys a4:List aA},ys.map aH.str=a4.map aH.str->ys=a4:=λh=>(ul (λ_ _ h=>aH.str.inj h)).mp h;have all1:∀{ys:List aA},es=ys.map aH.str->(∀y∈ys,y∈fs.map aN)->(es.map (eE (fs.map aN))).all id≠aJ:=λ{ys} s f=>by
  rw[s,ne_eq,Bool.not_eq_false,j9];intro b m;obtain⟨d,b7,rfl⟩:=cP.mp m;obtain⟨w,b8,rfl⟩:=cP.mp b7;exact decide_eq_true (f w b8)
 cases v with
 |wish b=>
  refine⟨p,dx,F,_,_,_,O,aq,no,Or.inl ⟨p,dp,lw,pl,fs,gs,pu,wk,_,_,_,M,a0,O,S.M,av,W.1,U.is G,b,λH' a1=>.inl ⟨"NoWish",a6,VE,cl.hW,O,λH H2 z n=>?_⟩⟩⟩;exact q VE H H2 (λb o _ e=>z _ _ (a1 _ _ e)) (fZ.keep S.tb (a1.trans z)) n
 |voice g b9=>exact af g (λ_=>q VE) λys s f=>absurd b9 (all1 s f)
 |@outv u ys L g N a5 A=>
   refine af g (λn=>absurd n (all1 N a5)) λa4 s f=>?_;cases inj (N.symm.trans s);exact⟨λ_=>q VE,λn=>absurd A n⟩
 |@short u ys L i w g N a5 A ao ar am=>
   refine af g (λn=>absurd n (all1 N a5)) λa4 s f=>?_;cases inj (N.symm.trans s);refine⟨λn=>absurd n A,λ_=>⟨λj y ap a2 ba=>?_,λa3=>(by have:=a3 w (dN ao);rw[ar]at this;cases this)⟩⟩;have:i=j:=by
    rcases uu i j with h|h|h
    .have:=ba w (dN (by rw[mC h];exact ao));rw[ar]at this;cases this
    .exact h
    .have:=am y (dN (by rw[mC h];exact ap));rw[a2]at this;cases this
   subst this;rw[ao]at ap;cases ap;exact q VE
 |@done u ys L g N a5 A a3=>
   refine af g (λn=>absurd n (all1 N a5)) λa4 s f=>?_;cases inj (N.symm.trans s);exact⟨λn=>absurd n A,λ_=>⟨λi w al a2 _=>(by have:=a3 w (dN al);rw[a2]at this;cases this),λ_=>O⟩⟩
theorem AF:∀{zs:List aA} {g:aA},g∉zs->fE (iT zs c) (Sum.inr g)=aG
 |[],_,_=>rfl
 |z::zs,g,m=>by
  have h1:¬z=g:=λe=>m (by rw[e];exact eJ);have:=AF (c:=c) (zs:=zs) (g:=g) (λh=>m (eY _ h));unfold fE iT at this ⊢;rw[dW,List.find?_cons_of_neg (by simp[h1])];exact this
theorem NW(h:∀a∈zs,c a=c' a):iT zs c=iT zs c':=by
 unfold iT;exact l4 λa m=>by rw[h a m]
theorem MS(m:g∉zs):jM (iT zs c) (Sum.inr g) (.int b)=iT (zs++[g]) λa=>if a=g then b else c a:=by
 rw[Cf _ (AF m),NW (c':=λa=>if a=g then b else c a) (λa d=>by simp only[if_neg (show ¬a=g from λe=>m (e▸d))])];unfold iT;rw[dP,List.map_singleton];simp only[if_true]
theorem Te:(10:Int)^(12:Int).toNat=1000000000000:=VD
theorem Sd{A B:Prop}(h:b=aJ)(a:B):if b=aC then A else B:=by
 subst h;exact cG a
theorem Ma(M:jz I C G p dp lw pl fs gs pu wk)(e:∀d∈wk,rh d):dG 30 (Ep (fs.map aN) gs pu wk)=aC:=by
 have L:∀{N:List aH},(∀d∈N,dG 28 d=aC)->dG 29 (.lst N)=aC:=λh=>vS h
 refine x0 λd m=>?_;rcases eM.mp m with rfl|m
 .exact L λd m=>by
   obtain⟨n,a,b,c,r,s,rfl,_,_,_,_,_,_,f⟩:=jB ((iE M.lnd).2.all d m);cases s with
   |non=>rfl
   |int i=>rfl
   |_=>cases f
 rcases eM.mp m with rfl|m
 .exact L λd m=>by
   obtain⟨g,_,rfl⟩:=cP.mp m;rfl
 cases fG.mp m;refine L λd m=>?_;obtain⟨j,h,c,rfl,_⟩:=e d m;have:iR 26 (j.map aH.str)=aC:=vS λd m=>by
  obtain⟨g,_,rfl⟩:=cP.mp m;rfl
 simp[dG,iR,this]
theorem Sp(e:0<=i)(h1:i<4):∃v:V,kU ([a,b,c,d]:List V) i=some v/\(v=a\/v=b\/v=c\/v=d):=by
 obtain⟨k,rfl⟩:=kC e;have f:k<4:=VF
 match k,f with
 |0,_=>exact⟨a,cE O,.inl O⟩
 |1,_=>exact⟨b,cE O,.inr VG⟩
 |2,_=>exact⟨c,cE O,.inr (.inr VG)⟩
 |3,_=>exact⟨d,cE O,.inr (.inr (.inr O))⟩
theorem So(f:0<=i)(h1:i<5):∃v:V,kU ([a,b,c,d,e]:List V) i=some v/\(v=a\/v=b\/v=c\/v=d\/v=e):=by
 obtain⟨k,rfl⟩:=kC f;have g:k<5:=VF
 match k,g with
 |0,_=>exact⟨a,cE O,.inl O⟩
 |1,_=>exact⟨b,cE O,.inr VG⟩
 |2,_=>exact⟨c,cE O,.inr (.inr VG)⟩
 |3,_=>exact⟨d,cE O,.inr (.inr (.inr VG))⟩
 |4,_=>exact⟨e,cE O,.inr (.inr (.inr (.inr O)))⟩
theorem RE(a:0<=i)(h1:i<7):∃v d,kU ([.str "nosuchxx",.non,.str "sea",.int 5,.ref a1,.ref a2,.ref a4]:List V) i=some v/\(dG 30 d=aC\/∃B N,d=.dct B N)/\∀G:aD,G a1=some (.lst [.str s])->G a2=some (.dK [])->G a3=some (.lst [])->G a4=some (.tup [.str s,.ref a3])->bK G d v:=by
 obtain⟨k,rfl⟩:=kC a;have b:k<7:=VF
 match k,b with
 |0,_=>exact⟨_,.str "nosuchxx",cE O,.inl O,λ_ _ _ _ _=>rfl⟩
 |1,_=>exact⟨_,.non,cE O,.inl O,λ_ _ _ _ _=>rfl⟩
 |2,_=>exact⟨_,.str "sea",cE O,.inl O,λ_ _ _ _ _=>rfl⟩
 |3,_=>exact⟨_,.int 5,cE O,.inl O,λ_ _ _ _ _=>rfl⟩
 |4,_=>exact⟨_,.lst [.str s],cE O,.inl O,λG c _ _ _=>⟨a1,_,O,c,_,_,O,O,O⟩⟩
 |5,_=>exact⟨_,.dct [] [],cE O,.inr ⟨_,_,O⟩,λG _ e _ _=>⟨a2,[],O,e,O,O⟩⟩
 |6,_=>exact⟨_,.tup [.str s,.lst []],cE O,.inl O,λG _ _ f g=>⟨a4,_,O,g,_,_,O,O,_,_,O,⟨a3,[],O,f,O⟩,O⟩⟩
structure mP (K:bI) (a lf lw:aB) (vf:List V) (fs:List aH) (G:aD):Prop where
 scr:lv K G (.ref a)
 na:a≠lw\/∀G',lv K G' (.ref a)
 hf:G lf=some (.lst vf)
 nf:lf≠lw
 hif:IsL G fs vf
section
variable{a lf lw:aB}{vf:List V}{fs:List aH}{G G':aD}
theorem mP.same(S:aM G G')(h:mP K a lf lw vf fs G):mP K a lf lw vf fs G':=⟨h.scr.same S,h.na,S _ _ h.hf,h.nf,IsL.same S _ _ h.hif⟩
theorem mP.mv(j:G p=some (.ins u dx F))(r:G dp=some (.dK J))(t:fR i G)(w:∃us,G lw=some (.lst us))(x:∀d∈fs,jg d=aC)
 (k:∀b o,G b=some o->b≠p->b≠dp->b≠lw->b≠i->G' b=some o)(h:mP K a lf lw vf fs G):mP K a lf lw vf fs G':=by
 obtain⟨ps,s,_⟩:=t;obtain⟨A,y⟩:=w;have f:∀{b:aB} {xs:List V} {o:dX},(o=.lst xs\/∃c,o=.frz c (.lst xs))->G b=some o->b≠lw->G' b=some o:=λ{b xs o} g e n=>k _ _ e (λc=>by rw[c,j]at e;rcases g with rfl|⟨c,rfl⟩<;>cases e) (λc=>by rw[c,r]at e;rcases g with rfl|⟨c,rfl⟩<;>cases e) n (λc=>by rw[c,s]at e;rcases g with rfl|⟨c,rfl⟩<;>cases e);have z:iU G G':=λb xs e=>k _ _ e (λc=>by rw[c,j]at e;cases e) (λc=>by rw[c,r]at e;cases e) (λc=>by rw[c,y]at e;cases e) (λc=>by rw[c,s]at e;cases e);refine⟨?_,h.na,f VG h.hf h.nf,h.nf,IsL.keep z _ _ (lT λd m=>Az (x d m)) h.hif⟩;rcases h.na with n|n
 .obtain⟨b,ns,e,q,l⟩:=h.scr;cases e;refine⟨a,ns,O,?_,l⟩;rcases q with (e|⟨o,e⟩)|e
  .exact .inl (.inl (f VG e n))
  .exact .inl (.inr ⟨o,f (.inr ⟨o,O⟩) e n⟩)
  .exact .inr e
 .exact n G'
theorem mP.keepB(k:fV d G G')(t:fR d G)(h:mP K a lf lw vf fs G):mP K a lf lw vf fs G':=by
 refine⟨?_,h.na,k _ _ (qp t h.hf (λ_ c=>by cases c)) h.hf,h.nf,IsL.sameD (vm k t) _ _ h.hif⟩;obtain⟨b,ns,e,q,l⟩:=h.scr;cases e;refine⟨a,ns,O,?_,l⟩;rcases q with (e|⟨o,e⟩)|e
 .exact .inl (.inl (k _ _ (qp t e (λ_ c=>by cases c)) e))
 .exact .inl (.inr ⟨o,k _ _ (qp t e (λ_ c=>by cases c)) e⟩)
 .exact .inr e
end
theorem Em:bK G (vw x) (lD x):=by cases x<;>rfl
theorem md.doneN(v:md fs gs pu a b es r x)(e:r="done"):x=aG:=by
 cases v with
 |short=>exact absurd e VE
 |_=>rfl
theorem Sc{A B:Prop}(h:b=aC)(a:A):if b=aC then A else B:=by
 subst h;exact cU a
theorem Sn(h:B+2*10^30<=10^31*t):B+2*10^30<=10^31*(t*1000):=VF
theorem Fc(h:B+2*10^30<=10^31*t):1000*(B+10^30)+2*10^30<=10^31*(t*1000):=VF
theorem Sm(h:B+2*10^30<=10^31*t)(p:t<=10^21):1000*(B+10^30)<=10^56:=
 fF (fF (uw _ _) (Fc h)) (fF (Nat.mul_le_mul_left _ (Nat.mul_le_mul_right _ p)) VE)
theorem Pk(T:Txt K mg C)(a:mg "Moot"=some (.ref I)):∃b c d e f,rZ mg I b c d e f:=by
 obtain⟨l,m,g⟩:=T.Wc;obtain⟨n,o,h⟩:=T.Wd;obtain⟨p,q,i⟩:=T.We;obtain⟨r,s,j⟩:=T.Wf;obtain⟨t,u,⟨w,x,y,z,A,B,D,E,G⟩,k,H⟩:=T.Wg;exact⟨_,_,_,_,_,a,g,h,i,j,k⟩
theorem PM(T:Txt K mg C)(TB:kJ K mg base "lists_of_places" g3 ac)(F:lN K "law" "law" yd f fd):iP P w K mg base jb 15 f fd ["_law_script"] (u7 K ac):=by
 obtain⟨J,hV,bv,hW,hX,hY,i0,i1,i2,i3,i4,i5⟩:=T.Wb;obtain⟨cL,cM,cO,cS,cT,cV⟩:∃cL cM cO cS cT,rZ mg J cL cM cO cS cT:=Pk T bv;refine F.ok kd (λ_ _ _ _ h=>by obtain⟨_,e,_⟩:=h;rw[e];rfl) (λi6 A outer s H vs Q E a5 h=>?_);obtain⟨x,rfl,a,ns,rfl,cW,ec,ge,q⟩:=h;have ed:=gB;have gf:=j7 a5;have c7:lv K H (.ref a):=⟨a,ns,O,cW,ec⟩
 refine⟨_,(bB (cH (i:=1) kd.nd O VG (bZ (KS T) (a5.mono VD) (aF (pv 0) (aF aQ aL)))) (bB (cH (i:=2) kd.nd O VG (sV T.gb (zd T) (a5.mono VD) (aF (pv 1) (aF (bZ (Lv T) (a5.mono VD) (aF (pv 0) (aF aQ (aF aQ (aF (pv 1) aL))))) aL)))) (bB (cH (i:=3) kd.nd O VG Cj) (bB (k4 kt O (eV (pv 1)) (DU O (tC (dJ (i:=4) kd.nd O VG) (tC (dJ (i:=5) kd.nd O VG) (tC (dJ (i:=6) kd.nd O VG) CV)))) (bB (cH (i:=7) kd.nd O VG (bZ (IX T) (a5.mono VD) (aF (pv 0) (aF (bC km aQ (dB By O T.q24 iD (aF (pv 3) aL))) aL)))) (bF (ye gf (pv 3) (pv 4) (cF (jJ (K:=K) O) (eA (aF aQ (aF (bC gR (bC hZ (pv 7) aQ) aQ) (aF (bC ji aQ aQ) (aF (bC gR (bC hZ (pv 7) aQ) (bC ji aQ aQ)) aL))))) (bC gR (pv 7) aQ) (λ_ _=>O)) O)))) (bB (cH (i:=8) kd.nd O VG (sV bv (Ha T bv) (a5.mono VD) (aF (pv 2) (aF (pv 3) aL)))) (bB (k4 kt O (oX O T.q28 (aF (dB (Bx O) O T.q26 BA (aF aQ (aF (dB (z7 O) O T.q27 wb (aF aQ (aF (bC mi (dB (jt (K:=K) O) O T.q24 iD (aF (pv 0) aL)) aQ) aL))) aL))) aL)) (dJ (i:=9) kd.nd O VG) (bB (cH (i:=7) kd.nd O VG (bC hZ (bZ (IX T) (a5.mono VD) (aF (pv 0) (aF (bC km aQ (pv 9)) aL))) aQ)) (bB (cH (i:=10) kd.nd O VG (bZ (Mz T) (a5.mono VD) (aF (pv 7) (aF (pv 1) (aF aQ aL))))) (bB (cH (i:=11) kd.nd O VG (bZ (zl T) (a5.mono VD) (aF (bC hZ (pv 7) (bC ji aQ aQ)) aL))) (bB (cH (i:=12) kd.nd O VG (bZ (KQ T) (a5.mono VD) (aF (pv 7) (aF (pv 1) aL)))) (bB (fD (eU lx (bC gR (bC hZ (pv 7) (bC ji aQ aQ)) aQ) aQ (eI _)) (bF (cH (i:=10) kd.nd O VG (cF (jJ (K:=K) O) (eA (aF (eA aL) (aF (bC o9 (pv 10) (qg (Ac (K:=K) O) (pv 10) qm (ql aQ))) (aF (bC o9 (pv 10) (eA (aF gE aL))) (aF (hU ze O T.q34 tp (aF (pv 10) aL)) (aF jp aL)))))) (bC gR (bC hZ (pv 7) (bC ji aQ aQ)) aQ) (λ_ _=>O)))) fC) (bB (fD (eU lx (bC gR (bC hZ (pv 7) (bC ji aQ aQ)) aQ) aQ (eI _)) (bF (cH (i:=11) kd.nd O VG (cF (jJ (K:=K) O) (eA (aF jp (aF m5 (aF (bC km (bC ji aQ aQ) aQ) (aF gE aL))))) (bC gR (bC hZ (pv 7) (bC ji aQ aQ)) aQ) (λ_ _=>O)))) fC) (bB (fD (eU lx (bC gR (bC hZ (pv 7) (bC ji aQ aQ)) aQ) aQ (eI _)) (bF (cH (i:=12) kd.nd O VG (bC o9 (pv 12) (eA (aF (cF (jJ (K:=K) O) (eA (aF gE (aF jp (aF gE (aF aQ (aF (eA (aF (cF (cR (K:=K) O) (cF (jJ (K:=K) O) (pv 1) aQ (λ_ _=>O)) aQ (λ_ _=>O)) aL)) (aF Cj (aF (jd (aF (cF (cR (K:=K) O) (cF (jJ (K:=K) O) (pv 1) aQ (λ_ _=>O)) aQ (λ_ _=>O)) (aF (eA aL) aL))) aL)))))))) (bC gR (bC hZ (pv 7) (bC ji aQ aQ)) aQ) (λ_ _=>O)) aL))))) fC) (bB (cH (i:=13) kd.nd O VG (bZ (Nz T TB bv) (a5.mono VD) (aF (pv 8) (aF (pv 1) (aF (pv 10) (aF (pv 11) (aF (pv 12) aL))))))) (bB (cH (i:=14) kd.nd O VG (bZ (MA T bv) (a5.mono VD) (aF (pv 8) aL))) (bB (fD (eU (o8 a5.units) (bZ (Av T TB cV) (a5.mono VD) (aF (pv 8) (aF (pv 10) (aF (pv 11) (aF (pv 12) aL))))) (pv 13) (eI _)) (bF (cJ m5)) fC) (bF (fD (gU.pt (u9 (eU pj (cF (jJ (K:=K) O) (pv 13) aQ (λ_ _=>O)) gE (eI _)) (wN (eU (o8 a5.units) (bZ (MA T bv) (a5.mono VD) (aF (pv 8) aL)) (pv 14) (eI _))))) (bF (cJ m5)) fC))))))))))))) (bF (cJ (bZ (MB T TB cV) (a5.mono VD) (aF (pv 0) aL)))))))))),?_⟩;refine Ni λi7 gg=>?_;refine⟨_,O,_,_,O,6,c7,O,VD,VD,λlf vf fs z ee i8 d0 d1 a6 gh=>?_⟩;refine⟨_,O,_,O,_,O,_,_,_,_,O,8,10,lf,vf,fs,6,c7.same ee,O,VD,O,VD,VD,O,d0,d1,a6,VD,λld gi N H2 d2 i9 ef eg c8 ia=>?_⟩;have okf:=Bn a6 VD;have okd:=Cx c8 VD;have f1:=a6.l1;have f2:=a6.l2;have ib:=c8.l1;have ic:=c8.l2;have gj:gT (.lst fs)=aC:=nD (λd m=>vL (a6.all d m)) VF;have gk:gT (.lst N)=aC:=nD (λd m=>zI a6.all (c8.all d m)) VF;have gl:=ee.trans d2;have d3:=d2 _ _ d0;have d4:=IsL.same d2 _ _ d1;refine λp dx np gm ie=>?_;have bd:aM H2 (aI (aI H2 dx (.own p)) p (.ins C dx [])):=λb o e=>by
  rw[bD (dC e np),bD (dC e gm)];exact e
 refine⟨_,_,_,O,p,dx,fs,N,O,aV,⟨lf,vf,O,bd _ _ d3,IsL.same bd _ _ d4⟩,⟨ld,gi,O,bd _ _ ef,IsL.same bd _ _ eg⟩,gj,gk,okf,okd,λap gn fr=>⟨O,?_⟩⟩;have d5:aM H2 ap:=λb o e=>fr b o (bd _ _ e) (dC e np);have be:=gl.trans d5;have c9:=d5 _ _ d3;have ca:=IsL.same d5 _ _ d4;clear bd fr d3 d4 ef eg d0 d1;refine iJ (σ':=[some (.ref a),some (.ref lf),some (.ref p),aG,aG,aG,aG,aG,aG,aG,aG,aG,aG,aG,aG]) O ?_;intro lp bf;have ae:=aM.upd (o:=.dK []) bf;have d6:aI ap lp (.dK []) lp=some (.dK []):=aV;generalize aI ap lp (.dK [])=go at ae d6 ⊢;refine iJ (σ':=[some (.ref a),some (.ref lf),some (.ref p),some (.ref lp),aG,aG,aG,aG,aG,aG,aG,aG,aG,aG,aG]) O ?_;refine gg _ _ _ ?_;refine qf λig gp=>?_;have ih:=ca.length;have d7:=ae _ _ c9;have gq:lf≠lp:=dC c9 bf;refine⟨_,O,lf,O,⟨_,aT.of d7⟩,?_⟩;refine wA (K:=K) (a:=lf) (xs:=vf) (λi Y H'=>∃(M U a0 ai:Option V)(a8:aA->Int),Y=[some (.ref a),some (.ref lf),some (.ref p),some (.ref lp),M,U,a0,ai,aG,aG,aG,aG,aG,aG,aG]/\lz lp go H'/\H' lp=some (.dK (iT ((fs.map aN).take i) a8))/\∀u∈(fs.map aN).take i,0<=a8 u/\a8 u<=1000000000000)
  ⟨_,_,_,_,λ_=>0,O,aM.x (aM.refl _),d6,λu m=>by cases m⟩ ?_ ?_ ?_
 .rintro i Y H' hi ⟨M,U,a0,ai,a8,rfl,X,b4,b5⟩;exact aT.of (X _ _ d7 gq)
 .rintro i ii Y H' eh ⟨M,U,a0,ai,a8,rfl,X,b4,b5⟩;have ij:i<vf.length:=(dI.mp eh).1;obtain⟨d,bg⟩:∃d,fs[i]?=some d:=⟨_,cY VF⟩
  obtain⟨v,ev,d8⟩:=ca.get bg;rw[eh]at ev;cases ev;obtain⟨u,g,e,rfl,_⟩:=jc (a6.all d (dN bg));obtain⟨t,us,rfl,d9,_,_,rfl,rfl,_,_,rfl,rfl,_,_,rfl,rfl,rfl⟩:=d8;have ei:aM ap H':=λb o b6=>X _ _ (ae _ _ b6) (dC b6 bf);refine QF λgr cb=>?_;refine⟨t,_,O,bY.of (ei _ _ d9),O,_,_,O,_,_,O,_,_,O,O,?_⟩;refine SX (σ':=[some (.ref a),some (.ref lf),some (.ref p),some (.ref lp),some (.str u),some (.int g),some (.int e),ai,aG,aG,aG,aG,aG,aG,aG]) O ?_;have ik:(iT ((fs.map aN).take i) a8).length<=12:=by unfold iT;rw[aS,dU,aS];omega
  refine⟨_,O,_,O,lp,_,O,b4,_,_,O,O,_,_,O,_,c7.same (be.trans ei),O,VF,λaf ej _=>?_⟩;refine iJ (σ':=[some (.ref a),some (.ref lf),some (.ref p),some (.ref lp),some (.str u),some (.int g),some (.int e),some (.int af),aG,aG,aG,aG,aG,aG,aG]) O ?_;refine⟨_,O,_,_,O,O,⟨VD,VD⟩,_,_,O,O,jw O,_,_,O,O,⟨VD,VD,VD⟩,_,O,_,_,O,O,⟨VD,VD⟩,_,_,O,O,⟨VD,VD,VD⟩,_,_,O,O,jw O,cQ O,λgt gu=>?_⟩;have aw:=aM.upd (o:=.lst [.int 0,.int (af/4%100),.int (10^(12:Int).toNat),.int (af/4%10^(7:Int).toNat)]) gu;obtain⟨b,b6,ek⟩:=vz (a:=0) (b:=af/4%100) (c:=10^(12:Int).toNat) (d:=af/4%10^(7:Int).toNat) (iM af (show(4:Int)≠0 by decide)) (je af (show(0:Int)<4 by decide));have gv:0<=b/\b<=1000000000000:=by
   rw[Te,show(10:Int)^(7:Int).toNat=10000000 by decide]at ek;have ax:=iM (af/4) (show(100:Int)≠0 by decide);have ay:=je (af/4) (show(0:Int)<100 by decide);have az:=iM (af/4) (show(10000000:Int)≠0 by decide);have cc:=je (af/4) (show(0:Int)<10000000 by decide);rcases ek with rfl|rfl|rfl|rfl<;>omega
  refine⟨_,O,_,_,O,O,jw O,gt,_,_,_,O,O,aT.of aV,b6,_,O,_,O,lp,_,O,p6.k (k:=Sum.inr u) (aw _ _ b4) VF,?_⟩;have da:(fs.map aN)[i]?=some u:=by rw[dO,bg];rfl
  have gw:u∉(fs.map aN).take i:=IY a6.nd da;refine cb _ _ ⟨_,_,_,_,λw=>if w=u then b else a8 w,O,(X.then aw).put,?_,?_⟩
  .rw[aV,eL,da,MS gw];rfl
  .intro w bh;by_cases db:w=u
   .simp only[if_pos db];exact gv
   .simp only[if_neg db];rw[eL,da,gQ]at bh;rcases bh with bh|bh
    .exact b5 w bh
    .exact absurd (by simpa using bh) db
 .rintro Y H' ⟨M,U,a0,ai,a8,rfl,X,b4,b5⟩;rw[dY (by rw[aS];omega)]at b4 b5;have cd:aM ap H':=λb o b6=>X _ _ (ae _ _ b6) (dC b6 bf);clear X ae d6 d7;refine gp _ _ _ ?_;refine qf λil gx=>?_;refine⟨_,O,_,O,λpm aR dc el gy=>?_⟩;have bi:aM H' (aI (aI H' aR (.own pm)) pm (.ins J aR [])):=λb o e=>by
   rw[bD (dC e dc),bD (dC e el)];exact e
  have dd:aI (aI H' aR (.own pm)) pm (.ins J aR []) pm=some (.ins J aR []):=aV;generalize aI (aI H' aR (.own pm)) pm (.ins J aR [])=im at bi dd ⊢;have de:ap pm=aG:=cd.free dc;refine⟨_,_,_,O,pm,aR,p,lp,fs,N,fs.map aN,a8,ap,O,dd,O,cd.trans bi,de,bf,gn,O,bi _ _ b4,⟨O,λu m=>m,λu m=>m,b5⟩,λdp lw df en eo ep=>⟨O,?_⟩⟩;have bj:aM ap df:=λb o e=>eo _ _ (bi _ _ (cd _ _ e)) (dC e de) (dC e bf);have gz:fR ac H:=⟨#[],ge,trivial,.inl O⟩
  have ce:ap lw=aG:=(cd.trans bi).free ep;have eq:mP K a lf lw vf fs df:=⟨c7.same (be.trans bj),(by
   rcases cW with (e|⟨o,e⟩)|e
   .exact .inl (dC (be _ _ e) ce)
   .exact .inl (dC (be _ _ e) ce)
   .exact .inr λG'=>⟨a,ns,O,.inr e,ec⟩),bj _ _ c9,dC c9 ce,IsL.same bj _ _ ca⟩
  have er:mQ J C ac df pm dp lw p fs N (vU a8) [] (10^12):=⟨en,fZ.keep gz (be.trans bj),λu m=>⟨(by show(0:Int)<1;decide),⟨720,O⟩,by have:=b5 u m;show(a8 u).natAbs<=10^12;omega⟩,VE,VD,λd m=>by cases m⟩
  have et:=(be.trans bj).seq cW;clear en eo ep ce bj bi dd dc el gy de b4 b5;refine iJ (σ':=[some (.ref a),some (.ref lf),some (.ref p),some (.ref lp),M,U,a0,ai,some (.ref pm),aG,aG,aG,aG,aG,aG]) O ?_;refine gx _ _ _ ?_;refine qf λio gD=>?_;refine⟨_,O,a,_,O,.inl et,_,_,O,O,_,_,O,_,_,O,?_⟩;obtain⟨eu,gP,ip,iq⟩:∃cnt:Nat,(if (if (((ns.map V.int).length:Nat):Int)-8<8 then(((ns.map V.int).length:Nat):Int)-8 else 8)>2 then(if (((ns.map V.int).length:Nat):Int)-8<8 then(((ns.map V.int).length:Nat):Int)-8 else 8) else 2)=(cnt:Int)/\1<=cnt/\cnt<=8:=by
   generalize (((ns.map V.int).length:Nat):Int)-8=w;by_cases h1:w<8
   .rw[if_pos h1];by_cases h2:w>2
    .rw[if_pos h2];exact⟨w.toNat,VF,VF,VF⟩
    .rw[if_neg h2];exact⟨2,O,VF,VF⟩
   .rw[if_neg h1];exact⟨8,O,VF,VF⟩
  refine⟨(eu:Int),congrArg (λx=>[V.int x]) gP,VF,VF,?_⟩;rw[oz];have dg:∀u∈fs.map aN,u.length<=1000/\u≠Mt46.vT:=λu m=>by
   obtain⟨d,dh,rfl⟩:=cP.mp m;refine⟨?_,gh d dh⟩;have:=vL (a6.all d dh);obtain⟨u,g,e,rfl,_⟩:=jc (a6.all d dh);exact of_decide_eq_true (rq (zQ this) eJ)
  refine p9 (lo:=0) (n:=eu) (λi Y G=>∃(M U a0 ai di cf bw bk aj ag:Option V)(pl:aB)(gs:List aH)(pu:aA->Int×Int)(wk:List aH)(B:Nat),Y=[some (.ref a),some (.ref lf),some (.ref p),some (.ref lp),M,U,a0,ai,some (.ref pm),di,cf,bw,bk,aj,ag]/\mP K a lf lw vf fs G/\mQ J C ac G pm dp lw pl fs gs pu wk B/\B+2*10^30<=10^31*1000^i/\wk.length<=i)
   ⟨_,_,_,_,_,_,_,_,_,_,p,N,vU a8,[],10^12,O,eq,er,VE,bQ _⟩ ?_ ?_
  .rintro i Y G hi ⟨M,U,a0,ai,di,cf,bw,bk,aj,ag,pl,gs,pu,wk,B,rfl,I,St,cg,gS⟩;clear eq er et;refine EJ λgr cb=>?_;refine Nh λir ew=>?_;refine⟨_,O,_,O,_,_,O,O,_,_,O,_,I.scr,O,by show 0<=8+(0+(i:Int));omega,λdj ex ej=>?_⟩;refine⟨_,_,O,O,⟨VD,VD⟩,?_⟩;have dk:0<=dj/16:=Int.ediv_nonneg ex VD;have ey:dj/16<10^24:=Int.lt_of_le_of_lt (Int.ediv_le_self _ ex) ej;generalize dj/16=m at dk ey ⊢;refine iJ (σ':=[some (.ref a),some (.ref lf),some (.ref p),some (.ref lp),M,U,a0,some (.int m),some (.ref pm),some (.int (0+(i:Int))),cf,bw,bk,aj,ag]) O ?_;refine⟨_,O,_,O,_,_,_,O,m,lf,vf,fs,O,dk,O,I.hf,I.hif,a6,O,λak D is dm ez dq gV h0 it eD=>?_⟩;refine iJ (σ':=[some (.ref a),some (.ref lf),some (.ref p),some (.ref lp),M,U,a0,some (.int m),some (.ref pm),some (.int (0+(i:Int))),some (.ref ak),bw,bk,aj,ag]) O ?_;refine⟨_,O,_,_,O,O,⟨VD,VD,VD⟩,_,_,O,O,⟨VD,VD⟩,_,O,_,O,λL iu=>?_⟩;refine iJ (σ':=[some (.ref a),some (.ref lf),some (.ref p),some (.ref lp),M,U,a0,some (.int m),some (.ref pm),some (.int (0+(i:Int))),some (.ref ak),some (.int L),bk,aj,ag]) O ?_;have dr:=I.same dm;refine⟨_,O,_,O,_,_,O,m,lf,vf,fs,O,dk,ey,O,dr.hf,dr.hif,a6,λbx ys bl ds eH iv iw ix=>?_⟩;refine iJ (σ':=[some (.ref a),some (.ref lf),some (.ref p),some (.ref lp),M,U,a0,some (.int m),some (.ref pm),some (.int (0+(i:Int))),some (.ref ak),some (.int L),some (.ref bx),aj,ag]) O ?_;refine ew _ _ _ ?_;have bz:=dm.trans ds;have dt:=I.same bz;have b7:mQ J C ac bl pm dp lw pl fs gs pu wk B:=⟨St.M.same bz,fZ.keep St.tb bz,St.pk,St.hB,St.lk,St.isw⟩
   have bm:=ds _ _ ez;obtain⟨_,_,_,h3,_,h4,_,_,h5,_,eK,_⟩:=id St.M.ex;have h6:ak≠lw:=λu=>by rw[u,eK]at dq;cases dq
   have ch:∀{xs:List aA},(∀u∈xs,u.length<=1000)->xs.length<=1000->gT (.lst (xs.map aH.str))=aC:=λh1 h2=>nD (λd m=>by
    obtain⟨u,bM,rfl⟩:=cP.mp m;exact decide_eq_true (h1 u bM)) (by rw[aS];exact h2)
   have eT:me lw (fs.map aN) bl (.ref ak) (.lst (D.map aH.str)):=⟨ch (λu m=>(dg u (eD u m)).1) VF,.inl ⟨ak,D,O,O,bm,h6,VF,.inl h0⟩⟩
   clear St I dr dm ds ez dq h4 h5 ew;refine vX (fun σ' H'=>∃a7 b0,σ'=[some (.ref a),some (.ref lf),some (.ref p),some (.ref lp),M,U,a0,some (.int m),some (.ref pm),some (.int (0+(i:Int))),some a7,some (.int L),some (.ref bx),aj,ag]/\aM bl H'/\me lw (fs.map aN) H' a7 b0) ?_ λeX b1=>?_;rotate_left
   .refine⟨_,O,_,_,O,O,⟨VD,VD,VD⟩,_,_,O,O,⟨VD,VD⟩,_,_,O,O,jw O,O,_,O,jO (λh1=>?_) (λh1=>?_)⟩
    .refine⟨cQ O,λk0 ci=>?_⟩;have b8:=aM.upd (o:=.lst []) ci;have f0:aI bl k0 (.lst []) k0=some (.lst []):=aV;generalize aI bl k0 (.lst [])=f3 at b8 f0 ⊢;refine⟨_,O,_,O,_,O,ak,D.map V.str,O,aT.of (b8 _ _ bm),λk1 h7=>?_⟩;rw[show n0 (D.map V.str) aG (some 1)=(D.map V.str).take 1 from z5 _ 1];have bO:=aM.upd (o:=.lst ((D.map V.str).take 1)) h7;have f4:aI f3 k1 (.lst ((D.map V.str).take 1)) k1=some (.lst ((D.map V.str).take 1)):=aV;generalize aI f3 k1 (.lst ((D.map V.str).take 1))=bR at bO f4 ⊢;refine⟨ak,k1,_,_,O,O,bO _ _ (b8 _ _ bm),f4,by rw[dU,aS];omega,λk2 f5=>?_⟩;have du:=aM.upd (o:=.lst (D.map V.str++(D.map V.str).take 1)) f5;have f6:aI bR k2 (.lst (D.map V.str++(D.map V.str).take 1)) k2=some (.lst (D.map V.str++(D.map V.str).take 1)):=aV;generalize aI bR k2 (.lst (D.map V.str++(D.map V.str).take 1))=bV at du f6 ⊢;refine⟨_,O,cQ O,λk3 h8=>?_⟩;have cj:=aM.upd (o:=.lst [.str "nosuchxx"]) h8;have f7:aI bV k3 (.lst [.str "nosuchxx"]) k3=some (.lst [.str "nosuchxx"]):=aV;generalize aI bV k3 (.lst [.str "nosuchxx"])=bW at cj f7 ⊢;have b9:=b8.trans (bO.trans (du.trans cj));refine⟨ak,k3,_,_,O,O,b9 _ _ bm,f7,by rw[aS];show D.length+1<=_;omega,λaq f8=>?_⟩;have ae:=aM.upd (o:=.lst (D.map V.str++[.str "nosuchxx"])) f8;have f9:aI bW aq (.lst (D.map V.str++[.str "nosuchxx"])) aq=some (.lst (D.map V.str++[.str "nosuchxx"])):=aV;generalize aI bW aq (.lst (D.map V.str++[.str "nosuchxx"]))=c0 at ae f9 ⊢;refine⟨_,O,ak,_,O,.inl ⟨aT.of (ae _ _ (b9 _ _ bm)),λar h9=>?_⟩⟩;have aw:=aM.upd (o:=.tup (D.map V.str)) h9;have fa:aI c0 ar (.tup (D.map V.str)) ar=some (.tup (D.map V.str)):=aV;generalize aI c0 ar (.tup (D.map V.str))=c1 at aw fa ⊢;refine⟨cQ O,λal ha=>?_⟩;have bn:=aM.upd (o:=.lst [.ref k0,.ref k2,.ref aq,.ref ar,.non]) ha;have fb:aI c1 al (.lst [.ref k0,.ref k2,.ref aq,.ref ar,.non]) al=some (.lst [.ref k0,.ref k2,.ref aq,.ref ar,.non]):=aV;generalize aI c1 al (.lst [.ref k0,.ref k2,.ref aq,.ref ar,.non])=ck at bn fb ⊢;obtain⟨a7,dv,dw⟩:=So (a:=.ref k0) (b:=.ref k2) (c:=.ref aq) (d:=.ref ar) (e:=.non) (iM (m/10^(8:Int).toNat) (show(5:Int)≠0 by decide)) (je (m/10^(8:Int).toNat) (show(0:Int)<5 by decide));refine⟨_,O,_,_,O,O,⟨VD,VD,VD⟩,_,_,O,O,⟨VD,VD⟩,_,_,O,O,jw O,al,_,_,a7,O,O,aT.of fb,dv,?_⟩;have hb:=b9.trans (ae.trans (aw.trans bn));have dy:bl lw=some (.lst h3):=bz _ _ eK;have ba:∃b0,me lw (fs.map aN) ck a7 b0:=by
      have cm:∀u∈D,u.length<=1000:=λu m=>(dg u (eD u m)).1;rcases dw with rfl|rfl|rfl|rfl|rfl
      .exact⟨.lst [],O,.inl ⟨k0,[],O,O,(bO.trans (du.trans (cj.trans (ae.trans (aw.trans bn))))) _ _ f0,(dC dy ci).symm,VD,.inl VD⟩⟩
      .have fc:=(cj.trans (ae.trans (aw.trans bn))) _ _ f6;rw[←uO,←dP]at fc;refine⟨_,ch (xs:=D++D.take 1) ?_ (by rw[eW,dU];omega),.inl ⟨k2,D++D.take 1,O,O,fc,(dC ((b8.trans bO) _ _ dy) f5).symm,by rw[eW,dU];omega,.inr ?_⟩⟩
       .intro u bM;rcases gQ.mp bM with h|h
        .exact cm u h
        .exact cm u (pz h)
       .match D,gV with
        |y::iy,_=>exact⟨y,gQ.mpr (.inl eJ),.inr (by simp[List.count_append,List.count_cons])⟩
      .have hc:=(aw.trans bn) _ _ f9;refine⟨_,ch (xs:=D++[("nosuchxx":aA)]) ?_ (by rw[eW];show D.length+1<=_;omega),.inl ⟨aq,D++[("nosuchxx":aA)],O,O,by rw[dP];exact hc,(dC (b9 _ _ dy) f8).symm,by rw[eW];show D.length+1<=_;omega,.inr ⟨"nosuchxx",gQ.mpr (.inr eJ),.inl λh=>(dg _ h).2 O⟩⟩⟩;intro u bM;rcases gQ.mp bM with h|h
       .exact cm u h
       .cases fG.mp h;decide +kernel
      .refine⟨.tup (D.map aH.str),?_,.inr (.inl ⟨ar,D,O,O,bn _ _ fa⟩)⟩;exact ch cm VF
      .exact⟨.non,O,.inr (.inr ⟨O,O⟩)⟩
     obtain⟨b0,ba⟩:=ba;exact b1 _ _ ⟨a7,b0,O,hb,ba⟩
    .exact b1 _ _ ⟨_,_,O,aM.refl _,eT⟩
   rintro Y hd ⟨a7,b0,rfl,b9,dz⟩;refine vX (fun σ' H'=>∃am bo,σ'=[some (.ref a),some (.ref lf),some (.ref p),some (.ref lp),M,U,a0,some (.int m),some (.ref pm),some (.int (0+(i:Int))),some a7,some am,some (.ref bx),aj,ag]/\aM hd H'/\q5 am bo) ?_ λeX b1=>?_;rotate_left
   .refine⟨_,O,_,_,O,O,⟨VD,VD,VD⟩,_,_,O,O,⟨VD,VD⟩,_,_,O,O,jw O,O,_,O,jO (λh1=>?_) (λh1=>?_)⟩
    .refine⟨_,_,O,O,⟨VD,VD,VD⟩,_,_,O,O,cQ O,λk0 ci=>?_⟩;have b8:=aM.upd (o:=.lst [.non,.bl aC,.int (10^(6:Int).toNat+1),.str "1"]) ci;obtain⟨am,dv,dw⟩:=Sp (a:=.non) (b:=.bl aC) (c:=.int (10^(6:Int).toNat+1)) (d:=.str "1") (iM (m/10^(8:Int).toNat) (show(4:Int)≠0 by decide)) (je (m/10^(8:Int).toNat) (show(0:Int)<4 by decide));refine⟨_,O,_,_,O,O,⟨VD,VD,VD⟩,_,_,O,O,⟨VD,VD⟩,_,_,O,O,jw O,k0,_,_,am,O,O,aT.of aV,dv,?_⟩;have ba:∃bo,q5 am bo:=by
      rcases dw with rfl|rfl|rfl|rfl
      .exact⟨_,.inr (.inl ⟨O,O⟩)⟩
      .exact⟨_,.inr (.inr (.inl ⟨O,O⟩))⟩
      .exact⟨_,.inl ⟨_,O,O⟩⟩
      .exact⟨_,.inr (.inr (.inr ⟨O,O⟩))⟩
     obtain⟨bo,ba⟩:=ba;exact b1 _ _ ⟨am,bo,O,b8,ba⟩
    .exact b1 _ _ ⟨_,_,O,aM.refl _,.inl ⟨L,O,O⟩⟩
   rintro Y cn ⟨am,bo,rfl,co,fe⟩;have cp:=b9.trans co;have cq:=dt.same cp;have dF:=cp _ _ eH;obtain⟨he,dK⟩:∃d,fs[0]?=some d:=⟨_,cY VF⟩
   obtain⟨hf,cr,hg⟩:=ca.get dK;obtain⟨a9,hh,hj,rfl,_⟩:=jc (a6.all he (dN dK));have hk:∃t,hf=.ref t/\cn t=some (.tup [.str a9,.int hh,.int hj]):=by
    obtain⟨v,ev,d8⟩:=cq.hif.get dK;rw[cr]at ev;cases ev;obtain⟨t,us,rfl,d9,_,_,rfl,rfl,_,_,rfl,rfl,_,_,rfl,rfl,rfl⟩:=d8;exact⟨t,O,d9⟩
   obtain⟨ff,rfl,dS⟩:=hk;refine vX (fun σ' H'=>∃(bp:aB)(us:List V)(es:List aH),σ'=[some (.ref a),some (.ref lf),some (.ref p),some (.ref lp),M,U,a0,some (.int m),some (.ref pm),some (.int (0+(i:Int))),some a7,some am,some (.ref bp),aj,ag]/\aM cn H'/\pZ H' bp us es) ?_ λeX b1=>?_;rotate_left
   .refine⟨_,O,_,_,O,O,⟨VD,VD,VD⟩,_,_,O,O,⟨VD,VD⟩,_,_,O,O,jw O,O,_,O,jO (λh1=>?_) (λh1=>?_)⟩
    .refine⟨_,O,_,O,lf,_,_,_,O,O,aT.of cq.hf,cE (j:=0) cr,ff,_,_,.str a9,O,O,bY.of dS,cE (j:=0) O,cQ O,λa1 hl=>?_⟩;have fg:=aM.upd (o:=.lst [.str a9]) hl;have fh:aI cn a1 (.lst [.str a9]) a1=some (.lst [.str a9]):=aV;generalize aI cn a1 (.lst [.str a9])=bR at fg fh ⊢;intro a2 hn;have dT:=aM.upd (o:=.dK []) hn;have fi:aI bR a2 (.dK []) a2=some (.dK []):=aV;generalize aI bR a2 (.dK [])=bV at dT fi ⊢;have dV:=fg.trans dT;refine⟨_,O,lf,_,_,_,O,O,aT.of (dV _ _ cq.hf),cE (j:=0) cr,ff,_,_,.str a9,O,O,bY.of (dV _ _ dS),cE (j:=0) O,cQ O,λa3 ho=>?_⟩;have cs:=aM.upd (o:=.lst []) ho;have fj:aI bV a3 (.lst []) a3=some (.lst []):=aV;generalize aI bV a3 (.lst [])=bW at cs fj ⊢;refine⟨cQ O,λa4 hp=>?_⟩;have c2:=aM.upd (o:=.tup [.str a9,.ref a3]) hp;have fk:aI bW a4 (.tup [.str a9,.ref a3]) a4=some (.tup [.str a9,.ref a3]):=aV;generalize aI bW a4 (.tup [.str a9,.ref a3])=c0 at c2 fk ⊢;refine⟨cQ O,λct hq=>?_⟩;have bq:=aM.upd (o:=.lst [.str "nosuchxx",.non,.str "sea",.int 5,.ref a1,.ref a2,.ref a4]) hq;have fl:aI c0 ct (.lst [.str "nosuchxx",.non,.str "sea",.int 5,.ref a1,.ref a2,.ref a4]) ct=some (.lst [.str "nosuchxx",.non,.str "sea",.int 5,.ref a1,.ref a2,.ref a4]):=aV;generalize aI c0 ct (.lst [.str "nosuchxx",.non,.str "sea",.int 5,.ref a1,.ref a2,.ref a4])=c1 at bq fl ⊢;obtain⟨as,hr,hs,ht,hu⟩:=RE (s:=a9) (a1:=a1) (a2:=a2) (a3:=a3) (a4:=a4) (iM (m/10^(7:Int).toNat) (show(7:Int)≠0 by decide)) (je (m/10^(7:Int).toNat) (show(0:Int)<7 by decide));refine⟨_,O,_,_,O,O,⟨VD,VD,VD⟩,_,_,O,O,⟨VD,VD⟩,_,_,O,O,jw O,ct,_,_,as,O,O,aT.of fl,hs,cQ O,λcu hv=>?_⟩;have br:=aM.upd (o:=.lst [as]) hv;have fm:aI c1 cu (.lst [as]) cu=some (.lst [as]):=aV;generalize aI c1 cu (.lst [as])=ck at br fm ⊢;have fn:=dV.trans (cs.trans (c2.trans (bq.trans br)));refine⟨bx,cu,_,_,O,O,fn _ _ dF,fm,by rw[aS];show ys.length+1<=_;omega,λcv hw=>?_⟩;have bs:=aM.upd (o:=.lst (ys.map V.str++[as])) hw;have fo:aI ck cv (.lst (ys.map V.str++[as])) cv=some (.lst (ys.map V.str++[as])):=aV;generalize aI ck cv (.lst (ys.map V.str++[as]))=hx at bs fo ⊢;refine b1 _ _ ⟨cv,_,ys.map aH.str++[hr],O,fn.trans bs,fo,IsL.snoc (hu hx ((dT.trans (cs.trans (c2.trans (bq.trans (br.trans bs))))) _ _ fh) ((cs.trans (c2.trans (bq.trans (br.trans bs)))) _ _ fi) ((c2.trans (bq.trans (br.trans bs))) _ _ fj) ((bq.trans (br.trans bs)) _ _ fk)) (IsL.strs _ _),by rw[eW,aS];show ys.length+1<=_;omega,?_⟩;intro e e0;rcases gQ.mp e0 with h|h
     .obtain⟨u,_,rfl⟩:=cP.mp h;exact .inl O
     .cases fG.mp h;exact ht
    .refine b1 _ _ ⟨bx,_,ys.map aH.str,O,aM.refl _,dF,IsL.strs _ _,by rw[aS];omega,λe e0=>?_⟩;obtain⟨u,_,rfl⟩:=cP.mp e0;exact .inl O
   rintro Y fp ⟨bp,us,es,rfl,cw,e1⟩;have cx:=cp.trans cw;have cy:=dt.same cx;have bt:mQ J C ac fp pm dp lw pl fs gs pu wk B:=⟨b7.M.same cx,fZ.keep b7.tb cx,b7.pk,b7.hB,b7.lk,b7.isw⟩
   have e2:me lw (fs.map aN) fp a7 b0:=⟨dz.1,dz.2.imp (fun⟨l,xs,ax,ay,az,cc⟩=>⟨l,xs,ax,ay,(co.trans cw) _ _ az,cc⟩) λh=>h.imp (fun⟨l,xs,ax,ay,az⟩=>⟨l,xs,ax,ay,(co.trans cw) _ _ az⟩) id⟩
   clear dt b7 dz eT cq b9 co cw cp cx dF eH bm dS cr hg bz;obtain⟨r,x,fq,ft⟩:=Qr (K:=K) bt e2 fe e1 cy.hf cy.hif;refine rF λiz hy=>?_;refine⟨_,O,_,O,_,O,_,O,_,O,ft _ _ λan fu al fv e3=>?_⟩;have ao:=(bt.keepB al fv)
   have c3:=e1.keepB al bt.tb;have e4:=e2.keepB al bt.tb;have fw:=cy.keepB al bt.tb;clear bt e1 e2 cy al ft;have cz:=aM.upd (o:=.lst [.str r,lD x]) e3;have e5:aI fu an (.lst [.str r,lD x]) an=some (.lst [.str r,lD x]):=aV;have hz:an≠lw:=by
    obtain⟨_,_,_,_,_,_,_,_,_,_,hA,_⟩:=id ao.M.ex;exact(dC hA e3).symm
   generalize aI fu an (.lst [.str r,lD x])=j0 at cz e5 ⊢;refine iJ (σ':=[some (.ref a),some (.ref lf),some (.ref p),some (.ref lp),M,U,a0,some (.int m),some (.ref pm),some (.int (0+(i:Int))),some a7,some am,some (.ref bp),some (.ref an),ag]) O ?_;refine⟨_,O,_,O,pm,dp,lw,pl,fs,gs,pu,wk,O,ao.M.same cz,ao.isw,VF,λhB e6 e7 hC=>?_⟩;refine iJ (σ':=[some (.ref a),some (.ref lf),some (.ref p),some (.ref lp),M,U,a0,some (.int m),some (.ref pm),some (.int (0+(i:Int))),some a7,some am,some (.ref bp),some (.ref an),some (.ref hB)]) O ?_;refine hy _ _ _ ?_;have b2:=cz.trans e7;have au:=e7 _ _ e5;have ah:mQ J C ac e6 pm dp lw pl fs gs pu wk B:=⟨ao.M.same b2,fZ.keep ao.tb b2,ao.pk,ao.hB,ao.lk,ao.isw⟩
   have fx:=fw.same b2;have hD:me lw (fs.map aN) e6 a7 b0:=⟨e4.1,e4.2.imp (fun⟨l,xs,ax,ay,az,cc⟩=>⟨l,xs,ax,ay,b2 _ _ az,cc⟩) λh=>h.imp (fun⟨l,xs,ax,ay,az⟩=>⟨l,xs,ax,ay,b2 _ _ az⟩) id⟩
   have hE:pZ e6 bp us es:=⟨b2 _ _ c3.hy,IsL.same b2 _ _ c3.iy,c3.le,c3.fe⟩
   clear ao c3 e4 fw cz e7 b2 e5 e3 fv;have fy:(1000:Nat)^i<=1000^7:=qC VD VF;have hF:(1000:Nat)^7=10^21:=VE;rw[hF]at fy;have fz:dG 30 (.lst [.str r,vw x])=aC:=by cases x<;>rfl
   have hG:=Ma ah.M ah.isw;refine qf λj1 fI=>?_;refine⟨_,O,_,O,_,O,_,O,RF cV ah hD fe hE fq (λhH av c4 bb e8 e9=>?_) (λbg hI hK hL hM c4 hN hO hP bb e8 av e9=>?_)⟩
   .have aa:=aM.upd (o:=.lst [.str r,lD x]) e9;have c5:aI c4 av (.lst [.str r,lD x]) av=some (.lst [.str r,lD x]):=aV;have bu:=ah.keepB bb e8;have c6:=(fx.keepB bb ah.tb).same aa;have bc:=aa _ _ (bb _ _ (qp ah.tb au (λ_ u=>by cases u)) au);have fT:=bK.same aa _ _ (bK.sameD (vm bb ah.tb) _ _ hC);generalize aI c4 av (.lst [.str r,lD x])=g0 at aa c5 c6 bc fT ⊢;have b3:mQ J C ac g0 pm dp lw pl fs gs pu wk B:=⟨bu.M.same aa,fZ.keep bu.tb aa,bu.pk,bu.hB,bu.lk,bu.isw⟩
    refine⟨_,O,xX (d:=.lst [.str r,vw x]) ⟨av,_,O,c5,_,_,O,O,_,_,O,Em,O⟩ ⟨an,_,O,bc,_,_,O,O,_,_,O,Em,O⟩ fz ⟨_,O,cG ?_⟩⟩;refine fI _ _ _ ?_;refine⟨_,O,an,_,_,.str r,O,O,aT.of bc,cE (j:=0) O,O,_,O,Sc (by rw[decide_eq_false (λh=>hH (V.str.inj h))];rfl) ?_⟩;refine⟨_,O,_,O,pm,dp,lw,pl,fs,gs,pu,wk,O,b3.M,b3.isw,VF,λj2 j3 cI hQ=>⟨_,O,xX hQ (bK.same cI _ _ fT) hG ⟨_,O,cG ?_⟩⟩⟩;refine cb _ _ ⟨_,_,_,_,_,_,_,_,_,_,pl,gs,pu,wk,B,O,c6.same cI,⟨b3.M.same cI,fZ.keep b3.tb cI,b3.pk,b3.hB,b3.lk,b3.isw⟩,?_,VF⟩;rw[Nat.pow_succ];exact Sn cg
   .have hR:=fq.doneN bg;subst bg hR;have aa:=aM.upd (o:=.lst [.str "done",.non]) e9;have c5:aI c4 av (.lst [.str "done",.non]) av=some (.lst [.str "done",.non]):=aV;obtain⟨_,_,_,j4,_,g1,_,_,g2,_,hS,_⟩:=id ah.M.ex;obtain⟨j5,hT,_⟩:=id ah.tb;have c6:=(fx.mv g1 g2 ah.tb ⟨_,hS⟩ a6.all bb).same aa;have bc:=aa _ _ (bb _ _ au (λu=>by rw[u,g1]at au;cases au) (λu=>by rw[u,g2]at au;cases au) hz (λu=>by rw[u,hT]at au;cases au));generalize aI c4 av (.lst [.str "done",.non])=g0 at aa c5 c6 bc ⊢;refine⟨_,O,xX (d:=.lst [.str "done",vw aG]) ⟨av,_,O,c5,_,_,O,O,_,_,O,O,O⟩ ⟨an,_,O,bc,_,_,O,O,_,_,O,O,O⟩ fz ⟨_,O,cG ?_⟩⟩;refine fI _ _ _ ?_;refine⟨_,O,an,_,_,.str "done",O,O,aT.of bc,cE (j:=0) O,O,_,O,Sd VE (cG ?_)⟩;have ed:1000*(B+10^30)+2*10^30<=10^31*1000^(i+1):=by
     rw[Nat.pow_succ];exact Fc cg
    refine cb _ _ ⟨_,_,_,_,_,_,_,_,_,_,hI,hK,hL,wk++[hM],1000*(B+10^30),O,c6,⟨hN.same aa,fZ.keep e8 aa,hP,?_,?_,?_⟩,ed,?_⟩
    .exact Sm cg fy
    .rw[eW];show wk.length+1<=50;omega
    .intro d m;rcases gQ.mp m with h|h
     .exact ah.isw d h
     .cases fG.mp h;exact hO
    .rw[eW];show wk.length+1<=i+1;omega
  .rintro Y G ⟨M,U,a0,ai,di,cf,bw,bk,aj,ag,pl,gs,pu,wk,B,rfl,I,St,cg,gS⟩;refine gD _ _ _ ?_;exact⟨_,O,_,O,I.scr,λ_=>q _⟩
theorem Vk(e:mg "law"=some (.ref a))(T:Txt K mg C) :
  ∃fd:iW,(∀(s:aK)(u:aE),BindsTo s fd ⟨[u],[]⟩ [("_law_script",u)])/\∀base:bE,K.In base->base.Ns lH mg->kJ K mg base "lists_of_places" c d->iP P w K mg base jb 15 a fd ["_law_script"] (u7 K d):=by
 obtain⟨f,fd,F,b,m⟩:=T.q07.ex;rw[e]at m;cases m;refine⟨fd,λs u=>?_,λbase _ _ B=>PM T B F⟩;obtain⟨g,h,kV,doc,pm,i,j,k,l,rfl,lk,n⟩:=F.ex;exact .of_eq O
end
end K82
theorem q1{α:Type}{P:List α→Prop}(h:∀a,P [a]):∀u:List α,u.length=1→P u
|[a],_=>h a
theorem q2{α:Type}{P:List α→Prop}(h:∀a b,P [a,b]):∀u:List α,u.length=2→P u
|[a,b],_=>h a b
theorem q3{α:Type}{P:List α→Prop}(h:∀a b c,P [a,b,c]):∀u:List α,u.length=3→P u
|[a,b,c],_=>h a b c
theorem q4{α:Type}{P:List α→Prop}(h:∀a b c d,P [a,b,c,d]):∀u:List α,u.length=4→P u
|[a,b,c,d],_=>h a b c d
theorem q5{α:Type}{P:List α→Prop}(h:∀a b c d e,P [a,b,c,d,e]):∀u:List α,u.length=5→P u
|[a,b,c,d,e],_=>h a b c d e
namespace PySem.W.Fast
def tw13734105449344715294:=0
def tw4299277836047402463:=0
def tw4838098306873731707:=0
def tw2613016045459682560:=0
def tw17732697915680497467:=0
def tw17123921416599948794:=0
def tw4764439293877560466:=0
def tw17966214531187657088:=0
def tw6349692419773060805:=0
def tw1165249092264071795:=0
def tw17989672463229451702:=0
def tw17958138923915270080:=0
def tw9792374151574946339:=0
def tw389215318262143921:=0
def tw6695177666390829404:=0
def tw11959958819991099609:=0
def tw4546156883061158882:=0
def tw4372646254685783609:=0
def tw8252056656868607196:=0
def tw13688954435818355665:=0
def tw17455088510855504912:=0
def tw7552175531582082506:=0
def tw8588691452063490762:=0
def tw8257891889935651822:=0
def tw4379905190965458502:=0
def tw18145286867022271370:=0
def tw8843980216542414768:=0
def tw8718661645184600409:=0
def tw15066089642776530954:=0
def tw5030537681008066388:=0
def tw15483903783588897647:=0
def tw8397620500490184636:=0
def tw3633407474220737229:=0
def tw5426830793191242618:=0
def tw6118958801615281785:=0
def tw4194970532784471754:=0
def tw16378282179413983122:=0
def tw10042387156417692460:=0
def tw9789553517448600918:=0
def tw2442047854074849095:=0
def tw3179033770025793869:=0
def tw8945145622337969901:=0
def tw15872164005476548114:=0
def tw2074499870481164101:=0
def tw3810040562264290006:=0
def tw16007773378581785252:=0
def tw6594415740802594862:=0
def tw17790870374378634137:=0
def tw3389946077293293072:=0
def tw13680177467380310856:=0
def tw6586420904511694733:=0
def tw4479828413781778562:=0
def tw10060105881090573035:=0
def tw6263319638861143400:=0
def tw4512407169757888083:=0
def tw4100734614415258013:=0
def tw12472489247455887894:=0
def tw18231955138861538014:=0
def tw17635019334708360914:=0
def tw17125671609933242939:=0
def tw11474453252189733249:=0
def tw16270929173909026242:=0
def tw15850187358179041824:=0
def tw16747626810711420173:=0
def tw6768538699605417370:=0
def tw6823607682627891076:=0
def tw4071248122999890710:=0
def tw8920212524988498598:=0
def tw5603884726387782781:=0
def tw2528178450707220446:=0
def tw15164450426128157812:=0
def tw158052668174882644:=0
def tw7201682389349123657:=0
def tw15825068852693714882:=0
def tw9346750635875421244:=0
def tw7342046841231144064:=0
def tw6289887725919889469:=0
def tw6912112606945755300:=0
def tw9908822791479594781:=0
def tw15826762927847327445:=0
def tw2388064259267543155:=0
def tw2295876482561258802:=0
def tw17784357204879044951:=0
def tw5386102801843140064:=0
def tw15884349545153001831:=0
def tw3773815672850336923:=0
def tw8165975748397008759:=0
def tw7770530862044656959:=0
def tw15644656337683085482:=0
def tw4232969520098776323:=0
def tw625130767128693343:=0
def tw722257370934313959:=0
def tw2512284423565738643:=0
def tw3832701595562340111:=0
def tw8602307684296318607:=0
def tw17201006567234564329:=0
def tw12241849557475440743:=0
def tw12680131176672709830:=0
def tw15596540451723276136:=0
def tw6703639554291004499:=0
def tw13058105034942603775:=0
def tw13170241023028765598:=0
def tw9198274788220602420:=0
def tw13014139431678851640:=0
def tw12200267951996864450:=0
def tw4200187756314114320:=0
def tw2548519032118959434:=0
def tw18176312568686806915:=0
def tw4612889212068815260:=0
def tw16382496199723738641:=0
def tw17067145778906493891:=0
def tw4549554138957488166:=0
def tw14513071475847520917:=0
def tw8527427264461330489:=0
def tw13436894163361228017:=0
def tw11828810243005452563:=0
def tw14009071972768948318:=0
def tw14308564499820105036:=0
def tw6506022519205442683:=0
def tw14081263255625823475:=0
def tw4794445288559023914:=0
def tw3465075264359299603:=0
def tw17172379772869564512:=0
def tw10668609363120880874:=0
def tw7372025160898245257:=0
def tw8519351612107247743:=0
def tw15210738557899783488:=0
def tw14337286835410890025:=0
def tw5788796726675097610:=0
def tw16323998887421045763:=0
def tw11542970694948764682:=0
def tw13987132190796907637:=0
def tw646762073011292427:=0
def tw5810910259396760304:=0
def tw12432177768383906907:=0
def tw5634724507077238354:=0
def tw11086004592073860133:=0
def tw11827741511889433965:=0
def tw16768204952283827182:=0
def tw3121762137958676202:=0
def tw7320684458035833339:=0
def tw17047298171578392138:=0
def tw9832299086797312328:=0
def tw5858155463800083169:=0
def tw14295547541557373518:=0
def tw6581320825880843077:=0
def tw8099848156332823748:=0
def tw8653325831411850980:=0
def tw12623830579045384686:=0
def tw4093694279203682771:=0
def tw3968461701285148927:=0
def tw12610090063619687425:=0
def tw9356672255305322472:=0
def tw6150155682690918163:=0
def tw8404553131197971912:=0
def tw1509632127431552665:=0
def tw12858303720098132483:=0
def tw17344254960609003035:=0
def tw4734110543895194501:=0
def tw14902096330297163632:=0
def tw1073179538650517961:=0
def tw8598959141914088362:=0
def tw1970228593964811529:=0
def tw17237317656800469318:=0
def tw7244194235800114581:=0
def tw8379516778047279294:=0
def tw15038419999970570528:=0
def tw3393691383664790031:=0
def tw2332278282069691019:=0
def tw5779703407974080843:=0
def tw8370635735237039309:=0
def tw17591479152095033132:=0
def tw11425559184777177073:=0
def tw9730596339294201311:=0
def tw2464370687984524173:=0
def tw4632973965318358877:=0
def tw13080846276519018746:=0
def tw16082305847406149778:=0
def tw4602433649740595966:=0
def tw14983860854779247706:=0
def tw13545575489429363899:=0
def tw8368618808340536852:=0
def tw12925462724721168414:=0
def tw5117595975478451865:=0
def tw12677235914207682819:=0
def tw6082457636162856087:=0
def tw158588560991535274:=0
def tw6386589875857949963:=0
def tw10540055282082809344:=0
def tw17842882356876446181:=0
def tw17157976035018529694:=0
def tw6433756543067023272:=0
def tw9342908096341903047:=0
def tw2912022784353972343:=0
def tw6363982427130726171:=0
def tw13226669568991714332:=0
def tw12795246307365485543:=0
def tw14212155726193394320:=0
def tw13864157565376393733:=0
def tw6096170509529216498:=0
def tw8888491046420989626:=0
def tw15687385198682742114:=0
def tw11497143342272215445:=0
def tw8579492253946123005:=0
def tw7136207167662476871:=0
def tw5186106003998890576:=0
def tw6141640748463716993:=0
def tw5012394056455960152:=0
def tw16226509431438015349:=0
def tw7262611933474460882:=0
def tw15885459132463028787:=0
def tw12188206704776923513:=0
def tw13269215319524025177:=0
def tw9671969611080378279:=0
def tw14690256517319670717:=0
def tw3445996792969317526:=0
def tw3109568704920110132:=0
def tw2901412895078364301:=0
def tw6313214851216434905:=0
def tw5954455734786759020:=0
def tw8339488294278337012:=0
def tw9712821838591845036:=0
def tw3629266554451678619:=0
def tw4995615039425250746:=0
def tw17396519408310461850:=0
def tw12950460597947587961:=0
def tw18326292510820412652:=0
def tw4083971276174375350:=0
def tw3990302458195615726:=0
def tw12155813672919378495:=0
def tw15355429442025149930:=0
def tw2570173054738429359:=0
def tw12274913721702797818:=0
def tw1011325194595555054:=0
def tw156883995277767287:=0
def tw14404477688753213831:=0
def tw12819804402541367187:=0
def tw12025627509553062274:=0
def tw7210763208167260084:=0
def tw17233556146569094100:=0
def tw3298063125147209180:=0
def tw10134466394867459097:=0
def tw5340551413771923869:=0
def tw15173847196971315052:=0
def tw8947861762339679302:=0
def tw7919885507447145196:=0
def tw17129374452827990610:=0
def tw16599026984522474237:=0
def tw6366769469192960339:=0
def tw2619985944786459691:=0
def tw17395301865133994122:=0
def tw17580109602290988010:=0
def tw10800194588192617976:=0
def tw14199264688832031922:=0
def tw7333732407472167089:=0
def tw590785355716273740:=0
def tw8331599931823743011:=0
def tw3382429695245067522:=0
def tw4771287455175761585:=0
def tw14920866755201726258:=0
def tw12204922834949948492:=0
def tw3499870605091077911:=0
def tw8818648232235018158:=0
def tw11590781136068283482:=0
def tw2904346047999088580:=0
def tw11641893170580367675:=0
def tw18314013277819376767:=0
def tw17873900269603113393:=0
def tw6226646857088427898:=0
def tw4618273867587930179:=0
def tw12476306732689074420:=0
def tw9947186719109508318:=0
def tw16100259992168860470:=0
def tw10349551146007754728:=0
def tw2265175351950752805:=0
def tw15517353671748133596:=0
def tw14173050898577127741:=0
def tw12236783712132218475:=0
def tw10882085077949173951:=0
def tw11699125405828031671:=0
end PySem.W.Fast
open PySem PySem.W PyProof.Rows
set_option maxRecDepth 100000 in
set_option maxHeartbeats 0 in
theorem PySem.Challenge.cw_dykemoot_k82_what_is_due_first_holds : PySem.Challenge.rw_dykemoot_k82_what_is_due_first.Holds := by
 w_on; o_law; k_head; (case hw=>w_witness2)
 k_fill
 refine L2.VB (l:=PySem.Challenge.rw_dykemoot_k82_what_is_due_first) 15 "lists_of_places" 438 436 ⟨rfl,by decide,by decide⟩ rfl rfl (fun w h Y=>PySem.W.km_in_of Y) (fun w h Y=>PySem.W.km_tabs_of Y 436 (by k_mem)) (fun w=>by kernel_rfl) (fun w=>by kernel_rfl) (fun w=>by kernel_rfl) ?F
 case F =>
  intro w mg fa h KX G hmg
  refine' K82.Vk hmg (.mk ⟨?_,?_,?_,?_⟩ (PySem.W.mg_of KX G ?_) ?_ ?_ ⟨?_,?_,?_,?_⟩ ?_ ?_ ?_ ?_ ?_ ?_ ?_ ?_ ?_ ?_ ⟨_,⟨?_,?_,?_,?_⟩,PySem.W.mg_of KX G ?_,?_,?_,?_,?_,?_,?_,?_,?_,?_⟩ ⟨_,⟨⟨⟨?_⟩,?_⟩,?_,?_,?_,⟨?_,?_,?_,?_⟩⟩,PySem.W.mg_of KX G ?_⟩ ⟨_,⟨⟨⟨?_⟩,?_⟩,?_,?_,?_,⟨?_,?_,?_,?_⟩⟩,PySem.W.mg_of KX G ?_⟩ ⟨_,⟨⟨⟨?_⟩,?_⟩,?_,?_,?_,⟨?_,?_,?_,?_⟩⟩,PySem.W.mg_of KX G ?_⟩ ⟨_,⟨⟨⟨?_⟩,?_⟩,?_,?_,?_,⟨?_,?_,?_,?_⟩⟩,PySem.W.mg_of KX G ?_⟩ ⟨_,_,⟨⟨?_,?_,?_,?_,?_,⟨?_,?_,?_,?_⟩⟩,?_,?_,?_,?_,?_,?_,?_,⟨?_⟩⟩,PySem.W.mg_of KX G ?_,PySem.W.mg_of KX G ?_⟩ ..)
  all_goals try first|k_is|k_exc|kts_exm|kit_is
  all_goals try first|k_is|k_exc|kts_exm|kit_is|(show PySem.W.findIn _ _ _ = some none; k_is)
  all_goals try first|exact PySem.W.mg_none_of KX G (by k_is)|exact ⟨_,PySem.W.mg_of KX G (by k_is)⟩|refine' L2.UU KX G ?_ ?_ ?_ ?_ ?_|refine' L2.Vp ?_ ?_ ?_ ?_ ?_ ?_|refine' L2.Va ?_ ?_ ?_ ?_ ?_ ?_ ?_ ?_|refine' L2.UY KX G ?_ ?_|refine' L2.Vi (PySem.W.mg_of KX G ?_) ?_|refine' L2.Vj (PySem.W.mg_of KX G ?_) (PySem.W.mg_of KX G ?_) ?_|refine' L2.VC (PySem.W.mg_of KX G ?_) (PySem.W.mg_of KX G ?_) ?_
  all_goals try first|k_is|kit_is|kts_exm|exact ⟨_,rfl⟩|exact fun _ _ _ _ _ _=>q1 fun _=>rfl|exact fun _ _ _ _ _ _=>q2 fun _ _=>rfl|exact fun _ _ _ _ _ _=>q3 fun _ _ _=>rfl|exact fun _ _ _ _ _ _=>q4 fun _ _ _ _=>rfl|exact fun _ _ _ _ _ _=>q5 fun _ _ _ _ _=>rfl
  all_goals try first|k_is|kit_is|kts_exm|exact ⟨_,rfl⟩|kernel_rfl|decide +kernel|exact fun _ _ _ _ _ _=>q1 fun _=>rfl|exact fun _ _ _ _ _ _=>q2 fun _ _=>rfl|exact fun _ _ _ _ _ _=>q3 fun _ _ _=>rfl|exact fun _ _ _ _ _ _=>q4 fun _ _ _ _=>rfl|exact fun _ _ _ _ _ _=>q5 fun _ _ _ _ _=>rfl
