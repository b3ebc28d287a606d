import PyProof.Rows.All
import Wide.All
import OpenK.AllK
import Wide.FinOn
import Lean
import PyProof.EqAt
import PyProof.EqKinds
import PyProof.TupleCall
import PyProof.StrBlockI
import PyProof.SliceList
import PyProof.StrLawsIn
import PyProof.StrLaws
import PyProof.DictValues
import KE.KItemsList
import KE.KEqDict
import PyProof.DictItems
import PyProof.MeetsDictList
import PyProof.ZipIter
import PyProof.Rows.ZipGen
import PySem.Challenge.RW_dykemoot_k83_whole_ledger
open List renaming length_map→aS,getElem?_eq_getElem→cJ,getElem?_eq_some_iff→cR,take_of_length_le→dP,mem_of_getElem?→dM,getElem?_map→dB,mem_map→cG,mem_cons_of_mem→eK,take_add_one→dR,mem_cons_self→eB,map_append→dJ,length_take→dY,size_toArray→eN,mem_singleton→eU,map_cons→dD,length_append→eW,mem_cons→dW,getD_eq_getElem?_getD→kr,length_cons→fW,map_map→eP,nodup_cons→gB,mem_append_right→jV,range→eG,mem_filter→gM,mem_append→gN,Nodup→eQ,all_eq_true→ku,length_singleton→lV,mem_iff_getElem?→mr,mem_range→kN,lookup_cons→lW,length_filter_le→m2,append_nil→lK,find?_cons→lX,map_congr_left→m3,getElem?_append_left→o0,not_mem_nil→mJ,mem_append_left→o1,filter_append→oA,append_assoc→oB,getElem?_take_of_lt→qH,map_nil→mu,filter_cons→oD,length_range→o4,getElem?_append_right→rA,length_drop→o6,lookup→mL,length→m8,getElem_mem→pT,nodup_iff_pairwise_ne→tu,mem_filterMap→qJ,filterMap_cons→rG,getElem_map→qP,mem_of_mem_take→tB,getElem?_set_ne→tD,drop_eq_getElem_cons→vD,filter_cons_of_pos→vI,filter_cons_of_neg→vJ,zipWith→qT,toArray→qU,drop_eq_nil_of_le→vM,getElem_inj→tM,any_eq_true→tN,all_cons→rP,eq_nil_of_length_eq_zero→yw,length_nil→tO,length_reverse→vQ,filter_sublist→vR,filter_eq_self→vS,all_map→rR,getElem?_drop→vV,pairwise_iff_getElem→yy,mem_of_find?_eq_some→yz,nodup_append→v0,foldl_append→v3,flatMap_cons→v8,any_cons→tU,range_succ→wd,of_mem_zip→we,nil_append→wf,length_zip→wg,forIn_cons→wh,filter_nil→wj,singleton_append→yE,getElem?_eq_none→yF,replicate→wm,map→q0,drop_zero→wn,getElem_of_mem→yL,zip_cons_cons→yS,take_sublist→yU,mem_flatMap→y1,map_id→wA,find?_some→y4
open PySem renaming wpAny_bind→aO,wpAny_pure→bN,starEach→cN,sizeLine→cP,wpAny_ite_false→iR,wpAny_mono→fA,NameKind→nG,wpAny_holding→jO,sizeLine_eq→jC,bootBuiltins→jW,PassesOwn→vt,compareOp→iU,FuncData→iK,wpAny_newObj_type→nI,wpAny_loadPart'→m5,wpAny_truthy_bool→oC,wpAny_loadPart_at→o5,wpAny_of_eq→mw,tupleKind→lL,mainGlobals→mM,keywordEach→mO,codeAny_builtin→o8,assignEach→my,wpAny_Call_Name_kw→qL,tupleKind_room_in1→qM,wpAny_pyIter_list→qO,codeAny_mono→oG,plainId_quiet→o9,wpAny_typeNameOfWhole_keyiter→vw,wpAny_field→oI,sysModules→nQ,wpAny_passesOwn→qQ,binaryOp→mz,wpAny_standAt→pY,mem_of_lookup→tF,wpAny_call→oJ,backToKw→mR,wpAny_typeNameOf_keyiter→vK,attributeBase→qS,wpAny_execs_nil→rL,wpAny_getItem_str_slice→vN,getMethod→oK,wpAny_setField→rN,wpAny_ite_true→rO,GenState→nR,wpAny_call_entry→tP,codeAny_call_builtin→vT,wpAny_specialOf→tT,wpAny_isSubtype_exc→vY,wpAny_typeOf→rV,call_meetsIn→rW,Arguments→p3,wpAny_loadPart→tV,Within→tX,excClassObj→rZ,behindInMarks→tZ,assignInOrder→t0,wpAny_callSpecial?_slot→yG,swapsWith→qZ,typeLookup→r0,post_val_or_str→wp,letOwnedTupleGo→wq,wpAny_notOrdered_dict→yN,callWith→q1,bindArgs→q2,DictEntry→r1,wpAny_attempt→wy,wpAny_rule→t5,fastLookup→t6,closureFor→t7,wpAny_dictEntries→y5,foldedSetIterable→y6,wpAny_execs_cons→za,subscripted→wB,wpAny_updateSeq→zd,wpAny_dictEpoch→ze,wpAny_seqItems→zf,callType_codes→zg,Addr→aB,Value→aE,Shared→aJ,Str→aA,Heap→bH,Expr→bI,Stmt→bO,Program→bS,World→bP,Around→bX,Obj→aZ,Env→eE,Scope→kA,wpAny→aU,model→aW
open PySem.W renaming Frag→bJ,findIn→lh,kia_one→nJ,kitOne→nK,keepIn→nL,emptyDict→o3,fnOf→m6,Looks→qI,instObj→pV,hideAll_get→tE,looks_findIn→pZ,codeIn→rJ,methodCall_KW→vL,plainGet→tJ,exmOne→tQ,callWith_K→vP,hasDictIn→vU,isFn→tW,cellsFrom_some→yA,lookIn→wc,plainGet_of→yH,looks_clsIn→yI,of_hideAll→yJ,specialIn→yO,methodObj→yP,takerIn→yV,makesIn→yW,hideAll→yX,exm_one→yY
open PySem.Heap renaming get?_push_of_some→cZ,lt_size→cW,get?_push_size→fP,get?_update_other→lU,get?_update_self→pQ,SameBut→m7,size_push→qR,get?_none_of_le→vO,size_update→y2,MadeExcOf→y9
open Nat renaming le_refl→bQ,ne_of_lt→dC,le_trans→dN,lt_of_lt_of_le→gT,zero_le→gU,pow_le_pow_right→o2,ne_of_gt→nN,lt_irrefl→oF,le_add_right→pU,le_succ→nO,mul_le_mul→pW,lt_succ_self→rH,lt_succ_of_lt→tK,lt_trans→rS,lt_of_le_of_lt→vW,le_succ_of_le→v9,le_of_eq→t1,mul_le_mul_left→yQ,le_of_lt→wv,add_le_add→zb
open Option.some renaming inj→eA
open Bool renaming false_ne_true→fQ,and_eq_true→fM,and_eq_true_iff→iJ,true_and→kX,eq_iff_iff→mK,false_eq_true→tH,eq_false_iff→tI,false_and→tS,or_eq_true_iff→yM,or_true→wt,true→aD,false→aK
open PySem.Value renaming ref→cU,none→iS,type→nP,int→pe,bool→t4
open Option renaming map_eq_some_iff→lJ,map_some→rI,toList→wo,isSome_map→yR,none→aF
open Int renaming emod_lt_of_pos→jB,emod_nonneg→hW,eq_ofNat_of_zero_le→l8,toNat_natCast→qN,zero_add→pa,le_trans→pb,add_mul→pd,one_mul→p0,mul_one→p1,natAbs_mul→rM,mul_left_comm→tL,mul_comm→qW,le_of_lt→qX,mul_le_mul_of_nonneg_right→yu,mul_assoc→rQ,neg_mul→qY,ediv_nonneg→tR,natCast_nonneg→vX,eq_of_mul_eq_mul_right→yx,mul_pos→rX,le_refl→rY,le_max_right→wa,add_zero→t2,natCast_mul→wl,mul_ediv_cancel'→yK,zero_mul→ww,gcd_dvd_right→y0,ediv_one→wx,neg_one_mul→y7,le_max_left→y8,mul_nonneg→zc
open PySem.F renaming plainAttrs_list→lT,type_list_append→mo,slot_list_append→mq,excBase_ValueError→qG,called_set→pS,plainAttrs_dict→rB,slot_dict_keyiterator_next→tr,slot_dict_get→rD,slot_dict_values→tw,type_dict_values→vC,entry_dict_get→vE,slot_list_getattribute→yD
open PySem.PassesOwn renaming never→jF
open PySem.NameKind renaming free→jG,cell→oE
open False renaming elim→gH
open PySem.Obj renaming mapSeq→iT,mapFields→l9,data_mapFields→qK,isFreed_of_fields→tz,cls_mapFields→yZ
open Array renaming length_toList→nH,getElem?_toList→rE,getElem?_eq_some_iff→vz,getElem?_eq_getElem→vB,size_push→wb
open PySem.SeqAt renaming EqAt→kv
open PyProof.Rows renaming callWith_type1→qF,slot_tuple_getitem→yt,get?_update_seq→wr,listUpdate_at→wz,assignInOrder_cons→y3
open ForInStep renaming yield→m4
open PySem.Around renaming under_plainId→pR
open PySem.Paired renaming nil→mx,cons→oH,length→pX,snoc→rU
open PySem.Calls renaming callWith_builtin→rC,evalArgs_plain→rF,spliced_cons→tG,spliced_nil→vZ
open True renaming intro→mQ
open PyProof.Rows.F renaming plain_set_update_loop→yr
open PySem.Builtin.Slice renaming slicePlaces→vv,sliceAdjust→yv
open PySem.Txt renaming slice→m9,slice_le→wu
open Sum.inr renaming inj→pc
open PySem.Builtin.Tuple renaming tupleExact→vx
open Classical renaming byContradiction→vy
open PySem.Builtin.Dict renaming updateFrom→vA
open PySem.Str renaming ofString→qV
open PySem.W.Looks renaming here→yB
open PySem.Walks renaming list→t3
open PySem.Code renaming quiet_builtin→yT
open Option renaming some→Z
open Sum renaming inr→C6,inl→G0
open Ne renaming symm→D4
open Or renaming inl→D5,inr→E1
open Int renaming gcd→D8
open Decidable renaming decide→G9
open PyProof.Rows renaming AllBare→H1,envOfC→J1,subscriptTail→J7,IntsAre→J9,subscriptTail_builtinR→KM,seqObj→K7,size_push'→K8
open PySem renaming eval→H5,isTrue→H6,spliced→H7,backTo→H8,wpAny_isTrue_Compare1→H9,holding→I0,pyNext→I1,pyIter→I2,rawInt→I3,wpAny_pyNext_list_item→I4,wpAny_pyNext_list_end→I5,codeAny→I6,plainObj_wpAny_Assign_Attribute→I7,cLine→I8,BindsTo→I9,Keyword→J0,cellsFrom→J2,wpAny_newFunctionEnv_cells→J3,valueAt→J4,atKey→J5,getItem→J6,IsPart→J8,wpAny_Call_method0_late→K0,callerA→K1,notedBy→K2,noteFrame→K3,wpAny_comprehension_free→K4,scanBound→K5,callAny→K6,argBest→K9,wpAny_isOneOf_keyiter→L0,setFlight→L1,codeAny_handlers_test→L3,codeAny_handlers_suite→L4,builtinsNs→L5
open PySem.W renaming kla_obj→L6,Frag→L7,findIn→L8
set_option Elab.async false
set_option linter.all false
set_option maxRecDepth 100000
def O.{u}{α:Sort u}{a:α}:a=a:=.refl a
def YR{p:Prop}(h:p:=by decide):p:=h
def YS{p:Prop}(h:p:=by decide +kernel):p:=h
def YT{p:Prop}(h:p:=by omega):p:=h
local macro_rules|`(tactic|trivial)=>`(tactic|first|exact D5 rfl|exact E1 rfl|exact E1 (D5 rfl)|exact E1 (E1 rfl)|assumption)
def YU.{u}{α:Sort u}{a:α}{q:Prop}:a=a\/q:=.inl O
def B0:=@decide_eq_true
def B1:=@decide_eq_false
def B2:=@of_decide_eq_true
def B3:=@if_neg
def B4:=@if_pos
def B5:=@decide_eq_true_iff
noncomputable def B6:=@absurd
def B7:=@congrArg
def B8:=@of_decide_eq_false
def B9:=@beq_self_eq_true
def C0:=@beq_iff_eq
def C1:=@beq_eq_false_iff_ne
def C3:=@decide_eq_decide
def C4:=@or_false
def C5:=@if_false
abbrev M6:=List Int
abbrev M4:=List aE
abbrev L9:=List aA
noncomputable section
namespace L2
open PySem PySem.Spec PyProof.Rows
abbrev aT:=Sum Int aA
abbrev M7:=List aT
noncomputable def q8:aT->aE->Bool
 |.inl k,v=>aE.isInt k v
 |.inr x,v=>aE.isStrOf x v
noncomputable def Vv(w:bP):aT->Int
 |.inl k=>hashInt k
 |.inr x=>hashStr w x
theorem n6:∀{k:aT} {v:aE},q8 k v=aD->(∃i t,k=G0 i/\v=pe i t)\/(∃x t,k=C6 x/\v=aE.str x t)
 |.inl i,v,h=>by
  obtain⟨t,e⟩:=aE.isInt_shape (k:=i) (v:=v) h;exact .inl ⟨i,t,O,e⟩
 |.inr x,v,h=>by
  obtain⟨t,e⟩:=aE.isStrOf_shape (x:=x) (v:=v) h;exact .inr ⟨x,t,O,e⟩
def Bx(i:Int)(t:Tok):q8 (.inl i) (.int i t)=aD:=by simp[q8,aE.isInt]
def Bv(x:aA)(t:Tok):q8 (.inr x) (.str x t)=aD:=by simp[q8,aE.isStrOf]
def TP(a b:Int):G9 ((G0 a:aT)=G0 b)=(a==b):=by
 by_cases e:a=b
 .subst e;simp
 .have h:¬(G0 a:aT)=G0 b:=λq=>e (G0.inj q);rw[B1 h];exact(C1.mpr e).symm
def TK(a b:aA):G9 ((C6 a:aT)=C6 b)=G9 (a=b):=by
 by_cases e:a=b
 .subst e;simp
 .have h:¬(C6 a:aT)=C6 b:=λq=>e (pc q);rw[B1 h,B1 e]
def TN(a:Int)(b:aA):G9 ((G0 a:aT)=C6 b)=aK:=B1 (λq=>nomatch q)
def TL(a:aA)(b:Int):G9 ((C6 a:aT)=G0 b)=aK:=B1 (λq=>nomatch q)
def dI(prog:bS)(w:bP):PySem.KeyKind prog w aT where
 is:=q8
 hash:=Vv w
 inj:=λv a b ha f=>by
  rcases n6 ha with ⟨i,t,rfl,rfl⟩|⟨x,t,rfl,rfl⟩
  .rcases n6 f with ⟨j,u,rfl,e⟩|⟨y,u,rfl,e⟩
   .injection e with c _;rw[c]
   .exact nomatch e
  .rcases n6 f with ⟨j,u,rfl,e⟩|⟨y,u,rfl,e⟩
   .exact nomatch e
   .injection e with c _;rw[c]
 byValue:=λk v h=>by
  rcases n6 h with ⟨i,t,rfl,rfl⟩|⟨x,t,rfl,rfl⟩<;>rfl
 pyHash:=λd h=>by
  rcases n6 d with ⟨i,t,rfl,rfl⟩|⟨x,t,rfl,rfl⟩
  .exact wpAny_pyHash_int h
  .exact wpAny_pyHash_str h
 eqBool:=λg d h=>by
  rcases n6 g with ⟨i,t,rfl,rfl⟩|⟨x,t,rfl,rfl⟩
  .rcases n6 d with ⟨j,u,rfl,rfl⟩|⟨y,u,rfl,rfl⟩
   .rw[TP]at h;exact wpAny_eqBool_int h
   .rw[TN]at h;exact kv.int_str i t y u _ _ _ _ h
  .rcases n6 d with ⟨j,u,rfl,rfl⟩|⟨y,u,rfl,rfl⟩
   .rw[TL]at h;exact kv.str_int x t j u _ _ _ _ h
   .rw[TK]at h;exact wpAny_eqBool_str h
 «strs»:=λk x t v h=>by
  rcases n6 h with ⟨i,u,rfl,e⟩|⟨y,u,rfl,e⟩
  .exact nomatch e
  .injection e with c _;subst c;cases v<;>rfl
def NP(prog:bS)(w:bP)(i:Int)(t:Tok):(dI prog w).is (.inl i) (.int i t)=aD:=Bx i t
def NO(prog:bS)(w:bP)(x:aA)(t:Tok):(dI prog w).is (.inr x) (.str x t)=aD:=Bv x t
inductive V where
 |non|bl (b:Bool)|int (i:Int)|str (x:aA)|byt (b:Array UInt8)|flt (b:UInt64)|ref (a:aB)|ty (n:String)
 deriving DecidableEq
abbrev M0:=List V
def cE:V->aE->Prop
 |.non,u=>u=iS
 |.bl b,u=>u=t4 b
 |.int i,u=>∃t,u=pe i t
 |.str x,u=>∃t,u=aE.str x t
 |.byt b,u=>∃t,u=aE.bytes b t
 |.flt b,u=>∃t,u=aE.float b t
 |.ref a,u=>u=cU a
 |.ty n,u=>u=nP n
abbrev cA:M0->M4->Prop:=Paired cE
def cA.length(r:cA xs us):xs.length=us.length:=pX r
theorem cA.get:∀{xs:M0} {us:M4} {i:Nat} {x:V},cA xs us->xs[i]?=Z x->∃u,us[i]?=Z u/\cE x u
 |_,_,_,_,.nil,e=>by simp at e
 |_,_,0,_,.cons r _,e=>by simp at e;subst e;exact⟨_,O,r⟩
 |_,_,i+1,x,.cons _ t,e=>by
  obtain⟨u,h1,h2⟩:=cA.get (i:=i) (x:=x) t (by simpa using e);exact⟨u,by simpa using h1,h2⟩
theorem cA.append:∀{xs ys:M0} {us ws:M4},cA xs us->cA ys ws->cA (xs++ys) (us++ws)
 |_,_,_,_,.nil,s=>s
 |_,_,_,_,.cons r t,s=>.cons r (cA.append t s)
theorem cA.take:∀{xs:M0} {us:M4} (n:Nat),cA xs us->cA (xs.take n) (us.take n)
 |_,_,0,_=>.nil
 |_,_,_+1,.nil=>.nil
 |_,_,n+1,.cons r t=>.cons r (cA.take n t)
theorem cA.drop:∀{xs:M0} {us:M4} (n:Nat),cA xs us->cA (xs.drop n) (us.drop n)
 |_,_,0,r=>r
 |_,_,_+1,.nil=>.nil
 |_,_,n+1,.cons _ t=>cA.drop n t
def lI:Option V->Option aE->Prop
 |some v,Z u=>cE v u
 |none,aF=>True
 |_,_=>False
def eL{f:Type}:List (f×V)->List (f×aE)->Prop:=Paired λ(p:f×V)(q:f×aE)=>p.1=q.1/\cE p.2 q.2
noncomputable def kV:aT->V
 |.inl i=>.int i
 |.inr x=>.str x
inductive cY where
 |lst (xs:M0)
 |tup (xs:M0)
 |dK (J:List (aT×V))|dT (J:List (M7×V))
 |set (S:Int->Bool) (n:Nat)
 |ins (C dx:aB) (fs:List (aA×V))
 |own (x:aB)
 |xd (fs:List (aA×V))
 |met (f x:aB)
 |rng (lo hi:Int)
 |frz (o:aZ) (u:cY)
 |tbl (ps:Array aE)
 |ext (φ:bH->Prop)
abbrev aC:=aB->Option cY
noncomputable def aI(H:aC)(a:aB)(o:cY):aC:=λb=>if b=a then Z o else H b
def YH{H:aC}{a b:aB}{o p:cY}(e:H a=Z o)(f:H b=Z p)(n:o≠p:=by nofun):a≠b:=λc=>n (eA ((show H b=Z o from c▸e).symm.trans f))
def aV:aI H a o a=Z o:=by unfold aI;rw[B4 O]
def bA(h:b≠a):aI H a o b=H b:=by unfold aI;rw[B3 h]
def Rk:aI (aI H a o) a u=aI H a u:=by
 funext b;unfold aI;split<;>rfl
def si{H:aC}{a b:aB}{o u:cY}(h:H a=Z o)(h':H b=Z u)(d:o≠u):a≠b:=by
 intro e;subst e;rw[h]at h';exact d (eA h')
def cX{H:aC}{a b:aB}{o:cY}(h:H a=Z o)(h':H b=aF):a≠b:=by
 intro e;subst e;rw[h]at h';cases h'
def qz(h:bH)(a:aB)(b:Array aE):Prop:=∃o,h.get? a=Z o/\o.cls=.type "tuple"/\∃n,o.data=.seq b n/\o.dict=aF
def qz.tup(x:qz h a b):IsTup h a b:=by
 obtain⟨o,e,c,n,d,_⟩:=x;exact⟨o,e,c,n,d⟩
def qz.new(h:bH)(a:Array aE):qz (h.push {cls:=.type "tuple",data:=.seq a}) h.objs.size a:=⟨_,fP _ O,O,_,O,O⟩
section
variable(P:bS)(w:bP)
def dQ(H:aC)(h:bH)(a:aB):cY->Prop
 |.lst xs=>xs.length<=cP/\∃(b:M4)(n:Nat),cA xs b/\h.get? a=Z {cls:=.type "list",data:=.seq b.toArray n}
 |.tup xs=>xs.length<=cP/\∃b:M4,cA xs b/\qz h a b.toArray
 |.dK J=>J.length<=cP/\(a==nQ)=aK/\∃vs,eL J vs/\h.DictOf (dI P w) a vs
 |.dT J=>J.length<=cP/\(a==nQ)=aK/\∃xs:List (M7×aB×aE),
   Paired (λ(p:M7×V)(q:M7×aB×aE)=>p.1=q.1/\H q.2.1=Z (.tup (p.1.map kV))/\cE p.2 q.2.2) J xs /\
   ∃o es ep,h.get? a=Z o/\o.ExactDict/\o.data=.dict es ep/\es.toList=xs.map (entryOfKey (lL (dI P w)))/\(xs.map (·.1)).Nodup
 |.set S n=>h.SetOf (intKind P w) a S n
 |.ins C dx fs=>H dx=Z (.own a)/\fs.length<=1000/\dx≠a/\h.get? a=Z (pV C dx) /\
   ∃T,h.Ns1 dx T/\(∀f,lI (fs.lookup f) (T f))/\tX T (fs.map (·.1))
 |.own _=>∃o,h.get? a=Z o
 |.xd fs=>∃T,h.Ns1 a T/\∀f,lI (fs.lookup f) (T f)
 |.rng lo hi=>∃t u v,h.get? a=Z {cls:=.type "range",data:=.fields #[.int lo t,.int hi u,.int 1 v]}
 |.frz o u=>h.get? a=Z o/\dQ H h a u
 |.tbl ps=>h.get? a=Z {cls:=.none,data:=.fields ps}
 |.met f x=>h.get? a=Z (yP (.ref f) (.ref x))
 |.ext c=>c h/\(∃o,h.get? a=Z o)/\∀h1 h2:bH,c h1->(∀o,h1.get? a=Z o->h2.get? a=Z o)->c h2
def dL(H:aC)(h:bH):Prop:=∀a o,H a=Z o->dQ P w H h a o
end
section
variable{P:bS}{w:bP}{H H':aC}{h h':bH}{a:aB}{o:cY}
def dQ.lt(x:dQ P w H h a o):a<h.objs.size:=by
 cases o with
 |lst xs=>obtain⟨_,_,_,_,e⟩:=x;exact cW e
 |tup xs=>obtain⟨_,_,_,_,e,_⟩:=x;exact cW e
 |dK J=>obtain⟨_,_,_,_,o,_,_,e,_⟩:=x;exact cW e
 |dT J=>obtain⟨_,_,_,_,o,_,_,e,_⟩:=x;exact cW e
 |set S n=>obtain⟨o,_,_,_,e,_⟩:=x;exact cW e
 |ins C dx fs=>obtain⟨_,_,_,e,_⟩:=x;exact cW e
 |own y=>obtain⟨_,e⟩:=x;exact cW e
 |xd fs=>obtain⟨_,⟨_,_,_,e,_⟩,_⟩:=x;exact cW e
 |rng lo hi=>obtain⟨_,_,_,e⟩:=x;exact cW e
 |frz b u=>obtain⟨e,_⟩:=x;exact cW e
 |tbl ps=>exact cW (show h.get? a=Z _ from x)
 |met f y=>exact cW (show h.get? a=Z _ from x)
 |ext c=>obtain⟨_,⟨_,e⟩,_⟩:=x;exact cW e
def Paired.mapP{q p:Type}{F G:q->p->Prop}{c:List q}{d:List p}(h:Paired F c d)(f:∀a b,F a b->G a b):Paired G c d:=by
 induction h with
 |nil=>exact .nil
 |cons r _ i=>exact .cons (f _ _ r) i
def dQ.stay(x:dQ P w H h a o)(k:∀b u,(b=a\/H b=Z (.own a))->h.get? b=Z u->h'.get? b=Z u)
 (m:∀b,H b=Z (.own a)->H' b=Z (.own a))(s:∀b xs,H b=Z (.tup xs)->H' b=Z (.tup xs)):dQ P w H' h' a o:=by
 induction o with
 |lst xs=>obtain⟨g,j,n,r,e⟩:=x;exact⟨g,j,n,r,k _ _ YU e⟩
 |tup xs=>obtain⟨g,j,r,i,e,c⟩:=x;exact⟨g,j,r,i,k _ _ YU e,c⟩
 |dK J=>obtain⟨g,y,vs,r,i,es,ep,e,c⟩:=x;exact⟨g,y,vs,r,i,es,ep,k _ _ YU e,c⟩
 |dT J=>
  obtain⟨g,y,xs,r,i,es,ep,e,c⟩:=x;exact⟨g,y,xs,Paired.mapP r λp q g=>⟨g.1,s _ _ g.2.1,g.2.2⟩,i,es,ep,k _ _ YU e,c⟩
 |set S n=>obtain⟨i,es,ep,t,e,c⟩:=x;exact⟨i,es,ep,t,k _ _ YU e,c⟩
 |ins C dx fs=>
  obtain⟨d,g,z,e,T,⟨l,es,ep,A,c⟩,r⟩:=x;exact⟨m _ d,g,z,k _ _ YU e,T,⟨l,es,ep,k _ _ (.inr d) A,c⟩,r⟩
 |own y=>obtain⟨i,e⟩:=x;exact⟨i,k _ _ YU e⟩
 |xd fs=>obtain⟨T,⟨l,es,ep,e,c⟩,r⟩:=x;exact⟨T,⟨l,es,ep,k _ _ YU e,c⟩,r⟩
 |rng lo hi=>obtain⟨t,u,v,e⟩:=x;exact⟨t,u,v,k _ _ YU e⟩
 |frz i u B=>obtain⟨e,q⟩:=x;exact⟨k _ _ YU e,B q⟩
 |tbl ps=>
  have e:h.get? a=Z {cls:=.none,data:=.fields ps}:=x;show h'.get? a=Z {cls:=.none,data:=.fields ps};exact k a _ YU e
 |met f y=>
  have e:h.get? a=Z (yP (.ref f) (.ref y)):=x;show h'.get? a=Z (yP (.ref f) (.ref y));exact k a _ YU e
 |ext D=>obtain⟨p,⟨o,e⟩,st⟩:=x;exact⟨st _ _ p λo q=>k _ _ YU q,⟨o,k _ _ YU e⟩,st⟩
def dL.lt(x:dL P w H h)(e:H a=Z o):a<h.objs.size:=(x a o e).lt
def dL.fresh(x:dL P w H h)(e:h.objs.size<=a):H a=aF:=by
 cases q:H a with
 |none=>rfl
 |some u=>exact B6 (gT (x.lt q) e) (oF _)
def dL.kept(x:dL P w H h)(k:∀b u,h.get? b=Z u->h'.get? b=Z u):dL P w H h':=λa o e=>
 (x a o e).stay (λb u _ q=>k b u q) (λ_ q=>q) λ_ _ q=>q
def dL.laid(x:dL P w H h)(k:∀ b u,h.get? b=Z u→h'.get? b=Z u)(f:h.objs.size≤a)(new:dQ P w (aI H a o) h' a o):dL P w (aI H a o) h':=fun b u e=>by
 have hn:=x.fresh f;by_cases d:b=a
 ·subst d;rw[aV] at e;cases e;exact new
 ·rw[bA d] at e;exact (x b u e).stay (fun c v _ q=>k c v q) (fun c q=>by rw[bA (cX q hn)];exact q) fun c xs q=>by rw[bA (cX q hn)];exact q
end
def eM(H:aC)(a:aB)(u:cY):Prop:=H a=Z u\/∃o,H a=Z (.frz o u)
def eM.ok(r:eM H a u)(x:dL P w H h):dQ P w H h a u:=by
 rcases r with r|⟨o,r⟩
 .exact x a u r
 .obtain⟨_,q⟩:=x a _ r;exact q
def r6:Option cY->Prop
 |some (.lst _)=>True
 |some (.dK _)=>True
 |some (.dT _)=>True
 |some (.set _ _)=>True
 |some (.ins _ _ _)=>True
 |some (.ext _)=>True
 |_=>False
section
variable{P:bS}{w:bP}{H:aC}{h h':bH}{x e:aB}{o':cY}
def dL.write(m:dL P w H h)(a:r6 (H x))(i:e=x\/H e=Z (.own x))(k:∀b u,b≠e->h.get? b=Z u->h'.get? b=Z u)(n:∃u,h'.get? e=Z u)
 (new:dQ P w (aI H x o') h' x o'):dL P w (aI H x o') h':=λb u q=>by
 have j:∀c y,H c=Z (.own y)->c≠x:=λc y r z=>by subst z;rw[r]at a;exact a
 have o:∀c xs,H c=Z (.tup xs)->c≠x:=λc xs r z=>by subst z;rw[r]at a;exact a
 by_cases d:b=x
 .subst d;rw[aV]at q;cases q;exact new
 .rw[bA d]at q;by_cases f:b=e
  .have l:H b=Z (.own x):=by
    rcases i with z|z
    .exact B6 (f.trans z) d
    .rw[f];exact z
   rw[q]at l;cases l;obtain⟨v,p⟩:=n;exact⟨v,by rw[f];exact p⟩
  .refine(m b u q).stay (λc v g r=>k c v ?_ r) (λc r=>by rw[bA (j c b r)];exact r) λc xs r=>by rw[bA (o c xs r)];exact r
   rcases g with rfl|g
   .exact f
   .rintro rfl;rcases i with z|z
    .exact j c b g z
    .rw[g]at z;cases z;exact d O
end
structure eJ (fs ex:List aB) (H H':aC) (h h':bH):Prop where
 keep:∀b o,h.get? b=Z o->H b=aF->b∉fs->b∉ex->h'.get? b=Z o
 slot:∀b o,h.get? b=Z o->H b=aF->b∈fs->b∉ex->∃sl,h'.get? b=Z {o with slots:=sl}
 free:∀b o,h.get? b=Z o->H b=aF->b∉ex->H' b=aF
 there:∀b o,h.get? b=Z o->b∉ex->∃o',h'.get? b=Z o'
 tups:∀b xs,H b=Z (.tup xs)->H' b=Z (.tup xs)
 frzs:∀b o u,H b=Z (.frz o u)->H' b=Z (.frz o u)
 tbls:∀b ps,H b=Z (.tbl ps)->∃more,H' b=Z (.tbl (ps++more))
section
variable{fs s ex a7:List aB}{H z H2:aC}{h h1 h2 h':bH}{a x e:aB}{o:cY}
def eJ.any(u:eJ fs ex H z h h1){a:aZ}(q:h.get? b=Z a)(n:H b=aF)(c:b∉ex):∃e,h1.get? b=Z {a with slots:=e}:=by
 by_cases d:b∈fs
 .exact u.slot b a q n d c
 .exact⟨a.slots,u.keep b a q n d c⟩
def eJ.trans(a:eJ fs ex H z h h1)(b:eJ fs ex z H2 h1 h2):eJ fs ex H H2 h h2 where
 keep:=λc d q n g e=>b.keep c d (a.keep c d q n g e) (a.free c d q n e) g e
 slot:=λc d q n g e=>by
  obtain⟨m,f⟩:=a.slot c d q n g e;obtain⟨j,i⟩:=b.slot c _ f (a.free c d q n e) g e;exact⟨j,i⟩
 free:=λc d q n e=>by
  obtain⟨o',f⟩:=a.there c d q e;exact b.free c o' f (a.free c d q n e) e
 there:=λc d q e=>by
  obtain⟨o',f⟩:=a.there c d q e;exact b.there c o' f e
 tups:=λc xs q=>b.tups c xs (a.tups c xs q)
 frzs:=λc d xs q=>b.frzs c d xs (a.frzs c d xs q)
 tbls:=λc ps q=>by
  obtain⟨k,f⟩:=a.tbls c ps q;obtain⟨l,i⟩:=b.tbls c _ f;exact⟨k++l,by rw[i,Array.append_assoc]⟩
def eJ.kept(k:∀b u,h.get? b=Z u->h'.get? b=Z u):eJ fs ex H H h h' :=
 ⟨λb a q _ _ _=>k b a q,λb a q _ _ _=>⟨a.slots,k b a q⟩,λ_ _ _ n _=>n,λb a q _=>⟨a,k b a q⟩,λ_ _ q=>q,λ_ _ _ q=>q,λ_ ps q=>⟨#[],by rw[q];simp⟩⟩
def eJ.refl:eJ fs ex H H h h:=eJ.kept λ_ _ q=>q
def eJ.laid(k:∀ b u,h.get? b=Z u→h'.get? b=Z u)(c:h.objs.size≤a)(hn:H a=aF):eJ fs ex H (aI H a o) h h' where
 keep:=fun b u q _ _ _=>k b u q
 slot:=fun b u q _ _ _=>⟨u.slots,k b u q⟩
 free:=fun b u q n _=>by rw[bA (dC (gT (cW q) c))];exact n
 there:=fun b u q _=>⟨u,k b u q⟩
 tups:=fun b xs q=>by rw[bA (cX q hn)];exact q
 frzs:=fun b u xs q=>by rw[bA (cX q hn)];exact q
 tbls:=fun b ps q=>⟨#[],by rw[bA (cX q hn),q];simp⟩
def eJ.write(c:r6 (H x))(i:e=x\/H e=Z (.own x))(k:∀b u,b≠e->h.get? b=Z u->h'.get? b=Z u)(j:∃u,h'.get? e=Z u):eJ fs ex H (aI H x o) h h':=by
 have d:∀b,H b=aF->b≠x:=λb n a=>by subst a;rw[n]at c;exact c
 have f:∀b,H b=aF->b≠e:=λb n a=>by
  subst a;rcases i with r|r
  .exact d b n r
  .rw[n]at r;cases r
 have hm:∀b u,H b=Z u->¬r6 (Z u)->b≠x:=λb u q nm a=>by subst a;rw[q]at c;exact nm c
 refine⟨λb u q n _ _=>k b u (f b n) q,λb u q n _ _=>⟨u.slots,k b u (f b n) q⟩,λb u q n _=>by rw[bA (d b n)];exact n,λb u q _=>?_,
  λb xs q=>by rw[bA (hm b _ q λa=>a)];exact q,λb u xs q=>by rw[bA (hm b _ q λa=>a)];exact q,λb ps q=>⟨#[],by rw[bA (hm b _ q λa=>a),q];simp⟩⟩
 by_cases g:b=e
 .subst g;exact j
 .exact⟨u,k b u g q⟩
end
noncomputable def xZ(h:bH)(H:aC):List aB:=(eG h.objs.size).filter λa=>(H a).isSome
def oP(h:bH)(H:aC):bH:=yX h (xZ h H)
def PJ(h:bH)(H:aC):(oP h H).objs.size=h.objs.size:=PySem.W.hideAll_size _ _
def QO(e:h.get? b=Z o)(n:H b=aF):(oP h H).get? b=Z o:=
 tE _ e λhm=>by
  have q:(H b).isSome=aD:=(gM.mp hm).2;rw[n]at q;simp at q
def Sa(e:(oP h H).get? b=Z o):h.get? b=Z o/\H b=aF:=by
 have a:h.get? b=Z o:=yJ (xZ h H) e;refine⟨a,?_⟩;cases q:H b with
 |none=>rfl
 |some x=>
  have hm:b∈xZ h H:=gM.mpr ⟨kN.mpr (cW a),by simp[q]⟩;have c:(oP h H).get? b=aF:=PySem.W.hideAll_none (xZ h H) hm;rw[c]at e;cases e
noncomputable def SG(g h:bH)(L:aB):List (aB×aZ):=(eG h.objs.size).filterMap λa=>if a=L\/(g.get? a).isSome=aD then aF else(h.get? a).map λo=>(a,o)
def rest(g h:bH)(L d:aB):List (aB×aZ):=(SG g h L).filter λp=>G9 (p.1≠d)
structure Mod (K:bJ) (mg:aA->Option aE) (b_:bH):Prop where
 kin:K.In b_
 glob:b_.Ns mM mg
 blt:∃mb,b_.Ns L5 mb/\∀x:aA,x≠"__name__"->mb x=jW x
 nolimit:b_.NoLimit
structure aX where
 prog:bS
 w:bP
 K:bJ
 mg:aA->Option aE
 b_:bH
 A:bX
 N:L9
 s₀:aJ
 H₀:aC
 env:eE
 o_:List eE
 stack:List eE
 ex:List aB
 fn:aA->Bool
 calm:Bool
 pn:List (aB×aZ)
 xe:aE->aJ->Prop
noncomputable def gL(l:List eE):List aB:=l.filterMap (·.frame)
abbrev aX.fs (X:aX):List aB:=gL X.o_
def sb(a:kA)(x:aA):Prop:=a.names.lookup x=Z .local\/a.names.lookup x=Z .cell\/a.names.lookup x=Z .free
def Loc(a:kA)(x:aA):Prop:=a.names.lookup x=Z .local\/a.names.lookup x=Z .cell
def We(env:eE)(h:bH)(m:aA->Option aE)(x:aA)(u:aE):Prop:=
 (env.kindOf x=Z .local/\m x=Z u)\/((env.kindOf x=Z .cell\/env.kindOf x=Z .free)/\∃c,env.cells.lookup x=Z c/\h.IsCell c (Z u))
structure aX.Ok (X:aX):Prop where
 mod:Mod X.K X.mg X.b_
 kind:X.env.scope.kind=.function
 glob:X.env.globals=mM
 blt:X.env.builtins=L5
 above:X.s₀.heap.objs.size<=X.env.locals
 inj:∀x y c,X.env.cells.lookup x=Z c->X.env.cells.lookup y=Z c->x=y
 has:∀x,(X.env.kindOf x=Z .cell\/X.env.kindOf x=Z .free)->∃c,X.env.cells.lookup x=Z c
 cab:∀x c,X.fn x=aD->X.env.cells.lookup x=Z c->X.s₀.heap.objs.size<=c
 hd:X.calm=aD->X.A.handled=aF
 frames:X.A.frames=Z X.stack
 stk:X.stack=X.o_\/(X.stack=X.env::X.o_/\X.env.frame=Z X.env.locals)
 exf:∀b∈X.ex,b≠X.env.locals/\∀x c,X.env.cells.lookup x=Z c->c≠b
 bs:∀b o,X.b_.get? b=Z o->X.s₀.heap.get? b=Z o/\X.H₀ b=aF
 bsz:X.b_.objs.size<=X.s₀.heap.objs.size
 noex:∀b o,X.b_.get? b=Z o->b∉X.ex
 exfs:∀b∈X.ex,b∉X.fs
 funs:X.s₀.heap.FunFrames X.b_ X.o_
 frf:∀b∈X.fs,X.H₀ b=aF
structure Inv (X:aX) (U:List (aB×aZ)) (Y:List (Option V)) (H:aC) (s:aJ):Prop where
 ok:X.Ok
 os:s.os=X.s₀.os
 bare:H1 s.gens
 b_:eJ X.fs X.ex X.H₀ H X.s₀.heap s.heap
 loc:∃m,s.heap.Ns X.env.locals m/\∀(i:Nat)(x:aA)(v:V),X.N[i]?=Z x->Y[i]?=Z (Z v)->sb X.env.scope x->∃u,cE v u/\We X.env s.heap m x u
 cell:∀x c,X.env.cells.lookup x=Z c->∃v,s.heap.IsCell c v
 free:H X.env.locals=aF
 freeC:∀x c,X.env.cells.lookup x=Z c->H c=aF
 pin:∀p∈X.pn++U,s.heap.get? p.1=Z p.2/\H p.1=aF/\p.1≠X.env.locals/\p.1∉X.fs/\∀v,p.2.data≠.cell v
 hok:dL X.prog X.w H s.heap
 len:Y.length=X.N.length
section
variable{X:aX}{U:List (aB×aZ)}{Y:List (Option V)}{H H':aC}{s:aJ}{h':bH}
def aX.Ok.nofr(a:X.Ok)(e:X.b_.get? b=Z o):b∉X.fs:=λc=>by
 have:=(a.funs.mem c).1;rw[e]at this;cases this
def Inv.bs(I:Inv X U Y H s):∀b o,X.b_.get? b=Z o->s.heap.get? b=Z o/\H b=aF:=λb o e=>
 ⟨I.b_.keep b o (I.ok.bs b o e).1 (I.ok.bs b o e).2 (I.ok.nofr e) (I.ok.noex b o e),I.b_.free b o (I.ok.bs b o e).1 (I.ok.bs b o e).2 (I.ok.noex b o e)⟩
def Inv.bk(I:Inv X U Y H s):∀b o,X.b_.get? b=Z o->s.heap.get? b=Z o:=λb o e=>(I.bs b o e).1
def Inv.mod(I:Inv X U Y H s):Mod X.K X.mg X.b_:=I.ok.mod
def Inv.kIn(I:Inv X U Y H s):X.K.In s.heap:=I.ok.mod.kin.keeps I.bk
def Inv.fr(I:Inv X U Y H s):∃m,Fr X.b_ X.env.locals s.heap m:=
 let ⟨m,a,_⟩:=I.loc
 ⟨m,a,I.bk,dN I.ok.bsz I.ok.above⟩
def Inv.lt(I:Inv X U Y H s):X.env.locals<s.heap.objs.size:=let ⟨_,a,_⟩:=I.loc;a.lt
def Inv.sz(I:Inv X U Y H s):X.s₀.heap.objs.size<=s.heap.objs.size:=dN I.ok.above (wv I.lt)
def Inv.nofs(I:Inv X U Y H s)(h:s.heap.objs.size<=a):a∉X.fs:=λb=>by
 obtain⟨_,o,c,_⟩:=I.ok.funs.mem b;exact B6 (gT (cW c) (dN I.sz h)) (oF _)
def Inv.cne(I:Inv X U Y H s):∀x c,X.env.cells.lookup x=Z c->c≠X.env.locals:=λx c e d=>by
 obtain⟨v,o,a,b⟩:=I.cell x c e;obtain⟨m,⟨o',es,ep,f,g,_⟩,_⟩:=I.loc;rw[d,f]at a;cases a;rw[g]at b;cases b
def Inv.funs(I:Inv X U Y H s):s.heap.FunFrames X.b_ X.o_:=by
 have all:∀(l:List eE),(∀b∈gL l,b∈X.fs)->X.s₀.heap.FunFrames X.b_ l->s.heap.FunFrames X.b_ l:=by
  intro l
  induction l with
  |nil=>intro _ _;trivial
  |cons env r g=>
   intro f h;obtain⟨i,⟨L,o,a,j,k,m⟩,n⟩:=h;have c:L∈X.fs:=f L (by unfold gL;rw[rG,a];exact eB);obtain⟨q,e⟩:=I.b_.slot L o k (I.ok.frf L c) c λp=>I.ok.exfs L p c;exact⟨i,⟨L,_,a,j,e,m⟩,g (λb d=>f b (by unfold gL;rw[rG,a];exact eK _ d)) n⟩
 exact all X.o_ (λ_ d=>d) I.ok.funs
def Inv.stack(I:Inv X U Y H s):s.heap.FunFrames X.b_ X.stack:=by
 rcases I.ok.stk with e|⟨e,a⟩
 .rw[e];exact I.funs
 .rw[e];obtain⟨m,b,_⟩:=I.loc;refine .cons (by rw[I.ok.kind];decide) a b ?_ I.funs;exact vO (dN I.ok.bsz I.ok.above)
def Inv.stkSub(I:Inv X U Y H s):∀b∈gL X.stack,b∈X.env.locals::X.fs:=λb a=>by
 rcases I.ok.stk with e|⟨e,c⟩
 .rw[e]at a;exact eK _ a
 .rw[e]at a;unfold gL at a;rw[rG,c]at a;exact a
def Inv.stkFree(I:Inv X U Y H s):∀b∈gL X.stack,H b=aF:=λb a=>by
 rcases dW.mp (I.stkSub b a) with e|a
 .rw[e];exact I.free
 .obtain⟨_,o,c,_⟩:=I.ok.funs.mem a;exact I.b_.free b o c (I.ok.frf b a) λd=>I.ok.exfs b d a
def Inv.step{g':Array nR}{t':Nat}{d':Drawn}{ch:List aB}(I:Inv X U Y H s)
 (j:∀b∈ch,(b∈X.ex\/X.s₀.heap.objs.size<=b)/\b≠X.env.locals/\(∀x c,X.env.cells.lookup x=Z c->c≠b)/\∀p∈X.pn++U,p.1≠b)
 (A:∀b o,b≠X.env.locals->b∉X.fs->b∉ch->s.heap.get? b=Z o->H b=aF->h'.get? b=Z o)
 (D:∀b o,b≠X.env.locals->b∈X.fs->b∉ch->s.heap.get? b=Z o->H b=aF->∃B,h'.get? b=Z {o with slots:=B})(free:∀b o,b∉ch->s.heap.get? b=Z o->H b=aF->H' b=aF)
 (there:∀b o,b∉ch->s.heap.get? b=Z o->∃o',h'.get? b=Z o')
 (Q:∀b xs,H b=Z (.tup xs)->H' b=Z (.tup xs))(T:∀b o u,H b=Z (.frz o u)->H' b=Z (.frz o u))(a0:∀b ps,H b=Z (.tbl ps)->∃a1,H' b=Z (.tbl (ps++a1)))
 (ns:∀m,s.heap.Ns X.env.locals m->h'.Ns X.env.locals m)(a2:dL X.prog X.w H' h')(a3:H1 g') :
  Inv X U Y H' {s with heap:=h',gens:=g',drawn:=d',toks:=t'}:=by
 have E:∀b o,X.s₀.heap.get? b=Z o->b≠X.env.locals:=λb o e=>dC (gT (cW e) I.ok.above);have y:∀b o,X.s₀.heap.get? b=Z o->b∉X.ex->b∉ch:=λb o e a g=>by
  rcases (j b g).1 with z|z
  .exact a z
  .exact B6 (gT (cW e) z) (oF _)
 have G:∀x c,X.env.cells.lookup x=Z c->∀v,s.heap.IsCell c v->h'.IsCell c v:=λx c e v ⟨o,h,C⟩=>by
  have t:c∉ch:=λz=>(j c z).2.2.1 x c e O;by_cases J:c∈X.fs
  .obtain⟨B,q⟩:=D c o (I.cne x c e) J t h (I.freeC x c e);exact⟨_,q,C⟩
  .exact⟨o,A c o (I.cne x c e) J t h (I.freeC x c e),C⟩
 refine⟨I.ok,I.os,a3,⟨λb o e n g a=>?_,λb o e n g a=>?_,λb o e n a=>?_,λb o e a=>?_,λb xs e=>Q b xs (I.b_.tups b xs e),λb o xs e=>T b o xs (I.b_.frzs b o xs e),λb ps e=>?_⟩,?_,λx c e=>?_,?_,λx c e=>?_,λp L=>?_,a2,I.len⟩
 .exact A b o (E b o e) g (y b o e a) (I.b_.keep b o e n g a) (I.b_.free b o e n a)
 .obtain⟨B,f⟩:=I.b_.slot b o e n g a;obtain⟨a4,w⟩:=D b _ (E b o e) g (y b o e a) f (I.b_.free b o e n a);exact⟨a4,w⟩
 .obtain⟨o',f⟩:=I.b_.there b o e a;exact free b o' (y b o e a) f (I.b_.free b o e n a)
 .obtain⟨o',f⟩:=I.b_.there b o e a;exact there b o' (y b o e a) f
 .obtain⟨a5,f⟩:=I.b_.tbls b ps e;obtain⟨a6,w⟩:=a0 b _ f;exact⟨a5++a6,by rw[w,Array.append_assoc]⟩
 .obtain⟨m,a7,a8⟩:=I.loc;refine⟨m,ns m a7,λi x v f w a9=>?_⟩;obtain⟨u,r,l⟩:=a8 i x v f w a9;refine⟨u,r,?_⟩;rcases l with l|⟨k,c,e,z⟩
  .exact .inl l
  .exact .inr ⟨k,c,e,G x c e _ z⟩
 .obtain⟨v,z⟩:=I.cell x c e;exact⟨v,G x c e v z⟩
 .obtain⟨m,⟨o,_,_,h,_⟩,_⟩:=I.loc;exact free _ o (λz=>(j _ z).2.1 O) h I.free
 .obtain⟨v,o,h,C⟩:=I.cell x c e;exact free c o (λz=>(j c z).2.2.1 x c e O) h (I.freeC x c e)
 .obtain⟨e,n,M,N,d⟩:=I.pin p L;have t:p.1∉ch:=λz=>(j p.1 z).2.2.2 p L O;exact⟨A p.1 p.2 M N t e n,free p.1 p.2 t e n,M,N,d⟩
def Inv.un{t':Nat}(I:Inv X U Y H s)(u:eJ X.fs [] H H' s.heap h')(f:dL X.prog X.w H' h'):Inv X U Y H' {s with heap:=h',toks:=t'}:=by
 obtain⟨m,⟨o,es,ep,c,r⟩,_⟩:=id I.loc;obtain⟨l,g⟩:=u.any c I.free (by simp);exact I.step (g':=s.gens) (d':=s.drawn) (ch:=[]) (λ_ h=>nomatch h) (λb o _ a _ e n=>u.keep b o e n a (by simp)) (λb o _ a _ e n=>u.slot b o e n a (by simp)) (λb o _ e n=>u.free b o e n (by simp)) (λb o _ e=>u.there b o e (by simp)) u.tups u.frzs u.tbls (λp hm=>by
  obtain⟨o',i,j,d,k⟩:=hm;rw[c]at d;cases d;exact⟨_,i,j,g,k⟩) f I.bare
def Inv.call{g':Array nR}{t':Nat}{d':Drawn}{ch:List aB}(I:Inv X U Y H s)(u:eJ (gL X.stack) ch H H' s.heap h')(j:dL X.prog X.w H' h')(k:H1 g')
 (g:∀b∈ch,(b∈X.ex\/X.s₀.heap.objs.size<=b)/\b≠X.env.locals/\(∀x c,X.env.cells.lookup x=Z c->c≠b)/\∀p∈X.pn++U,p.1≠b) :
  Inv X U Y H' {s with heap:=h',gens:=g',drawn:=d',toks:=t'}:=by
 obtain⟨m,⟨o,es,ep,h,r⟩,_⟩:=id I.loc;obtain⟨y,d⟩:=u.any h I.free λf=>(g _ f).2.1 O;exact I.step (ch:=ch) g (λb o d l a e n=>u.keep b o e n (λf=>(dW.mp (I.stkSub b f)).elim d l) a) (λb o _ _ a e n=>u.any e n a) (λb o a e n=>u.free b o e n a) (λb o a e=>u.there b o e a) u.tups u.frzs u.tbls (λz hm=>by
  obtain⟨o',q,t,i,w⟩:=hm;rw[h]at i;cases i;exact⟨_,q,t,d,w⟩) j k
def Inv.turned{t':Nat}(I:Inv X U Y H s)(k:∀b o,b≠G->s.heap.get? b=Z o->h'.get? b=Z o)(g:H G=aF)(d:G≠X.env.locals)
 (h1:G∈X.ex\/X.s₀.heap.objs.size<=G)(h2:∀x c,X.env.cells.lookup x=Z c->c≠G)(h:∀p∈X.pn++U,p.1≠G):Inv X U Y H {s with heap:=h',toks:=t'}:=by
 have f:∀b u,H b=Z u->b≠G:=λb u e z=>by rw[z,g]at e;cases e
 refine I.step (g':=s.gens) (d':=s.drawn) (ch:=[G]) (λb i=>?_) (λb o _ _ a e _=>k b o (λz=>a (by simp[z])) e) (λb o _ _ a e _=>⟨o.slots,k b o (λz=>a (by simp[z])) e⟩) (λ_ _ _ _ n=>n)
  (λb o a e=>⟨o,k b o (λz=>a (by simp[z])) e⟩) (λ_ _ e=>e) (λ_ _ _ e=>e) (λb ps e=>⟨#[],by rw[e];simp⟩) (λm hm=>?_) (λb u e=>?_) I.bare
 .have e:b=G:=by simpa using i
  subst e;exact⟨h1,d,h2,h⟩
 .obtain⟨o,es,ep,j,r⟩:=hm;exact⟨o,es,ep,k _ o (D4 d) j,r⟩
 .refine(I.hok b u e).stay (λc v a q=>k c v ?_ q) (λ_ q=>q) λ_ _ q=>q;rcases a with z|z
  .rw[z];exact f b u e
  .exact f c _ z
def Inv.tok(I:Inv X U Y H s)(t:Nat):Inv X U Y H {s with toks:=t}:=I.un (h':=s.heap) (t':=t) eJ.refl I.hok
def Inv.kept(I:Inv X U Y H s)(k:∀b u,s.heap.get? b=Z u->h'.get? b=Z u):Inv X U Y H {s with heap:=h',toks:=t'}:=I.un (eJ.kept k) (I.hok.kept k)
def Inv.laid(I:Inv X U Y H s)(k:∀b u,s.heap.get? b=Z u->h'.get? b=Z u)(c:s.heap.objs.size<=a)(new:dQ X.prog X.w (aI H a o) h' a o) :
  Inv X U Y (aI H a o) {s with heap:=h',toks:=t'}:=I.un (eJ.laid k c (I.hok.fresh c)) (I.hok.laid k c new)
def Inv.write(I:Inv X U Y H s)(a:r6 (H x))(c:e=x\/H e=Z (.own x))(k:∀b u,b≠e->s.heap.get? b=Z u->h'.get? b=Z u)(d:∃u,h'.get? e=Z u)
 (new:dQ X.prog X.w (aI H x o) h' x o):Inv X U Y (aI H x o) {s with heap:=h',toks:=t'}:=I.un (eJ.write a c k d) (I.hok.write a c k d new)
def Inv.weak(I:Inv X U Y H s)(a:σ'.length=Y.length)(w:∀(i:Nat) v,σ'[i]?=Z (Z v)->Y[i]?=Z (Z v)):Inv X U σ' H s:=
 ⟨I.ok,I.os,I.bare,I.b_,let ⟨m,b,c⟩:=I.loc;⟨m,b,λi x v d e f=>c i x v d (w i v e) f⟩,I.cell,I.free,I.freeC,I.pin,I.hok,a.trans I.len⟩
def Inv.pins_of(I:Inv X U Y H s)(h:∀p∈pins',s.heap.get? p.1=Z p.2/\H p.1=aF/\p.1≠X.env.locals/\p.1∉X.fs/\∀v,p.2.data≠.cell v):Inv X pins' Y H s:=
 ⟨I.ok,I.os,I.bare,I.b_,I.loc,I.cell,I.free,I.freeC,λp a=>(gN.mp a).elim (λb=>I.pin p (o1 _ b)) (h p),I.hok,I.len⟩
def zx{N:L9}(c:N.Nodup){i j:Nat}{x:aA}(a:N[i]?=Z x)(b:N[j]?=Z x):i=j:=by
 obtain⟨h1,d⟩:=cR.mp a;obtain⟨h2,e⟩:=cR.mp b;exact(tM c).mp (d.trans e.symm)
def Pe{M:Model}{E:aE->aJ->Prop}{i:Nat}{x:aA}{Q:Unit->aJ->Prop}(I:Inv X U Y H s)(a8:X.N.Nodup)(hi:X.N[i]?=Z x)(t:Loc X.env.scope x)(r:cE v u)
 (h:∀L,Inv X U (Y.set i (Z v)) H L->(∃a,m7 a s.heap L.heap/\(a=X.env.locals\/X.env.cells.lookup x=Z a))->Q () L)(aj:X.fn x=aD\/X.env.scope.names.lookup x=Z .local:=by trivial):aU M A (storeName X.env x u) Q E s:=by
 obtain⟨m,N,a9⟩:=id I.loc;have ak:(X.env.scope.kind==.class||(X.env.scope.kind==.module&&X.env.locals != X.env.globals))=aK:=by rw[I.ok.kind];rfl
 have aa:i<Y.length:=by rw[I.len];exact(cR.mp hi).1
 have T:=I.cne;have ac:∀{a:aB} {h':bH},(∃o,s.heap.get? a=Z o/\H a=aF)->m7 a s.heap h'->dL X.prog X.w H h':=λ{a h'} al f b am e=>by
  obtain⟨_,_,ae⟩:=al;refine(I.hok b am e).stay (λc G l q=>(f.2 c ?_).trans q) (λ_ q=>q) λ_ _ q=>q;rintro rfl;rcases l with rfl|l
  .rw[ae]at e;cases e
  .rw[ae]at l;cases l
 rcases t with B|B
 .refine wpAny_storeName_local B N (λh' an f=>?_) ak;obtain⟨ao,_,_,ap,_⟩:=id N;refine h _ ⟨I.ok,I.os,I.bare,⟨λb o e n C t=>?_,λb o e n C t=>?_,I.b_.free,λb o e t=>?_,I.b_.tups,I.b_.frzs,I.b_.tbls⟩,⟨_,an,λj y a0 g w a1=>?_⟩,λy c e=>?_,I.free,I.freeC,λp a2=>?_,ac ⟨ao,ap,I.free⟩ f,by simpa using I.len⟩ ⟨_,f,.inl O⟩
  .exact(f.2 b (dC (gT (cW e) I.ok.above))).trans (I.b_.keep b o e n C t)
  .obtain⟨a3,g⟩:=I.b_.slot b o e n C t;exact⟨a3,(f.2 b (dC (gT (cW e) I.ok.above))).trans g⟩
  .obtain⟨o',g⟩:=I.b_.there b o e t;exact⟨o',(f.2 b (dC (gT (cW e) I.ok.above))).trans g⟩
  .by_cases D:j=i
   .subst D;rw[hi]at g;cases g;rw[List.getElem?_set_self aa]at w;cases w;exact⟨u,r,.inl ⟨B,by simp⟩⟩
   .rw[tD (D4 D)]at w;obtain⟨a4,a5,q⟩:=a9 j y a0 g w a1;refine⟨a4,a5,?_⟩;rcases q with ⟨k,e⟩|⟨k,c,e,z⟩
    .refine .inl ⟨k,?_⟩;have:y≠x:=λe=>D (zx a8 g (e▸hi));simp[this,e]
    .exact .inr ⟨k,c,e,z.sameBut f (T y c e)⟩
  .obtain⟨G,z⟩:=I.cell y c e;exact⟨G,z.sameBut f (T y c e)⟩
  .obtain⟨e,n,J,a6,d⟩:=I.pin p a2;exact⟨(f.2 p.1 J).trans e,n,J,a6,d⟩
 .have a7:X.fn x=aD:=by
   rcases aj with z|z
   .exact z
   .rw[z]at B;cases B
  obtain⟨c,l⟩:=I.ok.has x (.inl B);obtain⟨G,z⟩:=I.cell x c l;refine wpAny_storeName_cell I.ok.kind B l z (λh' af f=>?_);obtain⟨ag,ah,aq⟩:=id z;refine h {s with heap:=h'} ⟨I.ok,I.os,I.bare,⟨λb o e n C t=>?_,λb o e n C t=>?_,I.b_.free,λb o e t=>?_,I.b_.tups,I.b_.frzs,I.b_.tbls⟩,⟨m,N.sameBut f (D4 (T x c l)),λj y a0 g w a1=>?_⟩,λy c' e=>?_,I.free,I.freeC,λp a2=>?_,ac ⟨ag,ah,I.freeC x c l⟩ f,by simpa using I.len⟩ ⟨c,f,.inr l⟩
  .exact(f.2 b (dC (gT (cW e) (I.ok.cab x c a7 l)))).trans (I.b_.keep b o e n C t)
  .obtain⟨a3,g⟩:=I.b_.slot b o e n C t;exact⟨a3,(f.2 b (dC (gT (cW e) (I.ok.cab x c a7 l)))).trans g⟩
  .obtain⟨o',g⟩:=I.b_.there b o e t;exact⟨o',(f.2 b (dC (gT (cW e) (I.ok.cab x c a7 l)))).trans g⟩
  .by_cases D:j=i
   .subst D;rw[hi]at g;cases g;rw[List.getElem?_set_self aa]at w;cases w;exact⟨u,r,.inr ⟨.inl B,c,l,af⟩⟩
   .rw[tD (D4 D)]at w;obtain⟨a4,a5,q⟩:=a9 j y a0 g w a1;refine⟨a4,a5,?_⟩;rcases q with q|⟨k,c',e,ar⟩
    .exact .inl q
    .refine .inr ⟨k,c',e,ar.sameBut f ?_⟩;rintro rfl;exact D (zx a8 g (I.ok.inj _ _ _ e l▸hi))
  .by_cases ai:c'=c
   .subst ai;exact⟨_,af⟩
   .obtain⟨as,au⟩:=I.cell y c' e;exact⟨as,au.sameBut f ai⟩
  .obtain⟨e,n,J,a6,d⟩:=I.pin p a2;refine⟨(f.2 p.1 ?_).trans e,n,J,a6,d⟩;intro q;rw[q,ah]at e;have av:ag=p.2:=eA e;exact d G (by rw[←av];exact aq)
def sU(I:Inv X U Y H s)(a:X.N.Nodup)(hi:X.N[i]?=Z x)(b:Loc X.env.scope x)(r:cE v u)
 (h:∀L,Inv X U (Y.set i (Z v)) H L->Q () L)(c:X.fn x=aD\/X.env.scope.names.lookup x=Z .local:=by trivial):aU M A (storeName X.env x u) Q E s:=
 Pe I a hi b r (λL d _=>h L d) c
def Inv.call'(I:Inv X U Y H s)(a:L.os=s.os)(u:eJ (gL X.stack) ch H H' s.heap L.heap)(d:dL X.prog X.w H' L.heap)(f:H1 L.gens)
 (g:∀b∈ch,(b∈X.ex\/X.s₀.heap.objs.size<=b)/\b≠X.env.locals/\(∀x c,X.env.cells.lookup x=Z c->c≠b)/\∀p∈X.pn++U,p.1≠b):Inv X U Y H' L:=by
 obtain⟨h',g',d',t',o'⟩:=L;have e:o'=s.os:=a;subst e;exact I.call (g':=g') (t':=t') (d':=d') u d f g
end
abbrev dG:=aE->Option aB->aC->Prop
abbrev St:=List (Option V)
abbrev aP:=V->aC->Prop
abbrev bF:=St->aC->aP->Prop
abbrev TT:=St->aC->(Bool->aC->Prop)->Prop
abbrev eZ:=St->aC->(M0->aC->Prop)->Prop
structure Ends where
 nx:St->aC->Prop
 rt:aP
 bk:St->aC->Prop:=λ_ _=>False
 ct:St->aC->Prop:=λ_ _=>False
abbrev dZ:=Ends->St->aC->Prop
def fX(X:aX)(U:List (aB×aZ))(Y:St)(Q:aP)(u:aE)(L:aJ):Prop:=∃v H',Inv X U Y H' L/\cE v u/\Q v H'
def r9(X:aX)(U:List (aB×aZ))(Y:St)(Q:Bool->aC->Prop)(b:Bool)(L:aJ):Prop:=∃H',Inv X U Y H' L/\Q b H'
def tq(X:aX)(U:List (aB×aZ))(Y:St)(Q:M0->aC->Prop)(us:M4)(L:aJ):Prop:=∃vs H',Inv X U Y H' L/\cA vs us/\Q vs H'
def md(X:aX)(U:List (aB×aZ))(D:Ends)(f:Flow)(L:aJ):Prop:=
 match f with
 |.next=>∃σ' H',Inv X U σ' H' L/\D.nx σ' H'
 |.brk=>∃σ' H',Inv X U σ' H' L/\D.bk σ' H'
 |.cont=>∃σ' H',Inv X U σ' H' L/\D.ct σ' H'
 |.ret u=>∃v σ' H',Inv X U σ' H' L/\cE v u/\D.rt v H'
structure bL (X:aX) (e:bI) (t:bF):Prop where
 run:∀(U:List (aB×aZ))(s:aJ)(Y:St)(H:aC)(Q:aP),Inv X U Y H s->t Y H Q->aU (aW X.prog X.w) X.A (H5 e X.env) (fX X U Y Q) X.xe s
instance {X:aX} {e:bI} {t:bF}:CoeFun (bL X e t) λ_=>∀(U:List (aB×aZ))(s:aJ)(Y:St)(H:aC)(Q:aP),Inv X U Y H s->t Y H Q->aU (aW X.prog X.w) X.A (H5 e X.env) (fX X U Y Q) X.xe s:=⟨bL.run⟩
structure lD (X:aX) (e:bI) (t:TT):Prop where
 run:∀(U:List (aB×aZ))(s:aJ)(Y:St)(H:aC)(Q:Bool->aC->Prop),Inv X U Y H s->t Y H Q->aU (aW X.prog X.w) X.A (H6 e X.env (H5 e X.env)) (r9 X U Y Q) X.xe s
instance {X:aX} {e:bI} {t:TT}:CoeFun (lD X e t) λ_=>∀(U:List (aB×aZ))(s:aJ)(Y:St)(H:aC)(Q:Bool->aC->Prop),Inv X U Y H s->t Y H Q->aU (aW X.prog X.w) X.A (H6 e X.env (H5 e X.env)) (r9 X U Y Q) X.xe s:=⟨lD.run⟩
structure iW (X:aX) (e:bI) (t:TT):Prop where
 run:∀(whole:Sem aE)(U:List (aB×aZ))(s:aJ)(Y:St)(H:aC)(Q:Bool->aC->Prop),Inv X U Y H s->t Y H Q->aU (aW X.prog X.w) X.A (H6 e X.env whole) (r9 X U Y Q) X.xe s
instance {X:aX} {e:bI} {t:TT}:CoeFun (iW X e t) λ_=>∀(a:Sem aE)(U:List (aB×aZ))(s:aJ)(Y:St)(H:aC)(Q:Bool->aC->Prop),Inv X U Y H s->t Y H Q->aU (aW X.prog X.w) X.A (H6 e X.env a) (r9 X U Y Q) X.xe s:=⟨iW.run⟩
def iW.pt(h:iW X e t):lD X e t:=⟨h.run _⟩
structure iA (X:aX) (es:List bI) (t:eZ):Prop where
 run:∀(pos:Pos)(U:List (aB×aZ))(s:aJ)(Y:St)(H:aC)(Q:M0->aC->Prop),Inv X U Y H s->t Y H Q->aU (aW X.prog X.w) X.A (H7 (H8 pos (cN es X.env))) (tq X U Y Q) X.xe s
instance {X:aX} {es:List bI} {t:eZ}:CoeFun (iA X es t) λ_=>∀(pos:Pos)(U:List (aB×aZ))(s:aJ)(Y:St)(H:aC)(Q:M0->aC->Prop),Inv X U Y H s->t Y H Q->aU (aW X.prog X.w) X.A (H7 (H8 pos (cN es X.env))) (tq X U Y Q) X.xe s:=⟨iA.run⟩
structure kz (X:aX) (st:bO) (t:dZ):Prop where
 run:∀(U:List (aB×aZ))(s:aJ)(Y:St)(H:aC)(D:Ends),Inv X U Y H s->t D Y H->aU (aW X.prog X.w) X.A (exec st X.env) (md X U D) X.xe s
instance {X:aX} {st:bO} {t:dZ}:CoeFun (kz X st t) λ_=>∀(U:List (aB×aZ))(s:aJ)(Y:St)(H:aC)(D:Ends),Inv X U Y H s->t D Y H->aU (aW X.prog X.w) X.A (exec st X.env) (md X U D) X.xe s:=⟨kz.run⟩
structure iB (X:aX) (st:List bO) (t:dZ):Prop where
 run:∀(U:List (aB×aZ))(s:aJ)(Y:St)(H:aC)(D:Ends),Inv X U Y H s->t D Y H->aU (aW X.prog X.w) X.A (execs st X.env) (md X U D) X.xe s
instance {X:aX} {st:List bO} {t:dZ}:CoeFun (iB X st t) λ_=>∀(U:List (aB×aZ))(s:aJ)(Y:St)(H:aC)(D:Ends),Inv X U Y H s->t D Y H->aU (aW X.prog X.w) X.A (execs st X.env) (md X U D) X.xe s:=⟨iB.run⟩
def bT{q:Type}{t:Sem q}{Q b:q->aJ->Prop}{M:Model}{A:bX}{E:aE->aJ->Prop}{s:aJ}(h:aU M A t Q E s)(c:∀a s,Q a s->b a s):aU M A t b E s:=fA h c λ_ _ x=>x
section
variable{X:aX}
inductive s8(i:Nat)(Y:St)(H:aC)(Q:aP):Prop
 |mk:∀v,Y[i]?=Z (Z v)->Q v H->s8 i Y H Q
def tC(v:V):bF:=λ_ H Q=>Q v H
def To{x:aA}(j:X.N[i]?=Z x)(k:sb X.env.scope x)(b:(x == ("__debug__":aA))=aK:=by decide)(n:(x == ("__classdict__":aA))=aK:=by decide):bL X (.Name x pos) (s8 i):=by
 refine⟨?_⟩
 intro U s Y H Q I h
 obtain⟨v,e,h⟩:=h
 obtain⟨m,o,p⟩:=I.loc
 obtain⟨u,r,l⟩:=p i x v j e k
 have d:fX X U Y Q u s:=⟨v,H,I,r,h⟩
 rcases l with ⟨a,hm⟩ | ⟨a,c,f,g⟩
 ·exact wpAny_Name (wpAny_loadName_local I.ok.kind a o hm d) b
 ·rcases a with a | a
  ·exact wpAny_Name (wpAny_loadName_cell I.ok.kind a f g d) b
  ·exact wpAny_Name (wpAny_loadName_free I.ok.kind a f g d n) b
def bB{i j pos}:bL X (.Constant (.int i) j pos) (tC (.int i)):=⟨λ_ _ _ H _ I h=>wpAny_Constant_int ⟨.int i,H,I.tok _,⟨_,O⟩,h⟩⟩
def mF{b j pos}:bL X (.Constant (.bool b) j pos) (tC (.bl b)):=⟨λ_ _ _ H _ I h=>Constant_bool ⟨.bl b,H,I,O,h⟩⟩
def nl{j pos}:bL X (.Constant .none j pos) (tC .non):=⟨λ_ _ _ H _ I h=>Constant_none ⟨.non,H,I,O,h⟩⟩
def qw{x j pos}:bL X (.Constant (.str x) j pos) (tC (.str x)):=⟨λ_ _ _ H _ I h=>Calls.Constant_str ⟨.str x,H,I.tok _,⟨_,O⟩,h⟩⟩
def jH(X:aX)(x:aA):Prop:=X.env.kindOf x=Z .globalImplicit
def qr{x:aA}(I:Inv X U Y H s)(a:jH X x)(hm:X.mg x=Z u)(h:Q u s)
 (b:(x == ("__debug__":aA))=aK:=by decide):aU (aW X.prog X.w) X.A (H5 (.Name x pos) X.env) Q E s :=
 Calls.Name_function_global I.ok.kind a (Calls.loadGlobal_global (by rw[I.ok.glob];exact I.mod.glob.keeps I.bk) hm h) b
def oW{x:aA}(I:Inv X U Y H s)(a:jH X x)(hm:X.mg x=aF)(b:jW x=Z u)(h:Q u s)
 (c:x≠"__name__":=by decide)(d:(x == ("__debug__":aA))=aK:=by decide):aU (aW X.prog X.w) X.A (H5 (.Name x pos) X.env) Q E s:=by
 obtain⟨e,h1,h2⟩:=I.mod.blt
 exact Calls.Name_function_global I.ok.kind a (Calls.loadGlobal_builtin (by rw[I.ok.glob];exact I.mod.glob.keeps I.bk) hm (by rw[I.ok.blt];exact h1.keeps I.bk) ((h2 x c).trans b) h) d
def RW{x:aA}(a:jH X x)(hm:X.mg x=Z u)(r:cE v u)(b:(x == ("__debug__":aA))=aK:=by decide):bL X (.Name x pos) (tC v) :=
 ⟨fun _ _ _ H _ I h=>qr I a hm ⟨v,H,I,r,h⟩ b⟩
def RY{x:aA}(a:jH X x)(hm:X.mg x=aF)(b:jW x=Z u)(r:cE v u)(c:x≠"__name__":=by decide)(d:(x == ("__debug__":aA))=aK:=by decide):bL X (.Name x pos) (tC v) :=
 ⟨fun _ _ _ H _ I h=>oW I a hm b ⟨v,H,I,r,h⟩ c d⟩
inductive HP(k:Int->Int->aC->Prop)(x y:V)(H2:aC):Prop
 |mk:∀i j,x=.int i->y=.int j->k i j H2->HP k x y H2
abbrev Wg (tb:bF) (k:Int->Int->aC->Prop) (Y:St):aP:=λx z=>tb Y z (HP k x)
def Xd(M tb:bF)(k:Int->Int->aC->Prop):St->aC->Prop:=λY H=>M Y H (Wg tb k Y)
abbrev Yv (Q:aP):Int->Int->aC->Prop:=λi j H2=>Q (.int (i+j)) H2
abbrev Yz (Q:aP):Int->Int->aC->Prop:=λi j H2=>Q (.int (i-j)) H2
abbrev Yx (Q:aP):Int->Int->aC->Prop:=λi j H2=>(-(2^64)<i/\i<2^64)/\Q (.int (i*j)) H2
variable{a b:bI}{M tb:bF}{pos:Pos}
structure uf (X:aX) (op:CmpOp) (a b:bI) (t:bF):Prop where
 run:∀(U:List (aB×aZ))(s:aJ)(Y:St)(H:aC)(Q:aP),Inv X U Y H s->t Y H Q ->
  aU (aW X.prog X.w) X.A (H5 a X.env) (λv s₁=>aU (aW X.prog X.w) X.A (H5 b X.env) (λu s₂=>aU (aW X.prog X.w) X.A (iU op v u) (fX X U Y Q) X.xe s₂) X.xe s₁) X.xe s
instance {X:aX} {op:CmpOp} {a b:bI} {t:bF}:CoeFun (uf X op a b t) λ_=>∀(U:List (aB×aZ))(s:aJ)(Y:St)(H:aC)(Q:aP),Inv X U Y H s->t Y H Q ->
  aU (aW X.prog X.w) X.A (H5 a X.env) (λv c=>aU (aW X.prog X.w) X.A (H5 b X.env) (λu d=>aU (aW X.prog X.w) X.A (iU op v u) (fX X U Y Q) X.xe d) X.xe c) X.xe s:=⟨uf.run⟩
abbrev VG (p:Int->Int->Bool) (Q:aP):Int->Int->aC->Prop:=λi j H2=>Q (.bl (p i j)) H2
def YO(p:Int->Int->Bool)(M tb:bF):bF:=λY H Q=>Xd M tb (VG p Q) Y H
abbrev Yw (Q:aP):aP:=λx z=>Q (.bl (G9 (x=.non))) z
abbrev Yy (Q:aP):aP:=λx z=>Q (.bl (!G9 (x=.non))) z
inductive xp(Q:Bool->aC->Prop)(x:V)(z:aC):Prop
 |mk:∀c,x=.bl c->Q c z->xp Q x z
def Li(t:bF):TT:=λY H Q=>t Y H (xp Q)
def tc(h:uf X op a b t)(h1:tZ op b=aK:=by rfl):lD X (.Compare a [op] [b] pos) (Li t):=.mk λU s Y H Q I e=>by
 refine H9 (bT (h U s Y H _ I e) λv s1 h1=>bT h1 λu k h2=>bT h2 λc l z'=>?_) h1;obtain⟨x,z,f,g,i⟩:=z';obtain⟨d,rfl,q⟩:=i;cases g;exact oC ⟨z,f,q⟩
def gW(h:bL X e t)(b:∀a,H6 e X.env a=(do let v ←a;standAt e.pos;I0 [v] (truthy v)):=by intro _;rfl):lD X e (Li t):=.mk λU s Y H Q I c=>by
 refine isTrue_plain (bT (h U s Y H _ I c) λv s1 z'=>?_) (b _);obtain⟨x,z,f,g,i⟩:=z';obtain⟨d,rfl,q⟩:=i;cases g;exact oC ⟨z,f,q⟩
variable{tA e:TT}{rest:List bI}
abbrev VM (u:TT) (Y:St) (Q:Bool->aC->Prop):Bool->aC->Prop:=λc z=>if c=aD then u Y z Q else Q aK z
def Vp(t u:TT):TT:=λY H Q=>t Y H (VM u Y Q)
abbrev Wn (u:TT) (Y:St) (Q:Bool->aC->Prop):Bool->aC->Prop:=λc z=>if c=aD then Q aD z else u Y z Q
def Xj(t u:TT):TT:=λY H Q=>t Y H (Wn u Y Q)
abbrev VB (Q:Bool->aC->Prop):Bool->aC->Prop:=λc z=>Q (!c) z
def Vj(t:TT):TT:=λY H Q=>t Y H (VB Q)
def zH(b:lD X a tA):iW X (.BoolOp .And [a] pos) tA:=.mk λd U s Y H Q I h=>by
 refine isTrue_and (bT (b U s Y H Q I h) λc s1 e=>?_);cases c with
 |true=>exact isTrue_and_nil e
 |false=>exact e
def mD(b:lD X a tA):iW X (.BoolOp .Or [a] pos) tA:=.mk λd U s Y H Q I h=>by
 refine isTrue_or (bT (b U s Y H Q I h) λc s1 e=>?_);cases c with
 |false=>exact isTrue_or_nil e
 |true=>exact e
def zY(g:lD X a tA)(i:iW X (.BoolOp .And (b::rest) pos) e):iW X (.BoolOp .And (a::b::rest) pos) (Vp tA e):=.mk λj U s Y H Q I h=>by
 refine isTrue_and (bT (g U s Y H _ I h) λc s1 z'=>?_);obtain⟨z,d,f⟩:=z';cases c with
 |true=>exact i j U s1 Y z Q d f
 |false=>exact⟨z,d,f⟩
def lR(g:lD X a tA)(i:iW X (.BoolOp .Or (b::rest) pos) e):iW X (.BoolOp .Or (a::b::rest) pos) (Xj tA e):=.mk λj U s Y H Q I h=>by
 refine isTrue_or (bT (g U s Y H _ I h) λc s1 z'=>?_);obtain⟨z,d,f⟩:=z';cases c with
 |true=>exact⟨z,d,f⟩
 |false=>exact i j U s1 Y z Q d f
def iM(b:lD X a tA):lD X (.UnaryOp .Not a pos) (Vj tA):=.mk λU s Y H Q I h=>by
 exact isTrue_not (b U s Y H (λc z=>Q (!c) z) I h)
inductive HR(tb:bF)(Y:St)(Q:aP)(x:V)(z:aC):Prop
 |mk:∀c,x=.bl c->(if c=aD then tb Y z Q else Q (.bl aK) z)->HR tb Y Q x z
def Ut(M tb:bF):bF:=λY H Q=>M Y H (HR tb Y Q)
inductive Ia(tb:bF)(Y:St)(Q:aP)(x:V)(z:aC):Prop
 |mk:∀c,x=.bl c->(if c=aD then Q (.bl aD) z else tb Y z Q)->Ia tb Y Q x z
def Vi(M tb:bF):bF:=λY H Q=>M Y H (Ia tb Y Q)
inductive HZ(Q:aP)(x:V)(z:aC):Prop
 |mk:∀c,x=.bl c->Q (.bl (!c)) z->HZ Q x z
def Uo(M:bF):bF:=λY H Q=>M Y H (HZ Q)
def kR{op}(h:bL X a t):bL X (.BoolOp op [a] pos) t:=⟨λU s Y H Q I b=>BoolOp_one (h U s Y H Q I b)⟩
def jL(f:bL X a M)(g:bL X (.BoolOp .And (b::rest) pos) tb):bL X (.BoolOp .And (a::b::rest) pos) (Ut M tb):=.mk λU s Y H Q I h=>by
 refine BoolOp_and (bT (f U s Y H _ I h) λv s1 z'=>?_);obtain⟨x,z,e,i,d⟩:=z';obtain⟨c,rfl,d⟩:=d;cases i;refine oC ?_;cases c with
 |true=>exact g U s1 Y z Q e d
 |false=>exact⟨.bl aK,z,e,O,d⟩
def Ag(f:bL X a M)(g:bL X (.BoolOp .Or (b::rest) pos) tb):bL X (.BoolOp .Or (a::b::rest) pos) (Vi M tb):=.mk λU s Y H Q I h=>by
 refine BoolOp_or (bT (f U s Y H _ I h) λv s1 z'=>?_);obtain⟨x,z,e,i,d⟩:=z';obtain⟨c,rfl,d⟩:=d;cases i;refine oC ?_;cases c with
 |false=>exact g U s1 Y z Q e d
 |true=>exact⟨.bl aD,z,e,O,d⟩
def Tp(d:bL X a M):bL X (.UnaryOp .Not a pos) (Uo M):=.mk λU s Y H Q I h=>by
 refine UnaryOp_ (bT (d U s Y H _ I h) λv s1 z'=>?_);obtain⟨x,z,e,f,b⟩:=z';obtain⟨c,rfl,b⟩:=b;cases f;exact not_of (oC ⟨.bl (!c),z,e,O,b⟩)
abbrev Wl (M tb:bF) (Y:St) (Q:aP):Bool->aC->Prop:=λc z=>if c=aD then M Y z Q else tb Y z Q
def Xh(t:TT)(M tb:bF):bF:=λY H Q=>t Y H (Wl M tb Y Q)
def Es(g:lD X c tA)(i:bL X a M)(j:bL X b tb):bL X (.IfExp c a b pos) (Xh tA M tb):=.mk λU s Y H Q I h=>by
 refine wpAny_IfExp (bT (g U s Y H _ I h) λd s1 z'=>?_);obtain⟨z,e,f⟩:=z';cases d with
 |true=>exact i U s1 Y z Q e f
 |false=>exact j U s1 Y z Q e f
end
def aQ(K:bJ)(H:aC)(a:aB)(xs:M0):Prop:=
 eM H a (.lst xs) \/
  ∃(o:aZ)(b:Array aE)(n:Nat),K.lookup a=Z o/\o.cls=.type "list"/\o.dict=aF/\o.data=.seq b n/\b.size<=cP/\cA xs b.toList
def bE(K:bJ)(H:aC)(a:aB)(xs:M0):Prop:=
 eM H a (.tup xs) \/
  ∃(o:aZ)(b:Array aE)(n:Nat),K.lookup a=Z o/\o.cls=.type "tuple"/\o.data=.seq b n/\b.size<=cP/\cA xs b.toList
noncomputable def Wc:aE->Option V
 |.none=>Z .non
 |.bool b=>Z (.bl b)
 |.int i _=>Z (.int i)
 |.str x _=>Z (.str x)
 |.bytes b _=>Z (.byt b)
 |.float b _=>Z (.flt b)
 |.ref a=>Z (.ref a)
 |.type n=>Z (.ty n)
 |_=>aF
def cE.abs(r:cE x u):Wc u=Z x:=by
 cases x with
 |non=>cases r;rfl
 |bl _=>cases r;rfl
 |int _=>obtain⟨t,rfl⟩:=r;rfl
 |str _=>obtain⟨t,rfl⟩:=r;rfl
 |byt _=>obtain⟨t,rfl⟩:=r;rfl
 |flt _=>obtain⟨t,rfl⟩:=r;rfl
 |ref _=>cases r;rfl
 |ty _=>cases r;rfl
def cE.inj(r:cE x u)(q:cE y u):x=y:=eA (r.abs.symm.trans q.abs)
def cA.inj{xs ys:M0}{us:M4}(h:cA xs us)(k:cA ys us):xs=ys:=by
 induction h generalizing ys with
 |nil=>cases k;rfl
 |cons r _ i=>
  cases k with
  |cons a t=>rw[r.inj a,i t]
section
variable{X:aX}{U:List (aB×aZ)}{Y:St}{H:aC}{s:aJ}{a:aB}{xs ys:M0}
def aQ.of{K:bJ}(h:H a=Z (.lst xs)):aQ K H a xs:=.inl (.inl h)
def bE.of{K:bJ}(h:H a=Z (.tup xs)):bE K H a xs:=.inl (.inl h)
def Inv.list(I:Inv X U Y H s)(h:aQ X.K H a xs):∃b:M4,cA xs b/\PlainL s.heap a b.toArray/\xs.length<=cP:=by
 rcases h with h|⟨o,b,n,c,d,f,g,j,r⟩
 .obtain⟨i,b,n,r,e⟩:=h.ok I.hok;exact⟨b,r,⟨_,n,e,O,O,O⟩,i⟩
 .refine⟨b.toList,r,⟨o,n,I.kIn a o c,d,f,by simpa using g⟩,?_⟩;have e:=r.length;simp only[nH]at e;omega
def Inv.tuple(I:Inv X U Y H s)(h:bE X.K H a xs):∃b:M4,cA xs b/\IsTup s.heap a b.toArray/\xs.length<=cP:=by
 rcases h with h|⟨o,b,n,c,d,f,i,r⟩
 .obtain⟨g,b,r,p⟩:=h.ok I.hok;exact⟨b,r,p.tup,g⟩
 .refine⟨b.toList,r,⟨o,I.kIn a o c,d,n,by simpa using f⟩,?_⟩;have e:=r.length;simp only[nH]at e;omega
def Inv.list_inj(I:Inv X U Y H s)(h:aQ X.K H a xs)(h':aQ X.K H a ys):xs=ys:=by
 obtain⟨c,r,⟨o,n,e,_,_,d⟩,_⟩:=I.list h;obtain⟨its',f,⟨o',i,b,_,_,d'⟩,_⟩:=I.list h';rw[e]at b;cases b;rw[d]at d';injection d' with g _;have:c=its':=by simpa using B7 Array.toList g
 subst this;exact r.inj f
end
noncomputable abbrev aX.wish (X:aX) (E:aE->aJ->Prop):aX:={X with xe:=E}
noncomputable abbrev aX.nox (X:aX):aX:=X.wish λ_ _=>False
def aX.Ok.wish{X:aX}(a:X.Ok)(E:aE->aJ->Prop):(X.wish E).Ok:=
 ⟨a.mod,a.kind,a.glob,a.blt,a.above,a.inj,a.has,a.cab,a.hd,a.frames,a.stk,a.exf,a.bs,a.bsz,a.noex,a.exfs,a.funs,a.frf⟩
def aX.Ok.unwish{X:aX}{E:aE->aJ->Prop}(a:(X.wish E).Ok):X.Ok:=
 ⟨a.mod,a.kind,a.glob,a.blt,a.above,a.inj,a.has,a.cab,a.hd,a.frames,a.stk,a.exf,a.bs,a.bsz,a.noex,a.exfs,a.funs,a.frf⟩
section
variable{X:aX}{U:List (aB×aZ)}{Y:St}{H:aC}{s:aJ}{E:aE->aJ->Prop}
def Inv.wish(I:Inv X U Y H s)(E:aE→aJ→Prop):Inv (X.wish E) U Y H s:=⟨I.ok.wish E,I.os,I.bare,I.b_,I.loc,I.cell,I.free,I.freeC,I.pin,I.hok,I.len⟩
def Inv.unwish(I:Inv (X.wish E) U Y H s):Inv X U Y H s:=⟨I.ok.unwish,I.os,I.bare,I.b_,I.loc,I.cell,I.free,I.freeC,I.pin,I.hok,I.len⟩
def md.unwish(h:md (X.wish E) U D f L):md X U D f L:=by
 cases f with
 |next=>obtain⟨σ',H',I,q⟩:=h;exact⟨σ',H',I.unwish,q⟩
 |brk=>obtain⟨σ',H',I,q⟩:=h;exact⟨σ',H',I.unwish,q⟩
 |cont=>obtain⟨σ',H',I,q⟩:=h;exact⟨σ',H',I.unwish,q⟩
 |ret u=>obtain⟨v,σ',H',I,r,q⟩:=h;exact⟨v,σ',H',I.unwish,r,q⟩
def iB.nox{st:List bO}(h:iB X.nox st t):iB X st t:=⟨λU s Y H D I a=>
 fA (h U s Y H D (I.wish _) a) (λ_ _ q=>q.unwish) λ_ _ b=>gH b⟩
end
section
variable{X:aX}{st:bO}{rest:List bO}{t u:dZ}{e:bI}{te:bF}{pos:Pos}
def Up:dZ:=λD Y H=>D.nx Y H
def kH(t u:dZ):dZ:=λD Y H=>t {D with nx:=u D} Y H
def fH:iB X [] Up:=⟨λ_ _ Y H _ I h=>rL ⟨Y,H,I,h⟩⟩
def bC(h1:kz X st t)(h2:iB X rest u):iB X (st::rest) (kH t u):=.mk λU s Y H D I h=>by
 refine za (bT (h1 U s Y H {D with nx:=u D} I h) λf s1 q=>?_);cases f with
 |next=>
  obtain⟨σ',H',a,q⟩:=q;exact h2 U s1 σ' H' D a q
 |ret v=>exact q
 |brk=>exact q
 |cont=>exact q
def bG(h1:kz X st t):iB X [st] t:=.mk λU s Y H D I h=>by
 refine za (bT (h1 U s Y H D I h) λf s1 q=>?_);cases f with
 |next=>exact rL q
 |ret v=>exact q
 |brk=>exact q
 |cont=>exact q
def Inv.quiet(I:Inv X U Y H s):interactive X.env=aK:=by simp[interactive,I.ok.kind]
abbrev UL (N:St->aC->Prop) (Y:St):aP:=λ_ z=>N Y z
def Uq(te:bF):dZ:=λD Y H=>te Y H (UL D.nx Y)
def jR(a:bL X e te)(b:qZ e aF pos.line X.env=pure aK:=by rfl):kz X (.Expr e pos) (Uq te):=.mk λU s Y H D I h=>by
 refine wpAny_Expr_any (bT (a U s Y H _ I h) λv s1 z'=>?_) I.quiet b;obtain⟨x,z,c,f,d⟩:=z';exact⟨Y,z,c,d⟩
def Vg(te:bF):dZ:=λD Y H=>te Y H D.rt
def cH(a:bL X e te):kz X (.Return (Z e) pos) (Vg te):=.mk λU s Y H D I h=>by
 refine wpAny_Return_some (bT (a U s Y H _ I h) λv s1 z'=>?_);obtain⟨x,z,b,c,d⟩:=z';exact⟨x,Y,z,b,c,d⟩
abbrev VD (t u:dZ) (D:Ends) (Y:St):Bool->aC->Prop:=λb z=>if b=aD then t D Y z else u D Y z
def An(c:TT)(t u:dZ):dZ:=λD Y H=>c Y H (VD t u D Y)
def fK(g:lD X c o)(i:iB X a t)(j:iB X b u):kz X (.If c a b pos) (An o t u):=.mk λU s Y H D I h=>by
 refine wpAny_If (bT (g U s Y H _ I h) λd s1 z'=>?_);obtain⟨z,e,f⟩:=z';cases d with
 |true=>exact i U s1 Y z D e f
 |false=>exact j U s1 Y z D e f
def SW:dZ:=λ_ _ _=>False
def n8:kz X st SW:=⟨λ_ _ _ _ _ _ h=>h.elim⟩
end
abbrev gO:=V->St->aC->(St->aC->Prop)->Prop
abbrev mB:=M0->St->aC->(St->aC->Prop)->Prop
structure nc (X:aX) (target:bI) (t:gO):Prop where
 run:∀(U:List (aB×aZ))(s:aJ)(Y:St)(H:aC)(v:V)(u:aE)(Q:St->aC->Prop),Inv X U Y H s->cE v u->t v Y H Q ->
  aU (aW X.prog X.w) X.A (assign target X.env u) (λ_ L=>∃σ' H',Inv X U σ' H' L/\Q σ' H') X.xe s
instance {X:aX} {a:bI} {t:gO}:CoeFun (nc X a t) λ_=>∀(U:List (aB×aZ))(s:aJ)(Y:St)(H:aC)(v:V)(u:aE)(Q:St->aC->Prop),Inv X U Y H s->cE v u->t v Y H Q ->
  aU (aW X.prog X.w) X.A (assign a X.env u) (λ_ L=>∃σ' H',Inv X U σ' H' L/\Q σ' H') X.xe s:=⟨nc.run⟩
structure p5 (X:aX) (ts:List bI) (t:mB):Prop where
 run:∀(U:List (aB×aZ))(s:aJ)(Y:St)(H:aC)(vs:M0)(us:M4)(Q:St->aC->Prop),Inv X U Y H s->cA vs us->t vs Y H Q ->
  aU (aW X.prog X.w) X.A (t0 ((my ts X.env).map (·.2)) us) (λ_ L=>∃σ' H',Inv X U σ' H' L/\Q σ' H') X.xe s
instance {X:aX} {ts:List bI} {t:mB}:CoeFun (p5 X ts t) λ_=>∀(U:List (aB×aZ))(s:aJ)(Y:St)(H:aC)(vs:M0)(us:M4)(Q:St->aC->Prop),Inv X U Y H s->cA vs us->t vs Y H Q ->
  aU (aW X.prog X.w) X.A (t0 ((my ts X.env).map (·.2)) us) (λ_ L=>∃σ' H',Inv X U σ' H' L/\Q σ' H') X.xe s:=⟨p5.run⟩
abbrev Hy:=V->V->V->aC->(aC->Prop)->Prop
abbrev wK:=V->V->aC->aP->Prop
def zn(X:aX)(op:Operator)(t:wK):Prop:=
 ∀(U:List (aB×aZ))(s:aJ)(Y:St)(H:aC)(x y:V)(v u:aE)(Q:aP),Inv X U Y H s->cE x v->cE y u->t x y H Q ->
  aU (aW X.prog X.w) X.A (inplaceOp op v u) (fX X U Y Q) X.xe s
section
variable{X:aX}{pos:Pos}
def nz(i:Nat):gO:=λv Y H Q=>Q (Y.set i (Z v)) H
def cM(a:X.N.Nodup)(hi:X.N[i]?=Z x)(b:Loc X.env.scope x)(c:X.fn x=aD\/X.env.scope.names.lookup x=Z .local:=by trivial):nc X (.Name x pos) (nz i):=.mk λU s Y H v u Q I r h=>by
 exact wpAny_assign_Name (sU I a hi b r (λL d=>⟨_,H,d,h⟩) c)
def Hx:mB:=λvs Y H Q=>vs=[]/\Q Y H
abbrev TJ (u:mB) (r:M0) (Q:St->aC->Prop):St->aC->Prop:=fun σ' H'=>u r σ' H' Q
inductive Ax(t:gO)(u:mB)(vs:M0)(Y:St)(H:aC)(Q:St->aC->Prop):Prop
 |mk:∀v r,vs=v::r->t v Y H (TJ u r Q)->Ax t u vs Y H Q
def qp:p5 X [] Hx:=.mk λU s Y H vs us Q I r h=>by
 obtain⟨e,h⟩:=h;subst e;cases r;exact assignInOrder_nil ⟨Y,H,I,h⟩
def kO(h1:nc X e t)(h2:p5 X es u)
 (a:(my (e::es) X.env).map (·.2)=assign e X.env::(my es X.env).map (·.2):=by rfl):p5 X (e::es) (Ax t u):=.mk λU s Y H vs us Q I r h=>by
 obtain⟨v,i,b,h⟩:=h;subst b;cases r with
 |cons r c=>
  rw[a];refine y3 (bT (h1 U s Y H _ _ _ I r h) λ_ s1 z'=>?_);obtain⟨d,z,f,g⟩:=z';exact h2 U s1 d z _ _ Q f c g
inductive xh(K:bJ)(n:Nat)(t:mB)(v:V)(Y:St)(H:aC)(Q:St->aC->Prop):Prop
 |mk:∀a xs,v=.ref a->bE K H a xs->xs.length=n->t xs Y H Q->xh K n t v Y H Q
def uj(f:X.calm=aD)(h:p5 X es t)
 (g:(my es X.env).length=n:=by rfl)(i:(my es X.env).findIdx? (·.1)=aF:=by rfl):nc X (.Tuple es k pos) (xh X.K n t):=.mk λU s Y H v u Q I r c=>by
 obtain⟨a,xs,j,l,m,c⟩:=c;subst j;cases r;obtain⟨x,d,p,y⟩:=I.tuple l;refine assign_Tuple_tuple (I.ok.hd f) p (by simp[g,←m,d.length]) i λh' q=>?_;have w:Inv X U Y H {s with heap:=h'}:=I.kept (t':=s.toks) λb o e=>q b o (dC (cW e)) e;exact h U _ Y H xs _ Q w (by simpa using d) c
abbrev TG (Q:St->aC->Prop) (Y:St):aC->Prop:=λa=>Q Y a
abbrev TH (t:Hy) (v o:V) (Y:St) (Q:St->aC->Prop):aP:=λi H2=>t o i v H2 (TG Q Y)
abbrev YB (a:bF) (t:Hy) (v:V) (Y:St) (Q:St->aC->Prop):aP:=λo z=>a Y z (TH t v o Y Q)
abbrev Hw (g:gO) (Y:St) (N:St->aC->Prop):aP:=λx z=>g x Y z N
def w2(te:bF)(g:gO):dZ:=λD Y H=>te Y H (Hw g Y D.nx)
def Gq(a:bL X e te)(b:nc X tg g)(c:swapsWithSole [tg] e pos.line X.env=pure aK:=by rfl)(d:swappedStores [tg] e X.env=pure aF:=by rfl)
 (h1:(my [tg] X.env).map (·.2)=[assign tg X.env]:=by rfl):kz X (.Assign [tg] e pos) (w2 te g):=.mk λU s Y H D I h=>by
 refine wpAny_Assign_stores (bT (a U s Y H _ I h) λv s1 z'=>?_) c d;obtain⟨x,z,f,i,j⟩:=z';rw[h1];exact bT (b U s1 Y z x v _ f i j) λ_ k q=>q
def cF(a:X.N.Nodup)(hi:X.N[i]?=Z x)(b:Loc X.env.scope x)(c:bL X e te)(d:qZ e (Z (.Name x A)) pos.line X.env=pure aK:=by rfl)(f:X.fn x=aD\/X.env.scope.names.lookup x=Z .local:=by trivial) :
  kz X (.Assign [.Name x A] e pos) (w2 te (nz i)):=.mk λU s Y H D I h=>by
 refine wpAny_Assign_Name (bT (c U s Y H _ I h) λv s1 z'=>?_) d;obtain⟨y,z,g,j,k⟩:=z';exact sU g a hi b j (λm l=>⟨_,z,l,k⟩) f
inductive Ib(i j:Nat)(Y:St)(N:St->aC->Prop)(vs:M0)(z:aC):Prop
 |mk:∀v w,vs=[v,w]->N ((Y.set i (Z v)).set j (Z w)) z->Ib i j Y N vs z
def Vh(i j:Nat)(M:eZ):dZ:=λD Y H=>M Y H (Ib i j Y D.nx)
def Tj{x y:aA}{l k2 m}(B:X.calm=aD)(r:X.N.Nodup)(hi:X.N[i]?=Z x)(C:X.N[j]?=Z y)(E:i≠j)
 (t:X.env.scope.names.lookup x=Z .local)(u:X.env.scope.names.lookup y=Z .local)(G:iA X [a,b] M)
 (J:swappedStores [.Tuple [.Name x f,.Name y g] l k] (.Tuple [a,b] k2 m) X.env=pure (Z [x,y]))
 (L:swapsWithSole [.Tuple [.Name x f,.Name y g] l k] (.Tuple [a,b] k2 m) pos.line X.env=pure aK:=by rfl) :
  kz X (.Assign [.Tuple [.Name x f,.Name y g] l k] (.Tuple [a,b] k2 m) pos) (Vh i j M):=.mk λU s Y H D I h=>by
 rw[exec_Assign_arm];refine aO (pY ?_);rw[L];refine aO (bN ?_);rw[B3 YR];refine aO (Tuple_ (bT (G _ U s Y H _ I h) λus s1 z'=>?_));obtain⟨vs,z,N,Q,n⟩:=z';obtain⟨v,w,T,n⟩:=n;subst T;obtain⟨c,d,rfl,a0,a1⟩:∃c d,us=[c,d]/\cE v c/\cE w d:=by
  cases Q with
  |cons p q=>
   cases q with
   |cons a2 a3=>
    cases a3;exact⟨_,_,O,p,a2⟩
 refine nI ?_ (by show 2<=cP;decide);have a4:Inv X U Y z {s1 with heap:=s1.heap.push {cls:=.type "tuple",data:=.seq [c,d].toArray}}:=N.kept (t':=s1.toks) λb o e=>cZ _ e;rw[J];refine aO (bN ?_);show aU (aW X.prog X.w) X.A (do rule "assign.swapped-stores";let items ←unpackItems (.ref s1.heap.objs.size) 2 aF;t0 [λv=>bindName X.env y v,λv=>bindName X.env x v] items.reverse;pure Flow.next) _ _ _;refine aO (t5 (aO (unpackItems_tuple (items:=#[c,d]) (I.ok.hd B) (IsTup.new s1.heap _) λh' a5=>?_)));have a6:=a4.kept (h':=h') (t':=s1.toks) λb o e=>a5 b o (dC (cW e)) e;show aU _ _ (t0 [λv=>bindName X.env y v,λv=>bindName X.env x v] [d,c]>>=λ_=>pure Flow.next) _ _ _;refine aO (y3 (wpAny_bindName (sU a6 r C (.inl u) a1 (λa8 a7=>?_) (.inr u))));refine y3 (wpAny_bindName (sU a7 r hi (.inl t) a0 (λa9 A=>assignInOrder_nil (bN ?_)) (.inr t)));rw[List.set_comm _ _ (D4 E)]at A;exact⟨_,z,A,n⟩
abbrev UQ (i:Nat) (Y:St) (N:St->aC->Prop):aP:=λa H2=>N (Y.set i (Z a)) H2
abbrev VL (i:Nat) (a:wK) (Y:St) (N:St->aC->Prop) (x:V):aP:=λy z=>a x y z (UQ i Y N)
inductive Lh(i:Nat)(te:bF)(ti:wK)(D:Ends)(Y:St)(H:aC):Prop
 |mk:∀x,Y[i]?=Z (Z x)->te Y H (VL i ti Y D.nx x)->Lh i te ti D Y H
def Gp(g:X.N.Nodup)(hi:X.N[i]?=Z x)(b:Loc X.env.scope x)(j:bL X e te)(n:zn X op d)(o:X.fn x=aD\/X.env.scope.names.lookup x=Z .local:=by trivial) :
  kz X (.AugAssign (.Name x A) op e pos) (Lh i te d):=.mk λU s Y H D I h=>by
 obtain⟨v,p,h⟩:=h;obtain⟨m,q,t⟩:=I.loc;have B:sb X.env.scope x:=by rcases b with k|k;exact .inl k;exact .inr (.inl k)
 obtain⟨u,r,l⟩:=t i x v hi p B;refine wpAny_AugAssign_Name ?_;have f:aU (aW X.prog X.w) X.A (H5 e X.env) (λw C=>aU (aW X.prog X.w) X.A (inplaceOp op u w) (λr E=>aU (aW X.prog X.w) X.A (storeName X.env x r) (λ_=>md X U D .next) X.xe E) X.xe C) X.xe s:=by
  refine bT (j U s Y H _ I h) λw s1 z'=>?_;obtain⟨y,z,G,J,L⟩:=z';refine bT (n U s1 Y z v y u w _ G r J L) λz a2 z'=>?_;obtain⟨a3,H2,M,N,Q⟩:=z';exact sU M g hi b N (λa4 T=>⟨_,H2,T,Q⟩) o
 rcases l with ⟨a,hm⟩|⟨a,c,a0,a1⟩
 .exact wpAny_loadName_local I.ok.kind a q hm f
 .rcases a with a|a
  .exact wpAny_loadName_cell I.ok.kind a a0 a1 f
  .rcases b with k|k
   .have:X.env.scope.names.lookup x=Z .free:=a;rw[k]at this;cases this
   .have:X.env.scope.names.lookup x=Z .free:=a;rw[k]at this;cases this
inductive HI(f:Int->Int->Int)(x y:V)(H:aC)(Q:aP):Prop
 |mk:∀i j,x=.int i->y=.int j->Q (.int (f i j)) H->HI f x y H Q
def TY:zn X .Add (HI λi j=>i+j):=by
 intro U s Y H x y v u Q I a b h;obtain⟨i,j,c,d,q⟩:=h;subst c;subst d;obtain⟨t,rfl⟩:=a;obtain⟨t',rfl⟩:=b;exact iadd_int ⟨.int _,H,I.tok _,⟨_,O⟩,q⟩
def FT(c:TT)(tb:dZ):dZ:=λD Y H=>∃W:Nat->St->aC->Prop,(∃m,W m Y H)/\∀m Y H,W m Y H ->
 c Y H λb z=>if b=aD then ∃N:St->aC->Prop,(∀σ' H',N σ' H'->∃a,a<m/\W a σ' H')/\tb {D with nx:=N,ct:=N,bk:=D.nx} Y z else D.nx Y z
def u5(p:vt (aW X.prog X.w) X.A X.env X.xe)(t:lD X c o)(u:iB X body tb):kz X (.While c body [] pos) (FT o tb):=.mk λU s Y H D I h=>by
 obtain⟨W,⟨w,x⟩,y⟩:=h;refine wpAny_While (codeAny_whileLoop (λn L=>∃σ' H',Inv X U σ' H' L/\W n σ' H') ?_ w ⟨Y,H,I,x⟩);rintro n s1 ⟨e,z,A,B⟩;refine qQ p (bT (t U s1 e z _ A (y n e z B)) λb C z'=>?_);obtain⟨H2,q,g⟩:=z';cases b with
 |true=>
  obtain⟨N,r,g⟩:=g;rw[B4 O];refine qQ p (bT (u U C e H2 _ q g) λf E i=>?_);cases f with
  |next=>
   obtain⟨a,d,j,k⟩:=i;obtain⟨l,hm,m⟩:=r a d k;exact⟨l,hm,a,d,j,m⟩
  |cont=>
   obtain⟨a,d,j,k⟩:=i;obtain⟨l,hm,m⟩:=r a d k;exact⟨l,hm,a,d,j,m⟩
  |brk=>exact i
  |ret v=>exact i
 |false=>
  rw[B3 fQ];exact rL ⟨e,H2,q,g⟩
end
structure jI where
 go:Nat->aC->Prop
 yld:Nat->aC->V->aC->Prop
 stop:Nat->aC->Prop
def pj(X:aX)(U:List (aB×aZ))(H:aC)(b:aB):Prop:=
 H b=aF/\b≠X.env.locals/\b∉X.fs/\(b∈X.ex\/X.s₀.heap.objs.size<=b)/\(∀x c,X.env.cells.lookup x=Z c->c≠b)/\∀p∈X.pn++U,p.1≠b
def Inv.fpOk(I:Inv X U Y H s)(a:s.heap.objs.size<=b)(f:H' b=aF):pj X U H' b:=by
 refine⟨f,nN (gT I.lt a),I.nofs a,.inr (dN I.sz a),λx c e d=>?_,λp g d=>?_⟩
 .obtain⟨v,q⟩:=I.cell x c e;exact B6 (gT q.lt (by rw[d];exact a)) (oF _)
 .exact B6 (gT (cW (I.pin p g).1) (by rw[d];exact a)) (oF _)
structure oN (P:bS) (w:bP) (K:bJ) (tg:bI) (J:jI) (fp:List aB) (G:aB) (tn:Nat->bH->Prop):Prop where
 mem:G∈fp
 obj:∀i h,tn i h->∀b∈fp,∃o,h.get? b=Z o/\∀v,o.data≠.cell v
 keep:∀i h h',tn i h->(∀b∈fp,∀o,h.get? b=Z o->h'.get? b=Z o)->tn i h'
 item:∀(X:aX),X.prog=P->X.w=w->X.K=K->X.calm=aD->∀(i:Nat)(U:List (aB×aZ))(s:aJ)(Y:St)(H:aC)(E:aE->aJ->Prop),Inv X U Y H s->(∀b∈fp,pj X U H b)->tn i s.heap->J.go i H ->
  aU (aW P w) X.A (I1 (.ref G)) (λr s1=>∃u,r=Z u /\
   aU (aW P w) X.A (wq tg (.ref G) u) (λ_ s2=>∃x H',Inv X U Y H' s2/\cE x u/\J.yld i H x H'/\tn (i+1) s2.heap/\∀b∈fp,H' b=aF) E s1) E s
 done:∀(X:aX),X.prog=P->X.w=w->X.K=K->X.calm=aD->∀(i:Nat)(U:List (aB×aZ))(s:aJ)(Y:St)(H:aC)(E:aE->aJ->Prop),Inv X U Y H s->(∀b∈fp,pj X U H b)->tn i s.heap->J.stop i H ->
  aU (aW P w) X.A (I1 (.ref G)) (λr s1=>r=aF/\Inv X U Y H s1) E s
 self:∀(A:bX)(i:Nat)(s:aJ)(Q E:aE->aJ->Prop),tn i s.heap->Q (.ref G) s->aU (aW P w) A (I2 (.ref G)) Q E s
abbrev TI:=St->aC->(jI->aC->Prop)->Prop
def wH(X:aX)(U:List (aB×aZ))(Y:St)(tg:bI)(R:jI->aC->Prop)(e:aE)(a:aJ):Prop:=
 ∃(G:aB)(fp:List aB)(c:Nat->bH->Prop)(d:jI)(H':aC),e=.ref G/\Inv X U Y H' a/\oN X.prog X.w X.K tg d fp G c/\c 0 a.heap/\(∀b∈fp,pj X U H' b)/\R d H'
structure lY (X:aX) (tg iter:bI) (wi:TI):Prop where
 run:∀(U:List (aB×aZ))(s:aJ)(Y:St)(H:aC)(R:jI->aC->Prop),Inv X U Y H s->wi Y H R ->
  aU (aW X.prog X.w) X.A (H5 iter X.env) (λv s1=>aU (aW X.prog X.w) X.A (I2 v) (wH X U Y tg R) X.xe s1) X.xe s
instance {X:aX} {tg iter:bI} {a:TI}:CoeFun (lY X tg iter a) λ_=>∀(U:List (aB×aZ))(s:aJ)(Y:St)(H:aC)(R:jI->aC->Prop),Inv X U Y H s->a Y H R ->
  aU (aW X.prog X.w) X.A (H5 iter X.env) (λv s1=>aU (aW X.prog X.w) X.A (I2 v) (wH X U Y tg R) X.xe s1) X.xe s:=⟨lY.run⟩
def uA{n:String}(b:s.heap.get? G=Z o)(c:o.cls=.type n)(d:o.data=.fields vs)
 (e:["enumerate","zip","dict_itemiterator","dict_reverseitemiterator","odict_iterator","itertools.zip_longest","itertools.pairwise"].contains n=aK)(a:Q () s):aU M A (wq tg (.ref G) u) Q E s:=by
  unfold wq;cases tg <;> first
    | exact bN a
    | (cases u <;> first
        | exact bN a
        | (refine aO (wpAny_load b ?_)
           rw[c,d];show aU M A (if (["enumerate","zip","dict_itemiterator","dict_reverseitemiterator","odict_iterator","itertools.zip_longest","itertools.pairwise"].contains n && vs[0]? == Z (I3 _))=aD then _ else _) Q E s;rw[B3 (by intro h;rw[e,tS] at h;cases h)];exact bN a))
noncomputable def wD(K:bJ)(a:aB):jI:=
 ⟨λi H=>∃xs x,aQ K H a xs/\xs[i]?=Z x,λi H x H'=>H'=H/\∀xs,aQ K H a xs->xs[i]?=Z x,λi H=>∃xs,aQ K H a xs/\xs.length<=i⟩
noncomputable def Mf(K:bJ)(a:aB):jI:=
 ⟨λi H=>∃xs x,bE K H a xs/\xs[i]?=Z x,λi H x H'=>H'=H/\∀xs,bE K H a xs->xs[i]?=Z x,λi H=>∃xs,bE K H a xs/\xs.length<=i⟩
noncomputable def r2(lo:Int)(n:Nat):jI:=⟨λi _=>i<n,λi H x H'=>H'=H/\x=.int (lo+i),λi _=>n<=i⟩
def OY{K:bJ}(a G:aB):oN P w K tg (wD K a) [G] G (λi h=>h.IsListIter G a i) where
 mem:=by simp
 obj:=λi h st b f=>by
  have e:b=G:=by simpa using f
  subst e;obtain⟨o,e,c,d⟩:=st;exact⟨o,e,λv A=>by rw[d]at A;cases A⟩
 keep:=λi h h' st k=>st.at λo e=>k G (by simp) o e
 item:=by
  intro X j l m B i U s Y H E I hf st n;subst j l m;obtain⟨xs,x,g,q⟩:=n;obtain⟨D,r,p,J⟩:=I.list g;obtain⟨u,L,M⟩:=r.get q;obtain⟨t,f1,f2,f3,y,z⟩:=hf G (by simp);refine I4 st p.isList (x:=u) (by simpa using L) λh' C N=>?_;have Q:Inv X U Y H {s with heap:=h'}:=I.turned (t':=s.toks) (λb o f e=>(N.2 b f).trans e) t f1 f3 y z;obtain⟨o,e,c,d⟩:=id C;exact⟨u,O,uA (s:={s with heap:=h'}) e c d YR ⟨x,H,Q,M,⟨O,λys T=>by rw[I.list_inj T g];exact q⟩,C,λb f=>(hf b f).1⟩⟩
 done:=by
  intro X j l m B i U s Y H E I hf st n;subst j l m;obtain⟨xs,g,q⟩:=n;obtain⟨D,r,p,J⟩:=I.list g;obtain⟨t,f1,f2,f3,y,z⟩:=hf G (by simp);have a1:=r.length;exact I5 (I.ok.hd B) st p.isList (by simp;omega) λh' a0=>⟨O,I.turned (t':=s.toks) (λb o f e=>a0 b o f e) t f1 f3 y z⟩
 self:=λ_ _ _ _ _ st h=>wpAny_pyIter_listiter st h
def NY{K:bJ}(G:aB)(lo:Int)(n:Nat):oN P w K tg (r2 lo n) [G] G (λi h=>IsRangeIter h G (lo+(i:Nat)*1) ((n:Int)-(i:Nat)) 1) where
 mem:=by simp
 obj:=λi h st b a=>by
  have e:b=G:=by simpa using a
  subst e;exact⟨_,st,λv r=>by
   have u:Data.fields _=Data.cell v:=r;cases u⟩
 keep:=λi h h' st k=>k G (by simp) _ st
 item:=by
  intro X c d f g i U s Y H E I hf st j;subst c d f;obtain⟨l,f1,f2,f3,m,p⟩:=hf G (by simp);have W:=Walks.range (prog:=X.prog) (w:=X.w) (I.ok.hd g) G lo 1 n;refine W.item i s _ _ j st λv h' tk x q y=>?_;obtain⟨t,rfl⟩:=x;have z:Inv X U Y H {s with heap:=h',toks:=tk}:=I.turned (λb o a e=>y b o (by simpa using a) e) l f1 f3 m p;refine⟨_,O,uA (s:={s with heap:=h',toks:=tk}) (n:="range_iterator") q O O YR ⟨.int (lo+i),H,z,⟨t,?_⟩,⟨O,O⟩,q,λb a=>(hf b a).1⟩⟩;rw[p1]
 done:=by
  intro X c d f g i U s Y H E I hf st j;subst c d f;obtain⟨l,f1,f2,f3,m,p⟩:=hf G (by simp);exact wpAny_pyNext_range_end (I.ok.hd g) st (by have:n<=i:=j;omega) λh' A=>⟨O,I.turned (t':=s.toks) (λb o a e=>A b o a e) l f1 f3 m p⟩
 self:=λ_ _ _ _ _ st h=>wpAny_pyIter_rangeiter st h
section
variable{X:aX}{tg:bI}
inductive Ik(K:bJ)(R:jI->aC->Prop)(x:V)(z:aC):Prop
 |mk:∀a,x=.ref a->(∃xs,aQ K z a xs)->R (wD K a) z->Ik K R x z
def UW(K:bJ)(B:bF):TI:=λY H R=>B Y H (Ik K R)
inductive Wq(K:bJ)(R:jI->aC->Prop)(x:V)(z:aC):Prop
 |mk:∀a,x=.ref a->(∃xs,bE K z a xs)->R (Mf K a) z->Wq K R x z
def eV(d:bL X l B):lY X tg l (UW X.K B):=.mk λU s Y H R I h=>by
 refine bT (d U s Y H _ I h) λv s1 z'=>?_;obtain⟨x,z,c,f,g⟩:=z';obtain⟨a,e,⟨xs,i⟩,q⟩:=g;subst e;cases f;obtain⟨k,m,p,n⟩:=c.list i;refine qO p.isList ?_;refine⟨s1.heap.objs.size,[s1.heap.objs.size],_,_,z,O,c.kept (t':=s1.toks) λb o e=>cZ _ e,OY a _,⟨_,fP _ O,O,O⟩,λb j=>?_,q⟩;have e:b=s1.heap.objs.size:=by simpa using j
 subst e;exact c.fpOk (bQ _) (c.hok.fresh (bQ _))
def El{lo hi:Int}(I:Inv X U Y H s)(h1:-(2^62)<=lo)(h2:lo<2^62)(c:-(2^62)<=hi)(d:hi<2^62)
 (q:R (r2 lo (hi-lo).toNat) H):aU (aW X.prog X.w) X.A (I2 (.ref s.heap.objs.size)) (wH X U Y tg R) E {s with heap:=s.heap.push {cls:=.type "range",data:=.fields #[.int lo t,.int hi u,.int 1 v]},toks:=tk}:=by
 refine wpAny_pyIter_range (IsRange.new ..) (small_one h1 h2 c d) ?_;have a:Inv X U Y H {s with heap:=s.heap.push {cls:=.type "range",data:=.fields #[.int lo t,.int hi u,.int 1 v]},toks:=tk}:=I.kept λb o e=>cZ _ e;refine⟨(s.heap.push {cls:=.type "range",data:=.fields #[.int lo t,.int hi u,.int 1 v]}).objs.size,[(s.heap.push {cls:=.type "range",data:=.fields #[.int lo t,.int hi u,.int 1 v]}).objs.size],_,_,H,O,
  a.kept (t':=tk) λb o e=>cZ _ e,NY _ lo (hi-lo).toNat,?_,λb f=>?_,q⟩
 .have g:lo+((0:Nat):Int)*1=lo:=by simp
  have h:(((hi-lo).toNat:Nat):Int)-((0:Nat):Int)=Builtin.Range.rangeSize lo hi 1:=by rw[rangeSize_one];split<;>omega
  show IsRangeIter _ _ (lo+((0:Nat):Int)*1) ((((hi-lo).toNat:Nat):Int)-((0:Nat):Int)) 1;rw[g,h];exact fP _ O
 .have e:b=(s.heap.push {cls:=.type "range",data:=.fields #[.int lo t,.int hi u,.int 1 v]}).objs.size:=by simpa using f
  subst e;exact a.fpOk (bQ _) (a.hok.fresh (bQ _))
inductive Il(R:jI->aC->Prop)(vs:M0)(z:aC):Prop
 |mk:∀j:Int,vs=[.int j]->-(2^62)<=j->j<2^62->R (r2 0 j.toNat) z->Il R vs z
def UV(M:eZ):TI:=λY H R=>M Y H (Il R)
inductive Im(R:jI->aC->Prop)(vs:M0)(z:aC):Prop
 |mk:∀i j:Int,vs=[.int i,.int j]->(-(2^62)<=i/\i<2^62/\-(2^62)<=j/\j<2^62)->R (r2 i (j-i).toNat) z->Im R vs z
def UU(M:eZ):TI:=λY H R=>M Y H (Im R)
def qf(c:jH X "range")(hm:X.mg "range"=aF)(d:iA X [a] M)(f:cN [a] X.env=[(aK,H5 a X.env)]:=by rfl):lY X tg (.Call (.Name "range" p) [a] [] pos) (UV M):=.mk λU s Y H R I h=>by
 refine Call_ (oW I c hm boot_range (qF (bT (d pos U s Y H _ I h) λus s1 z'=>?_) f O));obtain⟨vs,z,g,i,b⟩:=z';obtain⟨j,e,b,k,q⟩:=b;subst e;cases i with
 |cons r l=>
  cases l;obtain⟨t,rfl⟩:=r;exact call_range_1 (El g YT YT b k (by simpa using q))
def Px(g:jH X "range")(hm:X.mg "range"=aF)(k:iA X [a,b] M)(l:cN [a,b] X.env=[(aK,H5 a X.env),(aK,H5 b X.env)]:=by rfl)(f:cN [b] X.env=[(aK,H5 b X.env)]:=by rfl) :
  lY X tg (.Call (.Name "range" p) [a,b] [] pos) (UU M):=.mk λU s Y H R I h=>by
 refine Call_ (oW I g hm boot_range (qF (bT (k pos U s Y H _ I h) λus s1 z'=>?_) (by rw[l,f]) (by rw[f];rfl)));obtain⟨vs,z,m,n,c⟩:=z';obtain⟨i,j,e,⟨c,o,u,w⟩,q⟩:=c;subst e;cases n with
 |cons r d=>
  cases d with
  |cons x d=>
   cases d;obtain⟨t,rfl⟩:=r;obtain⟨t',rfl⟩:=x;exact call_range_2 (El m c o u w q)
def sy(g:gO)(tb:dZ)(D:Ends)(Y:St)(a:jI)(z:aC):Prop:=∃W:Nat->Nat->St->aC->Prop,(∃m,W 0 m Y z)/\∀i m Y H,W i m Y H ->
 (a.stop i H/\D.nx Y H)\/(a.go i H/\∃N:St->aC->Prop,(∀σ' H',N σ' H'->∃b,b<m/\W (i+1) b σ' H')/\∀x H',a.yld i H x H'->g x Y H' (tb {D with nx:=N,ct:=N,bk:=D.nx}))
def Ht(a:TI)(g:gO)(tb:dZ):dZ:=λD Y H=>a Y H (sy g tb D Y)
noncomputable def qv(fp:List aB)(h:bH):List (aB×aZ):=fp.filterMap λb=>(h.get? b).map λo=>(b,o)
def xA(a:b∈fp)(e:h.get? b=Z o):(b,o)∈qv fp h:=qJ.mpr ⟨b,a,by rw[e];rfl⟩
def Dc(a:p∈qv fp h):p.1∈fp/\h.get? p.1=Z p.2:=by
 obtain⟨b,c,e⟩:=qJ.mp a;cases q:h.get? b with
 |none=>rw[q]at e;cases e
 |some o=>
  rw[q]at e;have d:(b,o)=p:=eA e;subst d;exact⟨c,q⟩
def Inv.pinned(I:Inv X U Y H s)(g:∀b∈fp,pj X U H b)(h:∀b∈fp,∃o,s.heap.get? b=Z o/\∀v,o.data≠.cell v):Inv X (U++qv fp s.heap) Y H s:=
 I.pins_of λp i=>(gN.mp i).elim (λa=>I.pin p (jV _ a)) λa=>by
  obtain⟨c,e⟩:=Dc a;obtain⟨j,k,l,_⟩:=g p.1 c;obtain⟨o,f,d⟩:=h p.1 c;rw[e]at f;cases f;exact⟨e,j,k,l,d⟩
def Inv.unpinned(I:Inv X (U++pl) Y H s):Inv X U Y H s:=I.pins_of λp a=>I.pin p (jV _ (o1 _ a))
def kE(l:vt (aW X.prog X.w) X.A X.env X.xe)(C:X.calm=aD)(hi:lY X tg iter B)(a5:nc X tg g)(a:iB X body tb)
 (a6:∀x,y6 iter X.env x=pure x:=by intro _;rfl):kz X (.For tg iter body [] pos) (Ht B g tb):=.mk λU s Y H D I h=>by
 refine wpAny_For (bT (hi U s Y H _ I h) λv s1 h1=>bT h1 λb1 b2 h2=>?_) a6;obtain⟨G,fp,E,J,H2,e,a7,T,a8,M,W,⟨a9,aa⟩,ac⟩:=h2;subst e;have w:∀{H':aC},(∀b∈fp,H' b=aF)->∀b∈fp,pj X U H' b:=λae b a=>⟨ae b a,(M b a).2⟩
 refine codeAny_forLoop_any (λn L=>∃i σ' H',Inv X U σ' H' L/\E i L.heap/\(∀b∈fp,H' b=aF)/\W i n σ' H') ?_ a9 ⟨0,Y,H2,a7,a8,λb a=>(M b a).1,aa⟩;rintro n Q ⟨i,p,t,a0,a1,a2,af⟩;rcases ac i n p t af with ⟨ag,ah⟩|⟨ai,N,aj,step⟩
 .refine qQ l (bT (T.done X O O O C i U Q p t X.xe a0 (w a2) a1 ag) λr ak z'=>?_);obtain⟨y,al⟩:=z';subst y;exact rL ⟨p,t,al,ah⟩
 .refine qQ l (bT (T.item X O O O C i U Q p t X.xe a0 (w a2) a1 ai) λr ak z'=>?_);obtain⟨u,y,am⟩:=z';subst y;refine qQ l (bT am λ_ a3 z'=>?_);obtain⟨x,a4,an,ao,ap,z,aq⟩:=z';have ar:=an.pinned (w aq) (T.obj _ _ z);refine qQ l (bT (a5 _ a3 p a4 x u _ ar ao (step x a4 ap)) λ_ as z'=>?_);obtain⟨au,av,aw,ax⟩:=z';refine qQ l (bT (a _ as au av _ aw ax) λf A q7=>?_);have again:∀{c:St} {j:aC},Inv X (U++qv fp a3.heap) c j A->N c j->∃m,m<n/\∃i σ' H',Inv X U σ' H' A/\E i A.heap/\(∀b∈fp,H' b=aF)/\W i m σ' H':=λ{c j} k q=>by
   obtain⟨ay,hm,az⟩:=aj c j q;refine⟨ay,hm,i+1,c,j,k.unpinned,T.keep _ _ _ z λb a o e=>(k.pin (b,o) (jV _ (jV _ (xA a e)))).1,λb a=>?_,az⟩;obtain⟨o,e,d⟩:=T.obj _ _ z b a;exact(k.pin (b,o) (jV _ (jV _ (xA a e)))).2.1
  cases f with
  |next=>obtain⟨c,j,k,q⟩:=q7;exact again k q
  |cont=>obtain⟨c,j,k,q⟩:=q7;exact again k q
  |brk=>obtain⟨c,j,k,q7⟩:=q7;exact⟨c,j,k.unpinned,q7⟩
  |ret v=>obtain⟨aR,c,j,k,b0,q7⟩:=q7;exact⟨aR,c,j,k.unpinned,b0,q7⟩
end
def qk{K:bJ}{xs:M0}{g:gO}(Pv:Nat->St->aC->Prop)(c:Pv 0 Y H)(d:∀i Y H,i<=xs.length->Pv i Y H->aQ K H a xs)
 (f:∀i x Y H,xs[i]?=Z x->Pv i Y H->g x Y H (tb {D with nx:=Pv (i+1),ct:=Pv (i+1),bk:=D.nx}))(h:∀Y H,Pv xs.length Y H->D.nx Y H) :
  sy g tb D Y (wD K a) H:=by
 refine⟨λi m Y H=>m=xs.length-i/\i<=xs.length/\Pv i Y H,⟨xs.length,by simp,gU _,c⟩,?_⟩;rintro i m Y H ⟨rfl,hi,p⟩;have q:=d i Y H hi p;by_cases b:i<xs.length
 .refine .inr ⟨⟨xs,xs[i],q,by simp[b]⟩,Pv (i+1),fun σ' H' j=>⟨xs.length-(i+1),YT,O,b,j⟩,λx H' y=>?_⟩;obtain⟨e,y⟩:=y;subst e;exact f i x Y _ (y xs q) p
 .have e:i=xs.length:=YT;subst e;exact .inl ⟨⟨xs,q,bQ _⟩,h Y H p⟩
def qh{lo:Int}(Pv:Nat->St->aC->Prop)(b:Pv 0 Y H)
 (c:∀i Y H,i<n->Pv i Y H->g (.int (lo+i)) Y H (tb {D with nx:=Pv (i+1),ct:=Pv (i+1),bk:=D.nx}))(d:∀Y H,Pv n Y H->D.nx Y H) :
  sy g tb D Y (r2 lo n) H:=by
 refine⟨λi m Y H=>m=n-i/\i<=n/\Pv i Y H,⟨n,by simp,gU _,b⟩,?_⟩;rintro i m Y H ⟨rfl,hi,p⟩;by_cases a:i<n
 .refine .inr ⟨a,Pv (i+1),fun σ' H' f=>⟨n-(i+1),YT,O,a,f⟩,λx H' y=>?_⟩;obtain⟨e,y⟩:=y;subst e y;exact c i Y _ a p
 .have e:i=n:=YT;subst e;exact .inl ⟨bQ _,d Y H p⟩
def u2(Pv:St->aC->Prop)(a:St->aC->Nat)(e:Pv Y H)
 (f:∀Y H,Pv Y H->c Y H λb z=>if b=aD then tb {D with nx:=fun σ' H'=>Pv σ' H'/\a σ' H'<a Y H,ct:=fun σ' H'=>Pv σ' H'/\a σ' H'<a Y H,bk:=D.nx} Y z else D.nx Y z)
 (mono:∀Y H Q d,(∀b z,Q b z->d b z)->c Y H Q->c Y H d):FT c tb D Y H:=by
 refine⟨λm Y H=>m=a Y H/\Pv Y H,⟨_,O,e⟩,?_⟩;rintro m Y H ⟨rfl,p⟩;refine mono Y H _ _ (λb z q=>?_) (f Y H p);cases b with
 |true=>exact⟨_,fun σ' H' ⟨g,l⟩=>⟨_,l,O,g⟩,q⟩
 |false=>exact q
abbrev R2:=V->V->aC->aP->Prop
def fS(X:aX)(f:aE->aE->Sem aE)(r:R2):Prop:=
 ∀(U:List (aB×aZ))(s:aJ)(Y:St)(H:aC)(x y:V)(v u:aE)(Q:aP),Inv X U Y H s->cE x v->cE y u->r x y H Q ->
  aU (aW X.prog X.w) X.A (f v u) (fX X U Y Q) X.xe s
def zq(X:aX)(f:aE->Sem aE)(r:V->aC->aP->Prop):Prop:=
 ∀(U:List (aB×aZ))(s:aJ)(Y:St)(H:aC)(x:V)(v:aE)(Q:aP),Inv X U Y H s->cE x v->r x H Q ->
  aU (aW X.prog X.w) X.A (f v) (fX X U Y Q) X.xe s
def jD(X:aX)(f:aE)(r:M0->aC->aP->Prop):Prop:=
 ∀(U:List (aB×aZ))(s:aJ)(Y:St)(H:aC)(xs:M0)(us:M4)(Q:aP),Inv X U Y H s->cA xs us->r xs H Q ->
  aU (aW X.prog X.w) X.A (call f us) (fX X U Y Q) X.xe s
abbrev VA (r:R2) (x:V) (Q:aP):aP:=λy H2=>r x y H2 Q
abbrev Wm (r:R2) (tb:bF) (Y:St) (Q:aP):aP:=λx z=>tb Y z (VA r x Q)
def vh(r:R2)(M tb:bF):bF:=λY H Q=>M Y H (Wm r tb Y Q)
abbrev Wp (r:V->aC->aP->Prop) (Q:aP):aP:=λx z=>r x z Q
def Xl(r:V->aC->aP->Prop)(M:bF):bF:=λY H Q=>M Y H (Wp r Q)
inductive qA(C:Int->Int->Prop)(g:Int->Int->V)(x y:V)(H:aC)(Q:aP):Prop
 |mk:∀i j,x=.int i->y=.int j->C i j->Q (g i j) H->qA C g x y H Q
inductive pH(g:Int->Int->V)(x y:V)(H:aC)(Q:aP):Prop
 |mk:∀i j,x=.int i->y=.int j->Q (g i j) H->pH g x y H Q
inductive AU(g:Int->V)(x:V)(H:aC)(Q:aP):Prop
 |mk:∀i,x=.int i->Q (g i) H->AU g x H Q
section
variable{X:aX}{a b c:bI}{M tb o:bF}{pos:Pos}
def Ar(d:bL X a M)(e:bL X b tb){U:List (aB×aZ)}{R:V->V->aC->Prop}(I:Inv X U Y H s)
 (h:M Y H λx z=>tb Y z λy H2=>R x y H2){Q:aE->aJ->Prop}{f:aE->aE->Sem aE}
 (g:∀v u c x y H2,Inv X U Y H2 c->cE x v->cE y u->R x y H2->aU (aW X.prog X.w) X.A (f v u) Q X.xe c) :
  aU (aW X.prog X.w) X.A (H5 a X.env) (λv i=>aU (aW X.prog X.w) X.A (H5 b X.env) (λu j=>aU (aW X.prog X.w) X.A (f v u) Q X.xe j) X.xe i) X.xe s:=by
 refine bT (d U s Y H _ I h) λv s1 z'=>?_;obtain⟨x,z,k,l,m⟩:=z';refine bT (e U s1 Y z _ k m) λu c z'=>?_;obtain⟨y,H2,n,o,p⟩:=z';exact g v u c x y H2 n l o p
def bK{op:Operator}{r:R2}(c:fS X (mz op) r)(d:bL X a M)(e:bL X b tb):bL X (.BinOp a op b pos) (vh r M tb):=.mk λU s Y H Q I h=>by
 exact wpAny_BinOp (Ar d e I h fun v u f x y H2 g i j q=>c U f Y H2 x y v u Q g i j q)
def ux(b:zq X (unaryOp op) r)(c:bL X a M):bL X (.UnaryOp op a pos) (Xl r M):=.mk λU s Y H Q I h=>by
 refine UnaryOp_ (bT (c U s Y H _ I h) λv s1 z'=>?_);obtain⟨x,z,d,e,f⟩:=z';exact b U s1 Y z x v Q d e f
def s3{f:aE->aE->Sem aE}{C:Int->Int->Prop}{g:Int->Int->Int}
 (rule:∀(i j:Int)(t u:Tok)(s:aJ)(Q E:aE->aJ->Prop),C i j->Q (.int (g i j) s.toks) {s with toks:=s.toks+1}->aU (aW X.prog X.w) X.A (f (.int i t) (.int j u)) Q E s) :
  fS X f (qA C λi j=>.int (g i j)):=by
 intro U s Y H x y v u Q I a b h;obtain⟨i,j,rfl,rfl,c,q⟩:=h;obtain⟨t,rfl⟩:=a;obtain⟨t',rfl⟩:=b;exact rule i j t t' s _ _ c ⟨.int (g i j),H,I.tok _,⟨_,O⟩,q⟩
def Hv{f:aE->aE->Sem aE}{g:Int->Int->Int}
 (rule:∀(i j:Int)(t u:Tok)(s:aJ)(Q E:aE->aJ->Prop),Q (.int (g i j) s.toks) {s with toks:=s.toks+1}->aU (aW X.prog X.w) X.A (f (.int i t) (.int j u)) Q E s) :
  fS X f (pH λi j=>.int (g i j)):=by
 intro U s Y H x y v u Q I a b h;obtain⟨i,j,rfl,rfl,q⟩:=h;obtain⟨t,rfl⟩:=a;obtain⟨t',rfl⟩:=b;exact rule i j t t' s _ _ ⟨.int (g i j),H,I.tok _,⟨_,O⟩,q⟩
def w6{f:aE->aE->Sem aE}{g:Int->Int->Bool}
 (rule:∀(i j:Int)(t u:Tok)(s:aJ)(Q E:aE->aJ->Prop),Q (.bool (g i j)) s->aU (aW X.prog X.w) X.A (f (.int i t) (.int j u)) Q E s) :
  fS X f (pH λi j=>.bl (g i j)):=by
 intro U s Y H x y v u Q I a b h;obtain⟨i,j,rfl,rfl,q⟩:=h;obtain⟨t,rfl⟩:=a;obtain⟨t',rfl⟩:=b;exact rule i j t t' s _ _ ⟨.bl (g i j),H,I,O,q⟩
def Wf(i j:Int):Prop:=0<=j/\j<=1000000/\i.natAbs<2^64
def xa(i j:Int):Prop:=(-(2^64)<i/\i<2^64)\/(-(2^64)<j/\j<2^64)
def xa.ok(h:xa i j):IntMulOk i j:=by
 rcases h with ⟨h1,h2⟩|⟨h1,h2⟩
 .exact .of_left (intBits_le_64 h1 h2)
 .exact .of_right (intBits_le_64 h1 h2)
def NX(k:Nat):(0:Int)<=2^k:=by
 rw[two_pow_cast];exact vX _
def lm:fS X (mz .Add) (pH λi j=>.int (i+j)):=Hv λ_ _ _ _ _ _ _ q=>add_int q
def mE:fS X (mz .Sub) (pH λi j=>.int (i-j)):=Hv λ_ _ _ _ _ _ _ q=>sub_int q
def oi:fS X (mz .Mult) (qA xa fun i j=>.int (i*j)):=s3 fun _ _ _ _ _ _ _ a q=>mul_int q a.ok
def gR:fS X (mz .Mod) (qA (λ_ j=>0<j) λi j=>.int (i%j)):=s3 λi j _ _ _ _ _ a q=>by
 have h1:(0:Int)<j:=a;exact mod_int' YT (by rw[Int.fmod_eq_emod_of_nonneg i YT];exact q)
def lH:fS X (mz .Pow) (qA Wf fun i j=>.int (i ^ j.toNat)):=s3 fun _ _ _ _ _ _ _ a q=>pow_int_small a.1 a.2.1 a.2.2 q
def Ts:fS X (mz .RShift) (qA (λ_ j=>0<=j) λi j=>.int (i/2^j.toNat)):=s3 λi j _ _ _ _ _ a q=>
 rshift_int a (by rw[Int.fdiv_eq_ediv_of_nonneg i (NX _)];exact q)
def Xs{f:aE->Sem aE}{g:Int->Int}
 (rule:∀(i:Int)(t:Tok)(s:aJ)(Q E:aE->aJ->Prop),Q (.int (g i) s.toks) {s with toks:=s.toks+1}->aU (aW X.prog X.w) X.A (f (.int i t)) Q E s) :
  zq X f (AU λi=>.int (g i)):=by
 intro U s Y H x v Q I a h;obtain⟨i,rfl,q⟩:=h;obtain⟨t,rfl⟩:=a;exact rule i t s _ _ ⟨.int (g i),H,I.tok _,⟨_,O⟩,q⟩
def vq:zq X (unaryOp .USub) (AU λi=>.int (-i)):=Xs λ_ _ _ _ _ q=>neg_int q
end
noncomputable def Hu:V->V->Bool
 |.non,.non=>aD|.non,.int _=>aD|.int _,.non=>aD|.non,.bl _=>aD|.bl _,.non=>aD|.non,.str _=>aD|.str _,.non=>aD
 |.int _,.int _=>aD|.bl _,.bl _=>aD|.str _,.str _=>aD|.byt _,.byt _=>aD
 |.int _,.str _=>aD|.str _,.int _=>aD|.bl _,.str _=>aD|.str _,.bl _=>aD
 |_,_=>aK
def WI:R2:=λx y H Q=>Hu x y=aD/\Q (.bl (G9 (x=y))) H
def WP:R2:=λx y H Q=>Hu x y=aD/\Q (.bl (!G9 (x=y))) H
def pB:G9 (V.int i=V.int j)=(i==j):=by
 rw[mK];simp
def GP:G9 (V.bl i=V.bl j)=(i==j):=by
 rw[mK];simp
def rp:G9 (V.str i=V.str j)=(i==j):=by
 rw[mK];simp
def FI:G9 (V.byt i=V.byt j)=(i.toList==j.toList):=by
 rw[mK];cases i;cases j;simp
section
variable{X:aX}{a b c:bI}{M tb o:bF}{pos:Pos}
def gI{k a:Bool}(I:Inv X U Y H s)(q:Q (.bl k) H)(e:k=a):fX X U Y Q (.bool a) s:=by
 subst e;exact⟨.bl k,H,I,O,q⟩
def pK:fS X (iU .Eq) WI:=by
 intro U s Y H x y v u Q I c a h;obtain⟨b,q⟩:=h;cases x with
 |non=>
  cases c;cases y with
  |non=>cases a;exact PySem.EqNone.eq_none_none (gI I q (by simp))
  |bl j=>cases a;exact PySem.EqNone.eq_none_bool (gI I q (by simp))
  |int j=>obtain⟨t',rfl⟩:=a;exact PySem.EqNone.eq_none_int (gI I q (by simp))
  |str j=>obtain⟨t',rfl⟩:=a;exact PySem.EqNone.eq_none_str (gI I q (by simp))
  |_=>exact B6 (show aK=aD from b) fQ
 |bl i=>
  cases c;cases y with
  |non=>cases a;exact PySem.EqNone.eq_bool_none (gI I q (by simp))
  |bl j=>cases a;exact eq_bool (gI I q GP)
  |str j=>obtain⟨t',rfl⟩:=a;exact PySem.EqMixed.eq_bool_str (gI I q (by simp))
  |_=>exact B6 (show aK=aD from b) fQ
 |int i=>
  obtain⟨t,rfl⟩:=c;cases y with
  |non=>cases a;exact PySem.EqNone.eq_int_none (gI I q (by simp))
  |int j=>obtain⟨t',rfl⟩:=a;exact eq_int (gI I q pB)
  |str j=>obtain⟨t',rfl⟩:=a;exact PySem.EqMixed.eq_int_str (gI I q (by simp))
  |_=>exact B6 (show aK=aD from b) fQ
 |str i=>
  obtain⟨t,rfl⟩:=c;cases y with
  |non=>cases a;exact PySem.EqNone.eq_str_none (gI I q (by simp))
  |bl j=>cases a;exact PySem.EqMixed.eq_str_bool (gI I q (by simp))
  |int j=>obtain⟨t',rfl⟩:=a;exact PySem.EqMixed.eq_str_int (gI I q (by simp))
  |str j=>obtain⟨t',rfl⟩:=a;exact eq_str (gI I q rp)
  |_=>exact B6 (show aK=aD from b) fQ
 |byt i=>
  obtain⟨t,rfl⟩:=c;cases y with
  |byt j=>obtain⟨t',rfl⟩:=a;exact PySem.W.eq_bytes (gI I q FI)
  |_=>exact B6 (show aK=aD from b) fQ
 |_=>cases y<;>exact B6 (show aK=aD from b) fQ
def oY:fS X (iU .NotEq) WP:=by
 intro U s Y H x y v u Q I c a h;obtain⟨b,q⟩:=h;cases x with
 |non=>
  cases c;cases y with
  |non=>cases a;exact PySem.EqNone.ne_none_none (gI I q (by simp))
  |bl j=>cases a;exact PySem.EqNone.ne_none_bool (gI I q (by simp))
  |int j=>obtain⟨t',rfl⟩:=a;exact PySem.EqNone.ne_none_int (gI I q (by simp))
  |str j=>obtain⟨t',rfl⟩:=a;exact PySem.EqNone.ne_none_str (gI I q (by simp))
  |_=>exact B6 (show aK=aD from b) fQ
 |bl i=>
  cases c;cases y with
  |non=>cases a;exact PySem.EqNone.ne_bool_none (gI I q (by simp))
  |bl j=>cases a;exact ne_bool (gI I q (B7 not GP))
  |str j=>obtain⟨t',rfl⟩:=a;exact PySem.EqMixed.ne_bool_str (gI I q (by simp))
  |_=>exact B6 (show aK=aD from b) fQ
 |int i=>
  obtain⟨t,rfl⟩:=c;cases y with
  |non=>cases a;exact PySem.EqNone.ne_int_none (gI I q (by simp))
  |int j=>obtain⟨t',rfl⟩:=a;exact ne_int (gI I q (B7 not pB))
  |str j=>obtain⟨t',rfl⟩:=a;exact PySem.EqMixed.ne_int_str (gI I q (by simp))
  |_=>exact B6 (show aK=aD from b) fQ
 |str i=>
  obtain⟨t,rfl⟩:=c;cases y with
  |non=>cases a;exact PySem.EqNone.ne_str_none (gI I q (by simp))
  |bl j=>cases a;exact PySem.EqMixed.ne_str_bool (gI I q (by simp))
  |int j=>obtain⟨t',rfl⟩:=a;exact PySem.EqMixed.ne_str_int (gI I q (by simp))
  |str j=>obtain⟨t',rfl⟩:=a;exact ne_str (gI I q (B7 not rp))
  |_=>exact B6 (show aK=aD from b) fQ
 |byt i=>
  obtain⟨t,rfl⟩:=c;cases y with
  |byt j=>obtain⟨t',rfl⟩:=a;exact PySem.W.ne_bytes (gI I q (B7 not FI))
  |_=>exact B6 (show aK=aD from b) fQ
 |_=>cases y<;>exact B6 (show aK=aD from b) fQ
def qC:fS X (iU .Lt) (pH λi j=>.bl (G9 (i<j))):=w6 λ_ _ _ _ _ _ _ q=>lt_int q
def nu:fS X (iU .LtE) (pH λi j=>.bl (G9 (i<=j))):=w6 λ_ _ _ _ _ _ _ q=>le_int q
def uy:fS X (iU .Gt) (pH λi j=>.bl (G9 (j<i))):=w6 λ_ _ _ _ _ _ _ q=>gt_int q
def Hh:fS X (iU .GtE) (pH λi j=>.bl (G9 (j<=i))):=w6 λ_ _ _ _ _ _ _ q=>ge_int q
def Pz:fS X (iU .In) (λx y H Q=>∃i j,x=.str i/\y=.str j/\Q (.bl (!(Builtin.Str.occurrences j i 0 j.length 1).isEmpty)) H):=by
 intro U s Y H x y v u Q I a b h;obtain⟨i,j,rfl,rfl,q⟩:=h;obtain⟨t,rfl⟩:=a;obtain⟨t',rfl⟩:=b;exact in_str (gI I q O)
def z1:fS X (iU .Is) (λx y H Q=>y=.non/\Q (.bl (G9 (x=.non))) H):=by
 intro U s Y H x y v u Q I a b h;obtain⟨rfl,q⟩:=h;cases b;refine is_none_gen (gI I q ?_);cases x<;>first
  |(cases a;rfl)
  |(obtain⟨t,rfl⟩:=a;rfl)
def zJ:fS X (iU .IsNot) (λx y H Q=>y=.non/\Q (.bl (!G9 (x=.non))) H):=by
 intro U s Y H x y v u Q I a b h;obtain⟨rfl,q⟩:=h;cases b;refine isnot_none_gen (gI I q ?_);cases x<;>first
  |(cases a;rfl)
  |(obtain⟨t,rfl⟩:=a;rfl)
def eO(b:bI)(h:op≠.In:=by decide)(h2:op≠.NotIn:=by decide):tZ op b=aK:=by
 have a:(op == CmpOp.In)=aK:=by cases op <;> first | rfl | exact B6 rfl h
 have c:(op == CmpOp.NotIn)=aK:=by cases op <;> first | rfl | exact B6 rfl h2
 cases b <;> simp[tZ,a,c]
def lF{op:CmpOp}{r:R2}(c:fS X (iU op) r)(d:bL X a M)(e:bL X b tb)(hm:tZ op b=aK):bL X (.Compare a [op] [b] pos) (vh r M tb):=.mk λU s Y H Q I h=>by
 exact wpAny_Compare1 (Ar d e I h fun v u f x y H2 g i j q=>c U f Y H2 x y v u Q g i j q) hm
def GU(t:bF):TT:=λY H Q=>t Y H (xp Q)
def fG(d:fS X (iU op) r)(f:bL X a M)(g:bL X b tb)(hm:tZ op b=aK):lD X (.Compare a [op] [b] pos) (GU (vh r M tb)):=.mk λU s Y H Q I h=>by
 refine H9 (bT (f U s Y H _ I h) λv s1 ⟨x,z,i,j,l⟩=>bT (g U s1 Y z _ i l) λu m ⟨y,H2,n,o,p⟩=>
  bT (d U m Y H2 x y v u _ n j o p) λc B ⟨C,q,t,w,k,e,A⟩=>?_) hm
 subst e;cases w;exact oC ⟨q,t,A⟩
abbrev VH (a:R2) (y:V) (Q:aP):aP:=λb c=>a y b c Q
inductive HS(r':R2)(o:bF)(Y:St)(Q:aP)(y z:V)(H3:aC):Prop
 |mk:∀k,z=.bl k->(if k=aD then o Y H3 (VH r' y Q) else Q (.bl aK) H3)->HS r' o Y Q y z H3
abbrev VI (r a:R2) (o:bF) (Y:St) (Q:aP) (x:V):aP:=λy H2=>r x y H2 (HS a o Y Q y)
abbrev Wk (r a:R2) (tb o:bF) (Y:St) (Q:aP):aP:=λx z=>tb Y z (VI r a o Y Q x)
def FU(r a:R2)(M tb o:bF):bF:=λY H Q=>M Y H (Wk r a tb o Y Q)
def x0(n:fS X (iU op) r)(p:fS X (iU f) g)(q:bL X a M)(t:bL X b tb)(w:bL X c o)
 (hm:lastMarks [op,f] [b,c]=aK:=by with_unfolding_all rfl):bL X (.Compare a [op,f] [b,c] pos) (FU r g M tb o):=by
 refine⟨?_⟩
 intro U s Y H Q I h
 refine Compare_chain (bT (q U s Y H _ I h) fun v s1 ⟨x,z,A,B,C⟩=>chain_link (bT (t U s1 Y z _ A C) fun u D ⟨y,H2,E,i,G⟩ =>
  bT (n U D Y H2 x y v u _ E B i G) fun d J ⟨z,j,l,L,k,e,m⟩=>?_)) hm
 subst e
 cases L
 refine oC ?_
 cases k with
 | false=>exact ite_ff ⟨.bl aK,j,l,rfl,m⟩
 | true=>exact ite_tt (chain_last (bT (w U J Y j _ l m) fun N T ⟨a0,a1,a2,a3,a4⟩=>p U T Y a1 y a0 u N Q a2 i a3 a4))
def Qr(n:fS X (iU op) r)(p:fS X (iU f) g)(q:bL X a M)(t:bL X b tb)(w:bL X c o)
 (hm:lastMarks [op,f] [b,c]=aK:=by with_unfolding_all rfl):lD X (.Compare a [op,f] [b,c] pos) (GU (FU r g M tb o)):=by
 refine⟨?_⟩
 intro U s Y H Q I h
 refine isTrue_chain (bT (q U s Y H _ I h) fun v s1 ⟨x,z,A,B,C⟩=>test_link (bT (t U s1 Y z _ A C) fun u D ⟨y,H2,E,i,G⟩ =>
  bT (n U D Y H2 x y v u _ E B i G) fun d J ⟨z,j,l,L,k,e,m⟩=>?_)) hm
 subst e
 cases L
 refine oC ?_
 cases k with
 | false =>
  obtain⟨ae,N,T⟩:=m
  cases N
  exact ite_ff ⟨j,l,T⟩
 | true =>
  refine ite_tt (test_last (bT (w U J Y j _ l m) fun a0 a1 z'=>?_));obtain⟨a2,a3,a4,a5,a6⟩:=z';refine bT (p U a1 Y a3 y a2 u a0 _ a4 i a5 a6) fun d' af z'=>?_;obtain⟨ag,a7,a8,a9,k2,aa,ac⟩:=z'
  subst aa
  cases a9
  exact oC ⟨a7,a8,ac⟩
def uo:(cP:Nat)<2^63:=by rw[jC];decide
def Ck:fS X (mz .Add) (λx y H Q=>∃i j,x=.str i/\y=.str j/\i.length+j.length<=cP/\Q (.str (i++j)) H):=by
 intro U s Y H x y v u Q I a b h;obtain⟨i,j,rfl,rfl,c,q⟩:=h;obtain⟨t,rfl⟩:=a;obtain⟨t',rfl⟩:=b;exact add_str (λt' tk=>⟨.str (i++j),H,I.tok _,⟨_,O⟩,q⟩) c
def se(r:cA [x] us):∃u,us=[u]/\cE x u:=by
 cases r with
 |cons a b=>cases b;exact⟨_,O,a⟩
def GR(r:cA [x,y] us):∃u a,us=[u,a]/\cE x u/\cE y a:=by
 cases r with
 |cons b c=>
  cases c with
  |cons d e=>cases e;exact⟨_,_,O,b,d⟩
def EQ:jD X (.builtin "abs") (λxs H Q=>∃i,xs=[.int i]/\Q (.int (if i<0 then -i else i)) H):=by
 intro U s Y H xs us Q I r h;obtain⟨i,rfl,q⟩:=h;obtain⟨u,rfl,t,rfl⟩:=se r;exact call_abs_int λu tk=>⟨.int (if i<0 then -i else i),H,I.tok _,⟨_,O⟩,q⟩
def xL(b:X.calm=aD):jD X (.builtin "max") (λxs H Q=>∃i j,xs=[.int i,.int j]/\Q (.int (if j>i then j else i)) H):=by
 intro U s Y H xs us Q I r h;obtain⟨i,j,rfl,q⟩:=h;obtain⟨u,c,rfl,⟨t,rfl⟩,⟨t',rfl⟩⟩:=GR r;refine max_two_ints (I.ok.hd b) λh' tk k=>⟨_,H,I.kept k,?_,q⟩
 by_cases a:j>i
 .rw[B4 a,B4 a];exact⟨_,O⟩
 .rw[B3 a,B3 a];exact⟨_,O⟩
def xK(b:X.calm=aD):jD X (.builtin "min") (λxs H Q=>∃i j,xs=[.int i,.int j]/\Q (.int (if j<i then j else i)) H):=by
 intro U s Y H xs us Q I r h;obtain⟨i,j,rfl,q⟩:=h;obtain⟨u,c,rfl,⟨t,rfl⟩,⟨t',rfl⟩⟩:=GR r;refine min_two_ints (I.ok.hd b) λh' tk k=>⟨_,H,I.kept k,?_,q⟩
 by_cases a:j<i
 .rw[B4 a,B4 a];exact⟨_,O⟩
 .rw[B3 a,B3 a];exact⟨_,O⟩
end
structure q4 (h:bH) (x dx C:aB) (T:aA->Option aE):Prop where
 obj:h.get? x=Z (pV C dx)
 ns:h.Ns1 dx T
 ne:dx≠x
def PG{h:bH}{dx:aB}{T:aA->Option aE}(n:h.Ns1 dx T):∃b,h.get? dx=Z b/\∀name,wc name b=Z (T name):=by
 obtain⟨o,es,ep,c,d,f,_,hm⟩:=n;refine⟨o,c,λname=>?_⟩;have e:=hm name;unfold nsFind findBy at e;rw[←Array.find?_toList]at e;unfold wc;rw[d];dsimp only;split
 .rename_i y q;rw[q]at e;exact B7 Z e
 .rename_i q;rw[q]at e;have a:es.toList.any (·.refKey)=aK:=by
   rw[List.any_eq_false];intro y g;obtain⟨k,t,i⟩:=f y (Array.mem_toList_iff.mp g);simp[r1.refKey,i]
  have j:¬es.toList.any (·.refKey)=aD:=by rw[a];exact fQ
  rw[B3 j];exact B7 Z e
def q4.look(I:q4 h x dx C T):∃a,PySem.W.InstAt h x (pV C dx) C (Z a)/\∀name,wc name a=Z (T name):=
 let ⟨a,b,c⟩:=PG I.ns
 ⟨a,⟨I.obj,O,O,b⟩,c⟩
section
variable{prog:bS}{w:bP}{A:bX}{E:aE->aJ->Prop}{s:aJ}{K:bJ}{x dx C f:aB}{T:aA->Option aE}{name:aA}{v:aE}
def So(X:K.In s.heap)(I:q4 s.heap x dx C T)(a:tJ K C name=aD)(b:vU K C=aD)
 (c:lh K (.ref C) name=Z aF)(d:T name=Z v)(e:PySem.W.handedIn v=aD)(h:Q v {s with toks:=s.toks+1}) :
  aU (aW prog w) A (getAttr (.ref x) name expr) Q E s:=by
 obtain⟨i,f,g⟩:=I.look;exact PySem.W.get_value X f (yH a).1 (PySem.W.findObj_own b c O (by rw[g,d])) e h
def QP(X:K.In s.heap)(I:q4 s.heap x dx C T)(a:tJ K C name=aD)
 (b:lh K (.ref C) name=Z (Z (.ref f)))(c:tW K (.ref f)=aD)(d:T name=aF)(h:Q (.ref f,[.ref x]) s) :
  aU (aW prog w) A (oK (.ref x) name pl) Q E s:=by
 obtain⟨e,g,i⟩:=I.look;exact PySem.W.method_fn X g (yH a).1 (yH a).2 b (C0.mp c) (by show(wc name e).map (·.isSome)=Z aK;rw[i,d];rfl) h
def RF(X:K.In s.heap)(I:q4 s.heap x dx C T)
 (f:lh K (.ref C) "__setattr__"=Z (Z (.builtin "object.__setattr__")))(g:PySem.W.plainOver K C=aD)(i:yV K C name=Z aF)(j:vU K C=aD)
 (k:tX T ns)(hsz:ns.length<=cP)
 (h:∀h',q4 h' x dx C (λy=>if y=name then Z v else T y)->m7 dx s.heap h'->Q () {s with heap:=h',toks:=s.toks+2}) :
  aU (aW prog w) A (setAttr (.ref x) name v) Q E s:=by
 obtain⟨t,c,u⟩:=I.look;refine PySem.W.set_plain X c f (PySem.W.osa_open (s:={s with toks:=s.toks+1}) (r:=aF) X c g i λb=>?_);obtain⟨cd,l,m⟩:=PySem.W.any_some j;have n:s.heap.get? x=Z ⟨.ref C,Z dx,.plain,#[]⟩:=I.obj;refine aO (bN (aO (aO (tV n (aO (yB (s:={s with toks:=s.toks+1}) (yI X l) ?_))))));rw[m];refine bN (a:=Z dx) (aO (bN (aO (wpAny_nsSet1 (s:={s with toks:=s.toks+1}) I.ns λh' d e=>?_))));obtain⟨z,B,D,o,p,q⟩:=d.count (tX.cons name v k);exact aO (wpAny_lookBehind o (by rw[p];exact pastItsLine_dict (dN q (by rw[fW];omega))) (bN (h _ ⟨(e.2 _ (D4 I.ne)).trans I.obj,d,I.ne⟩ e)))
def QE(X:K.In s.heap)(hm:yW K C=aD)
 (hi:lh K (.ref C) "__init__"=Z (Z (.ref f)))(b:PySem.W.typeIn K (.ref f)=Z (.type "function"))
 (h:I6 (aW prog w) (A.under (.builtin "type.__call__" ⟨.ref C::vs,a⟩)) (.call (.ref f) ⟨.ref (s.heap.objs.size+1)::vs,a⟩) (PySem.W.InitBack (s.heap.objs.size+1) R)
   {s with heap:=(s.heap.push o3).push (pV C s.heap.objs.size)}) :
  I6 (aW prog w) A (.call (.ref C) ⟨vs,a⟩) R s:=by
 obtain⟨c,g,d,t,os⟩:=s;exact PySem.W.make_core (PySem.W.makes_of X hm) (PySem.W.looks_findIn X hi) (λself=>PySem.W.bind_fn X self b) YU h
end
noncomputable def gJ(f:aA)(v:V):List (aA×V)->List (aA×V)
 |[]=>[(f,v)]
 |(g,x)::r=>if g=f then(g,v)::r else(g,x)::gJ f v r
theorem mU(f g:aA)(v:V):∀fs:List (aA×V),(gJ f v fs).lookup g=if g=f then Z v else fs.lookup g
 |[]=>by
  show mL g [(f,v)]=_;by_cases h:g=f
  .have a:(g==f)=aD:=C0.mpr h;simp only[mL,a,B4 h]
  .have a:(g==f)=aK:=C1.mpr h;simp only[mL,a,B3 h]
 |(k,x)::r=>by
  have c:=mU f g v r;rw[show gJ f v ((k,x)::r)=(if k=f then(k,v)::r else(k,x)::gJ f v r) from O];by_cases b:k=f
  .rw[B4 b];by_cases h:g=k
   .have a:(g==k)=aD:=C0.mpr h;simp only[mL,a,B4 (h.trans b)]
   .have a:(g==k)=aK:=C1.mpr h;simp only[mL,a,B3 (λe:g=f=>h (e.trans b.symm))]
  .rw[B3 b];by_cases h:g=k
   .have a:(g==k)=aD:=C0.mpr h;simp only[mL,a,B3 (λe:g=f=>b (h.symm.trans e))]
   .have a:(g==k)=aK:=C1.mpr h;simp only[mL,a];exact c
theorem Bu(f:aA)(v:V):∀fs:List (aA×V),f∈(gJ f v fs).map (·.1)/\∀g,g∈fs.map (·.1)->g∈(gJ f v fs).map (·.1)
 |[]=>⟨by simp[gJ],λg h=>by simp at h⟩
 |(k,x)::r=>by
  obtain⟨b,c⟩:=Bu f v r;rw[show gJ f v ((k,x)::r)=(if k=f then(k,v)::r else(k,x)::gJ f v r) from O];by_cases a:k=f
  .rw[B4 a];subst a;exact⟨by simp,λg h=>by simpa using h⟩
  .rw[B3 a];refine⟨?_,λg h=>?_⟩
   .rw[dD];exact eK _ b
   .rw[dD]at h ⊢;rcases dW.mp h with e|e
    .exact dW.mpr (.inl e)
    .exact eK _ (c g e)
theorem LR(f:aA)(v:V):∀fs:List (aA×V),(gJ f v fs).length<=fs.length+1
 |[]=>by simp[gJ]
 |(k,x)::r=>by
  have b:=LR f v r;rw[show gJ f v ((k,x)::r)=(if k=f then(k,v)::r else(k,x)::gJ f v r) from O];by_cases a:k=f
  .rw[B4 a,fW,fW];omega
  .rw[B3 a,fW,fW];omega
def lI.some_of(r:lI (Z v) o):∃u,o=Z u/\cE v u:=by
 cases o with
 |none=>exact(show False from r).elim
 |some u=>exact⟨u,O,r⟩
def lI.none_of(r:lI aF o):o=aF:=by
 cases o with
 |none=>rfl
 |some u=>exact(show False from r).elim
def PK(r:cE v u):PySem.W.handedIn u=aD:=by
 cases v with
 |non=>cases(show u=iS from r);rfl
 |bl b=>cases(show u=t4 b from r);rfl
 |int i=>obtain⟨t,e⟩:=(show ∃t,u=pe i t from r);cases e;rfl
 |str x=>obtain⟨t,e⟩:=(show ∃t,u=aE.str x t from r);cases e;rfl
 |byt b=>obtain⟨t,e⟩:=(show ∃t,u=aE.bytes b t from r);cases e;rfl
 |flt b=>obtain⟨t,e⟩:=(show ∃t,u=aE.float b t from r);cases e;rfl
 |ref a=>cases(show u=cU a from r);rfl
 |ty n=>cases(show u=nP n from r);rfl
section
variable{P:bS}{w:bP}{H H':aC}{h h':bH}{a C dx:aB}{fs s:List (aA×V)}
def yj(b:dL P w H h)(e:H a=Z (.ins C dx fs)):∃T,q4 h a dx C T/\(∀f,lI (fs.lookup f) (T f))/\tX T (fs.map (·.1))/\fs.length<=1000/\H dx=Z (.own a):=by
 obtain⟨d,c,g,i,T,n,r,q⟩:=(show dQ P w H h a (.ins C dx fs) from b a _ e)
 exact⟨T,⟨i,n,g⟩,r,q,c,d⟩
end
structure ma (K:bJ) (C:aB):Prop where
 pg:tJ K C aA.empty=aD
 hd:vU K C=aD
 po:PySem.W.plainOver K C=aD
 sa:lh K (.ref C) "__setattr__"=Z (Z (.builtin "object.__setattr__"))
def ma.get{K:bJ}(c:ma K C)(f:aA):tJ K C f=aD:=c.pg
def on(K:bJ)(C:aB)(f:aA):Prop:=lh K (.ref C) f=Z aF
def on.taker{K:bJ}{f:aA}(n:on K C f):yV K C f=Z aF:=by
 unfold yV;rw[show lh K (.ref C) f=Z aF from n];rfl
structure XW (K:bJ) (C:aB) (f:aA) (v:V) (u:aE):Prop where
 at_:lh K (.ref C) f=Z (Z u)
 rel:cE v u
 get:yO K u "__get__"=Z aF
 cp:PySem.W.copiedNames.contains f=aK
structure r4 (K:bJ) (C:aB) (m:aA) (f:aB):Prop where
 at_:lh K (.ref C) m=Z (Z (.ref f))
 fn:tW K (.ref f)=aD
 kp:nL K (.ref f)=aD
section
variable{X:aX}{U:List (aB×aZ)}{Y:St}{H:aC}{s:aJ}{a C dx:aB}{fs:List (aA×V)}{f:aA}{v:V}{A:bX}{E:aE->aJ->Prop}
def OF(I:Inv X U Y H s)(e:H a=Z (.ins C dx fs))(c:ma X.K C)(n:on X.K C f)(l:fs.lookup f=Z v)
 (h:∀u L,Inv X U Y H L->cE v u->Q u L):aU (aW X.prog X.w) A (getAttr (.ref a) f b) Q E s:=by
 obtain⟨T,g,r,_,_,_⟩:=yj I.hok e;obtain⟨u,i,d⟩:=lI.some_of (v:=v) (o:=T f) (by rw[←l];exact r f);exact So I.kIn g (c.get f) c.hd n i (PK d) (h u _ (I.tok _) d)
def Be(I:Inv X U Y H s)(e:H a=Z (.ins C dx fs))(c:ma X.K C)(k:r4 X.K C m g)(l:fs.lookup m=aF)
 (h:Q (.ref g,[.ref a]) s):aU (aW X.prog X.w) A (oK (.ref a) m pl) Q E s:=by
 obtain⟨T,b,r,_,_,_⟩:=yj I.hok e;have d:T m=aF:=lI.none_of (by rw[←l];exact r m);exact QP I.kIn b (c.get m) k.at_ k.fn d h
def Oc(I:Inv X U Y H s)(e:H a=Z (.ins C dx fs))(c:ma X.K C)(n:on X.K C f)(G:fs.length<1000)(m:cE y u)
 (h:∀L,Inv X U Y (aI H a (.ins C dx (gJ f y fs))) L->Q () L):aU (aW X.prog X.w) A (setAttr (.ref a) f u) Q E s:=by
 obtain⟨T,d,r,k,_,l⟩:=yj I.hok e;have p:(fs.map (·.1)).length<=cP:=by rw[aS,jC];omega
 refine RF I.kIn d c.sa c.po n.taker c.hd k p λh' i t=>h _ ?_;have w:∃o,h'.get? dx=Z o:=let ⟨o,_,_,z,_⟩:=i.ns;⟨o,z⟩;refine I.write (x:=a) (e:=dx) (by rw[e];exact mQ) (.inr l) (λb q B j=>(t.2 b B).trans j) w ⟨by rw[bA d.ne];exact l,?_,d.ne,i.obj,_,i.ns,λg=>?_,λg D=>?_⟩
 .have:=LR f y fs;omega
 .show lI ((gJ f y fs).lookup g) (if g=f then Z u else T g);rw[mU];by_cases q:g=f
  .rw[B4 q,B4 q];exact m
  .rw[B3 q,B3 q];exact r g
 .by_cases q:g=f
  .rw[q];exact(Bu f y fs).1
  .refine(Bu f y fs).2 g (k g λj=>D ?_);show(if g=f then Z u else T g)=aF;rw[B3 q];exact j
def Inv.made(I:Inv X U Y H s):Inv X U Y (aI (aI H s.heap.objs.size (.own (s.heap.objs.size+1))) (s.heap.objs.size+1) (.ins C s.heap.objs.size []))
  {s with heap:=(s.heap.push o3).push (pV C s.heap.objs.size)}:=by
 have c:(s.heap.push o3).get? s.heap.objs.size=Z o3:=fP s.heap O;have f:((s.heap.push o3).push (pV C s.heap.objs.size)).get? (s.heap.objs.size+1)=Z (pV C s.heap.objs.size):=by
  have:=fP (s.heap.push o3) (o:=pV C s.heap.objs.size) O
  rwa [qR]at this
 have g:(s.heap.push o3).Ns s.heap.objs.size (λ_=>aF):=⟨o3,#[],_,c,O,(λe h=>B6 h (by simp)),λ_=>O⟩
 have i:=I.laid (a:=s.heap.objs.size) (o:=.own (s.heap.objs.size+1)) (h':=s.heap.push o3) (t':=s.toks) (λb u q=>cZ _ q) (bQ _) ⟨_,c⟩;refine i.laid (a:=s.heap.objs.size+1) (o:=.ins C s.heap.objs.size []) (t':=s.toks) (λb u q=>cZ _ q) (t1 (qR _ _)) ?_;have d:s.heap.objs.size≠s.heap.objs.size+1:=dC (rH _);refine⟨by rw[bA d,aV],gU _,d,f,λ_=>aF,(bH.Ns1.of_empty g).at λo q=>cZ _ q,λ_=>mQ,λy j=>B6 O j⟩
def SF(a:qS e f env (H5 e env)=H5 e env)
 (h:aU (aW prog w) A (H5 e env) (λo b=>aU (aW prog w) A (getAttr o f aD) Q E b) E s):aU (aW prog w) A (H5 (.Attribute e f pos) env) Q E s:=
 Attribute_any_ h (by rw[arm_eval_Attribute,a])
end
inductive HX(K:bJ)(f:aA)(Q:aP)(x:V)(z:aC):Prop
 |mk:∀a C dx fs v,x=.ref a->z a=Z (.ins C dx fs)->ma K C->on K C f->fs.lookup f=Z v->Q v z->HX K f Q x z
def Vl(K:bJ)(M:bF)(f:aA):bF:=λY H Q=>M Y H (HX K f Q)
inductive Ip(K:bJ)(f:aA)(Y:St)(N:St->aC->Prop)(y x:V)(H2:aC):Prop
 |mk:∀a C dx fs,x=.ref a->H2 a=Z (.ins C dx fs)->ma K C->on K C f->fs.length<1000->N Y (aI H2 a (.ins C dx (gJ f y fs)))->Ip K f Y N y x H2
abbrev UI (K:bJ) (M:bF) (f:aA) (Y:St) (N:St->aC->Prop):aP:=λy z=>M Y z (Ip K f Y N y)
def Vq(K:bJ)(M tv:bF)(f:aA):dZ:=λD Y H=>tv Y H (UI K M f Y D.nx)
def HB(X:aX)(op:Operator)(a:V->V->aC->aP->Prop):Prop:=
 ∀(U:List (aB×aZ))(s:aJ)(Y:St)(H:aC)(x y:V)(u v:aE)(Q:aP),Inv X U Y H s->cE x u->cE y v->a x y H Q->aU (aW X.prog X.w) X.A (inplaceOp op u v) (fX X U Y Q) X.xe s
section
variable{X:aX}{o e value:bI}{f:aA}{pos A m:Pos}{M tv:bF}
def lG(b:bL X e M)(d:qS e f X.env (H5 e X.env)=H5 e X.env):bL X (.Attribute e f pos) (Vl X.K M f):=.mk λU s Y H Q I h=>by
 refine SF d (bT (b U s Y H _ I h) λu s1 z'=>?_);obtain⟨x,z,g,i,a,C,dx,fs,v,ex,ea,c,n,l,q⟩:=z';subst ex;obtain rfl:u=cU a:=i;exact OF g ea c n l λm o j k=>⟨v,z,j,k,q⟩
def td(b:bL X o M)(d:bL X value tv)(e:qZ value (Z (.Attribute o f A)) pos.line X.env=pure aK):kz X (.Assign [.Attribute o f A] value pos) (Vq X.K M tv f):=.mk λU s Y H D I h=>by
 refine I7 (bT (d U s Y H _ I h) λu s1 z'=>?_) e;obtain⟨y,z,g,i,q⟩:=z';refine bT (b U s1 Y z _ g q) λj t z'=>?_;obtain⟨x,H2,k,m,a,C,dx,fs,ex,ea,c,n,l,p⟩:=z';subst ex;obtain rfl:j=cU a:=m;exact Oc k ea c n l i λw r=>⟨Y,_,r,p⟩
inductive IZ(x y:V)(H:aC)(Q:aP):Prop
 |mk:∀i j,x=.int i->y=.int j->Q (.int (i+j)) H->IZ x y H Q
inductive WV(x y:V)(H:aC)(Q:aP):Prop
 |mk:∀i j,x=.int i->y=.int j->Q (.int (i-j)) H->WV x y H Q
def TZ:HB X .Add IZ:=by
 rintro U s Y H x y u v Q I a b ⟨i,j,rfl,rfl,q⟩;obtain⟨t,rfl⟩:=(show ∃t,u=pe i t from a)
 obtain⟨t',rfl⟩:=(show ∃t',v=pe j t' from b)
 exact PyProof.Rows.iadd_int ⟨.int (i+j),H,I.tok _,⟨_,O⟩,q⟩
end
section
variable{X:aX}{U:List (aB×aZ)}{Y:St}{H:aC}{s:aJ}{A:bX}{E:aE->aJ->Prop}{Q:aE->aJ->Prop}{c:aE}{b:Bool}
inductive lE(K:bJ)(H:aC):V->aE->Prop where
 |non:lE K H .non (.type "NoneType")
 |bl (x:Bool):lE K H (.bl x) (.type "bool")
 |int (i:Int):lE K H (.int i) (.type "int")
 |str (x:aA):lE K H (.str x) (.type "str")
 |flt (x:UInt64):lE K H (.flt x) (.type "float")
 |lst {a:aB} {xs:M0} (e:H a=Z (.lst xs)):lE K H (.ref a) (.type "list")
 |frz {a:aB} {o:aZ} {xs:M0} (e:H a=Z (.frz o (.lst xs))):lE K H (.ref a) (.type "list")
 |tup {a:aB} {xs:M0} (e:H a=Z (.tup xs)):lE K H (.ref a) (.type "tuple")
 |dK {a:aB} {J:List (aT×V)} (e:H a=Z (.dK J)):lE K H (.ref a) (.type "dict")
 |dT {a:aB} {J:List (M7×V)} (e:H a=Z (.dT J)):lE K H (.ref a) (.type "dict")
 |ins {a C dx:aB} {fs:List (aA×V)} (e:H a=Z (.ins C dx fs)) (cl:ma K C) (ha:lh K (.ref C) "__class__"=Z (Z (.builtin "object.__class__")))
   (hn:yO K (.builtin "object.__class__") "__get__"=Z (Z (.builtin "getset_descriptor.__get__"))) (htk:PySem.W.takesIn K (.builtin "object.__class__")=Z aD)
   (hm:PySem.W.mroIn K C (.type "object")=Z aD):lE K H (.ref a) (.ref C)
def PI(I:Inv X U Y H s)(f:cE x u)(ty:lE X.K H x t)(e:nK X.K t c=Z b)(h:∀tk,Q (.bool b) {s with toks:=tk}) :
  aU (aW X.prog X.w) A (call (.builtin "isinstance") [u,c]) Q E s:=by
 cases ty with
 |non=>cases(show u=iS from f);exact nJ PySem.W.kitx_none I.kIn mQ e (λd=>nomatch d) h
 |bl y=>cases(show u=t4 y from f);exact nJ PySem.W.kitx_bool I.kIn mQ e (λd=>nomatch d) h
 |int i=>obtain⟨t,q⟩:=(show ∃t,u=pe i t from f);cases q;exact nJ PySem.W.kitx_int I.kIn mQ e (λd=>nomatch d) h
 |str y=>obtain⟨t,q⟩:=(show ∃t,u=aE.str y t from f);cases q;exact nJ PySem.W.kitx_str I.kIn mQ e (λd=>nomatch d) h
 |flt y=>obtain⟨t,q⟩:=(show ∃t,u=aE.float y t from f);cases q;exact nJ PySem.W.kitx_float I.kIn mQ e (λd=>nomatch d) h
 |@lst a xs ea=>
  cases(show u=cU a from f);obtain⟨_,_,n,_,h1⟩:=(show dQ X.prog X.w H s.heap a (.lst xs) from I.hok a _ ea)
  exact nJ PySem.W.kitx_list I.kIn ⟨_,h1,O⟩ e (λd=>nomatch d) h
 |@frz a g xs ea=>
  cases(show u=cU a from f);obtain⟨_,_,_,n,_,h1⟩:=(show dQ X.prog X.w H s.heap a (.frz g (.lst xs)) from I.hok a _ ea)
  exact nJ PySem.W.kitx_list I.kIn ⟨_,h1,O⟩ e (λd=>nomatch d) h
 |@tup a xs ea=>
  cases(show u=cU a from f);obtain⟨_,_,_,p⟩:=(show dQ X.prog X.w H s.heap a (.tup xs) from I.hok a _ ea)
  obtain⟨o,h1,h2,_⟩:=p;exact nJ PySem.W.kitx_tuple I.kIn ⟨o,h1,h2⟩ e (λd=>nomatch d) h
 |@dK a J ea=>
  cases(show u=cU a from f);obtain⟨_,_,vs,_,p⟩:=(show dQ X.prog X.w H s.heap a (.dK J) from I.hok a _ ea)
  obtain⟨o,es,ep,h1,h2,_⟩:=p;exact nJ PySem.W.kitx_dict I.kIn ⟨o,h1,h2.1⟩ e (λd=>nomatch d) h
 |@dT a J ea=>
  cases(show u=cU a from f);obtain⟨_,_,xs,_,o,es,ep,h1,h2,_⟩:=(show dQ X.prog X.w H s.heap a (.dT J) from I.hok a _ ea)
  exact nJ PySem.W.kitx_dict I.kIn ⟨o,h1,h2.1⟩ e (λd=>nomatch d) h
 |@ins a C dx fs ea cl j k l hm=>
  cases(show u=cU a from f);obtain⟨T,m,_⟩:=yj I.hok ea;obtain⟨w,r,_⟩:=m.look;exact nJ (PySem.W.kitx_own (cl.get _) cl.hd j k l hm) I.kIn r e (λd=>nomatch d) h
end
structure eI (k:Nat) (A:bX):Prop where
 hd:A.handled=aF
 dp:A.depth+3*k+5<recursionLimit
 un:A.units+16*k+200<I8
def eI.mono(r:eI k A)(h:j<=k):eI j A:=⟨r.hd,by have:=r.dp;omega,by have:=r.un;omega⟩
def eI.deeper(r:eI (k+1) A)(env:eE):eI k (A.deeper env):=
 ⟨r.hd,by have:=r.dp;show A.depth+1+3*k+5<_;omega,by have:=r.un;show A.units+3+16*k+200<_;omega⟩
def eI.in1(r:eI (k+1) A):eI k A.in1:=
 ⟨r.hd,by have:=r.dp;show A.depth+3*k+5<_;omega,by have:=r.un;show A.units+1+16*k+200<_;omega⟩
def Ox{A:bX}{C:aB}{us:M4}{a:List (aA×aE)}:(A.under (.builtin "type.__call__" ⟨.ref C::us,a⟩)).depth=A.depth+1:=by
 first|rfl|simp[bX.under,Code.weight,Code.isCreation,Code.isGuard,Code.isCaller,Code.frames,Code.isFrame,guardIds]
def Ow{A:bX}{C:aB}{us:M4}{a:List (aA×aE)}:(A.under (.builtin "type.__call__" ⟨.ref C::us,a⟩)).units=A.units+1:=by
 first|rfl|simp[bX.under,Code.cUnits,Code.frames,Code.isFrame]
def eI.make(r:eI (k+1) A)(C:aB)(us:M4)(a:List (aA×aE)):eI k (A.under (.builtin "type.__call__" ⟨.ref C::us,a⟩)):=
 ⟨r.hd,by have:=r.dp;rw[Ox];omega,by have:=r.un;rw[Ow];omega⟩
def eI.depth(r:eI k A):A.depth<recursionLimit:=by have:=r.dp;omega
def eI.units(r:eI k A):A.units+64<I8:=by have:=r.un;omega
def su:eZ:=λ_ H Q=>Q [] H
abbrev TS (Q:M0->aC->Prop) (x:V):M0->aC->Prop:=λxs H2=>Q (x::xs) H2
abbrev UP (a:eZ) (Y:St) (Q:M0->aC->Prop):aP:=λx z=>a Y z (TS Q x)
def uv(M:bF)(a:eZ):eZ:=λY H Q=>M Y H (UP a Y Q)
section
variable{X:aX}{e:bI}{es:List bI}{te:bF}{t:eZ}{pos:Pos}
def aM:iA X [] su:=⟨λ_ _ _ _ H Q I h=>vZ ⟨[],H,I,.nil,h⟩⟩
def aG(a:bL X e te)(b:iA X es t)(c:cN (e::es) X.env=(aK,H5 e X.env)::cN es X.env:=by rfl):iA X (e::es) (uv te t):=.mk λpos U s Y H Q I h=>by
 rw[c];show aU _ _ (H7 ((aK,H5 e X.env)::H8 pos (cN es X.env))) _ _ s;refine tG (bT (a U s Y H _ I h) λu s1 z'=>?_);obtain⟨x,z,d,f,g⟩:=z';refine bT (b pos U s1 Y z _ d g) λus l z'=>?_;obtain⟨xs,H2,i,j,k⟩:=z';exact⟨x::xs,H2,i,.cons f j,k⟩
abbrev Vx (Q:aP):M0->aC->Prop:=λxs z=>xs.length<=cP/\∀p,z p=aF->Q (.ref p) (aI z p (.tup xs))
def Hr(t:eZ):bF:=λY H Q=>t Y H (Vx Q)
abbrev VC (Q:aP):M0->aC->Prop:=λxs z=>xs.length<=cP/\∀p,z p=aF->Q (.ref p) (aI z p (.lst xs))
def Vk(t:eZ):bF:=λY H Q=>t Y H (VC Q)
def gF{d}(h:iA X es t):bL X (.Tuple es d pos) (Hr t):=.mk λU s Y H Q I f=>by
 refine wpAny_Tuple_spliced (bT (h pos U s Y H _ I f) λus s1 z'=>?_);obtain⟨xs,z,a,r,c,q⟩:=z';refine⟨by rw[←r.length];exact c,?_⟩;have g:z s1.heap.objs.size=aF:=a.hok.fresh (bQ _);refine⟨.ref s1.heap.objs.size,aI z s1.heap.objs.size (.tup xs),a.laid (t':=s1.toks) (λb u e=>cZ _ e) (bQ _) ?_,O,q _ g⟩;exact⟨c,us,r,⟨_,fP _ O,O,_,O,O⟩⟩
def gX(h:iA X es t):bL X (.List es pos) (Vk t):=.mk λU s Y H Q I d=>by
 refine wpAny_List_spliced (bT (h pos U s Y H _ I d) λus s1 z'=>?_);obtain⟨xs,z,a,r,c,q⟩:=z';refine⟨by rw[←r.length];exact c,?_⟩;have f:z s1.heap.objs.size=aF:=a.hok.fresh (bQ _);refine⟨.ref s1.heap.objs.size,aI z s1.heap.objs.size (.lst xs),a.laid (t':=s1.toks) (λb u e=>cZ _ e) (bQ _) ?_,O,q _ f⟩;exact⟨c,us,0,r,fP _ O⟩
end
abbrev bW:=M0->aC->aP->dG->Prop
abbrev nM:=List eE->aC->aJ->dG->aE->aJ->Prop
structure nS (P:bS) (w:bP) (K:bJ) (mg:aA->Option aE) (b_:bH) (A:bX) (o_:List eE) (s:aJ) (H:aC):Prop where
 frames:A.frames=Z o_
 mod:Mod K mg b_
 bs:∀b o,b_.get? b=Z o->s.heap.get? b=Z o/\H b=aF
 bsz:b_.objs.size<=s.heap.objs.size
 funs:s.heap.FunFrames b_ o_
 frf:∀b∈gL o_,H b=aF
 hok:dL P w H s.heap
 bare:H1 s.gens
def yo(o_:List eE)(P:bS)(w:bP)(H:aC)(s:aJ)(Q:aP)(u:aE)(L:aJ):Prop:=
 ∃v H',L.os=s.os/\H1 L.gens/\eJ (gL o_) [] H H' s.heap L.heap/\dL P w H' L.heap/\cE v u/\Q v H'
def BM(CX:nM)(o_:List eE)(P:bS)(w:bP)(H:aC)(s:aJ)(Q:aP)(E:dG)(r:Result)(L:aJ):Prop:=
 match r with
 |.ok (.ret u)=>yo o_ P w H s Q u L
 |.ok _=>False
 |.error e=>CX o_ H s E e L
structure hZ (P:bS) (w:bP) (K:bJ) (mg:aA->Option aE) (b_:bH) (CX:nM) (k:Nat) (f:aB) (fd:iK) (ps:L9) (sp:bW):Prop where
 len:∀vs H Q E,sp vs H Q E->vs.length=ps.length
 run:∀(A:bX)(o_:List eE)(s:aJ)(H:aC)(args:Args)(us:M4)(vs:M0)(Q:aP)(E:dG),eI k A->nS P w K mg b_ A o_ s H->I9 s fd args (ps.zip us)->cA vs us->sp vs H Q E ->
  I6 (aW P w) A (.call (.ref f) args) (BM CX o_ P w H s Q E) s
def hZ.imp{K:bJ}{mg:aA->Option aE}{CX:nM}{k:Nat}{fd:iK}{ps:L9}{sp a:bW}(F:hZ P w K mg b_ CX k f fd ps sp)
 (h:∀vs H Q E,a vs H Q E->sp vs H Q E):hZ P w K mg b_ CX k f fd ps a:=
 ⟨λvs H Q E q=>F.len vs H Q E (h _ _ _ _ q),λA o_ s H args us vs Q E b c d e g=>F.run A o_ s H args us vs Q E b c d e (h _ _ _ _ g)⟩
def nS.make{K:bJ}{mg:aA->Option aE}{o_:List eE}(e:nS P w K mg b_ A o_ s H)(C:aB)(us:M4)(a:List (aA×aE)) :
  nS P w K mg b_ (A.under (.builtin "type.__call__" ⟨.ref C::us,a⟩)) o_ s H:=⟨by first|exact e.frames|(simpa [bX.under,Code.envs,Code.isFrame,pushEnvs] using e.frames),e.mod,e.bs,e.bsz,e.funs,e.frf,e.hok,e.bare⟩
def nS.in1{K:bJ}{mg:aA->Option aE}{o_:List eE}(e:nS P w K mg b_ A o_ s H) :
  nS P w K mg b_ A.in1 o_ s H:=⟨e.frames,e.mod,e.bs,e.bsz,e.funs,e.frf,e.hok,e.bare⟩
section
variable{X:aX}{U:List (aB×aZ)}{Y:St}{H:aC}{s L:aJ}
def Inv.env0(I:Inv X U Y H s):nS X.prog X.w X.K X.mg X.b_ X.A X.stack s H:=
 ⟨I.ok.frames,I.ok.mod,I.bs,dN I.ok.bsz I.sz,I.stack,I.stkFree,I.hok,I.bare⟩
def Inv.after(I:Inv X U Y H s)(h:yo X.stack X.prog X.w H s Q u L):fX X U Y Q u L:=by
 obtain⟨v,H',os,bare,a,c,r,q⟩:=h;obtain⟨e,g,d,t,f⟩:=L;obtain rfl:f=s.os:=os;exact⟨v,H',I.call (h':=e) (g':=g) (d':=d) (t':=t) (ch:=[]) a c bare (λb i=>B6 i (by simp)),r,q⟩
end
abbrev Hk (sp:bW) (b:M0) (E:dG) (Q:aP):M0->aC->Prop:=λvs z=>sp (vs++b) z Q E
def Ab(sp:bW)(b:M0)(E:dG)(t:eZ):bF:=λY H Q=>t Y H (Hk sp b E Q)
abbrev GB (sp:bW) (b:M0) (E:dG) (Q:aP) (x:V):M0->aC->Prop:=λvs H2=>sp (x::(vs++b)) H2 Q E
inductive HY(C:aB)(m:aA)(sp:bW)(b:M0)(E:dG)(t:eZ)(Y:St)(Q:aP)(x:V)(z:aC):Prop
 |mk:∀a dx fs,x=.ref a->z a=Z (.ins C dx fs)->fs.lookup m=aF->t Y z (GB sp b E Q x)->HY C m sp b E t Y Q x z
def ut(C:aB)(m:aA)(sp:bW)(b:M0)(E:dG)(M:bF)(t:eZ):bF:=λY H Q=>M Y H (HY C m sp b E t Y Q)
abbrev TR (Q:aP) (x:aB):aP:=λv H2=>v=.non/\Q (.ref x) H2
abbrev Hj (C:aB) (sp:bW) (b:M0) (E:dG) (Q:aP):M0->aC->Prop:=λvs z=>∀x dx,z x=aF->z dx=aF->dx≠x ->
 sp (.ref x::(vs++b)) (aI (aI z dx (.own x)) x (.ins C dx [])) (TR Q x) E
def GV(C:aB)(sp:bW)(b:M0)(E:dG)(t:eZ):bF:=λY H Q=>t Y H (Hj C sp b E Q)
def lv(K:bJ)(fd:iK)(ps:L9)(N:M4):Prop:=
 ∀(s:aJ)(us:M4),K.In s.heap->(us++N).length=ps.length->I9 s fd ⟨us,[]⟩ (ps.zip (us++N))
def lv.all{K:bJ}{fd:iK}{ps:L9}(h:∀us:M4,us.length=ps.length->q2 fd ⟨us,[]⟩=pure (ps.zip us)):lv K fd ps []:=λs us _ a=>by
 rw[lK]at a ⊢;exact .of_eq (h us a)
def pF(CX:nM)(X:aX)(E:dG):Prop:=∀(U:List (aB×aZ))(Y:St)(H:aC)(s:aJ)(e:aE)(L:aJ),Inv X U Y H s->CX X.stack H s E e L->X.xe e L
section
variable{X:aX}{CX:nM}{k:Nat}{f C:aB}{fd:iK}{ps:L9}{sp:bW}{b:M0}{N:M4}{E:dG}{x m:aA}{p pos i:Pos}{e o:bI}{es:List bI}{M:bF}{t:eZ}
def zX(F:hZ X.prog X.w X.K X.mg X.b_ CX k f fd ps sp)(d:eI k X.A)(g:lv X.K fd ps N)(i:cA b N)(j:pF CX X E)
 (I:Inv X U Y H s)(r:cA vs us)(h:sp (vs++b) H Q E):aU (aW X.prog X.w) X.A (call (.ref f) us) (fX X U Y Q) X.xe s:=by
 have c:cA (vs++b) (us++N):=r.append i;have l:(us++N).length=ps.length:=by rw[←c.length];exact F.len _ _ _ _ h
 refine oJ (oG (F.run X.A X.stack s H ⟨us,[]⟩ (us++N) (vs++b) Q E d I.env0 (g s us I.kIn l) c h) λr L a=>?_);cases r with
 |error e=>exact j U Y H s e L I a
 |ok fl=>
  cases fl with
  |ret u=>exact I.after a
  |next=>exact gH a
  |brk=>exact gH a
  |cont=>exact gH a
def Fl(F:hZ X.prog X.w X.K X.mg X.b_ CX k f fd ps sp)(c:eI k X.A)(d:jH X x)(hm:X.mg x=Z (.ref f))(g:nL X.K (.ref f)=aD)(i:lv X.K fd ps N)(j:cA b N)(l:pF CX X E)
 (m:iA X (e :: es) t)(n:(x == ("__debug__":aA))=aK:=by decide)(o:cN (e :: es) X.env=(aK,H5 e X.env) :: cN es X.env:=by rfl)(u:(H8 pos (cN es X.env)).any (·.1)=aK:=by rfl) :
  bL X (.Call (.Name x p) (e :: es) [] pos) (Ab sp b E t):=by
 refine⟨?_⟩
 intro U s Y H Q I h
 refine qL (qr I d hm ?_ n)
 refine vP (h₀:=X.b_) I.ok.mod.kin g (bT (m pos U s Y H _ I h) fun us s1 z'=>?_) o u;obtain⟨vs,z,a,r,q⟩:=z';refine⟨a.kIn,?_⟩
 exact zX F c i j l a r q
def RU(n:bL X o M)(c:ma X.K C)(hm:r4 X.K C m f)(F:hZ X.prog X.w X.K X.mg X.b_ CX k f fd ps sp)(p:eI k X.A)(w:lv X.K fd ps N)(y:cA b N)(A:pF CX X E)(B:iA X (e::es) t)
 (D:cN (e::es) X.env=(aK,H5 e X.env)::cN es X.env:=by rfl)(G:(H8 pos (cN es X.env)).any (·.1)=aK:=by rfl)
 (J:H5 (.Call (.Attribute o m i) (e::es) [] pos) X.env=(do
   let d ←H5 o X.env
   standAt i.atName
   let (f,first) ←I0 [d] (oK d m pl)
   q1 pos f first (H8 pos (cN (e::es) X.env)) (mR pos (mO [] X.env))):=by rfl) :
  bL X (.Call (.Attribute o m i) (e::es) [] pos) (ut C m sp b E M t):=.mk λU s Y H Q I h=>by
 refine vL (pl:=pl) (bT (n U s Y H _ I h) λu s1 z'=>?_) J;obtain⟨x,z,g,L,a,dx,fs,ex,ea,l,q⟩:=z';subst ex;obtain rfl:u=cU a:=L;refine Be g ea c hm l (vP (first:=[.ref a]) (h₀:=X.b_) I.ok.mod.kin hm.kp (bT (B pos U s1 Y z _ g q) λus a0 z'=>?_) D G);obtain⟨vs,H2,j,r,T⟩:=z';refine⟨j.kIn,?_⟩;exact zX (us:=.ref a::us) (vs:=.ref a::vs) F p w y A j (.cons O r) T
def Qx(g:bL X o M)(c:ma X.K C)(hm:r4 X.K C m f)(F:hZ X.prog X.w X.K X.mg X.b_ CX k f fd ps sp)(j:eI k X.A)(n:lv X.K fd ps N)(p:cA b N)(r:pF CX X E)
 (t:H5 (.Call (.Attribute o m i) [] [] pos) X.env=(do
   let e ←H5 o X.env
   standAt i.atName
   let (f,first) ←I0 [e] (oK e m pl)
   q1 pos f first (H8 pos (cN [] X.env)) (mR pos (mO [] X.env))):=by rfl) :
  bL X (.Call (.Attribute o m i) [] [] pos) (ut C m sp b E M su):=.mk λU s Y H Q I h=>by
 refine vL (pl:=pl) (bT (g U s Y H _ I h) λu s1 z'=>?_) t;obtain⟨x,z,d,w,a,dx,fs,ex,ea,l,q⟩:=z';subst ex;obtain rfl:u=cU a:=w;exact Be d ea c hm l (PySem.W.callWith_K0 (first:=[.ref a]) d.kIn hm.kp (zX (us:=[.ref a]) (vs:=[.ref a]) F j n p r d (.cons O .nil) q))
structure uc (K:bJ) (C f:aB):Prop where
 makes:yW K C=aD
 init:lh K (.ref C) "__init__"=Z (Z (.ref f))
 fn:tW K (.ref f)=aD
 kp:nL K (.ref C)=aD
def Qn(M:uc X.K C f)(F:hZ X.prog X.w X.K X.mg X.b_ CX k f fd ps sp)(i:eI (k+1) X.A)(j:lv X.K fd ps N)(l:cA b N)
 (m:pF CX X E)(I:Inv X U Y H s)(r:cA vs us)
 (h:∀x dx,H x=aF->H dx=aF->dx≠x->sp (.ref x::(vs++b)) (aI (aI H dx (.own x)) x (.ins C dx [])) (λv H2=>v=.non/\Q (.ref x) H2) E) :
  aU (aW X.prog X.w) X.A (call (.ref C) us) (fX X U Y Q) X.xe s:=by
 have d:=h (s.heap.objs.size+1) s.heap.objs.size (I.hok.fresh (nO _)) (I.hok.fresh (bQ _)) (dC (rH _));have c:=Inv.made (C:=C) I;have g:cA (V.ref (s.heap.objs.size+1)::(vs++b)) (cU (s.heap.objs.size+1)::(us++N)):=.cons O (r.append l);have n:(cU (s.heap.objs.size+1)::us++N).length=ps.length:=by
  have e:=g.length;rw[F.len _ _ _ _ d]at e;exact e.symm
 refine oJ (QE (f:=f) I.kIn M.makes M.init (C0.mp M.fn) (oG (F.run _ X.stack _ _ ⟨cU (s.heap.objs.size+1)::us,[]⟩ (cU (s.heap.objs.size+1)::(us++N)) _ _ E (i.make C us [])
  (c.env0.make C us []) (j _ (cU (s.heap.objs.size+1)::us) c.kIn n) g d) λr L a=>?_))
 cases r with
 |error e=>exact m U Y _ _ e L c a
 |ok fl=>
  cases fl with
  |ret u=>
   obtain⟨v,H',o,p,ev,q⟩:=c.after a;subst ev;exact⟨p,⟨V.ref (s.heap.objs.size+1),H',o,O,q⟩⟩
  |next=>exact gH a
  |brk=>exact gH a
  |cont=>exact gH a
def RV(M:uc X.K C f)(F:hZ X.prog X.w X.K X.mg X.b_ CX k f fd ps sp)(c:eI (k+1) X.A)(d:jH X x)(hm:X.mg x=Z (.ref C))(g:lv X.K fd ps N)(i:cA b N)(j:pF CX X E)
 (l:iA X (e :: es) t)(m:(x == ("__debug__":aA))=aK:=by decide)(n:cN (e :: es) X.env=(aK,H5 e X.env) :: cN es X.env:=by rfl)(o:(H8 pos (cN es X.env)).any (·.1)=aK:=by rfl) :
  bL X (.Call (.Name x p) (e :: es) [] pos) (GV C sp b E t):=by
 refine⟨?_⟩
 intro U s Y H Q I h
 refine qL (qr I d hm ?_ m)
 refine vP (h₀:=X.b_) I.ok.mod.kin M.kp (bT (l pos U s Y H _ I h) fun us s1 z'=>?_) n o;obtain⟨vs,z,a,r,q⟩:=z';refine⟨a.kIn,?_⟩
 exact Qn M F c g i j a r q
end
structure ug (X:aX) (w:List J0) (t:eZ):Prop where
 run:∀(pos:Pos)(U:List (aB×aZ))(s:aJ)(Y:St)(H:aC)(Q:M0->aC->Prop),Inv X U Y H s->t Y H Q->aU (aW X.prog X.w) X.A (evalAll ((mR pos (mO w X.env)).map (·.2))) (tq X U Y Q) X.xe s
instance {X:aX} {w:List J0} {t:eZ}:CoeFun (ug X w t) λ_=>∀(pos:Pos)(U:List (aB×aZ))(s:aJ)(Y:St)(H:aC)(Q:M0->aC->Prop),Inv X U Y H s->t Y H Q->aU (aW X.prog X.w) X.A (evalAll ((mR pos (mO w X.env)).map (·.2))) (tq X U Y Q) X.xe s:=⟨ug.run⟩
section
variable{X:aX}{CX:nM}{k:Nat}{f C:aB}{fd:iK}{ps ks:L9}{sp:bW}{E:dG}{x m:aA}{p pos i a0:Pos}{e o:bI}{es:List bI}{w:List J0}{te M:bF}{t tk:eZ}{nm:Option aA}
def Tk:ug X [] su:=⟨λ_ _ _ _ H Q I h=>wpAny_evalAll_nil ⟨[],H,I,.nil,h⟩⟩
def RS(a:bL X e te)(b:ug X w t):ug X (⟨nm,e,a0⟩::w) (uv te t):=.mk λpos U s Y H Q I h=>by
 show aU _ _ (evalAll ((do let v ←H5 e X.env;standAt pos;pure v)::(mR pos (mO w X.env)).map (·.2))) _ _ s;refine wpAny_evalAll_cons (aO (bT (a U s Y H _ I h) λu s1 z'=>?_));obtain⟨x,z,c,d,f⟩:=z';refine aO (pY (bN (bT (b pos U s1 Y z _ c f) λus k z'=>?_)));obtain⟨xs,H2,g,i,j⟩:=z';exact⟨x::xs,H2,g,.cons d i,j⟩
structure Yb (K:bJ) (fd:iK) (ps ks:L9) (g:M4->M4->M4) (I:M0->M0->M0):Prop where
 to:∀(s:aJ)(us ws:M4),K.In s.heap->(g us ws).length=ps.length->I9 s fd ⟨us,ks.zip ws⟩ (ps.zip (g us ws))
 rel:∀{vs:M0} {us:M4} {zs:M0} {ws:M4},cA vs us->cA zs ws->cA (I vs zs) (g us ws)
variable{g:M4->M4->M4}{I:M0->M0->M0}
end
structure cB (N P:L9) (sc:kA):Prop where
 kind:sc.kind=.function:=by rfl
 co:sc.isCoroutine=aK:=by rfl
 gen:sc.isGenerator=aK:=by rfl
 nd:N.Nodup:=by decide +kernel
 pre:N.take P.length=P:=by rfl
 par:∀x∈P,sc.names.lookup x=Z .local\/sc.names.lookup x=Z .cell:=by decide +kernel
 nofree:∀y∈sc.names,y.2≠.free:=by decide +kernel
theorem DE{kindOf:aA->Option nG}{x:aA}:∀{a:List (aA×aE)} {m:aA->Option aE},(∀v,(x,v)∉a)->bindL kindOf a m x=m x
 |[],_,_=>rfl
 |(n,v)::r,m,h=>by
  unfold bindL;rw[DE λw b=>h w (eK _ b)];split
  .have:x≠n:=by rintro rfl;exact h v eB
   simp[this]
  .rfl
theorem DG{kindOf:aA->Option nG}{x:aA}:∀{a:List (aA×aE)} {m:aA->Option aE},(∀v,(x,v)∉a)->bindC kindOf a m x=m x
 |[],_,_=>rfl
 |(n,v)::r,m,h=>by
  unfold bindC;rw[DG λw b=>h w (eK _ b)];split
  .rfl
  .have:x≠n:=by rintro rfl;exact h v eB
   simp[this]
theorem DF{kindOf:aA->Option nG}{x:aA}:∀{P:L9} {vs:M4} {i:Nat} {m:aA->Option aE},P.Nodup->P[i]?=Z x->vs[i]?=Z v->kindOf x=Z .local ->
  bindL kindOf (P.zip vs) m x=Z v
 |[],_,_,_,_,h,_,_=>by simp at h
 |_::_,[],_,_,_,_,h,_=>by simp at h
 |p::P,w::vs,0,m,a,h1,h2,b=>by
  simp at h1 h2;subst h1;subst h2;show bindL kindOf ((p,w)::P.zip vs) m p=_;unfold bindL;rw[DE λv c=>(gB.mp a).1 (we c).1,B4 b];simp
 |p::P,w::vs,i+1,m,a,h1,h2,b=>by
  show bindL kindOf ((p,w)::P.zip vs) m x=_;unfold bindL;exact DF (i:=i) (gB.mp a).2 (by simpa using h1) (by simpa using h2) b
theorem DH{kindOf:aA->Option nG}{x:aA}:∀{P:L9} {vs:M4} {i:Nat} {m:aA->Option aE},P.Nodup->P[i]?=Z x->vs[i]?=Z v->kindOf x≠Z .local ->
  bindC kindOf (P.zip vs) m x=Z v
 |[],_,_,_,_,h,_,_=>by simp at h
 |_::_,[],_,_,_,_,h,_=>by simp at h
 |p::P,w::vs,0,m,a,h1,h2,b=>by
  simp at h1 h2;subst h1;subst h2;show bindC kindOf ((p,w)::P.zip vs) m p=_;unfold bindC;rw[DG λv c=>(gB.mp a).1 (we c).1,B3 b];simp
 |p::P,w::vs,i+1,m,a,h1,h2,b=>by
  show bindC kindOf ((p,w)::P.zip vs) m x=_;unfold bindC;exact DH (i:=i) (gB.mp a).2 (by simpa using h1) (by simpa using h2) b
noncomputable def start(N:L9)(vs:M0):St:=vs.map Z++wm (N.length-vs.length) aF
noncomputable def hG(CX:nM)(P:bS)(w:bP)(K:bJ)(mg:aA->Option aE)(b_:bH)(N:L9)(j:aA)(scope:kA)(f:aB)(cd:aE)(A:bX)(o_:List eE)(s:aJ)(H:aC)(E:dG):aX where
 prog:=P
 w:=w
 K:=K
 mg:=mg
 b_:=b_
 A:=A.deeper (J1 j scope s.heap.objs.size f cd)
 N:=N
 s₀:=s
 H₀:=H
 env:=J1 j scope s.heap.objs.size f cd
 o_:=o_
 stack:=J1 j scope s.heap.objs.size f cd::o_
 ex:=[]
 calm:=aD
 fn:=λ_=>aD
 pn:=[]
 xe:=λe L=>aU (aW P w) (A.deeper (J1 j scope s.heap.objs.size f cd)) (leaving (J1 j scope s.heap.objs.size f cd) e) (λ_ a=>CX o_ H s E e a) (λb a=>CX o_ H s E b a) L
def EP{a:kA}{n:Nat}{x:aA}(h:a.names.lookup x=Z .cell):∃c,(J2 n a.names []).lookup x=Z c:=by
 have q:=yA a.names n [] (.inl h);exact Option.isSome_iff_exists.mp q
def Di{CX:nM}{K:bJ}{mg:aA->Option aE}{N ps:L9}{j:aA}{scope:kA}{o_:List eE}{E:dG}{us:M4}{vs:M0}
 (S:cB N ps scope)(C:A.handled=aF)(d:nS P w K mg b_ A o_ s H)(I:vs.length=ps.length)(r:cA vs us)
 (x:InCallC s s.heap.objs.size (bindL (J1 j scope s.heap.objs.size f cd).kindOf (ps.zip us) λ_=>aF) (J2 (s.heap.objs.size+1) scope.names []) (bindC (J1 j scope s.heap.objs.size f cd).kindOf (ps.zip us) λ_=>aF) s1) :
  Inv (hG CX P w K mg b_ N j scope f cd A o_ s H E) [] (start N vs) H s1:=by
 have J:ps.length<=N.length:=by have:=B7 m8 S.pre;rw[dY]at this;omega
 obtain⟨h1,tk,rfl,t⟩:=x.done;have o:∀b:aB,b∉(hG CX P w K mg b_ N j scope f cd A o_ s H E).ex:=λb l=>B6 (show b∈([]:List aB) from l) (by simp);refine⟨⟨d.mod,S.kind,O,O,bQ _,λy l c h1 h2=>?_,λy g=>?_,λy c _ h=>?_,λ_=>C,bX.frames_deeper d.frames,.inr ⟨O,O⟩,λb l=>B6 l (o b),d.bs,d.bsz,λb _ _=>o b,λb l=>B6 l (o b),d.funs,d.frf⟩,
  rfl,d.bare,eJ.kept t,⟨_,x.toInCall.ns,λi y v h1 h2 L=>?_⟩,λy c h=>⟨_,x.cell y c h⟩,d.hok.fresh (bQ _),λy c h=>?_,λp m=>B6 (show p∈([]:List (aB×aZ)) from m) (by simp),d.hok.kept t,?_⟩
 .exact name_of_addr x.apart (tF h1) (tF h2)
 .have g:scope.names.lookup y=Z .cell\/scope.names.lookup y=Z .free:=g;rcases g with g|g
  .exact EP g
  .exact B6 O (S.nofree _ (tF g))
 .exact wv (x.above y c (tF h))
 .have hi:i<vs.length:=by
   unfold start at h2;by_cases hi:i<vs.length
   .exact hi
   .rw[rA (by simpa using hi)]at h2;rw[List.getElem?_replicate]at h2;split at h2<;>cases h2
  have D:vs[i]?=Z v:=by
   unfold start at h2;rw[o0 (by simpa using hi),dB]at h2;cases e:vs[i]? with
   |none=>rw[e]at h2;cases h2
   |some a=>rw[e]at h2;cases h2;rfl
  obtain⟨u,z,G⟩:=r.get D;have m:ps[i]?=Z y:=by
   rw[←S.pre,qH YT];exact h1
  have B:ps.Nodup:=by rw[←S.pre];exact S.nd.sublist (yU _ _)
  refine⟨u,G,?_⟩;rcases S.par y (dM m) with k|k
  .exact .inl ⟨k,DF B m z k⟩
  .obtain⟨c,e⟩:=EP (n:=s.heap.objs.size+1) k;refine .inr ⟨.inl k,c,e,?_⟩;have q:=x.cell y c e;rw[DH B m z (by show scope.names.lookup y≠_;rw[k];decide)]at q;exact q
 .exact d.hok.fresh (wv (x.above y c (tF h)))
 .unfold start;show _=N.length;rw[eW,aS,List.length_replicate];omega
def Ak{CX:nM}{P:bS}{w:bP}{K:bJ}{mg:aA->Option aE}{b_:bH}{k:Nat}{f:aB}{name j:aA}{params:p3}{body:List bO}{scope:kA}{l kV doc pm c m C:aE}{p D:Option aB}
 {G:Array (Option aE)}{N ps:L9}{sp:bW}(lk:K.lookup f=Z ⟨C,D,.func (m6 name j params body scope l kV doc pm p c m),G⟩)(J:rJ K c j=aD)(S:cB N ps scope)
 (len:∀vs H Q E,sp vs H Q E->vs.length=ps.length)
 (M:∀(A:bX)(o_:List eE)(s:aJ)(H:aC)(vs:M0)(Q:aP)(E:dG),eI k (A.deeper (J1 j scope s.heap.objs.size f c))->sp vs H Q E ->
   ∃t,iB (hG CX P w K mg b_ N j scope f c A o_ s H E) body t/\t {nx:=λ_ H'=>Q .non H',rt:=Q} (start N vs) H) :
  hZ P w K mg b_ CX (k+1) f (m6 name j params body scope l kV doc pm p c m) ps sp:=by
 refine⟨len,λA o_ s H args us vs Q E h g T r z=>?_⟩;have U:=len _ _ _ _ z;have KX:K.In s.heap:=g.mod.kin.keeps λb o e=>(g.bs b o e).1;have Y:s.heap.NoLimit:=g.mod.nolimit.keeps λb o e=>(g.bs b o e).1;have a0:∀y∈ps.zip us,scope.names.lookup y.1=Z .local\/(scope.names.lookup y.1=Z .cell/\((J2 (s.heap.objs.size+1) scope.names []).lookup y.1).isSome=aD):=fun⟨n,v⟩ a1=>by
  rcases S.par n (we a1).1 with q|q
  .exact .inl q
  .exact .inr ⟨q,yA _ _ _ (.inl q)⟩
 refine codeAny_call_function h.depth (KX _ _ lk) O S.co S.gen O (PySem.W.codeRec_of KX J) (T _ _ _ _ (J3 S.kind a0 λenv a2 s1 x=>?_));subst a2;refine⟨Y.keeps x.toInCall.keep,codeAny_func ?_⟩;obtain⟨t,a3,a4⟩:=M A o_ s H vs Q E (h.deeper _) z;have I:Inv (hG CX P w K mg b_ N j scope f c A o_ s H E) [] (start N vs) H s1:=Di S h.hd g U r x;refine fA (a3 [] s1 (start N vs) H _ I a4) (λfl L d=>?_) λe L d=>d;have B:∀{σ':St} {H':aC} {v:V} {u:aE},Inv (hG CX P w K mg b_ N j scope f c A o_ s H E) [] σ' H' L->cE v u->Q v H'->yo o_ P w H s Q u L:=
  λ{σ' H' v u} a i q=>⟨v,H',a.os,a.bare,a.b_,a.hok,i,q⟩
 cases fl with
 |ret u=>
  obtain⟨v,σ',H',a,i,q⟩:=d;exact B a i q
 |next=>
  obtain⟨σ',H',a,q⟩:=d;exact B (v:=V.non) (u:=iS) a O q
 |brk=>
  obtain⟨_,_,_,q⟩:=d;exact gH q
 |cont=>
  obtain⟨_,_,_,q⟩:=d;exact gH q
section
variable{X:aX}{x:aA}{p pos:Pos}{e:bI}{es:List bI}{t:eZ}{id T:String}{r:M0->aC->aP->Prop}
abbrev Wj (r:M0->aC->aP->Prop) (Q:aP):M0->aC->Prop:=λvs z=>r vs z Q
def xS(r:M0->aC->aP->Prop)(t:eZ):bF:=λY H Q=>t Y H (Wj r Q)
def dH(a:jD X (.builtin id) r)(b:jH X x)(hm:X.mg x=aF)(c:jW x=Z (.builtin id))(d:iA X (e :: es) t)(f:x≠"__name__":=by decide)(g:(x == ("__debug__":aA))=aK:=by decide)
 (i:cN (e :: es) X.env=(aK,H5 e X.env) :: cN es X.env:=by rfl)(j:(H8 pos (cN es X.env)).any (·.1)=aK:=by rfl):bL X (.Call (.Name x p) (e :: es) [] pos) (xS r t):=by
 refine⟨?_⟩
 intro U s Y H Q I h
 refine qL (oW I b hm c ?_ f g)
 refine PyProof.Rows.callWith_builtin1 (bT (d pos U s Y H _ I h) fun us s1 z'=>?_) i j;obtain⟨vs,z,k,l,m⟩:=z';exact a U s1 Y z vs us Q k l m
def iX(a:jD X (.type T) r)(b:jH X x)(hm:X.mg x=aF)(c:jW x=Z (.type T))(d:iA X (e :: es) t)(f:x≠"__name__":=by decide)(g:(x == ("__debug__":aA))=aK:=by decide)
 (i:cN (e :: es) X.env=(aK,H5 e X.env) :: cN es X.env:=by rfl)(j:(H8 pos (cN es X.env)).any (·.1)=aK:=by rfl):bL X (.Call (.Name x p) (e :: es) [] pos) (xS r t):=by
 refine⟨?_⟩
 intro U s Y H Q I h
 refine qL (oW I b hm c ?_ f g)
 refine qF (bT (d pos U s Y H _ I h) fun us s1 z'=>?_) i j;obtain⟨vs,z,k,l,m⟩:=z';exact a U s1 Y z vs us Q k l m
end
section
variable{f:Type}[DecidableEq f]
noncomputable def dE(J:List (f×V))(k:f):Option V:=(J.find? λa=>G9 (a.1=k)).map (·.2)
noncomputable def iI(J:List (f×V))(k:f)(v:V):List (f×V):=
 if (J.any λa=>G9 (a.1=k))=aD then J.map (λa=>if a.1=k then(a.1,v) else a) else J++[(k,v)]
noncomputable def Yp(J:List (f×V))(k:f):List (f×V):=J.filter λa=>G9 (a.1≠k)
def l3{p:f×V}{r:List (f×V)}{k:f}(e:p.1=k):dE (p::r) k=Z p.2:=by simp[dE,lX,e]
def l4{p:f×V}{r:List (f×V)}{k:f}(e:¬p.1=k):dE (p::r) k=dE r k:=by simp[dE,lX,e]
theorem rk(k:f):∀ J:List (f×V),(J.any fun a=>G9 (a.1=k))=(dE J k).isSome
 | []=>rfl
 | p :: r=>by
  rw[tU];by_cases e:p.1=k
  ·simp only[l3 e,B0 e,Bool.true_or,Option.isSome_some]
  ·rw[l4 e,B1 e,Bool.false_or];exact rk k r
theorem DP(k j:f)(y:V):∀ J:List (f×V),dE (J.map fun a=>if a.1=k then (a.1,y) else a) j=(dE J j).map fun x=>if j=k then y else x
 | []=>rfl
 | p :: r=>by
  have b:=DP k j y r;rw[dD];by_cases h:p.1=k
  ·rw[B4 h];by_cases e:p.1=j
   ·rw[l3 (p:=(p.1,y)) e,l3 e,rI,B4 (e.symm.trans h)]
   ·rw[l4 (p:=(p.1,y)) e,l4 e,b]
  ·rw[B3 h];by_cases e:p.1=j
   ·rw[l3 (p:=p) e,l3 e,rI,B3 (fun c=>h (e.trans c))]
   ·rw[l4 (p:=p) e,l4 e,b]
theorem CF(k j:f)(y:V):∀ J:List (f×V),dE J k=aF→dE (J++[(k,y)]) j=if j=k then Z y else dE J j
 | [],_=>by
  by_cases e:k=j
  ·rw[B4 e.symm];exact l3 (p:=(k,y)) e
  ·rw[B3 (fun a=>e a.symm)];exact l4 (p:=(k,y)) e
 | p :: r,b=>by
  rw[List.cons_append];have c:¬ p.1=k:=fun a=>by rw[l3 a] at b;cases b
  rw[l4 c] at b;have d:=CF k j y r b;by_cases e:p.1=j
  ·rw[l3 e,l3 e,B3 (fun a=>c (e.trans a))]
  ·rw[l4 e,l4 e,d]
def Qa(J:List (f×V))(k j:f)(y:V):dE (iI J k y) j=if j=k then Z y else dE J j:=by
 unfold iI;by_cases a:(J.any λb=>G9 (b.1=k))=aD
 .rw[B4 a,DP];rw[rk]at a;by_cases e:j=k
  .obtain⟨x,c⟩:=Option.isSome_iff_exists.mp a;rw[B4 e,e,c,rI,B4 O]
  .rw[B3 e];cases dE J j with
   |none=>rfl
   |some x=>rw[rI,B3 e]
 .rw[B3 a];refine CF k j y J ?_;rw[rk]at a;cases q:dE J k with
  |none=>rfl
  |some x=>rw[q]at a;exact(a O).elim
def xr(J:List (f×V))(k:f)(v:V):(iI J k v).length<=J.length+1:=by
 unfold iI;split
 .rw[aS];omega
 .rw[eW,fW,tO];omega
def Em{J:List (f×V)}{k:f}(v:V)(h:dE J k=aF):iI J k v=J++[(k,v)]:=by
 unfold iI;rw[rk,h];exact B3 YR
def lI.isSome_eq(r:lI o u):o.isSome=u.isSome:=by
 cases o with
 |none=>cases u with
  |none=>rfl
  |some _=>exact(show False from r).elim
 |some _=>cases u with
  |none=>exact(show False from r).elim
  |some _=>rfl
def lI.getD(r:lI o u)(a:cE d d'):cE (o.getD d) (u.getD d'):=by
 cases o with
 |none=>cases u with
  |none=>exact a
  |some _=>exact(show False from r).elim
 |some _=>cases u with
  |none=>exact(show False from r).elim
  |some _=>exact r
def eL.val{J:List (f×V)}{vs:List (f×aE)}(r:eL J vs)(k:f):lI (dE J k) (J4 vs k):=by
 unfold eL at r
 induction r with
 |nil=>exact mQ
 |@cons p q ps a h t d=>
  obtain⟨h1,h2⟩:=h;by_cases e:p.1=k
  .have c:q.1=k:=h1.symm.trans e;have b:J4 (q::a) k=Z q.2:=by simp[J4,lX,c]
   rw[l3 e,b];exact h2
  .have c:¬q.1=k:=λg=>e (h1.trans g);have b:J4 (q::a) k=J4 a k:=by simp[J4,lX,c]
   rw[l4 e,b];exact d
def eL.any(r:eL J vs)(k:f):(J.any λa=>G9 (a.1=k))=vs.any λa=>G9 (a.1=k):=by
 unfold eL at r
 induction r with
 |nil=>rfl
 |cons h t b=>rw[tU,tU,b,h.1]
def eL.repl(r:eL J vs)(k:f)(b:cE y u) :
  eL (J.map λa=>if a.1=k then(a.1,y) else a) (vs.map λa=>if a.1=k then(a.1,u) else a):=by
 unfold eL at r ⊢
 induction r with
 |nil=>exact .nil
 |@cons p q ps g h t c=>
  rw[dD,dD];refine .cons ?_ c;obtain⟨h1,h2⟩:=h;by_cases e:p.1=k
  .rw[B4 e,B4 (h1.symm.trans e)];exact⟨h1,b⟩
  .rw[B3 e,B3 (λd=>e (h1.trans d))];exact⟨h1,h2⟩
def eL.put(r:eL J vs)(k:f)(a:cE y u):eL (iI J k y) (stored vs k u):=by
 unfold iI stored;rw[r.any k];by_cases e:(vs.any λb=>G9 (b.1=k))=aD
 .rw[B4 e,B4 e];exact r.repl k a
 .rw[B3 e,B3 e];exact rU r ⟨O,a⟩
def eL.keys{J:List (f×V)}{vs:List (f×aE)}(r:eL J vs):J.map (·.1)=vs.map (·.1):=by
 unfold eL at r
 induction r with
 |nil=>rfl
 |cons h t a=>rw[dD,dD,a,h.1]
def eL.length(r:eL J vs):J.length=vs.length:=pX r
end
def qD(r:cE (kV k) u):(dI P w).is k u=aD:=by
 cases k with
 |inl i=>obtain⟨t,e⟩:=(show ∃t,u=pe i t from r);subst e;exact NP P w i t
 |inr x=>obtain⟨t,e⟩:=(show ∃t,u=aE.str x t from r);subst e;exact NO P w x t
theorem Dh:∀{ks:M7} {us:M4},cA (ks.map kV) us->ItemsAre (dI P w) ks us
 |[],_,r=>by rw[mu]at r;cases r;exact .nil
 |k::ks,_,r=>by
  rw[dD]at r;cases r with
  |cons h t=>exact .cons (qD h) (Dh t)
abbrev KT (H:aC):List (M7×V)->List (M7×aB×aE)->Prop:=Paired λp q=>p.1=q.1/\H q.2.1=Z (.tup (p.1.map kV))/\cE p.2 q.2.2
def KT.val{J:List (M7×V)}{xs:List (M7×aB×aE)}(r:KT H J xs)(k:M7):lI (dE J k) ((J5 xs k).map (·.2)):=by
 induction r with
 |nil=>exact mQ
 |@cons p q ps a h t d=>
  obtain⟨h1,_,h2⟩:=h;by_cases e:p.1=k
  .have c:q.1=k:=h1.symm.trans e;have b:J5 (q::a) k=Z q.2:=by simp[J5,lX,c]
   rw[l3 e,b];exact h2
  .have c:¬q.1=k:=λf=>e (h1.trans f);have b:J5 (q::a) k=J5 a k:=by simp[J5,lX,c]
   rw[l4 e,b];exact d
def KT.repl(r:KT H J xs)(k:M7)(b:cE y u) :
  KT H (J.map λa=>if a.1=k then(a.1,y) else a) (xs.map (putAt k u)):=by
 induction r with
 |nil=>exact .nil
 |@cons p q ps g h t c=>
  rw[dD,dD];refine .cons ?_ c;obtain⟨h1,h2,d⟩:=h;unfold putAt;by_cases e:p.1=k
  .rw[B4 e,B4 (h1.symm.trans e)];exact⟨h1,h2,b⟩
  .rw[B3 e,B3 (λf=>e (h1.trans f))];exact⟨h1,h2,d⟩
def KT.put(r:KT H J xs)(k:M7)(c:H b=Z (.tup (k.map kV)))(a:cE y u) :
  KT H (iI J k y) (storedH xs k b u):=by
 have e:(J.any λd=>G9 (d.1=k))=(J5 xs k).isSome:=by
  rw[rk,(r.val k).isSome_eq,yR]
 unfold iI storedH;rw[e];by_cases q:(J5 xs k).isSome=aD
 .rw[B4 q,B4 q];exact r.repl k a
 .rw[B3 q,B3 q];exact rU r ⟨O,c,a⟩
def KT.keeps(r:KT H J xs)(c:∀b ys,H b=Z (.tup ys)->H' b=Z (.tup ys)):KT H' J xs:=
 Paired.mapP r λ_ _ a=>⟨a.1,c _ _ a.2.1,a.2.2⟩
section
variable{P:bS}{w:bP}{H:aC}{h:bH}{a:aB}
def Hf(b:dL P w H h)(e:eM H a u):dQ P w H h a u:=e.ok b
def pM(b:dL P w H h)(e:eM H a (.dK J)):J.length<=cP/\(a==nQ)=aK/\∃vs,eL J vs/\h.DictOf (dI P w) a vs:=
 show dQ P w H h a (.dK J) from Hf b e
def Hn(b:dL P w H h)(e:H a=Z (.dK J)):J.length<=cP/\(a==nQ)=aK/\∃vs,eL J vs/\h.DictOf (dI P w) a vs:=pM b (.inl e)
def qy(b:dL P w H h)(e:H a=Z (.tup (ks.map kV))):(lL (dI P w)).is h ks a:=by
 obtain⟨_,c,r,o,h1,h2,n,d,_⟩:=(show dQ P w H h a (.tup (ks.map kV)) from b a _ e)
 exact⟨o,c.toArray,n,h1,h2,d,by simpa using Dh r⟩
def qE(c:dL P w H h)(e:eM H a (.dT J)):J.length<=cP/\(a==nQ)=aK /\
  ∃xs,KT H J xs/\h.DictOfH (lL (dI P w)) a xs:=by
 obtain⟨f,y,xs,r,o,es,ep,h1,h2,g,i,j⟩:=(show dQ P w H h a (.dT J) from Hf c e)
 refine⟨f,y,xs,r,o,es,ep,h1,h2,g,i,λx b=>?_,j⟩;have all:∀{l:List (M7×V)} {m:List (M7×aB×aE)},KT H l m->∀x∈m,(lL (dI P w)).is h x.1 x.2.1:=by
  intro l m q
  induction q with
  |nil=>intro x b;exact nomatch b
  |@cons p q ps n d t k=>
   intro x b;rcases dW.mp b with e|b
   .subst e;exact qy c (by rw[←d.1];exact d.2.1)
   .exact k x b
 exact all r x b
def Va(b:dL P w H h)(e:H a=Z (.dT J)):J.length<=cP/\(a==nQ)=aK /\
  ∃xs,KT H J xs/\h.DictOfH (lL (dI P w)) a xs:=qE b (.inl e)
end
def kL(H:aC)(a:aB)(y:V)(r:Option V):Prop:=
 (∃J k,eM H a (.dK J)/\y=kV k/\r=dE J k)\/∃J k b,eM H a (.dT J)/\y=.ref b/\H b=Z (.tup (k.map kV))/\r=dE J k
def qb(H:aC)(a:aB)(y v:V)(H':aC):Prop:=
 (∃J k,H a=Z (.dK J)/\y=kV k/\J.length<cP/\H'=aI H a (.dK (iI J k v))) \/
 ∃J k b,H a=Z (.dT J)/\y=.ref b/\H b=Z (.tup (k.map kV))/\J.length<cP/\H'=aI H a (.dT (iI J k v))
def kL.k{J:List (aT×V)}{k:aT}(e:H a=Z (.dK J)):kL H a (kV k) (dE J k):=.inl ⟨J,k,.inl e,O,O⟩
def qb.k{J:List (aT×V)}{k:aT}(e:H a=Z (.dK J))(b:J.length<cP):qb H a (kV k) v (aI H a (.dK (iI J k v))):=.inl ⟨J,k,e,O,b,O⟩
section
variable{X:aX}{U:List (aB×aZ)}{Y:St}{H:aC}{s:aJ}{a:aB}{y v:V}{u r:aE}{o:Option V}{A:bX}{E:aE->aJ->Prop}
def Inv.big(I:Inv X U Y H s):nQ<s.heap.objs.size:=by
 have h:mM<s.heap.objs.size:=(I.mod.glob.keeps I.bk).lt;exact rS YR h
def Du(n:A.units+1<I8)(I:Inv X U Y H s)(g:kL H a y (Z v))(m:cE y u)(h:∀c L,Inv X U Y H L->cE v c->Q c L) :
  aU (aW X.prog X.w) A (J6 (.ref a) u) Q E s:=by
 rcases g with ⟨J,k,e,d,l⟩|⟨J,k,b,e,d,q,l⟩
 .subst d;obtain⟨r,t,vs,f,dd⟩:=pM I.hok e;obtain⟨c,i,j⟩:=lI.some_of (v:=v) (o:=J4 vs k) (by rw[l];exact f.val k);exact wpAny_getItem_of (qD m) dd.mapOf i (h c _ (I.tok _) j)
 .subst d;cases(show u=cU b from m);obtain⟨r,t,xs,f,dd⟩:=qE I.hok e;obtain⟨c,i,j⟩:=lI.some_of (v:=v) (o:=(J5 xs k).map (·.2)) (by rw[l];exact f.val k);obtain⟨p,w,x⟩:=lJ.mp i;refine wpAny_getItem_heap (qM n) (qy I.hok q) dd w ?_;rw[x];exact h c _ (I.tok _) j
def VW(j:A.units+1<I8)(I:Inv X U Y H s)(g:kL H a y o)(i:cE y u)(h:∀L,Inv X U Y H L->Q (.bool o.isSome) L) :
  aU (aW X.prog X.w) A (iU .In u (.ref a)) Q E s:=by
 rcases g with ⟨J,k,e,c,l⟩|⟨J,k,b,e,c,m,l⟩
 .subst c;obtain⟨n,d,vs,f,dd⟩:=pM I.hok e;refine wpAny_in_of (qD i) d dd.mapOf ?_;rw[←(f.val k).isSome_eq,←l];exact h _ (I.tok _)
 .subst c;cases(show u=cU b from i);obtain⟨n,d,xs,f,dd⟩:=qE I.hok e;refine wpAny_in_heap (qM j) (qy I.hok m) d dd ?_;have q:=(f.val k).isSome_eq;rw[yR]at q;rw[←q,←l];exact h _ (I.tok _)
def SA(j:A.units+1<I8)(I:Inv X U Y H s)(g:kL H a y o)(i:cE y u)(h:∀L,Inv X U Y H L->Q (.bool (!o.isSome)) L) :
  aU (aW X.prog X.w) A (iU .NotIn u (.ref a)) Q E s:=by
 rcases g with ⟨J,k,e,c,l⟩|⟨J,k,b,e,c,m,l⟩
 .subst c;obtain⟨n,d,vs,f,dd⟩:=pM I.hok e;refine wpAny_notIn_of (qD i) d dd.mapOf ?_;rw[←(f.val k).isSome_eq,←l];exact h _ (I.tok _)
 .subst c;cases(show u=cU b from i);obtain⟨n,d,xs,f,dd⟩:=qE I.hok e;refine wpAny_notIn_heap (qM j) (qy I.hok m) d dd ?_;have q:=(f.val k).isSome_eq;rw[yR]at q;rw[←q,←l];exact h _ (I.tok _)
def zR(I:Inv X U Y H s)(d:r6 (H a))(f:m7 a s.heap h')(g:∃q,h'.get? a=Z q)(new:dQ X.prog X.w (aI H a c) h' a c) :
  Inv X U Y (aI H a c) {s with heap:=h',toks:=t'}:=
 I.write (x:=a) (e:=a) d YU (λb q h i=>(f.2 b h).trans i) g new
def GL(b:J.length<=cP)(c:(a==nQ)=aK)(d:eL J vs)(dd:h'.DictOf (dI P w) a vs) :
  dQ P w H' h' a (.dK J):=⟨b,c,vs,d,dd⟩
def Dt(D:A.units+1<I8)(I:Inv X U Y H s)(g:qb H a y v H')(x:cE y u)(z:cE v r)(h:∀L,Inv X U Y H' L->Q () L) :
  aU (aW X.prog X.w) A (setItem (.ref a) u r) Q E s:=by
 rcases g with ⟨J,k,e,m,l,n⟩|⟨J,k,b,e,m,B,l,n⟩
 .subst m n;obtain⟨d,o,vs,f,dd⟩:=Hn I.hok e;have p:vs.length<=cP:=by rw[←f.length];exact d
  have t:(iI J k v).length<=cP:=by have:=xr J k v;omega
  refine wpAny_setItem_pairs (hsz:=p) (qD x) dd λh' i w=>h _ ?_;have G:∃q,h'.get? a=Z q:=let ⟨q,_,_,j,_⟩:=i;⟨q,j⟩;exact zR I (by rw[e];exact mQ) w G (GL t o (f.put k z) i)
 .subst m n;cases(show u=cU b from x);obtain⟨d,o,xs,f,dd⟩:=Va I.hok e;have p:xs.length<=cP:=by rw[←pX f];exact d
  have t:(iI J k v).length<=cP:=by have:=xr J k v;omega
  refine wpAny_setItem_heap (hsz:=p) (qM D) (qy I.hok B) dd λh' i w=>h _ ?_;obtain⟨q,es,ep,j,h2,M,N,_,T⟩:=i;refine zR I (by rw[e];exact mQ) w ⟨q,j⟩ ⟨t,o,_,(f.put k B z).keeps λc ys C=>?_,q,es,ep,j,h2,M,N,T⟩;rw[bA (si C e (λd=>nomatch d))];exact C
end
section
variable{X:aX}{U:List (aB×aZ)}{Y:St}{H:aC}{s:aJ}{a:aB}{J:List (aT×V)}{k:aT}{u:aE}{A:bX}{E:aE->aJ->Prop}
def Vc(I:Inv X U Y H s)(e:eM H a (.dK J))(h:∀t L,Inv X U Y H L->Q (.int J.length t) L):aU (aW X.prog X.w) A (call (.builtin "len") [.ref a]) Q E s:=by
 obtain⟨c,d,vs,b,dd⟩:=pM I.hok e;refine call_len_dict d dd (by rw[←b.length];rw[jC]at c;omega) ?_;rw[←b.length];exact h _ _ (I.tok _)
end
def Hz(i:bI):Prop:=∀a b,wB i aK a b=operate [a,b] (J6 a b)
def Ru{T id:String}
 (g:r0 (.type T) "__getitem__"=pure (Z (.builtin id)))(j:Hz slice)
 (h:aU (aW prog w) A (H5 value env) (λo d=>aU (aW prog w) A (H5 slice env) (λi a=>a.TypeIs o T/\aU (aW prog w) A (J6 o i) Q E a) E d) E s) :
  aU (aW prog w) A (H5 (.Subscript value slice pos) env) Q E s:=by
 refine Subscript_ (fA h (λo d h₁=>fA h₁ (λi a b=>?_) λ_ _ x=>x) λ_ _ x=>x);obtain⟨e,b⟩:=b;unfold J7;refine aO ?_;rw[getitemInPython_of_ne e.not_modules];refine aO (tT e g ?_);have c:aU (aW prog w) A (wB slice aK o i) (λr f=>aU (aW prog w) A (letTemporaryGo value o r>>=λ_=>pure r) Q E f) E a:=by
  rw[j o i];exact wpAny_operating (fA b (λr f k=>aO (wpAny_letTemporaryGo (bN k))) λ_ _ x=>x)
 first
  |exact bN (aO c)
  |exact aO (bN (aO c))
  |exact aO c
def NS(I:Inv X U Y H s)(g:kL H a y o):s.TypeIs (.ref a) "dict":=by
 rcases g with ⟨J,k,e,_,_⟩|⟨J,k,b,e,_,_,_⟩
 .obtain⟨_,_,vs,_,dd⟩:=pM I.hok e;exact dd.typeIs
 .obtain⟨_,_,xs,_,dd⟩:=qE I.hok e;exact dd.typeIs
inductive HU(Q:aP)(x y:V)(H2:aC):Prop
 |mk:∀a v,x=.ref a->kL H2 a y (Z v)->Q v H2->HU Q x y H2
abbrev UO (ty:bF) (Y:St) (Q:aP):aP:=λx z=>ty Y z (HU Q x)
def Us(k ty:bF):bF:=λY H Q=>k Y H (UO ty Y Q)
inductive HV(Q:aP)(y x:V)(H2:aC):Prop
 |mk:∀a o,x=.ref a->kL H2 a y o->Q (.bl o.isSome) H2->HV Q y x H2
abbrev VF (k:bF) (Y:St) (Q:aP):aP:=λy z=>k Y z (HV Q y)
def Vm(ty k:bF):bF:=λY H Q=>ty Y H (VF k Y Q)
inductive HW(Q:aP)(y x:V)(H2:aC):Prop
 |mk:∀a o,x=.ref a->kL H2 a y o->Q (.bl (!o.isSome)) H2->HW Q y x H2
abbrev UN (k:bF) (Y:St) (Q:aP):aP:=λy z=>k Y z (HW Q y)
def Rs(ty k:bF):bF:=λY H Q=>ty Y H (UN k Y Q)
inductive Io(Y:St)(N:St->aC->Prop)(v x y:V)(H3:aC):Prop
 |mk:∀a H4,x=.ref a->qb H3 a y v H4->N Y H4->Io Y N v x y H3
abbrev Sh (ty:bF) (Y:St) (N:St->aC->Prop) (v:V):aP:=λx H2=>ty Y H2 (Io Y N v x)
abbrev TF (k ty:bF) (Y:St) (N:St->aC->Prop):aP:=λv z=>k Y z (Sh ty Y N v)
def Ux(k ty tv:bF):dZ:=λD Y H=>tv Y H (TF k ty Y D.nx)
def Uy(k ty tv:bF)(c:V->V->aC->aP->Prop):dZ:=λD Y H=>k Y H λx z=>ty Y z λy H2=>∃a v,x=.ref a/\kL H2 a y (Z v) /\
 tv Y H2 λd e=>c v d e λf g=>∃b,qb g a y f b/\D.nx Y b
section
variable{X:aX}{o i e value:bI}{pos A m:Pos}{k ty tv:bF}
def iZ(c:X.A.units+1<I8)(d:bL X o k)(hi:bL X i ty)(e:Hz i):bL X (.Subscript o i pos) (Us k ty):=.mk λU s Y H Q I h=>by
 refine Ru PySem.F.slot_dict_getitem.lookup e (bT (d U s Y H _ I h) λu s1 z'=>?_);obtain⟨x,z,f,j,l⟩:=z';refine bT (hi U s1 Y z _ f l) λr t z'=>?_;obtain⟨y,H2,b,m,a,v,ex,g,n⟩:=z';subst ex;obtain rfl:u=cU a:=j;exact⟨NS b g,Du c b g m λw A p q=>⟨v,H2,p,q,n⟩⟩
def wR(b:X.A.units+1<I8)(hi:bL X i ty)(c:bL X o k):uf X .In i o (Vm ty k):=.mk λU s Y H Q I h=>by
 refine bT (hi U s Y H _ I h) λq s1 z'=>?_;obtain⟨y,z,d,e,f⟩:=z';refine bT (c U s1 Y z _ d f) λu r z'=>?_;obtain⟨x,H2,j,l,a,m,ex,g,n⟩:=z';subst ex;obtain rfl:u=cU a:=l;exact VW b j g e λt p=>⟨.bl m.isSome,H2,p,O,n⟩
def CW(b:X.A.units+1<I8)(hi:bL X i ty)(c:bL X o k):uf X .NotIn i o (Rs ty k):=.mk λU s Y H Q I h=>by
 refine bT (hi U s Y H _ I h) λq s1 z'=>?_;obtain⟨y,z,d,e,f⟩:=z';refine bT (c U s1 Y z _ d f) λu r z'=>?_;obtain⟨x,H2,j,l,a,m,ex,g,n⟩:=z';subst ex;obtain rfl:u=cU a:=l;exact SA b j g e λt p=>⟨.bl (!m.isSome),H2,p,O,n⟩
def vl(b:X.A.units+1<I8)(c:bL X o k)(hi:bL X i ty)(d:bL X value tv)(e:qZ value (Z (.Subscript o i A)) pos.line X.env=pure aK) :
  kz X (.Assign [.Subscript o i A] value pos) (Ux k ty tv):=.mk λU s Y H D I h=>by
 refine wpAny_Assign_Subscript (bT (d U s Y H _ I h) λr s1 z'=>?_) e;obtain⟨v,z,f,j,l⟩:=z';refine bT (c U s1 Y z _ f l) λu m z'=>?_;obtain⟨x,H2,n,p,q⟩:=z';refine bT (hi U m Y H2 _ n q) λG J z'=>?_;obtain⟨y,L,t,w,a,B,ex,g,C⟩:=z';subst ex;obtain rfl:u=cU a:=p;exact Dt b t g w j λM E=>⟨Y,B,E,C⟩
def RN(e:X.A.units+1<I8)(j:bL X o k)(hi:bL X i ty)(l:bL X value tv)(n:HB X op d)
 (p:∀c b new,augStore i c b new=(do I0 [new,c,b] (setItem c b new);release [new,c,b] [];pure .next)):kz X (.AugAssign (.Subscript o i m) op value pos) (Uy k ty tv d):=.mk λU s Y H D I h=>by
 refine wpAny_AugAssign_SubscriptAny (bT (j U s Y H _ I h) λu s1 z'=>?_) p;obtain⟨x,z,q,r,t⟩:=z';refine bT (hi U s1 Y z _ q t) λb a7 z'=>?_;obtain⟨y,H2,w,f,a,v,ex,g,A⟩:=z';subst ex;obtain rfl:u=cU a:=r;refine Du e w g f λB C E G=>bT (l U C Y H2 _ E A) λJ L z'=>?_;obtain⟨M,N,Q,T,a0⟩:=z';refine bT (n U L Y N v M B J _ Q G T a0) λa8 a9 z'=>?_;obtain⟨z,aa,a1,a2,a3,a4,a5⟩:=z';exact Dt e a1 a4 f a2 λac a6=>⟨Y,a3,a6,a5⟩
end
def EM(h:bH)(a:nQ<h.objs.size):dQ P w H (h.push {cls:=.type "dict",data:=.dict #[]}) h.objs.size (.dK []):=
 ⟨gU _,C1.mpr (D4 (dC a)),[],.nil,bH.DictOf.new h⟩
def SX:bF:=λ_ H Q=>∀p,H p=aF->Q (.ref p) (aI H p (.dK []))
section
variable{X:aX}{pos:Pos}
def Qy:bL X (.Dict [] [] pos) SX:=⟨λU s Y H Q I h=>
 wpAny_Dict_empty ⟨.ref s.heap.objs.size,_,I.laid (a:=s.heap.objs.size) (o:=.dK []) (t':=s.toks) (λ_ _ q=>cZ _ q) (bQ _) (EM s.heap I.big),O,h _ (I.hok.fresh (bQ _))⟩⟩
end
def wM:List (bF×bF)->St->aC->(List (V×V)->aC->Prop)->Prop
 |[],_,H,Q=>Q [] H
 |(tk,tv)::r,Y,H,Q=>tk Y H λx z=>tv Y z λy H2=>wM r Y H2 λps a=>Q ((x,y)::ps) a
abbrev zr:List (V×V)->List (aE×aE)->Prop:=Paired λp q=>cE p.1 q.1/\cE p.2 q.2
structure r8 (X:aX) (pos:Pos) (keys:List (Option bI)) (values:List bI) (trs:List (bF×bF)):Prop where
 run:∀(U:List (aB×aZ))(s:aJ)(Y:St)(H:aC)(Q:List (V×V)->aC->Prop),Inv X U Y H s->wM trs Y H Q ->
  aU (aW X.prog X.w) X.A (evalPairs (pairTrees keys values X.env pos)) (λvs L=>∃ps H',Inv X U Y H' L/\zr ps vs/\Q ps H') X.xe s
instance {X:aX} {pos:Pos} {keys:List (Option bI)} {a:List bI} {b:List (bF×bF)}:CoeFun (r8 X pos keys a b) λ_=>∀(U:List (aB×aZ))(s:aJ)(Y:St)(H:aC)(Q:List (V×V)->aC->Prop),Inv X U Y H s->wM b Y H Q ->
  aU (aW X.prog X.w) X.A (evalPairs (pairTrees keys a X.env pos)) (λvs L=>∃ps H',Inv X U Y H' L/\zr ps vs/\Q ps H') X.xe s:=⟨r8.run⟩
def RO:r8 X pos [] [] []:=⟨λU s Y H Q I h=>pairTrees_nil_walk ⟨[],H,I,.nil,h⟩⟩
def Qs(b:bL X k tk)(c:bL X v tv)(d:r8 X pos ks vs a) :
  r8 X pos (Z k::ks) (v::vs) ((tk,tv)::a):=⟨λU s Y H Q I h=>
 pairTrees_cons_walk (bT (b U s Y H _ I h) λu s1 ⟨x,z,e,f,g⟩=>bT (c U s1 Y z _ e g) λr i ⟨y,H2,j,l,m⟩=>
  bT (d U i Y H2 _ j m) λws t ⟨ps,n,o,p,q⟩=>⟨(x,y)::ps,n,o,.cons ⟨f,l⟩ p,q⟩)⟩
def qx(J b:List (aT×V)):List (aT×V):=b.foldl (λc a=>iI c a.1 a.2) J
def eL.merge:∀{a:List (aT×V)} {b:List (aT×aE)} {J:List (aT×V)} {vs:List (aT×aE)},eL a b->eL J vs->eL (qx J a) (merged vs b):=by
 intro a b J vs r;unfold eL at r
 induction r generalizing J vs with
 |nil=>intro q;exact q
 |@cons p q ps f h t c=>
  intro d;have e:eL (iI J p.1 p.2) (stored vs q.1 q.2):=by
   have:=d.put p.1 h.2;rw[←h.1];exact this
  exact c e
theorem Jz:∀(a J:List (aT×V)),(qx J a).length<=J.length+a.length
 |[],J=>by show J.length<=J.length+0;omega
 |p::r,J=>by
  have h1:=Jz r (iI J p.1 p.2);have h2:=xr J p.1 p.2;show(qx (iI J p.1 p.2) r).length<=_;rw[fW];omega
theorem CC:∀{J:List (aT×V)} {ws:List (aE×aE)},zr (J.map λe=>(kV e.1,e.2)) ws->∃d,Carries (dI P w) ws d/\eL J d
 |[],_,r=>by rw[mu]at r;cases r;exact⟨[],mQ,.nil⟩
 |p::J,_,r=>by
  rw[dD]at r;cases r with
  |@cons a b as bs h t=>
   obtain⟨d,c,q⟩:=CC (P:=P) (w:=w) t;obtain⟨g,f⟩:=b;exact⟨(p.1,f)::d,⟨qD h.1,O,c⟩,.cons ⟨O,h.2⟩ q⟩
def Ur(b:List (bF×bF)):bF:=λY H Q=>∀p,H p=aF->wM b Y (aI H p (.dK [])) λps H2=>H2 p=Z (.dK [])/\∃J:List (aT×V),ps=J.map (λa=>(kV a.1,a.2))/\J.length<=15/\Q (.ref p) (aI H2 p (.dK (qx [] J)))
def RX(h:r8 X pos keys b d)(i:keys.all (·.isSome)=aD)(j:keys.length=b.length)(k:keys≠[])
 (l:keys.length<=15):bL X (.Dict keys b pos) (Ur d):=.mk λU s Y H Q I q=>by
 have hn:=I.hok.fresh (bQ s.heap.objs.size);have m:=I.laid (a:=s.heap.objs.size) (o:=.dK []) (h':=s.heap.push {cls:=.type "dict",data:=.dict #[]}) (t':=s.toks) (λ_ _ q=>cZ _ q) (bQ _) (EM s.heap I.big);refine wpAny_Dict_walk (knd:=dI X.prog X.w) i j k l (bT (h U _ Y _ _ m (q _ hn)) λws C z'=>?_);obtain⟨ps,H2,f,n,e,J,ep,lk,p⟩:=z';subst ep;obtain⟨r,c,t⟩:=CC (P:=X.prog) (w:=X.w) n;obtain⟨D,u,E,x,dd⟩:=Hn f.hok e;cases x;refine⟨r,c,dd,λh' g y=>⟨.ref s.heap.objs.size,_,?_,O,p⟩⟩;have z:(qx [] J).length<=cP:=by
  have h1:=Jz J [];rw[tO]at h1;rw[jC];omega
 have A:∃q,h'.get? s.heap.objs.size=Z q:=let ⟨q,_,_,B,_⟩:=g;⟨q,B⟩;exact zR f (by rw[e];exact mQ) y A (GL z u (t.merge .nil) g)
structure Mh (X:aX) (o:bI) (m:aA) (i:Pos) (e:bI) (c:Pos):Prop where
 b_:qS o m X.env (H5 o X.env)=H5 o X.env
 few:((H8 c (cN [e] X.env)).all (λx=>!x.1)&&(mR c (mO [] X.env)).all (λx=>x.1.isSome)
  && G9 (([e]:List bI).length+([]:List J0).length+(if ([]:List J0).isEmpty then 0 else 1)<30))=aD
 line:(i.endLine==c.line)=aD
 trees:H8 c (cN [e] X.env)=[(aK,H5 e X.env)]
structure M2 (X:aX) (o:bI) (m:aA) (i:Pos) (e f:bI) (c:Pos):Prop where
 b_:qS o m X.env (H5 o X.env)=H5 o X.env
 few:((H8 c (cN [e,f] X.env)).all (λx=>!x.1)&&(mR c (mO [] X.env)).all (λx=>x.1.isSome)
  && G9 (([e,f]:List bI).length+([]:List J0).length+(if ([]:List J0).isEmpty then 0 else 1)<30))=aD
 line:(i.endLine==c.line)=aD
 trees:H8 c (cN [e,f] X.env)=[(aK,H5 e X.env),(aK,H5 f X.env)]
def zh(H:aC)(a:aB):Prop:=(∃J,eM H a (.dK J))\/∃J,eM H a (.dT J)
def GD(I:Inv X U Y H s)(d:zh H a) :
  s.TypeIs (.ref a) "dict"/\(∀b,cU a=.ref b->∃c,s.heap.get? b=Z c/\c.dict=aF)/\(a==nQ)=aK:=by
 rcases d with ⟨J,e⟩|⟨J,e⟩
 .obtain⟨_,f,vs,_,dd⟩:=pM I.hok e;refine⟨dd.typeIs,λb q=>?_,f⟩;cases q;obtain⟨c,_,_,h1,h2,_⟩:=dd;exact⟨c,h1,h2.2.1⟩
 .obtain⟨_,f,xs,_,dd⟩:=qE I.hok e;refine⟨dd.typeIs,λb q=>?_,f⟩;cases q;obtain⟨c,_,_,h1,h2,_⟩:=dd;exact⟨c,h1,h2.2.1⟩
section
variable{X:aX}{U:List (aB×aZ)}{Y:St}{H:aC}{s:aJ}{a:aB}{y d:V}{u r:aE}{o:Option V}{A:bX}{E:aE->aJ->Prop}
def Ue(m:A.units+1<I8)(I:Inv X U Y H s)(g:kL H a y o)(i:cE y u)(h:∀j L,Inv X U Y H L->cE (o.getD .non) j->Q j L) :
  aU (aW X.prog X.w) A (call (.builtin "dict.get") [.ref a,u]) Q E s:=by
 rcases g with ⟨J,k,e,c,l⟩|⟨J,k,b,e,c,n,l⟩
 .subst c;obtain⟨p,d,vs,f,dd⟩:=pM I.hok e;refine rW rD dd.typeIs vE (PySem.F.args_dict_get_2 _ _) (meets_dict_get (dI X.prog X.w) a (qD i) d) ⟨_,dd.mapOf,h _ _ (I.tok _) ?_⟩;rw[l];exact(f.val k).getD O
 .subst c;cases(show u=cU b from i);obtain⟨p,d,xs,f,dd⟩:=qE I.hok e;refine rW rD dd.typeIs vE (PySem.F.args_dict_get_2 _ _) (meetsH_dict_get (lL (dI X.prog X.w)) a b d) ⟨qM m,k,xs,qy I.hok n,dd,h _ _ (I.tok _) ?_⟩;rw[l];exact(f.val k).getD O
def Ud(p:A.units+1<I8)(I:Inv X U Y H s)(g:kL H a y o)(j:cE y u)(m:cE d r)(h:∀n L,Inv X U Y H L->cE (o.getD d) n->Q n L) :
  aU (aW X.prog X.w) A (call (.builtin "dict.get") [.ref a,u,r]) Q E s:=by
 rcases g with ⟨J,k,e,c,l⟩|⟨J,k,b,e,c,q,l⟩
 .subst c;obtain⟨t,f,vs,i,dd⟩:=pM I.hok e;refine rW rD dd.typeIs vE (PySem.F.args_dict_get_3 _ _ _) (meets_dict_get_default (dI X.prog X.w) a (qD j) f r) ⟨_,dd.mapOf,h _ _ (I.tok _) ?_⟩;rw[l];exact(i.val k).getD m
 .subst c;cases(show u=cU b from j);obtain⟨t,f,xs,i,dd⟩:=qE I.hok e;refine rW rD dd.typeIs vE (PySem.F.args_dict_get_3 _ _ _) (meetsH_dict_get_default (lL (dI X.prog X.w)) a b f r) ⟨qM p,k,xs,qy I.hok q,dd,h _ _ (I.tok _) ?_⟩;rw[l];exact(i.val k).getD m
end
def Ta(k ty:bF):bF:=λY H Q=>k Y H λx z=>∃a,x=.ref a/\zh z a/\ty Y z λy H2=>∃o,kL H2 a y o/\Q (o.getD .non) H2
def SY(k ty tx:bF):bF:=λY H Q=>k Y H λx z=>∃a,x=.ref a/\zh z a/\ty Y z λy H2=>tx Y H2 λc b=>∃o,kL b a y o/\Q (o.getD c) b
section
variable{X:aX}{o e f:bI}{i c:Pos}{k ty tx:bF}
def Qz(f:X.A.units+1<I8)(j:bL X o k)(l:bL X e ty)(m:Mh X o "get" i e c):bL X (.Call (.Attribute o "get" i) [e] [] c) (Ta k ty):=.mk λU s Y H Q I h=>by
 refine wpAny_Call_method m.b_ m.few m.line rB rD PySem.F.type_dict_get (bT (j U s Y H _ I h) λu s1 z'=>?_);obtain⟨x,z,b,n,a,ex,d,p⟩:=z';subst ex;obtain rfl:u=cU a:=n;obtain⟨q,r,_⟩:=GD b d;refine⟨q,r,?_⟩;rw[m.trees];refine rC O (rF (tG (bT (l U s1 Y z _ b p) λD E z'=>?_)));obtain⟨y,H2,t,w,G,g,A⟩:=z';exact vZ (Ue f t g w λJ L B C=>⟨_,H2,B,C,A⟩)
def Et(j:X.A.units+1<I8)(l:bL X o k)(n:bL X e ty)(p:bL X f tx)(m:M2 X o "get" i e f c):bL X (.Call (.Attribute o "get" i) [e,f] [] c) (SY k ty tx):=.mk λU s Y H Q I h=>by
 refine wpAny_Call_method m.b_ m.few m.line rB rD PySem.F.type_dict_get (bT (l U s Y H _ I h) λu s1 ⟨x,z,b,q,a,ex,d,r⟩=>?_);subst ex;obtain rfl:u=cU a:=q;obtain⟨t,w,_⟩:=GD b d;refine⟨t,w,?_⟩;rw[m.trees];refine rC O (rF (tG (bT (n U s1 Y z _ b r) λT A ⟨y,H2,B,C,D⟩=>
  tG (bT (p U A Y H2 _ B D) λa0 a1 ⟨z,E,G,J,a2,g,L⟩=>vZ ?_))))
 exact Ud j G g C J λa3 a4 M N=>⟨_,E,M,N,L⟩
end
end L2
open L2.aQ renaming of→C8
open L2.V renaming str→C9,int→D1,ref→F2,bl→GE,non→G5
open L2.bE renaming of→D0
open L2.eL renaming length→F5
open L2.iW renaming pt→F7
open L2.Paired renaming mapP→G3
open L2.eJ renaming kept→G8
namespace HT
open PySem PyProof.Rows
noncomputable def lexLt:M6->M6->Bool
 |[],[]=>aK
 |[],_::_=>aD
 |_::_,[]=>aK
 |x::xs,y::ys=>if x=y then lexLt xs ys else G9 (x<y)
def Wr(x y:Int)(xs ys:M6):lexLt (x::xs) (y::ys)=if x=y then lexLt xs ys else G9 (x<y):=rfl
def M1:lexLt [] []=aK:=rfl
def MF(y:Int)(ys:M6):lexLt [] (y::ys)=aD:=rfl
def MG(x:Int)(xs:M6):lexLt (x::xs) []=aK:=rfl
def QW(A:bX)(s:aJ)(a:Int)(t:Tok)(c:Int)(u:Tok):∃e,kv A s (.int a t) (.int c u) e/\(e=aD↔a=c):=
 ⟨(a==c),kv.int_int a t c u,by simp⟩
def Qq(A:bX)(s:aJ)(a:Int)(t:Tok)(c:Int)(u:Tok)(prog:bS)(w:bP)(E:aE->aJ->Prop)(Q:aE->aJ->Prop)(h:Q (.bool (G9 (a<c))) s) :
  aU (aW prog w) A (richCompare .Lt (.int a t) (.int c u)) Q E s:=
 (PyProof.Rows.lt_int h:aU (aW prog w) A (iU .Lt (.int a t) (.int c u)) Q E s)
section
open PySem.SeqAt
open PySem.AutoSeq1 (wpAny_loadPart')
open PySem.MeetsSeq PySem.MeetsSeq2 PySem.MeetsSeq3
end
section
variable{prog:bS}{w:bP}{A:bX}{E:aE->aJ->Prop}{s:aJ}
def Ym(p:IsTup s.heap t vs.toArray)(q:IsTup s.heap b ws.toArray)(f:vs≠[])
 (h1:ws=[]->Q (.ref t) s)(h2:ws≠[]->Q (.ref s.heap.objs.size) {s with heap:=s.heap.push {cls:=.type "tuple",data:=.seq (vs++ws).toArray}})
 (hsz:vs.length+ws.length<=cP):aU (aW prog w) A (mz .Add (.ref t) (.ref b)) Q E s:=by
 obtain⟨⟨cls,dd,data,g⟩,a,h,n,i⟩:=id p;obtain⟨⟨r,j,data2,k⟩,c,l,m,o⟩:=id q;simp only at h i l o;subst h i l o;have e:vs.toArray++ws.toArray=(vs++ws).toArray:=by simp
 by_cases d:ws=[]
 .exact concat_meets ⟨_,a,O⟩ ⟨_,c,O⟩ noFill_tuple_add seq_tuple_add PySem.F.slot_tuple_add PySem.F.entry_tuple_add (PySem.F.args_tuple_add_2 _ _)
   (tuple_addW1 t b vs.toArray ws.toArray n m dd j g k (by simpa using f) (by simp[d])) ⟨a,c,h1 d⟩
 .refine concat_meets ⟨_,a,O⟩ ⟨_,c,O⟩ noFill_tuple_add seq_tuple_add PySem.F.slot_tuple_add PySem.F.entry_tuple_add (PySem.F.args_tuple_add_2 _ _)
   (tuple_addW2 t b vs.toArray ws.toArray n m dd j g k (by simpa using f) (by simpa using d) (by rw[eN,eN];exact hsz)) ⟨a,c,?_⟩
  rw[e];exact h2 d
noncomputable def sIx(n d:Nat):Option Int->Nat
 |none=>d
 |some v=>if v<0 then(v+(n:Int)).toNat else min v.toNat n
def Ti(n d:Nat)(b:d<=n)(o:Option Int):sIx n d o<=n:=by
 cases o with
 |none=>exact b
 |some v=>
  show(if v<0 then(v+(n:Int)).toNat else min v.toNat n)<=n;by_cases a:v<0
  .rw[B4 a];omega
  .rw[B3 a];exact Nat.min_le_right _ _
def FO(v:Int)(n d:Nat):(if v<0 then max (v+(n:Int)) 0 else min v (n:Int))=((sIx n d (Z v):Nat):Int):=by
 show(if v<0 then max (v+(n:Int)) 0 else min v (n:Int))=(((if v<0 then(v+(n:Int)).toNat else min v.toNat n):Nat):Int)
 by_cases a:v<0
 .simp only[B4 a];omega
 .simp only[B3 a];omega
def OT(lo hi:Option Int)(n:Nat):yv lo hi 1 (n:Int)=(((sIx n 0 lo:Nat):Int),((sIx n n hi:Nat):Int)):=by
 have h1:¬((1:Int)<0):=YT;unfold yv;simp only[h1,C5];refine Prod.ext ?_ ?_
 .cases lo with
  |none=>rfl
  |some v=>exact FO v n 0
 .cases hi with
  |none=>rfl
  |some v=>exact FO v n n
def Oi(i j:Nat):vv (i:Int) (j:Int) 1=j-i:=by
 unfold vv;have h1:(1:Int)>0:=YT;simp only[h1,if_true,wx];split<;>omega
def Mb(p:J8 v o)(h:Q o s):aU (aW prog w) A (Builtin.Slice.slicePartIndex v) Q E s:=by
 cases p with
 |none=>exact slicePart_none h
 |int i t=>exact slicePart_int h
def Xt{lo hi:Option Int}{n:Nat}{Q:Int×Int×Nat->aJ->Prop}(f:s.heap.IsSliceOf e a b .none)(pl:J8 a lo)(pu:J8 b hi)
 (h:Q (((sIx n 0 lo:Nat):Int),1,sIx n n hi-sIx n 0 lo) s):aU (aW prog w) A (Builtin.Slice.sliceApplied (.ref e) (pure (n:Int))) Q E s:=by
 obtain⟨os,c,g,d⟩:=id f;unfold Builtin.Slice.sliceApplied Builtin.Slice.sliceFields;refine aO (aO (oI c d (x:=a) O (aO (oI c d (x:=b) O (aO (oI c d (x:=.none) O (bN (aO (slicePart_none ?_)))))))));show aU _ _ (if ((1:Int)==0)=aD then _ else _) _ _ s;rw[B3 YR];refine aO (Mb pl (aO (Mb pu (aO (bN ?_)))));show aU _ _ (match yv lo hi 1 (n:Int) with|(lo,hi)=>pure (lo,(1:Int),vv lo hi 1)) _ _ s;rw[OT lo hi n];show aU _ _ (pure (((sIx n 0 lo:Nat):Int),(1:Int),vv ((sIx n 0 lo:Nat):Int) ((sIx n n hi:Nat):Int) 1)) _ _ s;rw[Oi];exact bN h
def Qt(xs:Array aE)(i k:Nat):((eG k).filterMap λ(m:Nat)=>xs[((i:Int)+(m:Int)*1).toNat]?).toArray=((xs.toList.drop i).take k).toArray:=by
 have e:(λ(m:Nat)=>xs[((i:Int)+(m:Int)*1).toNat]?)=λm=>xs[i+m]?:=by
  funext m
  have:((i:Int)+(m:Int)*1).toNat=i+m:=YT;rw[this]
 rw[e];have:=pick_run xs i k;rw[List.filterMap_map]at this;have a:((λx=>xs[x]?) ∘ λx=>i+x)=λm=>xs[i+m]?:=O;rw[a]at this;rw[this]
def Ys{items:Array aE}{lo hi:Option Int}{Q:aE->aJ->Prop}(a:IsTup s.heap t items)(f:s.heap.IsSliceOf c d e .none)(pl:J8 d lo)(pu:J8 e hi)
 (g:¬(sIx items.size 0 lo=0/\sIx items.size items.size hi=items.size))
 (h:Q (.ref s.heap.objs.size) {s with heap:=s.heap.push {cls:=.type "tuple",data:=.seq ((items.toList.drop (sIx items.size 0 lo)).take (sIx items.size items.size hi-sIx items.size 0 lo)).toArray}})
 (hsz:items.size<=cP):aU (aW prog w) A (J6 (.ref t) (.ref c)) Q E s:=by
 have b:sizeOk (.seq ((items.toList.drop (sIx items.size 0 lo)).take (sIx items.size items.size hi-sIx items.size 0 lo)).toArray):=by
  show((items.toList.drop (sIx items.size 0 lo)).take (sIx items.size items.size hi-sIx items.size 0 lo)).toArray.size<=cP;rw[eN,dY,o6,nH];omega
 have n:sIx items.size items.size hi<=items.size:=Ti _ _ (bQ _) hi;obtain⟨os,i,j,o⟩:=id f;have k:s.TypeIs (.ref c) "slice":=⟨os,i,j⟩
 unfold J6;try with_reducible refine jO ?_
 first|refine aO (bN ?_)|skip
 refine aO (wpAny_sequenceKey a.typeIs YR ?_);refine aO (yG (name:=qV "__getitem__") a.typeIs yt
  (tP yt a.typeIs entry_tuple_getitem ?_ (args_tuple_getitem _ _)))
 show aU _ _ (Builtin.Tuple.tupleItemsOf (.ref t)>>=_) _ _ s;refine aO (tupleItemsOf_ a ?_);refine aO (rV k ?_);rw[B4 YR];refine aO (Xt f pl pu ?_);have l:¬((((sIx items.size 0 lo:Nat):Int)==0&&(1:Int)==1&&(sIx items.size items.size hi-sIx items.size 0 lo)==items.size)=aD):=by
  intro q;rw[fM,fM]at q;have p:((sIx items.size 0 lo:Nat):Int)=0:=eq_of_beq q.1.1;have r:sIx items.size items.size hi-sIx items.size 0 lo=items.size:=eq_of_beq q.2;exact g ⟨YT,YT⟩
 show aU _ _ (if (((sIx items.size 0 lo:Nat):Int)==0&&(1:Int)==1&&(sIx items.size items.size hi-sIx items.size 0 lo)==items.size)=aD then _ else _) _ _ s;rw[B3 l,Qt]
 first
  |exact aO (m:=vx _) (nI (bN ⟨_,O,bN h⟩) b)
  |exact aO (m:=vx _) (nI (aO (bN (bN ⟨_,O,bN h⟩))) b)
  |exact aO (aO (m:=vx _) (nI (bN (bN ⟨_,O,bN h⟩)) b))
  |exact aO (aO (m:=vx _) (nI (bN ⟨_,O,bN h⟩) b))
end
end HT
open HT renaming sIx→F4,lexLt→G6
namespace L2
open PySem PySem.Spec PyProof.Rows
abbrev TO:=St->aC->(Option Int->aC->Prop)->Prop
structure r7 (X:aX) (e:Option bI) (t:TO):Prop where
 run:∀(U:List (aB×aZ))(s:aJ)(Y:St)(H:aC)(Q:Option Int->aC->Prop),Inv X U Y H s->t Y H Q ->
  aU (aW X.prog X.w) X.A (evalPart e X.env) (λu L=>∃o H',Inv X U Y H' L/\J8 u o/\Q o H') X.xe s
instance {X:aX} {e:Option bI} {t:TO}:CoeFun (r7 X e t) λ_=>∀(U:List (aB×aZ))(s:aJ)(Y:St)(H:aC)(Q:Option Int->aC->Prop),Inv X U Y H s->t Y H Q ->
  aU (aW X.prog X.w) X.A (evalPart e X.env) (λu L=>∃o H',Inv X U Y H' L/\J8 u o/\Q o H') X.xe s:=⟨r7.run⟩
def Rr:TO:=λ_ H Q=>Q aF H
inductive Ic(Q:Option Int->aC->Prop)(x:V)(z:aC):Prop
 |mk:∀i,x=.int i->Q (Z i) z->Ic Q x z
def Un(t:bF):TO:=λY H Q=>t Y H (Ic Q)
def Cr:∀{us:M4},cA (ns.map D1) us->J9 us ns:=by
 induction ns with
 |nil=>intro us r;rw[mu]at r;cases r;exact .nil
 |cons n ns a=>
  intro us r;rw[dD]at r;cases r with
  |cons b c=>
   obtain⟨t,e⟩:=b;subst e;exact .cons n t (a c)
section
variable{X:aX}{e:bI}{te:bF}{lo hi:Option bI}{B th:TO}{pos p2:Pos}
def qo:r7 X aF Rr:=.mk λU s Y H Q I h=>by
 rw[evalPart_none];exact bN ⟨aF,H,I,.none,h⟩
def qn(h:bL X e te):r7 X (Z e) (Un te):=.mk λU s Y H Q I a=>by
 rw[evalPart_some];refine bT (h U s Y H _ I a) λu s1 z'=>?_;obtain⟨x,z,b,c,d⟩:=z';obtain⟨i,rfl,q⟩:=d;obtain⟨t,rfl⟩:=c;exact⟨Z i,z,b,.int i t,q⟩
def wJ(X:aX)(r:V->Option Int->Option Int->aC->aP->Prop):Prop:=
 ∀(U:List (aB×aZ))(s:aJ)(Y:St)(H:aC)(x:V)(v a b:aE)(lo hi:Option Int)(c:aB)(Q:aP),Inv X U Y H s->cE x v->s.heap.IsSliceOf c a b .none->J8 a lo->J8 b hi->r x lo hi H Q ->
  ∃T id,r0 (.type T) "__getitem__"=pure (Z (.builtin id))/\s.TypeIs v T/\aU (aW X.prog X.w) X.A (J6 v (.ref c)) (fX X U Y Q) X.xe s
abbrev Vy (r:V->Option Int->Option Int->aC->aP->Prop) (Q:aP) (x:V) (l:Option Int):Option Int->aC->Prop:=λu a=>r x l u a Q
abbrev Vz (r:V->Option Int->Option Int->aC->aP->Prop) (th:TO) (Y:St) (Q:aP) (x:V):Option Int->aC->Prop:=λl H2=>th Y H2 (Vy r Q x l)
abbrev Wo (r:V->Option Int->Option Int->aC->aP->Prop) (B th:TO) (Y:St) (Q:aP):aP:=λx z=>B Y z (Vz r th Y Q x)
def Xk(r:V->Option Int->Option Int->aC->aP->Prop)(te:bF)(B th:TO):bF:=λY H Q=>te Y H (Wo r B th Y Q)
def qi(g:wJ X r)(i:bL X e te)(j:r7 X lo B)(k:r7 X hi th):bL X (.Subscript e (.Slice lo hi aF p2) pos) (Xk r te B th):=by
 refine⟨?_⟩
 intro U s Y H Q I h
 refine Subscript_ (bT (i U s Y H _ I h) fun v s1 z'=>?_);obtain⟨x,z,m,n,o⟩:=z'
 refine wpAny_Slice (bT (j U s1 Y z _ m o) fun c p z'=>?_);obtain⟨l,H2,t,pl,w⟩:=z';refine bT (k U p Y H2 _ t w) fun d a z'=>?_;obtain⟨u,f,y,pu,A⟩:=z'
 rw[evalPart_none]
 refine bN ?_
 have C:Inv X U Y f { a with heap:=a.heap.push { cls:=.type "slice",data:=.fields #[c,d,.none] } }:=y.kept (t':=a.toks) fun b J q=>cZ _ q
 obtain⟨T,id,D,E,G⟩:=g U { a with heap:=a.heap.push { cls:=.type "slice",data:=.fields #[c,d,.none] } } Y f x v c d l u a.heap.objs.size Q C n (bH.IsSliceOf.new ..) pl pu A
 show aU (aW X.prog X.w) X.A (J7 e (.Slice lo hi aF p2) v (.ref a.heap.objs.size)) (fX X U Y Q) X.xe { a with heap:=a.heap.push { cls:=.type "slice",data:=.fields #[c,d,.none] } }
 exact tail_any (ops:=[.ref a.heap.objs.size,v]) E D G (by with_unfolding_all rfl)
noncomputable def sC(xs:M0)(lo hi:Option Int):M0:=(xs.drop (F4 xs.length 0 lo)).take (F4 xs.length xs.length hi-F4 xs.length 0 lo)
def NT(xs:M0)(lo hi:Option Int):(sC xs lo hi).length<=xs.length:=by
 unfold sC;rw[dY,o6];omega
inductive xO(K:bJ)(x:V)(lo hi:Option Int)(H:aC)(Q:aP):Prop
 |mk:∀a xs,x=.ref a->bE K H a xs->(¬(F4 xs.length 0 lo=0/\F4 xs.length xs.length hi=xs.length))->(∀p,H p=aF->Q (.ref p) (aI H p (.tup (sC xs lo hi))))->xO K x lo hi H Q
def Tg:wJ X (xO X.K):=by
 intro U s Y H x v l m lo hi n Q I f g pl pu h;obtain⟨a,xs,rfl,i,j,q⟩:=h;cases f;obtain⟨k,r,d,e⟩:=I.tuple i;have c:k.toArray.size=xs.length:=by rw[eN];exact r.length.symm
 refine⟨"tuple",_,yt.lookup,d.typeIs,HT.Ys d g pl pu (by rw[c];exact j) ?_ (by rw[c];exact e)⟩;rw[c];refine⟨.ref s.heap.objs.size,_,I.laid (t':=s.toks) (o:=.tup (sC xs lo hi)) (λb p q=>cZ _ q) (bQ _) ?_,O,q _ (I.hok.fresh (bQ _))⟩;exact⟨dN (NT xs lo hi) e,_,(r.drop (F4 xs.length 0 lo)).take (F4 xs.length xs.length hi-F4 xs.length 0 lo),qz.new _ _⟩
inductive WN(K:bJ)(x y:V)(H:aC)(Q:aP):Prop
 |mk:∀a b ns ms,x=.ref a->y=.ref b->bE K H a (ns.map D1)->bE K H b (ms.map D1)->Q (.bl (G6 ns ms)) H->WN K x y H Q
inductive AS(K:bJ)(x y:V)(H:aC)(Q:aP):Prop
 |mk:∀a b xs ys,x=.ref a->y=.ref b->bE K H a xs->bE K H b ys->xs≠[]->xs.length+ys.length<=cP->((ys=[]->Q (.ref a) H))->((ys≠[]->∀p,H p=aF->Q (.ref p) (aI H p (.tup (xs++ys)))))->AS K x y H Q
def cA.nil_iff(r:cA xs us):us=[]↔xs=[]:=by
 cases r with
 |nil=>simp
 |cons _ _=>simp
def RZ:fS X (mz .Add) (AS X.K):=by
 intro U s Y H x y v u Q I g i h;obtain⟨a,b,xs,ys,rfl,rfl,j,k,l,f,m,n⟩:=h;cases g;cases i;obtain⟨p,e,D,_⟩:=I.tuple j;obtain⟨r,d,p2,_⟩:=I.tuple k;refine HT.Ym D p2 (λc=>l (e.nil_iff.mp c)) (λc=>⟨.ref a,H,I,O,m (d.nil_iff.mp c)⟩) (λc=>?_) (by rw[←e.length,←d.length];exact f);refine⟨.ref s.heap.objs.size,_,I.laid (t':=s.toks) (o:=.tup (xs++ys)) (λb t q=>cZ _ q) (bQ _) ?_,O,n (λw=>c (d.nil_iff.mpr w)) _ (I.hok.fresh (bQ _))⟩;exact⟨by rw[eW];exact f,_,e.append d,qz.new _ _⟩
end
noncomputable def pA(n:Nat)(i:Int):Option Nat:=if 0<=i then(if i<n then Z i.toNat else aF) else if -(n:Int)<=i then Z (i+n).toNat else aF
def lZ{q:Type}(xs:List q)(i:Int):Option q:=(pA xs.length i).bind λj=>xs[j]?
def Sl(h:pA n i=Z j):seqIndex? i n=Z j/\j<n/\-(n:Int)<=i/\i<n:=by
 unfold pA at h;by_cases a:0<=i
 .rw[B4 a]at h;by_cases h1:i<n
  .rw[B4 h1]at h;have e:i.toNat=j:=eA h;exact⟨by rw[seqIndex_of a h1,e],YT,YT,h1⟩
  .rw[B3 h1]at h;cases h
 .rw[B3 a]at h;by_cases h1:-(n:Int)<=i
  .rw[B4 h1]at h;have e:(i+n).toNat=j:=eA h;exact⟨by rw[seqIndex_neg YT h1,e],YT,h1,YT⟩
  .rw[B3 h1]at h;cases h
def zS{q:Type}{xs:List q}{i:Int}{v:q}(h:lZ xs i=Z v):∃j,seqIndex? i xs.length=Z j/\xs[j]?=Z v/\j<xs.length/\-(xs.length:Int)<=i/\i<xs.length:=by
 unfold lZ at h;cases e:pA xs.length i with
 |none=>rw[e]at h;cases h
 |some j=>
  rw[e]at h;obtain⟨h1,h2,a,b⟩:=Sl e;exact⟨j,h1,h,h2,a,b⟩
def bZ{q:Type}{xs:List q}{j:Nat}{v:q}(h:xs[j]?=Z v):lZ xs (j:Int)=Z v:=by
 have a:j<xs.length:=(cR.mp h).1;have e:pA xs.length (j:Int)=Z j:=by
  unfold pA;rw[B4 YT,B4 YT];simp
 unfold lZ;rw[e];exact h
def Rh{q:Type}(xs:List q)(v:q):lZ (xs++[v]) (-1)=Z v:=by
 have a:(xs++[v]).length=xs.length+1:=by simp
 have e:pA (xs++[v]).length (-1)=Z xs.length:=by
  unfold pA;rw[a,B3 YR,B4 YT];congr 1;omega
 unfold lZ;rw[e];show(xs++[v])[xs.length]?=Z v;simp
def SI(b:bI):Prop:=∀o i,wB b aK o i=operate [o,i] (J6 o i)
def r3(X:aX)(r:R2):Prop:=
 ∀(value slice:bI)(U:List (aB×aZ))(s:aJ)(Y:St)(H:aC)(x y:V)(v u:aE)(Q:aP),Inv X U Y H s->cE x v->cE y u->r x y H Q ->
  wB slice aK v u=operate [v,u] (J6 v u)->aU (aW X.prog X.w) X.A (J7 value slice v u) (fX X U Y Q) X.xe s
def r5(X:aX)(id:String)(r:V->M0->aC->aP->Prop):Prop:=
 ∀(U:List (aB×aZ))(s:aJ)(Y:St)(H:aC)(x:V)(xs:M0)(v:aE)(us:M4)(Q:aP),Inv X U Y H s->cE x v->cA xs us->r x xs H Q ->
  aU (aW X.prog X.w) X.A (call (.builtin id) (v::us)) (fX X U Y Q) X.xe s
section
variable{X:aX}{a b:bI}{M tb:bF}{pos:Pos}
def iO(c:r3 X r)(d:bL X a M)(e:bL X b tb)(f:SI b):bL X (.Subscript a b pos) (vh r M tb):=.mk λU s Y H Q I h=>by
 exact Subscript_ (Ar d e I h λv u g x y H2 i j k q=>c a b U g Y H2 x y v u Q i j k q (f _ _))
inductive AT(K:bJ)(x y:V)(H:aC)(Q:aP):Prop
 |mk:∀p xs i v,x=.ref p->y=.int i->aQ K H p xs->lZ xs i=Z v->Q v H->AT K x y H Q
inductive xM(K:bJ)(x y:V)(H:aC)(Q:aP):Prop
 |mk:∀p xs i v,x=.ref p->y=.int i->bE K H p xs->lZ xs i=Z v->Q v H->xM K x y H Q
inductive Jc(x y:V)(H:aC)(Q:aP):Prop
 |mk:∀z i c,x=.str z->y=.int i->z.length<=cP->lZ z.cps.toList i=Z c->Q (.str ⟨#[c]⟩) H->Jc x y H Q
def Sk:r3 X (AT X.K):=by
 intro value slice U s Y H x y v u Q I f g h b;obtain⟨p,xs,i,k,rfl,rfl,l,m,q⟩:=h;cases f;obtain⟨t,rfl⟩:=g;obtain⟨n,r,pl,C⟩:=I.list l;obtain⟨j,h1,h2,D,o,z⟩:=zS m;obtain⟨w,c,A⟩:=r.get h2;have B:=r.length;have hn:=uo;have d:fX X U Y Q w s:=⟨k,H,I,A,q⟩
 by_cases e:0<=i
 .have a:i.toNat=j:=by
   rw[seqIndex_of e z]at h1;exact eA h1
  exact item_listR pl.isList e YT (by rw[a];simpa using c) d b
 .have a:(i+(n.toArray.size:Int)).toNat=j:=by
   rw[seqIndex_neg YT o]at h1;rw[eN,←B];exact eA h1
  exact KM (x:=w) pl.isList.typeIs slot_list_getitem.lookup
   (wpAny_getItem_list_neg (Q:=λr L=>r=w/\fX X U Y Q r L) pl.isList YT (by rw[eN]<;>omega) YT (by rw[a];simpa using c) ⟨O,d⟩) b
def TU:r3 X (xM X.K):=by
 intro value slice U s Y H x y v u Q I a b h c;obtain⟨p,xs,i,d,rfl,rfl,e,f,q⟩:=h;cases a;obtain⟨t,rfl⟩:=b;obtain⟨n,r,pl,o⟩:=I.tuple e;obtain⟨j,h1,h2,z,A,B⟩:=zS f;obtain⟨w,g,k⟩:=r.get h2;have l:=r.length;have hn:=uo;have m:fX X U Y Q w s:=⟨d,H,I,k,q⟩
 exact KM (x:=w) pl.typeIs slot_tuple_getitem.lookup
  (getItem_tuple (j:=j) (Q:=λr L=>r=w/\fX X U Y Q r L) pl YT YT (by rw[eN,←l];exact h1) (by simpa using g) ⟨O,m⟩) c
def GC:r3 X Jc:=by
 intro value slice U s Y H x y v u Q I b d h e;obtain⟨a,i,c,rfl,rfl,o,f,q⟩:=h;obtain⟨t,rfl⟩:=b;obtain⟨t',rfl⟩:=d;obtain⟨j,h1,h2,p,g,k⟩:=zS f;have l:a.cps.toList.length=a.length:=by simp[aA.length]
 rw[l]at h1 g k;have hn:=uo;exact tail_any (typeIs_str s a t) slot_str_getitem.lookup (getItem_str (c:=c) (by
  have m:G9 (i < -(2^63:Int))=aK:=B1 YT;have n:G9 (i>=2^63)=aK:=B1 YT;rw[m,n,Bool.or_false]) (by rw[h1];simpa using h2) ⟨.str ⟨#[c]⟩,H,I.tok _,⟨_,O⟩,q⟩) e
inductive WT(o i v:V)(H:aC)(Q:aC->Prop):Prop
 |mk:∀p xs k j,o=.ref p->i=.int k->H p=Z (.lst xs)->pA xs.length k=Z j->Q (aI H p (.lst (xs.set j v)))->WT o i v H Q
inductive WU(K:bJ)(x:V)(lo hi:Option Int)(H:aC)(Q:aP):Prop
 |mk:∀a xs,x=.ref a->aQ K H a xs->(∀p,H p=aF->Q (.ref p) (aI H p (.lst (sC xs lo hi))))->WU K x lo hi H Q
noncomputable def pL:V->Bool
 |.non=>aD
 |.bl _=>aD
 |.int _=>aD
 |.str _=>aD
 |_=>aK
noncomputable def qd:V->V->Bool
 |.non,.non=>aD
 |.bl a,.bl b=>a==b
 |.bl a,.int b=>(if a then 1 else 0)==b
 |.int a,.bl b=>a==(if b then 1 else 0)
 |.int a,.int b=>a==b
 |.str a,.str b=>a==b
 |_,_=>aK
def pE(d:cE y u)(c:cE x v)(f:pL y=aD)(e:pL x=aD):kv A s u v (qd y x):=by
 cases y with
 |non=>
  cases d;cases x with
  |non=>cases c;exact kv.same _
  |bl b=>cases c;exact kv.none_bool b
  |int b=>obtain⟨t,rfl⟩:=c;exact kv.none_int b t
  |str b=>obtain⟨t,rfl⟩:=c;exact kv.none_str b t
  |_=>exact B6 (show aK=aD from e) fQ
 |bl a=>
  cases d;cases x with
  |non=>cases c;exact kv.bool_none a
  |bl b=>cases c;exact kv.bool_bool a b
  |int b=>obtain⟨t,rfl⟩:=c;exact kv.bool_int a b t
  |str b=>obtain⟨t,rfl⟩:=c;exact kv.bool_str a b t
  |_=>exact B6 (show aK=aD from e) fQ
 |int a=>
  obtain⟨t',rfl⟩:=d;cases x with
  |non=>cases c;exact kv.int_none a t'
  |bl b=>cases c;exact kv.int_bool a t' b
  |int b=>obtain⟨t,rfl⟩:=c;exact kv.int_int a t' b t
  |str b=>obtain⟨t,rfl⟩:=c;exact kv.int_str a t' b t
  |_=>exact B6 (show aK=aD from e) fQ
 |str a=>
  obtain⟨t',rfl⟩:=d;cases x with
  |non=>cases c;exact kv.str_none a t'
  |bl b=>cases c;exact kv.str_bool a t' b
  |int b=>obtain⟨t,rfl⟩:=c;exact kv.str_int a t' b t
  |str b=>obtain⟨t,rfl⟩:=c;exact kv.str_str a t' b t
  |_=>exact B6 (show aK=aD from e) fQ
 |_=>exact B6 (show aK=aD from f) fQ
def mh(x:V)(u:aE):Bool:=match u with
 |.none=>qd .non x
 |.bool b=>qd (.bl b) x
 |.int i _=>qd (.int i) x
 |.str a _=>qd (.str a) x
 |_=>aK
def GK(r:cE y u)(f:pL y=aD):mh x u=qd y x:=by
 cases y with
 |non=>cases r;rfl
 |bl b=>cases r;rfl
 |int i=>obtain⟨t,rfl⟩:=r;rfl
 |str a=>obtain⟨t,rfl⟩:=r;rfl
 |_=>exact B6 (show aK=aD from f) fQ
theorem vp:∀{xs:M0} {us:M4},cA xs us->xs.all pL=aD->us.any (mh x)=xs.any λy=>qd y x
 |_,_,.nil,_=>rfl
 |y::xs,u::us,.cons r t,f=>by
  rw[rP,fM]at f;rw[tU,tU,GK r f.1,vp t f.2]
theorem u6(b:cE x v)(c:pL x=aD):∀{xs:M0} {us:M4},cA xs us->xs.all pL=aD->∀u∈us,kv A s u v (mh x u)
 |_,_,.nil,_=>λu a=>by cases a
 |y::xs,u::us,.cons r t,f=>λd a=>by
  rw[rP,fM]at f;rcases dW.mp a with rfl|a
  .rw[GK r f.1];exact pE r b f.1 c
  .exact u6 b c t f.2 d a
def sO(x:V)(xs:M0):Bool:=xs.any λy=>qd y x
inductive ve(K:bJ)(neg:Bool)(x y:V)(H:aC)(Q:aP):Prop
 |mk:∀p xs,y=.ref p->((aQ K H p xs\/bE K H p xs))->pL x=aD->xs.all pL=aD->Q (.bl (if neg then !sO x xs else sO x xs)) H->ve K neg x y H Q
def PA:fS X (iU .In) (ve X.K aK):=by
 intro U s Y H x y v u Q I d f h;obtain⟨p,xs,rfl,a,e,fs,q⟩:=h;cases f;rcases a with a|a
 .obtain⟨b,r,pl,g⟩:=I.list a;refine SeqAt.in_listAt (mh x) pl.isList (λw c=>u6 d e r fs w (by simpa using c)) ⟨.bl _,H,I,O,?_⟩;rw[show b.toArray.any (mh x)=b.any (mh x) by simp,vp r fs];exact q
 .obtain⟨b,r,pl,g⟩:=I.tuple a;refine SeqAt.in_tupleAt (mh x) pl (λw c=>u6 d e r fs w (by simpa using c)) ⟨.bl _,H,I,O,?_⟩;rw[show b.toArray.any (mh x)=b.any (mh x) by simp,vp r fs];exact q
def Nk:fS X (iU .NotIn) (ve X.K aD):=by
 intro U s Y H x y v u Q I d f h;obtain⟨p,xs,rfl,a,e,fs,q⟩:=h;cases f;rcases a with a|a
 .obtain⟨b,r,pl,g⟩:=I.list a;refine SeqAt.notIn_listAt (mh x) pl.isList (λw c=>u6 d e r fs w (by simpa using c)) ⟨.bl _,H,I,O,?_⟩;rw[show b.toArray.any (mh x)=b.any (mh x) by simp,vp r fs];exact q
 .obtain⟨b,r,pl,g⟩:=I.tuple a;refine SeqAt.notIn_tupleAt (mh x) pl (λw c=>u6 d e r fs w (by simpa using c)) ⟨.bl _,H,I,O,?_⟩;rw[show b.toArray.any (mh x)=b.any (mh x) by simp,vp r fs];exact q
def Ny:jD X (.builtin "len") (λxs H Q=>∃p ys,xs=[.ref p]/\(aQ X.K H p ys\/bE X.K H p ys)/\Q (.int ys.length) H):=by
 intro U s Y H xs us Q I r h;obtain⟨p,ys,rfl,a,q⟩:=h;obtain⟨u,rfl,d⟩:=se r;cases d;have hn:=uo;rcases a with a|a
 .obtain⟨e,b,pl,f⟩:=I.list a;have c:=b.length;exact Calls.call_len_list pl.isList (by simp only[eN]<;>omega) ⟨.int ys.length,H,I.tok _,⟨s.toks+1,by rw[eN,c]⟩,q⟩
 .obtain⟨e,b,pl,f⟩:=I.tuple a;have c:=b.length;exact len_tuple pl (by simp only[eN]<;>omega) ⟨.int ys.length,H,I.tok _,⟨s.toks+1,by rw[eN,c]⟩,q⟩
def Nx:jD X (.builtin "len") (λxs H Q=>∃a,xs=[.str a]/\a.length<=cP/\Q (.int a.length) H):=by
 intro U s Y H xs us Q I r h;obtain⟨a,rfl,b,q⟩:=h;obtain⟨u,rfl,t,rfl⟩:=se r;have hn:=uo;exact len_str YT ⟨.int a.length,H,I.tok _,⟨_,O⟩,q⟩
def Nw:jD X (.type "list") (λxs H Q=>∃p ys,xs=[.ref p]/\(aQ X.K H p ys\/bE X.K H p ys)/\∀l,H l=aF->Q (.ref l) (aI H l (.lst ys))):=by
 intro U s Y H xs us Q I r h;obtain⟨p,ys,rfl,d,q⟩:=h;obtain⟨u,rfl,m⟩:=se r;cases m;have k:∀(a:M4),cA ys a->ys.length<=cP->∀(h':bH)(c':Nat),(∀b o',s.heap.get? b=Z o'->h'.get? b=Z o') ->
   h'.get? s.heap.objs.size=Z {cls:=.type "list",dict:=aF,data:=.seq a.toArray c',slots:=#[]}->fX X U Y Q (.ref s.heap.objs.size) {s with heap:=h'}:=λa c f h' c' kp e=>
  ⟨.ref s.heap.objs.size,_,I.laid (t':=s.toks) kp (bQ _) (show dQ X.prog X.w _ h' _ (.lst ys) from⟨f,a,c',c,e⟩),O,q _ (I.hok.fresh (bQ _))⟩
 rcases d with d|d
 .obtain⟨a,c,pl,f⟩:=I.list d;have t:=c.length;obtain⟨o,g,i,n,j⟩:=pl.isList;exact call_list_seq p YU g i j (λh' c' kp e=>k a c f h' c' kp e) (by simp only[eN]<;>omega)
 .obtain⟨a,c,pl,f⟩:=I.tuple d;have t:=c.length;obtain⟨o,g,i,n,j⟩:=pl;exact call_list_seq p (.inr O) g i j (λh' c' kp e=>k a c f h' c' kp e) (by simp only[eN]<;>omega)
def JA:jD X (.type "tuple") (λxs H Q=>∃p ys,xs=[.ref p]/\((aQ X.K H p ys/\∀l,H l=aF->Q (.ref l) (aI H l (.tup ys)))\/(bE X.K H p ys/\Q (.ref p) H))):=by
 intro U s Y H xs us Q I r h;obtain⟨p,ys,rfl,h⟩:=h;obtain⟨u,rfl,i⟩:=se r;cases i;rcases h with ⟨a,q⟩|⟨a,q⟩
 .obtain⟨c,d,pl,f⟩:=I.list a;have k:=d.length;refine call_tuple_list pl.isList (λh' kp=>?_) (by simp only[eN]<;>omega);have g:Inv X U Y H {s with heap:=h'}:=I.kept (t':=s.toks) kp;have j:Inv X U Y (aI H h'.objs.size (.tup ys)) {s with heap:=h'.push {cls:=.type "tuple",data:=.seq c.toArray}}:=
   g.laid (t':=s.toks) (λb o e=>cZ _ e) (bQ _) (show dQ X.prog X.w _ _ _ (.tup ys) from⟨f,c,d,qz.new _ _⟩)
  exact⟨.ref h'.objs.size,_,j,O,q _ (g.hok.fresh (bQ _))⟩
 .obtain⟨c,d,pl,f⟩:=I.tuple a;exact call_tuple_same pl ⟨.ref p,H,I,O,q⟩
def Bi(K:bJ)(T:String)(x:V)(H:aC):Prop:=match x with
 |.str _=>T="str"
 |.int _=>T="int"
 |.ref p=>(T="list"/\∃xs,aQ K H p xs)\/(T="tuple"/\∃o,K.lookup p=Z o/\o.cls=.type "tuple"/\o.dict=aF) \/
   (T="dict"/\((∃J,H p=Z (.dK J))\/∃J,H p=Z (.dT J)))\/(T="set"/\∃S n,H p=Z (.set S n))\/(T="tuple"/\∃xs,H p=Z (.tup xs))
 |_=>False
def FS(I:Inv X U Y H s)(r:cE x v)(ty:Bi X.K T x H) :
  s.TypeIs v T/\∀a,v=.ref a->∃j,s.heap.get? a=Z j/\j.dict=aF:=by
 cases x with
 |str g=>
  obtain⟨t,rfl⟩:=r;cases(show T="str" from ty);exact⟨typeIs_str s g t,λ_ e=>nomatch e⟩
 |int i=>
  obtain⟨t,rfl⟩:=r;cases(show T="int" from ty);exact⟨typeIs_int s i t,λ_ e=>nomatch e⟩
 |ref p=>
  cases r;rcases ty with ⟨rfl,xs,k⟩|⟨rfl,o,b,h,d⟩|⟨rfl,b⟩|⟨rfl,S,n,b⟩|⟨rfl,xs,b⟩
  .obtain⟨l,_,pl,_⟩:=I.list k;refine⟨pl.isList.typeIs,λa e=>?_⟩;cases e;obtain⟨o,n,e,c,d,_⟩:=pl;exact⟨o,e,d⟩
  .refine⟨⟨o,I.kIn p o b,h⟩,λa e=>?_⟩;cases e;exact⟨o,I.kIn _ o b,d⟩
  .have g:∃o,s.heap.get? p=Z o/\o.ExactDict:=by
    rcases b with ⟨J,b⟩|⟨J,b⟩
    .obtain⟨_,_,_,_,o,_,_,e,ex,_⟩:=I.hok p _ b;exact⟨o,e,ex⟩
    .obtain⟨_,_,_,_,o,_,_,e,ex,_⟩:=I.hok p _ b;exact⟨o,e,ex⟩
   obtain⟨o,e,ex⟩:=g;refine⟨⟨o,e,ex.1⟩,λa f=>?_⟩;cases f;exact⟨o,e,ex.2.1⟩
  .obtain⟨o,_,_,_,e,ex,_⟩:=I.hok p _ b;refine⟨⟨o,e,ex.1⟩,λa f=>?_⟩;cases f;exact⟨o,e,ex.2.1⟩
  .obtain⟨_,_,_,o,e,h,_,_,d⟩:=(show dQ X.prog X.w H s.heap p (.tup xs) from I.hok p _ b)
   refine⟨⟨o,e,h⟩,λa f=>?_⟩;cases f;exact⟨o,e,d⟩
 |_=>exact gH ty
abbrev VK (K:bJ) (T:String) (r:V->M0->aC->aP->Prop) (Q:aP):aP:=λx z=>Bi K T x z/\r x [] z Q
def Vn(K:bJ)(T:String)(r:V->M0->aC->aP->Prop)(to:bF):bF:=λY H Q=>to Y H (VK K T r Q)
abbrev VJ (r:V->M0->aC->aP->Prop) (Q:aP) (x:V):M0->aC->Prop:=λxs H2=>r x xs H2 Q
abbrev Wh (K:bJ) (T:String) (r:V->M0->aC->aP->Prop) (t:eZ) (Y:St) (Q:aP):aP:=λx z=>Bi K T x z/\t Y z (VJ r Q x)
def Xe(K:bJ)(T:String)(r:V->M0->aC->aP->Prop)(to:bF)(t:eZ):bF:=λY H Q=>to Y H (Wh K T r t Y Q)
variable{o e:bI}{es:List bI}{to:bF}{t:eZ}{name:aA}{i c:Pos}{T id:String}{r:V->M0->aC->aP->Prop}
def z0(d:PlainAttrs T)(e:Slot T name id)(f:typeOf (.builtin id)=pure (.type "method_descriptor"))(hm:r5 X id r)(g:bL X o to)
 (j:qS o name X.env (H5 o X.env)=H5 o X.env:=by rfl)(k:(i.endLine==c.line)=aD:=by rfl):bL X (.Call (.Attribute o name i) [] [] c) (Vn X.K T r to):=.mk λU s Y H Q I h=>by
 refine K0 j k (bT (g U s Y H _ I h) λv s1 z'=>?_);obtain⟨x,z,a,b,ty,l⟩:=z';obtain⟨h1,h2⟩:=FS a b ty;exact⟨T,id,d,e,f,h1,h2,rC O (PySem.evalArgs_none (hm U s1 Y z x [] v [] Q a b .nil l))⟩
def lS(f:PlainAttrs T)(g:Slot T name id)(j:typeOf (.builtin id)=pure (.type "method_descriptor"))(hm:r5 X id r)(k:bL X o to)(l:iA X (e::es) t)
 (m:qS o name X.env (H5 o X.env)=H5 o X.env:=by rfl)
 (n:((H8 c (cN (e::es) X.env)).all (λx=>!x.1)&&(mR c (mO [] X.env)).all (λx=>x.1.isSome)
   && G9 ((e::es).length+([]:List J0).length+(if ([]:List J0).isEmpty then 0 else 1)<30))=aD:=by rfl)
 (p:(i.endLine==c.line)=aD:=by rfl)(q:cN (e::es) X.env=(aK,H5 e X.env)::cN es X.env:=by rfl)(u:(H8 c (cN es X.env)).any (·.1)=aK:=by rfl) :
  bL X (.Call (.Attribute o name i) (e::es) [] c) (Xe X.K T r to t):=.mk λU s Y H Q I h=>by
 refine wpAny_Call_method_late m n p O (bT (k U s Y H _ I h) λv s1 z'=>?_);obtain⟨x,z,a,b,ty,w⟩:=z';obtain⟨h1,h2⟩:=FS a b ty;refine⟨T,id,f,g,j,h1,h2,?_⟩;have d:=l c U s1 Y z _ a w;rw[q]at d ⊢;refine rC (by show(aK||(H8 c (cN es X.env)).any (·.1))=aK;rw[u]<;>rfl) (rF ?_);refine bT d λus y z'=>?_;obtain⟨vs,H2,A,B,C⟩:=z';exact hm U y Y H2 x vs v us Q A b B C
end
def BU(X:aX)(id:String)(r:V->M0->aC->aP->Prop):Prop:=
 ∀(U:List (aB×aZ))(s:aJ)(Y:St)(H:aC)(x:V)(xs:M0)(v:aE)(us:M4)(Q:aP),Inv X U Y H s->cE x v->cA xs us->r x xs H Q ->
  aU (aW X.prog X.w) X.A (call (.builtin id) (v::us)) (fX X U Y Q) X.xe s
theorem cA.one:∀{x:V} {us:M4},cA [x] us->∃u,us=[u]/\cE x u:=λh=>by
 cases h with
 |cons r h=>
  cases h;exact⟨_,O,r⟩
theorem cA.two:∀{x y:V} {us:M4},cA [x,y] us->∃u v,us=[u,v]/\cE x u/\cE y v:=λh=>by
 cases h with
 |cons r h=>
  cases h with
  |cons q h=>
   cases h;exact⟨_,_,O,r,q⟩
theorem cA.zero:∀{us:M4},cA [] us->us=[]
 |_,.nil=>rfl
theorem cA.eraseIdx:∀{xs:M0} {us:M4} (i:Nat),cA xs us->cA (xs.eraseIdx i) (us.eraseIdx i)
 |_,_,_,.nil=>.nil
 |_,_,0,.cons _ t=>t
 |_,_,i+1,.cons r t=>.cons r (cA.eraseIdx i t)
theorem De{q:Type}:∀(l:List q)(i:Nat),(l.eraseIdx i).length<=l.length
 |[],_=>bQ _
 |_::_,0=>nO _
 |_::r,i+1=>Nat.succ_le_succ (De r i)
section
variable{X:aX}{U:List (aB×aZ)}{Y:St}{H:aC}{s:aJ}{l b:aB}{xs ys zs:M0}
def Inv.lset{a its':M4}{n:Nat}{f:Array aE->Array aE}{t':Nat}(I:Inv X U Y H s)(b:H l=Z (.lst xs))
 (e:s.heap.get? l=Z {cls:=.type "list",data:=.seq a.toArray n})(c:f a.toArray=its'.toArray)(d:cA ys its')(g:ys.length<=cP) :
  Inv X U Y (aI H l (.lst ys)) {s with heap:=s.heap.update l (iT f),toks:=t'}:=by
 have q:=PySem.IsL.update e f;rw[c]at q;exact I.write (x:=l) (e:=l) (by rw[b];exact trivial) YU (λj u h i=>(lU s.heap (iT f) (D4 h)).trans i) ⟨_,q⟩ ⟨g,its',_,d,q⟩
def Inv.lnew(I:Inv X U Y H s)(b:cA ys a)(c:ys.length<=cP) :
  Inv X U Y (aI H s.heap.objs.size (.lst ys)) {s with heap:=s.heap.push {cls:=.type "list",data:=.seq a.toArray},toks:=t'}:=
 I.laid (λ_ _ q=>cZ _ q) (bQ _) ⟨c,a,0,b,fP _ O⟩
def Inv.fresh(I:Inv X U Y H s):H s.heap.objs.size=aF:=I.hok.fresh (bQ _)
def Inv.lstM(I:Inv X U Y H s)(b:H l=Z (.lst xs)):xs.length<=cP/\∃(a:M4)(n:Nat),cA xs a/\xs.length=a.length/\s.heap.get? l=Z {cls:=.type "list",data:=.seq a.toArray n}:=by
 obtain⟨c,a,n,r,e⟩:=I.hok l _ b;exact⟨c,a,n,r,r.length,e⟩
end
section
variable{X:aX}
inductive Ja(x:V)(vs:M0)(H:aC)(Q:aP):Prop
 |mk:∀l xs y,x=.ref l->vs=[y]->H l=Z (.lst xs)->xs.length<cP->Q .non (aI H l (.lst (xs++[y])))->Ja x vs H Q
def mC:BU X "list.append" Ja:=by
 intro U s Y H x vs v us Q I c d h
 obtain⟨l,xs,y,rfl,rfl,a,g,q⟩:=h
 cases c
 obtain⟨u,rfl,f⟩:=d.one
 obtain⟨i,b,n,r,j,e⟩:=I.lstM a
 refine call_meets F.slot_list_append ⟨_,e,O⟩ F.entry_list_append (F.args_list_append_2 _ _) (PySem.list_append l b.toArray n u (by rw[eN];omega)) ⟨e,?_⟩
 refine⟨.non,_,I.lset (its':=b++[u]) a e (by simp) (r.append (.cons f .nil)) ?_,O,q⟩
 rw[eW,lV]
 omega
inductive WJ(x:V)(vs:M0)(H:aC)(Q:aP):Prop
 |mk:∀l b xs zs,x=.ref l->vs=[.ref b]->H l=Z (.lst xs)->H b=Z (.lst zs)->xs.length+zs.length<=cP->Q .non (aI H l (.lst (xs++zs)))->WJ x vs H Q
inductive WQ(x:V)(vs:M0)(H:aC)(Q:aP):Prop
 |mk:∀l xs y,x=.ref l->vs=[]->H l=Z (.lst xs)->xs[xs.length-1]?=Z y->Q y (aI H l (.lst xs.dropLast))->WQ x vs H Q
inductive Jg(x:V)(vs:M0)(H:aC)(Q:aP):Prop
 |mk:∀l xs i k y,x=.ref l->vs=[.int i]->H l=Z (.lst xs)->-(2^63)<=i->i<2^63->seqIndex? i xs.length=Z k->xs[k]?=Z y->Q y (aI H l (.lst (xs.eraseIdx k)))->Jg x vs H Q
def Ey:BU X "list.pop" Jg:=by
 intro U s Y H x vs v us Q I c d h
 obtain⟨l,xs,i,k,y,rfl,rfl,b,h1,h2,f,g,q⟩:=h
 cases c
 obtain⟨u,rfl,j⟩:=d.one
 obtain⟨t,rfl⟩:=j
 obtain⟨z,a,n,r,m,e⟩:=I.lstM b
 obtain⟨w,o,p⟩:=r.get g
 refine call_meets F.slot_list_pop ⟨_,e,O⟩ F.entry_list_pop (F.args_list_pop_2 _ _)
  (MeetsSeq.list_pop_at l a.toArray n i t k w (fitsIndex_both h1 h2) (by rw[eN,← m];exact f) (by rw[← rE];exact o) (by rw[eN];omega)) ⟨e,?_⟩
 refine⟨y,_,I.lset (its':=a.eraseIdx k) b e ?_ (r.eraseIdx k) ?_,p,q⟩
 ·show a.toArray.eraseIdxIfInBounds k=(a.eraseIdx k).toArray
  rw[List.eraseIdxIfInBounds_toArray]
 ·have:=De xs k
  omega
inductive WS(x:V)(vs:M0)(H:aC)(Q:aP):Prop
 |mk:∀l xs,x=.ref l->vs=[]->H l=Z (.lst xs)->Q .non (aI H l (.lst xs.reverse))->WS x vs H Q
inductive WH(x:V)(vs:M0)(H:aC)(Q:aP):Prop
 |mk:∀l xs,x=.ref l->vs=[]->H l=Z (.lst xs)->Q .non (aI H l (.lst []))->WH x vs H Q
inductive Jb(x y:V)(H:aC)(Q:aP):Prop
 |mk:∀l b xs zs,x=.ref l->y=.ref b->H l=Z (.lst xs)->H b=Z (.lst zs)->xs.length+zs.length<=cP->(∀p,H p=aF->Q (.ref p) (aI H p (.lst (xs++zs))))->Jb x y H Q
def tf:fS X (mz .Add) Jb:=by
 intro U s Y H x y v u Q I d f h;obtain⟨l,b,xs,zs,rfl,rfl,g,i,m,q⟩:=h;cases d;cases f;obtain⟨o,a,n,r,p,e⟩:=I.lstM g;obtain⟨t,c,w,j,z,k⟩:=I.lstM i;refine PySem.P.add_list e k ?_ (by rw[eN,eN];omega);have ea:a.toArray++c.toArray=(a++c).toArray:=by simp
 rw[ea];exact⟨.ref _,_,I.lnew (t':=s.toks) (r.append j) (by rw[eW];omega),O,q _ I.fresh⟩
inductive WR(x y:V)(H:aC)(Q:aP):Prop
 |mk:∀l k xs,x=.ref l->y=.int k->H l=Z (.lst xs)->-(2^63)<=k->k<2^63->xs.length*k.toNat<=cP->(∀p,H p=aF->Q (.ref p) (aI H p (.lst (wm k.toNat xs).flatten)))->WR x y H Q
end
end L2
open L2.cA renaming one→F3
namespace Att
open PySem PySem.W PySem.Calls PyProof.Rows
def XR:∀(ns:M6)(vs:M4),WellAll P h vs (ns.map WData.int)->J9 vs ns:=by
 intro ns
 induction ns with
 |nil=>
  intro vs w;rw[mu]at w;cases w;exact .nil
 |cons n ns c=>
  intro vs w;rw[dD]at w;cases w with
  |cons a b=>
   cases a;exact .cons _ _ (c _ b)
def Pm{l:OpenLaw}{n:Nat}(i:l.most=Z n){P:Params}{args:List WData}{e:M4}
 (f:l.row.toRowW.claim.pre args=aD)(j:WellAll P h e args) :
  ∃a vs ns,e=[cU a]/\args=[WData.list (ns.map WData.int)]/\h.get? a=Z {cls:=.type "list",data:=.seq vs.toArray}/\J9 vs ns/\ns.length<=n:=by
 have k:WShape.hasAll [] args [.list .int]=aD:=(pre_splitW f).1;have g:l.pre.holds [] {args:=args}=aD:=(pre_splitW f).2;obtain⟨d,r,rfl,h1,h2⟩:=hasAllW_cons k;obtain rfl:=hasAllW_nil h2;obtain⟨xs,rfl,m⟩:=hasW_list h1;obtain⟨ns,rfl⟩:=items_int m;have o:ns.length<=n:=by
  unfold OpenLaw.pre at g;have b:(WTm.not (.lt (.lit (.int (n:Int))) (.len (.arg 0)))).holds [] {args:=[.list (ns.map .int)]}=aD:=by
   have b:=(holds_andW g).1;rw[i]at b;exact b
  have c:=condW_of b (w_not (w_lt w_lit (w_len_list (w_arg O))));rw[aS]at c;refine Nat.le_of_not_lt λq=>?_;have p:(n:Int)<((ns.length:Nat):Int):=YT
  first
   |(rw[B0 p]at c;exact B6 c YR)
   |(simp at c;omega)
 cases j with
 |cons s t=>
  cases t;cases s with
  |list u w=>exact⟨_,_,ns,O,O,u,XR ns _ w,o⟩
def Pu(l:OpenLaw)(args:List WData):l.row.toRowW.claim.post args (.bool aD) args=aD:=
 postW_of (r:=l.row.toRowW) (X:=(aD==aD))
  (show WShape.has [] (.bool aD) .bool=aD by first|rfl|decide|simp[WShape.has,WShape.arms,WShape.armsAll])
  (show(WTm.eq .res (.lit (.bool aD))).value [] {args:=args,res:=Z (.bool aD),after:=args}=Z (.bool (aD==aD)) from w_eq_bool (w_res O) w_lit) O
def Yj{l:OpenLaw}{n:Nat}{h:L9}{i:(aA->Option aE)->bH->Prop}{j:bP->bH->Prop}{d:DefRec}
 (m:l.most=Z n)(p:d.params.defaults=[])
 (call:∀(w:bP)(e b:aJ)(mg g:aA->Option aE)(c:aB)(o:aZ)(pm cd doc:aE)(a:aB)(vs:M4)(ns:M6),
   Ground q h [] i w e mg g b.heap->j w b.heap ->
   b.heap.get? c=Z o->o.data=.func (docDef d.name d.params d.body d.scope pm cd doc)->b.heap.CodeRec cd d.name->mg d.name=Z (.ref c) ->
   b.heap.get? a=Z {cls:=.type "list",data:=.seq vs.toArray}->J9 vs ns->ns.length<=n->b.gens=#[] ->
   I6 (aW l.prog w) K1 (.call (.ref c) ⟨[.ref a],[]⟩) (λr L=>r=.ok (.ret (.bool aD))/\OldK b.heap L.heap/\L.os=b.os/\H1 L.gens) b) :
  WalkO q h i j l.row.toRowW d [] (λf vs=>PySem.call f vs):=by
 intro w e b mg g G s c o pm cd doc t kV u x y k z A args N as B Q T C U;obtain rfl:t=.none:=Dflts.none k p;obtain rfl:kV=.none:=Dflts.noKw k;obtain⟨a,vs,ns,rfl,rfl,D,E,H⟩:=Pm m B C;refine enter_call (oG (call w e b mg g c o pm cd doc a vs ns G s u (fd_plain x) y z D E H A) λr L I=>?_);obtain⟨rfl,h2,J,M⟩:=I;exact⟨.inl ⟨.bool aD,.bool aD,[],O,λ_=>O,.bool aD,Pu l _,λ_=>⟨List.Pairwise.nil,λ_ hm=>(nomatch hm)⟩⟩,h2,J,M⟩
section
variable{prog:bS}{w:bP}{A:bX}{E:aE->aJ->Prop}{s:aJ}{K:L7}
noncomputable def YI(h:bH):bH:={h with objs:=#[]}
noncomputable def YD(h:bH)(L d:aB):List (aB×aZ):=(eG h.objs.size).filterMap λa=>if a=L\/a=d then aF else(h.get? a).map λo=>(a,o)
end
end Att
namespace L2
open PySem PySem.Spec PyProof.Rows
theorem CD:∀{vs:M4} {ns:M6},J9 vs ns->cA (ns.map D1) vs
 |_,_,.nil=>.nil
 |_,_,.cons n t h=>.cons ⟨t,O⟩ (CD h)
noncomputable def lO(s:bO)(j:Nat):bO:=match s with
 |.ClassDef _ _ _ body _ _ _ _ _ _ _=>body.getD j (.Pass ⟨0,0,0,0⟩)
 |_=>.Pass ⟨0,0,0,0⟩
noncomputable def oV(s:bO):p3:=match s with
 |.FunctionDef _ a _ _ _ _ _ _ _ _=>a
 |_=>{posonlyargs:=[],args:=[],vararg:=aF,kwonlyargs:=[],kw_defaults:=[],kwarg:=aF,defaults:=[]}
noncomputable def jZ(s:bO):List bO:=match s with
 |.FunctionDef _ _ b _ _ _ _ _ _ _=>b
 |_=>[]
noncomputable def bM(s:bO):kA:=match s with
 |.FunctionDef _ _ _ _ _ _ a _ _ _=>a
 |_=>{kind:=.function,names:=[],isGenerator:=aK,isCoroutine:=aK}
abbrev iV:nM:=λ_ _ _ _ _ _=>False
abbrev mS:dG:=λ_ _ _=>False
def wZ:pF iV X mS:=λ_ _ _ _ _ _ _ h=>h.elim
structure mT (K:bJ) (x j:aA) (st:bO) (f:aB) (fd:iK):Prop where
 ex:∃(oc:aE)(od:Option aB)(kV doc pm:aE)(an:Option aB)(cdv ct:aE)(osl:Array (Option aE)),
  fd=m6 x j (oV st) (jZ st) (bM st) .none kV doc pm an cdv ct/\K.lookup f=Z ⟨oc,od,.func fd,osl⟩/\rJ K cdv j=aD
 kp:nL K (.ref f)=aD
section
variable{P:bS}{w:bP}{K:bJ}{mg:aA->Option aE}{b_:bH}
def mT.ok{x j:aA}{st:bO}{fd:iK}{N ps:L9}{k:Nat}{sp:bW}(F:mT K x j st f fd)(S:cB N ps (bM st))(len:∀vs H Q E,sp vs H Q E->vs.length=ps.length)
 (b:∀(a:aE)(A:bX)(o_:List eE)(s:aJ)(H:aC)(vs:M0)(Q:aP)(E:dG),eI k (A.deeper (J1 j (bM st) s.heap.objs.size f a))->sp vs H Q E ->
   ∃t,iB (hG iV P w K mg b_ N j (bM st) f a A o_ s H E).nox (jZ st) t/\t {nx:=λ_ H'=>Q .non H',rt:=Q} (start N vs) H):hZ P w K mg b_ iV (k+1) f fd ps sp:=by
 obtain⟨g,i,kV,doc,pm,l,a,m,n,rfl,lk,c⟩:=F.ex;refine Ak lk c S len λA o_ s H vs Q E d e=>?_;obtain⟨t,h,q⟩:=b a A o_ s H vs Q E d e;exact⟨t,h.nox,q⟩
def mT.binds{x j:aA}{st:bO}{fd:iK}{ps:L9}(F:mT K x j st f fd)
 (h:∀(kV doc pm:aE)(a:Option aB)(b c:aE)(us:M4),us.length=ps.length->q2 (m6 x j (oV st) (jZ st) (bM st) .none kV doc pm a b c) ⟨us,[]⟩=pure (ps.zip us)):lv K fd ps []:=by
 obtain⟨d,e,kV,doc,pm,a,b,c,g,rfl,lk,i⟩:=F.ex;exact .all (h kV doc pm a b c)
def tl{x j:aA}{st:bO}{f:aB}{e:aE}{g b:Option aB}{h:Array (Option aE)}{kV doc pm a d:aE}(l:K.lookup f=Z ⟨e,g,.func (m6 x j (oV st) (jZ st) (bM st) .none kV doc pm b a d),h⟩)
 (c:rJ K a j=aD)(k:nL K (.ref f)=aD):mT K x j st f (m6 x j (oV st) (jZ st) (bM st) .none kV doc pm b a d):=⟨⟨e,g,kV,doc,pm,b,a,d,h,O,l,c⟩,k⟩
end
def jT(a:eI k A):A.units+1<I8:=vW (Nat.add_le_add_left (by decide:1<=64) _) a.units
section
variable{X:aX}
def pv(i:Nat){x:aA}(a:X.N[i]?=Z x:=by rfl)(b:sb X.env.scope x:=by trivial)(c:(x == ("__debug__":aA))=aK:=by decide)
 (d:(x == ("__classdict__":aA))=aK:=by decide):bL X (.Name x pos) (s8 i):=To a b c d
end
def cC{A B:Prop}(h:B):if aK=aD then A else B:=by
 rw[B3 fQ];exact h
def dO{A B:Prop}(h:A):if aD=aD then A else B:=by
 rw[B4 O];exact h
def lB{c A B:Prop}[Decidable c](h1:c->A)(h2:¬c->B):if c then A else B:=by
 by_cases h:c
 .rw[B4 h];exact h1 h
 .rw[B3 h];exact h2 h
def aL(H H':aC):Prop:=∀b o,H b=Z o->H' b=Z o
def aL.refl(H:aC):aL H H:=λ_ _ h=>h
def aL.trans(a:aL H z)(b:aL z H2):aL H H2:=λc o h=>b c o (a c o h)
def aL.free(e:aL H H')(h:H' l=Option.none):H l=Option.none:=by
 cases q:H l with
 |none=>rfl
 |some o=>
  rw[e l o q]at h;cases h
def aL.seq{K:bJ}{xs:M0}(e:aL H H')(h:aQ K H a xs):aQ K H' a xs:=by
 rcases h with (h|⟨o,h⟩)|h
 .exact .inl (.inl (e _ _ h))
 .exact .inl (.inr ⟨o,e _ _ h⟩)
 .exact .inr h
section
variable{X:aX}
def Dz:jD X (.builtin "len") (λxs H Q=>∃a J,xs=[F2 a]/\H a=Z (.dK J)/\Q (.int J.length) H):=by
 intro U s Y H xs us Q I r h;obtain⟨a,J,rfl,b,q⟩:=h;obtain⟨u,rfl,c⟩:=se r;cases c;exact Vc I (.inl b) λt L d=>⟨.int J.length,H,d,⟨t,O⟩,q⟩
end
section
variable{f:Type}[DecidableEq f]
def Qb{J:List (f×V)}{k:f}(h:dE J k=aF):¬k∈J.map (·.1):=by
 intro m;obtain⟨p,a,e⟩:=cG.mp m;have q:(J.any λb=>G9 (b.1=k))=aD:=tN.mpr ⟨p,a,B0 e⟩;rw[rk,h]at q;exact B6 q (by simp)
def Rj{J:List (f×V)}{k:f}(h:dE J k=Z v):k∈J.map (·.1):=by
 have q:(J.any fun a=>G9 (a.1=k))=aD:=by
  rw[rk,h]
  all_goals rfl
 obtain⟨p,b,e⟩:=tN.mp q
 exact cG.mpr ⟨p,b,B2 e⟩
end
end L2
open L2.aL renaming refl→D7
namespace Tx
open PySem PySem.Builtin PySem.Builtin.Str
noncomputable def cl(n d:Nat):Option Int->Nat
 |none=>d
 |some i=>(max 0 (min (if i<0 then i+n else i) n)).toNat
def Yn(n d k:Nat):cl n d (Z (k:Int))=min k n:=by
 show(max 0 (min (if (k:Int)<0 then(k:Int)+n else(k:Int)) n)).toNat=min k n;rw[B3 YT];omega
theorem Ho(n d:Nat)(a:d<=n):∀o,cl n d o<=n
 |none=>a
 |some i=>by
  show(max 0 (min (if i<0 then i+n else i) n)).toNat<=n;omega
def OD(lo hi:Option Int)(n:Nat):strSliceIndices lo hi 1 n=(eG (cl n n hi-cl n 0 lo)).map (cl n 0 lo+·):=by
 have h1:∀(v:Option Int)(d:Nat),d<=n->(match v with|none=>(d:Int)|some i=>if (1:Int)>0 then max 0 (min (if i<0 then i+n else i) n) else max (-1) (min (if i<0 then i+n else i) (n-1)))=((cl n d v:Nat):Int):=by
  intro v d c;cases v with
  |none=>rfl
  |some i=>
   show(if (1:Int)>0 then max 0 (min (if i<0 then i+n else i) n) else max (-1) (min (if i<0 then i+n else i) (n-1)))=(((max 0 (min (if i<0 then i+n else i) n)).toNat:Nat):Int)
   rw[B4 YR];omega
 rw[←sliceRange_one];unfold strSliceIndices;have a:=h1 lo 0 (gU _);have b:=h1 hi n (bQ _);simp only[show(1:Int)>0 by decide,if_true]at a b ⊢;congr 1
def YM(x:aA)(lo hi:Option Int):(m9 x lo hi).cps.toList=(x.cps.toList.drop (cl x.length 0 lo)).take (cl x.length x.length hi-cl x.length 0 lo):=by
 unfold m9;rw[OD];split
 .rename_i h;have h':cl x.length x.length hi-cl x.length 0 lo=x.length:=by
   have:=(iJ.mp h).2;have:=C0.mp this;simpa using this
  have h2:=Ho x.length x.length (bQ _) hi;have b:=Ho x.length 0 (gU _) lo;have a:cl x.length 0 lo=0:=YT;rw[h',a,wn,dP];show x.cps.toList.length<=x.cps.size;simp
 .rw[pick_run]
def Yh(a b:aA):(a++b).cps.toList=a.cps.toList++b.cps.toList:=by
 simp[aA.cps_append]
def Yi(a b:aA):(a++b).length=a.length+b.length:=aA.length_append a b
end Tx
set_option maxHeartbeats 4000000
namespace L2
open PySem PySem.Spec PyProof.Rows
theorem AP
 (h:∀n k j,f (n,k) j=if (k==jG)=aD then(cellOf env n>>=λc=>pure (m4 ((n,c)::j))) else pure (m4 j)) :
  ∀(l:List (aA×nG))(a:List (aA×aB)),
  (∀y∈l,y.2=.free->∃c,env.cells.lookup y.1=Z c) ->
  (∀x c,a.lookup x=Z c->env.cells.lookup x=Z c) ->
  ∃cl,forIn l a f=(pure cl:Sem _)/\(∀x c,cl.lookup x=Z c->env.cells.lookup x=Z c)/\(∀x c,a.lookup x=Z c->∃d,cl.lookup x=Z d) /\
   ∀x,(x,jG)∈l->∃c,cl.lookup x=Z c
 |[],a,_,i=>⟨a,O,i,λx c e=>⟨c,e⟩,λx m=>B6 m (by simp)⟩
 |(n,k)::r,a,w,i=>by
  have z:∀y∈r,y.2=.free->∃c,env.cells.lookup y.1=Z c:=λy B=>w y (eK _ B);by_cases o:k=.free
  .subst o;obtain⟨c,A⟩:=w (n,.free) eB O;have C:cellOf env n=pure c:=by
    have D:env.cells.lookup n=Z c:=A;unfold cellOf;rw[D]
   have E:∀x d,mL x ((n,c)::a)=Z d->env.cells.lookup x=Z d:=λx d e=>by
    by_cases b:(x==n)=aD
    .rw[lW,b]at e;obtain rfl:=C0.mp b;cases e;exact A
    .have p:(x==n)=aK:=by simpa using b
     rw[lW,p]at e;exact i x d e
   obtain⟨cl,s,t,g,u⟩:=AP h r ((n,c)::a) z E;refine⟨cl,?_,t,λx d e=>?_,λx m=>?_⟩
   .rw[wh,h,B4 (B9 _),C,pure_bind,pure_bind];exact s
   .by_cases b:(x==n)=aD
    .exact g x c (by rw[lW,b])
    .have p:(x==n)=aK:=by simpa using b
     exact g x d (by rw[lW,p];exact e)
   .rcases dW.mp m with q|q
    .have G:x=n:=B7 Prod.fst q;subst G;exact g x c (by rw[lW,B9])
    .exact u x q
  .have H:(k==jG)=aK:=by simpa using o
   obtain⟨cl,s,t,g,u⟩:=AP h r a z i;refine⟨cl,?_,t,g,λx m=>?_⟩
   .rw[wh,h,H,B3 fQ,pure_bind];exact s
   .rcases dW.mp m with q|q
    .exact B6 (B7 Prod.snd q).symm o
    .exact u x q
def CB(h:∀y∈scope.names,y.2=.free->∃c,env.cells.lookup y.1=Z c) :
  ∃cl,t7 scope env=pure cl/\(∀x c,cl.lookup x=Z c->env.cells.lookup x=Z c)/\∀x,(x,jG)∈scope.names->∃c,cl.lookup x=Z c:=by
 obtain⟨cl,d,g,_,i⟩:=AP (env:=env) (f:=λ(x:aA×nG) a=>match x with|(name,b)=>if (b==jG)=aD then(cellOf env name>>=λc=>pure (m4 ((name,c)::a))) else pure (m4 a)) (λn k a=>O) scope.names [] h (λx c e=>by cases e);refine⟨cl,?_,g,i⟩;have:t7 scope env=(forIn scope.names [] (λ(x:aA×nG) a=>match x with|(name,b)=>if (b==jG)=aD then(cellOf env name>>=λc=>pure (m4 ((name,c)::a))) else pure (m4 a))>>=λa=>pure a):=by
  first|rfl|(unfold t7;rfl)|(unfold t7;simp only[pure_bind,bind_pure])
 rw[this,d,pure_bind]
theorem HM{env:eE}:∀{c:List (aA×nG)} {x:aA},c.lookup x=Z .free ->
  (c.map λ(n,k)=>if (k==jG&&env.scope.kind==.function&&env.kindOf n==Z .cell) then(n,oE) else(n,k)).lookup x=Z .cell \/
  (c.map λ(n,k)=>if (k==jG&&env.scope.kind==.function&&env.kindOf n==Z .cell) then(n,oE) else(n,k)).lookup x=Z .free
 |[],_,h=>by simp at h
 |(n,k)::r,x,h=>by
  have d:=@HM env r x;show mL x ((if (k==jG&&env.scope.kind==.function&&env.kindOf n==Z .cell)=aD then(n,oE) else(n,k))::_)=_\/mL x ((if (k==jG&&env.scope.kind==.function&&env.kindOf n==Z .cell)=aD then(n,oE) else(n,k))::_)=_;cases a:x==n with
  |true=>
   simp only[lW,a]at h;cases h;by_cases b:(jG==jG&&env.scope.kind==.function&&env.kindOf n==Z .cell)=aD
   .rw[B4 b];left;simp only[lW,a]
   .rw[B3 b];right;simp only[lW,a]
  |false=>
   simp only[lW,a]at h;by_cases b:(k==jG&&env.scope.kind==.function&&env.kindOf n==Z .cell)=aD
   .rw[B4 b];simp only[lW,a];exact d h
   .rw[B3 b];simp only[lW,a];exact d h
theorem Iw{env:eE}:∀{b:List (aA×nG)} {x:aA},(∀y∈b,y.2≠.cell) ->
  ((b.map λ(n,k)=>if (k==jG&&env.scope.kind==.function&&env.kindOf n==Z .cell) then(n,oE) else(n,k)).lookup x=Z .cell \/
  (b.map λ(n,k)=>if (k==jG&&env.scope.kind==.function&&env.kindOf n==Z .cell) then(n,oE) else(n,k)).lookup x=Z .free)->(x,jG)∈b
 |[],_,_,h=>by rcases h with h|h<;>simp at h
 |(n,k)::r,x,d,h=>by
  have f:=@Iw env r x (λy g=>d y (eK _ g));have h':mL x ((if (k==jG&&env.scope.kind==.function&&env.kindOf n==Z .cell)=aD then(n,oE) else(n,k))::(r.map λ(n,k)=>if (k==jG&&env.scope.kind==.function&&env.kindOf n==Z .cell) then(n,oE) else(n,k)))=Z .cell \/
   mL x ((if (k==jG&&env.scope.kind==.function&&env.kindOf n==Z .cell)=aD then(n,oE) else(n,k))::(r.map λ(n,k)=>if (k==jG&&env.scope.kind==.function&&env.kindOf n==Z .cell) then(n,oE) else(n,k)))=Z .free:=h
  cases c:x==n with
  |true=>
   obtain rfl:=C0.mp c;have i:k=.free:=by
    by_cases a:(k==jG&&env.scope.kind==.function&&env.kindOf x==Z .cell)=aD
    .have:=(iJ.mp (iJ.mp a).1).1;exact C0.mp this
    .rw[B3 a]at h';simp only[lW,c]at h';rcases h' with e|e
     .cases e;exact B6 O (d (x,.cell) eB)
     .cases e;rfl
   subst i;exact eB
  |false=>
   refine eK _ (f ?_);by_cases a:(k==jG&&env.scope.kind==.function&&env.kindOf n==Z .cell)=aD
   .rw[B4 a]at h';simp only[lW,c]at h';exact h'
   .rw[B3 a]at h';simp only[lW,c]at h';exact h'
structure BL where
 cl:List (aA×aB)
 C:aB
 s₀:aJ
 H₀:aC
 ex:List aB
abbrev kY (X:aX) (scope:kA) (a:L9) (R:BL):aX:=
 {prog:=X.prog,w:=X.w,K:=X.K,mg:=X.mg,b_:=X.b_,A:=X.A,N:=a,s₀:=R.s₀,H₀:=R.H₀,env:=compEnvC scope R.cl R.C X.env,o_:=X.stack,stack:=X.stack,ex:=R.ex,fn:=λ_=>aK,calm:=X.calm,pn:=[],xe:=λ_ _=>False}
structure q5 (X:aX) (ifs:List bI) (t:TT):Prop where
 run:∀(U:List (aB×aZ))(s:aJ)(Y:St)(H:aC)(Q:Bool->aC->Prop),Inv X U Y H s->t Y H Q ->
  aU (aW X.prog X.w) X.A (forIn ifs aD λc r=>if r=aD then do let ok ←H6 c X.env (H5 c X.env);pure (m4 ok) else pure (m4 r)) (r9 X U Y Q) X.xe s
instance {X:aX} {a:List bI} {t:TT}:CoeFun (q5 X a t) λ_=>∀(U:List (aB×aZ))(s:aJ)(Y:St)(H:aC)(Q:Bool->aC->Prop),Inv X U Y H s->t Y H Q ->
  aU (aW X.prog X.w) X.A (forIn a aD λc r=>if r=aD then do let b ←H6 c X.env (H5 c X.env);pure (m4 b) else pure (m4 r)) (r9 X U Y Q) X.xe s:=⟨q5.run⟩
def Um:TT:=λ_ H Q=>Q aD H
def gQ:q5 X [] Um:=⟨λU s Y H Q I h=>wpAny_tests_nil ⟨H,I,h⟩⟩
def mX(h:lD X c t):q5 X [c] t:=⟨λU s Y H Q I a=>wpAny_tests_one (h U s Y H Q I a)⟩
def uC(b:Nat)(g:gO):Prop:=∀x Y H Q,g x Y H Q->g x Y H λa H2=>Q a H2/\a.length=Y.length/\∀i,b<=i->a[i]?=Y[i]?
def fD(h:i<a):uC a (nz i):=λx Y H Q q=>
 ⟨q,by simp,λj b=>tD YT⟩
noncomputable def ox(a:Nat)(b:List Nat)(Y:St):St:=wm a aF++b.map λj=>(Y[j]?).join
def PX:(ox a b Y).length=a+b.length:=by simp[ox]
def DD(h:(ox a b Y)[i]?=Z (Z v)):∃j,a<=i/\b[i-a]?=Z j/\Y[j]?=Z (Z v):=by
 unfold ox at h;by_cases hi:i<a
 .rw[o0 (by simpa using hi),List.getElem?_replicate]at h;rw[B4 hi]at h;cases h
 .rw[rA (by simp;omega),List.length_replicate,dB]at h;cases e:b[i-a]? with
  |none=>rw[e]at h;cases h
  |some j=>
   rw[e]at h;refine⟨j,YT,O,?_⟩;have h':(Y[j]?).join=Z v:=by simpa using h
   cases q:Y[j]? with
   |none=>rw[q]at h';cases h'
   |some o=>rw[q]at h';cases o with
    |none=>cases h'
    |some c=>cases h';rfl
def MJ(I:Nat->aJ->Prop)
 (q:∀n s,I n s->aU (aW prog w) A (I1 G) (λr a=>match r with
   |none=>R (.ok .next) a
   |some v=>aU (aW prog w) A (wq d G v) (λ_ a=>aU (aW prog w) A (assign d env v) (λ_ k=>
     aU (aW prog w) A (forIn g aD λc r=>if r=aD then do let b ←H6 c env (H5 c env);pure (m4 b) else pure (m4 r)) (λb j=>
      if b=aD then aU (aW prog w) A (H5 f env) (λx l=>
       aU (aW prog w) A (call (.builtin "list.append") [i,x]) (λ_ o=>∃m,m<n/\I m o) (K2 (aW prog w) A env λe L=>R (.error e) L) l) (K2 (aW prog w) A env λe L=>R (.error e) L) j
      else ∃m,m<n/\I m j) (K2 (aW prog w) A env λe L=>R (.error e) L) k) (K2 (aW prog w) A env λe L=>R (.error e) L) a) (K2 (aW prog w) A env λe L=>R (.error e) L) a) (K2 (aW prog w) A env λe L=>R (.error e) L) s)
 (n:Nat)(h:I n s) :
  I6 (aW prog w) A (.compLoop (.ListComp f [⟨d,iter,g,0⟩] scope pos) 0 G i env) R s:=by
 refine codeAny_loop O I (λn s t=>?_) n h;show aU _ A ((compTurn (.ListComp f [⟨d,iter,g,0⟩] scope pos) 0 G i env).onRaise (λx=>do K3 x env;theTreesLotGoes x)) _ _ s;refine wpAny_noted ?_;rw[compTurn_list];refine aO (pY (aO (fA (q n s t) (λr a h₁=>?_) λ_ _ h'=>h')));cases r with
 |none=>exact bN h₁
 |some v=>
  refine aO (fA h₁ (λ_ C u=>?_) λ_ _ h'=>h');refine aO (fA u (λ_ k y=>aO (fA y (λb j p=>?_) λ_ _ h'=>h')) λ_ _ h'=>h');cases b with
  |false=>exact bN ⟨O,p⟩
  |true=>
   exact aO (aO (fA p (λx l z=>aO (fA z (λ_ o B=>bN (bN ⟨O,B⟩)) λ_ _ h'=>h')) λ_ _ h'=>h'))
abbrev yp:=Nat->Nat->M0->aC->Prop
def GS(f:St)(c:jI)(g:gO)(h:TT)(te:bF)(W:yp)(j:M0->aC->Prop)(i m:Nat)(ys:M0)(H:aC):Prop:=
 (c.stop i H/\j ys H) \/
 (c.go i H/\ys.length<cP/\∀x H',c.yld i H x H'->g x f H' λd H2=>h d H2 λb e=>
  if b=aD then te d e λy k=>∃a,a<m/\W (i+1) a (ys++[y]) k else ∃a,a<m/\W (i+1) a ys e)
def q9(a:St)(g:gO)(b:TT)(te:bF)(c:M0->aC->Prop)(d:jI)(z:aC):Prop:=∃W:yp,(∃m,W 0 m [] z)/\∀i m ys H,W i m ys H->GS a d g b te W c i m ys H
abbrev Wi (te:bF) (K:aP) (c:aC->Prop) (d:St):Bool->aC->Prop:=λb a=>if b=aD then te d a K else c a
abbrev sT (b:TT) (te:bF) (K:aP) (c:aC->Prop):St->aC->Prop:=λa H2=>b a H2 (Wi te K c a)
abbrev VE (Q:aP):M0->aC->Prop:=λys H'=>∀p,H' p=aF->Q (.ref p) (aI H' p (.lst ys))
structure Mc (X:aX) (U:List (aB×aZ)) (H:aC) (C:aB) (s:aJ):Prop where
 ns:∃m,s.heap.Ns C m
 fr:H C=aF
 ne:C≠X.env.locals
 ab:X.s₀.heap.objs.size<=C
 cl:∀x c,X.env.cells.lookup x=Z c->c≠C
 pn:∀p∈X.pn++U,p.1≠C
def Cz{U:List (aB×aZ)}{aq:List bI}{scope:kA}{w:L9}{nt:Nat}{a2:List Nat}{g:gO}{ba:TT}{cl:List (aA×aB)}
 {fp:List aB}{ai:Nat->bH->Prop}{J:jI}{Q:M0->aC->Prop}{E:aE->aJ->Prop}
 (bb:X.calm=aD)(s:Inv X U Y I t)(T:oN X.prog X.w X.K tg J fp G ai)(st:ai 0 t.heap)(M:∀b∈fp,pj X U I b)
 (a3:∀x c,cl.lookup x=Z c->X.env.cells.lookup x=Z c)(bc:∀x,(x,jG)∈scope.names->∃c,cl.lookup x=Z c)
 (bd:∀y∈scope.names,y.2≠.cell)(be:scope.kind=.function)
 (c4:∀y∈scope.names,y.2=.free->(X.env.kindOf y.1=Z .cell\/X.env.kindOf y.1=Z .free))
 (c5:w.length=nt+a2.length)(c6:∀(k j:Nat),a2[k]?=Z j->w[nt+k]?=X.N[j]?)(c7:∀x∈w.drop nt,scope.names.lookup x=Z .free)
 (c8:∀R,nc (kY X scope w R) tg g)(c9:uC nt g)(ca:∀R,q5 (kY X scope w R) aq ba)(cb:∀R,bL (kY X scope w R) ap te)
 (h:∃W:yp,(∃m,W 0 m [] I)/\∀i m ys H,W i m ys H->GS (ox nt a2 Y) J g ba te W Q i m ys H)
 {RR:aE->aB->Result->aJ->Prop}
 (cc:∀D C L H' ys,H' D=aF->Q ys H'->Inv X U Y (aI H' D (.lst ys)) L->Mc X U (aI H' D (.lst ys)) C L->RR (.ref D) C (.ok .next) L) :
  aU (aW X.prog X.w) X.A (newList []) (λbf cd=>aU (aW X.prog X.w) X.A (newFunctionEnv scope X.env.globals cl [] X.env.qual aF .none (Z X.env)) (λbg ce=>
   I6 (aW X.prog X.w) X.A (.compStart (.ListComp ap [⟨tg,iter,aq,0⟩] scope pos) 0 (.ref G) bf {bg with scope:=relabel scope X.env}) (RR bf bg.locals) ce) E cd) E t:=by
 obtain⟨W,⟨cf,cg⟩,bh⟩:=h;refine nI (wpAny_newFunctionEnv bd (by intro y ch;simp at ch) (λh₁ aj ae=>?_) be);dsimp only at aj ae ⊢;generalize ar:t.heap.push {cls:=.type "list",dict:=aF,data:=.seq ([]:M4).toArray}=bi at aj ae ⊢;have bj:bi.objs.size=t.heap.objs.size+1:=by rw[←ar,qR]
 generalize ci:t.heap.objs.size=D at bj ⊢;generalize dm:bi.objs.size=C at aj ae bj ⊢;have as:D≠C:=YT;have below:∀b,b<t.heap.objs.size->b≠C/\b≠D:=λb f=>by omega
 have a9:∀b o,t.heap.get? b=Z o->h₁.get? b=Z o:=λb o e=>ae.extBut b o (below b (cW e)).1 (cZ _ (ar▸cZ _ e));have cj:h₁.get? D=Z {cls:=.type "list",data:=.seq ([]:M4).toArray}:=ae.extBut _ _ as (cZ _ (by rw[←ar,←ci];exact fP _ O));have ck:I D=aF:=s.hok.fresh YT;have cm:I C=aF:=s.hok.fresh YT;have cn:∀b∈fp,∃o,t.heap.get? b=Z o/\∀v,o.data≠.cell v:=T.obj 0 _ st;have af:∀b∈fp,b<t.heap.objs.size:=λb f=>let ⟨o,e,_⟩:=cn b f;cW e;have bk:∀x c,X.env.cells.lookup x=Z c->c<t.heap.objs.size:=λx c e=>let ⟨v,z⟩:=s.cell x c e;z.lt;have co:∀p∈X.pn++U,p.1<t.heap.objs.size:=λp A=>cW (s.pin p A).1
 let R:BL:=⟨cl,C,t,I,fp⟩
 have bl:(kY X scope w R).Ok:={
  mod:=s.mod
  kind:=be
  glob:=s.ok.glob
  blt:=s.ok.blt
  above:=(by show t.heap.objs.size<=C;omega)
  inj:=λx y c ak au=>s.ok.inj x y c (a3 x c ak) (a3 y c au)
  has:=λx a5=>bc x (Iw bd a5)
  cab:=λx c a5 _=>by cases a5
  hd:=s.ok.hd
  frames:=s.ok.frames
  stk:=.inl O
  exf:=λb f=>⟨(below b (af b f)).1,λx c e=>(M b f).2.2.2.2.1 x c (a3 x c e)⟩
  bs:=s.bs
  bsz:=dN s.ok.bsz s.sz
  noex:=λb o e f=>by
   rcases (M b f).2.2.2.1 with z|z
   .exact s.ok.noex b o e z
   .exact B6 (gT (cW e) (dN s.ok.bsz z)) (oF _)
  exfs:=λb f z=>by
   rcases dW.mp (s.stkSub b z) with q|q
   .exact(M b f).2.1 q
   .exact(M b f).2.2.1 q
  funs:=s.stack
  frf:=s.stkFree}
 have cp:∀a,t.heap.objs.size<=a->a∉gL X.stack:=λa bm z=>by
  rcases dW.mp (s.stkSub a z) with q|q
  .exact B6 (gT s.lt bm) (by rw[q];exact oF _)
  .exact s.nofs bm q
 have ag:t.heap.objs.size<=D:=YT;have al:t.heap.objs.size<=C:=YT;have av:∀{H':aC} {aw:aZ},(∀b∈fp,H' b=aF)->∀b∈fp,pj (kY X scope w R) [(D,aw)] H' b:=λ{H' aw} am b f=>
  ⟨am b f,(below b (af b f)).1,bl.exfs b f,.inl f,λx c e=>(M b f).2.2.2.2.1 x c (a3 x c e),λp A=>by
   have e:p=(D,aw):=by simpa using A
   rw[e];exact D4 (below b (af b f)).2⟩
 have cq:∀tk,Inv (kY X scope w R) [(D,{cls:=.type "list",data:=.seq ([]:M4).toArray})] (ox nt a2 Y) I {t with heap:=h₁,toks:=tk}:=λtk=>{
  ok:=bl
  os:=O
  bare:=s.bare
  b_:=G8 a9
  loc:=by
   refine⟨_,aj,λi x v ak au dp=>?_⟩;obtain⟨j,hi,ax,cr⟩:=DD au;have a5:X.N[j]?=Z x:=by
    rw[←c6 _ _ ax,show nt+(i-nt)=i by omega];exact ak
   have cs:x∈w.drop nt:=by
    refine dM (i:=i-nt) ?_;rw[vV,show nt+(i-nt)=i by omega];exact ak
   have bn:=c7 x cs;have bo:(x,jG)∈scope.names:=by
    have:∀(l:List (aA×nG)),l.lookup x=Z .free->(x,jG)∈l:=by
     intro l
     induction l with
     |nil=>intro q;cases q
     |cons a r ct=>
      intro q;obtain⟨n,k⟩:=a;cases ay:x==n with
      |true=>
       rw[lW,ay]at q;obtain rfl:=C0.mp ay;cases q;exact eB
      |false=>
       rw[lW,ay]at q;exact eK _ (ct q)
    exact this _ bn
   have bp:=c4 (x,.free) bo O;obtain⟨m,am,cu⟩:=s.loc;have cv:sb X.env.scope x:=by
    rcases bp with k|k
    .exact .inr (.inl k)
    .exact .inr (.inr k)
   obtain⟨u,cw,lk⟩:=cu j x v a5 cr cv;refine⟨u,cw,?_⟩;rcases lk with ⟨k,_⟩|⟨k,c,cx,cy⟩
   .exfalso;rcases bp with z|z
    .rw[z]at k;cases k
    .rw[z]at k;cases k
   .obtain⟨d,hd⟩:=bc x bo;have bq:=a3 x d hd;rw[cx]at bq;cases bq;refine .inr ⟨HM bn,c,hd,?_⟩;obtain⟨o,az,aR⟩:=cy;exact⟨o,a9 c o az,aR⟩
  cell:=λx c e=>by
   obtain⟨v,o,az,aR⟩:=s.cell x c (a3 x c e);exact⟨v,o,a9 c o az,aR⟩
  free:=cm
  freeC:=λx c e=>s.freeC x c (a3 x c e)
  pin:=λp A=>by
   have e:p=(D,{cls:=.type "list",data:=.seq ([]:M4).toArray}):=by simpa using A
   subst e;exact⟨cj,ck,as,cp D ag,λv z=>by cases z⟩
  hok:=s.hok.kept a9
  len:=by rw[PX,c5]}
 have loop:∀tk,I6 (aW X.prog X.w) X.A (.compLoop (.ListComp ap [⟨tg,iter,aq,0⟩] scope pos) 0 (.ref G) (.ref D) (compEnvC scope cl C X.env)) (RR (.ref D) C) {t with heap:=h₁,toks:=tk}:=by
  intro tk;refine MJ (λn L=>∃i ys H' B k,Inv (kY X scope w R) [(D,{cls:=.type "list",data:=.seq B.toArray k})] (ox nt a2 Y) H' L/\ai i L.heap/\(∀b∈fp,H' b=aF)/\cA ys B/\ys.length<=cP/\W i n ys H') ?_ cf
   ⟨0,[],I,[],0,cq tk,T.keep _ _ _ st λb f o e=>a9 b o e,λb f=>(M b f).1,.nil,gU _,cg⟩
  rintro n br ⟨i,ys,a4,B,k,b0,bu,bv,an,bw,cz⟩;have dq:=b0.pin (D,{cls:=.type "list",data:=.seq B.toArray k}) (by simp);rcases bh i n ys a4 cz with ⟨cI,cL⟩|⟨cO,cS,step⟩
  .-- dr end
   refine fA (T.done (kY X scope w R) O O O bb i _ br _ a4 (λ_ _=>False) b0 (av bv) bu cI) (λr aa ⟨b1,a6⟩=>?_) λ_ _ z=>z.elim;subst b1;have a7:=a6.pin (D,{cls:=.type "list",data:=.seq B.toArray k}) (by simp);have a8:eJ (gL X.stack) fp I a4 t.heap aa.heap:=a6.b_;have cT:eJ (gL X.stack) fp I (aI a4 D (.lst ys)) t.heap aa.heap:={
    keep:=a8.keep
    slot:=a8.slot
    free:=λb o e n a5=>by
     rw[bA (below b (cW e)).2];exact a8.free b o e n a5
    there:=a8.there
    tups:=λb xs e=>by
     have z:=a8.tups b xs e;rw[bA (cX z a7.2.1)];exact z
    frzs:=λb o u e=>by
     have z:=a8.frzs b o u e;rw[bA (cX z a7.2.1)];exact z
    tbls:=λb ps e=>by
     obtain⟨cV,z⟩:=a8.tbls b ps e;exact⟨cV,by rw[bA (cX z a7.2.1)];exact z⟩}
   have d0:dL X.prog X.w (aI a4 D (.lst ys)) aa.heap:=λb u e=>by
    by_cases f:b=D
    .subst f;rw[aV]at e;cases e;exact⟨bw,B,k,an,a7.1⟩
    .rw[bA f]at e;exact(a6.hok b u e).stay (λc v _ q=>q) (λc q=>by rw[bA (cX q a7.2.1)];exact q) λc xs q=>by rw[bA (cX q a7.2.1)];exact q
   have b2:Inv X U Y (aI a4 D (.lst ys)) aa:=s.call' a6.os cT d0 a6.bare λb f=>⟨(M b f).2.2.2.1,(M b f).2.1,(M b f).2.2.2.2.1,(M b f).2.2.2.2.2⟩
   refine cc D C aa a4 ys a7.2.1 cL b2 ?_;obtain⟨m,am,_⟩:=a6.loc;exact⟨⟨m,am⟩,by rw[bA (D4 as)];exact a6.free,λz=>B6 s.lt (by rw[←z];exact Nat.not_lt.mpr al),dN s.sz al,λx c e=>dC (gT (bk x c e) al),λp A=>dC (gT (co p A) al)⟩
  .-- a bh
   refine fA (T.item (kY X scope w R) O O O bb i _ br _ a4 (λ_ _=>False) b0 (av bv) bu cO) (λr aa z'=>?_) λ_ _ z=>z.elim;obtain⟨u,b1,d1⟩:=z';subst b1;refine fA d1 (λ_ ah z'=>?_) λ_ _ z=>z.elim;obtain⟨x,bx,b2,d2,d3,b3,d4⟩:=z';have d5:=b2.pinned (av d4) (T.obj _ _ b3);refine fA (c8 R _ ah _ bx x u _ d5 d2 (c9 _ _ _ _ (step x bx d3))) (λ_ d6 z'=>?_) λ_ _ z=>z.elim;obtain⟨b4,d7,d8,d9,da,db⟩:=z';refine fA (ca R _ d6 b4 d7 _ d8 d9) (λok dc z'=>?_) λ_ _ z=>z.elim;obtain⟨bz,ao,q7⟩:=z';have bR:∀{N:aC} {a0:aJ} {ps:List (aB×aZ)},Inv (kY X scope w R) ps b4 N a0->Inv (kY X scope w R) ps (ox nt a2 Y) N a0:=λa1=>a1.weak (by rw[da]) λj v e=>by
    obtain⟨_,ax,_,_⟩:=DD e;rw[db j ax];exact e
   have b5:∀{N:aC} {a0:aJ} {c0:St},Inv (kY X scope w R) ([(D,{cls:=.type "list",data:=.seq B.toArray k})]++qv fp ah.heap) c0 N a0->ai (i+1) a0.heap/\∀b∈fp,N b=aF:=λ{N a0 c0} a1=>
    ⟨T.keep _ _ _ b3 λb f o e=>(a1.pin (b,o) (jV _ (jV _ (xA f e)))).1,λb f=>by
     obtain⟨o,e,_⟩:=T.obj _ _ b3 b f;exact(a1.pin (b,o) (jV _ (jV _ (xA f e)))).2.1⟩
   cases ok with
   |false=>
    rw[B3 fQ]at q7 ⊢;obtain⟨b6,hm,dd⟩:=q7;exact⟨b6,hm,i+1,ys,bz,B,k,bR ao.unpinned,(b5 ao).1,(b5 ao).2,an,bw,dd⟩
   |true=>
    rw[B4 O]at q7 ⊢;refine fA (cb R _ dc b4 bz _ ao q7) (λb7 a0 z'=>?_) λ_ _ z=>z.elim;obtain⟨y,N,a1,de,df⟩:=z';obtain⟨b6,hm,dg⟩:=df;have ac:=a1.pin (D,{cls:=.type "list",data:=.seq B.toArray k}) (by simp);have hsz:B.toArray.size<=cP:=by rw[eN,←an.length];omega
    refine wpAny_list_append_plain (hsz:=hsz) ⟨k,ac.1⟩ λc1 b8 c2=>?_;obtain⟨b9,b8⟩:=b8;have c3:=b5 a1;have dh:Inv (kY X scope w R) (qv fp ah.heap) (ox nt a2 Y) N a0:=(bR a1).pins_of λp A=>a1.pin p (jV _ (jV _ A));have di:Inv (kY X scope w R) (qv fp ah.heap) (ox nt a2 Y) N {a0 with heap:=c1}:=dh.turned (G:=D) (t':=a0.toks) (λb o f e=>c2.extBut b o f e) ac.2.1 ac.2.2.1 (.inr ag)
     (λx c e=>dC (gT (bk x c (a3 x c e)) ag)) λp A=>by
      have dj:p∈qv fp ah.heap:=by simpa using A
      exact dC (gT (af p.1 (Dc dj).1) ag)
    have dk:c1.get? D=Z {cls:=.type "list",data:=.seq (B++[b7]).toArray b9}:=by
     rw[b8];simp
    refine⟨b6,hm,i+1,ys++[y],N,B++[b7],b9,di.pins_of λp A=>?_,T.keep _ _ _ c3.1 λb f o e=>c2.extBut b o (dC (gT (af b f) ag)) e,c3.2,an.append (.cons de .nil),by rw[eW];exact cS,dg⟩;have e:p=(D,{cls:=.type "list",data:=.seq (B++[b7]).toArray b9}):=by simpa using A
    subst e;exact⟨dk,ac.2.1,ac.2.2.1,ac.2.2.2.1,λv z=>by cases z⟩
 exact codeAny_compStart_list (loop _) (T.self _ 0 _ _ _ (T.keep _ _ _ st λb f o e=>a9 b o e) (loop _))
def GW(a:Nat)(b:List Nat)(c:TI)(g:gO)(d:TT)(te:bF):bF:=λY H Q=>c Y H (q9 (ox a b Y) g d te (VE Q))
def qt{q:Type}{l:List q}{p:q->Bool}(h:l.all p=aD):∀x∈l,p x=aD:=λx a=>ku.mp h x a
def fN(c:L9)(d:Nat)(i:List Nat)
 (z:X.calm=aD)(hi:lY X tg iter r)(A:∀R,nc (kY X scope c R) tg g)(E:uC d g)(M:∀R,q5 (kY X scope c R) p t)(N:∀R,bL (kY X scope c R) n te)
 (a0:(scope.names.all λy=>!(y.2==.cell))=aD:=by rfl)(u:scope.kind=.function:=by rfl)
 (a1:(scope.names.all λy=>!(y.2==.local)||(scope.names.lookup y.1==Z .local))=aD:=by rfl)
 (a2:(scope.names.all λy=>!(y.2==.free)||(X.env.kindOf y.1==Z .cell||X.env.kindOf y.1==Z .free))=aD:=by rfl)
 (a3:c.length=d+i.length:=by rfl)(a4:(i.map λj=>X.N[j]?)=(c.drop d).map Z:=by rfl)(a5:((c.drop d).all λx=>scope.names.lookup x==Z .free)=aD:=by rfl)
 (a6:∀x,y6 iter X.env x=pure x:=by intro _;rfl) :
  bL X (.ListComp n [⟨tg,iter,p,0⟩] scope pos) (GW d i r g t te):=.mk λU s Y H Q I h=>by
 have w:∀y∈scope.names,y.2=.free->(X.env.kindOf y.1=Z .cell\/X.env.kindOf y.1=Z .free):=λy f e=>by
  have a:=qt a2 y f;rw[e]at a;have a7:(X.env.kindOf y.1==Z .cell||X.env.kindOf y.1==Z .free)=aD:=a;rcases yM.mp a7 with q|q
  .exact .inl (C0.mp q)
  .exact .inr (C0.mp q)
 have a8:∀y∈scope.names,y.2≠.cell:=λy f e=>by
  have a:=qt a0 y f;rw[e]at a;cases a
 obtain⟨cl,a9,aa,ac⟩:=CB (scope:=scope) (env:=X.env) λy f e=>I.ok.has y.1 (w y f e);have ae:∀y∈scope.names,y.2=.local->scope.names.lookup y.1=Z .local:=λy f e=>by
  have a:=qt a1 y f;rw[e]at a;exact C0.mp a
 have af:∀(k j:Nat),i[k]?=Z j->c[d+k]?=X.N[j]?:=λk j e=>by
  have a:=B7 (λl:List (Option aA)=>l[k]?) a4;simp only[dB,e,rI,vV]at a;cases q:c[d+k]? with
  |none=>rw[q]at a;cases a
  |some x=>rw[q]at a;exact(eA a).symm
 rw[eval_ListComp];refine K4 (use:=aF) O a6 a9 u ae (bT (hi U s Y H _ I h) λv s1 h1=>bT h1 λar as h2=>?_);obtain⟨G,fp,au,J,H2,e,ag,T,ah,ai,aj⟩:=h2;subst e;refine Cz (RR:=λak C=>compPost (aW X.prog X.w) X.A X.xe aF (fX X U Y Q) ak C) z ag T ah ai aa ac a8 u w a3 af (λx al=>C0.mp (qt a5 x al)) A E M N aj ?_;intro D C L H' ys am q an B;obtain⟨m,ao⟩:=B.ns;refine⟨m,ao,λh' ap=>⟨.ref D,_,an.turned (G:=C) (t':=L.toks) (λb o aq e=>ap.extBut b o aq e) B.fr B.ne (.inr B.ab) B.cl B.pn,O,q D am⟩⟩
section
variable{X:aX}
noncomputable def Aq:V->Option aE
 |.ty n=>Z (.type n)
 |.ref a=>Z (.ref a)
 |_=>aF
def Rd(h:Aq y=Z c)(r:cE y u):u=c:=by
 cases y with
 |ty n=>cases h;exact r
 |ref a=>cases h;exact r
 |non=>cases h
 |bl b=>cases h
 |int i=>cases h
 |str x=>cases h
 |byt b=>cases h
 |flt b=>cases h
def NU:jD X (.builtin "isinstance") (λxs H Q=>∃x y c t b,xs=[x,y]/\Aq y=Z c/\lE X.K H x t/\nK X.K t c=Z b/\Q (.bl b) H):=by
 intro U s Y H xs us Q I r h;obtain⟨x,y,c,t,b,rfl,a,ty,e,q⟩:=h;obtain⟨u,v,rfl,d,f⟩:=cA.two r;obtain rfl:=Rd a f;exact PI I d ty e λtk=>⟨.bl b,H,I.tok tk,O,q⟩
theorem LW:∀{bs:List Bool} {us:M4},cA (bs.map GE) us->LSm.BoolsAre us bs
 |[],us,r=>by
  rw[mu]at r;cases r;exact .nil
 |b::bs,us,r=>by
  rw[dD]at r;cases r with
  |cons a c=>
   cases a;exact .cons b (LW c)
def pz(g:X.calm=aD):jD X (.builtin "all") (λxs H Q=>∃(p:aB)(bs:List Bool),xs=[.ref p]/\aQ X.K H p (bs.map GE)/\Q (.bl (bs.all id)) H):=by
 intro U s Y H xs us Q I r h;obtain⟨p,bs,rfl,j,q⟩:=h;obtain⟨u,rfl,k⟩:=F3 r;cases k;obtain⟨a,l,pl,w⟩:=I.list j;obtain⟨m,F⟩:=I.fr;have d:=LW l;have c:=pl.isList;have n:p<s.heap.objs.size:=by obtain⟨_,e,_⟩:=c;exact cW e
 refine call_all_walk (qO c ?_);refine⟨s.heap.objs.size,[s.heap.objs.size,p],[s.heap.objs.size],a.toArray.size,_,_,λi=>(bs[i]?).getD aD,O,t3 (A:=X.A.in1) (I.ok.hd g) _ p (dC n) a.toArray,
  ⟨⟨_,fP _ O,O,O⟩,c.push _⟩,λi v L x y o f=>?_,λh' tk t=>?_⟩
 .obtain⟨b,e,rfl⟩:=d.get i v (by simpa using o);simp only[e,Option.getD_some]at f;exact oC f
 .have e:((eG a.toArray.size).all λi=>(bs[i]?).getD aD)=bs.all id:=by
   rw[eN,d.length];exact LSm.range_all bs
  rw[e];exact⟨.bl _,H,I.kept (LSm.kept_iter t),O,q⟩
def Gl:wJ X (λx lo hi H Q=>∃a,x=.str a/\a.length<=cP/\Q (.str (m9 a lo hi)) H):=by
 intro U s Y H x v m n lo hi o Q I g b pl pu h;obtain⟨a,rfl,c,q⟩:=h;obtain⟨t,rfl⟩:=g;refine⟨"str",_,F.slot_str_getitem.lookup,typeIs_str _ _ _,?_⟩;have d:∀(t':Tok)(k:Nat),fX X U Y Q (.str (m9 a lo hi) t') {s with toks:=k}:=λt' k=>⟨.str _,H,I.tok k,⟨t',O⟩,q⟩
 cases pl with
 |none=>
  cases pu with
  |none=>exact vN (l:=aF) (u:=aF) (st:=aF) b O (wp ⟨dN (wu a _ _) c,λt' k=>d t' k⟩)
  |int j e=>exact vN (l:=aF) (u:=Z (j,e)) (st:=aF) b O (wp ⟨dN (wu a _ _) c,λt' k=>d t' k⟩)
 |int i f=>
  cases pu with
  |none=>exact vN (l:=Z (i,f)) (u:=aF) (st:=aF) b O (wp ⟨dN (wu a _ _) c,λt' k=>d t' k⟩)
  |int j e=>exact vN (l:=Z (i,f)) (u:=Z (j,e)) (st:=aF) b O (wp ⟨dN (wu a _ _) c,λt' k=>d t' k⟩)
def qq:fS X (mz .Mult) (qA (λi j=>i.natAbs<2^4096/\j.natAbs<2^4096) λi j=>.int (i*j)):=s3 λi j _ _ _ _ _ a q=>
 mul_int q (IntMulOk.of_bits (dN (intBits_le a.1) YR) (dN (intBits_le a.2) YR))
def iL:fS X (mz .FloorDiv) (qA (λ_ j=>0<j/\j.natAbs.log2<9000) λi j=>.int (i/j)):=s3 λi j _ _ _ _ _ a q=>by
 have h1:(0:Int)<j:=a.1;exact floordiv_int YT (by rw[Int.fdiv_eq_ediv_of_nonneg i YT];exact q) (.inl (PyProof.noPylong_of_log2 a.2))
noncomputable def zk(x:aA):jI where
 go:=λi _=>i<x.cps.size
 yld:=λi H v H'=>H'=H/\∃c,x.cps[i]?=Z c/\v=.str ⟨#[c]⟩
 stop:=λi _=>i=x.cps.size
def DR{K:bJ}(G:aB)(x:aA)(t:Tok)(ty:String)
 (W:∀A:bX,A.handled=aF->Walks P w A G [G] [G] x.cps.size (SignAt x) (λi h=>h.IsStrIter G ty x t i))
 (hn:["enumerate","zip","dict_itemiterator","dict_reverseitemiterator","odict_iterator","itertools.zip_longest","itertools.pairwise"].contains ty=aK)
 (self:∀(A:bX)(i:Nat)(s:aJ)(Q E:aE->aJ->Prop),s.heap.IsStrIter G ty x t i->Q (.ref G) s->aU (aW P w) A (I2 (.ref G)) Q E s) :
  oN P w K tg (zk x) [G] G (λi h=>h.IsStrIter G ty x t i) where
 mem:=by simp
 obj:=λi h st b a=>by
  have e:b=G:=by simpa using a
  subst e;obtain⟨o,e,c,d⟩:=st;exact⟨o,e,λv z=>by rw[d]at z;cases z⟩
 keep:=λi h h' st k=>let ⟨o,C,r⟩:=st;⟨o,k G (by simp) o C,r⟩
 item:=by
  intro X f g j l i U s Y H E I hf st m;subst f g j;obtain⟨n,f1,f2,f3,p,q⟩:=hf G (by simp);refine(W X.A (I.ok.hd l)).item i s _ _ m st λv h' tk D B y=>?_;obtain⟨c,u,J,rfl⟩:=D;have L:Inv X U Y H {s with heap:=h',toks:=tk}:=I.turned (λb o a e=>y b o (by simpa using a) e) n f1 f3 p q;obtain⟨o,e,M,d⟩:=id B;exact⟨_,O,uA (s:={s with heap:=h',toks:=tk}) e M d hn ⟨.str ⟨#[c]⟩,H,L,⟨u,O⟩,⟨O,c,J,O⟩,B,λb a=>(hf b a).1⟩⟩
 done:=by
  intro X f g j l i U s Y H E I hf st m;subst f g j;obtain⟨n,f1,f2,f3,p,q⟩:=hf G (by simp);have N:i=x.cps.size:=m;subst N;exact(W X.A (I.ok.hd l)).done s _ _ st λh' tk y=>⟨O,I.turned (λb o a e=>y b o (by simpa using a) e) n f1 f3 p q⟩
 self:=self
def VS(B:bF):TI:=λY H R=>B Y H λx z=>∃a,x=.str a/\R (zk a) z
def Tn(g:bL X l B):lY X tg l (VS B):=.mk λU s Y H R I h=>by
 refine bT (g U s Y H _ I h) λv s1 z'=>?_;obtain⟨x,z,c,j,k⟩:=z';obtain⟨a,e,q⟩:=k;subst e;obtain⟨t,rfl⟩:=j;have fp:∀b∈[s1.heap.objs.size],pj X U z b:=λb m=>by
  have e:b=s1.heap.objs.size:=by simpa using m
  subst e;exact c.fpOk (bQ _) (c.hok.fresh (bQ _))
 cases f:a.cps.all (·<128)
 .refine wpAny_pyIter_wide f ?_;exact⟨s1.heap.objs.size,[s1.heap.objs.size],_,_,z,O,c.kept (t':=s1.toks) λb o e=>cZ _ e,DR _ a t "str_iterator" (λA d=>Walks.strWide d _ a t) YR (λA i s Q E st h=>wpAny_pyIter_striter_wide st h),
   ⟨_,fP _ O,O,O⟩,fp,q⟩
 .refine wpAny_pyIter_ascii f ?_;exact⟨s1.heap.objs.size,[s1.heap.objs.size],_,_,z,O,c.kept (t':=s1.toks) λb o e=>cZ _ e,DR _ a t "str_ascii_iterator" (λA d=>Walks.strAscii d _ a t) YR (λA i s Q E st h=>wpAny_pyIter_striter_ascii st h),
   ⟨_,fP _ O,O,O⟩,fp,q⟩
end
def Rb(t:x.cps.size<=cP)(Pv:Nat->M0->aC->Prop)(l:Pv 0 [] H)(n:∀i ys H,Pv i ys H->ys.length<=i)
 (o:∀i c ys H (K:aP) (k:aC->Prop),x.cps[i]?=Z c->Pv i ys H->(∀y a,Pv (i+1) (ys++[y]) a->K y a)->(∀b,Pv (i+1) ys b->k b) ->
   g (.str ⟨#[c]⟩) f H (sT h te K k))
 (r:∀ys H,Pv x.cps.size ys H->j ys H):q9 f g h te j (zk x) H:=by
 refine⟨λi m ys H=>m=x.cps.size-i/\i<=x.cps.size/\Pv i ys H,⟨x.cps.size,by simp,gU _,l⟩,?_⟩;rintro i m ys H ⟨rfl,hi,p⟩;by_cases d:i<x.cps.size
 .refine .inr ⟨d,?_,λv H' y=>?_⟩
  .have:=n i ys H p;omega
  .obtain⟨e,c,s,rfl⟩:=y;subst e;exact o i c ys _ _ _ s p (λy a q=>⟨x.cps.size-(i+1),YT,O,d,q⟩) λb q=>⟨x.cps.size-(i+1),YT,O,d,q⟩
 .have e:i=x.cps.size:=YT;subst e;exact .inl ⟨O,r ys H p⟩
def fU(s:xs.length<=cP)(Pv:Nat->M0->aC->Prop)(l:Pv 0 [] H)
 (n:∀i ys H,i<=xs.length->Pv i ys H->aQ F H a xs/\ys.length<=i)
 (o:∀i x ys H (K:aP) (k:aC->Prop),xs[i]?=Z x->Pv i ys H->(∀y b,Pv (i+1) (ys++[y]) b->K y b)->(∀c,Pv (i+1) ys c->k c) ->
   g x f H (sT h te K k))
 (r:∀ys H,Pv xs.length ys H->j ys H):q9 f g h te j (wD F a) H:=by
 refine⟨λi m ys H=>m=xs.length-i/\i<=xs.length/\Pv i ys H,⟨xs.length,by simp,gU _,l⟩,?_⟩;rintro i m ys H ⟨rfl,hi,p⟩;obtain⟨q,t⟩:=n i ys H hi p;by_cases d:i<xs.length
 .refine .inr ⟨⟨xs,xs[i],q,by simp[d]⟩,YT,λx H' y=>?_⟩;obtain⟨e,y⟩:=y;subst e;exact o i x ys _ _ _ (y xs q) p (λy b q=>⟨xs.length-(i+1),YT,O,d,q⟩) λc q=>⟨xs.length-(i+1),YT,O,d,q⟩
 .have e:i=xs.length:=YT;subst e;exact .inl ⟨⟨xs,q,bQ _⟩,r ys H p⟩
def ON{lo:Int}(s:n<=cP)(Pv:Nat->M0->aC->Prop)(k:Pv 0 [] H)(l:∀i ys H,Pv i ys H->ys.length<=i)
 (o:∀i ys H (K:aP) (j:aC->Prop),i<n->Pv i ys H->(∀y b,Pv (i+1) (ys++[y]) b->K y b)->(∀c,Pv (i+1) ys c->j c) ->
   g (.int (lo+i)) d H (sT f te K j))
 (r:∀ys H,Pv n ys H->h ys H):q9 d g f te h (r2 lo n) H:=by
 refine⟨λi m ys H=>m=n-i/\i<=n/\Pv i ys H,⟨n,by simp,gU _,k⟩,?_⟩;rintro i m ys H ⟨rfl,hi,p⟩;by_cases a:i<n
 .refine .inr ⟨a,?_,λv H' y=>?_⟩
  .have:=l i ys H p;omega
  .obtain⟨e,y⟩:=y;subst e y;exact o i ys _ _ _ a p (λy b q=>⟨n-(i+1),YT,O,a,q⟩) λc q=>⟨n-(i+1),YT,O,a,q⟩
 .have e:i=n:=YT;subst e;exact .inl ⟨bQ _,r ys H p⟩
structure cQ (K:bJ) (mg:aA->Option aE) (x:aA) (st:bO) (ps:L9):Prop where
 ex:∃(f:aB)(fd:iK),mT K x x st f fd/\lv K fd ps []/\mg x=Z (.ref f)
structure aY (P:bS) (w:bP) (K:bJ) (mg:aA->Option aE) (b_:bH) (k:Nat) (x:aA) (ps:L9) (sp:bW):Prop where
 ex:∃(f:aB)(fd:iK),hZ P w K mg b_ iV k f fd ps sp/\lv K fd ps []/\mg x=Z (.ref f)/\nL K (.ref f)=aD
section
variable{P:bS}{w:bP}{K:bJ}{mg:aA->Option aE}{b_:bH}
def cQ.fc{x:aA}{st:bO}{N ps:L9}{k:Nat}{sp:bW}(D:cQ K mg x st ps)(S:cB N ps (bM st))(len:∀vs H Q E,sp vs H Q E->vs.length=ps.length)
 (c:∀(f:aB)(a:aE)(A:bX)(o_:List eE)(s:aJ)(H:aC)(vs:M0)(Q:aP)(E:dG),eI k (A.deeper (J1 x (bM st) s.heap.objs.size f a))->sp vs H Q E ->
   ∃t,iB (hG iV P w K mg b_ N x (bM st) f a A o_ s H E).nox (jZ st) t/\t {nx:=λ_ H'=>Q .non H',rt:=Q} (start N vs) H):aY P w K mg b_ (k+1) x ps sp:=by
 obtain⟨f,fd,F,b,m⟩:=D.ex;exact⟨f,fd,F.ok S len λa A o_ s H vs Q E d h=>c f a A o_ s H vs Q E d h,b,m,F.kp⟩
def aY.imp(F:aY P w K mg b_ k x ps sp)(h:∀vs H Q E,a vs H Q E->sp vs H Q E):aY P w K mg b_ k x ps a:=by
 obtain⟨f,fd,G,b,m,kp⟩:=F.ex;exact⟨f,fd,G.imp h,b,m,kp⟩
def Yo{h:bH}{x:aA}{st:bO}{ps:L9}{f:aB}{g:aE}{i d:Option aB}{j:Array (Option aE)}{kV doc pm b e:aE}(X:K.In h)(G:h.Ns mM mg)
 (a:PySem.W.nsIn K mM x=Z (Z (.ref f)))(l:K.lookup f=Z ⟨g,i,.func (m6 x x (oV st) (jZ st) (bM st) .none kV doc pm d b e),j⟩)
 (c:rJ K b x=aD)(k:nL K (.ref f)=aD)
 (m:∀(kV doc pm:aE)(d:Option aB)(b e:aE)(us:M4),us.length=ps.length->q2 (m6 x x (oV st) (jZ st) (bM st) .none kV doc pm d b e) ⟨us,[]⟩=pure (ps.zip us)):cQ K mg x st ps:=
 ⟨f,_,tl l c k,(tl l c k).binds m,PySem.W.mg_of X G a⟩
end
section
variable{X:aX}{k:Nat}{ps:L9}{sp:bW}{x:aA}{p pos:Pos}{e:bI}{es:List bI}{t:eZ}
def bU(F:aY X.prog X.w X.K X.mg X.b_ k x ps sp)(a:eI n X.A)(c:iA X (e :: es) t)(d:jH X x:=by rfl)(g:(x == ("__debug__":aA))=aK:=by decide)
 (h:cN (e :: es) X.env=(aK,H5 e X.env) :: cN es X.env:=by rfl)(i:(H8 pos (cN es X.env)).any (·.1)=aK:=by rfl)(j:k≤n:=by decide) :
  bL X (.Call (.Name x p) (e :: es) [] pos) (Ab sp [] mS t):=by
 have l:=a.mono j
 obtain⟨f,fd,G,b,m,kp⟩:=F.ex
 exact Fl G l d m kp b .nil wZ c g h i
end
inductive sp1(f:V->aC->aP->Prop)(vs:M0)(H:aC)(Q:aP)(z3:dG):Prop
 |mk:∀x,vs=[x]->f x H Q->sp1 f vs H Q z3
inductive gA(f:V->V->aC->aP->Prop)(vs:M0)(H:aC)(Q:aP)(z3:dG):Prop
 |mk:∀x y,vs=[x,y]->f x y H Q->gA f vs H Q z3
inductive kU(f:V->V->V->aC->aP->Prop)(vs:M0)(H:aC)(Q:aP)(z3:dG):Prop
 |mk:∀x y z,vs=[x,y,z]->f x y z H Q->kU f vs H Q z3
def kJ:∀vs H Q E,sp1 f vs H Q E->vs.length=1:=λvs H Q E ⟨x,e,_⟩=>by rw[e];rfl
def fZ:∀vs H Q E,gA f vs H Q E->vs.length=2:=λvs H Q E ⟨x,y,e,_⟩=>by rw[e];rfl
def lA:∀vs H Q E,kU f vs H Q E->vs.length=3:=λvs H Q E ⟨x,y,a,e,_⟩=>by rw[e];rfl
def n3:jW "isinstance"=Z (.builtin "isinstance"):=YS
def px:jW "all"=Z (.builtin "all"):=YS
def iY:jW "len"=Z (.builtin "len"):=YS
def xN:jW "max"=Z (.builtin "max"):=YS
def uZ:jW "min"=Z (.builtin "min"):=YS
def DA:jW "str"=Z (.type "str"):=YS
def PW:jW "int"=Z (.type "int"):=YS
def OR:jW "bool"=Z (.type "bool"):=YS
def lM:jW "list"=Z (.type "list"):=YS
def AR:jW "tuple"=Z (.type "tuple"):=YS
def mW:jW "dict"=Z (.type "dict"):=YS
def DB:jW "set"=Z (.type "set"):=YS
inductive p6(K:bJ)(H:aC):V->Prop where
 |non:p6 K H .non
 |bl (b:Bool):p6 K H (.bl b)
 |int (i:Int):p6 K H (.int i)
 |str (x:aA):p6 K H (.str x)
 |lst {a:aB} {xs:M0} (e:H a=Z (.lst xs)):p6 K H (.ref a)
 |frz {a:aB} {o:aZ} {xs:M0} (e:H a=Z (.frz o (.lst xs))):p6 K H (.ref a)
 |tup {a:aB} {xs:M0} (e:H a=Z (.tup xs)):p6 K H (.ref a)
 |dK {a:aB} {J:List (aT×V)} (e:H a=Z (.dK J)):p6 K H (.ref a)
def py(K:bJ)(n:String):nK K (.type n) (.type n)=Z aD:=by
 unfold nK;rw[B4 (by simp)]
def oo(mg:aA->Option aE)(x:aA)(v:V):Prop:=∃u,mg x=Z u/\cE v u
def l7{x:aA}(h:oo X.mg x v)(a:jH X x:=by rfl)(b:(x == ("__debug__":aA))=aK:=by decide):bL X (.Name x pos) (tC v):=by
 obtain⟨u,hm,r⟩:=h
 exact RW a hm r b
def Yt{K:bJ}{mg:aA->Option aE}{x:aA}(X:K.In h)(G:h.Ns mM mg)(a:PySem.W.nsIn K mM x=Z (Z u))(r:cE v u):oo mg x v:=⟨u,PySem.W.mg_of X G a,r⟩
noncomputable def BB:cY->Bool
 |.lst _=>aD
 |.dK _=>aD
 |.set _ _=>aD
 |.ext _=>aD
 |.rng _ _=>aD
 |_=>aK
def hU(H' a:aC):Prop:=∀b,a b=H' b\/(a b=aF/\∃o,H' b=Z o/\BB o=aD)
def hU.refl(H:aC):hU H H:=λ_=>.inl O
def hU.trans(a:hU z H2)(b:hU H2 g):hU z g:=λc=>by
 rcases b c with e|⟨e,o,q,d⟩
 .rcases a c with f|⟨f,o,q,d⟩
  .exact .inl (e.trans f)
  .exact .inr ⟨e.trans f,o,q,d⟩
 .rcases a c with f|⟨f,_⟩
  .exact .inr ⟨e,o,f▸q,d⟩
  .rw[f]at q;cases q
def hU.new(h:H p=aF)(d:BB o=aD):hU (aI H p o) H:=λb=>by
 by_cases a:b=p
 .subst a;exact .inr ⟨h,o,aV,d⟩
 .exact .inl (bA a).symm
def hU.lst(h:H p=aF):hU (aI H p (.lst xs)) H:=hU.new h O
def fY(Q:aP):aP:=λv H'=>∃a,hU H' a/\Q v a
def fY.of(d:hU H' H)(q:Q v H):fY Q v H':=⟨H,d,q⟩
def dL.drop(d:hU H' i)(j:dL P w H' h):dL P w i h:=λb o e=>by
 have k:H' b=Z o:=by
  rcases d b with a|⟨a,_⟩
  .exact a.symm.trans e
  .rw[a]at e;cases e
 refine(j b o k).stay (λ_ _ _ q=>q) (λc q=>?_) λc xs q=>?_
 .rcases d c with a|⟨_,o',f,g⟩
  .exact a.trans q
  .rw[q]at f;cases f;cases g
 .rcases d c with a|⟨_,o',f,g⟩
  .exact a.trans q
  .rw[q]at f;cases f;cases g
def eJ.drop(d:hU H' g)(u:eJ fs ex H H' h h'):eJ fs ex H g h h' where
 keep:=u.keep
 slot:=u.slot
 free:=λb o e n i=>by
  rcases d b with a|⟨a,_⟩
  .exact a.trans (u.free b o e n i)
  .exact a
 there:=u.there
 tups:=λb xs e=>by
  have q:=u.tups b xs e;rcases d b with a|⟨_,o',c,f⟩
  .exact a.trans q
  .rw[q]at c;cases c;cases f
 frzs:=λb o v e=>by
  have q:=u.frzs b o v e;rcases d b with a|⟨_,o',c,f⟩
  .exact a.trans q
  .rw[q]at c;cases c;cases f
 tbls:=λb ps e=>by
  obtain⟨m,q⟩:=u.tbls b ps e;rcases d b with a|⟨_,o',c,f⟩
  .exact⟨m,a.trans q⟩
  .rw[q]at c;cases c;cases f
def hZ.drop{K:bJ}{mg:aA->Option aE}{k:Nat}{fd:iK}{ps:L9}{sp:bW}(len:∀vs H Q E,sp vs H Q E->vs.length=ps.length)
 (F:hZ P w K mg b_ iV k f fd ps (λvs H a E=>∃Q,sp vs H Q E/\a=fY Q)):hZ P w K mg b_ iV k f fd ps sp:=by
 refine⟨len,λA o_ s H args us vs Q E b c g i j=>oG (F.run A o_ s H args us vs (fY Q) E b c g i ⟨Q,j,O⟩) λr L h=>?_⟩;cases r with
 |error e=>exact h
 |ok fl=>
  cases fl with
  |ret u=>
   obtain⟨v,H',os,bare,l,m,n,o,d,q⟩:=h;exact⟨v,o,os,bare,l.drop d,m.drop d,n,q⟩
  |next=>exact h
  |brk=>exact h
  |cont=>exact h
def cQ.fcD{K:bJ}{mg:aA->Option aE}{x:aA}{st:bO}{N ps:L9}{k:Nat}{sp:bW}(D:cQ K mg x st ps)(S:cB N ps (bM st))(len:∀vs H Q E,sp vs H Q E->vs.length=ps.length)
 (d:∀(f:aB)(a:aE)(A:bX)(o_:List eE)(s:aJ)(H:aC)(vs:M0)(Q:aP)(E:dG),eI k (A.deeper (J1 x (bM st) s.heap.objs.size f a))->sp vs H Q E ->
   ∃t,iB (hG iV P w K mg b_ N x (bM st) f a A o_ s H E).nox (jZ st) t/\t {nx:=λ_ H'=>fY Q .non H',rt:=fY Q} (start N vs) H):aY P w K mg b_ (k+1) x ps sp:=by
 obtain⟨f,fd,F,b,m⟩:=D.ex;refine⟨f,fd,hZ.drop len (F.ok S (λvs H Q E ⟨c,h,_⟩=>len vs H c E h) λa A o_ s H vs Q E g z'=>?_),b,m,F.kp⟩;obtain⟨c,h,e⟩:=z';subst e;exact d f a A o_ s H vs c E g h
def aL.upd(h:H p=aF):aL H (aI H p o):=λb u e=>by
 rw[bA (cX e h)];exact e
inductive Xb(K:bJ)(x:V)(H:aC)(Q:aP):Prop
 |mk:∀(a:aB)(ns:M6),x=.ref a->aQ K H a (ns.map D1)->ns.length<=63->(∀H',Q (.bl aD) H')->Xb K x H Q
def ou{x:aA}{n:String}(hm:X.mg x=aF)(a:jW x=Z (.type n))(b:jH X x:=by rfl)(c:x≠"__name__":=by decide)(d:(x == ("__debug__":aA))=aK:=by decide):bL X (.Name x pos) (tC (.ty n)) :=
 RY b hm a rfl c d
end L2
open L2.aL renaming upd→C7
open L2.fY renaming of→F0
open L2.hU renaming lst→GM
namespace L2
def dA(h:Nat.ble n 1000=aD):n<=PySem.sizeLine:=dN (Nat.le_of_ble_eq_true h) YR
end L2
namespace L2
open PySem PySem.Spec PyProof.Rows
def zi(K:bJ)(a:aB):jI where
 go:=λi H=>∃xs x,aQ K H a xs/\xs[i]?=Z x
 yld:=λi H v H'=>∃p x,H p=aF/\v=.ref p/\H'=aI H p (.tup [.int i,x])/\∀ys,aQ K H a ys->ys[i]?=Z x
 stop:=λi H=>∃xs,aQ K H a xs/\xs.length<=i
def OZ{K:bJ}{a5:List bI}{k:Nat}(a e G:aB)(a1:e≠G) :
  oN P w K (.Tuple a5 k pos) (zi K a) [e,G] e (λi h=>(∃z,IsEnum h e G (i:Nat) z)/\h.IsListIter G a i) where
 mem:=by simp
 obj:=λi h ⟨⟨z,st⟩,l⟩ b g=>by
  have B:b=e\/b=G:=by simpa using g
  rcases B with rfl|rfl
  .exact⟨_,st,λv j=>by cases j⟩
  .obtain⟨o,e,c,d⟩:=l;exact⟨o,e,λv j=>by rw[d]at j;cases j⟩
 keep:=λi h h' ⟨⟨z,st⟩,l⟩ k=>⟨⟨z,k e (by simp) _ st⟩,l.at λo q=>k G (by simp) o q⟩
 item:=by
  intro X L M N f i U s Y H E I hf ⟨⟨z,st⟩,l⟩ Q;subst L M N;obtain⟨xs,x,J,T⟩:=Q;obtain⟨a6,a0,p,a7⟩:=I.list J;obtain⟨u,a8,a9⟩:=a0.get T;have t:=hf e (by simp);have y:=hf G (by simp);refine wpAny_pyNext_enum_item st l p.isList (x:=u) (by simpa using a8) a1 λh1 aa ac ae ar af=>⟨_,O,wpAny_letOwnedTupleGo_enum aa λh2 ag C=>?_⟩
  replace C:m7 e h1 h2:=C
  have a2:e<s.heap.objs.size:=cW st;have ah:G<s.heap.objs.size:=by obtain⟨o,q,_⟩:=l;exact cW q
  have D:∀b o,b≠e->b≠G->s.heap.get? b=Z o->h2.get? b=Z o:=λb o h3 ai q=>C.extBut b o h3 (af b o h3 ai q);have aj:h2.get? s.heap.objs.size=Z {cls:=.type "tuple",data:=.seq #[.int (i:Nat) s.toks,u]}:=C.extBut _ _ (nN a2) ae;have fresh:H s.heap.objs.size=aF:=I.hok.fresh (bQ _);have A:∀b,b∉[e,G]->b≠e/\b≠G:=λb g=>⟨λj=>g (by simp[j]),λj=>g (by simp[j])⟩
  have a3:∀b o,H b=Z o->b≠e/\b≠G:=λb o q=>⟨λj=>(by rw[j,t.1]at q;cases q),λj=>(by rw[j,y.1]at q;cases q)⟩
  have ak:Inv X U Y (aI H s.heap.objs.size (.tup [.int (i:Nat),x])) {s with heap:=h2,toks:=s.toks+1}:=by
   refine I.step (g':=s.gens) (d':=s.drawn) (ch:=[e,G]) (λb g=>?_) (λb o _ _ f q _=>D b o (A b f).1 (A b f).2 q) (λb o _ _ f q _=>⟨o.slots,D b o (A b f).1 (A b f).2 q⟩)
    (λb o _ q n=>by rw[bA (dC (cW q))];exact n) (λb o f q=>⟨o,D b o (A b f).1 (A b f).2 q⟩)
    (λb ys q=>by rw[bA (cX q fresh)];exact q) (λb o v q=>by rw[bA (cX q fresh)];exact q) (λb ps q=>⟨#[],by rw[bA (cX q fresh),q];simp⟩) (λm hm=>?_) (λb v q=>?_) I.bare
   .have B:b=e\/b=G:=by simpa using g
    rcases B with rfl|rfl
    .exact⟨t.2.2.2.1,t.2.1,t.2.2.2.2.1,t.2.2.2.2.2⟩
    .exact⟨y.2.2.2.1,y.2.1,y.2.2.2.2.1,y.2.2.2.2.2⟩
   .obtain⟨o,es,ep,al,r⟩:=hm;exact⟨o,es,ep,D _ o (D4 t.2.1) (D4 y.2.1) al,r⟩
   .by_cases g:b=s.heap.objs.size
    .subst g;rw[aV]at q;cases q;exact⟨by show 2<=cP;decide,[.int (i:Nat) s.toks,u],.cons ⟨_,O⟩ (.cons a9 .nil),⟨_,aj,O,_,O,O⟩⟩
    .rw[bA g]at q;refine(I.hok b v q).stay (λc o f r=>?_) (λc r=>by rw[bA (cX r fresh)];exact r) λc ys r=>by rw[bA (cX r fresh)];exact r
     have a4:c≠e/\c≠G:=by
      rcases f with rfl|f
      .exact a3 c v q
      .exact a3 c _ f
     exact D c o a4.1 a4.2 r
  refine⟨.ref s.heap.objs.size,_,ak,O,⟨_,x,fresh,O,O,λys am=>by rw[I.list_inj am J];exact T⟩,⟨⟨_,ag⟩,ac.extBut C.extBut (D4 a1)⟩,λb g=>?_⟩;have B:b=e\/b=G:=by simpa using g
  rcases B with rfl|rfl
  .rw[bA (dC a2)];exact t.1
  .rw[bA (dC ah)];exact y.1
 done:=by
  intro X L M N f i U s Y H E I hf ⟨⟨z,st⟩,l⟩ Q;subst L M N;obtain⟨xs,J,T⟩:=Q;obtain⟨a6,a0,p,a7⟩:=I.list J;obtain⟨an,f1,f2,f3,ao,ap⟩:=hf G (by simp);have as:=a0.length;exact wpAny_pyNext_enum_end (I.ok.hd f) st l p.isList (by simp;omega) λh' aq=>⟨O,I.turned (t':=s.toks) (λb o g q=>aq b o g q) an f1 f3 ao ap⟩
 self:=λ_ _ _ _ _ ⟨⟨_,st⟩,_⟩ h=>wpAny_pyIter_enum st h
def UX(K:bJ)(M:eZ):TI:=λY H R=>M Y H λvs z=>∃a,vs=[.ref a]/\(∃xs,aQ K z a xs)/\R (zi K a) z
def XT:jW "enumerate"=Z (.type "enumerate"):=YS
def RT(hm:X.mg "enumerate"=aF)(i:iA X [a] M)(j:jH X "enumerate":=by rfl)(n:cN [a] X.env=[(aK,H5 a X.env)]:=by rfl) :
  lY X (.Tuple g k m) (.Call (.Name "enumerate" p) [a] [] pos) (UX X.K M):=.mk λU s Y H R I h=>by
 refine Call_ (oW I j hm XT (qF (bT (i pos U s Y H _ I h) λus s1 z'=>?_) n O));obtain⟨vs,z,c,o,t⟩:=z';obtain⟨l,e,⟨xs,u⟩,q⟩:=t;subst e;cases o with
 |cons r w=>
  cases w;cases r;obtain⟨C,D,pl,E⟩:=c.list u;refine call_enumerate_list pl.isList λh' d x hsz y=>wpAny_pyIter_enum (s:={s1 with heap:=h'}) d ?_;have f:s1.heap.objs.size<=s1.heap.objs.size+1:=nO _;refine⟨s1.heap.objs.size+1,[s1.heap.objs.size+1,s1.heap.objs.size],_,_,z,O,c.kept (t':=s1.toks) y,OZ l _ _ (Nat.succ_ne_self _),⟨⟨_,d⟩,x⟩,λb A=>?_,q⟩;have B:b=s1.heap.objs.size+1\/b=s1.heap.objs.size:=by simpa using A
  rcases B with rfl|rfl
  .exact c.fpOk f (c.hok.fresh f)
  .exact c.fpOk (bQ _) (c.hok.fresh (bQ _))
inductive aH where
 |non|bl (b:Bool)|int (i:Int)|str (x:aA)|lst (N:List aH)|tup (N:List aH)|dct (ks:M7) (N:List aH)
abbrev M3:=List aH
mutual
def bY(H:aC):aH->V->Prop
 |.non,v=>v=.non
 |.bl b,v=>v=.bl b
 |.int i,v=>v=.int i
 |.str x,v=>v=.str x
 |.lst N,v=>∃a vs,v=.ref a/\H a=Z (.lst vs)/\IsL H N vs
 |.tup N,v=>∃a vs,v=.ref a/\H a=Z (.tup vs)/\IsL H N vs
 |.dct ks N,v=>∃a vs,v=.ref a/\H a=Z (.dK (ks.zip vs))/\vs.length=ks.length/\IsL H N vs
def IsL(H:aC):M3->M0->Prop
 |[],vs=>vs=[]
 |d::N,vs=>∃v r,vs=v::r/\bY H d v/\IsL H N r
end
noncomputable def TW:cY->Bool
 |.lst _=>aD
 |.tup _=>aD
 |.dK _=>aD
 |_=>aK
def sm(H H':aC):Prop:=∀b o,H b=Z o->TW o=aD->H' b=Z o
mutual
theorem bY.sameD(S:sm H H'):∀(d:aH)(v:V),bY H d v->bY H' d v
 |.non,_,h=>h
 |.bl _,_,h=>h
 |.int _,_,h=>h
 |.str _,_,h=>h
 |.lst N,_,⟨a,vs,e,o,h⟩=>⟨a,vs,e,S _ _ o O,IsL.sameD S N vs h⟩
 |.tup N,_,⟨a,vs,e,o,h⟩=>⟨a,vs,e,S _ _ o O,IsL.sameD S N vs h⟩
 |.dct ks N,_,⟨a,vs,e,o,l,h⟩=>⟨a,vs,e,S _ _ o O,l,IsL.sameD S N vs h⟩
theorem IsL.sameD(S:sm H H'):∀(N:M3)(vs:M0),IsL H N vs->IsL H' N vs
 |[],_,h=>h
 |d::N,_,⟨v,r,e,h,t⟩=>⟨v,r,e,bY.sameD S d v h,IsL.sameD S N r t⟩
end
def bY.same(S:aL H H')(d:aH)(v:V)(h:bY H d v):bY H' d v:=bY.sameD (λb o e _=>S b o e) d v h
def IsL.same(S:aL H H')(N:M3)(vs:M0)(h:IsL H N vs):IsL H' N vs:=IsL.sameD (λb o e _=>S b o e) N vs h
mutual
def nZ:aH->Bool
 |.lst _=>aK
 |.dct _ _=>aK
 |.tup N=>ow N
 |_=>aD
def ow:M3->Bool
 |[]=>aD
 |d::N=>nZ d&&ow N
end
def gG(H H':aC):Prop:=∀a xs,H a=Z (.tup xs)->H' a=Z (.tup xs)
mutual
theorem bY.keep(S:gG H H'):∀(d:aH)(v:V),nZ d=aD->bY H d v->bY H' d v
 |.non,_,_,h=>h
 |.bl _,_,_,h=>h
 |.int _,_,_,h=>h
 |.str _,_,_,h=>h
 |.lst N,_,f,_=>by cases f
 |.tup N,_,f,⟨a,vs,e,o,h⟩=>⟨a,vs,e,S _ _ o,IsL.keep S N vs f h⟩
 |.dct ks N,_,f,_=>by cases f
theorem IsL.keep(S:gG H H'):∀(N:M3)(vs:M0),ow N=aD->IsL H N vs->IsL H' N vs
 |[],_,_,h=>h
 |d::N,_,f,⟨v,r,e,h,t⟩=>⟨v,r,e,bY.keep S d v (iJ.mp f).1 h,IsL.keep S N r (iJ.mp f).2 t⟩
end
mutual
def iF:aH->aH->Bool
 |.non,.non=>aD
 |.bl a,.bl b=>a==b
 |.bl a,.int b=>(if a then 1 else 0)==b
 |.int a,.bl b=>a==(if b then 1 else 0)
 |.int a,.int b=>a==b
 |.str a,.str b=>a==b
 |.lst a,.lst b=>nD a b
 |.tup a,.tup b=>nD a b
 |_,_=>aK
def nD:M3->M3->Bool
 |[],[]=>aD
 |a::r,b::q=>iF a b&&nD r q
 |_,_=>aK
end
mutual
def iN:Nat->aH->Bool
 |_,.dct _ _=>aK
 |0,.lst _=>aK
 |0,.tup _=>aK
 |n+1,.lst N=>jK n N
 |n+1,.tup N=>jK n N
 |_,_=>aD
def jK:Nat->M3->Bool
 |_,[]=>aD
 |n,d::N=>iN n d&&jK n N
end
mutual
theorem x3:∀(n:Nat)(d:aH),iN n d=aD->iF d d=aD
 |_,.non,_=>rfl
 |_,.bl b,_=>B9 b
 |_,.int i,_=>B9 i
 |_,.str x,_=>B9 x
 |0,.lst N,f=>by cases f
 |0,.tup N,f=>by cases f
 |n+1,.lst N,f=>BC n N f
 |n+1,.tup N,f=>BC n N f
 |n,.dct ks N,f=>by cases n<;>cases f
theorem BC:∀(n:Nat)(N:M3),jK n N=aD->nD N N=aD
 |_,[],_=>rfl
 |n,d::N,f=>by
  rw[jK,fM]at f;show(iF d d&&nD N N)=aD;rw[x3 n d f.1,BC n N f.2];rfl
end
theorem IsL.length:∀{N:M3} {vs:M0},IsL H N vs->vs.length=N.length
 |[],_,h=>by rw[show _=[] from h];rfl
 |d::N,_,⟨v,r,e,_,t⟩=>by rw[e,fW,fW,IsL.length t]
mutual
theorem bY.inj:∀(d e:aH)(v:V),bY H d v->bY H e v->(∃n,iN n d=aD)->(∃n,iN n e=aD)->d=e
 |.non,e,v,h,h',_,_=>by
  cases e<;>simp_all [bY]
 |.bl b,e,v,h,h',_,_=>by
  cases e<;>simp_all [bY]
 |.int b,e,v,h,h',_,_=>by
  cases e<;>simp_all [bY]
 |.str b,e,v,h,h',_,_=>by
  cases e<;>simp_all [bY]
 |.lst N,e,v,⟨a,vs,q,o,h⟩,h',⟨n,f⟩,⟨m,g⟩=>by
  subst q;cases e with
  |lst es=>
   obtain⟨i,j,c,o',h'⟩:=h';cases c;rw[o]at o';cases o';cases n with
   |zero=>cases f
   |succ n=>
    cases m with
    |zero=>cases g
    |succ m=>rw[IsL.inj N es vs h h' ⟨n,f⟩ ⟨m,g⟩]
  |tup es=>
   obtain⟨i,j,c,o',h'⟩:=h';cases c;rw[o]at o';cases o'
  |dct ks es=>cases m<;>cases g
  |_=>simp_all [bY]
 |.tup N,e,v,⟨a,vs,q,o,h⟩,h',⟨n,f⟩,⟨m,g⟩=>by
  subst q;cases e with
  |tup es=>
   obtain⟨i,j,c,o',h'⟩:=h';cases c;rw[o]at o';cases o';cases n with
   |zero=>cases f
   |succ n=>
    cases m with
    |zero=>cases g
    |succ m=>rw[IsL.inj N es vs h h' ⟨n,f⟩ ⟨m,g⟩]
  |lst es=>
   obtain⟨i,j,c,o',h'⟩:=h';cases c;rw[o]at o';cases o'
  |dct ks es=>cases m<;>cases g
  |_=>simp_all [bY]
 |.dct ks N,e,v,_,h',⟨n,f⟩,_=>by cases n<;>cases f
theorem IsL.inj:∀(N es:M3)(vs:M0),IsL H N vs->IsL H es vs->(∃n,jK n N=aD)->(∃n,jK n es=aD)->N=es
 |[],es,vs,h,h',_,_=>by
  rw[show vs=[] from h]at h';cases es with
  |nil=>rfl
  |cons e es=>obtain⟨v,r,q,_⟩:=h';cases q
 |d::N,es,vs,⟨v,r,q,h,t⟩,h',⟨n,f⟩,⟨m,g⟩=>by
  subst q;cases es with
  |nil=>cases(show v::r=[] from h')
  |cons e es=>
   obtain⟨b,c,a,h',t'⟩:=h';cases a;rw[jK,fM]at f g;rw[bY.inj d e v h h' ⟨n,f.1⟩ ⟨m,g.1⟩,IsL.inj N es r t t' ⟨n,f.2⟩ ⟨m,g.2⟩]
end
theorem IsL.get:∀{N:M3} {vs:M0} {i:Nat} {d:aH},IsL H N vs->N[i]?=Z d->∃v,vs[i]?=Z v/\bY H d v
 |[],_,_,_,_,e=>by simp at e
 |d::N,_,0,d',⟨v,r,e,h,t⟩,q=>by
  simp at q;subst q e;exact⟨v,O,h⟩
 |d::N,_,i+1,d',⟨v,r,e,h,t⟩,q=>by
  subst e;obtain⟨u,h1,h2⟩:=IsL.get (i:=i) t (by simpa using q);exact⟨u,by simpa using h1,h2⟩
theorem Bh:∀(N es:M3),N.length=es.length->(eG N.length).all (λj=>iF (N.getD j .non) (es.getD j .non))=nD N es
 |[],[],_=>rfl
 |d::N,e::es,h=>by
  have a:=Bh N es (by simpa using h);rw[fW,List.range_succ_eq_map,rP,rR];show(iF d e&&(eG N.length).all (λj=>iF (N.getD j .non) (es.getD j .non)))=(iF d e&&nD N es)
  rw[a]
 |[],_::_,h=>by simp at h
 |_::_,[],h=>by simp at h
theorem zB:∀(N es:M3),N.length≠es.length->nD N es=aK
 |[],[],h=>B6 O h
 |d::N,e::es,h=>by
  show(iF d e&&nD N es)=aK;rw[zB N es (λq=>h (by simp[q]))];simp
 |[],_::_,_=>rfl
 |_::_,[],_=>rfl
theorem AQ:∀{n:Nat} {N:M3} {i:Nat} {d:aH},jK n N=aD->N[i]?=Z d->iN n d=aD
 |n,[],_,_,_,e=>by simp at e
 |n,d::N,0,d',f,e=>by
  simp at e;subst e;rw[jK,fM]at f;exact f.1
 |n,d::N,i+1,d',f,e=>by
  rw[jK,fM]at f;exact AQ (i:=i) f.2 (by simpa using e)
theorem IsL.snoc(h:bY H d v):∀{N:M3} {vs:M0},IsL H N vs->IsL H (N++[d]) (vs++[v])
 |[],_,e=>by
  rw[show _=[] from e];exact⟨v,[],O,h,O⟩
 |d'::N,_,⟨a,r,e,h',t⟩=>by
  subst e;exact⟨a,r++[v],O,h',IsL.snoc h t⟩
theorem IsL.rev:∀{N:M3} {vs:M0},IsL H N vs->IsL H N.reverse vs.reverse
 |[],_,e=>by rw[show _=[] from e];exact O
 |d::N,_,⟨v,r,e,h,t⟩=>by
  subst e;rw[List.reverse_cons,List.reverse_cons];exact IsL.snoc h (IsL.rev t)
theorem IsL.app(h:IsL H es us):∀{N:M3} {vs:M0},IsL H N vs->IsL H (N++es) (vs++us)
 |[],_,e=>by rw[show _=[] from e];exact h
 |d::N,_,⟨v,r,e,h',t⟩=>by
  subst e;exact⟨v,r++us,O,h',IsL.app h t⟩
theorem IsL.strs(H:aC):∀zs:L9,IsL H (zs.map aH.str) (zs.map C9)
 |[]=>rfl
 |z::zs=>⟨.str z,zs.map C9,O,O,IsL.strs H zs⟩
def gG.lst(h:H l=Z (.lst xs)):gG H (aI H l o):=λa ys e=>by
 have:a≠l:=si e h (by intro b;cases b);rw[bA this];exact e
def aL.over(S:aL H H')(a:H l=aF):aL H (L2.aI H' l o):=λb u e=>by
 rw[bA (cX e a)];exact S b u e
theorem Bf:∀{N:M3},(∀d∈N,iN n d=aD)->jK n N=aD
 |[],_=>by rw[jK]
 |d::N,h=>by
  rw[jK,h d eB,Bf λe m=>h e (eK _ m)];rfl
inductive q6(s:aJ)(H:aC):aH->aE->Prop where
 |non:q6 s H .non .none
 |bl (b:Bool):q6 s H (.bl b) (.bool b)
 |int (i:Int) (t:Tok):q6 s H (.int i) (.int i t)
 |str (x:aA) (t:Tok):q6 s H (.str x) (.str x t)
 |lst {N:M3} {l:aB} {its:M4} {vs:M0} (hl:s.heap.IsList l its.toArray) (r:cA vs its) (h:IsL H N vs):q6 s H (.lst N) (.ref l)
 |tup {N:M3} {l:aB} {its:M4} {vs:M0} (hl:s.heap.IsTuple l its.toArray) (r:cA vs its) (h:IsL H N vs):q6 s H (.tup N) (.ref l)
section
variable{X:aX}{U:List (aB×aZ)}{Y:St}{H:aC}{s:aJ}
def bY.view(I:Inv X U Y H s)(f:iN n d=aD)(h:bY H d v)(r:cE v u):q6 s H d u:=by
 cases d with
 |non=>cases(show v=.non from h);cases r;exact .non
 |bl b=>cases(show v=.bl b from h);cases r;exact .bl b
 |int b=>cases(show v=.int b from h);obtain⟨t,rfl⟩:=r;exact .int b t
 |str b=>cases(show v=.str b from h);obtain⟨t,rfl⟩:=r;exact .str b t
 |lst N=>
  obtain⟨a,vs,rfl,o,h⟩:=h;cases r;obtain⟨e,c,pl,g⟩:=I.list (C8 o);exact .lst pl.isList c h
 |tup N=>
  obtain⟨a,vs,rfl,o,h⟩:=h;cases r;obtain⟨e,c,pl,g⟩:=I.tuple (D0 o);exact .tup pl c h
 |dct ks N=>cases n<;>cases f
open PySem.SeqAt in
def xB(o:A.units+n<I8)
 (p:∀(d e:aH)(v b:V)(u a:aE)(A:bX),A.units+n<I8->iN n d=aD->iN n e=aD->bY H d v->bY H e b->cE v u->cE b a->EqAt A s u a (iF d e))
 (f:jK n N=aD)(g:jK n es=aD)(h:IsL H N vs)(h':IsL H es i)(r:cA vs c)(k:cA i its')
 (j:Nat)(h1:j<c.toArray.size)(h2:j<its'.toArray.size):EqAt A s c.toArray[j] its'.toArray[j] (iF (N.getD j .non) (es.getD j .non)):=by
 have l1:=r.length;have l2:=k.length;have B:=h.length;have C:=h'.length;rw[eN]at h1 h2;have l:N[j]?=Z (N.getD j .non):=by
  rw[kr,cJ YT];rfl
 have m:es[j]?=Z (es.getD j .non):=by
  rw[kr,cJ YT];rfl
 obtain⟨v,q,t⟩:=h.get l;obtain⟨b,w,x⟩:=h'.get m;obtain⟨u,D,k1⟩:=r.get q;obtain⟨a,p2,k2⟩:=k.get w;have y:c.toArray[j]=u:=by
  have:=cR.mp D;obtain⟨_,e⟩:=this;simpa using e
 have z:its'.toArray[j]=a:=by
  have:=cR.mp p2;obtain⟨_,e⟩:=this;simpa using e
 rw[y,z];exact p _ _ v b u a A o (AQ f l) (AQ g m) t x k1 k2
open PySem.SeqAt in
def Ae(I:Inv X U Y H s)
 (D:∀(d e:aH)(v B:V)(u y:aE)(A:bX),A.units+n<I8->iN n d=aD->iN n e=aD->bY H d v->bY H e B->cE v u->cE B y->EqAt A s u y (iF d e))
 (d e:aH)(v B:V)(u y:aE)(A:bX)(T:A.units+(n+1)<I8)(f:iN (n+1) d=aD)(g:iN (n+1) e=aD)(h:bY H d v)(h':bY H e B)(r:cE v u)(G:cE B y) :
  RcAt A s u y (iF d e)/\RcNeAt A s u y (!iF d e):=by
 have i:A.units<I8:=YT;have E:A.in1.units+n<I8:=by show A.units+1+n<I8;omega
 have w:=bY.view I f h r;have z:=bY.view I g h' G;cases w with
 |non=>
  cases z with
  |non=>exact⟨RcAt.none_none,RcNeAt.none_none⟩
  |bl b=>exact⟨RcAt.none_bool _,RcNeAt.none_bool _⟩
  |int b t=>exact⟨RcAt.none_int _ _,RcNeAt.none_int _ _⟩
  |str b t=>exact⟨RcAt.none_str _ _,RcNeAt.none_str _ _⟩
  |lst c _ _=>exact⟨RcAt.none_list c i,RcNeAt.none_list c i⟩
  |tup c _ _=>exact⟨RcAt.none_tuple c i,RcNeAt.none_tuple c i⟩
 |bl a=>
  cases z with
  |non=>exact⟨RcAt.bool_none _,RcNeAt.bool_none _⟩
  |bl b=>exact⟨RcAt.bool_bool _ _,RcNeAt.bool_bool _ _⟩
  |int b t=>exact⟨RcAt.bool_int _ _ _,RcNeAt.bool_int _ _ _⟩
  |str b t=>exact⟨RcAt.bool_str _ _ _,RcNeAt.bool_str _ _ _⟩
  |lst c _ _=>exact⟨RcAt.bool_list _ c i,RcNeAt.bool_list _ c i⟩
  |tup c _ _=>exact⟨RcAt.bool_tuple _ c i,RcNeAt.bool_tuple _ c i⟩
 |int a t=>
  cases z with
  |non=>exact⟨RcAt.int_none _ _,RcNeAt.int_none _ _⟩
  |bl b=>exact⟨RcAt.int_bool _ _ _,RcNeAt.int_bool _ _ _⟩
  |int b t=>exact⟨RcAt.int_int _ _ _ _,RcNeAt.int_int _ _ _ _⟩
  |str b t=>exact⟨RcAt.int_str _ _ _ _,RcNeAt.int_str _ _ _ _⟩
  |lst c _ _=>exact⟨RcAt.int_list _ _ c i,RcNeAt.int_list _ _ c i⟩
  |tup c _ _=>exact⟨RcAt.int_tuple _ _ c i,RcNeAt.int_tuple _ _ c i⟩
 |str a t=>
  cases z with
  |non=>exact⟨RcAt.str_none _ _,RcNeAt.str_none _ _⟩
  |bl b=>exact⟨RcAt.str_bool _ _ _,RcNeAt.str_bool _ _ _⟩
  |int b t=>exact⟨RcAt.str_int _ _ _ _,RcNeAt.str_int _ _ _ _⟩
  |str b t=>exact⟨RcAt.str_str _ _ _ _,RcNeAt.str_str _ _ _ _⟩
  |lst c _ _=>exact⟨RcAt.str_list _ _ c i,RcNeAt.str_list _ _ c i⟩
  |tup c _ _=>exact⟨RcAt.str_tuple _ _ c i,RcNeAt.str_tuple _ _ c i⟩
 |@lst N l m vs c o hi=>
  cases z with
  |non=>exact⟨RcAt.list_none c i,RcNeAt.list_none c i⟩
  |bl b=>exact⟨RcAt.list_bool _ c i,RcNeAt.list_bool _ c i⟩
  |int b t=>exact⟨RcAt.list_int _ _ c i,RcNeAt.list_int _ _ c i⟩
  |str b t=>exact⟨RcAt.list_str _ _ c i,RcNeAt.list_str _ _ c i⟩
  |@lst es J its' L k p q=>
   have C:jK n N=aD:=f;have g':jK n es=aD:=g;have l1:=o.length;have l2:=p.length;have M:=hi.length;have Q:=q.length;by_cases x:N.length=es.length
   .have hsz:m.toArray.size=its'.toArray.size:=by rw[eN,eN];omega
    have key:(eG m.toArray.size).all (λj=>iF (N.getD j .non) (es.getD j .non))=iF (.lst N) (.lst es):=by
     rw[eN,show m.length=N.length by omega];exact Bh N es x
    rw[←key];exact⟨RcAt.lists c k hsz i (xB E D C g' hi q o p),RcNeAt.lists c k hsz i (xB E D C g' hi q o p)⟩
   .have key:iF (.lst N) (.lst es)=aK:=zB N es x;have hsz:(m.toArray.size != its'.toArray.size)=aD:=by
     rw[eN,eN,bne_iff_ne];omega
    rw[key];exact⟨RcAt.lists_lengths c k hsz i,RcNeAt.lists_lengths c k hsz i⟩
  |tup k _ _=>exact⟨RcAt.list_tuple c k i,RcNeAt.list_tuple c k i⟩
 |@tup N l m vs c o hi=>
  cases z with
  |non=>exact⟨RcAt.tuple_none c i,RcNeAt.tuple_none c i⟩
  |bl b=>exact⟨RcAt.tuple_bool _ c i,RcNeAt.tuple_bool _ c i⟩
  |int b t=>exact⟨RcAt.tuple_int _ _ c i,RcNeAt.tuple_int _ _ c i⟩
  |str b t=>exact⟨RcAt.tuple_str _ _ c i,RcNeAt.tuple_str _ _ c i⟩
  |lst k _ _=>exact⟨RcAt.tuple_list c k i,RcNeAt.tuple_list c k i⟩
  |@tup es J its' L k p q=>
   have C:jK n N=aD:=f;have g':jK n es=aD:=g;have l1:=o.length;have l2:=p.length;have M:=hi.length;have Q:=q.length;have key:((eG (min m.toArray.size its'.toArray.size)).all (λj=>iF (N.getD j .non) (es.getD j .non))&&m.toArray.size==its'.toArray.size)=iF (.tup N) (.tup es):=by
    rw[eN,eN,show m.length=N.length by omega,show its'.length=es.length by omega];show _=nD N es;by_cases x:N.length=es.length
    .rw[←x,Nat.min_self,Bh N es x];simp
    .rw[zB N es x,C1.mpr x];simp
   rw[←key];exact⟨RcAt.tuples c k i (xB E D C g' hi q o p),RcNeAt.tuples c k i (xB E D C g' hi q o p)⟩
open PySem.SeqAt in
def bY.eqAt(I:Inv X U Y H s):∀(n:Nat)(d e:aH)(v k:V)(u j:aE)(A:bX),A.units+n<I8->iN n d=aD->iN n e=aD->bY H d v->bY H e k->cE v u->cE k j->EqAt A s u j (iF d e):=by
 intro n
 induction n with
 |zero=>
  intro d e v k u j A q f g h h' r c;cases d with
  |lst _=>cases f
  |tup _=>cases f
  |dct _ _=>cases f
  |non=>
   cases e with
   |lst _=>cases g
   |tup _=>cases g
   |dct _ _=>cases g
   |_=>cases h;cases h';exact pE r c O O
  |bl b=>
   cases e with
   |lst _=>cases g
   |tup _=>cases g
   |dct _ _=>cases g
   |_=>cases h;cases h';exact pE r c O O
  |int b=>
   cases e with
   |lst _=>cases g
   |tup _=>cases g
   |dct _ _=>cases g
   |_=>cases h;cases h';exact pE r c O O
  |str b=>
   cases e with
   |lst _=>cases g
   |tup _=>cases g
   |dct _ _=>cases g
   |_=>cases h;cases h';exact pE r c O O
 |succ n y=>
  intro d e v k u j A q f g h h' r c;have z:=(Ae I y d e v k u j A q f g h h' r c).1;have w:=bY.view I f h r;have m:=bY.view I g h' c;have o:∀(l p:aB),u=.ref l->j=.ref p->EqAt A s u j (iF d e):=by
   rintro l p rfl rfl;by_cases x:l=p
   .subst x;have B:v=.ref l:=r.inj (show cE (.ref l) (.ref l) from O);have C:k=.ref l:=c.inj (show cE (.ref l) (.ref l) from O);subst B C;have D:=bY.inj d e _ h h' ⟨_,f⟩ ⟨_,g⟩;subst D;rw[x3 _ d f];exact EqAt.same _
   .exact EqAt.of_refs x z
  cases w with
  |lst i _ _=>
   cases m with
   |lst a _ _=>exact o _ _ O O
   |tup a _ _=>exact o _ _ O O
   |non=>exact EqAt.list_none i YT
   |bl b=>exact EqAt.list_bool _ i YT
   |int b t=>exact EqAt.list_int _ _ i YT
   |str b t=>exact EqAt.list_str _ _ i YT
  |tup i _ _=>
   cases m with
   |lst a _ _=>exact o _ _ O O
   |tup a _ _=>exact o _ _ O O
   |non=>exact EqAt.tuple_none i YT
   |bl b=>exact EqAt.tuple_bool _ i YT
   |int b t=>exact EqAt.tuple_int _ _ i YT
   |str b t=>exact EqAt.tuple_str _ _ i YT
  |non=>
   cases m with
   |lst a _ _=>exact EqAt.none_list a YT
   |tup a _ _=>exact EqAt.none_tuple a YT
   |_=>cases h;cases h';exact pE r c O O
  |bl b=>
   cases m with
   |lst a _ _=>exact EqAt.bool_list _ a YT
   |tup a _ _=>exact EqAt.bool_tuple _ a YT
   |_=>cases h;cases h';exact pE r c O O
  |int b t=>
   cases m with
   |lst a _ _=>exact EqAt.int_list _ _ a YT
   |tup a _ _=>exact EqAt.int_tuple _ _ a YT
   |_=>cases h;cases h';exact pE r c O O
  |str b t=>
   cases m with
   |lst a _ _=>exact EqAt.str_list _ _ a YT
   |tup a _ _=>exact EqAt.str_tuple _ _ a YT
   |_=>cases h;cases h';exact pE r c O O
end
inductive vd(neg:Bool)(x y:V)(H:aC)(Q:aP):Prop
 |mk:∀d e,bY H d x->bY H e y->iN 30 d=aD->iN 30 e=aD->Q (.bl (if neg then !iF d e else iF d e)) H->vd neg x y H Q
def Gs(c:X.A.units+64<I8):fS X (iU .Eq) (vd aK):=by
 intro U s Y H x y v u Q I a b h;obtain⟨d,e,h,h',f,g,q⟩:=h;exact(Ae (n:=29) I (bY.eqAt I 29) d e x y v u X.A YT f g h h' a b).1 _ _ _ _ ⟨.bl _,H,I,O,q⟩
def um(c:X.A.units+64<I8):fS X (iU .NotEq) (vd aD):=by
 intro U s Y H x y v u Q I a b h;obtain⟨d,e,h,h',f,g,q⟩:=h;exact(Ae (n:=29) I (bY.eqAt I 29) d e x y v u X.A YT f g h h' a b).2 _ _ _ _ ⟨.bl _,H,I,O,q⟩
inductive WK(neg:Bool)(x y:V)(H:aC)(Q:aP):Prop
 |mk:∀d p xs N,((H p=Z (.lst xs)\/H p=Z (.tup xs)))->y=.ref p->bY H d x->IsL H N xs->iN 30 d=aD->jK 30 N=aD->(Q (.bl (if neg then !(N.any λe=>iF e d) else N.any λe=>iF e d)) H)->WK neg x y H Q
noncomputable instance YA (k:aT) (l:M7):Decidable (k∈l):=decidable_of_iff (l.any (λx=>G9 (x=k))=aD) (by simp)
noncomputable def fL(key:Nat->aT):Nat->M7
 |0=>[]
 |i+1=>if key i∈fL key i then fL key i else fL key i++[key i]
theorem ye(key:Nat->aT):∀i,(fL key i).length<=i
 |0=>bQ _
 |i+1=>by
  have a:=ye key i;show(if key i∈fL key i then fL key i else fL key i++[key i]).length<=i+1;split
  .omega
  .rw[eW,lV];omega
theorem Ez(key:Nat->aT)(k:aT):∀i,k∈fL key i↔∃j,j<i/\key j=k
 |0=>by
  constructor
  .intro h;cases h
  .rintro⟨j,h,_⟩;omega
 |i+1=>by
  have a:=Ez key k i;show k∈(if key i∈fL key i then fL key i else fL key i++[key i])↔_;have step:(k∈fL key i\/k=key i)↔∃j,j<i+1/\key j=k:=by
   rw[a];constructor
   .rintro (⟨j,h,e⟩|e)
    .exact⟨j,YT,e⟩
    .exact⟨i,YT,e.symm⟩
   .rintro⟨j,h,e⟩;by_cases b:j=i
    .subst b;exact .inr e.symm
    .exact .inl ⟨j,YT,e⟩
  rw[←step];split
  .rename_i h;constructor
   .exact .inl
   .rintro (h'|rfl)
    .exact h'
    .exact h
  .rw[gN,eU]
theorem Dd(key:Nat->aT):∀n,(fL key n).length=n↔∀i j,i<j->j<n->key i≠key j
 |0=>⟨λ_ i j _ h=>B6 h (Nat.not_lt_zero _),λ_=>rfl⟩
 |n+1=>by
  have c:=Dd key n;have le:=ye key n;have b:=Ez key (key n) n;show(if key n∈fL key n then fL key n else fL key n++[key n]).length=n+1↔_;split
  .rename_i h;constructor
   .intro e;omega
   .intro e;obtain⟨j,a,q⟩:=b.mp h;exact B6 q (e j n a (rH n))
  .rename_i h;rw[eW,lV,Nat.add_right_cancel_iff,c];constructor
   .intro e i j hi a;by_cases q:j=n
    .subst q;exact λd=>h (b.mpr ⟨i,hi,d⟩)
    .exact e i j hi YT
   .intro e i j hi a;exact e i j hi YT
def n2(ks:M7):M7:=fL (λi=>ks.getD i (.inl 0)) ks.length
def Ds(ks:M7):(n2 ks).length=ks.length↔ks.Nodup:=by
 unfold n2;rw[Dd,tu,yy];constructor
 .intro h i j hi a b;have:=h i j b a;simpa [kr,hi,a] using this
 .intro h i j b a;have hi:i<ks.length:=YT;have:=h i j hi a b;simpa [kr,hi,a] using this
def FH(ks:M7):(n2 ks).length<=ks.length:=ye _ _
def sG(P:bS)(w:bP)(a:aB)(S:aT->Bool)(n:Nat):cY:=.ext λh=>h.SetOf (dI P w) a S n
def sG.ok(x:h.SetOf (dI P w) a S n):dQ P w H h a (sG P w a S n):=
 ⟨x,let ⟨o,_,_,_,b,_⟩:=x;⟨o,b⟩,λ_ _ ⟨o,es,ep,t,b,r⟩ k=>⟨o,es,ep,t,k o b,r⟩⟩
def QJ(h:(dI P w).is k v=aD):v.scannable=aD:=by
 rcases n6 h with ⟨i,t,rfl,rfl⟩|⟨x,t,rfl,rfl⟩<;>rfl
section
variable{P:bS}{w:bP}{A:bX}{R:Result->aJ->Prop}{I:aB}{fp g:List aB}{G:Array nR->Array nR->Prop}{n:Nat}{Pv:Nat->aE->Prop}{h:Nat->aJ->Prop}
def Od{h:bH}(x:h.SetOf (dI P w) a S n)(e:∀k,S k=b k)(q:n=c):h.SetOf (dI P w) a b c:=by
 obtain rfl:S=b:=funext e;subst q;exact x
def Ql(W:WalksS P w A.in1 I fp g G n Pv h)(D:aB)(q:D∉fp)(key:Nat->aT)(z:∀i v,Pv i v->(dI P w).is (key i) v=aD)(f:n+1<K5)(a1:∀s L,Moved (D::g) G s L->L.heap.SetOf (dI P w) D (λk=>G9 (k∈fL key n)) (fL key n).length->True) :
  ∀(m i:Nat)(s:aJ),n-i=m->i<=n->h i s->s.heap.SetOf (dI P w) D (λk=>G9 (k∈fL key i)) (fL key i).length ->
   (∀L,Moved (D::g) G s L->L.heap.SetOf (dI P w) D (λk=>G9 (k∈fL key n)) (fL key n).length->R (.ok (.ret .none)) L) ->
   I6 (aW P w) A (.builtin "set.update.loop" ⟨[.ref D,.ref I],[]⟩) R s:=by
 have B:D∉g:=λa=>q (W.sub _ a);have sub:∀b∈g,b∈D::g:=λb a=>eK _ a;have u:∀{s L:aJ} {S:aT->Bool} {c:Nat},Moved g G s L->s.heap.SetOf (dI P w) D S c->L.heap.SetOf (dI P w) D S c:=λd ⟨o,es,ep,t,C,r⟩=>⟨o,es,ep,t,d.heap D _ B C,r⟩
 intro m
 induction m with
 |zero=>
  intro i s E H st j l;obtain rfl:i=n:=YT;refine o8 PyProof.Rows.F.entry_set_update_loop ?_;rw[pR yr _];show aU _ A.in1 (I1 (.ref I)>>=_) _ _ s;exact aO (W.done s _ _ st λL d=>bN (l L (d.mono sub) (u d j)))
 |succ m J=>
  intro i s E H st j l;have lt:i<n:=YT;refine o8 PyProof.Rows.F.entry_set_update_loop ?_;rw[pR yr _];show aU _ A.in1 (I1 (.ref I)>>=_) _ _ s;refine aO (W.item i s _ _ lt st λv L pv M d=>?_);have p:=z i v pv;have N:=u d j;show aU _ A.in1 (I0 [v] (setAdd D v)>>=_) _ _ L;refine aO (jO ?_);unfold setAdd;refine jO (aO ((dI P w).pyHash (k:=key i) p ?_));have room:(fL key i).length+1<K5:=by have:=ye key i;omega
  refine wpAny_setAddHashed_of (knd:=dI P w) (s:={L with toks:=L.toks+1}) p (QJ p) N room λh' x Q=>?_;have T:h'.SetOf (dI P w) D (λk=>G9 (k∈fL key (i+1))) (fL key (i+1)).length:=by
   refine Od Q (λk=>?_) ?_
   .show(G9 (k∈fL key i)||G9 (k=key i))=G9 (k∈if key i∈fL key i then fL key i else fL key i++[key i]);by_cases a:key i∈fL key i
    .rw[B4 a];by_cases y:k=key i
     .subst y;simp[a]
     .simp[y]
    .rw[B3 a];simp
   .show(if G9 (key i∈fL key i)=aD then(fL key i).length else(fL key i).length+1)=(if key i∈fL key i then fL key i else fL key i++[key i]).length;by_cases a:key i∈fL key i
    .rw[B4 a,B4 (B0 a)]
    .rw[B3 a,B3 (by simpa using a)];simp
  refine bN ⟨o9 yr _,J (i+1) _ YT lt (W.frame _ L _ _ M (nO _) λb f o e=>?_) T λU Y a0=>?_⟩
  .rw[x.2 b (λa:b=D=>q (by rw[←a];exact f))];exact e
  .refine l U (Moved.trans W.gtrans ((d.mono sub).then_heap (nO _) λb o f e=>?_) Y) a0;rw[x.2 b (λa:b=D=>f (by rw[a];exact eB))];exact e
end
section
variable{P:bS}{w:bP}{A:bX}{E:aE->aJ->Prop}{s:aJ}
noncomputable abbrev nW (a:Bool):aZ:={cls:=.type "set",dict:=aF,data:=.set #[] 0 (.fresh 0 0 a)}
set_option maxHeartbeats 8000000 in
def NC{d:M4}{ks:M7}{Q:aE->aJ->Prop}(H:A.handled=aF)(I:s.heap.IsList l d.toArray)(J:∀i v,d[i]?=Z v->(dI P w).is (ks.getD i (.inl 0)) v=aD)(L:d.length=ks.length)(M:d.length+1<K5)
 (h:∀(h':bH)(tk:Nat),h'.SetOf (dI P w) s.heap.objs.size (λk=>G9 (k∈n2 ks)) (n2 ks).length->(∀b o,s.heap.get? b=Z o->h'.get? b=Z o)->Q (.ref s.heap.objs.size) {s with heap:=h',toks:=tk}) :
  aU (aW P w) A (call (.type "set") [.ref l]) Q E s:=by
 obtain⟨c,B,an⟩:=pS.mro;have ao:=pS.made;have ap:=pS.sub;refine oJ (codeAny_of_tree ?_);show aU _ _ (K6 (.type "set") _) _ _ _;refine bN ⟨yT _ YS,o8 PySem.F.entry_type_call ?_⟩;rw[bX.under_plain (weight_type_call_type "set" [.ref l] []) O];have aq:=pS.notType;have ar:=pS.canCreate;have as:=PySem.F.typeCall_set_1 (.ref l)
 repeat (any_goals (first|assumption|wp_step))
 refine oG (code_set_new_1 (.ref l) (E:=E) (Q₁:=λn s1=>∃a:Bool,n=.ref s.heap.objs.size/\s1={s with heap:=s.heap.push (nW a)}) λa=>⟨a,O,O⟩) λr s1 j=>?_;cases r with
 |error e=>exact j
 |ok fl=>
  cases fl with
  |ret n=>
   obtain⟨a,rfl,rfl⟩:=j;have p:(s.heap.push (nW a)).get? s.heap.objs.size=Z (nW a):=fP _ O;have N:aJ.TypeIs {s with heap:=s.heap.push (nW a)} (.ref s.heap.objs.size) "set":=⟨_,p,O⟩
   have au:=pS.init.lookup;have av:=pS.init.bind (.ref s.heap.objs.size)
   repeat (any_goals (first|assumption|wp_step))
   refine oG (vT (R:=wants (λr q=>r=.none/\∃h' tk,q={s with heap:=h',toks:=tk}/\h'.SetOf (dI P w) s.heap.objs.size (λk=>G9 (k∈n2 ks)) (n2 ks).length/\(∀b o,s.heap.get? b=Z o->h'.get? b=Z o)) E)
    pS.init.plain PySem.F.entry_set_init (check_set_init_1 N ?_)) λT q m=>?_
   .obtain⟨⟨aw,U,ax,Y⟩,t,u,x,y⟩:=I;simp only at u y;subst u y;have a0:(s.heap.push (nW a)).get? l=Z {cls:=.type "list",dict:=U,data:=.seq d.toArray x,slots:=Y}:=cZ _ t;have ay:=PySem.F.sub_list_set;have az:=PySem.F.sub_list_frozenset;have aR:(nP "list" == nP "dict")=aK:=YR;have z:(s.heap.push (nW a)).IsList l d.toArray:=⟨_,a0,O,x,O⟩
    have C:l<s.heap.objs.size:=cW t;unfold Builtin.«set.__init__» noKeywords Builtin.Frozenset.updateFrom;generalize a1:I2=lY
    wp_walk
    subst a1;refine qO z (aO (wpAny_runValue ?_));have a2:A.in1.in1.in1.handled=aF:=by simp[H]
    have a3:l≠(s.heap.push (nW a)).objs.size:=by rw[qR];exact dC (tK C)
    have a4:s.heap.objs.size∉[(s.heap.push (nW a)).objs.size,l]:=by
     rw[qR];simp only[dW,eU,mJ,C4,not_or];exact⟨dC (rH _),nN C⟩
    have a5:d.toArray.size=ks.length:=by rw[eN,L]
    refine Ql ((t3 a2 _ l a3 d.toArray).toS) s.heap.objs.size a4 (λi=>ks.getD i (.inl 0)) (λi v pv=>J i v (by simpa using pv)) (by rw[eN];exact M) (λ_ _ _ _=>trivial) (d.toArray.size-0) 0 _ YT (gU _)
     ⟨⟨_,fP _ O,O,O⟩,(z.push _)⟩ ?_ ?_
    .have g:((s.heap.push (nW a)).push {cls:=.type "list_iterator",data:=.fields #[.ref l,.int 0 0]}).get? s.heap.objs.size=Z (nW a):=cZ _ p;exact⟨_,#[],0,_,g,⟨O,O,O⟩,O,λe a6=>by simp at a6,λk=>by simp[fL],YR,by rfl,O⟩
    .intro a7 f D;obtain⟨a8,a9,aa,ac,ae⟩:=a7;have af:a9=s.gens:=f.gens;have ag:aa=s.drawn:=f.drawn;have ah:ae=s.os:=f.os;subst af ag ah;rw[a5]at D;show aU _ _ _ _ _ _;refine bN ?_;show aU _ _ (ret iS) _ _ _;refine bN ⟨O,a8,ac,O,D,λb o e=>?_⟩;have G:=cW e;have ai:b≠s.heap.objs.size:=dC G;have aj:b≠(s.heap.push (nW a)).objs.size:=by rw[qR];exact dC (tK G)
     exact f.heap b o (by simp only[dW,eU,mJ,C4,not_or];exact⟨ai,aj⟩) (cZ _ (cZ _ e))
   .cases T with
    |error e=>exact m
    |ok ak=>
     cases ak with
     |ret r=>
      obtain⟨rfl,h',tk,rfl,al,am⟩:=m
      repeat (any_goals (first|assumption|wp_step))
      exact h _ _ al am
     |_=>exact m.elim
  |_=>exact j.elim
end
section
variable{X:aX}
theorem Fx:∀{ks:M7} {us:M4},cA (ks.map kV) us->∀i v,us[i]?=Z v->(dI P w).is (ks.getD i (.inl 0)) v=aD
 |[],us,r,i,v,e=>by
  rw[mu]at r;cases r;simp at e
 |k::ks,us,r,i,v,e=>by
  rw[dD]at r;cases r with
  |cons b c=>
   cases i with
   |zero=>
    simp at e;subst e;cases k with
    |inl a=>obtain⟨t,rfl⟩:=b;exact Bx a t
    |inr a=>obtain⟨t,rfl⟩:=b;exact Bv a t
   |succ i=>
    have:=Fx (P:=P) (w:=w) c i v (by simpa using e);simpa using this
def JB(c:X.calm=aD):jD X (.type "set") (λxs H Q=>∃(p:aB)(ks:M7),xs=[.ref p]/\aQ X.K H p (ks.map kV)/\ks.length<=1000 /\
  ∀l,H l=aF->Q (.ref l) (aI H l (sG X.prog X.w l (λk=>G9 (k∈n2 ks)) (n2 ks).length))):=by
 intro U s Y H xs us Q I r h;obtain⟨p,ks,rfl,d,i,q⟩:=h;obtain⟨u,rfl,e⟩:=F3 r;cases e;obtain⟨j,a,pl,m⟩:=I.list d;have b:=a.length;rw[aS]at b;refine NC (ks:=ks) (I.ok.hd c) pl.isList (Fx a) b.symm (by unfold K5;omega) λh' tk f g=>?_;exact⟨.ref s.heap.objs.size,_,I.laid (t':=tk) g (bQ _) (sG.ok f),O,q _ (I.hok.fresh (bQ _))⟩
def call_len_set:jD X (.builtin "len") (λxs H Q=>∃l S n,xs=[.ref l]/\H l=Z (sG X.prog X.w l S n)/\n<=1000/\Q (.int n) H):=by
 intro U s Y H xs us Q I r h;obtain⟨l,S,n,rfl,e,g,q⟩:=h;obtain⟨u,rfl,b⟩:=F3 r;cases b;obtain⟨⟨o,es,ep,t,c,hex,d,i,j,k,f,a⟩,_⟩:=I.hok l _ e;refine PySem.call_len_set c hex d f (by rw[a];omega) ⟨.int n,H,I.tok _,⟨s.toks+1,by rw[a]⟩,q⟩
def Bw(h:q8 k v=aD):cE (kV k) v:=by
 rcases n6 h with ⟨i,t,rfl,rfl⟩|⟨x,t,rfl,rfl⟩
 .exact⟨t,O⟩
 .exact⟨t,O⟩
theorem x4:∀{xs:M0} {us:M4},us.length=xs.length->(∀(j:Nat)(u:aE)(x:V),us[j]?=Z u->xs[j]?=Z x->cE x u)->cA xs us
 |[],[],_,_=>.nil
 |x::xs,u::us,a,h=>.cons (h 0 u x O O) (x4 (by simpa using a) λj v y b c=>h (j+1) v y (by simpa using b) (by simpa using c))
 |[],_::_,a,_=>by simp at a
 |_::_,[],a,_=>by simp at a
theorem eL.get:∀{J:List (aT×V)} {vs:List (aT×aE)} {i:Nat} {p:aT×aE},eL J vs->vs[i]?=Z p->∃q,J[i]?=Z q/\q.1=p.1/\cE q.2 p.2
 |_,_,_,_,.nil,e=>by simp at e
 |_,_,0,_,.cons r _,e=>by simp at e;subst e;exact⟨_,O,r.1,r.2⟩
 |_,_,i+1,p,.cons _ t,e=>by
  obtain⟨q,h1,h2⟩:=eL.get (i:=i) (p:=p) t (by simpa using e);exact⟨q,by simpa using h1,h2⟩
def xl(e:X.calm=aD):jD X (.type "list") (λxs H Q=>∃p J,xs=[.ref p]/\eM H p (.dK J)/\∀l,H l=aF->Q (.ref l) (aI H l (.lst (J.map λa=>kV a.1)))):=by
 intro U s Y H xs us Q I r h;obtain⟨p,J,rfl,f,q⟩:=h;obtain⟨u,rfl,g⟩:=F3 r;cases g;obtain⟨i,lo,vs,a,m⟩:=f.ok I.hok;obtain⟨ep,n⟩:=m.dictAt;have o:=F5 a;refine PySem.W.kdl_call (PySem.W.kdl_dict (knd:=dI X.prog X.w) (kvs:=vs) (ep:=ep) lo) (I.ok.hd e) n YT λh' tk t c w z hi=>⟨.ref s.heap.objs.size,_,I.laid (t':=tk) w (bQ _) (show dQ X.prog X.w _ h' _ (.lst (J.map λa=>kV a.1)) from⟨by rw[aS];exact i,t.toList,c,?_,by simpa using z⟩),O,q _ (I.hok.fresh (bQ _))⟩;refine x4 (by rw[aS,nH,hi.1,o]) λj u x A b=>?_;obtain⟨k,y,B,C⟩:=hi.2 j u (by rw[←rE];exact A);obtain⟨d,D,E,_⟩:=eL.get a B;rw[dB,D]at b;have G:kV d.1=x:=by simpa using b
 subst G;rw[show d.1=k from E];exact Bw C
noncomputable def pO(v d:aB):cY:=.ext λh=>h.IsValuesView v d
def pO.ok(x:h.IsValuesView v d):dQ P w H h v (pO v d):=
 ⟨x,let ⟨o,a,_⟩:=x;⟨o,a⟩,λ_ _ ⟨o,a,r⟩ k=>⟨o,k o a,r⟩⟩
def xH:r5 X "dict.values" (λx vs H Q=>∃d J,x=.ref d/\vs=[]/\eM H d (.dK J)/\∀v,H v=aF->Q (.ref v) (aI H v (pO v d))):=by
 intro U s Y H x vs v us Q I c f h;obtain⟨d,J,rfl,rfl,g,q⟩:=h;cases c;have i:=f.zero;subst i;obtain⟨j,lo,ws,k,a⟩:=g.ok I.hok;exact rW tw a.typeIs PySem.F.entry_dict_values (PySem.F.args_dict_values_1 _) (meets_dict_values (dI X.prog X.w) d lo) ⟨⟨ws,a⟩,.ref s.heap.objs.size,_,I.laid (t':=s.toks) (λb l e=>cZ _ e) (bQ _) (pO.ok ⟨_,fP _ O,O,O⟩),O,q _ (I.hok.fresh (bQ _))⟩
def AA(e:X.calm=aD):jD X (.type "list") (λxs H Q=>∃v d J,xs=[.ref v]/\H v=Z (pO v d)/\eM H d (.dK J)/\∀l,H l=aF->Q (.ref l) (aI H l (.lst (J.map (·.2))))):=by
 intro U s Y H xs us Q I r h;obtain⟨v,d,J,rfl,ev,f,q⟩:=h;obtain⟨u,rfl,g⟩:=F3 r;cases g;obtain⟨i,lo,vs,a,m⟩:=f.ok I.hok;obtain⟨n,_⟩:=I.hok v _ ev;obtain⟨ep,o⟩:=m.dictAt;have p:=F5 a;refine PySem.W.kdl_call (PySem.W.kdl_values (knd:=dI X.prog X.w) (kvs:=vs) (ep:=ep)) (I.ok.hd e) ⟨n,o⟩ YT λh' tk t c w y hi=>⟨.ref s.heap.objs.size,_,I.laid (t':=tk) w (bQ _) (show dQ X.prog X.w _ h' _ (.lst (J.map (·.2))) from⟨by rw[aS];exact i,t.toList,c,?_,by simpa using y⟩),O,q _ (I.hok.fresh (bQ _))⟩;refine x4 (by rw[aS,nH,hi.1,p]) λj u x z b=>?_;obtain⟨k,A⟩:=hi.2 j u (by rw[←rE];exact z);obtain⟨B,C,_,D⟩:=eL.get a A;rw[dB,C]at b;have E:B.2=x:=by simpa using b
 subst E;exact D
end
def ME:r0 (.type "list") "keys"=pure aF:=by rw[typeLookup_type,builtinLookup_eq_fast];kernel_rfl
section
variable{P:bS}{w:bP}{A:bX}{E:aE->aJ->Prop}{s:aJ}
def Lx(m:A.handled=aF)(f:s.heap.get? a=Z {cls:=.type "list",dict:=aF,data:=.seq xs k,slots:=c})
 (h:∀h' tk,(∀b o,s.heap.get? b=Z o->h'.get? b=Z o)->Q aF {s with heap:=h',toks:=tk}):aU (aW P w) A (getAttr? (.ref a) "keys") Q E s:=by
 obtain⟨n,g,d,tk,os⟩:=s;have i:∀j,(⟨n,g,d,j,os⟩:aJ).TypeIs (.ref a) "list":=λ_=>⟨_,f,O⟩
 have f1:=sub_AttributeError;have f3:=yD.lookup;have p:=yD.bind (.ref a);have q:=am_list_getattr_none;unfold getAttr? getAttrBy? getAttrBy
 repeat (any_goals (first|assumption|exact i _|((with_reducible show aU _ _ (call (aE.builtin "list.__getattribute__") _ _) _ _ _);refine call_meets yD (i _) am_entry_list_getattribute (F.args_list_getattribute_2 _ _) (meets_getattribute_miss_list a xs k c "keys" _ ME YS) ⟨f,m,λh' j e l=>?_⟩)|wp_step))
 obtain⟨t',r,t⟩:=l.there;show aU _ _ (getattributeRaised _ _ _ _ _ _ _) _ _ _;unfold getattributeRaised
 repeat (any_goals (first|assumption|wp_step))
 exact h _ _ l.keeps
end
def xi:entryFor table "dict.update.loop"=Z Builtin.«dict.update.loop»:=entryFor_of_tree (by kernel_rfl)
def qc:plainId "dict.update.loop"=aD:=YS
section
variable{P:bS}{w:bP}{A:bX}{R:Result->aJ->Prop}{I:aB}{fp g:List aB}{G:Array nR->Array nR->Prop}{n:Nat}{Pv:Nat->aE->Prop}{h:Nat->aJ->Prop}
def PP(W:WalksS P w A.in1 I fp g G n Pv h)(D:aB)(z:D∉fp)(B:aE)(J:List (aT×aE))(ae:J.length=n)(af:n<=cP)(C:aJ)
 (Q:∀(i:Nat)(v:aE),Pv i v->∃(a:aB)(k:aT)(q x:aE)(j:aZ)(c:Nat),v=.ref a/\a∉D::g/\C.heap.get? a=Z j/\j.cls=.type "tuple"/\j.data=.seq #[q,x] c/\J[i]?=Z (k,x)/\(dI P w).is k q=aD) :
  ∀(m i:Nat)(s:aJ),n-i=m->i<=n->h i s->(∀b o,b∉D::g->C.heap.get? b=Z o->s.heap.get? b=Z o)->s.heap.DictOf (dI P w) D (merged [] (J.take i)) ->
   (∀L,Moved (D::g) G s L->L.heap.DictOf (dI P w) D (merged [] J)->R (.ok (.ret B)) L) ->
   I6 (aW P w) A (.builtin "dict.update.loop" ⟨[.ref D,.ref I,I3 i,B],[]⟩) R s:=by
 have T:D∉g:=λd=>z (W.sub _ d);have sub:∀b∈g,b∈D::g:=λb d=>eK _ d;have E:∀{s L:aJ} {l:List (aT×aE)},Moved g G s L->s.heap.DictOf (dI P w) D l->L.heap.DictOf (dI P w) D l:=λf ⟨o,es,ep,U,r⟩=>⟨o,es,ep,f.heap D _ T U,r⟩
 intro m
 induction m with
 |zero=>
  intro i s Y a0 st kp t u;obtain rfl:i=n:=YT;rw[dP YT]at t;refine o8 xi ?_;rw[pR qc _];show aU _ A.in1 (I1 (.ref I)>>=_) _ _ s;refine aO (W.done s _ _ st λL f=>?_);show aU _ A.in1 (Builtin.Dict.addKeywords D []>>=_) _ _ L;exact aO (bN (bN (u L (f.mono sub) (E f t))))
 |succ m a1=>
  intro i s Y a0 st kp t u;have lt:i<n:=YT;refine o8 xi ?_;rw[pR qc _];show aU _ A.in1 (I1 (.ref I)>>=_) _ _ s;refine aO (W.item i s _ _ lt st λv L pv a2 f=>?_);obtain⟨a,k,q,x,j,c,rfl,H,a3,a4,a5,hi,a6⟩:=Q i v pv;have a7:=E f t;have M:L.heap.get? a=Z j:=f.heap a j (λd=>H (sub a d)) (kp a j H a3);have a8:L.TypeIs (.ref a) "tuple":=⟨j,M,a4⟩
  refine aO (jO (aO (wpAny_tryCatch ?_)));unfold Builtin.Dict.pairItems;refine aO (rV a8 ?_);rw[B4 YR];refine aO (zf M a5 (bN ?_));show aU _ _ (I0 [q,x] (dictSet D q x)) _ _ L;refine jO (wpAny_dictSet_pairs a6 a7 (λh' N y=>?_) ?_)
  .have e:merged [] (J.take (i+1))=stored (merged [] (J.take i)) k x:=merged_take_succ [] J i (k,x) hi;rw[←e]at N;refine bN ⟨o9 qc _,a1 (i+1) _ YT lt (W.frame _ L _ _ a2 (nO _) λb p o e=>?_) (λb o p e=>?_) N λa9 aa ac=>?_⟩
   .rw[y.2 b (λd:b=D=>z (by rw[←d];exact p))];exact e
   .rw[y.2 b (λd:b=D=>p (by rw[d];exact eB))];exact f.heap b o (λd=>p (sub b d)) (kp b o p e)
   .refine u a9 (Moved.trans W.gtrans ((f.mono sub).then_heap (nO _) λb o p e=>?_) aa) ac;rw[y.2 b (λd:b=D=>p (by rw[d];exact eB))];exact e
  .have:=merged_length_le ([]:List (aT×aE)) (J.take i);rw[dY]at this;simp only[tO]at this;omega
end
section
variable{P:bS}{w:bP}{A:bX}{E:aE->aJ->Prop}{s:aJ}
def Nc{d:M4}{J:List (aT×aE)}{Q:aE->aJ->Prop}(t:A.handled=aF)(U:PlainL s.heap l d.toArray)(Y:d.length=J.length)(a0:d.length<=cP)
 (a1:∀(i:Nat)(v:aE),d[i]?=Z v->∃(a:aB)(k:aT)(g x:aE)(f:aZ)(c:Nat),v=.ref a/\s.heap.get? a=Z f/\f.cls=.type "tuple"/\f.data=.seq #[g,x] c/\J[i]?=Z (k,x)/\(dI P w).is k g=aD)
 (h:∀(h':bH)(tk:Nat),h'.DictOf (dI P w) s.heap.objs.size (merged [] J)->(∀b o,s.heap.get? b=Z o->h'.get? b=Z o)->Q (.ref s.heap.objs.size) {s with heap:=h',toks:=tk}) :
  aU (aW P w) A (call (.type "dict") [.ref l]) Q E s:=by
 refine zg (Q₁:=λ(u:aE)(y:aJ)=>u=cU s.heap.objs.size/\y={s with heap:=s.heap.push {cls:=.type "dict",data:=.dict #[]}}) F.kt_called_dict (F.kt_typeCall_dict_1 _) F.entry_dict_init (kt_code_dict_new _ ⟨O,O⟩) ?_;rintro u y ⟨rfl,rfl⟩;have j:(s.heap.push {cls:=.type "dict",data:=.dict #[]}).DictOf (dI P w) s.heap.objs.size []:=bH.DictOf.new s.heap;obtain⟨⟨am,an,ao,ap⟩,a2,z,B,C,D⟩:=id U;simp only at B C D;subst B C D;have a3:l<s.heap.objs.size:=cW z;have n:=cZ (h:=s.heap) {cls:=.type "dict",data:=.dict #[]} z;refine⟨j.typeIs,F.args_dict_init_2 _ _,?_⟩;unfold Builtin.«dict.__init__»;refine aO ?_;unfold Builtin.Dict.selfAndRest;refine aO (yN j.typeIs ?_);show aU _ _ (pure (s.heap.objs.size,[cU l])) _ _ _;refine bN ?_;show aU _ _ (vA "dict.__init__" s.heap.objs.size (.ref l) [] .none) _ _ _;unfold vA;refine aO (rV (T:="list") ⟨_,n,O⟩ ?_);rw[B4 YR];refine aO (Lx (by simp[t]) n λh1 G k1=>?_);show aU _ _ (rule _>>=_) _ _ _;refine aO (t5 ?_);have H:=k1 _ _ n;have I:h1.IsList l d.toArray:=⟨_,H,O,a2,O⟩
 refine aO (qO (s:={s with heap:=h1,toks:=G}) I ?_);have p:s.heap.objs.size<h1.objs.size:=by
  obtain⟨o,es,ep,q,_⟩:=j;exact cW (k1 _ _ q)
 have a4:l≠h1.objs.size:=dC (cW H);have a5:s.heap.objs.size∉[h1.objs.size,l]:=by
  simp only[dW,eU,mJ,C4,not_or];exact⟨dC p,nN a3⟩
 refine bN ⟨o9 qc _,?_⟩;have a6:A.in1.in1.handled=aF:=by simp[t]
 refine PP ((t3 a6 _ l a4 d.toArray).toS) s.heap.objs.size a5 .none J (by rw[eN,Y]) (by rw[eN];exact a0) {s with heap:=h1.push {cls:=.type "list_iterator",data:=.fields #[.ref l,.int 0 0]},toks:=G} (λi v pv=>?_) (d.toArray.size-0) 0 _ YT (gU _)
  ⟨⟨_,fP _ O,O,O⟩,(I.push _)⟩ (λ_ _ _ e=>e) ?_ ?_
 .obtain⟨a,k,g,x,f,c,rfl,L,a7,a8,hi,a9⟩:=a1 i v (by simpa using pv);have M:=cW L;refine⟨a,k,g,x,f,c,O,?_,cZ _ (k1 _ _ (cZ _ L)),a7,a8,hi,a9⟩;simp only[dW,eU,mJ,C4,not_or];exact⟨dC M,dC (rS M p)⟩
 .obtain⟨o,es,ep,q,r⟩:=j;exact⟨o,es,ep,cZ _ (k1 _ _ q),r⟩
 .intro aa m ac;obtain⟨ae,af,ag,ah,ai⟩:=aa;have aj:af=s.gens:=m.gens;have ak:ag=s.drawn:=m.drawn;have al:ai=s.os:=m.os;subst aj ak al;refine⟨O,h ae ah ac λb o e=>?_⟩;have N:=cW e;refine m.heap b o ?_ (cZ _ (k1 _ _ (cZ _ e)));simp only[dW,eU,mJ,C4,not_or];exact⟨dC N,dC (rS N p)⟩
end
def fF(H:aC)(ys:M0)(J:List (aT×V)):Prop:=Paired (λ(y:V)(b:aT×V)=>∃a,y=.ref a/\H a=Z (.tup [kV b.1,b.2])) ys J
def fF.nil(H:aC):fF H [] []:=mx
def fF.len(h:fF H ys J):ys.length=J.length:=pX h
def fF.same(S:aL H H')(h:fF H ys J):fF H' ys J:=Paired.mapP h λ_ _ h=>by obtain⟨a,e,o⟩:=h;exact⟨a,e,S _ _ o⟩
def fF.snoc(h:fF H ys J)(a:H p=aF):fF (aI H p (.tup [kV k,v])) (ys++[.ref p]) (J++[(k,v)]):=
 rU (h.same (C7 a)) ⟨p,O,aV⟩
section
variable{X:aX}
def RI(r:cE (kV k) u):(dI P w).is k u=aD:=by
 cases k with
 |inl a=>obtain⟨t,rfl⟩:=r;exact Bx a t
 |inr a=>obtain⟨t,rfl⟩:=r;exact Bv a t
def Lu(I:Inv X U Y H s){ys:M0}{J:List (aT×V)}{f:M4}(z':fF H ys J)(y':cA ys f) :
  ∃b:List (aT×aE),eL J b/\f.length=b.length/\∀(i:Nat)(v:aE),f[i]?=Z v->∃(a:aB)(k:aT)(h x:aE)(d:aZ)(c:Nat),v=.ref a/\s.heap.get? a=Z d/\d.cls=.type "tuple"/\d.data=.seq #[h,x] c/\b[i]?=Z (k,x)/\(dI X.prog X.w).is k h=aD:=by
 induction z' generalizing f with
 |nil=>cases y';exact⟨[],mx,O,λi v e=>by simp at e⟩
 |@cons _ x _ _ r t i=>
  obtain⟨k,L⟩:=x;obtain⟨a,e,o⟩:=r;cases y' with
  |cons r l=>
  obtain⟨b,h1,h2,m⟩:=i l;subst e;cases r;obtain⟨M,n,⟨d,g,p,c,w⟩,_⟩:=I.tuple (D0 o);obtain⟨y,j,rfl,z,A⟩:=cA.two n;refine⟨(k,j)::b,oH ⟨O,A⟩ h1,by simp[h2],λi v e=>?_⟩;cases i with
  |zero=>
   simp at e;subst e;exact⟨a,k,y,j,d,c,O,g,p,w,O,RI z⟩
  |succ i=>
   obtain⟨B,C,D,E,G,c',q⟩:=m i v (by simpa using e);exact⟨B,C,D,E,G,c',by simpa using q⟩
def oQ(e:X.calm=aD):jD X (.type "dict") (fun xs H Q=>∃(p:aB)(ys:M0)(J:List (aT×V)),xs=[.ref p]∧aQ X.K H p ys∧fF H ys J∧J.length≤1000∧(J.map (·.1)).Nodup∧∀ l,H l=aF→Q (.ref l) (aI H l (.dK J))):=by
 intro U s Y H xs us Q I r h;obtain⟨p,ys,J,rfl,f,g,w,i,q⟩:=h;obtain⟨u,rfl,j⟩:=F3 r;cases j;obtain⟨x,k,pl,y⟩:=I.list f;obtain⟨a,c,m,n⟩:=Lu I g k;have z:(1000:Nat)≤cP:=YR;have l1:=F5 c;have o:a.map (·.1)=J.map (·.1):=(eL.keys c).symm;refine Nc (J:=a) (I.ok.hd e) pl m YT n fun h' tk d t=>?_;rw[merged_nil_of_nodup a (by rw[o];exact i)] at d;refine⟨.ref s.heap.objs.size,_,I.laid (t':=tk) t (bQ _) (show dQ X.prog X.w _ h' _ (.dK J) from⟨YT,?_,a,c,d⟩),O,q _ (I.hok.fresh (bQ _))⟩;have b:=I.big;exact C1.mpr (nN b)
end
structure MethAt (K:bJ) (C:aB) (m j:aA) (st:bO) (ps:L9):Prop where
 ex:∃(f:aB)(fd:iK),mT K m j st f fd/\lv K fd ps []/\r4 K C m f
structure t8 (K:bJ) (C:aB) (j:aA) (st:bO) (ps:L9):Prop where
 ex:∃(f:aB)(fd:iK),mT K "__init__" j st f fd/\lv K fd ps []/\uc K C f
structure eR (P:bS) (w:bP) (K:bJ) (mg:aA->Option aE) (b_:bH) (k:Nat) (C:aB) (m:aA) (ps:L9) (sp:bW):Prop where
 ex:∃(f:aB)(fd:iK),hZ P w K mg b_ iV k f fd ps sp/\lv K fd ps []/\r4 K C m f
structure q3 (P:bS) (w:bP) (K:bJ) (mg:aA->Option aE) (b_:bH) (k:Nat) (C:aB) (ps:L9) (sp:bW):Prop where
 ex:∃(f:aB)(fd:iK),hZ P w K mg b_ iV k f fd ps sp/\lv K fd ps []/\uc K C f
section
variable{P:bS}{w:bP}{K:bJ}{mg:aA->Option aE}{b_:bH}{C:aB}{m j:aA}{st:bO}{N ps:L9}{k:Nat}{sp:bW}
def MethAt.mc(D:MethAt K C m j st ps)(S:cB N ps (bM st))(len:∀vs H Q E,sp vs H Q E->vs.length=ps.length)
 (c:∀(f:aB)(a:aE)(A:bX)(o_:List eE)(s:aJ)(H:aC)(vs:M0)(Q:aP)(E:dG),eI k (A.deeper (J1 j (bM st) s.heap.objs.size f a))->sp vs H Q E ->
   ∃t,iB (hG iV P w K mg b_ N j (bM st) f a A o_ s H E).nox (jZ st) t/\t {nx:=λ_ H'=>Q .non H',rt:=Q} (start N vs) H):eR P w K mg b_ (k+1) C m ps sp:=by
 obtain⟨f,fd,F,b,d⟩:=D.ex;exact⟨f,fd,F.ok S len λa A o_ s H vs Q E e h=>c f a A o_ s H vs Q E e h,b,d⟩
def t8.ic(D:t8 K C j st ps)(S:cB N ps (bM st))(len:∀vs H Q E,sp vs H Q E->vs.length=ps.length)
 (c:∀(f:aB)(a:aE)(A:bX)(o_:List eE)(s:aJ)(H:aC)(vs:M0)(Q:aP)(E:dG),eI k (A.deeper (J1 j (bM st) s.heap.objs.size f a))->sp vs H Q E ->
   ∃t,iB (hG iV P w K mg b_ N j (bM st) f a A o_ s H E).nox (jZ st) t/\t {nx:=λ_ H'=>Q .non H',rt:=Q} (start N vs) H):q3 P w K mg b_ (k+1) C ps sp:=by
 obtain⟨f,fd,F,b,d⟩:=D.ex;exact⟨f,fd,F.ok S len λa A o_ s H vs Q E e h=>c f a A o_ s H vs Q E e h,b,d⟩
def eR.imp(F:eR P w K mg b_ k C m ps sp)(h:∀vs H Q E,a vs H Q E->sp vs H Q E):eR P w K mg b_ k C m ps a:=by
 obtain⟨f,fd,G,b,c⟩:=F.ex;exact⟨f,fd,G.imp h,b,c⟩
def YG{f:aB}{g:aE}{h d:Option aB}{k:Array (Option aE)}{kV doc pm b e:aE}(a:lh K (.ref C) m=Z (Z (.ref f)))(i:tW K (.ref f)=aD)
 (l:K.lookup f=Z ⟨g,h,.func (m6 m j (oV st) (jZ st) (bM st) .none kV doc pm d b e),k⟩)(c:rJ K b j=aD)(kp:nL K (.ref f)=aD)
 (n:∀(kV doc pm:aE)(d:Option aB)(b e:aE)(us:M4),us.length=ps.length->q2 (m6 m j (oV st) (jZ st) (bM st) .none kV doc pm d b e) ⟨us,[]⟩=pure (ps.zip us)):MethAt K C m j st ps:=
 ⟨f,_,tl l c kp,(tl l c kp).binds n,⟨a,i,kp⟩⟩
def Yu{f:aB}{g:aE}{h d:Option aB}{k:Array (Option aE)}{kV doc pm b e:aE}(a:lh K (.ref C) "__init__"=Z (Z (.ref f)))(i:tW K (.ref f)=aD)
 (l:K.lookup f=Z ⟨g,h,.func (m6 "__init__" j (oV st) (jZ st) (bM st) .none kV doc pm d b e),k⟩)(c:rJ K b j=aD)(kp:nL K (.ref f)=aD)
 (mk:yW K C=aD)(m:nL K (.ref C)=aD)
 (n:∀(kV doc pm:aE)(d:Option aB)(b e:aE)(us:M4),us.length=ps.length->q2 (m6 "__init__" j (oV st) (jZ st) (bM st) .none kV doc pm d b e) ⟨us,[]⟩=pure (ps.zip us)):t8 K C j st ps:=
 ⟨f,_,tl l c kp,(tl l c kp).binds n,⟨mk,a,i,m⟩⟩
end
section
variable{X:aX}{k:Nat}{ps:L9}{sp:bW}{x m:aA}{p pos i:Pos}{o e:bI}{es:List bI}{M:bF}{t:eZ}{C:aB}
def pi(c:ma X.K C)(F:eR X.prog X.w X.K X.mg X.b_ k C m ps sp)(d:eI k X.A)(g:bL X o M)(h:iA X (e::es) t)
 (j:cN (e::es) X.env=(aK,H5 e X.env)::cN es X.env:=by rfl)(l:(H8 pos (cN es X.env)).any (·.1)=aK:=by rfl)
 (n:H5 (.Call (.Attribute o m i) (e::es) [] pos) X.env=(do
   let a ←H5 o X.env
   standAt i.atName
   let (f,first) ←I0 [a] (oK a m pl)
   q1 pos f first (H8 pos (cN (e::es) X.env)) (mR pos (mO [] X.env))):=by rfl) :
  bL X (.Call (.Attribute o m i) (e::es) [] pos) (ut C m sp [] mS M t):=by
 obtain⟨f,fd,G,b,p⟩:=F.ex;exact RU (pl:=pl) g c p G d b .nil wZ h j l n
def jA(c:ma X.K C)(F:eR X.prog X.w X.K X.mg X.b_ k C m ps sp)(d:eI k X.A)(e:bL X o M)
 (g:H5 (.Call (.Attribute o m i) [] [] pos) X.env=(do
   let a ←H5 o X.env
   standAt i.atName
   let (f,first) ←I0 [a] (oK a m pl)
   q1 pos f first (H8 pos (cN [] X.env)) (mR pos (mO [] X.env))):=by rfl) :
  bL X (.Call (.Attribute o m i) [] [] pos) (ut C m sp [] mS M su):=by
 obtain⟨f,fd,G,b,h⟩:=F.ex;exact Qx (pl:=pl) e c h G d b .nil wZ g
def Ah(hm:X.mg x=Z (.ref C))(F:q3 X.prog X.w X.K X.mg X.b_ k C ps sp)(a:eI (k+1) X.A)(c:iA X (e :: es) t)(d:jH X x:=by rfl)(g:(x == ("__debug__":aA))=aK:=by decide)
 (h:cN (e :: es) X.env=(aK,H5 e X.env) :: cN es X.env:=by rfl)(i:(H8 pos (cN es X.env)).any (·.1)=aK:=by rfl) :
  bL X (.Call (.Name x p) (e :: es) [] pos) (GV C sp [] mS t):=by
 obtain⟨f,fd,G,b,j⟩:=F.ex
 exact RV j G a d hm b .nil wZ c g h i
end
section
variable{X:aX}{K:bJ}
def oa(e:X.K=K):r3 X (xM K):=by subst e;exact TU
def mf(e:X.K=K):r3 X (AT K):=by subst e;exact Sk
def s6(e:X.K=K):wJ X (xO K):=by subst e;exact Tg
def Ev(e:X.K=K):fS X (mz .Add) (AS K):=by subst e;exact RZ
def sN(e:X.K=K):fS X (iU .In) (ve K aK):=by subst e;exact PA
def MV(e:X.K=K):fS X (iU .NotIn) (ve K aD):=by subst e;exact Nk
def kB(e:X.K=K):jD X (.builtin "len") (λxs H Q=>∃p ys,xs=[.ref p]/\(aQ K H p ys\/bE K H p ys)/\Q (.int ys.length) H):=by subst e;exact Ny
def n4(e:X.K=K):jD X (.builtin "isinstance") (λxs H Q=>∃x y c t b,xs=[x,y]/\Aq y=Z c/\lE K H x t/\nK K t c=Z b/\Q (.bl b) H):=by subst e;exact NU
def xn(e:X.K=K):jD X (.type "list") (λxs H Q=>∃p ys,xs=[.ref p]/\(aQ K H p ys\/bE K H p ys)/\∀l,H l=aF->Q (.ref l) (aI H l (.lst ys))):=by subst e;exact Nw
end
def lz{j:Int}(h:G9 (0<j)=aD):0<j:=B2 h
def sM(ae:X.N.Nodup)(af:X.N[i]?=Z x)(d:L9)(f:Nat)(w:List Nat)
 (ag:X.calm=aD)(hi:lY X tg iter a2)(ah:∀R,nc (kY X scope d R) tg g)(ai:uC f g)(aj:∀R,q5 (kY X scope d R) u a3)(ak:∀R,bL (kY X scope d R) t te)
 (z:Loc X.env.scope x:=by exact D5 O)(al:X.fn x=aD\/X.env.scope.names.lookup x=Z .local:=by trivial)
 (am:qZ (.ListComp t [⟨tg,iter,u,0⟩] scope c) (Z (.Name x A)) pos.line X.env=pure aD:=by rfl)
 (an:(scope.names.all λy=>!(y.2==.cell))=aD:=by rfl)(a4:scope.kind=.function:=by rfl)
 (ao:(scope.names.all λy=>!(y.2==.local)||(scope.names.lookup y.1==Z .local))=aD:=by rfl)
 (ap:(scope.names.all λy=>!(y.2==.free)||(X.env.kindOf y.1==Z .cell||X.env.kindOf y.1==Z .free))=aD:=by rfl)
 (aq:d.length=f+w.length:=by rfl)(ar:(w.map λj=>X.N[j]?)=(d.drop f).map Z:=by rfl)(as:((d.drop f).all λx=>scope.names.lookup x==Z .free)=aD:=by rfl)
 (au:∀x,y6 iter X.env x=pure x:=by intro _;rfl) :
  kz X (.Assign [.Name x A] (.ListComp t [⟨tg,iter,u,0⟩] scope c) pos) (w2 (GW f w a2 g a3 te) (nz i)):=.mk λU s Y H E I h=>by
 have a5:∀y∈scope.names,y.2=.free->(X.env.kindOf y.1=Z .cell\/X.env.kindOf y.1=Z .free):=λy n e=>by
  have a:=qt ap y n;rw[e]at a;have av:(X.env.kindOf y.1==Z .cell||X.env.kindOf y.1==Z .free)=aD:=a;rcases yM.mp av with q|q
  .exact .inl (C0.mp q)
  .exact .inr (C0.mp q)
 have aw:∀y∈scope.names,y.2≠.cell:=λy n e=>by
  have a:=qt an y n;rw[e]at a;cases a
 obtain⟨cl,ax,ay,az⟩:=CB (scope:=scope) (env:=X.env) λy n e=>I.ok.has y.1 (a5 y n e);have aR:∀y∈scope.names,y.2=.local->scope.names.lookup y.1=Z .local:=λy n e=>by
  have a:=qt ao y n;rw[e]at a;exact C0.mp a
 have b0:∀(k j:Nat),w[k]?=Z j->d[f+k]?=X.N[j]?:=λk j e=>by
  have a:=B7 (λl:List (Option aA)=>l[k]?) ar;simp only[dB,e,rI,vV]at a;cases q:d[f+k]? with
  |none=>rw[q]at a;cases a
  |some x=>rw[q]at a;exact(eA a).symm
 rw[exec_Assign_Name_used _ _ _ _ am];refine aO (pY (aO ?_));show aU _ X.A (do let _ ←comprehension (.ListComp t [⟨tg,iter,u,0⟩] scope c) scope X.env _ (newList []) aK (H5 iter X.env) (Z (assign (.Name x A) X.env))) _ _ s;refine aO (fA (K4 (use:=Z (assign (.Name x A) X.env)) (Q:=λ_ L=>md X U E .next L) O au ax a4 aR
  (bT (hi U s Y H _ I h) λv s1 h1=>bT h1 λbg bh h2=>?_)) (λ_ L b1=>bN (bN b1)) λ_ _ e=>e)
 obtain⟨G,fp,bi,J,H2,e,b2,T,b3,b4,b5⟩:=h2;subst e;refine Cz (RR:=λb6 C=>compPost (aW X.prog X.w) X.A X.xe (Z (assign (.Name x A) X.env)) (λ_ L=>md X U E .next L) b6 C) ag b2 T b3 b4 ay az aw a4 a5 aq b0 (λx z=>C0.mp (qt as x z)) ah ai aj ak b5 ?_;intro D C L H' ys b7 q M B;obtain⟨m,a6⟩:=B.ns;obtain⟨N,es,ep,a7,b8,bj⟩:=id a6;have b9:C∉X.fs:=λa0=>by
  obtain⟨_,o,ba,_⟩:=M.ok.funs.mem a0;exact B6 (gT (cW ba) B.ab) (oF _)
 have bb:Inv X ((C,N)::U) Y (aI H' D (.lst ys)) L:=M.pins_of λp r=>by
  rcases dW.mp r with rfl|r
  .exact⟨a7,B.fr,B.ne,b9,λv a=>by rw[b8]at a;cases a⟩
  .exact M.pin p (jV _ r)
 show aU _ X.A (assign (.Name x A) X.env (.ref D)) _ _ _;refine bT (cM ae af z al ((C,N)::U) L Y (aI H' D (.lst ys)) (.ref D) (.ref D) E.nx bb O (q D b7)) λ_ a8 bc=>?_;obtain⟨a9,aa,a1,bd⟩:=bc;have ac:=a1.pin (C,N) (jV _ eB);refine⟨m,a6.at' (λo e=>?_),λbk be=>⟨a9,aa,?_,bd⟩⟩
 .rw[a7]at e;cases e;exact ac.1
 .have bf:Inv X U a9 aa a8:=a1.pins_of λp r=>a1.pin p (jV _ (eK _ r));exact bf.turned (G:=C) (t':=a8.toks) (λb o a0 e=>be.extBut b o a0 e) ac.2.1 B.ne (.inr B.ab) B.cl B.pn
section
variable{X:aX}
inductive WL(x:V)(vs:M0)(H:aC)(Q:aP):Prop
 |mk:∀l xs i y,x=.ref l->vs=[.int i,y]->H l=Z (.lst xs)->0<=i->i<=xs.length->xs.length<cP->Q .non (aI H l (.lst (xs.take i.toNat++y::xs.drop i.toNat)))->WL x vs H Q
end
structure wC (K:bJ) (C:aB):Prop where
 ha:lh K (.ref C) "__class__"=Z (Z (.builtin "object.__class__"))
 hn:yO K (.builtin "object.__class__") "__get__"=Z (Z (.builtin "getset_descriptor.__get__"))
 htk:PySem.W.takesIn K (.builtin "object.__class__")=Z aD
 hm:PySem.W.mroIn K C (.type "object")=Z aD
def MethAt.mcD{K:bJ}{mg:aA->Option aE}{m j:aA}{st:bO}{N ps:L9}{k:Nat}{sp:bW}(D:MethAt K C m j st ps)(S:cB N ps (bM st))(len:∀vs H Q E,sp vs H Q E->vs.length=ps.length)
 (d:∀(f:aB)(a:aE)(A:bX)(o_:List eE)(s:aJ)(H:aC)(vs:M0)(Q:aP)(E:dG),eI k (A.deeper (J1 j (bM st) s.heap.objs.size f a))->sp vs H Q E ->
   ∃t,iB (hG iV P w K mg b_ N j (bM st) f a A o_ s H E).nox (jZ st) t/\t {nx:=λ_ H'=>fY Q .non H',rt:=fY Q} (start N vs) H):eR P w K mg b_ (k+1) C m ps sp:=by
 obtain⟨f,fd,F,b,g⟩:=D.ex;refine⟨f,fd,hZ.drop len (F.ok S (λvs H Q E ⟨c,h,_⟩=>len vs H c E h) λa A o_ s H vs Q E i z'=>?_),b,g⟩;obtain⟨c,h,e⟩:=z';subst e;exact d f a A o_ s H vs c E i h
def hU.under(e:H p=aF)(d:BB o=aD)(f:L2.aI H p o q=aF):hU (L2.aI (L2.aI H p o) q u) (L2.aI H q u):=λb=>by
 by_cases a:b=q
 .subst a;left;rw[aV,aV]
 .rw[bA a,bA a];by_cases c:b=p
  .subst c;right;exact⟨e,o,aV,d⟩
  .left;rw[bA c]
end L2
open L2.IsL renaming same→D2,snoc→D9,keep→FB,sameD→F8
open L2.aH renaming str→E8,int→E9,tup→F6,lst→G1
open L2.bY renaming same→F9
open L2.fF renaming nil→GT,snoc→G4
open L2.gG renaming lst→G7
namespace Ld
open PySem L2
noncomputable def oj(c:Nat):Bool:=G9 (97<=c)&&G9 (c<=122)
def jS(a:aA):Bool:=G9 (1<=a.length)&&G9 (a.length<=8)&&!G9 (a="sea")&&a.cps.toList.all oj
noncomputable def isInt:aH->Bool
 |.int _=>aD
 |_=>aK
noncomputable def uF:aH->Bool
 |.bl _=>aD
 |_=>aK
noncomputable def US:aH->Bool
 |.str _=>aD
 |_=>aK
noncomputable def UT:aH->Bool
 |.lst _=>aD
 |_=>aK
noncomputable def UR:aH->Bool
 |.tup _=>aD
 |_=>aK
noncomputable def wX(n:Int):aH->Bool
 |.tup N=>G9 ((N.length:Int)=n)
 |_=>aK
noncomputable def w0(n:Int):aH->Bool
 |.lst N=>G9 (1<=N.length)&&G9 ((N.length:Int)<=n)
 |_=>aK
def pD:aH->Bool
 |.str a=>jS a
 |_=>aK
noncomputable def fC(i:Int):Bool:=G9 (-1000000<=i)&&G9 (i<=1000000)
noncomputable def ni(i:Int):Bool:=G9 (0<=i)&&G9 (i<=1000000)
def nk:aH->Bool
 |.int i=>fC i
 |_=>aK
def qj:aH->Bool
 |.int i=>ni i
 |_=>aK
noncomputable def gK(zs:L9):aH->Bool
 |.str a=>G9 (a∈zs)
 |_=>aK
noncomputable def gY:aH->Option aA
 |.tup (.str a::_)=>Z a
 |_=>aF
def jY:aH->Bool
 |.tup [a,b,c]=>pD a&&(nk b&&qj c)
 |_=>aK
def u0:aH->Bool
 |.lst N=>(G9 (1<=N.length)&&G9 (N.length<=12))&&(N.all jY&&G9 ((N.map gY).Nodup))
 |_=>aK
def sZ(zs:L9)(a b:aH):Bool:=gK zs a&&(gK zs b&&!iF a b)
def ol(c:aH):aH->Bool
 |.non=>aD
 |.int i=>fC i&&(match c with|.int j=>G9 (i<j)|_=>aK)
 |_=>aK
def ko(zs:L9):aH->Bool
 |.tup [n,a,b,c,r,s]=>pD n&&sZ zs a b&&(nk c&&(qj r&&ol c s))
 |_=>aK
def vc(zs:L9):aH->Bool
 |.lst N=>(G9 (1<=N.length)&&G9 (N.length<=40))&&(N.all (ko zs)&&G9 ((N.map gY).Nodup))
 |_=>aK
mutual
def jM:aH->Bool
 |.str a=>G9 (a.length<=1000)
 |.lst N=>G9 (N.length<=1000)&&mZ N
 |.tup N=>G9 (N.length<=1000)&&mZ N
 |_=>aD
def mZ:M3->Bool
 |[]=>aD
 |d::N=>jM d&&mZ N
end
theorem uR:∀{N:M3} {d:aH},mZ N=aD->d∈N->jM d=aD
 |[],_,_,m=>by cases m
 |e::N,d,f,m=>by
  rw[mZ,fM]at f;rcases dW.mp m with rfl|m
  .exact f.1
  .exact uR f.2 m
def CJ(h:jM (.tup N)=aD):mZ N=aD:=(iJ.mp (show(G9 (N.length<=1000)&&mZ N)=aD from h)).2
def tp(K:bJ)(h:bY H d x):∃t,lE K H x t/\nK K t (.type "int")=Z (isInt d||uF d)/\nK K t (.type "bool")=Z (uF d) /\
  nK K t (.type "str")=Z (US d)/\nK K t (.type "list")=Z (UT d)/\nK K t (.type "tuple")=Z (UR d):=by
 cases d with
 |non=>cases(show x=.non from h);exact⟨_,.non,O,O,O,O,O⟩
 |bl b=>cases(show x=.bl b from h);exact⟨_,.bl b,O,py _ _,O,O,O⟩
 |int i=>cases(show x=.int i from h);exact⟨_,.int i,py _ _,O,O,O,O⟩
 |str c=>cases(show x=.str c from h);exact⟨_,.str c,O,O,py _ _,O,O⟩
 |lst N=>obtain⟨a,vs,rfl,e,_⟩:=h;exact⟨_,.lst e,O,O,O,py _ _,O⟩
 |tup N=>obtain⟨a,vs,rfl,e,_⟩:=h;exact⟨_,.tup e,O,O,O,O,py _ _⟩
 |dct ks N=>obtain⟨a,vs,rfl,e,_⟩:=h;exact⟨_,.dK e,O,O,O,O,O⟩
def Nu:("abcdefghijklmnopqrstuvwxyz":aA).cps.toList=[97,98,99,100,101,102,103,104,105,106,107,108,109,110,111,112,113,114,115,116,117,118,119,120,121,122]:=YS
def OE(c:Nat):(!(Builtin.Str.occurrences ("abcdefghijklmnopqrstuvwxyz":aA) ⟨#[c]⟩ 0 ("abcdefghijklmnopqrstuvwxyz":aA).length 1).isEmpty)=oj c:=by
 rw[PySem.StrLaws.found_one,Nu];have h1:∀d,d∈([97,98,99,100,101,102,103,104,105,106,107,108,109,110,111,112,113,114,115,116,117,118,119,120,121,122]:List Nat)->97<=d/\d<=122:=YR;have h2:∀k,k<26->(97+k)∈([97,98,99,100,101,102,103,104,105,106,107,108,109,110,111,112,113,114,115,116,117,118,119,120,121,122]:List Nat):=YR;unfold oj;by_cases h:97<=c/\c<=122
 .have e:=h2 (c-97) YT;rw[show 97+(c-97)=c by omega]at e;rw[B0 e,B0 h.1,B0 h.2];rfl
 .have e:¬c∈([97,98,99,100,101,102,103,104,105,106,107,108,109,110,111,112,113,114,115,116,117,118,119,120,121,122]:List Nat):=λm=>h (h1 c m);rw[B1 e];by_cases h':97<=c
  .rw[B0 h',B1 (λa=>h ⟨h',a⟩)];rfl
  .rw[B1 h'];rfl
def aN(d:aH):aA:=(gY d).getD ""
def m0(d:aH):aT:=.inr (aN d)
def QU(h:gY d=Z a):aN d=a:=by unfold aN;rw[h];rfl
def ny(a b:aB):List (aA×V):=gJ "dyke_rows" (.ref b) (gJ "field_rows" (.ref a) [])
def UZ:¬(("field_rows":aA)="dyke_rows"):=YS
def yi(a b:aB):(ny a b).lookup ("field_rows":aA)=Z (.ref a):=by
 unfold ny;rw[mU,B3 UZ,mU,B4 O]
def zM(b a:aB):(ny b a).lookup ("dyke_rows":aA)=Z (.ref a):=by
 unfold ny;rw[mU,B4 O]
def jQ(a b:aB){m:aA}(h1:¬ m="dyke_rows")(h2:¬ m="field_rows"):(ny a b).lookup m=aF:=by
 unfold ny
 rw[mU,B3 h1,mU,B3 h2]
 all_goals rfl
def oy(H:aC)(a:aB)(N:M3):Prop:=∃J,H a=Z (.dK J)/\J.map (·.1)=N.map m0/\IsL H N (J.map (·.2))
def oy.same(S:aL H H')(h:oy H a N):oy H' a N:=by
 obtain⟨J,e,k,i⟩:=h;exact⟨J,S _ _ e,k,D2 S _ _ i⟩
structure dU (C:aB) (H:aC) (x:aB) (fs N:M3):Prop where
 ex:∃dx d1 d2,H x=Z (.ins C dx (ny d1 d2))/\oy H d1 fs/\oy H d2 N
 okf:u0 (.lst fs)=aD
 okd:vc ("sea" :: fs.map aN) (.lst N)=aD
def dU.same(S:aL H H')(h:dU C H x fs N):dU C H' x fs N:=by
 obtain⟨⟨dx,c,d,e,f,g⟩,a,b⟩:=h;exact⟨⟨dx,c,d,S _ _ e,f.same S,g.same S⟩,a,b⟩
theorem x5:∀{J:List (aT×V)} {H:aC} {N:M3} {d:aH},J.map (·.1)=N.map m0->IsL H N (J.map (·.2))->(N.map aN).Nodup->d∈N->∃v,dE J (.inr (aN d))=Z v/\bY H d v
 |[],_,[],_,_,_,_,m=>by cases m
 |[],_,_::_,_,e,_,_,_=>by simp at e
 |_::_,_,[],_,_,_,_,m=>by cases m
 |(k,v)::J,H,a::N,d,e,i,n,m=>by
  obtain⟨o,r,b,g,t⟩:=i;rw[dD]at b;cases b;rw[dD,dD,List.cons.injEq]at e;have c:k=m0 a:=e.1;rw[dD,gB]at n;by_cases q:aN d=aN a
  .have:d=a:=by
    rcases dW.mp m with rfl|m
    .rfl
    .exact B6 (cG.mpr ⟨d,m,q⟩) n.1
   subst this;refine⟨v,?_,g⟩;unfold dE;rw[lX,c];simp[m0]
  .have h:d∈N:=by
    rcases dW.mp m with rfl|m
    .exact B6 O q
    .exact m
   obtain⟨u,f,h2⟩:=x5 (J:=J) e.2 t n.2 h;refine⟨u,?_,h2⟩;unfold dE at f ⊢;have j:¬k=C6 (aN d):=by
    rw[c];intro l;exact q (pc l).symm
   rw[lX,B1 (show ¬(k,v).1=C6 (aN d) from j)];exact f
theorem rj:∀{N:M3} {p:aH->Bool},(∀d,p d=aD->∃a,gY d=Z a)->N.all p=aD->N.map gY=(N.map aN).map Z
 |[],_,_,_=>rfl
 |d::N,p,b,h=>by
  rw[rP,fM]at h;obtain⟨a,e⟩:=b d h.1;rw[dD,dD,dD,rj b h.2,QU e,e]
def pr(zs:L9):(zs.map Z).Nodup↔zs.Nodup:=by
 induction zs with
 |nil=>simp
 |cons b zs a=>
  rw[dD,gB,gB,a];simp
def iD(h:jY d=aD):∃f g e,d=.tup [.str f,.int g,.int e]/\jS f=aD/\fC g=aD/\ni e=aD:=by
 have e:∃a b c,d=.tup [a,b,c]:=by rcases d with _|_|_|_|_|(_|⟨_,_|⟨_,_|⟨_,_|_⟩⟩⟩)|_<;>first|exact⟨_,_,_,O⟩|cases h
 obtain⟨a,b,c,rfl⟩:=e;have h:(pD a&&(nk b&&qj c))=aD:=h;rw[fM,fM]at h;obtain⟨h1,h2,i⟩:=h;cases a with
 |str f=>
  cases b with
  |int g=>
   cases c with
   |int e=>exact⟨f,g,e,O,h1,h2,i⟩
   |_=>cases i
  |_=>cases h2
 |_=>cases h1
def LV(d:aH)(h:jY d=aD):∃a,gY d=Z a:=by
 obtain⟨a,_,_,rfl,_⟩:=iD h;exact⟨a,O⟩
def gE(h:ko zs d=aD):∃n a b c r s,d=.tup [.str n,.str a,.str b,.int c,.int r,s]/\jS n=aD/\a∈zs/\b∈zs/\a≠b/\fC c=aD/\ni r=aD/\ol (.int c) s=aD:=by
 have e:∃n a b c r s,d=.tup [n,a,b,c,r,s]:=by rcases d with _|_|_|_|_|(_|⟨_,_|⟨_,_|⟨_,_|⟨_,_|⟨_,_|⟨_,_|_⟩⟩⟩⟩⟩⟩)|_<;>first|exact⟨_,_,_,_,_,_,O⟩|cases h
 obtain⟨n,a,b,c,r,s,rfl⟩:=e;have h:(pD n&&sZ zs a b&&(nk c&&(qj r&&ol c s)))=aD:=h;rw[fM,fM,fM,fM]at h;obtain⟨⟨h1,h2⟩,f,g,k⟩:=h;unfold sZ at h2;rw[fM,fM]at h2;obtain⟨i,j,l⟩:=h2;cases n with
 |str n=>
  cases a with
  |str a=>
   cases b with
   |str b=>
    cases c with
    |int c=>
     cases r with
     |int r=>
      refine⟨n,a,b,c,r,s,O,h1,B2 i,B2 j,?_,f,g,k⟩;intro m;subst m;have:(!(a==a))=aD:=l;rw[B9]at this;cases this
     |_=>cases g
    |_=>cases f
   |_=>cases j
  |_=>cases i
 |_=>cases h1
def Cw(d:aH)(h:ko zs d=aD):∃a,gY d=Z a:=by
 obtain⟨a,_,_,_,_,_,rfl,_⟩:=gE h;exact⟨a,O⟩
structure oL (fs:M3):Prop where
 l1:1<=fs.length
 l2:fs.length<=12
 all:∀d∈fs,jY d=aD
 nd:(fs.map aN).Nodup
structure ky (zs:L9) (N:M3):Prop where
 l1:1<=N.length
 l2:N.length<=40
 all:∀d∈N,ko zs d=aD
 nd:(N.map aN).Nodup
def Bz(fs:M3):u0 (.lst fs)=aD↔oL fs:=by
 show((G9 (1<=fs.length)&&G9 (fs.length<=12))&&(fs.all jY&&G9 ((fs.map gY).Nodup)))=aD↔_;rw[fM,fM,fM,B5,B5,B5];constructor
 .rintro⟨⟨a,b⟩,c,d⟩;rw[rj LV c,pr]at d;exact⟨a,b,ku.mp c,d⟩
 .rintro⟨a,b,c,d⟩;have c':=ku.mpr c;refine⟨⟨a,b⟩,c',?_⟩;rw[rj LV c',pr];exact d
def sR(zs:L9)(N:M3):vc zs (.lst N)=aD↔ky zs N:=by
 show((G9 (1<=N.length)&&G9 (N.length<=40))&&(N.all (ko zs)&&G9 ((N.map gY).Nodup)))=aD↔_;rw[fM,fM,fM,B5,B5,B5];constructor
 .rintro⟨⟨a,b⟩,c,d⟩;rw[rj Cw c,pr]at d;exact⟨a,b,ku.mp c,d⟩
 .rintro⟨a,b,c,d⟩;have c':=ku.mpr c;refine⟨⟨a,b⟩,c',?_⟩;rw[rj Cw c',pr];exact d
noncomputable def uz:aH->Bool
 |.non=>aD
 |_=>aK
def qs:aH->Bool
 |.tup [_,_,_,_,_,s]=>!uz s
 |_=>aK
def QK(h:bY H d v):G9 (v=.non)=uz d:=by
 cases d with
 |non=>cases(show v=.non from h);rfl
 |bl b=>cases(show v=.bl b from h);exact B1 (by intro e;cases e)
 |int b=>cases(show v=.int b from h);exact B1 (by intro e;cases e)
 |str b=>cases(show v=.str b from h);exact B1 (by intro e;cases e)
 |lst b=>obtain⟨a,vs,rfl,_⟩:=h;exact B1 (by intro e;cases e)
 |tup b=>obtain⟨a,vs,rfl,_⟩:=h;exact B1 (by intro e;cases e)
 |dct b c=>obtain⟨a,vs,rfl,_⟩:=h;exact B1 (by intro e;cases e)
theorem CK:∀{N:M3},(∀d∈N,jM d=aD)->mZ N=aD
 |[],_=>rfl
 |d::N,h=>by
  rw[mZ,h d eB,CK λe m=>h e (eK _ m)];rfl
end Ld
namespace Mt02
open PySem L2 Ld
noncomputable def Wb(i:Nat):Nat:=if i<18 then 97+i else 98+i
noncomputable def WW(c:Int):Nat->Int
 |0=>c/3
 |j+1=>WW c j/25
noncomputable def Ww(o:Nat->Int)(c p b:Int)(k j:Nat):Int:=if (j:Int)=b then c/17+((k:Int)/25) else if (j:Int)=p then c/11+(k:Int) else o j
def code(o:Nat->Int)(c p b:Int)(k j:Nat):Nat:=Wb (Ww o c p b k j%25).toNat
def nm(o:Nat->Int)(c p b:Int)(n k:Nat):aA:=⟨((eG n).map (code o c p b k)).toArray⟩
structure Mi (zs:L9) (n:Nat):Prop where
 len:zs.length=n
 nd:zs.Nodup
 good:∀z∈zs,jS z=aD
end Mt02
namespace Mt04
open PySem L2 Ld
noncomputable def l5:aH->Int
 |.tup [_,_,_,.int c,_,_]=>c
 |_=>0
noncomputable def sL:aH->Int
 |.tup [_,.int h]=>h
 |_=>0
def kZ(N:M3)(a:aA):Int:=(N.find? λd=>G9 (aN d=a)).elim 0 l5
def lP(N:M3):aH->Bool
 |.tup [.str a,.int h]=>G9 (a∈N.map aN)&&(fC h&&G9 (kZ N a<=h))
 |_=>aK
def ES(N:M3):aH->Bool
 |.lst ws=>ws.all (lP N)&&G9 ((ws.map gY).Nodup)
 |_=>aK
def FE{N:M3}(a:(N.map aN).Nodup){d:aH}(m:d∈N):(N.find? λe=>G9 (aN e=aN d))=Z d:=by
 induction N with
 |nil=>cases m
 |cons e N b=>
  rw[dD,gB]at a;rw[lX];by_cases q:aN e=aN d
  .rw[B0 q];rcases dW.mp m with rfl|m
   .rfl
   .exact B6 (cG.mpr ⟨d,m,q.symm⟩) a.1
  .rw[B1 q];rcases dW.mp m with rfl|m
   .exact B6 O q
   .exact b a.2 m
def ql{N:M3}(a:(N.map aN).Nodup){d:aH}(m:d∈N):kZ N (aN d)=l5 d:=by
 unfold kZ;rw[FE a m];rfl
def n7(h:lP N d=aD):∃a v,d=.tup [.str a,.int v]/\a∈N.map aN/\fC v=aD/\kZ N a<=v:=by
 cases d with
 |tup M=>
  rcases M with _|⟨x,M⟩
  .cases h
  cases x with
  |str a=>
   rcases M with _|⟨y,M⟩
   .cases h
   cases y with
   |int v=>
    cases M with
    |nil=>
     have h:(G9 (a∈N.map aN)&&(fC v&&G9 (kZ N a<=v)))=aD:=h;rw[fM,fM]at h;exact⟨a,v,O,B2 h.1,h.2.1,B2 h.2.2⟩
    |cons=>cases h
   |_=>cases h
  |_=>cases h
 |_=>cases h
def AV(d:aH)(h:lP N d=aD):∃a,gY d=Z a:=by
 obtain⟨a,_,rfl,_⟩:=n7 h;exact⟨a,O⟩
structure GoodW (N ws:M3):Prop where
 all:∀d∈ws,lP N d=aD
 nd:(ws.map aN).Nodup
def Dm(N ws:M3):ES N (.lst ws)=aD↔GoodW N ws:=by
 show(ws.all (lP N)&&G9 ((ws.map gY).Nodup))=aD↔_;rw[fM,B5];constructor
 .rintro⟨c,d⟩;rw[rj AV c,pr]at d;exact⟨ku.mp c,d⟩
 .rintro⟨c,d⟩;have c':=ku.mpr c;refine⟨c',?_⟩;rw[rj AV c',pr];exact d
def jN(ws:M3)(a:aA):Option Int:=(ws.find? λd=>G9 (aN d=a)).map sL
def mn(ws:M3):aH->aH
 |.tup [.str n,a,b,.int c,r,s]=>.tup [.str n,a,b,.int ((jN ws n).getD c),r,s]
 |d=>d
def mi(N ws:M3):M3:=N.map (mn ws)
def Sd(ws:M3)(d:aH):aN (mn ws d)=aN d:=by
 cases d with
 |tup N=>
  rcases N with _|⟨n,N⟩
  .rfl
  cases n with
  |str n=>rcases N with _|⟨_,_|⟨_,_|⟨c,_|⟨_,_|⟨_,_|_⟩⟩⟩⟩⟩<;>first|rfl|(cases c<;>rfl)
  |_=>rfl
 |_=>rfl
def Ps(N ws:M3):(mi N ws).map aN=N.map aN:=by
 unfold mi;rw[eP];exact m3 λd _=>Sd ws d
def oO(d:aH):aT×V:=(m0 d,.int (sL d))
def NW(ws:M3)(a:aA):dE (ws.map oO) (.inr a)=(jN ws a).map D1:=by
 induction ws with
 |nil=>rfl
 |cons d ws b=>
  unfold dE jN at b ⊢;rw[dD,lX,lX];have e:G9 ((oO d).1=C6 a)=G9 (aN d=a):=by
   rw[mK,B5,B5];exact⟨λh=>pc h,λh=>B7 C6 h⟩
  rw[e];cases G9 (aN d=a) with
  |true=>rfl
  |false=>exact b
def BF(g:GoodW N ws)(h:jN ws a=Z v):fC v=aD/\kZ N a<=v:=by
 unfold jN at h;cases e:ws.find? (λd=>G9 (aN d=a)) with
 |none=>rw[e]at h;cases h
 |some d=>
  rw[e]at h;have m:=yz e;have q:aN d=a:=by
   have:=y4 e;exact B2 this
  obtain⟨b,c,rfl,_,h1,h2⟩:=n7 (g.all d m);have ev:c=v:=eA h;have f:b=a:=q;subst ev f;exact⟨h1,h2⟩
def Sc(f:ky zs N)(g:GoodW N ws)(m:d∈N):ko zs (mn ws d)=aD:=by
 obtain⟨n,a,b,c,r,s,rfl,j,k,l,o,p,q,h⟩:=gE (f.all d m);have t:kZ N n=c:=ql f.nd m;show ko zs (.tup [.str n,.str a,.str b,.int ((jN ws n).getD c),.int r,s])=aD;have key:fC ((jN ws n).getD c)=aD/\c<=(jN ws n).getD c:=by
  cases e:jN ws n with
  |none=>exact⟨p,rY _⟩
  |some v=>
   have:=BF g e;rw[t]at this;exact this
 have ks:ol (.int ((jN ws n).getD c)) s=aD:=by
  cases s with
  |non=>rfl
  |int i=>
   have h1:(fC i&&G9 (i<c))=aD:=h;rw[fM]at h1;show(fC i&&G9 (i<(jN ws n).getD c))=aD;rw[h1.1,B0 (Int.lt_of_lt_of_le (B2 h1.2) key.2)];rfl
  |_=>cases h
 show(jS n&&(G9 (a∈zs)&&(G9 (b∈zs)&&!(a==b)))&&(fC _&&(ni r&&ol _ s)))=aD;rw[j,B0 k,B0 l,key.1,q,ks,C1.mpr o];rfl
def NH(a:ky zs N)(g:GoodW N ws):ky zs (mi N ws) where
 l1:=by unfold mi;rw[aS];exact a.l1
 l2:=by unfold mi;rw[aS];exact a.l2
 all:=λd m=>by
  obtain⟨e,b,rfl⟩:=cG.mp m;exact Sc a g b
 nd:=by rw[Ps];exact a.nd
end Mt04
namespace Mt22
open PySem L2 Ld
structure St where
 nm:aA
 near:aA
 far:aA
 h:Int
abbrev pf:=aA->Option Int
noncomputable def sea:aA:="sea"
def Ws:pf:=λa=>if a=sea then Z (-1000000) else aF
noncomputable def UA(lo:pf)(s:St):pf:=match lo s.near with
 |none=>lo
 |some a=>λc=>if c=s.far then Z (match lo s.far with|none=>max a s.h|some b=>min (max a s.h) b) else lo c
def Uz(S:List St)(lo:pf):pf:=S.foldl UA lo
def Go(S:List St):Nat->pf
 |0=>Ws
 |n+1=>Uz S (Go S n)
inductive Walk(S:List St):Nat->aA->Int->Prop
 |sea:Walk S 0 Mt22.sea (-1000000)
 |step {k:Nat} {a:Int} {s:St} (w:Walk S k s.near a) (m:s∈S):Walk S (k+1) s.far (max a s.h)
def Yc(lo b:pf):Prop:=∀a c,b a=Z c->∃d,lo a=Z d/\d<=c
def Att(S:List St)(lo:pf):Prop:=∀a c,lo a=Z c->∃k,Walk S k a c
inductive zo(S:List St):L9->aA->Int->Prop
 |sea:zo S [] Mt22.sea (-1000000)
 |step {p:L9} {a:Int} {s:St} (w:zo S p s.near a) (m:s∈S) (n:s.far∉p):zo S (s.far::p) s.far (max a s.h)
theorem uq{q:Type}[DecidableEq q]:∀{P N:List q},P.Nodup->(∀x∈P,x∈N)->P.length<=N.length
 |[],N,_,_=>gU _
 |x::P,N,c,sub=>by
  have d:=sub x eB;rw[gB]at c;have:=uq (P:=P) (N:=N.erase x) c.2 λy m=>(List.mem_erase_of_ne (a:=y) (b:=x) (λe=>c.1 (by rw[←e];exact m))).mpr (sub y (eK _ m));rw[List.length_erase_of_mem d]at this;have f:=List.length_pos_of_mem d;rw[fW];omega
structure XY (S:List St) (lo:pf):Prop where
 att:Att S lo
 low:∀k v b,Walk S k v b->∃c,lo v=Z c/\c<=b
inductive yq(S:List St)(L:Int):aA->Prop
 |sea:yq S L Mt22.sea
 |step {s:St} (w:yq S L s.near) (m:s∈S) (h:s.h<L):yq S L s.far
end Mt22
open Mt22 renaming sea→D3
namespace MtF
open PySem L2 Ld Mt04 Mt22
noncomputable def Gm:aH->aH
 |.tup [_,_,_,_,_,s]=>s
 |_=>.non
noncomputable def Hl:aH->Int
 |.int i=>i
 |_=>0
noncomputable def uE:aH->aA
 |.tup [_,.str a,_,_,_,_]=>a
 |_=>""
noncomputable def ul:aH->aA
 |.tup [_,_,.str b,_,_,_]=>b
 |_=>""
def rr(op:L9)(d:aH):Int:=if aN d∈op then Hl (Gm d) else l5 d
noncomputable def zO:aH->Int
 |.tup [_,.int g,_]=>g
 |_=>0
def kP(fs:M3)(a:aA):Int:=(fs.find? λd=>G9 (aN d=a)).elim 0 zO
def ym{N:M3}(a:(N.map aN).Nodup){d:aH}(m:d∈N):(N.find? λe=>G9 (aN e=aN d))=Z d:=by
 induction N with
 |nil=>cases m
 |cons e N b=>
  rw[dD,gB]at a;rw[lX];rcases dW.mp m with rfl|m
  .rw[B0 O]
  .have f:aN e≠aN d:=λc=>a.1 (c▸cG.mpr ⟨d,m,O⟩);rw[B1 f];exact b a.2 m
def Dl{fs:M3}(a:(fs.map aN).Nodup){d:aH}(m:d∈fs):kP fs (aN d)=zO d:=by
 show(fs.find? λe=>G9 (aN e=aN d)).elim 0 zO=_;rw[ym a m];rfl
def FV(fs:M3)(op:L9)(d:aH)(near a:aA):List Mt22.St:=if a="sea" then [] else [⟨aN d,near,a,max (rr op d) (kP fs a)⟩]
def mm(fs:M3)(op:L9)(d:aH):List Mt22.St:=FV fs op d (uE d) (ul d)++FV fs op d (ul d) (uE d)
def Td(fs N:M3)(op:L9):List Mt22.St:=N.flatMap (mm fs op)
def fB(s:Mt22.St):aH:=.tup [.str s.nm,.str s.near,.str s.far,.int s.h]
def Yr(fs N:M3)(op:L9):Mt22.pf:=Go (Td fs N op) fs.length
noncomputable def YL:Option Int->V
 |some i=>.int i
 |none=>.non
end MtF
namespace Mt21
open PySem L2 Ld Mt02
noncomputable def ab(i:Int):Nat:=97+(i%26).toNat
def DK(i:Int):oj (ab i)=aD:=by
 have a:=hW i (show(26:Int)≠0 by decide);have h1:=jB i (show(0:Int)<26 by decide);unfold ab oj;rw[B0 YT,B0 YT];rfl
def SH:("abcdefghijklmnopqrstuvwxyz":aA).cps.toList=(eG 26).map λi=>97+i:=YS
def Hq(i:Int):lZ ("abcdefghijklmnopqrstuvwxyz":aA).cps.toList (i%26)=Z (ab i):=by
 have a:=hW i (show(26:Int)≠0 by decide);have h1:=jB i (show(0:Int)<26 by decide);obtain⟨k,b⟩:=l8 a;unfold ab;rw[b,SH];refine bZ ?_;rw[dB,List.getElem?_range YT];rfl
def nV(i:Int):aA:=⟨#[ab i]⟩
theorem Cq:∀(ys:L9)(a:Array Nat),(ys.foldl (λa p=>a++("":aA).cps++p.cps) a).toList=a.toList++(ys.map λy=>y.cps.toList).flatten
 |[],a=>by simp
 |y::ys,a=>by
  rw[List.foldl_cons,Cq ys];have:("":aA).cps=#[]:=YS;rw[this];simp
def OB(ys:L9):(Txt.join "" ys).cps.toList=(ys.map λy=>y.cps.toList).flatten:=by
 cases ys with
 |nil=>
  show(aA.empty.cps).toList=[]
  decide +kernel
 |cons y ys=>
  show(List.foldl (λa p=>a++("":aA).cps++p.cps) y.cps ys).toList=_;rw[Cq];simp
def LZ(a:aA)(k:Nat)(h:k<=a.length):(m9 a aF (Z (k:Int))).cps.toList=a.cps.toList.take k:=by
 rw[Tx.YM,Tx.Yn];show(a.cps.toList.drop 0).take (min k a.length-0)=_;rw[wn,Nat.sub_zero,Nat.min_eq_left h]
def Cx(a:aA)(k:Nat)(h:k<=a.length):(m9 a (Z (k:Int)) aF).cps.toList=a.cps.toList.drop k:=by
 rw[Tx.YM,Tx.Yn,Nat.min_eq_left h];show(a.cps.toList.drop k).take (a.length-k)=_;rw[dP];rw[o6];show a.cps.toList.length-k<=a.length-k;simp[aA.length]
def sQ(a:aA):a.length=a.cps.toList.length:=by simp[aA.length]
def nodup_range(h:∀k l,k<n->l<n->f k=f l->k=l):((eG n).map f).Nodup:=by
 rw[tu,List.pairwise_map];refine List.Pairwise.imp_of_mem ?_ (List.pairwise_lt_range (n:=n));intro k l a b d c;have:=h k l (kN.mp a) (kN.mp b) c;omega
structure Yf (z b:aA) (at':Nat) (x y:Int):Prop where
 codes:z.cps.toList=b.cps.toList.take at'++[ab x,ab y]++b.cps.toList.drop at'
end Mt21
namespace Mt31
open PySem L2 Ld Mt22
abbrev gC:=List (aA×Option Mt22.St)
noncomputable def keys(a:gC):L9:=a.map (·.1)
structure vu (S:List Mt22.St) (cm:gC):Prop where
 nd:(keys cm).Nodup
 first:cm[0]?=Z (D3,aF)
 prev:∀(i:Nat)(z:aA)(o:Option Mt22.St),0<i->cm[i]?=Z (z,o)->∃s,o=Z s/\s∈S/\s.far=z/\s.near∈keys (cm.take i)
def nE(S:List Mt22.St)(a:gC)(p:Nat):Prop:=∀(i:Nat)(u:aA),i<p->(keys a)[i]?=Z u->∀s∈S,s.near=u->s.far∈keys a
def sW(a b:gC):keys (a++b)=keys a++keys b:=dJ
def nE.snoc(h:nE S a p)(d:p<=a.length)(x:aA×Option Mt22.St):nE S (a++[x]) p:=λi u hi e s b c=>by
 rw[sW,o0 (by unfold keys;rw[aS];omega)]at e;rw[sW];exact o1 _ (h i u hi e s b c)
inductive mP(S:List Mt22.St):List Mt22.St->aA->Prop
 |nil:mP S [] D3
 |snoc {ss:List Mt22.St} {s:Mt22.St} (c:mP S ss s.near) (m:s∈S) (n:s.far∉ss.map (·.far)):mP S (ss++[s]) s.far
noncomputable def hm(b:List Mt22.St):Int:=b.foldl (λa s=>max a s.h) (-1000000)
def Dy(c:mP S d v):(∀s∈d,s∈S)/\(d.map (·.far)).Nodup:=by
 induction c with
 |nil=>exact⟨(λs m=>by cases m),by simp⟩
 |@snoc d s c m n f=>
  refine⟨λt mt=>?_,?_⟩
  .rcases gN.mp mt with mt|mt
   .exact f.1 t mt
   .rw[eU.mp mt];exact m
  .rw[dJ,v0];refine⟨f.2,by simp,λa g b h=>?_⟩;have i:b=s.far:=eU.mp h;intro e;have j:a=s.far:=e.trans i;exact n (j▸g)
def At(S:List Mt22.St)(b:gC)(j:Nat)(c:aA)(B:List Mt22.St)(d:aA):Prop:=∀a,mP S a c->(∀y∈a.map (·.far),y∈keys (b.take (j+1)))->mP S (a++B) d
def Pb(h:vu S a)(u:a[j]?=Z (f,Z s))(w:s∈S)(l:s.far=f)(hi:i<j)(A:(keys a)[i]?=Z s.near)(t:At S a j f B q):At S a i s.near (s::B) q:=λg c sub=>by
 have e:g++s::B=(g++[s])++B:=by rw[oB];rfl
 have r:(keys a)[j]?=Z f:=by unfold keys;rw[dB,u];rfl
 have o:∀n,keys (a.take n)=(keys a).take n:=λn=>by unfold keys;rw[List.map_take]
 have fresh:s.far∉g.map (·.far):=λm=>by
  have h1:=sub _ m;rw[o,l]at h1;obtain⟨k,b⟩:=mr.mp h1;have p:=(cR.mp b).1;rw[dY]at p;rw[qH YT]at b;obtain⟨h2,x⟩:=cR.mp b;obtain⟨C,z⟩:=cR.mp r;have:=(tM h.nd).mp (x.trans z.symm);omega
 rw[e];refine t (g++[s]) (l▸mP.snoc c w fresh) λy d=>?_;rw[o];rw[dJ]at d;rcases gN.mp d with d|d
 .have:=sub y d;rw[o]at this;obtain⟨k,b⟩:=mr.mp this;have p:=(cR.mp b).1;rw[dY]at p;rw[qH YT]at b;exact dM (i:=k) (by rw[qH YT];exact b)
 .have:y=s.far:=eU.mp d;rw[this,l];exact dM (i:=j) (by rw[qH YT];exact r)
end Mt31
open Mt31 renaming keys→G2
namespace Mt61
open PySem L2 Mt22 Mt31
structure bV where
 nm:aA
 a:aA
 b:aA
 cap:Int
abbrev M5:=List bV
abbrev dX:=aA->Int
noncomputable def cD{q:Type}(xs:List q)(f:q->Int):Int:=(xs.map f).sum
section
variable{q p:Type}
def qu(f:q->Int):cD [] f=0:=rfl
def eF(x:q)(xs:List q)(f:q->Int):cD (x::xs) f=f x+cD xs f:=by
 unfold cD;rw[dD,List.sum_cons]
theorem wO(f:q->Int):∀xs ys:List q,cD (xs++ys) f=cD xs f+cD ys f
 |[],ys=>by rw[wf,qu];omega
 |x::xs,ys=>by rw[List.cons_append,eF,eF,wO f xs ys];omega
theorem lj:∀{xs:List q},(∀x∈xs,f x=g x)->cD xs f=cD xs g
 |[],_=>rfl
 |x::xs,h=>by rw[eF,eF,h x eB,lj λy m=>h y (eK _ m)]
theorem sg:∀{xs:List q},(∀x∈xs,f x<=g x)->cD xs f<=cD xs g
 |[],_=>rY _
 |x::xs,h=>by
  rw[eF,eF];have:=h x eB;have:=sg (xs:=xs) λy m=>h y (eK _ m);omega
def mY(h:∀x∈xs,f x=0):cD xs f=0:=by
 rw[lj h]
 induction xs with
 |nil=>rfl
 |cons x xs a=>rw[eF,a λy m=>h y (eK _ m)];rfl
theorem ru(f g:q->Int):∀xs:List q,cD xs (λx=>f x+g x)=cD xs f+cD xs g
 |[]=>rfl
 |x::xs=>by rw[eF,eF,eF,ru f g xs];omega
theorem AY(f g:q->Int):∀xs:List q,cD xs (λx=>f x-g x)=cD xs f-cD xs g
 |[]=>rfl
 |x::xs=>by rw[eF,eF,eF,AY f g xs];omega
theorem Fe(f:q->p->Int)(ys:List p):∀xs:List q,cD xs (λx=>cD ys (f x))=cD ys (λy=>cD xs λx=>f x y)
 |[]=>(mY (λ_ _=>rfl)).symm
 |x::xs=>by
  rw[eF,Fe f ys xs,←ru];exact lj λy _=>by rw[eF]
theorem DZ(X:q->Bool)(f:q->Int):∀xs:List q,cD xs f=cD (xs.filter X) f+cD (xs.filter λx=>!X x) f
 |[]=>rfl
 |x::xs=>by
  rw[eF,DZ X f xs];cases h:X x with
  |true=>rw[vI h,vJ (by simp[h]),eF];omega
  |false=>rw[vJ (by simp[h]),vI (by simp[h]),eF];omega
theorem uV(X:q->Bool)(f:q->Int):∀xs:List q,cD (xs.filter X) f=cD xs λx=>if X x=aD then f x else 0
 |[]=>rfl
 |x::xs=>by
  cases h:X x with
  |true=>rw[vI h,eF,eF,B4 h,uV X f xs]
  |false=>rw[vJ (by simp[h]),eF,B3 (by simp[h]),uV X f xs];omega
end
def yb{V:L9}(X:aA->Bool){w:aA}(c:Int)(a:V.Nodup)(m:w∈V):cD (V.filter X) (λv=>if w=v then c else 0)=if X w=aD then c else 0:=by
 rw[uV]
 induction V with
 |nil=>cases m
 |cons v V b=>
  rw[gB]at a;rw[eF];by_cases e:w=v
  .subst e;rw[mY (xs:=V) λx d=>?_]
   .simp
   .have:w≠x:=λe=>a.1 (e▸d);simp[this]
  .have f:w∈V:=by
    rcases dW.mp m with h|h
    .exact B6 h e
    .exact h
   rw[b a.2 f];simp[e]
def Fd(b:(G.map (·.nm)).Nodup)(m:a∈G)(c:bV->Int):cD G (λg=>if g.nm=a.nm then c g else 0)=c a:=by
 induction G with
 |nil=>cases m
 |cons g G d=>
  rw[dD,gB]at b;rw[eF];rcases dW.mp m with rfl|m
  .rw[mY (xs:=G) λx f=>?_]
   .simp
   .have:x.nm≠a.nm:=λe=>b.1 (e▸cG.mpr ⟨x,f,O⟩);simp[this]
  .have:g.nm≠a.nm:=λe=>b.1 (e▸cG.mpr ⟨a,m,O⟩);rw[d b.2 m];simp[this]
def p8(f:dX)(v:aA)(g:bV):Int:=(if g.b=v then f g.nm else 0)-(if g.a=v then f g.nm else 0)
def jE(G:M5)(f:dX)(v:aA):Int:=cD G (p8 f v)
def sA(X:aA->Bool)(f:dX)(g:bV):Int:=(if X g.b=aD then f g.nm else 0)-(if X g.a=aD then f g.nm else 0)
def val(G:M5)(f:dX):Int:=- jE G f sea
noncomputable def mG(X:aA->Bool)(g:bV):Int:=if X g.a=X g.b then 0 else g.cap
def me(G:M5)(X:aA->Bool):Int:=cD G (mG X)
structure fR (V:L9) (G:M5):Prop where
 nd:(G.map (·.nm)).Nodup
 ends:∀g∈G,g.a∈V/\g.b∈V/\g.a≠g.b
 cap:∀g∈G,0<=g.cap
 vnd:V.Nodup
 sea:D3∈V
def rf(G:M5)(f:dX):Prop:=∀g∈G,-g.cap<=f g.nm/\f g.nm<=g.cap
def Fp{V:L9}{G:M5}(h:fR V G)(X:aA->Bool)(f:dX):cD (V.filter X) (jE G f)=cD G (sA X f):=by
 unfold jE;rw[Fe];refine lj λg mg=>?_;obtain⟨a,b,_⟩:=h.ends g mg;show cD (V.filter X) (λv=>(if g.b=v then f g.nm else 0)-(if g.a=v then f g.nm else 0))=_;rw[AY,yb X (f g.nm) h.vnd b,yb X (f g.nm) h.vnd a];rfl
def Se{V:L9}{G:M5}(h:fR V G)(f:dX):cD V (jE G f)=0:=by
 have:=Fp h (λ_=>aD) f;rw[vS.mpr (λ_ _=>O)]at this;rw[this];refine mY λg _=>?_;unfold sA;simp
def DO{V:L9}{G:M5}(h:fR V G){f:dX}{X:aA->Bool}(g:X D3=aK)(i:∀v∈V,v≠D3->X v=aK->jE G f v=0):cD G (sA X f)=val G f:=by
 rw[←Fp h X f];have a:=Se h f;rw[DZ X (jE G f) V]at a;have b:cD (V.filter λx=>!X x) (jE G f)=jE G f D3:=by
  have e:cD (V.filter λx=>!X x) (jE G f)=cD (V.filter λx=>!X x) (λv=>if D3=v then jE G f D3 else 0):=lj λv d=>by
   rw[gM]at d;by_cases c:D3=v
   .rw[B4 c,c]
   .rw[B3 c];exact i v d.1 (λe=>c e.symm) (by simpa using d.2)
  rw[e,yb (λx=>!X x) _ h.vnd h.sea,g];rfl
 unfold val;omega
def Sn(a:rf G f)(X:aA->Bool):∀g∈G,sA X f g<=mG X g:=λg m=>by
 obtain⟨h1,h2⟩:=a g m;unfold sA mG;cases b:X g.a<;>cases c:X g.b<;>simp<;>omega
def SM{V:L9}{G:M5}(h:fR V G){f:dX}(a:rf G f){X:aA->Bool}(b:X D3=aK)(c:∀v∈V,v≠D3->X v=aK->jE G f v=0):val G f<=me G X:=by
 rw[←DO h b c];exact sg (Sn a X)
def SN{V:L9}{G:M5}(h:fR V G){f:dX}{X:aA->Bool}(a:X D3=aK)(b:∀v∈V,v≠D3->X v=aK->jE G f v=0)
 (h1:∀g∈G,X g.a=aK->X g.b=aD->f g.nm=g.cap)(h2:∀g∈G,X g.a=aD->X g.b=aK->f g.nm=-g.cap):val G f=me G X:=by
 rw[←DO h a b];refine lj λg m=>?_;have c:=h1 g m;have d:=h2 g m;unfold sA mG;cases e:X g.a<;>cases i:X g.b<;>simp[e,i]at c d ⊢<;>omega
def up(g:bV):Mt22.St:=⟨g.nm,g.a,g.b,1⟩
def dn(g:bV):Mt22.St:=⟨g.nm,g.b,g.a,-1⟩
def mm(G:M5):List Mt22.St:=G.flatMap λg=>[up g,dn g]
def s0:s∈mm G↔∃g∈G,s=up g\/s=dn g:=by
 unfold mm;rw[y1];simp
def kK(m:Int)(f:dX)(s:Mt22.St):dX:=λn=>if n=s.nm then f n+s.h*m else f n
def Sf{V:L9}{G:M5}(h:fR V G){s:Mt22.St}(n:s∈mm G)(m:Int)(f:dX)(v:aA):jE G (kK m f s) v=jE G f v+((if s.far=v then m else 0)-(if s.near=v then m else 0)):=by
 obtain⟨a,c,e⟩:=s0.mp n;have key:jE G (kK m f s) v=jE G f v+cD G (λg=>if g.nm=a.nm then((if s.far=v then m else 0)-(if s.near=v then m else 0)) else 0):=by
  unfold jE;rw[←ru];refine lj λg mg=>?_;unfold p8 kK;have d:s.nm=a.nm:=by rcases e with rfl|rfl<;>rfl
  by_cases b:g.nm=a.nm
  .have o:g=a:=by
    have nd:=h.nd;obtain⟨i,hi⟩:=mr.mp mg;obtain⟨j,p⟩:=mr.mp c;obtain⟨q,k⟩:=cR.mp hi;obtain⟨r,l⟩:=cR.mp p;have:i=j:=(tM (xs:=G.map (·.nm)) (h₀:=by rw[aS];exact q) (h₁:=by rw[aS];exact r) nd).mp (by rw[qP,qP,k,l,b]);subst this;rw[←k,←l]
   subst o;rw[B4 b,B4 d.symm];rcases e with rfl|rfl
   .show(if g.b=v then f g.nm+1*m else 0)-(if g.a=v then f g.nm+1*m else 0)=(if g.b=v then f g.nm else 0)-(if g.a=v then f g.nm else 0)+((if g.b=v then m else 0)-(if g.a=v then m else 0));split<;>split<;>omega
   .show(if g.b=v then f g.nm+-1*m else 0)-(if g.a=v then f g.nm+-1*m else 0)=(if g.b=v then f g.nm else 0)-(if g.a=v then f g.nm else 0)+((if g.a=v then m else 0)-(if g.b=v then m else 0));split<;>split<;>omega
  .have t:¬g.nm=s.nm:=λe=>b (e.trans d);simp only[B3 b,B3 t];omega
 rw[key,Fd h.nd c]
def Br{V:L9}{G:M5}(h:fR V G){S a:List Mt22.St}{b:aA}(c:mP S a b)(d:∀s∈S,s∈mm G)(m:Int)(f:dX)(v:aA):jE G (a.foldl (kK m) f) v=jE G f v+((if b=v then m else 0)-(if D3=v then m else 0)):=by
 induction c with
 |nil=>
  show jE G f v=_;omega
 |@snoc a s c e n g=>
  rw[v3];show jE G (kK m (a.foldl (kK m) f) s) v=_;rw[Sf h (d s e),g];omega
theorem FA(m:Int)(n:aA):∀(a:List Mt22.St)(f:dX),(a.foldl (kK m) f) n=f n+m*cD a (λs=>if s.nm=n then s.h else 0)
 |[],f=>by rw[qu,Int.mul_zero,t2];rfl
 |s::a,f=>by
  show(a.foldl (kK m) (kK m f s)) n=_;rw[FA m n a,eF,Int.mul_add];unfold kK;by_cases e:s.nm=n
  .rw[B4 e,B4 e.symm,qW m s.h];omega
  .rw[B3 e,B3 (λq=>e q.symm),Int.mul_zero];omega
def Sp{V:L9}{G:M5}(h:fR V G){g g':bV}(m:g∈G)(c:g'∈G)(e:g.nm=g'.nm):g=g':=by
 obtain⟨i,hi⟩:=mr.mp m;obtain⟨j,d⟩:=mr.mp c;obtain⟨f,a⟩:=cR.mp hi;obtain⟨k,b⟩:=cR.mp d;have:i=j:=(tM (xs:=G.map (·.nm)) (h₀:=by rw[aS];exact f) (h₁:=by rw[aS];exact k) h.nd).mp (by rw[qP,qP,a,b,e]);subst this;rw[←a,←b]
instance YN:DecidableEq Mt22.St:=λa b=>decidable_of_iff (a.nm=b.nm/\a.near=b.near/\a.far=b.far/\a.h=b.h) (by
 cases a;cases b;simp)
theorem Ec{V:L9}{G:M5}(h:fR V G){g:bV}(mg:g∈G):∀{a:List Mt22.St},(∀s∈a,s∈mm G)->a.Nodup->cD a (λs=>if s.nm=g.nm then s.h else 0)=(if up g∈a then 1 else 0)-(if dn g∈a then 1 else 0)
 |[],_,_=>by simp[qu]
 |s::a,c,b=>by
  rw[gB]at b;rw[eF,Ec h mg (λt m=>c t (eK _ m)) b.2];have d:up g≠dn g:=λe=>by
   have:=B7 Mt22.St.h e;exact B6 this (by show(1:Int)≠-1;decide)
  by_cases e:s.nm=g.nm
  .obtain⟨g',i,f⟩:=s0.mp (c s eB);have j:g'=g:=Sp h i mg (by rcases f with rfl|rfl<;>exact e);subst j;rcases f with rfl|rfl
   .rw[B4 e,B4 eB,B3 b.1];have:(dn g'∈up g'::a)↔dn g'∈a:=by simp[D4 d]
    simp only[this];show(1:Int)+_=_;omega
   .rw[B4 e,B4 (show dn g'∈dn g'::a from eB),B3 b.1];have:(up g'∈dn g'::a)↔up g'∈a:=by simp[d]
    simp only[this];show(-1:Int)+_=_;omega
  .have k:s≠up g:=λq=>e (by rw[q];rfl);have l:s≠dn g:=λq=>e (by rw[q];rfl);have:(up g∈s::a)↔up g∈a:=by simp[D4 k]
   have h2:(dn g∈s::a)↔dn g∈a:=by simp[D4 l]
   simp only[this,h2,B3 e];omega
def pN(G:M5)(n:aA):Int:=cD G λg=>if g.nm=n then g.cap else 0
def va{V:L9}{G:M5}(h:fR V G){g:bV}(m:g∈G):pN G g.nm=g.cap:=Fd h.nd m (·.cap)
def room(G:M5)(f:dX)(s:Mt22.St):Int:=pN G s.nm-s.h*f s.nm
def Fg{V:L9}{G:M5}(h:fR V G){g:bV}(m:g∈G)(f:dX):room G f (up g)=g.cap-f g.nm:=by
 show pN G g.nm-1*f g.nm=_;rw[va h m];omega
def Fh{V:L9}{G:M5}(h:fR V G){g:bV}(m:g∈G)(f:dX):room G f (dn g)=g.cap+f g.nm:=by
 show pN G g.nm - -1*f g.nm=_;rw[va h m];omega
def OI{V:L9}{G:M5}(h:fR V G){S a:List Mt22.St}{k:aA}(c:mP S a k)(l:∀s∈S,s∈mm G){m:Int}(w:0<=m){f:dX}(n:rf G f)(b:∀s∈a,m<=room G f s):rf G (a.foldl (kK m) f):=λg mg=>by
 obtain⟨x,y⟩:=n g mg;obtain⟨sub,o⟩:=Dy c;have p:a.Nodup:=by
  rw[tu];exact((List.pairwise_map.mp (tu.mp o))).imp λr e=>r (by rw[e])
 rw[FA,Ec h mg (λs t=>l s (sub s t)) p];have i:up g∈a->m<=g.cap-f g.nm:=λq=>by have:=b _ q;rwa [Fg h mg]at this
 have j:dn g∈a->m<=g.cap+f g.nm:=λq=>by have:=b _ q;rwa [Fh h mg]at this
 by_cases u:up g∈a<;>by_cases d:dn g∈a
 .rw[B4 u,B4 d];have:=i u;have:=j d;omega
 .rw[B4 u,B3 d];have:=i u;omega
 .rw[B3 u,B4 d];have:=j d;omega
 .rw[B3 u,B3 d];omega
structure Stream (V:L9) (G:M5) (ws:L9) (f:dX):Prop where
 fits:rf G f
 zero:∀v∈V,v≠D3->v∉ws->jE G f v=0
 gain:∀v∈ws,0<=jE G f v
def Stream.none{V:L9}{G:M5}(h:fR V G)(ws:L9){f:dX}(a:∀g∈G,f g.nm=0):Stream V G ws f:=by
 have b:∀v,jE G f v=0:=λv=>mY λg m=>by
  unfold p8;rw[a g m];simp
 refine⟨λg m=>?_,λv _ _ _=>b v,λv _=>by rw[b v];exact rY _⟩;have:=h.cap g m;rw[a g m];omega
def Stream.more{V:L9}{G:M5}(h:fR V G){ws:L9}{f:dX}(st:Stream V G ws f){S a:List Mt22.St}{b:aA}(c:mP S a b)(d:∀s∈S,s∈mm G){m:Int}(l:0<=m)(n:∀s∈a,m<=room G f s)(i:b∈ws)(ns:D3∉ws) :
  Stream V G ws (a.foldl (kK m) f)/\val G (a.foldl (kK m) f)=val G f+m:=by
 have zs:b≠D3:=λe=>ns (e▸i);refine⟨⟨OI h c d l st.fits n,λv g j k=>?_,λv g=>?_⟩,?_⟩
 .rw[Br h c d,st.zero v g j k,B3 (show ¬b=v from λe=>k (e▸i)),B3 (show ¬D3=v from λe=>j e.symm)];rfl
 .rw[Br h c d,B3 (show ¬D3=v from λe=>ns (e▸g))];have:=st.gain v g;split<;>omega
 .unfold val;rw[Br h c d,B3 zs,B4 O];omega
def kW(G:M5):Int:=cD G (·.cap)
def OX{V:L9}{G:M5}(h:fR V G){f:dX}(c:rf G f):val G f<=kW G:=by
 unfold val jE kW;have:cD G (p8 f D3)>=cD G (λg=>0-g.cap):=sg λg m=>by
  obtain⟨i,j⟩:=c g m;obtain⟨_,_,d⟩:=h.ends g m;have:=h.cap g m;unfold p8;by_cases a:g.b=D3<;>by_cases b:g.a=D3
  .exact B6 (b.trans a.symm) d
  .rw[B4 a,B3 b];omega
  .rw[B3 a,B4 b];omega
  .rw[B3 a,B3 b];omega
 rw[AY,mY (f:=λ_=>(0:Int)) (λ_ _=>O)]at this;have e:(cD G λx=>x.cap)=cD G bV.cap:=O;omega
structure nU (G:M5) (f:dX) (ws R B:L9):Prop where
 sea:D3∈R
 closed:∀s∈mm G,0<room G f s->s.near∈R->s.far∈R
 wout:∀z∈ws,z∉R
 win:∀z∈ws,z∈B
 bout:∀z∈B,z∉R
 bclosed:∀s∈mm G,s.far∉R->s.near∈B->s.far∈B
noncomputable instance YF (a:aA) (l:L9):Decidable (a∈l):=inferInstance
noncomputable def uQ(B:L9):aA->Bool:=λa=>G9 (a∈B)
def xy{V:L9}{G:M5}(h:fR V G){f:dX}(j:rf G f){ws R B:L9}(r:nU G f ws R B){g:bV}(m:g∈G) :
  (g.a∉B->g.b∈B->g.a∈R/\f g.nm=g.cap)/\(g.a∈B->g.b∉B->g.b∈R/\f g.nm=-g.cap):=by
 obtain⟨k,l⟩:=j g m;have c:up g∈mm G:=s0.mpr ⟨g,m,.inl O⟩;have d:dn g∈mm G:=s0.mpr ⟨g,m,.inr O⟩;refine⟨λa b=>?_,λa b=>?_⟩
 .have e:g.a∈R:=vy λn=>a (r.bclosed _ d n b);refine⟨e,?_⟩;have:¬0<room G f (up g):=λq=>r.bout _ b (r.closed _ c q e);rw[Fg h m]at this;omega
 .have i:g.b∈R:=vy λn=>b (r.bclosed _ c n a);refine⟨i,?_⟩;have:¬0<room G f (dn g):=λq=>r.bout _ a (r.closed _ d q i);rw[Fh h m]at this;omega
def CT{V:L9}{G:M5}(h:fR V G){f:dX}{ws R B:L9}(st:Stream V G ws f)(r:nU G f ws R B):val G f=me G (uQ B):=by
 have c:D3∉B:=λm=>r.bout _ m r.sea;refine SN h (B1 c) (λv d e i=>?_) (λg m a b=>?_) (λg m a b=>?_)
 .exact st.zero v d e λw=>(B8 i) (r.win v w)
 .exact((xy h st.fits r m).1 (B8 a) (B2 b)).2
 .exact((xy h st.fits r m).2 (B2 a) (B8 b)).2
def iE(G:M5)(R B:L9):List Mt22.St:=(mm G).filter λs=>G9 (s.near∈R)&&G9 (s.far∈B)
def Og{V:L9}{G:M5}(h:fR V G){f:dX}{ws R B:L9}(st:Stream V G ws f)(r:nU G f ws R B):cD (iE G R B) (λs=>pN G s.nm)=val G f:=by
 rw[CT h st r];unfold iE me mm;rw[uV];have key:∀G':M5,(∀g∈G',g∈G)->cD (G'.flatMap λg=>[up g,dn g]) (λs=>if (G9 (s.near∈R)&&G9 (s.far∈B))=aD then pN G s.nm else 0)=cD G' (mG (uQ B)):=by
  intro G'
  induction G' with
  |nil=>intro _;rfl
  |cons g G' c=>
   intro sub;have m:=sub g eB;rw[v8,wO,c λx d=>sub x (eK _ d),eF g];congr 1;rw[eF,eF,qu];show(if (G9 (g.a∈R)&&G9 (g.b∈B))=aD then pN G g.nm else 0)+((if (G9 (g.b∈R)&&G9 (g.a∈B))=aD then pN G g.nm else 0)+0)=(if G9 (g.a∈B)=G9 (g.b∈B) then 0 else g.cap)
   rw[va h m];obtain⟨e,i⟩:=xy h st.fits r m;by_cases a:g.a∈B<;>by_cases b:g.b∈B
   .have:=r.bout _ a;have:=r.bout _ b;simp[*]
   .have:=r.bout _ a;have:=(i a b).1;simp[*]
   .have:=r.bout _ b;have:=(e a b).1;simp[*]
   .simp[*]
 exact key G λg m=>m
def jU(G:M5)(ws:L9)(c:Int):Prop:=(∃X:aA->Bool,X D3=aK/\(∀a∈ws,X a=aD)/\me G X=c)/\∀X:aA->Bool,X D3=aK->(∀a∈ws,X a=aD)->c<=me G X
def xq{V:L9}{G:M5}(h:fR V G){f:dX}{ws R B:L9}(st:Stream V G ws f)(r:nU G f ws R B):jU G ws (val G f):=by
 refine⟨⟨uQ B,B1 λm=>r.bout _ m r.sea,λb m=>B0 (r.win b m),(CT h st r).symm⟩,λX c d=>SM h st.fits c λv e g a=>st.zero v e g λw=>?_⟩;rw[d v w]at a;cases a
def jU.uniq(h:jU G ws c)(h':jU G ws d):c=d:=by
 obtain⟨⟨X,s,w,e⟩,a⟩:=h;obtain⟨⟨b,L,f,i⟩,g⟩:=h';have:=a b L f;have:=g X s w;omega
end Mt61
open Mt61 renaming room→D6
namespace L2
open PySem PySem.Spec PyProof.Rows
def Wd(l:List Nat):Prop:=∀i k,i<k->k<l.length->l.getD i 0<l.getD k 0
structure Mj (t:SetTable):Prop where
 no:t.dummies=#[]
 up:Wd t.place.toList
noncomputable def TQ:aE->aT
 |.int a _=>.inl a
 |.str x _=>.inr x
 |_=>.inl 0
noncomputable def Th(w:bP):Bool:=w.params.followText "set-order"
def Yg(P:bS)(w:bP)(h:bH)(a:aB)(ks:M7):Prop:=
 ∃o es ep t,h.get? a=Z o/\o.ExactSet/\o.data=.set es ep t/\ElemsOf (dI P w) es.toList/\(es.toList.map λe=>TQ e.2).Perm ks/\es.size<K5/\t.fits es.size=aD/\Mj t/\(Th w=aD\/t.led=aD)
def Nz:jW "sorted"=Z (.builtin "sorted"):=YS
end L2
namespace L2
open PySem PySem.Spec PyProof.Rows PySem.W
section
variable{P:bS}{w:bP}{K:bJ}{mg:aA->Option aE}{b_:bH}
def QI
 
 (d:eI (k+1) A)(g:nS P w K mg b_ A o_ s H)(l:s.heap.get? f=Z o)(m:o.data=.func (kla_fn name j params body scope [] pm a i))(p:s.heap.CodeRec a j)(S:cB N ps scope)
 (z:I9 s (kla_fn name j params body scope [] pm a i) args (ps.zip us))(r:cA vs us)(B:vs.length=ps.length)
 (C:eI k (A.deeper (J1 j scope s.heap.objs.size f a))->∃t:bF,bL (hG iV P w K mg b_ N j scope f a A o_ s H mS).nox body t/\t (start N vs) H Q) :
  I6 (aW P w) A (.call (.ref f) args) (BM iV o_ P w H s Q mS) s:=by
 have D:s.heap.NoLimit:=g.mod.nolimit.keeps λb o e=>(g.bs b o e).1;have E:∀y∈ps.zip us,scope.names.lookup y.1=Z .local\/(scope.names.lookup y.1=Z .cell/\((J2 (s.heap.objs.size+1) scope.names []).lookup y.1).isSome=aD):=fun⟨n,v⟩ G=>by
  rcases S.par n (we G).1 with q|q
  .exact .inl q
  .exact .inr ⟨q,yA _ _ _ (.inl q)⟩
 refine kla_callFunE d.depth l m S.co S.gen O p (z _ _ _ _ (J3 S.kind E λenv J s1 x=>?_));subst J;refine⟨D.keeps x.toInCall.keep,kla_codeExpr ?_⟩;obtain⟨t,M,T⟩:=C (d.deeper _);have I:Inv (hG iV P w K mg b_ N j scope f a A o_ s H mS) [] (start N vs) H s1:=Di S d.hd g B r x;have U:Inv (hG iV P w K mg b_ N j scope f a A o_ s H mS).nox [] (start N vs) H s1:=⟨⟨I.ok.mod,I.ok.kind,I.ok.glob,I.ok.blt,I.ok.above,I.ok.inj,I.ok.has,I.ok.cab,I.ok.hd,I.ok.frames,I.ok.stk,I.ok.exf,I.ok.bs,I.ok.bsz,I.ok.noex,I.ok.exfs,I.ok.funs,I.ok.frf⟩,I.os,I.bare,I.b_,I.loc,I.cell,I.free,I.freeC,I.pin,I.hok,I.len⟩
 refine fA (M [] s1 (start N vs) H _ U T) (λu L h=>?_) λe L h=>gH h;obtain⟨v,H',c,Y,q⟩:=h;exact⟨v,H',c.os,c.bare,c.b_,c.hok,Y,q⟩
end
def iH(T:aB)(H H':aC):Prop:=∀b o,b≠T->H b=Z o->H' b=Z o
def iH.trans(a:iH T H z)(b:iH T z H2):iH T H H2:=λx o n e=>b x o n (a x o n e)
noncomputable def oZ(j:aA)(c:aB):cY:=.ext λh=>h.CodeRec (.ref c) j
noncomputable def nF(name j:aA)(params:p3)(body:bI)(scope:kA)(c f:aB):cY:=.ext λh=>∃pm ctv,h.get? f=Z (L6 name j params body scope [] pm c ctv)
def oZ.ok(x:h.CodeRec (.ref c) q):dQ P w H h c (oZ q c):=by
 refine⟨x,?_,λh1 h2 y k=>?_⟩
 .obtain⟨c',a,vs,t,e,b,_⟩:=x;cases e;exact⟨a,b⟩
 .obtain⟨c',a,vs,t,e,b,r⟩:=y;cases e;exact⟨_,a,vs,t,O,k _ b,r⟩
def nF.ok(x:h.get? f=Z (L6 n q ps b a [] pm c ctv)):dQ P w H h f (nF n q ps b a c f):=
 ⟨⟨pm,ctv,x⟩,⟨_,x⟩,λh1 h2 ⟨p,v,y⟩ k=>⟨p,v,k _ y⟩⟩
def hJ(T:aB)(pos:Pos)(j:aA)(H:aC):Prop:=
 ∃ps,H T=Z (.tbl ps)/\TriplesOk ps.toList/\(codeAmong pos ps.toList=aF\/∃c',codeAmong pos ps.toList=Z (.ref c')/\H c'=Z (oZ j c'))
def hJ.keep(x:hJ T pos j H)(k:∀b o,H b=Z o->H' b=Z o):hJ T pos j H':=by
 obtain⟨ps,e,t,r⟩:=x;refine⟨ps,k _ _ e,t,r.imp id fun⟨c,a,d⟩=>⟨c,a,k _ _ d⟩⟩
theorem LA:∀(l:M4) {m:M4},TriplesOk m->TriplesOk l->TriplesOk (l++m)
 |[],_,h,_=>h
 |[a],_,_,h=>by cases a<;>exact gH h
 |[a,b],_,_,h=>by cases a<;>cases b<;>exact gH h
 |a::b::c::r,m,h1,h2=>by
  cases a<;>first|exact gH h2|(cases b<;>first|exact gH h2|exact LA r h1 h2)
structure nh (K:bJ) (mg:aA->Option aE) (b_:bH) (x:aA) (c T:aB):Prop where
 bm:∃bm ob,mg "__builtins__"=Z (.ref bm)/\bm≠L5/\b_.get? bm=Z ob/\ob.cls=.type "module"/\ob.dict=Z L5/\ob.data=.plain
 hd:CodeHd b_ c T
 cd:∀(fa:aB)(o:aZ)(fd:iK),mg x=Z (.ref fa)->K.lookup fa=Z o->o.data=.func fd->fd.code=.ref c
section
variable{X:aX}{T c:aB}{j:aA}{params:p3}{body:bI}{scope:kA}{pos:Pos}
def Hs(T:aB)(pos:Pos)(j:aA)(params:p3)(body:bI)(scope:kA):bF:=λY H Q=>hJ T pos j H /\
 ∀(f c':aB)(H':aC),iH T H H'->hJ T pos j H'->H' c'=Z (oZ j c')->H' f=Z (nF "<lambda>" j params body scope c' f)->Q (.ref f) H'
def Tq(B:nh X.K X.mg X.b_ x c T)(a8:X.env.code=.ref c)(ao:X.env.qual++"<lambda>"=j)(a9:t7 scope X.env=pure [])(ap:defaultsOf params X.env=([],[])) :
  bL X (.Lambda params body scope pos) (Hs T pos j params body scope):=.mk λU s Y H Q I h=>by
 obtain⟨⟨ps,i,k,aq⟩,q⟩:=h;subst ao;have p:s.heap.get? T=Z (tabObj ps):=I.hok T _ i;have M:=I.mod.glob.keeps I.bk;obtain⟨bm,ar,as,au,C,aa,av,N⟩:=B.bm;have aw:mM≠T:=λf=>by
  obtain⟨o,es,ep,e,hd,_⟩:=M;rw[f,p]at e;cases e;cases hd
 have ax:bm≠T:=λf=>by
  have e:=I.bk _ _ C;rw[f,p]at e;cases e;cases aa
 have ay:bm≠mM:=λf=>by
  obtain⟨o,es,ep,e,hd,_⟩:=I.mod.glob;rw[f,e]at C;cases C;rw[hd]at N;cases N
 have bl:s.heap.BuiltinsAt X.mg T:=⟨bm,ar,as,au,ay,ax,I.bk _ _ C,aa,av,N⟩
 have D:∀b,H b=aF->b≠T:=λb n f=>by rw[f,i]at n;cases n
 refine kla_eval ap ?_;rcases aq with a0|⟨c',ac,ae⟩
 .refine kla_makeFunction (mg:=X.mg) a9 I.ok.glob M a8 (B.hd.keeps I.bk) p k a0 aw bl λc' ctv h' tk a1 w E af a2=>?_;have y:(h'.push (L6 "<lambda>" (X.env.qual++"<lambda>") params body scope [] ((X.mg "__name__").getD .none) c' ctv)).get? h'.objs.size=Z (L6 "<lambda>" (X.env.qual++"<lambda>") params body scope [] ((X.mg "__name__").getD .none) c' ctv):=fP _ O;generalize ag:L6 "<lambda>" (X.env.qual++"<lambda>") params body scope [] ((X.mg "__name__").getD .none) c' ctv=G at y;have A:∀b o,b≠T->s.heap.get? b=Z o->(h'.push G).get? b=Z o:=λb o n e=>cZ _ (a1 b o n e);have lt:∀b o,s.heap.get? b=Z o->b≠c'/\b≠h'.objs.size:=λb o e=>⟨dC (gT (cW e) w),dC (rS (gT (cW e) w) E)⟩
  have fresh:∀b o,H b=Z o->b≠c'/\b≠h'.objs.size:=λb o e=>by
   have:=I.hok.lt e;exact⟨dC (gT this w),dC (rS (gT this w) E)⟩
  have ah:c'≠T:=D4 (fresh T _ i).1;have ai:h'.objs.size≠T:=D4 (fresh T _ i).2;have aj:c'≠h'.objs.size:=dC E
  let a3:=ps++#[I3 pos.line,I3 pos.col,.ref c']
  let z:=aI (aI (aI H T (.tbl a3)) c' (oZ (X.env.qual++"<lambda>") c')) h'.objs.size (nF "<lambda>" (X.env.qual++"<lambda>") params body scope c' h'.objs.size)
  have up:∀b,b≠T->b≠c'->b≠h'.objs.size->z b=H b:=λb az aR b0=>by
   show aI _ _ _ b=_;rw[bA b0,bA aR,bA az]
  have J:z T=Z (.tbl a3):=by
   show aI _ _ _ T=_;rw[bA (D4 ai),bA (D4 ah),aV]
  have L:z c'=Z (oZ (X.env.qual++"<lambda>") c'):=by
   show aI _ _ _ c'=_;rw[bA aj,aV]
  have a4:z h'.objs.size=Z (nF "<lambda>" (X.env.qual++"<lambda>") params body scope c' h'.objs.size):=aV;have KB:iH T H z:=λb o n e=>by rw[up b n (fresh b o e).1 (fresh b o e).2];exact e
  have ak:dL X.prog X.w z (h'.push G):=λb u e=>by
   by_cases al:b=h'.objs.size
   .subst al;rw[a4]at e;cases e;exact nF.ok (pm:=(X.mg "__name__").getD .none) (ctv:=ctv) (by rw[y,ag])
   .by_cases am:b=c'
    .subst am;rw[L]at e;cases e;obtain⟨_,b1,vs,t,b2,b3,r⟩:=af;cases b2;exact oZ.ok ⟨_,b1,vs,t,O,cZ _ b3,r⟩
    .by_cases a5:b=T
     .subst a5;rw[J]at e;cases e;show(h'.push G).get? b=Z _;exact cZ _ a2
     .rw[up b a5 am al]at e;refine(I.hok b u e).stay (λd v hd g=>A d v (λf=>?_) g) (λd f=>KB d _ (YH f i) f) λd xs f=>KB d _ (YH f i) f;rcases hd with hd|hd
      .exact a5 (hd▸f)
      .rw[f,i]at hd;cases hd
  have an:Inv X U Y z {s with heap:=h'.push G,toks:=tk}:=by
   refine I.step (g':=s.gens) (d':=s.drawn) (ch:=[]) (λ_ f=>nomatch f) (λb o _ _ _ e n=>A b o (D b n) e) (λb o _ _ _ e n=>⟨o.slots,A b o (D b n) e⟩)
    (λb o _ e n=>by rw[up b (D b n) (lt b o e).1 (lt b o e).2];exact n) (λb o _ e=>?_) (λb xs e=>KB b _ (YH e i) e) (λb o u e=>KB b _ (YH e i) e)
    (λb b5 e=>?_) (λm hm=>?_) ak I.bare
   .by_cases f:b=T
    .subst f;exact⟨_,cZ _ a2⟩
    .exact⟨o,A b o f e⟩
   .by_cases f:b=T
    .subst f;rw[i]at e;cases e;exact⟨_,J⟩
    .exact⟨#[],by rw[KB b _ f e];simp⟩
   .exact(hm.extBut a1 (D _ I.free)).push _
  refine⟨.ref h'.objs.size,z,?_,O,q _ c' z KB ⟨a3,J,?_,.inr ⟨c',?_,L⟩⟩ L a4⟩
  .exact an
  .show TriplesOk (ps++#[I3 pos.line,I3 pos.col,.ref c']).toList;rw[Array.toList_append];generalize ps.toList=l at k;clear up J ak KB an fresh lt A q p a0 E w aj ai ah L a4 a1 af a2 y ag bl i;revert k;exact LA l trivial
  .show codeAmong pos (ps++#[I3 pos.line,I3 pos.col,.ref c']).toList=_;rw[Array.toList_append];exact codeAmong_snoc _ k a0
 .refine kla_makeFunctionHit (mg:=X.mg) a9 I.ok.glob M a8 (B.hd.keeps I.bk) p k ac bl λctv h' tk b4 hsz=>?_;have y:(h'.push (L6 "<lambda>" (X.env.qual++"<lambda>") params body scope [] ((X.mg "__name__").getD .none) c' ctv)).get? h'.objs.size=Z (L6 "<lambda>" (X.env.qual++"<lambda>") params body scope [] ((X.mg "__name__").getD .none) c' ctv):=fP _ O;refine⟨.ref h'.objs.size,_,I.laid (a:=h'.objs.size) (o:=nF "<lambda>" (X.env.qual++"<lambda>") params body scope c' h'.objs.size) (t':=tk) (λb o e=>cZ _ (b4 b o e)) hsz (nF.ok y),O,?_⟩;have fr:=I.hok.fresh hsz;have a7:∀b o,H b=Z o->aI H h'.objs.size (nF "<lambda>" (X.env.qual++"<lambda>") params body scope c' h'.objs.size) b=Z o:=λb o e=>by rw[bA (cX e fr)];exact e
  exact q _ c' _ (λb o _ e=>a7 b o e) (hJ.keep ⟨ps,i,k,.inr ⟨c',ac,ae⟩⟩ a7) (a7 _ _ ae) aV
end
end L2
open L2.hJ renaming keep→F1
namespace HT
open PySem PyProof.Rows
section
open PySem.SeqAt
open PySem.AutoSeq1 (wpAny_loadPart')
open PySem.MeetsSeq PySem.MeetsSeq2 PySem.MeetsSeq3
theorem u7:∀{vs:M4} {ns:M6} (i:Nat),J9 vs ns->i<vs.length->∃a t,vs[i]?=Z (.int a t)/\ns[i]?=Z a
 |_,_,_,.nil,h=>by simp at h
 |_,_,0,.cons a t r,_=>⟨a,t,O,O⟩
 |_,_,i+1,.cons a t r,h=>u7 i r (by simpa using h)
def Nr(l b:aB)(items f:Array aE)(n G:Nat)(dd H:Option aB)(I J:Array (Option aE))(ns j:M6)(hi:J9 items.toList ns)(y:J9 f.toList j)(k:Nat) :
  ∀i:Nat,items.size-i=k->Meets (Builtin.«list.__eq__.loop» ⟨[.ref l,.ref b,I3 i,I3 0],[]⟩)
   (λA R s=>s.heap.get? l=Z {cls:=.type "list",dict:=dd,data:=.seq items n,slots:=I}/\s.heap.get? b=Z {cls:=.type "list",dict:=H,data:=.seq f G,slots:=J} /\
    i<=items.size/\i<=f.size/\R (.ok (.ret (.bool (lexLt (ns.drop i) (j.drop i))))) s):=by
 have a2:items.size=ns.length:=by rw[←hi.length];simp
 have a3:f.size=j.length:=by rw[←y.length];simp
 induction k with
 |zero=>
  intro i L prog w A R s h;obtain⟨x,g,d,tk,os⟩:=s;obtain⟨m,o,p,r,h⟩:=h
  wp_walk using m5 m,m5 o
  have p:items[((i:Nat):Int).toNat]?=aF:=by simp;omega
  rw[p]
  wp_walk using m5 m,m5 o
  show R (.ok (.ret (.bool (G9 (items.size<f.size))))) _;rw[vM (as:=ns) YT]at h;have e:lexLt [] (j.drop i)=G9 (items.size<f.size):=by
   by_cases q:i<j.length
   .rw[vD q,MF];exact(B0 YT).symm
   .rw[vM YT,M1];exact(B1 YT).symm
  rw[e]at h;exact h
 |succ k M=>
  intro i L prog w A R s h;obtain⟨x,g,d,tk,os⟩:=s;obtain⟨m,o,a4,a5,h⟩:=h;have N:i<items.size:=YT;obtain⟨a,t,Q,B⟩:=u7 i hi (by rw[nH];exact N);have C:i<ns.length:=YT;have p:items[((i:Nat):Int).toNat]?=Z (.int a t):=by
   rw[show((i:Nat):Int).toNat=i by simp,←rE];exact Q
  have dn:ns.drop i=a::ns.drop (i+1):=by
   rw[vD C];rw[cJ C]at B;rw[eA B]
  rw[dn]at h
  wp_walk using m5 m,m5 o
  rw[p];by_cases q:i<f.size
  .obtain⟨c,u,T,D⟩:=u7 i y (by rw[nH];exact q);have hm:i<j.length:=YT;have r:f[((i:Nat):Int).toNat]?=Z (.int c u):=by
    rw[show((i:Nat):Int).toNat=i by simp,←rE];exact T
   have U:j.drop i=c::j.drop (i+1):=by
    rw[vD hm];rw[cJ hm]at D;rw[eA D]
   rw[U,Wr]at h;rw[r];obtain⟨e,Y,E⟩:=QW A.in1 ⟨x,g,d,tk,os⟩ a t c u;have a0:((i:Int)+1)=((i+1:Nat):Int):=by push_cast;rfl
   refine aO (Y prog w _ _ ?_);cases e with
   |true=>
    rw[B4 (E.mp O)]at h
    wp_walk
    rw[a0];exact⟨o9 plain_eq_loop _,o8 entry_eq_loop (by
     rw[pR plain_eq_loop _];exact M (i+1) YT prog w A R _ ⟨m,o,YT,YT,h⟩)⟩
   |false=>
    rw[B3 (λz=>B6 (E.mpr z) fQ)]at h;have a1:=Qq A.in1 ⟨x,g,d,tk,os⟩ a t c u prog w
    wp_walk using m5 m,m5 o
    rw[p,r]
    wp_walk using a1
    exact h
  .have r:f[((i:Nat):Int).toNat]?=aF:=by simp;omega
   rw[r]
   wp_walk using m5 m,m5 o
   show R (.ok (.ret (.bool (G9 (items.size<f.size))))) _;rw[vM (as:=j) YT,MG]at h;rw[B1 YT];exact h
def Nt(l b:aB)(items a:Array aE)(n e:Nat)(dd f:Option aB)(i j:Array (Option aE))(ns c:M6)(hi:J9 items.toList ns)(o:J9 a.toList c) :
  Meets (Builtin.«list.__lt__» ⟨[.ref l,.ref b],[]⟩)
   (λA R s=>s.heap.get? l=Z {cls:=.type "list",dict:=dd,data:=.seq items n,slots:=i}/\s.heap.get? b=Z {cls:=.type "list",dict:=f,data:=.seq a e,slots:=j} /\
    R (.ok (.ret (.bool (lexLt ns c)))) s):=by
 intro prog w A R s h;obtain⟨p,g,d,tk,os⟩:=s;obtain⟨k,m,h⟩:=h;have f3:=AutoSeq1.sub_list_list
 wp_walk using m5 k,m5 m
 exact⟨o9 plain_eq_loop _,o8 entry_eq_loop (by
  rw[pR plain_eq_loop _];exact Nr l b items a n e dd f i j ns c hi o _ 0 O prog w A R _ ⟨k,m,gU _,gU _,by simpa using h⟩)⟩
end
section
variable{prog:bS}{w:bP}{A:bX}{E:aE->aJ->Prop}{s:aJ}
def YE(k:s.heap.IsList l items)(m:s.heap.IsList b c)(hi:J9 items.toList ns)(o:J9 c.toList a)
 (p:A.units<I8)(h:Q (.bool (lexLt ns a)) s):aU (aW prog w) A (iU .Lt (.ref l) (.ref b)) Q E s:=by
 obtain⟨⟨cls,dd,data,q⟩,d,e,n,f⟩:=id k;obtain⟨⟨y,r,data2,t⟩,g,i,u,j⟩:=id m;simp only at e f i j;subst e f i j;exact richCompare_meets_room (op:=.Lt) ⟨_,d,O⟩ ⟨_,g,O⟩ PySem.F.slot_list_lt PySem.F.entry_list_lt (PySem.F.args_list_lt_2 _ _) (Nt l b items c n u dd r q t ns a hi o)
  ⟨d,g,show t4 (lexLt ns a)≠aE.notImplemented/\Q (.bool (lexLt ns a)) s from⟨(λx=>nomatch x),h⟩⟩ p
end
end HT
namespace L2
open PySem PySem.Spec PyProof.Rows PySem.W
noncomputable def w1(n:Nat)(lt:Nat->Nat->Bool){q:Type}:KasT q->Option q
 |.ret a=>Z a
 |.ask i j k=>if i<n/\j<n then w1 n lt (k (lt i j)) else aF
theorem DM{q:Type}{n:Nat}{lt:Nat->Nat->Bool}{c:Nat->Nat->(Bool->aJ->Prop)->aJ->Prop}{s:aJ}(d:∀(i j:Nat)(C:Bool->aJ->Prop),i<n->j<n->C (lt i j) s->c i j C s) :
  ∀(t:KasT q)(a:q)(G:q->aJ->Prop),w1 n lt t=Z a->G a s->t.kasWp c G s
 |.ret b,a,G,e,g=>by
  have e:b=a:=eA e;subst e;exact g
 |.ask i j k,a,G,e,g=>by
  unfold w1 at e;split at e
  .rename_i h;exact d i j _ h.1 h.2 (DM d (k (lt i j)) a G e g)
  .cases e
noncomputable def pC(ns a:M6):Bool:=if ns.length=a.length then G6 ns a else G9 (ns.length<a.length)
def sf(a:List (M6)):Option (Array Nat):=w1 a.length (λi j=>pC (a.getD i []) (a.getD j [])) (kas_sort a.length)
noncomputable def gZ:Nat->List (M6)
 |0=>[[]]
 |k+1=>gZ k++(gZ k).map (·++[(k:Int)])
noncomputable def uw:Nat->List Nat
 |1=>[0,1]
 |2=>[0,1,2,3]
 |3=>[0,1,2,4,3,5,6,7]
 |_=>[0,1,2,4,8,3,5,9,6,10,12,7,11,13,14,15]
def RC:sf (gZ 1)=Z (uw 1).toArray:=YS
def RB:sf (gZ 2)=Z (uw 2).toArray:=YS
def RA:sf (gZ 3)=Z (uw 3).toArray:=YS
def Rz:sf (gZ 4)=Z (uw 4).toArray:=YS
section
variable{X:aX}{U:List (aB×aZ)}{Y:List (Option V)}{H:aC}{s:aJ}
structure mA (X:aX) (H:aC) (b:aB):Prop where
 nt:H b=aF
 loc:b≠X.env.locals
 nfs:b∉X.fs
 ab:X.s₀.heap.objs.size<=b
 ncl:∀x c,X.env.cells.lookup x=Z c->c≠b
 npn:∀p∈X.pn,p.1≠b
def mA.new(I:Inv X U Y H s)(h:s.heap.objs.size<=b):mA X H b:=by
 refine⟨I.hok.fresh h,D4 (dC (gT I.lt h)),I.nofs h,dN I.sz h,λx c e a=>?_,λp f a=>?_⟩
 .obtain⟨v,o,d,_⟩:=I.cell x c e;exact B6 (cW d) (by rw[a];exact Nat.not_lt.mpr h)
 .have d:=(I.pin p (o1 _ f)).1;exact B6 (cW d) (by rw[a];exact Nat.not_lt.mpr h)
def Inv.pinAdd(I:Inv X U Y H s)(e:s.heap.get? b=Z o)(a:mA X H b)(d:∀v,o.data≠.cell v):Inv X ((b,o)::U) Y H s:=
 I.pins_of λp c=>by
  rcases dW.mp c with rfl|c
  .exact⟨e,a.nt,a.loc,a.nfs,d⟩
  .exact I.pin p (jV _ c)
def Inv.pinDrop(I:Inv X (q::U) Y H s):Inv X U Y H s:=I.pins_of λp a=>I.pin p (jV _ (eK _ a))
def Inv.pinAt(I:Inv X ((b,o)::U) Y H s):s.heap.get? b=Z o/\H b=aF:=let x:=I.pin (b,o) (jV _ eB);⟨x.1,x.2.1⟩
def Inv.turn(I:Inv X ((b,o)::U) Y H s)(a:mA X H b)(c:∀p∈U,p.1≠b)(k:∀d u,d≠b->s.heap.get? d=Z u->h'.get? d=Z u)(e:h'.get? b=Z o')(f:∀v,o'.data≠.cell v) :
  Inv X ((b,o')::U) Y H {s with heap:=h',toks:=t'}:=
 Inv.pinAdd (I.pinDrop.turned (h':=h') (t':=t') k a.nt a.loc (.inr a.ab) a.ncl λp z=>by
  rcases gN.mp z with z|z
  .exact a.npn p z
  .exact c p z) e a f
def Inv.track(I:Inv X ((b,o)::U) Y H s)(f:mA X H b)(h:∀p∈U,p.1≠b)(new:dQ X.prog X.w (aI H b u) s.heap b u):Inv X U Y (aI H b u) s:=by
 have i:=I.pinDrop;have g:∀c v,H c=Z v->c≠b:=λc v e=>cX e f.nt;have j:∀c∈[b],(c∈X.ex\/X.s₀.heap.objs.size<=c)/\c≠X.env.locals/\(∀x d,X.env.cells.lookup x=Z d->d≠c)/\∀p∈X.pn++U,p.1≠c:=λc a=>by
  have e:c=b:=by simpa using a
  subst e;exact⟨.inr f.ab,f.loc,f.ncl,λp k=>(gN.mp k).elim (f.npn p) (h p)⟩
 have:=i.step (h':=s.heap) (H':=aI H b u) (g':=s.gens) (t':=s.toks) (d':=s.drawn) (ch:=[b]) j (λc o _ _ _ e _=>e) (λc o _ _ _ e _=>⟨o.slots,e⟩) (λc o a e n=>by rw[bA (by simpa using a)];exact n)
  (λc o _ e=>⟨o,e⟩) (λc xs e=>by rw[bA (g c _ e)];exact e) (λc o v e=>by rw[bA (g c _ e)];exact e) (λc ps e=>⟨#[],by rw[bA (g c _ e),e];simp⟩) (λm hm=>hm) (λc v e=>?_) I.bare
 .exact this
 .by_cases a:c=b
  .subst a;rw[aV]at e;cases e;exact new
  .rw[bA a]at e;exact(I.hok c v e).stay (λd w _ q=>q) (λd q=>by rw[bA (g d _ q)];exact q) λd xs q=>by rw[bA (g d _ q)];exact q
end
theorem Ly:∀ns:M6,G6 ns ns=aK
 |[]=>rfl
 |n::ns=>by rw[HT.Wr,B4 O];exact Ly ns
theorem Dr:∀ns a:M6,nD (ns.map E9) (a.map E9)=G9 (ns=a)
 |[],[]=>rfl
 |[],_::_=>rfl
 |_::_,[]=>rfl
 |n::ns,m::a=>by
  show(iF (.int n) (.int m)&&nD (ns.map E9) (a.map E9))=_;rw[Dr ns a];show(G9 (n=m)&&G9 (ns=a))=_;by_cases h1:n=m<;>by_cases h2:ns=a<;>simp[h1,h2]
theorem x1:∀ns:M6,IsL H (ns.map E9) (ns.map D1)
 |[]=>rfl
 |n::ns=>⟨.int n,_,O,O,x1 ns⟩
theorem BA:∀ns:M6,jK 1 (ns.map E9)=aD
 |[]=>rfl
 |n::ns=>by
  show(iN 1 (.int n)&&jK 1 (ns.map E9))=aD;rw[BA ns];rfl
def By{ns:M6}{vs:M4}(h:cA (ns.map D1) vs):J9 vs.toArray.toList ns:=by
 induction ns generalizing vs with
 |nil=>cases h;exact .nil
 |cons n ns i=>
  cases h with
  |cons r t=>obtain⟨a,rfl⟩:=r;exact .cons n a (i t)
section
variable{X:aX}{U:List (aB×aZ)}{Y:List (Option V)}{H:aC}{s:aJ}
def TM(I:Inv X U Y H s)(N:A.units+8<I8)(k:H t=Z (.tup [.int ns.length,.ref a]))(l:H u=Z (.tup [.int c.length,.ref b]))
 (ea:H a=Z (.lst (ns.map D1)))(j:H b=Z (.lst (c.map D1)))(q:Q (pC ns c) s) :
  aU (aW X.prog X.w) A (keyLt' (tuples' aD) (.ref t) (.ref u)) Q E s:=by
 obtain⟨T,m,⟨a0,n,a1,a2,o⟩,_⟩:=I.tuple (D0 k);obtain⟨a3,p,⟨a4,r,a5,a6,w⟩,_⟩:=I.tuple (D0 l);cases m with
 |cons x e=>
 cases e with
 |cons y e=>
 cases e;cases p with
 |cons z f=>
 cases f with
 |cons B f=>
 cases f;obtain⟨C,rfl⟩:=x;obtain⟨G,rfl⟩:=z;cases y;cases B;refine kat_lt n o r w (kat_cons (wpAny_eqBool_int ?_));by_cases g:ns.length=c.length
 .have i:((ns.length:Int)==(c.length:Int))=aD:=by simp[g]
  rw[i];refine kat_yes (kat_cons (bY.eqAt I 2 (.lst (ns.map E9)) (.lst (c.map E9)) (.ref a) (.ref b) (.ref a) (.ref b) A YT (BA ns) (BA c) ⟨a,_,O,ea,x1 ns⟩ ⟨b,_,O,j,x1 c⟩ O O X.prog X.w _ _ ?_));have J:iF (.lst (ns.map E9)) (.lst (c.map E9))=G9 (ns=c):=Dr ns c;rw[J];by_cases hm:ns=c
  .rw[B0 hm];refine kat_yes (kat_nil ?_);subst hm;have d:pC ns ns=aK:=by unfold pC;rw[B4 O,Ly]
   rw[d]at q;exact q
  .rw[B1 hm];refine kat_no ?_;show aU _ _ (oneLt' aK (.ref a) (.ref b)) _ _ _;obtain⟨a7,L,D,_⟩:=I.list (C8 ea);obtain⟨a8,M,p2,_⟩:=I.list (C8 j);refine kat_one _ _ (HT.YE D.isList p2.isList (By L) (By M) YT ?_);have d:pC ns c=G6 ns c:=by unfold pC;rw[B4 g]
   rw[d]at q;exact q
 .have i:((ns.length:Int)==(c.length:Int))=aK:=by simp;omega
  rw[i];refine kat_no ?_;show aU _ _ (oneLt' aD (.int ns.length C) (.int c.length G)) _ _ _;refine oneLt_int ?_;have d:pC ns c=G9 ((ns.length:Int)<(c.length:Int)):=by
   unfold pC;rw[B3 g];by_cases h:ns.length<c.length
   .rw[B0 h,B0 YT]
   .rw[B1 h,B1 YT]
  rw[d]at q;exact q
end
def w9(X:aX)(Y:List (Option V))(A:bX)(f:aB)(P0:aC->Prop):Prop:=∀(U:List (aB×aZ))(s:aJ)(H:aC)(a:aB)(ns:M6),Inv X U Y H s->P0 H->H a=Z (.lst (ns.map D1)) ->
 aU (aW X.prog X.w) A (call (.ref f) [.ref a]) (λu L=>∃t H',Inv X U Y H' L/\u=.ref t/\aL H H'/\H' t=Z (.tup [.int ns.length,.ref a])) (λ_ _=>False) s
abbrev nA (H:aC) (ps:List (aB×M6)):Prop:=∀p∈ps,H p.1=Z (.lst (p.2.map D1))
def nA.same(S:aL H H')(h:nA H ps):nA H' ps:=λp m=>S _ _ (h p m)
def lu(H:aC):M4->List (aB×M6)->Prop
 |[],[]=>True
 |k::ks,p::ps=>(∃t,k=.ref t/\H t=Z (.tup [.int p.2.length,.ref p.1]))/\lu H ks ps
 |_,_=>False
theorem lu.same(S:aL H H'):∀{ks:M4} {ps:List (aB×M6)},lu H ks ps->lu H' ks ps
 |[],[],_=>trivial
 |[],_::_,h=>h
 |_::_,[],h=>h
 |_::_,_::_,⟨⟨t,e,g⟩,r⟩=>⟨⟨t,e,S _ _ g⟩,lu.same S r⟩
theorem lu.snoc(g:H t=Z (.tup [.int p.2.length,.ref p.1])):∀{ks:M4} {ps:List (aB×M6)},lu H ks ps->lu H (ks++[.ref t]) (ps++[p])
 |[],[],_=>⟨⟨t,O,g⟩,trivial⟩
 |[],_::_,h=>h.elim
 |_::_,[],h=>h.elim
 |_::_,_::_,⟨x,r⟩=>⟨x,lu.snoc g r⟩
theorem lu.length:∀{ks:M4} {ps:List (aB×M6)},lu H ks ps->ks.length=ps.length
 |[],[],_=>rfl
 |[],_::_,h=>h.elim
 |_::_,[],h=>h.elim
 |_::_,_::_,⟨_,r⟩=>by rw[fW,fW,lu.length r]
theorem lu.get:∀{ks:M4} {ps:List (aB×M6)} (i:Nat),lu H ks ps->i<ps.length->∃t p,ks.getD i iS=.ref t/\ps[i]?=Z p/\H t=Z (.tup [.int p.2.length,.ref p.1])
 |[],[],_,_,h=>by simp at h
 |[],_::_,_,h,_=>h.elim
 |_::_,[],_,h,_=>h.elim
 |_::_,p::_,0,⟨⟨t,e,g⟩,_⟩,_=>⟨t,p,by simpa using e,O,g⟩
 |_::ks,_::ps,i+1,⟨_,r⟩,h=>by
  obtain⟨t,p,a,b,c⟩:=lu.get (ks:=ks) (ps:=ps) i r (by simpa using h);exact⟨t,p,by simpa using a,by simpa using b,c⟩
section
variable{X:aX}{U:List (aB×aZ)}{Y:List (Option V)}{A:bX}{f kS:aB}{P0:aC->Prop}
def s7:∀v,({cls:=cl,data:=.seq xs n}:aZ).data≠.cell v:=λv h=>by cases h
theorem Df(I:Inv X U Y H s):∀{ks:M4} {ps:List (aB×M6)},lu H ks ps->∃fs:M4,KatTups s.heap ks fs/\fs.length=ps.length/\∀v∈fs,∃i t,v=.int i t
 |[],[],_=>⟨[],.nil,O,λ_ m=>nomatch m⟩
 |[],_::_,h=>h.elim
 |_::_,[],h=>h.elim
 |_::ks,p::ps,⟨⟨t,e,g⟩,r⟩=>by
  subst e;obtain⟨fs,a,b,c⟩:=Df I r;obtain⟨n,d,⟨o,f,j,q,k⟩,_⟩:=I.tuple (D0 g);cases d with
  |cons l u=>
  obtain⟨w,rfl⟩:=l;refine⟨_::fs,.cons f j k O a,by rw[fW,fW,b],λv m=>?_⟩;rcases dW.mp m with rfl|m
  .exact⟨_,_,O⟩
  .exact c v m
theorem Dg(w:∀H H',aL H H'->P0 H->P0 H')(y:w9 X Y A f P0)(M:n<=1000)
 (z:∀(x:aE)(ks:M4)(s:aJ)(C:aE->aJ->Prop),aU (aW X.prog X.w) A (call (.ref f) [x]) (λk L=>aU (aW X.prog X.w) A (Builtin.List.listUpdate (.ref kS) (·.push k)) (λ_ N=>C k N) (λ_ _=>False) L) (λ_ _=>False) s ->
   aU (aW X.prog X.w) A (body x ⟨⟩) (λr L=>r=.yield ⟨⟩/\∃k,C k L) E s) :
  ∀(r done:List (aB×M6))(ks:M4)(e:Nat)(H:aC)(s:aJ),Inv X ((kS,K7 "list" ks.toArray e)::U) Y H s->mA X H kS->(∀p∈U,p.1≠kS)->P0 H->nA H r->lu H ks done->done.length+r.length=n ->
   aU (aW X.prog X.w) A (forIn (r.map λp=>cU p.1) PUnit.unit body) (λ_ L=>∃(B:M4)(b:Nat)(H':aC),Inv X ((kS,K7 "list" B.toArray b)::U) Y H' L/\aL H H'/\lu H' B (done++r)) E s
 |[],done,ks,e,H,s,I,a,i,j,G,h,D=>by
  rw[mu,List.forIn_nil];exact bN ⟨ks,e,H,I,D7 _,by rw[lK];exact h⟩
 |p::r,done,ks,e,H,s,I,a,i,j,G,h,D=>by
  rw[dD,wh];have a7:=h.length;rw[fW]at D;refine aO (fA (z (.ref p.1) ks s (λk L=>∃(t:aB)(b:Nat)(H':aC),k=.ref t/\Inv X ((kS,K7 "list" (ks++[k]).toArray b)::U) Y H' L/\aL H H'/\H' t=Z (.tup [.int p.2.length,.ref p.1])) ?_) (λq L Q=>?_) λ_ _ x=>x)
  .refine fA (y _ s H p.1 p.2 I j (G p eB)) (λu L T=>?_) λ_ _ x=>x;obtain⟨t,H',c,rfl,S,g⟩:=T;have l:=c.pinAt;refine wz l.1 O ?_ (by rw[eN,jC];omega) (dN (t1 (wb ..)) (by rw[eN,jC];omega));have ea:(qU ks).push (.ref t)=qU (ks++[.ref t]):=by simp
   obtain⟨o,a0⟩:∃o,(L.heap.update kS (iT (·.push (.ref t)))).get? kS=Z (K7 "list" (qU (ks++[.ref t])) o):=⟨_,by rw[←ea];exact wr l.1 (·.push (.ref t))⟩
   refine⟨t,o,H',O,?_,S,g⟩;exact Inv.turn (t':=L.toks) c ⟨l.2,a.loc,a.nfs,a.ab,a.ncl,a.npn⟩ i (λd u a1 q=>by rw[lU _ _ (D4 a1)];exact q) a0 s7
  .obtain⟨rfl,k,t,b,H',rfl,c,S,g⟩:=Q;show aU (aW X.prog X.w) A (forIn (r.map λp=>cU p.1) PUnit.unit body) _ E L;refine fA (Dg w y M z r (done++[p]) (ks++[.ref t]) b H' L c ⟨c.pinAt.2,a.loc,a.nfs,a.ab,a.ncl,a.npn⟩ i (w _ _ S j) (nA.same S λq m=>G q (eK _ m)) ((h.same S).snoc g) (by rw[eW,lV];omega)) (λ_ a8 a2=>?_) λ_ _ x=>x;obtain⟨a3,a4,H2,a5,a6,J⟩:=a2;refine⟨a3,a4,H2,a5,S.trans a6,?_⟩;rw[oB]at J;exact J
end
section
variable{prog:bS}{w:bP}{A:bX}{E:aE->aJ->Prop}{s:aJ}
variable{f:SortKind}{G:Array Keyed}{n:Nat}{lt:Nat->Nat->Bool}
structure BJ where
 p:Array Nat
 pend:Array (Nat×Nat×Nat)
 mg:Nat
noncomputable def BJ.st(f:SortKind)(G:Array Keyed)(a:BJ):SortSt:=SortSt.mk' f (a.p.map (kas_item G)) a.pend a.mg aF
def Vf(prog:bS)(w:bP)(A:bX)(s:aJ)(f:SortKind)(G:Array Keyed)(n:Nat)(lt:Nat->Nat->Bool):Prop:=∀i j (C:Bool->aJ->Prop),i<n->j<n->C (lt i j) s->kas_cmp prog w A f G i j C s
noncomputable def ask(n:Nat)(lt:Nat->Nat->Bool)(p:Array Nat)(i j:Nat):Option Bool:=match p[i]?,p[j]? with
 |some x,Z y=>if x<n/\y<n then Z (lt x y) else aF
 |_,_=>aF
noncomputable def Wa(a:Nat->Nat->Option Bool)(lo:Nat):Nat->Nat->Option Nat
 |0,m=>Z m
 |f+1,m=>match a (lo+m) (lo+m-1) with
  |none=>aF
  |some aD=>Z m
  |some aK=>Wa a lo f (m+1)
noncomputable def Wt(p:Array Nat)(b c:Nat):Array Nat:=(eG (b-c)).foldl (λa k=>a.swapIfInBounds (b-k) (b-k-1)) p
noncomputable def AN(a:Nat->Nat->Option Bool)(lo k:Nat):Nat->Nat->Nat->Option Nat
 |0,l,_=>Z l
 |f+1,l,r=>if l>=r then Z l else match a (lo+k) (lo+(l+r)/2) with
  |none=>aF
  |some aD=>AN a lo k f l ((l+r)/2)
  |some aK=>AN a lo k f ((l+r)/2+1) r
def VX(n:Nat)(lt:Nat->Nat->Bool)(lo:Nat):List Nat->Array Nat->Option (Array Nat)
 |[],p=>Z p
 |k::ks,p=>match AN (ask n lt p) lo k k 0 k with
  |none=>aF
  |some l=>VX n lt lo ks (Wt p (lo+k) (lo+l))
noncomputable def UF{a:Type}(g:a->Option (Bool×a)):Nat->a->Option a
 |0,c=>Z c
 |f+1,c=>match g c with
  |none=>aF
  |some (aD,c')=>Z c'
  |some (aK,c')=>UF g f c'
noncomputable def YJ(bt:Nat->Option Bool)(pos:Nat->Nat)(c:Bool->Bool)(a:Nat)(x:Nat×Nat):Option (Bool×Nat×Nat):=if x.2>=a then Z (aD,x) else match bt (pos x.2) with
 |none=>aF
 |some m=>if c m=aD then Z (aD,x) else Z (aK,x.2,2*x.2+1)
noncomputable def Yl(bt:Nat->Option Bool)(x:Nat×Nat):Option (Bool×Nat×Nat):=if x.1>=x.2 then Z (aD,x) else match bt (x.1+(x.2-x.1)/2) with
 |none=>aF
 |some m=>if m=aD then Z (aK,x.1+(x.2-x.1)/2+1,x.2) else Z (aK,x.1,x.1+(x.2-x.1)/2)
structure Yd where
 res:Option (Array Nat)
 out:Array Nat
 ia:Nat
 ib:Nat
 ac:Nat
 bc:Nat
 deriving DecidableEq
end
def AF(a:List (M6))(i j:Nat):Bool:=pC (a.getD i []) (a.getD j [])
def sF(a:List (M6))(b:Array Nat):Prop:=∀(prog:bS)(w:bP)(A:bX)(E:aE->aJ->Prop)(s:aJ)(f:SortKind)(ks vs:M4),ks.length=a.length->vs.length=a.length ->
 Vf prog w A s f (ks.toArray.zip vs.toArray) a.length (AF a)->aU (aW prog w) A (sortRuns'.run (SortSt.mk' f (ks.toArray.zip vs.toArray) #[] 7 aF)) (λr L=>L=s/\arrOf r.2=b.map (kas_item (ks.toArray.zip vs.toArray))/\failedOf r.2=aF) E s
def uU(h:sf a=Z b)(h2:2<=a.length)(l:a.length<64):sF a b:=by
 intro prog w A E s f ks vs g d m;refine kat_run (Q:=λe L=>L=s/\arrOf e=b.map (kas_item (ks.toArray.zip vs.toArray))/\failedOf e=aF) (G:=λp L=>p=b/\L=s) (by rw[g,d]) (by rw[d];exact h2) (by rw[d];exact l) (λp e L t o q k=>⟨k.2,by rw[←k.1];exact o,q⟩) ?_;rw[d,kat_ask_eq (g.trans d.symm)];exact DM (n:=a.length) (lt:=AF a) (λi j C hi r c=>m i j C hi r c) _ b (λp L=>p=b/\L=s) h ⟨O,O⟩
theorem rm{q p:Type}(f:q->p)(d:p):∀(l:List q)(i:Nat),(l.map f).getD i d=match l[i]? with|some a=>f a|none=>d
 |[],i=>by simp
 |a::l,0=>rfl
 |a::l,i+1=>by simpa using rm f d l i
section
variable{X:aX}{U:List (aB×aZ)}{Y:List (Option V)}{A:bX}{f:aB}{P0:aC->Prop}
def QL:Looks M h (typeOf (.int i t)) (.type "int"):=Looks.of_pure O
def OW{a:List Nat}{ps:List (aB×M6)}(h:∀i∈a,i<ps.length):cA (a.map λi=>(ps.map λp=>F2 p.1).getD i .non) (a.map λi=>(ps.map λp=>cU p.1).getD i iS):=by
 induction a with
 |nil=>exact .nil
 |cons i a b=>
  refine .cons ?_ (b λj m=>h j (eK _ m));have hi:=h i eB;show cE ((ps.map λp=>F2 p.1).getD i .non) ((ps.map λp=>cU p.1).getD i iS);rw[rm,rm,cJ hi];rfl
def Ph{e h:Nat}{ps:List (aB×M6)}{ks:M4}{a:Array Nat}{E:aE->aJ->Prop}(a5:A.units+8<I8)
 (I:Inv X ((kS,K7 "list" ks.toArray e)::(D,K7 "list" #[] h)::U) Y H s)(l:mA X H D)(a6:mA X H kS)(B:D≠kS)(J:∀p∈U,p.1≠D)(a7:∀p∈U,p.1≠kS)
 (G:nA H ps)(n:lu H ks ps)(h2:2<=ps.length)(aw:ps.length<=1000)(a8:sF (ps.map (·.2)) a)(a9:∀i∈a.toList,i<ps.length)(M:a.size=ps.length)
 (q:∀H',aL H H'->H D=aF->H' D=Z (.lst (a.toList.map λi=>(ps.map λp=>F2 p.1).getD i .non))->Q (.ref D) H') :
  aU (aW X.prog X.w) A (ksk_end D aK (ps.map λp=>cU p.1).toArray h (.ref kS) ks.toArray) (λaa L=>aa=.done (.ret .none)/\fX X U Y Q (.ref D) L) E s:=by
 have w:=n.length;have N:¬(ps.map λp=>cU p.1).toArray.size<2:=by rw[eN,aS];omega
 unfold ksk_end;dsimp only;rw[B3 fQ,B3 fQ,B3 N,B3 N];obtain⟨fs,ac,lf,ae⟩:=Df I n;refine aO (kat_kind (T:=.type "int") ac YT (λv m=>by obtain⟨i,t,rfl⟩:=ae v m;exact QL) YR ?_);have af:(nP "int" != nP "tuple")=aD:=YR;rw[af];refine aO (fA (a8 X.prog X.w A E s _ ks (ps.map λp=>cU p.1) (by rw[aS];exact w) (by rw[aS,aS]) λi j C hi a0 c=>?_) (λr L ag=>?_) λ_ _ x=>x)
 .rw[aS]at hi a0;obtain⟨t,p,k1,a1,ah⟩:=n.get i hi;obtain⟨u,ai,k2,a2,aj⟩:=n.get j a0;rw[←kat_ask_eq (by rw[aS];exact w)];unfold kas_ask;rw[k1,k2];refine TM I a5 ah aj (G p (dM a1)) (G ai (dM a2)) ?_;unfold AF at c;rw[rm,rm,a1,a2]at c;exact c
 .obtain⟨⟨⟩,st⟩:=r;obtain⟨ak,al,am⟩:=ag;rw[ak];dsimp only;have an:=kat_snds (ks:=ks) (vs:=ps.map λp=>cU p.1) (by rw[aS];exact w) al;unfold ksk_tail;dsimp only;rw[an];have a3:=I.pinAt;have ao:=I.pinDrop.pinAt;refine aO (wz a3.1 O ?_ (by rw[eN,jC];omega) (gU _));refine aO (wpAny_letGo ?_);have y:(s.heap.update kS (iT λ_=>(#[]:Array aE))).get? D=Z (K7 "list" #[] h):=by rw[lU _ _ (D4 B)];exact ao.1
  refine aO (seqEpoch_at y O ?_);have ap:(qU (a.toList.map λi=>(ps.map λp=>cU p.1).getD i iS)).size=ps.length:=by rw[eN,aS,nH,M]
  refine aO (wz y O ?_ (gU _) (by rw[B3 fQ,ap,jC];omega));rw[am];simp only[bne_self_eq_false,tH,C5];refine bN ⟨O,?_⟩;have ax:=I.pinDrop.pinDrop;have ay:=Inv.pins_of (pins':=(D,K7 "list" #[] h)::U) I λp k=>I.pin p (jV _ (eK _ k));have aq:Inv X ((D,K7 "list" #[] h)::U) Y H {s with heap:=s.heap.update kS (iT λ_=>(#[]:Array aE)),toks:=s.toks}:=by
   obtain⟨ar,as⟩:∃f,(s.heap.update kS (iT λ_=>(#[]:Array aE))).get? kS=Z (K7 "list" #[] f):=⟨_,wr a3.1 λ_=>#[]⟩
   refine(Inv.turn (t':=s.toks) (o':=K7 "list" #[] ar) I a6 (λp k=>?_) (λd u z g=>by rw[lU _ _ (D4 z)];exact g) as s7).pinDrop;rcases dW.mp k with rfl|k
   .exact B
   .exact a7 p k
  obtain⟨f,a4⟩:∃f,((s.heap.update kS (iT λ_=>(#[]:Array aE))).update D (iT λ_=>qU (a.toList.map λi=>(ps.map λp=>cU p.1).getD i iS))).get? D=Z (K7 "list" (qU (a.toList.map λi=>(ps.map λp=>cU p.1).getD i iS)) f):=⟨_,wr y λ_=>_⟩
  have au:=Inv.turn (t':=s.toks) (o':=K7 "list" (qU (a.toList.map λi=>(ps.map λp=>cU p.1).getD i iS)) f) aq l J (λd u z g=>by rw[lU _ _ (D4 z)];exact g) a4 s7;have av:=Inv.track (u:=.lst (a.toList.map λi=>(ps.map λp=>F2 p.1).getD i .non)) au l J ⟨by rw[aS,nH,M,jC];omega,_,f,OW a9,a4⟩;exact⟨.ref D,_,av,O,q _ (λb o e=>by rw[bA (cX e l.nt)];exact e) l.nt aV⟩
def Pj(r:A.units+8<I8)(t:∀ H H',aL H H'→P0 H→P0 H')(h:w9 X Y A f P0)
 (I:Inv X ((kS,K7 "list" #[] 0) :: (D,K7 "list" #[] g) :: U) Y H s)(a:mA X H D)(b:mA X H kS)(l:D≠kS)(u:∀ p∈U,p.1≠D)(m:∀ p∈U,p.1≠kS)
 (w:P0 H)(G:nA H ps)(h2:2≤ps.length)(n:ps.length≤1000)(y:sF (ps.map (·.2)) c)(B:∀ i∈c.toList,i<ps.length)(J:c.size=ps.length)
 (q:∀ H',aL H H'→H D=aF→H' D=Z (.lst (c.toList.map fun i=>(ps.map fun p=>F2 p.1).getD i .non))→Q (.ref D) H') :
  aU (aW X.prog X.w) A (ksk_rest D (.ref f) aK (ps.map fun p=>cU p.1).toArray g (.ref kS)) (fun M L=>M=.done (.ret .none)∧fX X U Y Q (.ref D) L) E s:=by
 unfold ksk_rest
 refine aO (t5 ?_)
 first
  | rw[List.forIn_toArray]
  | (rw[← Array.forIn_toList];simp only[List.toList_toArray])
  | rw[← Array.forIn_toList]
 refine aO (fA (Dg (kS:=kS) (U:=(D,K7 "list" #[] g) :: U) t h n (fun x ks L C N=>?_) ps [] [] 0 H s I b (fun p j=>?_) w G trivial (by simp)) (fun _ L T=>?_) fun _ _ x=>x)
 ·refine aO (wy (fA N (fun k a5 h=>?_) fun _ _ a0=>a0.elim))
  try dsimp only
  exact aO (fA h (fun _ a6 a1=>bN ⟨O,k,a1⟩) fun _ _ z=>z.elim)
 ·rcases dW.mp j with rfl | j
  ·exact l
  ·exact m p j
 ·obtain⟨ks,e,H',d,S,o⟩:=T
  rw[wf] at o
  try dsimp only
  refine aO (listItems_at d.pinAt.1 O ?_)
  have a2:=d.pinDrop.pinAt
  exact Ph r d ⟨a2.2,a.loc,a.nfs,a.ab,a.ncl,a.npn⟩ ⟨d.pinAt.2,b.loc,b.nfs,b.ab,b.ncl,b.npn⟩ l u m (G.same S) o h2 n y B J fun H2 a3 a7 a4=>q H2 (S.trans a3) a.nt a4
def Ep(I:Inv X U Y H s)(h:s.heap.objs.size<=b):∀p∈U,p.1≠b:=λp a c=>by
 have d:=(I.pin p (jV _ a)).1;exact B6 (cW d) (by rw[c];exact Nat.not_lt.mpr h)
def NB(aj:A.units+16<I8)(a1:∀H H',aL H H'->P0 H->P0 H')(a2:w9 X Y A.in1.in1 f P0)
 (I:Inv X U Y H s)(sq:aQ X.K H l (ps.map λp=>F2 p.1))(r:P0 H)(G:nA H ps)(h2:2<=ps.length)(t:ps.length<=1000)(w:sF (ps.map (·.2)) g)(y:∀i∈g.toList,i<ps.length)(z:g.size=ps.length)
 (q:∀(D:aB)(H':aC),aL H H'->H D=aF->H' D=Z (.lst (g.toList.map λi=>(ps.map λp=>F2 p.1).getD i .non))->Q (.ref D) H') :
  aU (aW X.prog X.w) A (call (.builtin "sorted") [.ref l] [("key",.ref f)]) (fX X U Y Q) E s:=by
 obtain⟨B,C,pl,a3⟩:=I.list sq;have a4:B=ps.map λp=>cU p.1:=by
  clear sq a3 pl w y z G r q h2 t
  induction ps generalizing B with
  |nil=>cases C;rfl
  |cons p ps a5=>
   cases C with
   |cons a b=>
    cases a;rw[dD,←a5 _ b]
 subst a4;have h:(ps.map λp=>cU p.1).length=ps.length:=aS ..;refine call_function_entry_kw kind_sorted plain_sorted entry_sorted (ksk_s1 _ _) ?_;unfold Builtin.«sorted»;refine aO (m:=checkCount "sorted" 1 1 _) (bN (aO (collect_list pl.isList ?_ (by rw[h,jC];omega))));refine aO (wpAny_newList ?_ (by rw[h,jC];omega));generalize a6:(ps.map λp=>cU p.1)=vs at *;have hsz:((s.heap.push (K7 "list" #[] 0)).update s.heap.objs.size (iT (·++vs.toArray))).objs.size=s.heap.objs.size+1:=by
  rw[y2,K8]
 have c:(((s.heap.push (K7 "list" #[] 0)).update s.heap.objs.size (iT (·++vs.toArray))).push (K7 "list" vs.toArray 0)).get? (s.heap.objs.size+1)=Z (K7 "list" vs.toArray 0):=by
  rw[←hsz];exact fP _ O
 have a7:∀b o,s.heap.get? b=Z o->(((s.heap.push (K7 "list" #[] 0)).update s.heap.objs.size (iT (·++vs.toArray))).push (K7 "list" vs.toArray 0)).get? b=Z o:=λb o q=>by
  have j:b<s.heap.objs.size:=cW q;rw[bH.get?_push_ne _ _ _ (by rw[hsz];exact dC (tK j)),bH.get?_update_ne _ _ _ _ (dC j),bH.get?_push_ne _ _ _ (dC j)];exact q
 show aU _ _ _ _ _ {s with heap:=((s.heap.push (K7 "list" #[] 0)).update s.heap.objs.size (iT (·++vs.toArray))).push (K7 "list" vs.toArray 0)};rw[hsz];have k:mA X H (s.heap.objs.size+1):=mA.new I (nO _);have J:=Ep I (nO s.heap.objs.size);have a8:Inv X U Y H {s with heap:=((s.heap.push (K7 "list" #[] 0)).update s.heap.objs.size (iT (·++vs.toArray))).push (K7 "list" vs.toArray 0),toks:=s.toks}:=I.kept a7;have M:(((s.heap.push (K7 "list" #[] 0)).update s.heap.objs.size (iT (·++vs.toArray))).push (K7 "list" vs.toArray 0)).objs.size=s.heap.objs.size+2:=by rw[K8,hsz]
 generalize ak:((s.heap.push (K7 "list" #[] 0)).update s.heap.objs.size (iT (·++vs.toArray))).push (K7 "list" vs.toArray 0)=h1 at *;refine aO (jO (wpAny_call_entry_kw slot_list_sort ⟨_,c,O⟩ entry_list_sort ?_ (ksk_l1 _ _)));show aU (aW X.prog X.w) A.in1.in1 (Builtin.«list.sort» ⟨[.ref (s.heap.objs.size+1)],[(qV "key",.ref f)]⟩) _ _ _;rw[ksk_t1];unfold ksk_tree;have a9:=Inv.pinAdd a8 c k s7;refine aO (listItems_at c O (aO (wz c O ?_ (by rw[eN,h,jC];omega) (gU _))));obtain⟨n,N⟩:∃n,(h1.update (s.heap.objs.size+1) (iT λ_=>(#[]:Array aE))).get? (s.heap.objs.size+1)=Z (K7 "list" #[] n):=⟨_,wr c λ_=>#[]⟩
 have aa:=Inv.turn (t':=s.toks) a9 k J (λd u ac q=>by rw[lU _ _ (D4 ac)];exact q) N s7;refine aO (seqEpoch_at N O (aO (wpAny_newTuple ?_ (by show vs.length<=_;rw[h,jC];omega))));refine aO (wpAny_newList ?_ (gU _));refine jO ?_;have ae:((h1.update (s.heap.objs.size+1) (iT λ_=>(#[]:Array aE))).push (K7 "tuple" vs.toArray 0)).objs.size=s.heap.objs.size+3:=by rw[K8,y2,M]
 have af:∀b o,(h1.update (s.heap.objs.size+1) (iT λ_=>(#[]:Array aE))).get? b=Z o->(((h1.update (s.heap.objs.size+1) (iT λ_=>(#[]:Array aE))).push (K7 "tuple" vs.toArray 0)).push (K7 "list" #[] 0)).get? b=Z o:=λb o e=>cZ _ (cZ _ e);have ag:Inv X ((s.heap.objs.size+1,K7 "list" #[] n)::U) Y H {s with heap:=((h1.update (s.heap.objs.size+1) (iT λ_=>(#[]:Array aE))).push (K7 "tuple" vs.toArray 0)).push (K7 "list" #[] 0),toks:=s.toks}:=aa.kept af;have ah:(((h1.update (s.heap.objs.size+1) (iT λ_=>(#[]:Array aE))).push (K7 "tuple" vs.toArray 0)).push (K7 "list" #[] 0)).get? (s.heap.objs.size+3)=Z (K7 "list" #[] 0):=by
  rw[←ae];exact fP _ O
 have T:mA X H (s.heap.objs.size+3):=mA.new I YT;have a0:=Inv.pinAdd ag ah T s7;rw[show((h1.update (s.heap.objs.size+1) (iT λ_=>(#[]:Array aE))).push {cls:=.type "tuple",data:=.seq vs.toArray.toList.toArray}).objs.size=s.heap.objs.size+3 from by rw[K8,y2,M]];rw[←a6]at a0 ⊢;refine fA (Pj (D:=s.heap.objs.size+1) (kS:=s.heap.objs.size+3) (by show A.units+1+1+8<I8;omega) a1 a2 a0 k T (dC (Nat.add_lt_add_left YR _)) J (Ep I (pU _ 3)) r G h2 t w y z (q _)) (λal L ai=>?_) λ_ _ x=>x;obtain⟨rfl,ep⟩:=ai;exact⟨_,O,bN ⟨_,O,ep⟩⟩
end
end L2
namespace L2
open PySem PySem.Spec PyProof.Rows
def wV(b:Nat)(u:mB):Prop:=∀vs Y H Q,u vs Y H Q->u vs Y H λa H2=>Q a H2/\a.length=Y.length/\∀i,b<=i->a[i]?=Y[i]?
def Cs:wV a Hx:=λvs Y H Q ⟨e,q⟩=>⟨e,q,O,λ_ _=>O⟩
def xu(h:i<b)(f:wV b u):wV b (Ax (nz i) u):=λvs Y H Q ⟨v,r,e,q⟩=>by
 have d:=f r (Y.set i (Z v)) H Q q;have g:(λ(a:St)(H2:aC)=>Q a H2/\a.length=(Y.set i (Z v)).length/\∀j,b<=j->a[j]?=(Y.set i (Z v))[j]?)=(λ(a:St)(H2:aC)=>Q a H2/\a.length=Y.length/\∀j,b<=j->a[j]?=Y[j]?):=by
  funext a H2
  rw[List.length_set];have:(∀j,b<=j->a[j]?=(Y.set i (Z v))[j]?)=(∀j,b<=j->a[j]?=Y[j]?):=by
   refine propext ⟨λh1 j c=>?_,λh1 j c=>?_⟩
   .rw[h1 j c,tD YT]
   .rw[h1 j c,tD YT]
  rw[this]
 rw[g]at d;exact⟨v,r,e,d⟩
def Dn{b n:Nat}{K:bJ}{u:mB}(c:wV b u):uC b (xh K n u):=λx Y H Q ⟨a,xs,e,d,f,q⟩=>⟨a,xs,e,d,f,c xs Y H Q q⟩
def Fk{es:List bI}{k:Nat}{t:mB}{n:Nat}{K:bJ}(e:X.K=K)(a:X.calm=aD)(h:p5 X es t)
 (b:(my es X.env).length=n:=by rfl)(c:(my es X.env).findIdx? (·.1)=aF:=by rfl):nc X (.Tuple es k pos) (xh K n t):=by subst e;exact uj a h b c
def DC:jW "abs"=Z (.builtin "abs"):=YS
def sS:jW "sum"=Z (.builtin "sum"):=YS
theorem u7(h:J9 us ns):us.length=ns.length/\∀(i:Nat)(v:aE),us[i]?=Z v->∃t,v=.int (ns.getD i 0) t:=by
 induction h with
 |nil=>exact⟨O,λi v e=>by cases e⟩
 |cons n t r a=>
  refine⟨by rw[fW,fW,a.1],λi v e=>?_⟩;cases i with
  |zero=>cases e;exact⟨t,O⟩
  |succ i=>exact a.2 i v e
theorem AK(ns:M6):∀n,n<=ns.length->preSum (λi=>ns.getD i 0) n=(ns.take n).sum
 |0,_=>by rw[List.take_zero];rfl
 |n+1,h=>by
  have a:=AK ns n YT;have e:ns.take (n+1)=ns.take n++[ns.getD n 0]:=by
   rw[dR,cJ YT,kr,cJ YT];rfl
  rw[e,List.sum_append,←a];show preSum _ n+ns.getD n 0=_;simp
section
variable{X:aX}
def vb(g:X.calm=aD):jD X (.builtin "sum") (λxs H Q=>∃(p:aB)(ns:M6),xs=[.ref p]/\aQ X.K H p (ns.map D1)/\Q (.int ns.sum) H):=by
 intro U s Y H xs us Q I r h;obtain⟨p,ns,rfl,j,q⟩:=h;obtain⟨u,rfl,k⟩:=F3 r;cases k;obtain⟨a,l,pl,t⟩:=I.list j;have m:=u7 (Cr l);have c:=pl.isList;have d:p<s.heap.objs.size:=by obtain⟨_,e,_⟩:=c;exact cW e
 refine call_sum_walkG (qO c ?_);refine⟨s.heap.objs.size,[s.heap.objs.size,p],[s.heap.objs.size],a.toArray.size,_,_,λi=>ns.getD i 0,O,t3 (A:=X.A.in1) (I.ok.hd g) _ p (dC d) a.toArray,
  ⟨⟨_,fP _ O,O,O⟩,c.push _⟩,λb f=>?_,λi v n=>m.2 i v (by simpa using n),λh' tk t' o=>?_⟩
 .simp only[dW,mJ,C4]at f;show b<(s.heap.push _).objs.size;rw[show(s.heap.push _).objs.size=s.heap.objs.size+1 from wb ..];rcases f with e|e
  .rw[e];exact rH _
  .rw[e];exact tK d
 .have e:preSum (λi=>ns.getD i 0) a.toArray.size=ns.sum:=by
   rw[AK _ _ (by rw[eN];omega),dP (by rw[eN];omega)]
  rw[e];exact⟨.int _,H,I.kept (LSm.kept_iter o),⟨_,O⟩,q⟩
end
def QN(a:s.TypeIs (.ref r) "list_reverseiterator")(h:Q aK s) :
  aU (aW prog w) A (Builtin.List.listLengthHint (.ref r)) Q E s:=by
 unfold Builtin.List.listLengthHint;refine aO (tT a (r:=aF) (by rfl) ?_);dsimp only;rw[B3 YR,B3 YR];refine aO (tT a (r:=Z (.builtin "list_reverseiterator.__length_hint__")) (by rfl) ?_);dsimp only;rw[show splitId "list_reverseiterator.__length_hint__"=Z ("list_reverseiterator","__length_hint__") from by decide +kernel];dsimp only;refine aO (wpAny_isInstance a (b:=aD) (by rfl) ?_);rw[B3 YR,B4 YS,B3 YS];exact bN h
def OK(C:A.handled=aF)(d:s.heap.IsRevIter I l ((items.size:Int)-1))(D:s.heap.IsList l items)(E:l≠I)(G:items.size<=cP)
 (S:aB)(g:S≠I)(q:S≠l)(a:aE)(t:Nat)(j:s.heap.get? S=Z {cls:=.type "list",data:=.seq #[] t})
 (H:∀(h':bH)(tk:Nat)(c:Array aE)(c':Nat),(∀(b:aB)(o:aZ),b≠S->b≠I->s.heap.get? b=Z o->h'.get? b=Z o)->h'.get? S=Z {cls:=.type "list",data:=.seq c c'}->ItemsOf (λi v=>items[items.size-1-i]?=Z v) c items.size->R (.ok (.ret a)) {s with heap:=h',toks:=tk}) :
  aU (aW prog w) A.in1 (Builtin.List.listExtendWith (.ref S) (.ref I) a) (λJ L=>match J with|.done f=>R (.ok f) L|.again c'=>c'.quiet=aD/\I6 (aW prog w) A c' R L) (λe L=>R (.error e) L) s:=by
 have u:s.TypeIs (.ref I) "list_reverseiterator":=d.typeIs;have M:¬S∈[I,l]:=by simp[g,q]
 have W:=Walks.listRev (prog:=prog) (w:=w) (A:=A.in1) C I l E items;have key:∀(h:bH)(k tk:Nat),(∀(b:aB)(o:aZ),b≠S->s.heap.get? b=Z o->h.get? b=Z o)->h.get? S=Z {cls:=.type "list",data:=.seq #[] k} ->
   I6 (aW prog w) A (.builtin "list.extend.loop" {pos:=[.ref S,.ref I,a]}) R {s with heap:=h,toks:=tk}:=λh k tk m N=>by
  refine codeAny_extend_loopS W.toS G S M a items.size 0 {s with heap:=h,toks:=tk} #[] k O (gU _) ?_ N (ItemsOf.nil _) λL c c' hm Q T=>?_
  .refine⟨gU _,?_,?_⟩
   .have:((items.size:Int)-1-((0:Nat):Int))=(items.size:Int)-1:=YT;rw[this];obtain⟨o,n,r⟩:=d;exact⟨o,m _ _ (D4 g) n,r⟩
   .obtain⟨o,n,r⟩:=D;exact⟨o,m _ _ (D4 q) n,r⟩
  .rw[Moved.eq_with hm];refine H L.heap L.toks c c' (λb o h1 h2 e=>hm.heap b o (λp=>?_) (m b o h1 e)) Q T;rcases dW.mp p with U|p
   .exact h1 U
   .exact h2 (eU.mp p)
 unfold Builtin.List.listExtendWith;refine aO (rV u ?_);have y:Builtin.List.listSameRef (.ref S) (.ref I)=aK:=by
  show(S==I)=aK;exact C1.mpr g
 rw[y,B3 YS];refine aO (wpAny_pyIter_revIter d (aO (jO (QN u ?_))));have y:s={s with heap:=s.heap,toks:=s.toks}:=O;refine wpAny_ite_split (λ_=>?_) (λ_=>?_)
 .refine aO (t5 (aO ?_));unfold Builtin.List.listTouch;refine aO (zd j O ?_);have z:=pQ (iT λx=>x.push iS) j O;refine zd z O ?_;have Y:=pQ (iT λx=>x.pop) z O;refine bN ⟨o9 F.plain_extend_loop _,key _ _ _ (λb o B e=>?_) Y⟩;rw[lU _ _ (D4 B),lU _ _ (D4 B)];exact e
 .exact bN ⟨o9 F.plain_extend_loop _,key s.heap t s.toks (λb o _ e=>e) j⟩
def QM(k:A.handled=aF)(m:s.heap.IsRevIter I l ((items.size:Int)-1))(n:s.heap.IsList l items)(p:l≠I)(q:items.size<=cP)
 (S:aB)(h:S≠I)(j:S≠l)(c:s.heap.get? S=Z {cls:=.type "list",data:=.seq #[]})
 (t:∀(h':bH)(tk:Nat)(a:Array aE)(c':Nat),(∀(b:aB)(o:aZ),b≠S->b≠I->s.heap.get? b=Z o->h'.get? b=Z o)->h'.get? S=Z {cls:=.type "list",data:=.seq a c'}->ItemsOf (λi v=>items[items.size-1-i]?=Z v) a items.size->R (.ok (.ret .none)) {s with heap:=h',toks:=tk}) :
  aU (aW prog w) A.in1 (Builtin.«list.__init__» {pos:=[.ref S,.ref I]}) (λu L=>match u with|.done f=>R (.ok f) L|.again c'=>c'.quiet=aD/\I6 (aW prog w) A c' R L) (λe L=>R (.error e) L) s:=by
 refine aO (aO (zf c O (bN (aO (zd c O ?_)))));have y:=pQ (iT λx=>#[]) c O;have d:∀(b:aB)(o:aZ),b≠S->s.heap.get? b=Z o->(s.heap.update S (iT λx=>#[])).get? b=Z o:=λb o z e=>(lU s.heap (iT λx=>#[]) (D4 z)).trans e;refine aO (wpAny_letGo (OK k ?_ ?_ p q S h j .none _ y λh' tk a c' B C D=>t h' tk a c' (λb o h1 h2 e=>B b o h1 h2 (d b o h1 e)) C D))
 .obtain⟨o,g,r⟩:=m;exact⟨o,d _ _ (D4 h) g,r⟩
 .obtain⟨o,g,r⟩:=n;exact⟨o,d _ _ (D4 j) g,r⟩
def NQ(j:A.handled=aF)(d:s.heap.IsRevIter I l ((items.size:Int)-1))(f:s.heap.IsList l items)(k:l≠I)(m:items.size<=cP)
 (n:∀(h':bH)(tk:Nat)(a:Array aE)(c':Nat),(∀(b:aB)(o:aZ),b≠I->s.heap.get? b=Z o->h'.get? b=Z o)->h'.get? s.heap.objs.size=Z {cls:=.type "list",data:=.seq a c'}->ItemsOf (λi v=>items[items.size-1-i]?=Z v) a items.size->Q (.ref s.heap.objs.size) {s with heap:=h',toks:=tk}) :
  aU (aW prog w) A (call (.type "list") [.ref I]) Q E s:=by
 have p:I<s.heap.objs.size:=by obtain⟨_,e,_⟩:=d;exact cW e
 have q:l<s.heap.objs.size:=by obtain⟨_,e,_⟩:=f;exact cW e
 refine zg F.called_list (F.typeCall_list_1 (.ref I)) F.entry_list_init (code_list_new (.ref I) (Q₁:=λo g=>o=.ref s.heap.objs.size/\g={s with heap:=s.heap.push {cls:=.type "list",data:=.seq #[]}}) ⟨O,O⟩) λy g h₁=>?_;obtain⟨rfl,rfl⟩:=h₁;have h:=fP (o:={cls:=nP "list",data:=Data.seq #[]}) s.heap O;refine⟨⟨_,h,O⟩,F.args_list_init_2 _ _,QM (A:=A.in1) j ?_ ?_ k m s.heap.objs.size (D4 (dC p)) (D4 (dC q)) h λh' tk a c' t u x=>⟨O,?_⟩⟩
 .obtain⟨o,c,r⟩:=d;exact⟨o,cZ _ c,r⟩
 .obtain⟨o,c,r⟩:=f;exact⟨o,cZ _ c,r⟩
 .exact n h' tk a c' (λb o h1 e=>t b o (dC (cW e)) h1 (cZ _ e)) u x
def MM:jW "reversed"=Z (.type "reversed"):=YS
section
variable{X:aX}{e:bI}{t:eZ}{D p2:Pos}{a3 C:Pos}
inductive Jj(K:bJ)(xs:M0)(H:aC)(Q:aP):Prop
 |mk:∀p ys,xs=[.ref p]->aQ K H p ys->(∀l,H l=aF->Q (.ref l) (aI H l (.lst ys.reverse)))->Jj K xs H Q
def Ol(B:X.calm=aD)(E:jH X "list")(G:X.mg "list"=aF)(J:jH X "reversed")(L:X.mg "reversed"=aF)(M:iA X [e] t)
 (N:cN [e] X.env=(aK,H5 e X.env)::cN [] X.env:=by rfl)
 (k:cN [.Call (.Name "reversed" p2) [e] [] C] X.env=(aK,H5 (.Call (.Name "reversed" p2) [e] [] C) X.env)::cN [] X.env:=by rfl) :
  bL X (.Call (.Name "list" D) [.Call (.Name "reversed" p2) [e] [] C] [] a3) (xS (Jj X.K) t):=.mk λU s Y H Q I h=>by
 refine qL (oW I E G lM ?_ YR YR);refine qF ?_ k O;rw[k];show aU _ _ (H7 ((aK,H5 _ X.env)::H8 a3 (cN [] X.env))) _ _ s;refine tG (qL (oW I J L MM ?_ YR YR));refine qF (bT (M C U s Y H _ I h) λus s1 z'=>?_) N O;obtain⟨vs,z,d,T,a0⟩:=z';obtain⟨p,ys,rfl,a1,q⟩:=a0;obtain⟨u,rfl,a2⟩:=F3 T;cases a2;obtain⟨a,f,pl,m⟩:=d.list a1;have g:=pl.isList;have a4:p<s1.heap.objs.size:=by obtain⟨_,e,_⟩:=g;exact cW e
 refine call_reversed_list g (vZ (NQ (l:=p) (items:=a.toArray) (I.ok.hd B) ⟨_,fP _ O,O,O⟩ ?_ (dC a4) (by rw[eN,←f.length];exact m) λh' tk n c a5 a6 hi=>?_))
 .obtain⟨o,a7,r⟩:=g;exact⟨o,cZ _ a7,r⟩
 have a8:∀(b:aB)(o:aZ),s1.heap.get? b=Z o->h'.get? b=Z o:=λb o e=>a5 b o (dC (cW e)) (cZ _ e);have w:s1.heap.objs.size<=(s1.heap.push (revObj p ((a.toArray.size:Int)-1))).objs.size:=by
  rw[show(s1.heap.push (revObj p ((a.toArray.size:Int)-1))).objs.size=s1.heap.objs.size+1 from wb ..];exact nO _
 refine⟨.ref _,_,d.laid (t':=tk) a8 w (show dQ X.prog X.w _ h' _ (.lst ys.reverse) from⟨by rw[vQ];exact m,n.toList,c,?_,by simpa using a6⟩),O,q _ (d.hok.fresh w)⟩;have y:=f.length;have a9:n.size=a.length:=by rw[hi.1,eN]
 refine x4 (by rw[vQ,nH,a9,y]) λj u x aa i=>?_;have ac:=hi.2 j u (by rw[←rE];exact aa);have ae:j<ys.length:=by
  have:=(cR.mp i).1;rw[vQ]at this;exact this
 rw[List.getElem?_reverse ae]at i;have af:a[ys.length-1-j]?=Z u:=by
  have:a.toArray[a.toArray.size-1-j]?=Z u:=ac;rw[eN]at this;rw[y];simpa using this
 obtain⟨ah,A,ag⟩:=f.get i;rw[af]at A;cases A;exact ag
end
theorem Ma:∀{ys:L9} {us:M4},cA (ys.map C9) us->StrsAre us ys
 |[],us,r=>by
  rw[mu]at r;cases r;exact .nil
 |b::bs,us,r=>by
  rw[dD]at r;cases r with
  |cons a c=>
   obtain⟨t,rfl⟩:=a;exact .cons b t (Ma c)
section
variable{X:aX}
def Sg:r5 X "str.join" (λx vs H Q=>∃a p ys,x=.str a/\vs=[.ref p]/\aQ X.K H p (ys.map C9)/\(ys.map λy=>y.length).sum+ys.length*a.length<=16777216/\Q (.str (Txt.join a ys)) H):=by
 intro U s Y H x xs v us Q I b r h;obtain⟨a,p,ys,rfl,rfl,c,d,q⟩:=h;obtain⟨t,rfl⟩:=b;obtain⟨u,rfl,e⟩:=F3 r;cases e;obtain⟨g,f,pl,i⟩:=I.list c;exact join_list pl.isList (Ma f) d λt' k=>⟨.str _,H,I.tok k,⟨_,O⟩,q⟩
def Xi(K:bJ)(t:bF):TT:=λY H Q=>t Y H λx z=>∃p xs,x=.ref p/\aQ K z p xs/\Q (!xs.isEmpty) z
def zZ(h:bL X e t)(d:∀b,H6 e X.env b=(do let v ←b;standAt e.pos;I0 [v] (truthy v)):=by intro _;rfl):lD X e (Xi X.K t):=.mk λU s Y H Q I f=>by
 refine isTrue_plain (bT (h U s Y H _ I f) λv s1 z'=>?_) (d _);obtain⟨x,z,c,g,i⟩:=z';obtain⟨p,xs,rfl,j,q⟩:=i;cases g;obtain⟨k,a,pl,l⟩:=c.list j;have m:=a.length;refine wpAny_truthy_list pl.isList ?_ ?_
 .have:(cP:Nat)<2^63:=YR;rw[eN];omega
 .have e:k.toArray.isEmpty=xs.isEmpty:=by
   cases xs with
   |nil=>cases a;rfl
   |cons x r=>cases a;rfl
  rw[e];exact⟨z,c.tok _,q⟩
theorem EC(f:Nat→Int):∀ k,K9 (fun i j=>G9 (f i<f j)) k≤k∧∀ j≤k,f (K9 (fun i j=>G9 (f i<f j)) k)≤f j
 | 0=>⟨bQ _,fun j h=>by rw[Nat.le_zero.mp h];exact rY _⟩
 | k+1=>by
  obtain⟨b,a⟩:=EC f k;unfold K9;by_cases q:f (k+1)<f (K9 (fun i j=>G9 (f i<f j)) k)
  ·rw[B4 (B0 q)];exact⟨bQ _,fun j m=>by
    by_cases e:j=k+1
    ·rw[e];exact rY _
    ·have:=a j YT;omega⟩
  ·rw[B3 (by rw[decide_eq_true_eq];exact q)];exact⟨YT,fun j m=>by
    by_cases e:j=k+1
    ·rw[e];omega
    ·exact a j YT⟩
end
def ub(d:aB)(o:aZ)(J:List (aT×V)):jI:=
 ⟨λi H=>H d=Z (.frz o (.dK J))/\i<J.length,λi H x H'=>H'=H/\∃a,J[i]?=Z a/\x=kV a.1,λi H=>H d=Z (.frz o (.dK J))/\J.length<=i⟩
def CG{P:bS}{w:bP}{K:bJ}{tg:bI}{d G:aB}{o:aZ}{J:List (aT×V)}{vs:List (aT×aE)}{ep:Nat}{A:bH}(g:eL J vs)(B:A.get? d=Z o)(C:A.DictAt (dI P w) d vs ep) :
  oN P w K tg (ub d o J) [G] G (λi h=>h.IsKeyIter G d i vs.length ep) where
 mem:=by simp
 obj:=λi h st b f=>by
  have e:b=G:=by simpa using f
  subst e;obtain⟨a,e,c,dd⟩:=st;exact⟨a,e,λv D=>by rw[dd]at D;cases D⟩
 keep:=λi h h' st k=>st.at λa e=>k G (by simp) a e
 item:=by
  intro X j l m L i U s Y H E I hf st n;subst j l m;obtain⟨r,hi⟩:=n;obtain⟨t,f1,f2,f3,u,x⟩:=hf G (by simp);have y:s.heap.get? d=Z o:=(show dQ X.prog X.w H s.heap d (.frz o (.dK J)) from I.hok d _ r).1;have z:=C.at' (h':=s.heap) λa e=>by rw[B]at e;cases e;exact y
  have Q:=F5 g;obtain⟨⟨k,v⟩,M⟩:∃p,vs[i]?=Z p:=⟨_,cJ YT⟩
  obtain⟨q,T,a0,a5⟩:=eL.get g M;refine wpAny_pyNext_dict_item st z M λkey h' a1 N a2=>?_;have a3:Inv X U Y H {s with heap:=h'}:=I.turned (t':=s.toks) (λb a f e=>(a2.2 b f).trans e) t f1 f3 u x;obtain⟨a,e,c,dd⟩:=id N;refine⟨key,O,uA (s:={s with heap:=h'}) e c dd YR ⟨kV q.1,H,a3,?_,⟨O,q,T,O⟩,N,λb f=>(hf b f).1⟩⟩;rw[show q.1=k from a0];exact Bw a1
 done:=by
  intro X j l m L i U s Y H E I hf st n;subst j l m;obtain⟨r,hi⟩:=n;obtain⟨t,f1,f2,f3,u,x⟩:=hf G (by simp);have y:s.heap.get? d=Z o:=(show dQ X.prog X.w H s.heap d (.frz o (.dK J)) from I.hok d _ r).1;have z:=C.at' (h':=s.heap) λa e=>by rw[B]at e;cases e;exact y
  have Q:=F5 g;exact wpAny_pyNext_dict_end (I.ok.hd L) st z (yF YT) λh' a4=>⟨O,I.turned (t':=s.toks) (λb a f e=>a4 b a f e) t f1 f3 u x⟩
 self:=λ_ _ _ _ _ st h=>wpAny_pyIter_keyiter st h
section
variable{X:aX}{tg:bI}
def UY(k:bF):TI:=λY H R=>k Y H λx z=>∃d J,x=.ref d/\z d=Z (.dK J)/\∀o,R (ub d o J) (aI z d (.frz o (.dK J)))
def vm{l:bI}{B:bF}(m:bL X l B):lY X tg l (UY B):=.mk λU s Y H R I h=>by
 refine bT (m U s Y H _ I h) λv s1 z'=>?_;obtain⟨x,z,g,n,p⟩:=z';obtain⟨d,J,e,i,q⟩:=p;subst e;cases n;have hok:=g.hok d _ i;obtain⟨r,lo,vs,j,k⟩:=id hok;obtain⟨ep,a⟩:=k.dictAt;obtain⟨o,es,c,_⟩:=id a;refine wpAny_pyIter_dict lo a ?_;have f:Inv X U Y (aI z d (.frz o (.dK J))) s1:=g.write (x:=d) (e:=d) (o:=.frz o (.dK J)) (h':=s1.heap) (t':=s1.toks) (by rw[i];exact trivial) YU (λ_ _ _ q=>q) ⟨o,c⟩ ⟨c,r,lo,vs,j,k⟩;refine⟨s1.heap.objs.size,[s1.heap.objs.size],_,_,aI z d (.frz o (.dK J)),O,f.kept (t':=s1.toks) λb u e=>cZ _ e,CG j c a,⟨_,fP _ O,O,O⟩,λb t=>?_,q o⟩;have e:b=s1.heap.objs.size:=by simpa using t
 subst e;exact f.fpOk (bQ _) (f.hok.fresh (bQ _))
def BD(w:J.length<=cP)(Pv:Nat->M0->aC->Prop)(n:Pv 0 [] H)
 (r:∀i ys H,i<=J.length->Pv i ys H->H d=Z (.frz o (.dK J))/\ys.length<=i)
 (s:∀i a ys H (K:aP) (l:aC->Prop),J[i]?=Z a->Pv i ys H->(∀y b,Pv (i+1) (ys++[y]) b->K y b)->(∀c,Pv (i+1) ys c->l c) ->
   g (kV a.1) h H (sT j te K l))
 (t:∀ys H,Pv J.length ys H->k ys H):q9 h g j te k (ub d o J) H:=by
 refine⟨λi m ys H=>m=J.length-i/\i<=J.length/\Pv i ys H,⟨J.length,by simp,gU _,n⟩,?_⟩;rintro i m ys H ⟨rfl,hi,p⟩;obtain⟨q,z⟩:=r i ys H hi p;by_cases f:i<J.length
 .refine .inr ⟨⟨q,f⟩,YT,λx H' y=>?_⟩;obtain⟨e,a,u,ex⟩:=y;subst e ex;exact s i a ys _ _ _ u p (λy b q=>⟨J.length-(i+1),YT,O,f,q⟩) λc q=>⟨J.length-(i+1),YT,O,f,q⟩
 .have e:i=J.length:=YT;subst e;exact .inl ⟨⟨q,bQ _⟩,t ys H p⟩
end
section
variable{X:aX}
def x2(Pv:Nat->St->aC->Prop)(b:Pv 0 Y H)(c:∀i Y H,i<=J.length->Pv i Y H->H d=Z (.frz o (.dK J)))
 (e:∀i a Y H,J[i]?=Z a->Pv i Y H->g (kV a.1) Y H (tb {D with nx:=Pv (i+1),ct:=Pv (i+1),bk:=D.nx}))(f:∀Y H,Pv J.length Y H->D.nx Y H) :
  sy g tb D Y (ub d o J) H:=by
 refine⟨λi m Y H=>m+i=J.length/\Pv i Y H,⟨J.length,O,b⟩,?_⟩;intro i m Y H h;obtain⟨hm,pv⟩:=h;have at_:=c i Y H YT pv;rcases Nat.lt_or_ge i J.length with lt|ge
 .refine .inr ⟨⟨at_,lt⟩,Pv (i+1),(fun σ' H' j=>⟨J.length-(i+1),YT,YT,j⟩),λx H' y=>?_⟩;obtain⟨k,a,l,ex⟩:=y;subst k ex;exact e i a Y _ l pv
 .have n:i=J.length:=YT;subst n;exact .inl ⟨⟨at_,bQ _⟩,f Y H pv⟩
end
end L2
namespace L2
open PySem PySem.Spec PyProof.Rows PySem.W
section
variable{P:bS}{w:bP}{K:bJ}{mg:aA->Option aE}{b_:bH}
def mT.okC{x j:aA}{st:bO}{fd:iK}{N ps:L9}{k:Nat}{sp:bW}(F:mT K x j st f fd)(a:fd.code=.ref c)(S:cB N ps (bM st))(len:∀vs H Q E,sp vs H Q E->vs.length=ps.length)
 (b:∀(A:bX)(o_:List eE)(s:aJ)(H:aC)(vs:M0)(Q:aP)(E:dG),eI k (A.deeper (J1 j (bM st) s.heap.objs.size f (.ref c)))->sp vs H Q E ->
   ∃t,iB (hG iV P w K mg b_ N j (bM st) f (.ref c) A o_ s H E).nox (jZ st) t/\t {nx:=λ_ H'=>Q .non H',rt:=Q} (start N vs) H):hZ P w K mg b_ iV (k+1) f fd ps sp:=by
 obtain⟨l,m,kV,doc,pm,n,d,o,p,rfl,lk,e⟩:=F.ex;obtain rfl:d=.ref c:=a;refine Ak lk e S len λA o_ s H vs Q E g i=>?_;obtain⟨t,h,q⟩:=b A o_ s H vs Q E g i;exact⟨t,h.nox,q⟩
end
section
variable{X:aX}{T:aB}{j:aA}{params:p3}{body e:bI}{scope:kA}{p pos lp kp:Pos}{te tb:bF}
abbrev wS (T:aB) (lp:Pos) (j:aA) (Q:aP) (x:V) (z:aC):Prop:=∃(l:aB)(ps:List (aB×M6))(a:Array Nat),x=.ref l/\z l=Z (.lst (ps.map λp=>F2 p.1))/\nA z ps/\2<=ps.length/\ps.length<=1000 /\
 sF (ps.map (·.2)) a/\(∀i∈a.toList,i<ps.length)/\a.size=ps.length/\hJ T lp j z /\
 ∀(D:aB)(H2:aC),iH T z H2->hJ T lp j H2->H2 D=Z (.lst (a.toList.map λi=>(ps.map λp=>F2 p.1).getD i .non))->Q (.ref D) H2
def SU(T:aB)(lp:Pos)(j:aA)(te:bF):bF:=λY H Q=>te Y H (wS T lp j Q)
def Au(tb:bF):Prop:=∀(a:aB)(ns:M6)(H:aC)(Q:aP),H a=Z (.lst (ns.map D1))->(∀(t:aB)(H':aC),aL H H'->H' t=Z (.tup [.int ns.length,.ref a])->Q (.ref t) H')->tb [Z (.ref a)] H Q
def Si(h:eI (k+3) X.A)(S:cB [y] [y] scope)(i:∀(pm c l u:aE),q2 (kla_fn "<lambda>" j params body scope [] pm c l) ⟨[u],[]⟩=pure [(y,u)])
 (m:∀(f:aB)(c:aE)(A:bX)(o_:List eE)(s:aJ)(H:aC),bL (hG iV X.prog X.w X.K X.mg X.b_ [y] j scope f c A o_ s H mS).nox body tb)(n:Au tb) :
  w9 X Y X.A.in1.in1 f (λH=>H f=Z (nF "<lambda>" j params body scope c' f)/\H c'=Z (oZ j c')):=by
 intro U s H a ns I ⟨o,p⟩ ea;obtain⟨⟨pm,ctv,q⟩,_⟩:=I.hok f _ o;obtain⟨w,_⟩:=I.hok c' _ p;refine oJ (oG (QI (k:=k) (N:=[y]) (ps:=[y]) (us:=[.ref a]) (vs:=[.ref a]) (Q:=λv H'=>∃t,v=.ref t/\aL H H'/\H' t=Z (.tup [.int ns.length,.ref a])) h.in1.in1 I.env0.in1.in1 q O w S (.of_eq (i _ _ _ _)) (.cons O .nil) O
  λ_=>⟨tb,m _ _ _ _ _ _,n a ns H _ ea λt H' d g=>⟨t,O,d,g⟩⟩) λr L b=>?_)
 cases r with
 |error e=>exact b.elim
 |ok fl=>
  cases fl with
  |ret u=>
   obtain⟨v,H',x,z,t,rfl,d,g⟩:=I.after b;cases z;exact⟨t,H',x,O,d,g⟩
  |next=>exact gH b
  |brk=>exact gH b
  |cont=>exact gH b
def Qw(L:eI (k+3) X.A)(a2:jH X "sorted")(hm:X.mg "sorted"=aF)(a3:bL X e te)(a4:bL X (.Lambda params body scope lp) (Hs T lp j params body scope))(S:cB [y] [y] scope)
 (a5:∀(pm t a6 u:aE),q2 (kla_fn "<lambda>" j params body scope [] pm t a6) ⟨[u],[]⟩=pure [(y,u)])
 (a7:∀(f:aB)(t:aE)(A:bX)(o_:List eE)(s:aJ)(H:aC),bL (hG iV X.prog X.w X.K X.mg X.b_ [y] j scope f t A o_ s H mS).nox body tb)(a8:Au tb)
 (M:cN [e] X.env=(aK,H5 e X.env)::cN [] X.env:=by rfl)(a9:(H8 pos (cN [e] X.env)).any (·.1)=aK:=by rfl) :
  bL X (.Call (.Name "sorted" p) [e] [⟨Z "key",.Lambda params body scope lp,kp⟩] pos) (SU T lp j te):=.mk λU s Y H Q I h=>by
 refine qL (oW I a2 hm Nz ?_ YR YR);have aa:((H8 pos (cN [e] X.env)).any (·.1)||(mR pos (mO [⟨Z "key",.Lambda params body scope lp,kp⟩] X.env)).any (·.1.isNone))=aK:=by rw[a9];rfl
 refine PySem.W.callWith_of (P:=λ_=>True) aa (λh _=>⟨.machine,.inr YU,qI.of_pure O⟩) (evalArgs_kw2 O ?_ M);refine bT (show aU _ _ _ _ _ s from fA (aG a3 aM M pos U s Y H (λvs z=>∃x,vs=[x]/\wS T lp j Q x z) I ?_) (λ_ _ i=>i) λ_ _ i=>i) λus s1 z'=>?_
 .show te Y H λx z=>∃n,[x]=[n]/\_;have az:∀(E R2:aP),(∀x z,E x z->R2 x z)->E=E->True:=λ_ _ _ _=>trivial;have aj:(λ(x:V)(z:aC)=>∃n,[x]=[n]/\wS T lp j Q n z) =
   (λ(x:V)(z:aC)=>wS T lp j Q x z):=by
   funext x z
   refine propext ⟨fun⟨n,a,b⟩=>?_,λb=>⟨x,O,b⟩⟩;cases a;exact b
  rw[aj];exact h
 obtain⟨vs,z,ac,r,x,w,l,ps,ay,ae,B,G,h2,af,ag,ah,ai,C,q⟩:=z';subst w ae;obtain⟨u,rfl,ak⟩:=F3 r;cases ak;have al:l≠T:=λi=>by
  obtain⟨am,g,_⟩:=C;rw[i,g]at B;cases B
 have an:∀p∈ps,p.1≠T:=λp m i=>by
  obtain⟨am,g,_⟩:=C;have:=G p m;rw[i,g]at this;cases this
 refine bT (RS (nm:=Z "key") (a0:=kp) a4 Tk pos U s1 Y z (λvs H2=>∃f c',vs=[.ref f]/\iH T z H2/\hJ T lp j H2/\H2 c'=Z (oZ j c')/\H2 f=Z (nF "<lambda>" j params body scope c' f)) ac ⟨C,λf c' H' a b c d=>⟨f,c',O,a,b,c,d⟩⟩) λws ao z'=>?_;obtain⟨vs,H2,ap,aq,f,c',w,J,ar,as,au⟩:=z';refine⟨trivial,?_⟩
 subst w;obtain⟨aR,rfl,av⟩:=F3 aq;cases av;show aU _ _ (call (.builtin "sorted") [.ref l] [("key",.ref f)]) _ _ ao;exact NB (P0:=λH=>H f=Z (nF "<lambda>" j params body scope c' f)/\H c'=Z (oZ j c')) (by have:=L.un;omega) (λ_ _ N a=>⟨N _ _ a.1,N _ _ a.2⟩) (Si L S a5 a7 a8) ap (C8 (J _ _ al B)) ⟨au,as⟩ (λp m=>J _ _ (an p m) (G p m)) h2 af ag ah ai λD aw a1 _ ax=>q D aw (J.trans λb o _ e=>a1 b o e) (ar.keep a1) ax
end
def wN(K:bJ)(T:aB):bW:=λvs H Q _=>∃x,vs=[x]/\∃(a:aB)(ns:M6),x=.ref a/\aQ K H a (ns.map D1)/\ns.length<=63/\H T=Z (.tbl #[])/\∀H',Q (.bl aD) H'
def PH{K:bJ}{mg a2:aA->Option aE}{k:Nat}{fd:iK}{x y:aA}{vs:M4}{ns:M6}{ai:L9}{aj:ExcName->Option aE}
 (KX:K.In i.heap)(G:Top p ai aj mg a2 i.heap)(ak:i.gens=#[])
 (B:i.heap.get? a=Z {cls:=.type "list",data:=.seq vs.toArray})(hi:J9 vs ns)(M:ns.length<=63)(al:eI k K1)
 (C:i.heap.get? T=Z (tabObj #[]))(a3:CodeHd i.heap c T)(am:K.lookup T=aF)(an:tabIn K y=Z (c,T))
 (F:∀b_:bH,K.In b_->b_.Ns mM mg->nh K mg b_ y c T->hZ P w K mg b_ iV k J fd [x] (wN K T))(ao:∀(s:aJ)(u:aE),I9 s fd ⟨[u],[]⟩ [(x,u)]) :
  I6 (aW P w) K1 (.call (.ref J) ⟨[.ref a],[]⟩) (λr L=>r=.ok (.ret (.bool aD))/\OldK i.heap L.heap/\L.os=i.os/\H1 L.gens) i:=by
 have a4:=CD hi;have ap:=hi.length;have a5:a≠T:=λg=>by rw[g,C]at B;cases B
 have a6:∀H:aC,(∀b,b≠T->H b=aF\/∃o xs,H b=Z (.frz o (.lst xs)))->H T=Z (.tbl #[])->aQ K H a (ns.map D1)->dL P w H i.heap->(∀b,b≠T->H b≠aF->b=a)->(H a≠aF->K.lookup a=aF) ->
   I6 (aW P w) K1 (.call (.ref J) ⟨[.ref a],[]⟩) (λr L=>r=.ok (.ret (.bool aD))/\OldK i.heap L.heap/\L.os=i.os/\H1 L.gens) i:=by
  intro H aq a7 ar a8 a9 as;have E:∀{b:aB} {o:aZ},i.heap.get? b=Z o->H b=aF->(oP i.heap H).get? b=Z o:=λe n=>QO e n;have N:∀{b:aB} {o:aZ},i.heap.get? b=Z o->o≠tabObj #[]->o≠{cls:=.type "list",data:=.seq vs.toArray}->H b=aF:=λ{b o} e au av=>by
   cases q:H b with
   |none=>rfl
   |some u=>
    by_cases g:b=T
    .rw[g,C]at e;exact B6 (eA e).symm au
    .have Q:b=a:=a9 b g (by rw[q];simp);rw[Q,B]at e;exact B6 (eA e).symm av
  have aw:∀{b:aB} {o:aZ} {es:Array r1} {ep:Nat},i.heap.get? b=Z o->o.data=.dict es ep->H b=aF:=λ{b o es ep} e d=>
   N e (λg=>by rw[g]at d;cases d) (λg=>by rw[g]at d;cases d)
  have I:∀{b:aB} {m:aA->Option aE},i.heap.Ns b m->(oP i.heap H).Ns b m:=λ{b m} ⟨o,es,ep,e,d,r⟩=>⟨o,es,ep,E e (aw e d),d,r⟩
  have aa:K.In (oP i.heap H):=λb o e=>E (KX b o e) (by
   cases q:H b with
   |none=>rfl
   |some u=>
    by_cases g:b=T
    .rw[g,am]at e;cases e
    .have Q:b=a:=a9 b g (by rw[q];simp);subst Q;rw[as (by rw[q];simp)]at e;cases e)
  have ax:Mod K mg (oP i.heap H):=⟨aa,I G.g,⟨a2,I G.b,G.builtins⟩,let ⟨ay,h1,h2⟩:=G.nolimit;⟨ay,I h1,h2⟩⟩
  have az:nS P w K mg (oP i.heap H) K1 [] i H:=⟨O,ax,λb o e=>Sa e,t1 (PJ _ _),trivial,λb j=>B6 (show b∈([]:List aB) from j) (by simp),a8,.of_eq ak⟩
  have TB:nh K mg (oP i.heap H) y c T:=by
   refine⟨?_,?_,λf o bg h1 h2 aR=>law_code KX G.g an h1 (KX _ _ h2) aR⟩
   .obtain⟨bm,U,b0,b1,ac,t,b2,b3⟩:=G.bmain;exact⟨bm,U,b0,b1,E ac (N ac (λg=>by rw[g]at t;cases t) (λg=>by rw[g]at t;have t:nP "list"=nP "module":=t;injection t with t;exact B6 t YR)),t,b2,b3⟩
   .obtain⟨o,b4,b5,b6,b7,tg,b8,b9,ba,D,z,r⟩:=a3;exact⟨o,b4,b5,b6,b7,tg,b8,b9,ba,E D (N D (λg=>by rw[g]at z;cases z) (λg=>by rw[g]at z;have z:nP "list"=nP "code":=z;injection z with z;exact B6 z YR)),z,r⟩
  refine oG ((F _ aa (I G.g) TB).run K1 [] i H ⟨[.ref a],[]⟩ [.ref a] [.ref a] (λv _=>v=.bl aD) (λ_ _ _=>False) al az (ao i (.ref a)) (.cons O .nil) ⟨_,O,a,ns,O,ar,M,a7,λ_=>O⟩) λr L h=>?_;cases r with
  |error e=>exact gH h
  |ok fl=>
   cases fl with
   |next=>exact gH h
   |brk=>exact gH h
   |cont=>exact gH h
   |ret u=>
    obtain⟨v,H',os,bare,Y,ae,bb,q⟩:=h;have bc:v=.bl aD:=q;subst bc;obtain rfl:u=t4 aD:=bb;have kp:∀b o,b≠T->i.heap.get? b=Z o->L.heap.get? b=Z o:=λb o l e=>by
     cases q:H b with
     |none=>exact Y.keep b o e q (by intro g;exact B6 (show b∈([]:List aB) from g) (by simp)) (by simp)
     |some u=>
      rcases aq b l with g|⟨U,xs,g⟩
      .rw[q]at g;cases g
      .have bd:=Y.frzs b U _ g;obtain⟨D,_⟩:=a8 b _ g;obtain⟨be,_⟩:=ae b _ bd;rw[e]at D;cases D;exact be
    obtain⟨af,bf⟩:=Y.tbls T _ a7;have ag:L.heap.get? T=Z (tabObj (#[]++af)):=ae T _ bf;refine⟨O,⟨λb o e=>?_,λb o e=>?_⟩,os,bare⟩
    .by_cases g:b=T
     .subst g;rw[C]at e;cases e;exact .inr (.inl ⟨(a3.tab C).isCodeTable,O,#[],af,O,ag⟩)
     .exact .inl (kp b o g e)
    .by_cases g:b=T
     .exact⟨_,g▸ag⟩
     .exact⟨o,kp b o g e⟩
 cases a0:K.lookup a with
 |some o=>
  have e:=KX a o a0;rw[B]at e;cases e;refine a6 (λb=>if b=T then Z (.tbl #[]) else aF) (λb l=>.inl (B3 l)) (B4 O) (.inr ⟨_,vs.toArray,_,a0,O,O,O,by rw[eN,ap];exact dN M YR,by simpa using a4⟩) (λb u g=>?_) (λb l g=>B6 (B3 l) g) λg=>B6 (B3 a5) g;by_cases j:b=T
  .have A:=(B4 j).symm.trans g;cases A;subst j;exact C
  .have A:=(B3 j).symm.trans g;cases A
 |none=>
  refine a6 (λb=>if b=T then Z (.tbl #[]) else if b=a then Z (.frz {cls:=.type "list",data:=.seq vs.toArray} (.lst (ns.map D1))) else aF) (λb l=>?_) (B4 O) (.inl (.inr ⟨{cls:=.type "list",data:=.seq vs.toArray},by show(if a=T then _ else _)=_;rw[B3 a5,B4 O]⟩)) (λb u g=>?_) (λb l g=>?_) λ_=>a0
  .by_cases j:b=a
   .exact .inr ⟨_,_,by show(if b=T then _ else _)=_;rw[B3 l,B4 j]⟩
   .exact .inl (by show(if b=T then _ else _)=_;rw[B3 l,B3 j])
  .by_cases a1:b=T
   .have A:=(B4 a1).symm.trans g;cases A;subst a1;exact C
   .have ah:=(B3 a1).symm.trans g;by_cases j:b=a
    .have A:=(B4 j).symm.trans ah;cases A;subst j;exact⟨B,by rw[aS];exact dN M YR,vs,_,a4,B⟩
    .have A:=(B3 j).symm.trans ah;cases A
  .by_cases j:b=a
   .exact j
   .exact B6 (by show(if b=T then _ else _)=_;rw[B3 l,B3 j]) g
def YP{l:PySem.W.OpenLaw}{i:L9}{j:(aA→Option aE)→bH→Prop}{e:bP→bH→Prop}{d:DefRec}{K:Params→bJ}(k:Nat)(y:aA)(c T:aB)(m:eI k K1)(n:l.most=Z 63)(p:d.params.defaults=[])
 (r:∀(w:bP)(h:bH),e w h→(K w.params).In h)(t:∀(w:bP)(h:bH),e w h→h.get? T=Z (tabObj #[]))(x:∀(w:bP),codeHdIn (K w.params) c T=aD)(z:∀ w:bP,(K w.params).lookup T=aF)(A:∀ w:bP,tabIn (K w.params) y=Z (c,T))
 (F:∀(w:bP)(mg:aA→Option aE)(b:aB)(h:bH),(K w.params).In h→h.Ns mM mg→mg d.name=Z (.ref b) →
   ∃ fd:iK,(∀(s:aJ)(u:aE),I9 s fd ⟨[u],[]⟩ [("_law_script",u)])∧∀ b_:bH,(K w.params).In b_→b_.Ns mM mg→nh (K w.params) mg b_ y c T→hZ l.prog w (K w.params) mg b_ iV k b fd ["_law_script"] (wN (K w.params) T)) :
  PySem.W.WalkO q i j e l.row.toRowW d [] (fun f vs=>PySem.call f vs):=by
 refine Att.Yj n p fun w L M mg N b o pm cd doc a vs ns G g Q U Y B C D E H=>?_
 have KX:=r w _ g
 obtain⟨fd,I,J⟩:=F w mg b _ KX G.T.g B
 exact PH KX G.T H C D E m (t w _ g) (codeHd_of_K KX (x w)) (z w) (A w) J I
def cQ.fcC{K:bJ}{mg:aA->Option aE}{x:aA}{st:bO}{N ps:L9}{k:Nat}{sp:bW}(D:cQ K mg x st ps)(B:nh K mg b_ x c T)(S:cB N ps (bM st))(len:∀vs H Q E,sp vs H Q E->vs.length=ps.length)
 (a:∀(f:aB)(A:bX)(o_:List eE)(s:aJ)(H:aC)(vs:M0)(Q:aP)(E:dG),eI k (A.deeper (J1 x (bM st) s.heap.objs.size f (.ref c)))->sp vs H Q E ->
   ∃t,iB (hG iV P w K mg b_ N x (bM st) f (.ref c) A o_ s H E).nox (jZ st) t/\t {nx:=λ_ H'=>Q .non H',rt:=Q} (start N vs) H):aY P w K mg b_ (k+1) x ps sp:=by
 obtain⟨f,fd,F,b,m⟩:=D.ex;have d:fd.code=.ref c:=by
  obtain⟨g,i,kV,doc,pm,j,l,n,o,rfl,lk,p⟩:=F.ex;exact B.cd f _ _ m lk O
 exact⟨f,fd,F.okC d S len λA o_ s H vs Q E e h=>a f A o_ s H vs Q E e h,b,m,F.kp⟩
theorem EE:∀{b:List (M6)} {us:M0},IsL H (b.map λns=>G1 (ns.map E9)) us->∃ps:List (aB×M6),us=ps.map (λp=>F2 p.1)/\nA H ps/\ps.map (·.2)=b
 |[],us,h=>⟨[],h,(λp (m:p∈([]:List (aB×M6)))=>B6 m mJ),O⟩
 |ns::b,us,h=>by
  obtain⟨v,vs,rfl,⟨a,xs,rfl,c,d⟩,r⟩:=h;obtain⟨ps,rfl,G,e⟩:=EE r;have ex:xs=ns.map D1:=by
   clear c e G r
   induction ns generalizing xs with
   |nil=>exact d
   |cons n ns f=>
    obtain⟨v,vs,rfl,e,r⟩:=d;cases(show v=.int n from e);rw[f vs r];rfl
  subst ex;refine⟨(a,ns)::ps,O,λp m=>?_,by rw[dD,e]⟩;rcases dW.mp m with rfl|m
  .exact c
  .exact G p m
theorem xT:∀k,(gZ k).length=2^k
 |0=>rfl
 |k+1=>by unfold gZ;rw[eW,aS,xT k];omega
theorem xw:∀k,∀ns∈gZ k,ns.length<=k
 |0,ns,m=>by rw[eU.mp m];exact bQ _
 |k+1,ns,m=>by
  unfold gZ at m;rcases gN.mp m with m|m
  .exact v9 (xw k ns m)
  .obtain⟨a,b,rfl⟩:=cG.mp m;rw[eW,lV];exact Nat.succ_le_succ (xw k a b)
noncomputable def Hg:List Nat:=[0,1,2,4,8,16,3,5,9,17,6,10,18,12,20,24,7,11,19,13,21,25,14,22,26,28,15,23,27,29,30,31]
def p7:Nat->List Nat
 |5=>Hg
 |n=>uw n
def Ry:sf (gZ 5)=Z Hg.toArray:=YS
theorem zF:∀n,1<=n->n<=5->sF (gZ n) (p7 n).toArray/\(∀i∈p7 n,i<(gZ n).length)/\(p7 n).length=(gZ n).length/\∀i<(gZ n).length,i∈p7 n
 |0,h,_=>by omega
 |1,_,_=>⟨uU RC YR YR,YR,O,YR⟩
 |2,_,_=>⟨uU RB YR YR,YR,O,YR⟩
 |3,_,_=>⟨uU RA YR YR,YR,O,YR⟩
 |4,_,_=>⟨uU Rz YR YR,YR,O,YR⟩
 |5,_,_=>⟨uU Ry YS YS,YS,YS,YS⟩
 |n+6,_,h=>by omega
def ph(n:Nat):List (M6):=(p7 n).map λi=>(gZ n).getD i []
def zu(h1:1<=n)(d:n<=5):ns∈ph n↔ns∈gZ n:=by
 obtain⟨_,a,b,c⟩:=zF n h1 d;unfold ph;rw[cG];constructor
 .rintro⟨i,m,rfl⟩;have hi:=a i m;rw[kr,cJ hi];exact pT hi
 .intro m;obtain⟨i,hi,e⟩:=yL m;exact⟨i,c i hi,by rw[kr,cJ hi];exact e⟩
end L2
namespace Mt73
open PySem L2 Mt22 Mt61
noncomputable def low(a b:Int):Int×Int:=(a/((D8 a b:Nat):Int),b/((D8 a b:Nat):Int))
def vo(c:0<b):0<((D8 a b:Nat):Int):=by
 have:0<D8 a b:=Int.gcd_pos_of_ne_zero_right a YT;omega
def TD(h:n<=1000000):n.log2<9000:=by
 rcases Nat.eq_zero_or_pos n with a|a
 .subst a;decide
 .exact(Nat.log2_lt YT).mpr (vW h YS)
open Classical in
noncomputable def jJ(G:M5)(a:L9):Int:=if h:∃c,jU G a c then h.choose else 0
def sk(h:jU G a c):jJ G a=c:=by
 have x:∃c,jU G a c:=⟨c,h⟩
 unfold jJ;rw[dif_pos x];exact jU.uniq x.choose_spec h
def Rg(e:∀d,d∈a↔d∈b):jJ G a=jJ G b:=by
 have h:jU G a=jU G b:=funext λc=>by
  unfold jU;simp only[e]
 unfold jJ;rw[h]
section
variable{q p:Type}[DecidableEq q][DecidableEq p]
noncomputable def mH(v:List q->Int)(a:q)(o:List q):Nat->Int
 |0=>0
 |k+1=>mH v a o k+if o[k]?=Z a then v (o.take (k+1))-v (o.take k) else 0
noncomputable def m1:Nat->List q->List (List q)
 |0,_=>[[]]
 |m+1,zs=>zs.flatMap λa=>(m1 m (zs.filter (λy=>!G9 (y=a)))).map (a::·)
def OJ{zs:List q}{a:q}(b:zs.Nodup)(m:a∈zs):(zs.filter λy=>!G9 (y=a)).length+1=zs.length:=by
 induction zs with
 |nil=>cases m
 |cons x r c=>
  have nx:=(gB.mp b).1;rw[oD];by_cases e:x=a
  .subst e;rw[B0 O,B3 (by simp)];rw[vS.mpr λy d=>by simp;exact λa=>nx (a▸d)];rfl
  .rw[B1 e,B4 (by simp)];rcases dW.mp m with h|h
   .exact B6 h.symm e
   .have:=c (gB.mp b).2 h;rw[fW,fW];omega
theorem zv:∀ {m:Nat} {zs:List q},zs.Nodup→zs.length=m→∀ o∈m1 m zs,o.Nodup∧o.length=m∧∀ y,y∈o↔y∈zs
 | 0,zs,b,l,o,a=>by
  cases yw l;rw[eU.mp a];exact⟨.nil,O,fun _=>Iff.rfl⟩
 | m+1,zs,b,l,o,a=>by
  obtain⟨c,d,a⟩:=y1.mp a;obtain⟨o',g,rfl⟩:=cG.mp a;have:=OJ b d;obtain⟨h1,h2,i⟩:=zv (eQ.sublist vR b) YT o' g;have f:∀ y,y∈o'↔y∈zs∧y≠c:=fun y=>by rw[i,gM];simp
  refine⟨gB.mpr ⟨fun h=>((f c).mp h).2 O,h1⟩,by rw[fW,h2],fun y=>?_⟩;rw[dW,f];by_cases e:y=c
  ·subst e;simp[d]
  ·simp[e]
def filter_map{f:q->p}{zs:List q}{x:q}(inj:∀a∈zs,f a=f x->a=x):(zs.map f).filter (λy=>!G9 (y=f x))=(zs.filter λy=>!G9 (y=x)).map f:=by
 rw[List.filter_map];congr 1;refine List.filter_congr λa m=>?_;show(!G9 (f a=f x))=!G9 (a=x);by_cases e:a=x
 .subst e;simp
 .rw[B1 e,B1 λh=>e (inj a m h)]
def OH{f g:q->List p}{l:List q}(h:∀x∈l,f x=g x):l.flatMap f=l.flatMap g:=by
 rw[List.flatMap_def,List.flatMap_def,m3 h]
theorem zw{f:q->p}:∀{m:Nat} {zs:List q},(∀a∈zs,∀b∈zs,f a=f b->a=b)->m1 m (zs.map f)=(m1 m zs).map (q0 f)
 |0,zs,_=>rfl
 |m+1,zs,inj=>by
  unfold m1;rw[List.flatMap_map,List.map_flatMap];refine OH λx d=>?_;rw[filter_map λa c h=>inj a c x d h,zw λa c b e h=>inj a (gM.mp c).1 b (gM.mp e).1 h,eP,eP];rfl
theorem EN{f:q->p}{v:List p->Int}{o:List q}{i:q}(inj:∀a∈o,f a=f i->a=i):∀k,mH v (f i) (o.map f) k=mH (λb=>v (b.map f)) i o k
 |0=>rfl
 |k+1=>by
  have e:((o.map f)[k]?=Z (f i))=(o[k]?=Z i):=by
   rw[dB];refine propext ⟨λh=>?_,λh=>by rw[h];rfl⟩;obtain⟨a,ea,h⟩:=lJ.mp h;rw[ea,inj a (dM ea) h]
  unfold mH;rw[EN inj k,List.map_take,List.map_take];simp only[e]
theorem Cy{v a:List q->Int}{o:List q}{i:q}(h:∀k,v (o.take k)=a (o.take k)):∀k,mH v i o k=mH a i o k
 |0=>rfl
 |k+1=>by
  unfold mH;rw[Cy h k,h,h]
end
noncomputable def bt(k:Nat)(a:List Nat):Nat:=(G9 (k∈a)).toNat
def nX(a:List Nat):Nat:=bt 0 a+2*bt 1 a+4*bt 2 a+8*bt 3 a+16*bt 4 a+32*bt 5 a
noncomputable def xD(m:Nat):List Nat:=(eG 6).filter λi=>G9 (m/2^i%2=1)
def UE:∀a b c d e f:Bool,a.toNat+2*b.toNat+4*c.toNat+8*d.toNat+16*e.toNat+32*f.toNat<64/\∀i∈[0,1,2,3,4,5],G9 ((a.toNat+2*b.toNat+4*c.toNat+8*d.toNat+16*e.toNat+32*f.toNat)/2^i%2=1)=[a,b,c,d,e,f].getD i aK:=YS
def Ft(a:List Nat):nX a<64/\∀i∈[0,1,2,3,4,5],G9 (nX a/2^i%2=1)=[G9 (0∈a),G9 (1∈a),G9 (2∈a),G9 (3∈a),G9 (4∈a),G9 (5∈a)].getD i aK:=UE _ _ _ _ _ _
def LM(h:∀i∈c,i<6)(i:Nat):i∈xD (nX c)↔i∈c:=by
 unfold xD;rw[gM,kN,B5];have key:i<6->(nX c/2^i%2=1↔i∈c):=λhi=>by
  have k:=(Ft c).2 i;rcases i with _|_|_|_|_|_|i
  .exact C3.mp (k YR)
  .exact C3.mp (k YR)
  .exact C3.mp (k YR)
  .exact C3.mp (k YR)
  .exact C3.mp (k YR)
  .exact C3.mp (k YR)
  .omega
 exact⟨fun⟨a,b⟩=>(key a).mp b,λm=>⟨h i m,(key (h i m)).mpr m⟩⟩
def ev(u:Nat->Int)(L:List (Int×Nat)):Int:=cD L λp=>p.1*u p.2
theorem ru{q:Type}(f g:q->Int):∀xs:List q,cD xs (λx=>f x+g x)=cD xs f+cD xs g
 |[]=>rfl
 |x::xs=>by rw[eF,eF,eF,ru f g xs];omega
noncomputable def ra:M6->Nat->Int->M6
 |[],_,_=>[]
 |x::r,0,c=>(x+c)::r
 |x::r,k+1,c=>x::ra r k c
noncomputable def nj(u:Nat->Int):M6->Nat->Int
 |[],_=>0
 |x::r,j=>x*u j+nj u r (j+1)
theorem DI:∀(l:M6)(k:Nat)(c:Int),(ra l k c).length=l.length
 |[],_,_=>rfl
 |x::r,0,c=>rfl
 |x::r,k+1,c=>by show(ra r k c).length+1=r.length+1;rw[DI]
theorem DJ(u:Nat->Int):∀(l:M6)(k j:Nat)(c:Int),k<l.length->nj u (ra l k c) j=nj u l j+c*u (j+k)
 |x::r,0,j,c,_=>by show(x+c)*u j+nj u r (j+1)=x*u j+nj u r (j+1)+c*u j;rw[pd];omega
 |x::r,k+1,j,c,h=>by
  show x*u j+nj u (ra r k c) (j+1)=x*u j+nj u r (j+1)+c*u (j+(k+1));rw[DJ u r k (j+1) c (by simpa using h),show j+1+k=j+(k+1) by omega];omega
def re(l:M6):List (Int×Nat)->M6
 |[]=>l
 |p::L=>re (ra l p.2 p.1) L
theorem zy(u:Nat->Int):∀(L:List (Int×Nat))(l:M6),(∀p∈L,p.2<l.length)->nj u (re l L) 0=nj u l 0+ev u L
 |[],l,_=>by show nj u l 0=nj u l 0+0;omega
 |p::L,l,h=>by
  show nj u (re (ra l p.2 p.1) L) 0=_;rw[zy u L _ λq m=>by rw[DI];exact h q (eK _ m),DJ u l p.2 0 p.1 (h p eB),Nat.zero_add];unfold ev;rw[eF];omega
noncomputable def sr:M6:=[0,0,0,0,0,0,0,0,0,0,0,0,0,0,0,0,0,0,0,0,0,0,0,0,0,0,0,0,0,0,0,0,0,0,0,0,0,0,0,0,0,0,0,0,0,0,0,0,0,0,0,0,0,0,0,0,0,0,0,0,0,0,0,0]
def Fs(a:List Nat):nX a<64:=(Ft a).1
def Av(a b:List (Int×Nat)):Bool:=G9 (re sr a=re sr b)
def Ug(h:Av a b=aD)(c:∀p∈a,p.2<64)(d:∀p∈b,p.2<64)(u:Nat->Int):ev u a=ev u b:=by
 have e:re sr a=re sr b:=B2 h;have h1:=zy u a sr c;have h2:=zy u b sr d;rw[e]at h1;omega
def sD(i:Nat)(o:List Nat):Nat->List (Int×Nat)
 |0=>[]
 |k+1=>sD i o k++if o[k]?=Z i then [(1,nX (o.take (k+1))),(-1,nX (o.take k))] else []
theorem FM(i:Nat)(o:List Nat):∀k,∀p∈sD i o k,p.2<64
 |0,p,m=>nomatch m
 |k+1,p,m=>by
  unfold sD at m;rcases gN.mp m with m|m
  .exact FM i o k p m
  .split at m
   .simp only[dW,eU,mJ,C4]at m;rcases m with rfl|rfl<;>exact Fs _
   .cases m
def GJ(u:Nat->Int)(a b:List (Int×Nat)):ev u (a++b)=ev u a+ev u b:=wO _ _ _
theorem FN(u:Nat->Int)(i:Nat)(o:List Nat):∀k,ev u (sD i o k)=mH (λa=>u (nX a)) i o k
 |0=>rfl
 |k+1=>by
  unfold sD mH;rw[GJ,FN u i o k];by_cases e:o[k]?=Z i
  .rw[B4 e,B4 e];show _+ev u [(1,_),(-1,_)]=_;unfold ev;rw[eF,eF,qu];dsimp only;omega
  .rw[B3 e,B3 e];rfl
theorem zQ{q:Type}(u:Nat->Int)(f:q->List (Int×Nat)):∀l:List q,ev u (l.flatMap f)=cD l λx=>ev u (f x)
 |[]=>rfl
 |x::l=>by rw[v8,GJ,zQ u f l,eF]
noncomputable def fac:Nat->Nat
 |0=>1
 |n+1=>fac n*(n+1)
def qB(v:L9->Int)(zs:L9)(b:aA)(a:L9):Int:=if b∈a then 0 else((fac a.length*fac (zs.length-a.length-1):Nat):Int)*(v (zs.filter λy=>G9 (y=b)||G9 (y∈a))-v a)
def s9(n i:Nat)(ns:List Nat):List (Int×Nat):=if i∈ns then [] else [(((fac ns.length*fac (n-ns.length-1):Nat):Int),nX ((eG n).filter λy=>G9 (y=i)||G9 (y∈ns))),(-((fac ns.length*fac (n-ns.length-1):Nat):Int),nX ns)]
def SR(n i:Nat)(ns:List Nat):∀p∈s9 n i ns,p.2<64:=by
 intro p m;unfold s9 at m;split at m
 .cases m
 .simp only[dW,eU,mJ,C4]at m;rcases m with rfl|rfl<;>exact Fs _
def FC{q:Type}{f:q->List (Int×Nat)}(h:∀x,∀p∈f x,p.2<64)(l:List q):∀p∈l.flatMap f,p.2<64:=λp m=>by
 obtain⟨x,_,m⟩:=y1.mp m;exact h x p m
def nB(n:Nat):List (List Nat):=(ph n).map (q0 Int.toNat)
def sx(n i:Nat):Bool:=Av ((m1 n (eG n)).flatMap λo=>sD i o n) ((nB n).flatMap (s9 n i))
def ok1:(eG 1).all (sx 1)=aD:=YS
def WC:(eG 2).all (sx 2)=aD:=YS
def WD:(eG 3).all (sx 3)=aD:=YS
def WE:(eG 4).all (sx 4)=aD:=YS
def WF:(eG 5).all (sx 5)=aD:=YS
def Vs:∀n i,1<=n->n<=5->i<n->sx n i=aD:=by
 intro n i a b hi;have:n=1\/n=2\/n=3\/n=4\/n=5:=YT;rcases this with rfl|rfl|rfl|rfl|rfl
 .exact ku.mp ok1 i (kN.mpr hi)
 .exact ku.mp WC i (kN.mpr hi)
 .exact ku.mp WD i (kN.mpr hi)
 .exact ku.mp WE i (kN.mpr hi)
 .exact ku.mp WF i (kN.mpr hi)
def wQ:∀n,1<=n->n<=5->∀ns∈nB n,∀i∈ns,i<n:=by
 intro n a b;have:n=1\/n=2\/n=3\/n=4\/n=5:=YT;rcases this with rfl|rfl|rfl|rfl|rfl<;>decide +kernel
def Pw:∀n,1<=n->n<=5->(nB n).Nodup:=by
 intro n a b;have:n=1\/n=2\/n=3\/n=4\/n=5:=YT;rcases this with rfl|rfl|rfl|rfl|rfl<;>decide +kernel
def RP:∀n,1<=n->n<=5->∀ns∈nB n,∀i∈eG n,i∉ns->ns.length<n:=by
 intro n a b;have:n=1\/n=2\/n=3\/n=4\/n=5:=YT;rcases this with rfl|rfl|rfl|rfl|rfl<;>decide +kernel
def Eo:∀n,1<=n->n<=5->(nB n).length<=54:=by
 intro n a b;have:n=1\/n=2\/n=3\/n=4\/n=5:=YT;rcases this with rfl|rfl|rfl|rfl|rfl<;>decide +kernel
theorem AJ(p:Nat->Bool):∀k,((eG k).filter p).map Int.ofNat∈gZ k
 |0=>eU.mpr O
 |k+1=>by
  rw[wd,oA,dJ];unfold gZ;cases e:p k with
  |true=>
   refine jV _ (cG.mpr ⟨_,AJ p k,?_⟩);rw[oD,B4 e];rfl
  |false=>
   refine o1 _ ?_;rw[oD,B3 (by rw[e];exact fQ)];show _++[]∈_;rw[lK];exact AJ p k
def Oj(p:Nat->Bool):∀n,1<=n->n<=5->(eG n).filter p∈nB n:=λn a b=>by
 refine cG.mpr ⟨_,(zu a b).mpr (AJ p n),?_⟩;rw[eP]
 conv=>rhs;rw[←wA ((eG n).filter p)]
 exact m3 λi _=>O
def QB:∀n,1<=n->n<=5->(m1 n (eG n)).length=fac n:=by
 intro n a b;have:n=1\/n=2\/n=3\/n=4\/n=5:=YT;rcases this with rfl|rfl|rfl|rfl|rfl<;>decide +kernel
def BE(zs:L9):zs=(eG zs.length).map λi=>zs.getD i "":=by
 refine List.ext_getElem (by simp) λi h1 h2=>?_;rw[qP,List.getElem_range,kr,cJ h1];rfl
def rv{zs:L9}(g:zs.Nodup){a b:Nat}(c:a<zs.length)(d:b<zs.length)(e:zs.getD a ""=zs.getD b ""):a=b:=by
 rw[kr,kr,cJ c,cJ d]at e;have f:=yy.mp g;rcases Nat.lt_trichotomy a b with h|h|h
 .exact B6 e (f a b c d h)
 .exact h
 .exact B6 (show zs[b]=zs[a] from(show zs[a]=zs[b] from e).symm) (f b a d c h)
def Do{zs:L9}(q:aA->Bool):zs.filter q=((eG zs.length).filter λi=>q (zs.getD i "")).map λi=>zs.getD i "":=by
 conv=>lhs;rw[BE zs]
 rw[List.filter_map];rfl
def UD{zs:L9}(f:zs.Nodup)(s:1<=zs.length)(j:zs.length<=5){v:L9->Int}(w:∀a b:L9,(∀d,d∈a↔d∈b)->v a=v b){d:aA}(x:d∈zs) :
  cD (m1 zs.length zs) (λo=>mH v d o zs.length)=cD (nB zs.length) λns=>qB v zs d (ns.map λi=>zs.getD i ""):=by
 obtain⟨i,hi,rfl⟩:=yL x;have z:zs[i]=zs.getD i "":=by rw[kr,cJ hi];rfl
 rw[z];have key:=Ug (Vs zs.length i s j hi) (FC (λo=>FM i o _) _) (FC (SR _ i) _) λm=>v ((xD m).map λi=>zs.getD i "");have r:∀n:List Nat,(∀i∈n,i<6)->v (n.map λi=>zs.getD i "")=v ((xD (nX n)).map λi=>zs.getD i ""):=λn h=>by
  refine w _ _ λy=>?_;rw[cG,cG];exact⟨fun⟨a,c,e⟩=>⟨a,(LM h a).mpr c,e⟩,fun⟨a,c,e⟩=>⟨a,(LM h a).mp c,e⟩⟩
 rw[zQ,zQ]at key;have t:∀o∈m1 zs.length (eG zs.length),∀a∈o,a<zs.length:=λo p a c=>kN.mp (((zv List.nodup_range o4 o p).2.2 a).mp c);have L:m1 zs.length zs=(m1 zs.length (eG zs.length)).map (q0 λi=>zs.getD i ""):=by
  conv=>lhs;arg 2;rw[BE zs]
  exact zw λa c b q e=>rv f (kN.mp c) (kN.mp q) e
 rw[L];have s1:∀(l:List (List Nat))(g:L9->Int),cD (l.map (q0 λi=>zs.getD i "")) g=cD l λo=>g (o.map λi=>zs.getD i ""):=λl g=>by
  unfold cD;rw[eP];rfl
 rw[s1];refine(lj λo p=>?_).trans (key.trans (lj λns A=>?_))
 .rw[FN,EN λa c e=>rv f (t o p a c) hi e];exact Cy (λk=>r _ λa c=>gT (t o p a (tB c)) (v9 j)) _
 .have lt:=wQ _ s j ns A;have u:(zs.getD i ""∈ns.map λi=>zs.getD i "")=(i∈ns):=by
   rw[cG];exact propext ⟨fun⟨a,c,e⟩=>rv f (lt a c) hi e▸c,λm=>⟨i,m,O⟩⟩
  unfold qB s9;rw[aS];by_cases m:i∈ns
  .rw[B4 m,B4 (u▸m)];rfl
  .rw[B3 m,B3 (λh=>m (u▸h))];have B:(zs.filter λy=>G9 (y=zs.getD i "")||G9 (y∈ns.map λi=>zs.getD i ""))=((eG zs.length).filter λy=>G9 (y=i)||G9 (y∈ns)).map λi=>zs.getD i "":=by
    rw[Do];congr 1;refine List.filter_congr λa c=>?_;have ha:=kN.mp c;have C:(zs.getD a ""=zs.getD i "")=(a=i):=propext ⟨λe=>rv f ha hi e,λe=>by rw[e]⟩;have D:(zs.getD a ""∈ns.map λi=>zs.getD i "")=(a∈ns):=by
     rw[cG];exact propext ⟨fun⟨b,q,e⟩=>rv f (lt b q) ha e▸q,λm=>⟨a,m,O⟩⟩
    simp only[C,D]
   rw[B,r _ (λa c=>gT (kN.mp (gM.mp c).1) (v9 j)),r ns λa c=>gT (lt a c) (v9 j)];unfold ev;rw[eF,eF,qu,Int.mul_sub];dsimp only;rw[qY];omega
end Mt73
namespace Mt61
open PySem L2 Mt22 Mt31
structure jX (zs:L9) (S:List Mt22.St) (cm:gC):Prop where
 nd:(keys cm).Nodup
 le:zs.length<=cm.length
 first:∀(i:Nat)(z:aA),zs[i]?=Z z->cm[i]?=Z (z,aF)
 prev:∀(i:Nat)(z:aA)(o:Option Mt22.St),zs.length<=i->cm[i]?=Z (z,o)->∃s,o=Z s/\s∈S/\s.far=z/\s.near∈keys (cm.take i)
def jX.snoc(h:jX zs S c)(g:s∈S)(hn:s.near∈keys c)(hf:s.far∉keys c):jX zs S (c++[(s.far,Z s)]) where
 nd:=by
  rw[sW,v0];refine⟨h.nd,by simp[keys],λa ha b j=>?_⟩;have:b=s.far:=by simpa [keys] using j
  rw[this];exact λe=>hf (e▸ha)
 le:=by
  rw[eW];have:=h.le;omega
 first i d e:=by
  have:=(cR.mp e).1;have:=h.le;rw[o0 YT];exact h.first i d e
 prev i d o hi e:=by
  by_cases f:i<c.length
  .rw[o0 f]at e;obtain⟨t,h1,h2,h3,k⟩:=h.prev i d o hi e;exact⟨t,h1,h2,h3,by rw[List.take_append_of_le_length (wv f)];exact k⟩
  .have l:=(cR.mp e).1;rw[eW]at l;have m:i=c.length:=by
    have:([(s.far,Z s)]:gC).length=1:=O;omega
   subst m;rw[rA (bQ _),Nat.sub_self]at e;cases e;refine⟨s,O,g,O,?_⟩;rw[List.take_append_of_le_length (bQ _),dP (bQ _)];exact hn
def jX.init(S:List Mt22.St)(nd:zs.Nodup):jX zs S (zs.map λa=>(a,aF)) where
 nd:=by
  have:keys (zs.map λa=>((a,aF):aA×Option Mt22.St))=zs:=by unfold keys;rw[eP];exact wA _
  rw[this];exact nd
 le:=by rw[aS];exact bQ _
 first i a e:=by rw[dB,e];rfl
 prev i a o hi e:=by
  have:=(cR.mp e).1;rw[aS]at this;omega
def jX.came(h:jX [D3] S a):vu S a:=⟨h.nd,h.first 0 _ O,λi b o hi e=>h.prev i b o (by show 1<=i;omega) e⟩
def jX.mem(h:jX zs S b)(m:a∈keys b):a∈zs\/∃s∈S,s.far=a:=by
 unfold keys at m;obtain⟨x,d,rfl⟩:=cG.mp m;obtain⟨i,hi⟩:=mr.mp d;by_cases f:i<zs.length
 .obtain⟨a,c⟩:∃a,zs[i]?=Z a:=⟨_,cJ f⟩
  have:=h.first i a c;rw[hi]at this;cases this;exact .inl (dM c)
 .obtain⟨s,_,g,e,_⟩:=h.prev i x.1 x.2 YT hi;exact .inr ⟨s,g,e⟩
def jX.start(h:jX zs S b)(m:a∈zs):a∈keys b:=by
 obtain⟨i,hi⟩:=mr.mp m;exact cG.mpr ⟨_,dM (h.first i a hi),O⟩
def AL(c:nE S a a.length):∀s∈S,s.near∈keys a->s.far∈keys a:=λs d e=>by
 obtain⟨i,hi⟩:=mr.mp e;have b:=(cR.mp hi).1;unfold keys at b;rw[aS]at b;exact c i _ b hi s d O
end Mt61
namespace Mt05
open PySem L2 Ld Mt02
def Wv(a:aA):Prop:=¬(115:Nat)∈a.cps.toList
structure Ye (zs:L9) (n:Nat):Prop where
 nm:Mi zs n
 nos:∀z∈zs,Wv z
end Mt05
namespace Mt53
open PySem L2 Ld Mt02 Mt04
noncomputable def Af:aH->Int
 |.tup [_,_,_,_,.int r,_]=>r
 |_=>0
def ui(N:M3)(a:aA):Int:=(N.find? λd=>G9 (aN d=a)).elim 0 Af
def Fi(a:(N.map aN).Nodup)(m:d∈N):ui N (aN d)=Af d:=by
 have:(N.find? λe=>G9 (aN e=aN d))=Z d:=by
  induction N with
  |nil=>cases m
  |cons e N b=>
   rw[dD,gB]at a;rw[lX];rcases dW.mp m with rfl|m
   .rw[B0 O]
   .have f:aN e≠aN d:=λc=>a.1 (c▸cG.mpr ⟨d,m,O⟩);rw[B1 f];exact b a.2 m
 show(N.find? λe=>G9 (aN e=aN d)).elim 0 Af=_;rw[this];rfl
def uB(N:M3)(w:aH):Int:=ui N (aN w)*(sL w-kZ N (aN w))
def ur(N ws:M3):Int:=(ws.map (uB N)).sum
end Mt53
namespace Mt46
open PySem L2 Ld Mt21
noncomputable def units:M6:=[1,3,5,7,9,11,15,17,19,21,23,25]
def Qc:∀u∈units,∀d∈eG 26,d≠0->((d:Int)*u)%26≠0:=YS
def Uk(e:ab i=ab j):i%26=j%26:=by
 unfold ab at e;have h1:=hW i (show(26:Int)≠0 by decide);have h2:=hW j (show(26:Int)≠0 by decide);omega
def EY{u r:Int}(b:u∈units){k l:Nat}(d:l<26)(h:k<l)(e:ab ((k:Int)*u+r)=ab ((l:Int)*u+r)):False:=by
 have a:=(Int.emod_eq_emod_iff_emod_sub_eq_zero).mp (Uk e.symm);have c:(l:Int)*u+r-((k:Int)*u+r)=((l-k:Nat):Int)*u:=by
  rw[Int.ofNat_sub YT,Int.sub_mul];omega
 rw[c]at a;exact Qc u b (l-k) (kN.mpr YT) YT a
def Qd{u r:Int}(a:u∈units){k l:Nat}(b:k<26)(c:l<26)(e:ab ((k:Int)*u+r)=ab ((l:Int)*u+r)):k=l:=by
 rcases Nat.lt_trichotomy k l with h|h|h
 .exact(EY a c h e).elim
 .exact h
 .exact(EY a b h e.symm).elim
theorem z5(a:aA):∀l:L9,l.Nodup->l.length<=(l.filter λz=>!G9 (z=a)).length+1
 |[],_=>by simp
 |z::l,b=>by
  rw[gB]at b;by_cases h:z=a
  .have e:(l.filter λz=>!G9 (z=a))=l:=by
    rw[vS];intro y c;have:y≠a:=λe=>b.1 (by rw[h,←e];exact c);simp[this]
   rw[vJ (by simp[h]),e];simp
  .rw[vI (by simp[h])];have:=z5 a l b.2;simp only[fW];omega
structure BV (zs:L9):Prop where
 nd:zs.Nodup
 nm:∀z∈zs,jS z=aD
 l1:25<=zs.length
 l2:zs.length<=26
def UC{b:aA}{a pl:Nat}{u r:Int}{g:Nat->aA}(o:b.cps.toList.all oj=aD)(d:b.length=a)(h1:1<=a)(p:a<=8)(z:pl<a)(q:u∈units)
 (pu:∀k,k<26->(g k).cps.toList=b.cps.toList.take pl++[ab ((k:Int)*u+r)]++b.cps.toList.drop (pl+1)):BV (((eG 26).map g).filter λf=>!G9 (f="sea")):=by
 have bl:b.cps.toList.length=a:=by rw[←sQ];exact d
 have s:∀k,k<26->(g k).length=a:=λk c=>by
  rw[sQ,pu k c,eW,eW,dY,o6,bl];show min pl a+1+(a-(pl+1))=a;omega
 have h:((eG 26).map g).Nodup:=nodup_range λk l c d e=>by
  have i:(g k).cps.toList=(g l).cps.toList:=by rw[e]
  rw[pu k c,pu l d,oB,oB]at i;have j:=List.append_cancel_left i;rw[yE,yE]at j;exact Qd q c d (List.cons.inj j).1
 have ln:=z5 "sea" _ h;rw[aS,o4]at ln;have lf:=m2 (λf=>!G9 (f=("sea":aA))) ((eG 26).map g);rw[aS,o4]at lf;refine⟨h.sublist vR,λf t=>?_,YT,lf⟩;obtain⟨w,y⟩:=gM.mp t;obtain⟨k,mk,rfl⟩:=cG.mp w;have c:=kN.mp mk;have all:(g k).cps.toList.all oj=aD:=by
  rw[pu k c,List.all_append,List.all_append];have n:=ku.mp o;rw[ku.mpr λx m=>n x (tB m),ku.mpr λx m=>n x (List.mem_of_mem_drop m)];simp[DK]
 unfold jS;rw[s k c,B0 h1,B0 p,y,all];rfl
def VZ(b:0<=i)(h1:i<12):∃u∈units,lZ ([.int 1,.int 3,.int 5,.int 7,.int 9,.int 11,.int 15,.int 17,.int 19,.int 21,.int 23,.int 25]:M0) i=Z (.int u):=by
 obtain⟨k,rfl⟩:=l8 b;have c:k<12:=YT;have a:k<units.length:=c;refine⟨units[k],pT a,bZ ?_⟩;show(units.map D1)[k]?=Z (D1 units[k]);rw[dB,cJ a];rfl
end Mt46
namespace L2
open PySem PySem.Spec PyProof.Rows
section
variable{X:aX}{tg:bI}
def Ub(k:bF):TI:=λY H R=>k Y H λx z=>∃d o J,x=.ref d/\z d=Z (.frz o (.dK J))/\R (ub d o J) z
def Er(f:bL X l B):lY X tg l (Ub B):=.mk λU s Y H R I h=>by
 refine bT (f U s Y H _ I h) λv s1 z'=>?_;obtain⟨x,z,a,g,i⟩:=z';obtain⟨d,o,J,e,j,q⟩:=i;subst e;cases g;have hok:=a.hok d _ j;obtain⟨k,r,lo,vs,m,n⟩:=(show dQ X.prog X.w z s1.heap d (.frz o (.dK J)) from hok)
 obtain⟨ep,c⟩:=n.dictAt;refine wpAny_pyIter_dict lo c ⟨s1.heap.objs.size,[s1.heap.objs.size],_,_,z,O,a.kept (t':=s1.toks) λb t e=>cZ _ e,CG m k c,⟨_,fP _ O,O,O⟩,λb p=>?_,q⟩;have e:b=s1.heap.objs.size:=by simpa using p
 subst e;exact a.fpOk (bQ _) (a.hok.fresh (bQ _))
def PV(e:X.calm=aD):jD X (.builtin "min") (λxs H Q=>∃(p:aB)(ns:M6),xs=[.ref p]/\aQ X.K H p (ns.map D1)/\0<ns.length/\∀M,M∈ns->(∀a∈ns,M<=a)->Q (.int M) H):=by
 intro U s Y H xs us Q I r h;obtain⟨p,ns,rfl,f,w,q⟩:=h;obtain⟨u,rfl,g⟩:=F3 r;cases g;obtain⟨y,k,pl,z⟩:=I.list f;have hi:=Cr k;obtain⟨ys,c⟩:=hi.allInts.items;have b:ns=ys.toList.map λx=>x.1:=by
  have h1:=nums_intItems ys;rw[←c]at h1;rw[←h1];exact hi.numsOf.symm
 have l:s.heap.IsList p (intItems ys):=by rw[←c];exact pl.isList
 have A:ns.length=ys.size:=by rw[b,aS,nH]
 refine min_intList (I.ok.hd e) l YT λv h' tk m n=>?_;obtain⟨tv,rfl⟩:=intItems_at m;obtain⟨B,o⟩:=EC (numAt ys) (ys.size-1);refine⟨.int _,H,I.kept (t':=tk) n,⟨_,O⟩,q _ ?_ λa t=>?_⟩
 .rw[numAt_eq,←b,kr,cJ (show K9 (λi j=>G9 (numAt ys i<numAt ys j)) (ys.size-1)<ns.length by omega)];exact pT _
 .obtain⟨j,d⟩:=mr.mp t;have C:=(cR.mp d).1;have:=o j YT;rw[numAt_eq ys j,←b,kr,d]at this;exact this
end
section
variable{prog:bS}{w:bP}{A:bX}{E:aE->aJ->Prop}{s:aJ}
def Rn(e:(d==nQ)=aK)(a:s.heap.get? d=Z o)(f:o.ExactDict)(c:o.data=.dict es ep)
 (g:Q (.ref s.heap.objs.size) {s with heap:=s.heap.push {cls:=.type "dict_keyiterator",data:=.fields #[.ref d,.int 0 0,.int es.size 0,.int ep 0]}}):aU (aW prog w) A (I2 (.ref d)) Q E s:=by
 have b:s.TypeIs (.ref d) "dict":=⟨o,a,f.1⟩
 refine wpAny_pyIter_slot b F.slot_dict_iter (tP F.slot_dict_iter b F.entry_dict_iter ?_ (F.args_dict_iter_1 _));unfold Builtin.«dict.__iter__»;refine aO ?_;unfold Builtin.Dict.dictSlotNone;refine aO (yN b (bN ?_));show aU _ _ (Builtin.Dict.showsAll d>>=_) _ _ s;unfold Builtin.Dict.showsAll;rw[B3 (by rw[e];exact fQ)];refine aO (bN (aO (y5 a c (aO (ze a c (aO (nI (bN ⟨_,O,"dict_keyiterator",_,⟨_,fP _ O,O⟩,tr.lookup,?_⟩))))))));simpa [I3] using g
def Ro(a:s.heap.IsKeyIter G d i es.size ep)(f:s.heap.get? d=Z e)(g:e.data=.dict es ep)(j:i<es.size)
 (k:∀h',h'.IsKeyIter G d (i+1) es.size ep->m7 G s.heap h'->Q (Z es[i].key) {s with heap:=h'}):aU (aW prog w) A (I1 (.ref G)) Q E s:=by
 obtain⟨o,c,l,b⟩:=id a;unfold I1;refine aO (wy (yG (name:=qV "__next__") a.typeIs tr
  (tP tr a.typeIs F.entry_dict_keyiterator_next ?_ (F.args_dict_keyiterator_next_1 _))))
 refine aO (bN (aO (aO ?_)))
 first|refine aO (vw a.typeIs (bN ?_))|refine aO (vK a.typeIs (bN ?_))
 refine aO (wpAny_fieldsOf c b ?_);simp only[show Builtin.Dict_items.ownsTuple "dict_keyiterator"=aK from by decide,tH,C5];show aU _ _ (if (cU d==iS)=aD then _ else _) _ _ s;rw[B3 (show ¬((cU d==iS)=aD) from fQ)];refine aO (bN (aO (y5 f g ?_)));rw[B3 (by simp)];refine aO (bN (aO (ze f g ?_)));rw[B3 (by simp)];refine bN ?_;simp only[show ¬((i:Int)<0) from by omega,C5,qN,vB j];refine aO ?_
 first|refine aO (vw a.typeIs (bN ?_))|refine aO (vK a.typeIs (bN ?_))
 refine aO (L0 a.typeIs ?_);show aU _ _ (setField (.ref G) 1 (I3 ((i:Int)+1))>>=_) _ _ s;refine aO (rN c b (by simp) ?_);have h:(s.heap.update G (l9 (·.setIfInBounds 1 (I3 ((i:Int)+1))))).IsKeyIter G d (i+1) es.size ep:=
  ⟨_,pQ _ c (tz (qK b _)),(yZ ..).trans l,by rw[qK b];simp[I3]⟩
 refine aO (jO (aO (L0 (s:={s with heap:=s.heap.update G (l9 (·.setIfInBounds 1 (I3 ((i:Int)+1))))}) h.typeIs ?_)));show aU _ _ (pure es[i].key) _ _ _;exact bN (bN ⟨_,O,bN (k _ h (m7.update ..))⟩)
def SS(k:A.handled=aF)(c:s.heap.IsKeyIter G d i es.size ep)(f:s.heap.get? d=Z e)(g:e.data=.dict es ep)(l:es.size<=i)
 (n:∀h',bH.ExtBut G s.heap h'->Q aF {s with heap:=h'}):aU (aW prog w) A (I1 (.ref G)) Q E s:=by
 obtain⟨o,h,p,j⟩:=id c;unfold I1;refine aO (wy (yG (name:=qV "__next__") c.typeIs tr
  (tP tr c.typeIs F.entry_dict_keyiterator_next ?_ (F.args_dict_keyiterator_next_1 _))))
 refine aO (bN (aO (aO ?_)))
 first|refine aO (vw c.typeIs (bN ?_))|refine aO (vK c.typeIs (bN ?_))
 refine aO (wpAny_fieldsOf h j ?_);simp only[show Builtin.Dict_items.ownsTuple "dict_keyiterator"=aK from by decide,tH,C5];show aU _ _ (if (cU d==iS)=aD then _ else _) _ _ s;rw[B3 (show ¬((cU d==iS)=aD) from fQ)];refine aO (bN (aO (y5 f g ?_)));rw[B3 (by simp)];refine aO (bN (aO (ze f g ?_)));rw[B3 (by simp)];refine bN ?_;simp only[show ¬((i:Int)<0) from by omega,C5,qN,Array.getElem?_eq_none l];refine aO ?_
 first|refine aO (vw c.typeIs (bN ?_))|refine aO (vK c.typeIs (bN ?_))
 show aU _ _ (setField (.ref G) 0 .none>>=_) _ _ s;refine aO (rN h j (by simp) ?_);show aU _ _ (newExc (.type "StopIteration") []>>=_) _ _ _;refine aO ?_;simp only[newExc,newTuple];refine aO (nI ?_ (by size_fits));refine aO (m:=firstArgMember _ _) (mw (a:=iS) (by first|rfl|(simp only[firstArgMember];rfl)) ?_);refine nI ?_ (by size_fits);simp only[raiseNew];refine aO (wpAny_handled ?_);rw[show A.in1.handled=aF from k];refine aO (bN (wpAny_throw ?_));refine aO (wpAny_isInstance (T:="StopIteration") (b:=aD) ⟨_,fP _ O,O⟩ isSubtype_stop ?_);exact bN (n _ (((m7.update ..).extBut.push _).push _))
end
def t9(d:aB)(o:aZ)(J:List (M7×V)):jI:=
 ⟨λi H=>H d=Z (.frz o (.dT J))/\i<J.length,λi H x H'=>H'=H/\∃a b,J[i]?=Z a/\x=.ref b/\H b=Z (.tup (a.1.map kV)),λi H=>H d=Z (.frz o (.dT J))/\J.length<=i⟩
theorem KT.get{H:aC}{P:bS}{w:bP}:∀{J:List (M7×V)} {xs:List (M7×aB×aE)} {i:Nat},KT H J xs->i<J.length->∃b x,J[i]?=Z b/\xs[i]?=Z x/\H x.2.1=Z (.tup (b.1.map kV))
 |_,_,_,.nil,h=>by simp at h
 |_,_,0,.cons a r,_=>⟨_,_,O,O,a.2.1⟩
 |_,_,i+1,.cons a r,h=>by
  obtain⟨b,x,c,d,e⟩:=KT.get (P:=P) (w:=w) (i:=i) r (by simpa using h);exact⟨b,x,by simpa using c,by simpa using d,e⟩
theorem KT.len:∀{J:List (M7×V)} {xs:List (M7×aB×aE)},KT H J xs->J.length=xs.length
 |_,_,.nil=>rfl
 |_,_,.cons _ r=>by rw[fW,fW,KT.len r]
def Rl{K:bJ}{J:List (M7×V)}{es:Array r1}{ep:Nat}(j:o.data=.dict es ep)(a6:es.size=J.length) :
  oN P w K tg (t9 d o J) [G] G (λi h=>h.IsKeyIter G d i es.size ep) where
 mem:=by simp
 obj:=λi h st b a=>by
  have e:b=G:=by simpa using a
  subst e;obtain⟨f,e,c,dd⟩:=st;exact⟨f,e,λv l=>by rw[dd]at l;cases l⟩
 keep:=λi h h' st k=>st.at λf e=>k G (by simp) f e
 item:=by
  intro X m n p C i U s Y H E I hf st t;subst m n p;obtain⟨u,hi⟩:=t;obtain⟨z,f1,f2,f3,A,B⟩:=hf G (by simp);have hok:=(show dQ X.prog X.w H s.heap d (.frz o (.dT J)) from I.hok d _ u)
  have g:s.heap.get? d=Z o:=hok.1;obtain⟨l,y,xs,r,o',a7,a8,h1,h2,h3,M,a9⟩:=(show dQ X.prog X.w H s.heap d (.dT J) from hok.2)
  rw[g]at h1;cases h1;rw[j]at h3;cases h3;obtain⟨N,x,Q,T,a0⟩:=KT.get (P:=X.prog) (w:=X.w) r hi;have D:i<es.size:=YT;refine Ro st g j D λh' L a1=>?_;have a2:es[i].key=.ref x.2.1:=by
   have q:=entry_at M i;rw[vB D,T]at q;have a3:=eA q;rw[a3];rfl
  have a4:Inv X U Y H {s with heap:=h'}:=I.turned (t':=s.toks) (λb f a e=>(a1.2 b a).trans e) z f1 f3 A B;obtain⟨f,e,c,dd⟩:=id L;refine⟨es[i].key,O,uA (s:={s with heap:=h'}) e c dd YR ⟨.ref x.2.1,H,a4,?_,⟨O,N,x.2.1,Q,O,a0⟩,L,λb a=>(hf b a).1⟩⟩;rw[a2];rfl
 done:=by
  intro X m n p C i U s Y H E I hf st t;subst m n p;obtain⟨u,hi⟩:=t;obtain⟨z,f1,f2,f3,A,B⟩:=hf G (by simp);have g:s.heap.get? d=Z o:=(show dQ X.prog X.w H s.heap d (.frz o (.dT J)) from I.hok d _ u).1;exact SS (I.ok.hd C) st g j YT λh' a5=>⟨O,I.turned (t':=s.toks) (λb f a e=>a5 b f a e) z f1 f3 A B⟩
 self:=λ_ _ _ _ _ st h=>wpAny_pyIter_keyiter st h
section
variable{X:aX}{tg:bI}
def GF(k:bF):TI:=λY H R=>k Y H λx z=>∃d J,x=.ref d/\((z d=Z (.dT J)/\∀o,R (t9 d o J) (aI z d (.frz o (.dT J))))\/∃o,z d=Z (.frz o (.dT J))/\R (t9 d o J) z)
def Qv(u:bL X l B):lY X tg l (GF B):=.mk λU s Y H R I h=>by
 refine bT (u U s Y H _ I h) λv s1 z'=>?_;obtain⟨x,z,g,w,A⟩:=z';obtain⟨d,J,e,q⟩:=A;subst e;cases w;have j:∀(o:aZ)(H2:aC),Inv X U Y H2 s1->H2 d=Z (.frz o (.dT J))->R (t9 d o J) H2->aU (aW X.prog X.w) X.A (I2 (.ref d)) (wH X U Y tg R) X.xe s1:=λo H2 c a q=>by
  have hok:=(show dQ X.prog X.w H2 s1.heap d (.frz o (.dT J)) from c.hok d _ a)
  obtain⟨k,y,xs,r,o',es,ep,h1,h2,f,i,m⟩:=(show dQ X.prog X.w H2 s1.heap d (.dT J) from hok.2)
  have n:=hok.1;rw[n]at h1;cases h1;have C:es.size=J.length:=by rw[size_of_entries i,KT.len r]
  refine Rn y n h2 f ?_;refine⟨s1.heap.objs.size,[s1.heap.objs.size],_,_,H2,O,c.kept (t':=s1.toks) λb E e=>cZ _ e,Rl f C,⟨_,fP _ O,O,O⟩,λb D=>?_,q⟩;have e:b=s1.heap.objs.size:=by simpa using D
  subst e;exact c.fpOk (bQ _) (c.hok.fresh (bQ _))
 rcases q with ⟨a,q⟩|⟨o,a,q⟩
 .obtain⟨k,y,xs,r,o,es,ep,h1,h2,f,i,m⟩:=(show dQ X.prog X.w z s1.heap d (.dT J) from g.hok d _ a)
  refine j o _ (g.write (x:=d) (e:=d) (o:=.frz o (.dT J)) (h':=s1.heap) (t':=s1.toks) (by rw[a];exact trivial) YU (λ_ _ _ q=>q) ⟨o,h1⟩ ⟨h1,k,y,xs,?_,o,es,ep,h1,h2,f,i,m⟩) aV (q o);exact G3 r λp q t=>⟨t.1,by rw[bA (λe=>by rw[e,a]at t;cases t.2.1)];exact t.2.1,t.2.2⟩
 .exact j o z g a q
def GI(Pv:Nat->St->aC->Prop)(c:Pv 0 Y H)(e:∀i Y H,i<=J.length->Pv i Y H->H d=Z (.frz o (.dT J)))
 (f:∀i a b Y H,J[i]?=Z a->H b=Z (.tup (a.1.map kV))->Pv i Y H->g (.ref b) Y H (tb {D with nx:=Pv (i+1),ct:=Pv (i+1),bk:=D.nx}))(h:∀Y H,Pv J.length Y H->D.nx Y H) :
  sy g tb D Y (t9 d o J) H:=by
 refine⟨λi m Y H=>m+i=J.length/\Pv i Y H,⟨J.length,O,c⟩,?_⟩;intro i m Y H j;obtain⟨hm,pv⟩:=j;have at_:=e i Y H YT pv;rcases Nat.lt_or_ge i J.length with lt|ge
 .refine .inr ⟨⟨at_,lt⟩,Pv (i+1),(fun σ' H' k=>⟨J.length-(i+1),YT,YT,k⟩),λx H' y=>?_⟩;obtain⟨l,a,b,n,ex,p⟩:=y;subst l ex;exact f i a b Y _ n p pv
 .have q:i=J.length:=YT;subst q;exact .inl ⟨⟨at_,bQ _⟩,h Y H pv⟩
end
section
variable{P:bS}{w:bP}{A:bX}{R:Result->aJ->Prop}{I:aB}{fp g:List aB}{G:Array nR->Array nR->Prop}{n:Nat}{Pv:Nat->aE->Prop}{h:Nat->aJ->Prop}
def OS{J:List (M7×aB×aE)}(b:(J.map (·.1)).Nodup){i:Nat}{x:M7×aB×aE}(h:J[i]?=Z x):J5 (J.take i) x.1=aF:=by
 unfold J5;rw[Option.map_eq_none_iff,List.find?_eq_none];intro y m e;have c:y.1=x.1:=B2 e;obtain⟨j,a⟩:=mr.mp m;rw[List.getElem?_take]at a;split at a
 .rename_i lt;have hi:=(cR.mp h).1;have d:=(cR.mp a).1;rw[tu,yy]at b;refine b j i (by rw[aS];exact d) (by rw[aS];exact hi) lt ?_;rw[qP,qP,(cR.mp a).2,(cR.mp h).2,c]
 .cases a
def OL(W:WalksS P w A.in1 I fp g G n Pv h)(al:A.units+4<I8)(D:aB)(B:D∉fp)(C:aE)(J:List (M7×aB×aE))(am:J.length=n)(an:n≤cP)(U:(J.map (·.1)).Nodup)(p:aJ)
 (E:∀ x∈J,x.2.1∉D :: g∧(lL (dI P w)).is p.heap x.1 x.2.1)
 (Y:∀(i:Nat)(v:aE),Pv i v→∃(a b:aB)(k:M7)(x:aE)(l:aZ)(c:Nat),v=.ref a∧a∉D :: g∧p.heap.get? a=Z l∧l.cls=.type "tuple"∧l.data=.seq #[.ref b,x] c∧J[i]?=Z (k,b,x)) :
  ∀(m i:Nat)(s:aJ),n - i=m→i≤n→h i s→(∀ b o,b∉D :: g→p.heap.get? b=Z o→s.heap.get? b=Z o)→s.heap.DictOfH (lL (dI P w)) D (J.take i) →
   (∀ L,Moved (D :: g) G s L→L.heap.DictOfH (lL (dI P w)) D J→R (.ok (.ret C)) L) →
   I6 (aW P w) A (.builtin "dict.update.loop" ⟨[.ref D,.ref I,I3 i,C],[]⟩) R s:=by
 have a0:D∉g:=fun d=>B (W.sub _ d);have sub:∀ b∈g,b∈D :: g:=fun b d=>eK _ d;have H:∀ {s L:aJ} {i:Nat},Moved g G s L→s.heap.DictOfH (lL (dI P w)) D (J.take i)→L.heap.DictOfH (lL (dI P w)) D (J.take i):=fun f ⟨o,es,ep,a1,h2,a2,a3,a4,a5⟩=>⟨o,es,ep,f.heap D _ a0 a1,h2,a2,a3,fun x M=>by
  obtain⟨o,q,n,e,r⟩:=a4 x M;exact⟨o,q,n,f.heap _ _ (fun d=>(E x (tB M)).1 (sub _ d)) e,r⟩,a5⟩
 intro m
 induction m with
 | zero =>
  intro i s a6 a7 st kp t u;obtain rfl:i=n:=YT;refine o8 xi ?_;rw[pR qc _];show aU _ A.in1 (I1 (.ref I) >>= _) _ _ s;refine aO (W.done s _ _ st fun L f=>?_);show aU _ A.in1 (Builtin.Dict.addKeywords D [] >>= _) _ _ L;refine aO (bN ?_);have:=H f t;rw[dP YT] at this;exact bN (u L (f.mono sub) this)
 | succ m a8 =>
  intro i s a6 a7 st kp t u;have lt:i<n:=YT;refine o8 xi ?_;rw[pR qc _];show aU _ A.in1 (I1 (.ref I) >>= _) _ _ s;refine aO (W.item i s _ _ lt st fun v L pv a9 f=>?_);obtain⟨a,b,k,x,l,c,rfl,N,aa,ac,ae,hi⟩:=Y i v pv;have af:=H f t;have Q:L.heap.get? a=Z l:=f.heap a l (fun d=>N (sub a d)) (kp a l N aa);have ag:L.TypeIs (.ref a) "tuple":=⟨l,Q,ac⟩
  refine aO (jO (aO (wpAny_tryCatch ?_)));unfold Builtin.Dict.pairItems;refine aO (rV ag ?_);rw[B4 YR];refine aO (zf Q ae (bN ?_));show aU _ _ (I0 [.ref b,x] (dictSet D (.ref b) x)) _ _ L;obtain⟨T,ah⟩:=E _ (dM hi);have j:(lL (dI P w)).is L.heap k b:=by
   obtain⟨o,q,n,e,r⟩:=ah;exact⟨o,q,n,f.heap _ _ (fun d=>T (sub _ d)) (kp _ _ T e),r⟩
  refine jO (wpAny_dictSet_heap (qM YT) j af (fun h' y z=>?_) ?_)
  ·rw[storedH_new (OS U hi)] at y;have e:J.take i++[(k,b,x)]=J.take (i+1):=by rw[dR,hi];rfl
   rw[e] at y;refine bN ⟨o9 qc _,a8 (i+1) _ YT lt (W.frame _ L _ _ a9 (pU _ _) fun b j o e=>?_) (fun b o j e=>?_) y fun ai aj ak=>?_⟩
   ·rw[z.2 b (fun d:b=D=>B (by rw[← d];exact j))];exact e
   ·rw[z.2 b (fun d:b=D=>j (by rw[d];exact eB))];exact f.heap b o (fun d=>j (sub b d)) (kp b o j e)
   ·refine u ai (Moved.trans W.gtrans ((f.mono sub).then_heap (pU _ _) fun b o j e=>?_) aj) ak;rw[z.2 b (fun d:b=D=>j (by rw[d];exact eB))];exact e
  ·rw[dY];omega
end
section
variable{P:bS}{w:bP}{A:bX}{E:aE->aJ->Prop}{s:aJ}
def MI{d:M4}{J:List (M7×aB×aE)}{Q:aE->aJ->Prop}(u:A.handled=aF)(ar:A.units+20<I8)(a1:PlainL s.heap l d.toArray)(a2:d.length=J.length)(a3:d.length<=cP)(a4:(J.map (·.1)).Nodup)
 (a5:∀x∈J,(lL (dI P w)).is s.heap x.1 x.2.1)
 (a6:∀(i:Nat)(v:aE),d[i]?=Z v->∃(a b:aB)(k:M7)(x:aE)(f:aZ)(c:Nat),v=.ref a/\s.heap.get? a=Z f/\f.cls=.type "tuple"/\f.data=.seq #[.ref b,x] c/\J[i]?=Z (k,b,x))
 (h:∀(h':bH)(tk:Nat),h'.DictOfH (lL (dI P w)) s.heap.objs.size J->(∀b o,s.heap.get? b=Z o->h'.get? b=Z o)->Q (.ref s.heap.objs.size) {s with heap:=h',toks:=tk}) :
  aU (aW P w) A (call (.type "dict") [.ref l]) Q E s:=by
 refine zg (Q₁:=λ(y:aE)(z:aJ)=>y=cU s.heap.objs.size/\z={s with heap:=s.heap.push {cls:=.type "dict",data:=.dict #[]}}) F.kt_called_dict (F.kt_typeCall_dict_1 _) F.entry_dict_init (kt_code_dict_new _ ⟨O,O⟩) ?_;rintro y z ⟨rfl,rfl⟩;have B:(s.heap.push {cls:=.type "dict",data:=.dict #[]}).DictOfH (lL (dI P w)) s.heap.objs.size []:=⟨_,#[],_,fP _ O,⟨O,O,O⟩,O,O,(λ_ m=>nomatch m),.nil⟩
 have C:({s with heap:=s.heap.push {cls:=.type "dict",data:=.dict #[]}}:aJ).TypeIs (.ref s.heap.objs.size) "dict":=⟨_,fP _ O,O⟩
 obtain⟨⟨as,au,av,aw⟩,a7,D,G,H,I⟩:=id a1;simp only at G H I;subst G H I;have a8:l<s.heap.objs.size:=cW D;have j:=cZ (h:=s.heap) {cls:=.type "dict",data:=.dict #[]} D;refine⟨C,F.args_dict_init_2 _ _,?_⟩;unfold Builtin.«dict.__init__»;refine aO ?_;unfold Builtin.Dict.selfAndRest;refine aO (yN C ?_);show aU _ _ (pure (s.heap.objs.size,[cU l])) _ _ _;refine bN ?_;show aU _ _ (vA "dict.__init__" s.heap.objs.size (.ref l) [] .none) _ _ _;unfold vA;refine aO (rV (T:="list") ⟨_,j,O⟩ ?_);rw[B4 YR];refine aO (Lx (by simp[u]) j λh1 L k1=>?_);show aU _ _ (rule _>>=_) _ _ _;refine aO (t5 ?_);have M:=k1 _ _ j;have N:h1.IsList l d.toArray:=⟨_,M,O,a7,O⟩
 refine aO (qO (s:={s with heap:=h1,toks:=L}) N ?_);have U:s.heap.objs.size<h1.objs.size:=by
  obtain⟨o,es,ep,p,_⟩:=B;exact cW (k1 _ _ p)
 have a9:l≠h1.objs.size:=dC (cW M);have aa:s.heap.objs.size∉[h1.objs.size,l]:=by
  simp only[dW,eU,mJ,C4,not_or];exact⟨dC U,nN a8⟩
 refine bN ⟨o9 qc _,?_⟩;have ac:A.in1.in1.handled=aF:=by simp[u]
 have q:∀{b:aB} {o:aZ},s.heap.get? b=Z o->b∉[s.heap.objs.size,h1.objs.size]:=λ{b o} e=>by
  have Y:=cW e;simp only[dW,eU,mJ,C4,not_or];exact⟨dC Y,dC (rS Y U)⟩
 refine OL ((t3 ac _ l a9 d.toArray).toS) ?_ s.heap.objs.size aa .none J (by rw[eN,a2]) (by rw[eN];exact a3) a4 {s with heap:=h1.push {cls:=.type "list_iterator",data:=.fields #[.ref l,.int 0 0]},toks:=L} (λx m=>?_) (λi v pv=>?_) (d.toArray.size-0) 0 _ YT (gU _)
  ⟨⟨_,fP _ O,O,O⟩,(N.push _)⟩ (λ_ _ _ e=>e) ?_ ?_
 .show A.units+1+4<_;omega
 .obtain⟨o,d,n,e,r⟩:=a5 x m;exact⟨q e,o,d,n,cZ _ (k1 _ _ (cZ _ e)),r⟩
 .obtain⟨a,b,k,x,f,c,rfl,a0,ae,af,hi⟩:=a6 i v (by simpa using pv);exact⟨a,b,k,x,f,c,O,q a0,cZ _ (k1 _ _ (cZ _ a0)),ae,af,hi⟩
 .obtain⟨o,es,ep,p,h2,t,ag,ax,ah⟩:=B;exact⟨o,es,ep,cZ _ (k1 _ _ p),h2,t,ag,(λ_ m=>nomatch m),ah⟩
 .intro ai g aj;obtain⟨t,ak,al,am,an⟩:=ai;have ao:ak=s.gens:=g.gens;have ap:al=s.drawn:=g.drawn;have aq:an=s.os:=g.os;subst ao ap aq;exact⟨O,h t am aj λb o e=>g.heap b o (q e) (cZ _ (k1 _ _ (cZ _ e)))⟩
end
def nn(H:aC)(ys:M0)(J:List (M7×V)):Prop:=Paired (λ(y:V)(c:M7×V)=>∃a b,y=.ref a/\H a=Z (.tup [.ref b,c.2])/\H b=Z (.tup (c.1.map kV))) ys J
def nn.nil(H:aC):nn H [] []:=mx
def nn.len(h:nn H ys J):ys.length=J.length:=pX h
def nn.same(S:aL H H')(h:nn H ys J):nn H' ys J:=Paired.mapP h λ_ _ h=>by obtain⟨a,b,e,o,o'⟩:=h;exact⟨a,b,e,S _ _ o,S _ _ o'⟩
section
variable{X:aX}
def Jv(I:Inv X U Y H s){ys:M0}{J:List (M7×V)}{h:M4}(z':nn H ys J)(y':cA ys h) :
  ∃d:List (M7×aB×aE),KT H J d/\h.length=d.length/\(∀x∈d,(lL (dI X.prog X.w)).is s.heap x.1 x.2.1)/\∀(i:Nat)(v:aE),h[i]?=Z v->∃(a b:aB)(k:M7)(x:aE)(f:aZ)(c:Nat),v=.ref a/\s.heap.get? a=Z f/\f.cls=.type "tuple"/\f.data=.seq #[.ref b,x] c/\d[i]?=Z (k,b,x):=by
 induction z' generalizing h with
 |nil=>cases y';exact⟨[],mx,O,(λ_ m=>nomatch m),λi v e=>by simp at e⟩
 |@cons _ x _ _ r t i=>
  obtain⟨k,N⟩:=x;obtain⟨a,b,e,o,o'⟩:=r;cases y' with
  |cons r l=>
  obtain⟨d,h1,h2,n,p⟩:=i l;subst e;cases r;obtain⟨Q,w,⟨f,g,y,c,z⟩,_⟩:=I.tuple (D0 o);obtain⟨A,j,rfl,B,C⟩:=cA.two w;cases(show A=cU b from B);refine⟨(k,b,j)::d,oH ⟨O,o',C⟩ h1,by simp[h2],λx m=>?_,λi v e=>?_⟩
  .rcases dW.mp m with rfl|m
   .exact qy I.hok o'
   .exact n x m
  .cases i with
   |zero=>
    simp at e;subst e;exact⟨a,b,k,j,f,c,O,g,y,z,O⟩
   |succ i=>
    obtain⟨D,E,G,L,M,c',q⟩:=p i v (by simpa using e);exact⟨D,E,G,L,M,c',by simpa using q⟩
def XB(m:X.calm=aD)(N:X.A.units+64<I8):jD X (.type "dict") (fun xs H Q=>∃(p:aB)(ys:M0)(J:List (M7×V)),xs=[.ref p]∧aQ X.K H p ys∧nn H ys J∧J.length≤1000∧(J.map (·.1)).Nodup∧∀ l,H l=aF→Q (.ref l) (aI H l (.dT J))):=by
 intro U s Y H xs us Q I r h
 obtain⟨p,ys,J,rfl,n,f,t,g,q⟩:=h
 obtain⟨u,rfl,w⟩:=F3 r
 cases w
 obtain⟨T,x,pl,a0⟩:=I.list n
 obtain⟨c,d,i,j,k⟩:=Jv I f x
 have a1:(1000:Nat)≤cP:=YR
 have y:J.length=c.length:=pX d
 have z:c.map (·.1)=J.map (·.1):=by
  clear j k i t g y f q
  induction d with
  | nil=>rfl
  | cons a r A=>rw[dD,dD,A,a.1]
 refine MI (J:=c) (I.ok.hd m) YT pl i YT (by rw[z];exact g) j k fun h' tk B C=>?_
 have fr:=I.hok.fresh (bQ _)
 obtain⟨o,es,ep,D,E,G,L,a2,M⟩:=B
 refine⟨.ref s.heap.objs.size,_,I.laid (t':=tk) C (bQ _) (show dQ X.prog X.w _ h' _ (.dT J) from⟨YT,?_,c,d.keeps fun b ys e=>C7 fr _ _ e,o,es,ep,D,E,G,L,M⟩),O,q _ fr⟩
 have b:=I.big
 exact C1.mpr (nN b)
def TX:zn X .Mult (λx y H Q=>∃i j,x=.int i/\y=.int j/\IntMulOk i j/\Q (.int (i*j)) H):=by
 intro U s Y H x y v u Q I a b h;obtain⟨i,j,c,d,hm,q⟩:=h;subst c d;obtain⟨t,rfl⟩:=a;obtain⟨t',rfl⟩:=b;exact imul_int ⟨.int (i*j),H,I.tok _,⟨_,O⟩,q⟩ hm
def MK{K:bJ}(h:X.K=K):jD X (.type "tuple") (λxs H Q=>∃p ys,xs=[.ref p]/\((aQ K H p ys/\∀l,H l=aF->Q (.ref l) (aI H l (.tup ys)))\/(bE K H p ys/\Q (.ref p) H))):=by
 subst h;exact JA
end
section
variable{X:aX}{K:bJ}
def Aj{i:Nat}{v:V}{tb:dZ}{D:Ends}{Y:St}{H:aC}(h:∀a:Ends,(∀σ' H',D.nx σ' H'->a.nx σ' H')->tb a (Y.set i (Z v)) H):nz i v Y H (tb D):=h D λ_ _ x=>x
def uu{g:gO}{x:V}{tb:dZ}{D:Ends}{Y:St}{H:aC}(h:∀a:Ends,(∀σ' H',D.nx σ' H'->a.nx σ' H')->g x Y H (tb a)):g x Y H (tb D):=h D λ_ _ x=>x
def xX(h:∀u:dZ,(∀c σ' H',b c σ' H'->u c σ' H')->kH a u D Y H):kH a b D Y H:=h b λ_ _ _ x=>x
def Qm(h:∀u:dZ,(∀d σ' H',b d σ' H'->u d σ' H')->kH a (kH c u) D Y H):kH a (kH c b) D Y H:=h b λ_ _ _ x=>x
def xW(h:∀u:dZ,(∀e σ' H',b e σ' H'->u e σ' H')->kH a (kH c (kH d u)) D Y H):kH a (kH c (kH d b)) D Y H:=h b λ_ _ _ x=>x
end
structure Mk (h b_:bH) (e:aB) (cls d:aE) (p:Option aB) (fl:aE) (oe:aZ) (vs:Array aE) (T:aB) (oT:aZ) (ts:Array aE):Prop where
 he:h.get? e=Z oe
 cl:oe.cls=cls
 kp:vs[0]?=Z d
 dc:oe.dict=p
 hd:oe.data=.fields vs
 h1:vs[1]?=Z (.ref T)
 nT:b_.get? T=aF
 ne:T≠e
 hT:h.get? T=Z oT
 dT:oT.data=.fields ts
 h3:ts[3]?=Z fl
def As(h b_:bH)(e:aB)(cls d:aE)(p:Option aB)(fl:aE):Prop:=∃oe vs T a ts,Mk h b_ e cls d p fl oe vs T a ts
theorem As.w:As h b_ e cls d p fl->h.TracedAtW b_ e cls d fl
 |⟨oe,vs,T,a,ts,t⟩=>⟨oe,vs,T,a,ts,t.he,⟨t.cl,t.kp⟩,t.hd,t.h1,t.nT,t.ne,t.hT,t.dT,t.h3⟩
def mI(b_:bH)(l:List eE)(e:aB)(cls d:aE)(p:Option aB)(fl:aE)(h:bH):Prop:=b_.StaysIn h/\b_.get? e=aF/\h.FunFrames b_ l/\As h b_ e cls d p fl
def mI.w(x:mI b_ l e cls d p .none h):bH.FlyingW b_ l e cls d h:=⟨x.1,x.2.1,x.2.2.1,x.2.2.2.w⟩
def IY(f:Array aE->Array aE)(o:aZ):(l9 f o).dict=o.dict:=by unfold l9;split<;>rfl
section
variable{M:Model}{A:bX}{E:aE->aJ->Prop}{s:aJ}{b_:bH}{env:eE}{o_ l:List eE}{L e:aB}{cls d fl:aE}{p:Option aB}
def zN(G:A.frames=Z (env::o_))(j:s.heap.FunFrames b_ (env::o_))(H:env.frame=Z L)
 (n:s.heap.get? e=Z oe)(I:b_.StaysIn s.heap)(r:b_.get? e=aF)(k:oe.data=.fields vs)(hsz:1<vs.size)(kp:vs[0]?=Z d)(J:oe.dict=p)
 (h:∀h',mI b_ (env::o_) e oe.cls d p (I3 L) h'->s.heap.UpToSlots h'->Q () {s with heap:=h'}) :
  aU M A (do let a ←frameOf env;let pl ←entryPlaceOf L D;let b ←EntryCells.newEntry head a .none (I3 L) .none pl;setField (.ref e) 1 b) Q E s:=by
 have t:∀b o,s.heap.get? b=Z o->(∀vs,o.data≠.fields vs)->b≠e:=λb o c f q=>by
  rw[q,n]at c;cases c;exact f vs k
 have N:e∉(env::o_).filterMap (·.frame):=λhm=>by
  obtain⟨_,o,T,f⟩:=j.mem hm;exact t e o T f O
 refine aO (wpAny_frameOf_fun G j H λh1 l=>aO (wpAny_entryPlaceOf λpl u=>?_));unfold EntryCells.newEntry newFields;refine aO (nI ?_ (u.sizeOk5 _ _ _ _ _));generalize w:({cls:=.type "traceback",dict:=aF,data:=.fields ([head,.ref L,.none,I3 L,.none]++(if pl.isEmpty then wm 6 iS else pl)).toArray}:aZ)=g;have m:h1.get? e=Z oe:=(l.2.1 e N).trans n;have x:b_.StaysIn h1:=λb o i=>(l.2.1 b λhm=>by rw[(j.mem hm).1]at i;cases i).trans (I b o i);have y:h1.objs.size≠e:=nN (cW m);have z:=qK k (·.setIfInBounds 1 (cU h1.objs.size));have U:=pQ (l9 (·.setIfInBounds 1 (cU h1.objs.size))) (cZ g m) (tz z);have B:∀b o,b≠e->h1.get? b=Z o->((h1.push g).update e (l9 (·.setIfInBounds 1 (cU h1.objs.size)))).get? b=Z o:=λb o Y c=>by
  rw[lU _ _ (D4 Y)];exact cZ _ c
 have a0:((h1.push g).update e (l9 (·.setIfInBounds 1 (cU h1.objs.size)))).get? h1.objs.size=Z g:=by
  rw[lU _ _ (D4 y)];exact fP h1 (by rw[←w];rfl)
 have us:s.heap.UpToSlots ((h1.push g).update e (l9 (·.setIfInBounds 1 (cU h1.objs.size)))):=λb o c f=>by
  obtain⟨C,q⟩:=l.2.2 b o c;exact⟨C,B b _ (t b o c f) q⟩
 refine rN (cZ g m) k hsz (h _ ⟨λb o i=>B b o (λq=>by rw[q,r]at i;cases i) (x b o i),r,j.of_keeps λb o c f=>?_,?_⟩ us)
 .obtain⟨C,q⟩:=us b o c f;exact⟨_,q,O⟩
 .exact⟨_,_,h1.objs.size,g,_,U,yZ _ _,by rw[Array.getElem?_setIfInBounds_ne YR];exact kp,(IY _ _).trans J,z,by simp[hsz],x.fresh,y,a0,by rw[←w],by first|(simp;done)|(rcases u with rfl|⟨_,_,_,_,_,_,_,rfl⟩<;>simp)⟩
def GA(n:A.frames=Z (env::o_))(j:env.frame=Z L)(x:mI b_ (env::o_) e cls d p .none s.heap)
 (h:∀h',mI b_ (env::o_) e cls d p (I3 L) h'->s.heap.UpToSlots h'->Q () {s with heap:=h'}):aU M A (K3 (.ref e) env) Q E s:=by
 obtain⟨r,u,w,oe,vs,T,G,ts,t⟩:=x;obtain⟨k,cl,kp,z,l,h1,B,C,c,dT,m⟩:=t;subst cl;unfold K3;simp only[j];refine aO (oI k l h1 ?_);rw[B4 (show(cU T != iS)=aD from by simp)];refine aO (oI c dT m ?_);rw[B3 (show ¬((iS==I3 L)=aD) from by simp[I3])];refine aO (rN c dT (vz.mp m).1 ?_);have f:∀b,b≠T->(s.heap.update T (l9 (·.setIfInBounds 3 iS))).get? b=s.heap.get? b:=λb a=>lU _ _ (D4 a);have us:s.heap.UpToSlots (s.heap.update T (l9 (·.setIfInBounds 3 iS))):=λb o a g=>⟨o.slots,(f b λq=>by rw[q,c]at a;cases a;exact g ts dT).trans a⟩
 refine zN n (w.of_keeps λb o a g=>?_) j ((f e (D4 C)).trans k) (λb o i=>(f b λq=>by rw[q,B]at i;cases i).trans (r b o i)) u l (vz.mp h1).1 kp z
  λh' y D=>h h' y (us.trans D)
 obtain⟨H,q⟩:=us b o a g;exact⟨_,q,O⟩
def sY(x:mI b_ l e cls d p fl s.heap)(h:∀h',mI b_ l e cls d p (fr.elim .none λf=>I3 f) h'->s.heap.UpToSlots h'->Q () {s with heap:=h'}):aU M A (L1 (.ref e) fr) Q E s:=by
 obtain⟨w,y,z,oe,vs,T,D,ts,t⟩:=x;obtain⟨k,cl,kp,B,m,h1,n,r,c,dT,C⟩:=t;have u:3<ts.size:=(vz.mp C).1;unfold L1;refine aO (oI k m h1 ?_);rw[B4 (show(cU T != iS)=aD from by simp)];have g:∀b,b≠T->(s.heap.update T (l9 (·.setIfInBounds 3 (fr.elim iS λf=>I3 f)))).get? b=s.heap.get? b:=λb a=>lU _ _ (D4 a);have us:s.heap.UpToSlots (s.heap.update T (l9 (·.setIfInBounds 3 (fr.elim iS λf=>I3 f)))):=λb o a i=>⟨o.slots,(g b λq=>by rw[q,c]at a;cases a;exact i ts dT).trans a⟩
 refine rN c dT u (h _ ⟨λb o j=>(g b λq=>by rw[q,n]at j;cases j).trans (w b o j),y,z.of_keeps λb o a i=>?_,?_⟩ us)
 .obtain⟨G,q⟩:=us b o a i;exact⟨_,q,O⟩
 .exact⟨oe,vs,T,_,_,(g e (D4 r)).trans k,cl,kp,B,m,h1,n,r,pQ _ c (tz (qK dT _)),qK dT _,by simp[u]⟩
def Sj(j:A.frames=Z (env::o_))(f:env.frame=Z L)(g:b_.StaysIn h)(k:h.FunFrames b_ (env::o_))(c:y9 h s.heap e cls args)
 (l:∀h' t,mI b_ o_ e cls (.ref t) aF .none h'->s.heap.UpToSlots h'->Q () {s with heap:=h'}):aU M A (leaving env (.ref e)) Q E s:=by
 obtain⟨t,i,z,B⟩:=c.there;have fresh:∀b,h.get? b=aF->b_.get? b=aF:=λb a=>by
  cases m:b_.get? b with
  |none=>rfl
  |some o'=>have:=g b o' m;rw[a]at this;cases this
 unfold leaving K3;simp only[f];refine aO (aO (oI i O (x:=.none) O ?_));rw[B3 YR];refine zN (d:=.ref t) (p:=aF) j (k.of_keeps λb o a _=>⟨o,c.keeps b o a,O⟩) f i (λb o a=>c.keeps b o (g b o a)) (fresh e c.new) O (by show 1<6;decide) O O λh1 n q=>sY (fr:=aF) (s:={s with heap:=h1}) n λh2 r u=>?_;obtain⟨D,p2,⟨_,_,w⟩,y⟩:=r;exact l h2 t ⟨D,p2,w,y⟩ (q.trans u)
end
def li(P:bS)(w:bP):nM:=λo_ H s E e L=>∃(ea:aB)(cls d:aE)(p:Option aB)(B:bH)(H':aC),e=.ref ea/\L.os=s.os/\H1 L.gens/\eJ (gL o_) [] H H' s.heap L.heap/\dL P w H' L.heap /\
 mI B o_ ea cls d p .none L.heap/\(∀b o o',s.heap.get? b=Z o->L.heap.get? b=Z o'->b∉gL o_->B.get? b=Z o')/\(∀b o',H' b≠aF->L.heap.get? b=Z o'->B.get? b=Z o')/\E cls p H'
section
variable{X:aX}{U:List (aB×aZ)}{Y:St}{H H':aC}{s L:aJ}{B h2:bH}{ea:aB}{cls d:aE}
def Uc(I:Inv X U Y H s)(u:eJ (gL X.stack) [] H H' s.heap L.heap)(hB:∀b o o',s.heap.get? b=Z o->L.heap.get? b=Z o'->b∉gL X.stack->B.get? b=Z o')
 (k:B.StaysIn h2)(us:L.heap.UpToSlots h2):eJ (gL X.stack) [] H H' s.heap h2 where
 keep:=λb o e n a c=>k b o (hB b o o e (u.keep b o e n a c) a)
 slot:=λb o e n a c=>by
  obtain⟨i,f⟩:=u.slot b o e n a c;obtain⟨_,j,d,hd⟩:=I.stack.mem a;rw[e]at d;cases d;obtain⟨h,g⟩:=us b _ f hd;exact⟨h,g⟩
 free:=u.free
 there:=λb o e c=>by
  obtain⟨o',f⟩:=u.there b o e c;by_cases a:b∈gL X.stack
  .obtain⟨_,j,d,hd⟩:=I.stack.mem a;rw[e]at d;cases d;obtain⟨i,g⟩:=u.slot b o e (I.stkFree b a) a c;obtain⟨h,l⟩:=us b _ g hd;exact⟨_,l⟩
  .exact⟨o',k b o' (hB b o o' e f a)⟩
 tups:=u.tups
 frzs:=u.frzs
 tbls:=u.tbls
def Ss(d:dL P w H' L.heap)(f:∀b o',H' b≠aF->L.heap.get? b=Z o'->B.get? b=Z o')(k:B.StaysIn h2):dL P w H' h2:=λa o e=>
 (d a o e).stay (λb v c q=>k b v (f b v (by
  rcases c with rfl|c
  .rw[e];simp
  .rw[c];simp) q)) (λ_ q=>q) λ_ _ q=>q
def yl(I:Inv X U Y H s)(os:L.os=s.os)(bare:H1 L.gens)(u:eJ (gL X.stack) [] H H' s.heap L.heap)(a:dL X.prog X.w H' L.heap)(c:∀b o o',s.heap.get? b=Z o->L.heap.get? b=Z o'->b∉gL X.stack->B.get? b=Z o')
 (d:∀b o',H' b≠aF->L.heap.get? b=Z o'->B.get? b=Z o')(k:B.StaysIn h2)(us:L.heap.UpToSlots h2):Inv X U Y H' {L with heap:=h2}:=
 I.call' (L:={L with heap:=h2}) (ch:=[]) os (Uc I u c k us) (Ss a d k) bare λb e=>B6 e (by simp)
end
def dQ.has(x:dQ P w H h a o):∃u,h.get? a=Z u:=by
 cases o with
 |lst xs=>obtain⟨_,_,_,_,e⟩:=x;exact⟨_,e⟩
 |tup xs=>obtain⟨_,_,_,b,e,_⟩:=x;exact⟨_,e⟩
 |dK J=>obtain⟨_,_,_,_,o,_,_,e,_⟩:=x;exact⟨_,e⟩
 |dT J=>obtain⟨_,_,_,_,o,_,_,e,_⟩:=x;exact⟨_,e⟩
 |set S n=>obtain⟨o,_,_,_,e,_⟩:=x;exact⟨_,e⟩
 |ins C dx fs=>obtain⟨_,_,_,e,_⟩:=x;exact⟨_,e⟩
 |own y=>obtain⟨_,e⟩:=x;exact⟨_,e⟩
 |xd fs=>obtain⟨_,⟨_,_,_,e,_⟩,_⟩:=x;exact⟨_,e⟩
 |rng lo hi=>obtain⟨_,_,_,e⟩:=x;exact⟨_,e⟩
 |frz b u=>obtain⟨e,_⟩:=x;exact⟨_,e⟩
 |tbl ps=>exact⟨_,show h.get? a=Z _ from x⟩
 |met f y=>exact⟨_,show h.get? a=Z _ from x⟩
 |ext c=>obtain⟨_,⟨_,e⟩,_⟩:=x;exact⟨_,e⟩
def dL.has(x:dL P w H h)(e:H a≠aF):∃u,h.get? a=Z u:=by
 cases q:H a with
 |none=>exact B6 q e
 |some o=>exact(x a o q).has
def Vw(a:A.frames=Z (env::o_))(b:env.frame=Z L)(x:mI b_ (env::o_) e cls d p .none s.heap)
 (h:∀h',mI b_ o_ e cls d p .none h'->s.heap.UpToSlots h'->Q () {s with heap:=h'}):aU M A (leaving env (.ref e)) Q E s:=by
 unfold leaving;exact aO (GA a b x λh1 c f=>sY (fr:=aF) (s:={s with heap:=h1}) c λh2 ⟨D,p2,⟨_,_,g⟩,i⟩ j=>h h2 ⟨D,p2,g,i⟩ (f.trans j))
section
variable{P:bS}{w:bP}{K:bJ}{mg:aA->Option aE}{b_:bH}{N:L9}{j:aA}{scope:kA}{f:aB}{cd:aE}{A:bX}{o_:List eE}{s:aJ}{H:aC}{E:dG}
def zP{U:List (aB×aZ)}{Y:St}{z H':aC}{s1 L:aJ}{B h2:bH}{ea:aB}{cls d:aE}{p:Option aB}(I:Inv (hG (li P w) P w K mg b_ N j scope f cd A o_ s H E) U Y z s1)(os:L.os=s1.os)(bare:H1 L.gens)
 (u:eJ (gL (J1 j scope s.heap.objs.size f cd::o_)) [] z H' s1.heap L.heap)(m:dL P w H' L.heap)(t:∀b o o',s1.heap.get? b=Z o->L.heap.get? b=Z o'->b∉gL (J1 j scope s.heap.objs.size f cd::o_)->B.get? b=Z o')
 (x:∀b o',H' b≠aF->L.heap.get? b=Z o'->B.get? b=Z o')(fl:mI B o_ ea cls d p .none h2)(us:L.heap.UpToSlots h2)(q:E cls p H'):li P w o_ H s E (.ref ea) {L with heap:=h2}:=by
 have h:=yl (h2:=h2) I os bare u m t x fl.1 us;refine⟨ea,cls,d,p,B,H',O,h.os,h.bare,h.b_,h.hok,fl,λb o o' e i D=>?_,λb o' n i=>?_,q⟩
 .obtain⟨y,C⟩:=I.b_.there b o e (λk=>B6 k (by simp[hG]));obtain⟨a,l⟩:=u.there b y C (by simp);have G:b∉gL (J1 j scope s.heap.objs.size f cd::o_):=λk=>by
   have lt:b<s.heap.objs.size:=cW e;have J:b∈s.heap.objs.size::gL o_:=k;rcases dW.mp J with r|r
   .exact B6 lt (by rw[r];exact oF _)
   .exact D r
  have c:=t b y a C l G;have g:=fl.1 b a c;rw[show h2.get? b=Z o' from i]at g;cases g;exact c
 .obtain⟨a,l⟩:=m.has n;have c:=x b a n l;have g:=fl.1 b a c;rw[show h2.get? b=Z o' from i]at g;cases g;exact c
def zI:pF (li P w) (hG (li P w) P w K mg b_ N j scope f cd A o_ s H E) E:=λU Y z s1 e L I h=>by
 obtain⟨ea,cls,d,p,B,H',rfl,os,bare,u,a,fl,b,c,q⟩:=h;exact Vw (env:=J1 j scope s.heap.objs.size f cd) (o_:=o_) I.ok.frames O fl λh2 g us=>zP I os bare u a b c g us q
def RJ(I:Inv (hG (li P w) P w K mg b_ N j scope f cd A o_ s H E) U Y z s1)(a:y9 s1.heap h1 e cls args)(q:E cls aF z) :
  (hG (li P w) P w K mg b_ N j scope f cd A o_ s H E).xe (.ref e) {s1 with heap:=h1}:=by
 have S:s1.heap.FunFrames b_ (J1 j scope s.heap.objs.size f cd::o_):=I.stack;have k:∀v∈J1 j scope s.heap.objs.size f cd::o_,∀b,v.frame=Z b->b∈gL (J1 j scope s.heap.objs.size f cd::o_):=λv l b m=>qJ.mpr ⟨v,l,m⟩;refine Sj (b_:=yX s1.heap (gL (J1 j scope s.heap.objs.size f cd::o_))) (h:=s1.heap) (env:=J1 j scope s.heap.objs.size f cd) (o_:=o_) I.ok.frames O (λb o g=>yJ _ g) (PySem.W.funFrames_hide S k) a λh2 t fl us=>zP (s1:=s1) (L:={s1 with heap:=h1}) I O I.bare (G8 a.keeps) (I.hok.kept a.keeps) (λb o o' c i p=>?_) (λb o' n i=>?_) fl us q
 .have d:=a.keeps b o c;rw[show h1.get? b=Z o' from i]at d;cases d;exact tE _ c p
 .obtain⟨o,c⟩:=I.hok.has n;have d:=a.keeps b o c;rw[show h1.get? b=Z o' from i]at d;cases d;exact tE _ c λg=>n (I.stkFree b g)
end
abbrev pI:M4:=[.type "ValueError",.type "Exception",.type "BaseException",.type "object"]
structure rT (K:bJ) (C:aB):Prop where
 q:PySem.W.excIn K C pI "ValueError.__new__"=aD
def rT.own{K:bJ}{x:aA}{mg:aA->Option aE}(E:rT K C)(X:K.In h)(hm:mg x=Z (.ref C)):OwnCls x C pI "ValueError.__new__" mg h:=by
 refine⟨hm,?_⟩;have q:=E.q;unfold PySem.W.excIn at q;split at q
 .rename_i l m n o;split at q
  .rename_i C2 B d b c e p f em es;have g:=iJ.mp q;have a:=iJ.mp g.1;have i:=iJ.mp a.1;have j:=iJ.mp i.1;have k:=iJ.mp j.1;obtain rfl:C2=C:=C0.mp k.1;obtain rfl:p="ValueError.__new__":=C0.mp k.2;obtain⟨r,s,t,u,w,y,z,A,D,G,H⟩:=m;obtain rfl:t=.ref C2::B:=em;obtain rfl:H=aK:=by simpa using j.2
   obtain⟨I⟩:=n;obtain rfl:I=[d,b,c,e,Z (.builtin "ValueError.__new__"),f]:=es;exact⟨B,u,r,w,s,y,z,A,D,G,l,d,b,c,e,f,_,X _ _ o,.of_isNs (PySem.W.isNs_of_in X a.2),PySem.W.nsMap_none_of_in X a.2 (C0.mp g.2),PySem.W.tail_of_in X i.2⟩
  .cases q
 .cases q
def GQ(X:aX)(E:dG):Prop:=∀(U:List (aB×aZ))(Y:St)(H:aC)(s:aJ)(h1:bH)(e:aB)(cls:aE)(args:M4),Inv X U Y H s->y9 s.heap h1 e cls args->E cls aF H->X.xe (.ref e) {s with heap:=h1}
def CV{K:bJ}{mg:aA->Option aE}{N:L9}{j:aA}{scope:kA}{o_:List eE}{E:dG} :
  GQ (hG (li P w) P w K mg b_ N j scope f cd A o_ s H E) E:=λ_ _ _ _ _ _ _ _ I a q=>RJ I a q
section
variable{X:aX}{C:aB}{x:aA}{E:dG}{np c pos:Pos}{e:bI}{es:List bI}{t:eZ}
def SV(C:aB)(E:dG)(t:eZ):dZ:=λ_ Y H=>t Y H λvs z=>vs.length<=cP/\E (.ref C) aF z
def En(hm:X.mg x=Z (.ref C))(d:rT X.K C)(f:X.calm=aD)(R:GQ X E)(i:iA X (e :: es) t)(j:jH X x:=by rfl)(k:(x == ("__debug__":aA))=aK:=by decide)
 (b:cN (e :: es) X.env=(aK,H5 e X.env) :: cN es X.env:=by rfl)(m:(H8 c (cN es X.env)).any (·.1)=aK:=by rfl) :
  kz X (.Raise (Z (.Call (.Name x np) (e :: es) [] c)) aF pos) (SV C E t):=by
 refine⟨?_⟩
 intro U s Y H D I h
 obtain⟨B,N,nm,n,bs,l,sn,sub,ab,u,dd,k0,k1,k2,k3,k5,mN,o,p,r,T⟩:=(d.own I.ok.mod.kin hm).obj
 refine wpAny_Raise_call_subT (C:=C) (N:=N) (nm:=nm) (q:=n) (bs:=bs) (bm:=B) (hdct:=l) (sn:=sn) (sub:=sub) (ab:=ab) (col:=u) (dd:=dd) (k0:=k0) (k1:=k1) (k2:=k2) (k3:=k3) (k5:=k5)
  qG (mN:=mN) (T.hasType qG.hasBase) (I.ok.hd f) ?_ r (qr I j hm ⟨rfl,?_⟩ k)
 ·rw[b]
  show (aK || (H8 c (cN es X.env)).any (·.1))=aK
  rw[m]
  rfl
 ·have g:=i c U s Y H _ I h
  rw[b] at g ⊢
  refine rF (bT g fun us w z'=>?_);obtain⟨vs,H2,a,y,z,q⟩:=z'
  exact⟨rfl,by rw[← y.length];exact z,a.bk _ _ o,p.keeps a.bk,T.keeps a.bk,fun h1 ea A=>R U Y H2 w h1 ea _ _ a A q⟩
end
def rz(X:aX)(U:List (aB×aZ))(Y:St)(E:dG)(e:aE)(L:aJ):Prop:=∃s1 z,Inv X U Y z s1/\li X.prog X.w X.stack z s1 E e L
abbrev zp:=dG->bF
structure wI (X:aX) (e:bI) (t:zp):Prop where
 run:∀(U:List (aB×aZ))(s:aJ)(Y:St)(H:aC)(Q:aP)(E:dG),Inv X U Y H s->t E Y H Q->aU (aW X.prog X.w) X.A (H5 e X.env) (fX X U Y Q) (rz X U Y E) s
instance {X:aX} {e:bI} {t:zp}:CoeFun (wI X e t) λ_=>∀(U:List (aB×aZ))(s:aJ)(Y:St)(H:aC)(Q:aP)(E:dG),Inv X U Y H s->t E Y H Q->aU (aW X.prog X.w) X.A (H5 e X.env) (fX X U Y Q) (rz X U Y E) s:=⟨wI.run⟩
section
variable{X:aX}{k:Nat}{f C:aB}{fd:iK}{ps:L9}{sp:bW}{E:dG}{x m:aA}{p pos i:Pos}{e o:bI}{es:List bI}{M:bF}{t:eZ}
def fX.unwish(h:fX (X.wish F) U Y Q u L):fX X U Y Q u L:=by
 obtain⟨v,H',I,r,q⟩:=h;exact⟨v,H',I.unwish,r,q⟩
def RH(F:hZ X.prog X.w X.K X.mg X.b_ (li X.prog X.w) k f fd ps sp)(c:eI k X.A)(d:lv X.K fd ps [])
 (I:Inv X U Y H s)(r:cA vs us)(h:sp vs H Q E):aU (aW X.prog X.w) X.A (call (.ref f) us) (fX X U Y Q) (rz X U Y E) s:=by
 have j:Inv (X.wish (rz X U Y E)) U Y H s:=I.wish _;have g:(us++[]).length=ps.length:=by rw[lK,←r.length];exact F.len _ _ _ _ h
 have b:=d s us I.kIn g;rw[lK]at b;refine oJ (oG (F.run X.A X.stack s H ⟨us,[]⟩ us vs Q E c I.env0 b r h) λi L a=>?_);cases i with
 |error e=>exact⟨s,H,I,a⟩
 |ok fl=>
  cases fl with
  |ret u=>exact I.after a
  |next=>exact gH a
  |brk=>exact gH a
  |cont=>exact gH a
end
structure p4 (P:bS) (w:bP) (K:bJ) (mg:aA->Option aE) (b_:bH) (k:Nat) (x:aA) (ps:L9) (sp:bW):Prop where
 ex:∃(f:aB)(fd:iK),hZ P w K mg b_ (li P w) k f fd ps sp/\lv K fd ps []/\mg x=Z (.ref f)/\nL K (.ref f)=aD
structure wF (P:bS) (w:bP) (K:bJ) (mg:aA->Option aE) (b_:bH) (k:Nat) (C:aB) (m:aA) (ps:L9) (sp:bW):Prop where
 ex:∃(f:aB)(fd:iK),hZ P w K mg b_ (li P w) k f fd ps sp/\lv K fd ps []/\r4 K C m f
structure XZ (P:bS) (w:bP) (K:bJ) (mg:aA->Option aE) (b_:bH) (k:Nat) (C:aB) (ps:L9) (sp:bW):Prop where
 ex:∃(f:aB)(fd:iK),hZ P w K mg b_ (li P w) k f fd ps sp/\lv K fd ps []/\uc K C f
section
variable{P:bS}{w:bP}{K:bJ}{mg:aA->Option aE}{b_:bH}{C:aB}{x m j:aA}{st:bO}{N ps:L9}{k:Nat}{sp a:bW}
def mT.okX(F:mT K x j st f fd)(S:cB N ps (bM st))(len:∀vs H Q E,sp vs H Q E->vs.length=ps.length)
 (b:∀(a:aE)(A:bX)(o_:List eE)(s:aJ)(H:aC)(vs:M0)(Q:aP)(E:dG),eI k (A.deeper (J1 j (bM st) s.heap.objs.size f a))->sp vs H Q E ->
   ∃t,iB (hG (li P w) P w K mg b_ N j (bM st) f a A o_ s H E) (jZ st) t/\t {nx:=λ_ H'=>Q .non H',rt:=Q} (start N vs) H):hZ P w K mg b_ (li P w) (k+1) f fd ps sp:=by
 obtain⟨g,h,kV,doc,pm,i,a,l,m,rfl,lk,c⟩:=F.ex;exact Ak lk c S len λA o_ s H vs Q E d e=>b a A o_ s H vs Q E d e
def cQ.fcX(D:cQ K mg x st ps)(S:cB N ps (bM st))(len:∀vs H Q E,sp vs H Q E->vs.length=ps.length)
 (c:∀(f:aB)(a:aE)(A:bX)(o_:List eE)(s:aJ)(H:aC)(vs:M0)(Q:aP)(E:dG),eI k (A.deeper (J1 x (bM st) s.heap.objs.size f a))->sp vs H Q E ->
   ∃t,iB (hG (li P w) P w K mg b_ N x (bM st) f a A o_ s H E) (jZ st) t/\t {nx:=λ_ H'=>Q .non H',rt:=Q} (start N vs) H):p4 P w K mg b_ (k+1) x ps sp:=by
 obtain⟨f,fd,F,b,d⟩:=D.ex;exact⟨f,fd,F.okX S len λa A o_ s H vs Q E e h=>c f a A o_ s H vs Q E e h,b,d,F.kp⟩
def MethAt.mcX(D:MethAt K C m j st ps)(S:cB N ps (bM st))(len:∀vs H Q E,sp vs H Q E->vs.length=ps.length)
 (c:∀(f:aB)(a:aE)(A:bX)(o_:List eE)(s:aJ)(H:aC)(vs:M0)(Q:aP)(E:dG),eI k (A.deeper (J1 j (bM st) s.heap.objs.size f a))->sp vs H Q E ->
   ∃t,iB (hG (li P w) P w K mg b_ N j (bM st) f a A o_ s H E) (jZ st) t/\t {nx:=λ_ H'=>Q .non H',rt:=Q} (start N vs) H):wF P w K mg b_ (k+1) C m ps sp:=by
 obtain⟨f,fd,F,b,d⟩:=D.ex;exact⟨f,fd,F.okX S len λa A o_ s H vs Q E e h=>c f a A o_ s H vs Q E e h,b,d⟩
end
section
variable{X:aX}{k:Nat}{C:aB}{ps:L9}{sp:bW}{E:dG}{x m:aA}{p pos i:Pos}{e o:bI}{es:List bI}{M:bF}{t:eZ}
def iA.cat(a:iA X.nox es t)(I:Inv X U Y H s)(h:t Y H Q):aU (aW X.prog X.w) X.A (H7 (H8 pos (cN es X.env))) (tq X U Y Q) F s:=
 fA (a pos U s Y H Q (I.wish _) h) (λ_ _ ⟨vs,H',b,r,q⟩=>⟨vs,H',b.unwish,r,q⟩) λ_ _ c=>gH c
def bL.cat(b:bL X.nox e M)(I:Inv X U Y H s)(h:M Y H Q):aU (aW X.prog X.w) X.A (H5 e X.env) (fX X U Y Q) F s:=
 fA (b U s Y H Q (I.wish _) h) (λ_ _ a=>a.unwish) λ_ _ a=>gH a
def Vr(c:ma X.K C)(F:wF X.prog X.w X.K X.mg X.b_ k C m ps sp)(w:eI k X.A)(x:bL X.nox o M)(A:iA X.nox (e::es) t)
 (B:cN (e::es) X.env=(aK,H5 e X.env)::cN es X.env:=by rfl)(D:(H8 pos (cN es X.env)).any (·.1)=aK:=by rfl)
 (J:H5 (.Call (.Attribute o m i) (e::es) [] pos) X.env=(do
   let d ←H5 o X.env
   standAt i.atName
   let (f,first) ←I0 [d] (oK d m pl)
   q1 pos f first (H8 pos (cN (e::es) X.env)) (mR pos (mO [] X.env))):=by rfl) :
  wI X (.Call (.Attribute o m i) (e::es) [] pos) (λE=>ut C m sp [] E M t):=.mk λU s Y H Q E I h=>by
 obtain⟨f,fd,G,b,g⟩:=F.ex;refine vL (pl:=pl) (bT (x.cat I h) λu s1 z'=>?_) J;obtain⟨y,z,j,L,a,dx,fs,ex,ea,l,q⟩:=z';subst ex;obtain rfl:u=cU a:=L;refine Be j ea c g l (vP (first:=[.ref a]) (h₀:=X.b_) I.ok.mod.kin g.kp (bT (A.cat j q) λus N z'=>?_) B D);obtain⟨vs,H2,n,r,p⟩:=z';refine⟨n.kIn,?_⟩;simp only[Hk,Hj,GB,lK]at p;exact RH (us:=.ref a::us) (vs:=.ref a::vs) G w b n (.cons O r) p
abbrev TB:=dG->dZ
structure wG (X:aX) (body:List bO) (t:TB):Prop where
 run:∀(U:List (aB×aZ))(s:aJ)(Y:St)(H:aC)(D:Ends)(E:dG),Inv X U Y H s->t E D Y H->aU (aW X.prog X.w) X.A (execs body X.env) (md X U D) (rz X U Y E) s
instance {X:aX} {body:List bO} {t:TB}:CoeFun (wG X body t) λ_=>∀(U:List (aB×aZ))(s:aJ)(Y:St)(H:aC)(D:Ends)(E:dG),Inv X U Y H s->t E D Y H->aU (aW X.prog X.w) X.A (execs body X.env) (md X U D) (rz X U Y E) s:=⟨wG.run⟩
def Tr{i:Nat}{t:zp}(a:X.N.Nodup)(hi:X.N[i]?=Z x)(b:Loc X.env.scope x)(c:wI X e t)(d:qZ e (Z (.Name x A)) pos.line X.env=pure aK:=by rfl)(f:X.fn x=aD\/X.env.scope.names.lookup x=Z .local:=by trivial) :
  wG X [.Assign [.Name x A] e pos] (λE=>w2 (t E) (nz i)):=.mk λU s Y H D E I h=>by
 refine za (wpAny_Assign_Name (bT (c U s Y H _ E I h) λv s1 z'=>?_) d);obtain⟨y,z,g,j,k⟩:=z';exact sU g a hi b j (λm l=>rL ⟨_,z,l,k⟩) f
end
noncomputable abbrev aX.held (X:aX) (ea:aB):aX:={X with A:=X.A.mark (Z (.ref ea)),calm:=aK,xe:=λ_ _=>False}
section
variable{X:aX}{U:List (aB×aZ)}{Y:St}{H H':aC}{s L:aJ}{ea:aB}
def aX.Ok.held(a:X.Ok)(ea:aB):(X.held ea).Ok:=
 ⟨a.mod,a.kind,a.glob,a.blt,a.above,a.inj,a.has,a.cab,λb=>B6 b (by simp),a.frames,a.stk,a.exf,a.bs,a.bsz,a.noex,a.exfs,a.funs,a.frf⟩
def Inv.held(I:Inv X U Y H s)(ea:aB):Inv (X.held ea) U Y H s:=⟨I.ok.held ea,I.os,I.bare,I.b_,I.loc,I.cell,I.free,I.freeC,I.pin,I.hok,I.len⟩
def Inv.unheld(a:X.Ok)(I:Inv (X.held ea) U Y H s):Inv X U Y H s:=⟨a,I.os,I.bare,I.b_,I.loc,I.cell,I.free,I.freeC,I.pin,I.hok,I.len⟩
def md.unheld(a:X.Ok)(h:md (X.held ea) U D f L):md X U D f L:=by
 cases f with
 |next=>obtain⟨σ',H',I,q⟩:=h;exact⟨σ',H',I.unheld a,q⟩
 |brk=>obtain⟨σ',H',I,q⟩:=h;exact⟨σ',H',I.unheld a,q⟩
 |cont=>obtain⟨σ',H',I,q⟩:=h;exact⟨σ',H',I.unheld a,q⟩
 |ret u=>obtain⟨v,σ',H',I,r,q⟩:=h;exact⟨v,σ',H',I.unheld a,r,q⟩
end
def Bs(fl:bH.FlyingW B l ea cls d h):qI M h (typeOf (.ref ea)) cls:=by
 obtain⟨c,a,b⟩:=fl.there;subst b;exact(qI.ld a).andThen .now
def VU(a:aB)(cls:aE)(p:Option aB)(h:bH):Prop:=∃o vs,h.get? a=Z o/\o.cls=cls/\o.data=.fields vs/\o.dict=p
noncomputable def Yq(a:aB)(cls:aE)(p:Option aB):cY:=.ext (VU a cls p)
def eJ.new(u:eJ fs ex H H' h h')(n:H' a=aF)(d:h.get? a=aF):eJ fs ex H (aI H' a o) h h' where
 keep:=u.keep
 slot:=u.slot
 free:=λb c e nb f=>by
  rw[bA (λg=>by rw[g,d]at e;cases e)];exact u.free b c e nb f
 there:=u.there
 tups:=λb xs e=>by rw[bA (cX (u.tups b xs e) n)];exact u.tups b xs e
 frzs:=λb c v e=>by rw[bA (cX (u.frzs b c v e) n)];exact u.frzs b c v e
 tbls:=λb ps e=>by
  obtain⟨m,q⟩:=u.tbls b ps e;exact⟨m,by rw[bA (cX q n)];exact q⟩
def dL.new(f:dL P w H h)(n:H a=aF)(new:dQ P w (aI H a o) h a o):dL P w (aI H a o) h:=λb u e=>by
 by_cases d:b=a
 .subst d;rw[aV]at e;cases e;exact new
 .rw[bA d]at e;exact(f b u e).stay (λ_ _ _ q=>q) (λc q=>by rw[bA (cX q n)];exact q) λc xs q=>by rw[bA (cX q n)];exact q
section
variable{X:aX}{C:aB}{x n:aA}{np a1 pos:Pos}{body t:List bO}{E:bO}{tb:TB}{ts:dZ}{i:Nat}
noncomputable def Ends.gone(D:Ends)(i:Nat):Ends:={nx:=λY H=>D.nx (Y.set i aF) H,rt:=D.rt,bk:=λY H=>D.bk (Y.set i aF) H,ct:=λY H=>D.ct (Y.set i aF) H}
end
section
open PySem.W PySem.Calls PySem.Builtin PySem.Builtin.ObjectAttr PySem.Builtin.Getset_descriptor
variable{prog:bS}{w:bP}{A:bX}{E:aE->aJ->Prop}{s:aJ}{K:bJ}{x C:aB}
end
structure BR (K:bJ) (C:aB):Prop where
 ex:rT K C
 em:tQ K (.ref C) (.ref C)=Z aD
structure XX (K:bJ) (C:aB):Prop extends BR K C where
 pg:tJ K C "__class__"=aD
 ic:wC K C
section
open PySem.W PySem.Calls PySem.Builtin PySem.Builtin.ObjectAttr PySem.Builtin.Getset_descriptor
variable{prog:bS}{w:bP}{A:bX}{E:aE->aJ->Prop}{s:aJ}{K:bJ}{x C:aB}
end
structure BS (K:bJ) (C:aB):Prop extends BR K C where
 ga:lh K (.ref C) "__getattribute__"=Z (Z (.builtin "BaseException.__getattribute__"))
 gt:lh K (.ref C) "__getattr__"=Z aF
 mb:PySem.W.mroIn K C (.type "BaseException")=Z aD
 ic:wC K C
section
variable{X:aX}{k:Nat}{ps:L9}{sp:bW}{x:aA}{p pos:Pos}{e:bI}{es:List bI}{t:eZ}{E:dG}
def Ai(F:p4 X.prog X.w X.K X.mg X.b_ k x ps sp)(a:eI k X.A)(c:pF (li X.prog X.w) X E)(d:iA X (e :: es) t)(g:jH X x:=by rfl)(h:(x == ("__debug__":aA))=aK:=by decide)
 (i:cN (e :: es) X.env=(aK,H5 e X.env) :: cN es X.env:=by rfl)(j:(H8 pos (cN es X.env)).any (·.1)=aK:=by rfl):bL X (.Call (.Name x p) (e :: es) [] pos) (Ab sp [] E t):=by
 obtain⟨f,fd,G,b,m,kp⟩:=F.ex
 exact Fl G a g m kp b .nil c d h i j
end
section
variable{prog:bS}{w:bP}{A:bX}{E:aE->aJ->Prop}{h:bH}{g:Array nR}{d:Drawn}{t:Nat}{os:OsState}{nm q:aA}{C N:aB}{bs bm H:M4}{l:Bool}{sn:L9}{sub:M4}{ab:Bool}{u:Option Bool}{dd:Option aB}{k0 k1 k2 k3 k5:Option aE}{B n y:String}
def XE(F:ExcBaseFacts B n y H){rest:M4}{Q:PySem.Fin->aJ->Prop}(a:h.get? C=Z (rZ nm q C N bs bm l sn sub ab u dd k0 k1 k2 k3 k5 n))(T:OwnTail h H bm)
 (hi:qI (aW prog w) h (r0 (.ref C) (qV "__init__")) (Z (.ref fI)))(j:h.get? fI=Z f)(k:f.cls=.type "function")(p:rest.length<=cP)
 (s:∀h' e,h.MadeExcOf h' e (.ref C) rest->aU (aW prog w) A (call (.ref fI) (.ref e::rest)) (λr L=>r=.none/\Q (.done (.ret (.ref e))) L) E {heap:=h',gens:=g,drawn:=d,toks:=t,os:=os}) :
  aU (aW prog w) A (Builtin.«type.__call__» {pos:=.ref C::rest}) Q E {heap:=h,gens:=g,drawn:=d,toks:=t,os:=os}:=by
 unfold Builtin.«type.__call__»;dsimp only;refine iR (by simp) ?_;unfold mroOf classData;refine aO (aO (aO (wpAny_load' a (bN (bN (iR (by simp) (aO (wpAny_madeBy_exc a ?_))))))));dsimp only;refine aO (bN (aO (jO (oJ (codeAny_call_builtin_code (yT _ F.quiet) (wpAny_check_new_subT F T a (codeAny_exc_new_subT F T a ?_ p)))))));dsimp only;have m:h.MadeExcOf ((h.push {cls:=.type "tuple",data:=.seq rest.toArray}).push {cls:=.ref C,data:=.fields #[.ref h.objs.size,.none,.none,.none,.bool aK,.none]}) (h.objs.size+1) (.ref C) rest:=⟨λb o e=>cZ _ (cZ _ e),vO (nO _),h.objs.size,bH.get?_push_at (by rw[qR]) O,vO (bQ _),cZ _ (bH.get?_push_at O O)⟩
 generalize D:(h.push {cls:=.type "tuple",data:=.seq rest.toArray}).push {cls:=.ref C,data:=.fields #[.ref h.objs.size,.none,.none,.none,.bool aK,.none]}=h' at m ⊢;have x:=m.keeps _ _ a;have z:=m.keeps _ _ j;have G:=T.keeps m.keeps;obtain⟨I,i,_,_⟩:=m.there;unfold isInstance;refine aO (aO (aO (o5 i (bN (vY x (iR (by simp) (aO (jO ?_))))))));unfold callSpecial? specialOf;refine aO (aO (aO (o5 i (bN (hi _ _ _ _ m.keeps ?_)))));dsimp only;refine jO ?_;unfold bindSpecial;refine aO (aO (aO (o5 z (bN ?_))));rw[k];refine rO (by simp) (bN ?_);dsimp only;refine aO (fA (s _ _ m) (λr L c=>?_) λ_ _ c=>c);obtain⟨rfl,c⟩:=c;exact bN (iR (by simp) (bN c))
def OP(F:ExcBaseFacts B n y H){rest:M4}{Q:aE->aJ->Prop}(a:h.get? C=Z (rZ nm q C N bs bm l sn sub ab u dd k0 k1 k2 k3 k5 n))(T:OwnTail h H bm)
 (hi:qI (aW prog w) h (r0 (.ref C) (qV "__init__")) (Z (.ref fI)))(c:h.get? fI=Z b)(f:b.cls=.type "function")(i:rest.length<=cP)
 (j:∀h' e,h.MadeExcOf h' e (.ref C) rest->aU (aW prog w) (A.under (.builtin "type.__call__" {pos:=.ref C::rest})) (call (.ref fI) (.ref e::rest)) (λr L=>r=.none/\Q (.ref e) L) E {heap:=h',gens:=g,drawn:=d,toks:=t,os:=os}) :
  aU (aW prog w) A (call (.ref C) rest) Q E {heap:=h,gens:=g,drawn:=d,toks:=t,os:=os}:=by
 refine oJ (codeAny_of_tree ?_);show aU _ _ (K6 (.ref C) {pos:=rest}) _ _ _;unfold K6;refine aO (wpAny_load' a ?_);show aU _ _ (K6.viaDunder (.ref C) {pos:=rest}) _ _ _;unfold K6.viaDunder;refine aO (tT (T:="type") ⟨_,a,O⟩ tc_lookup ?_);dsimp only;refine aO (mw (tc_bind _) ?_);dsimp only;exact aO (bN (rO O (bN ⟨O,codeAny_call_builtin_at (yT _ YS) entry_typeCall (wpAny_check_type_call_sub a (XE F a T hi c f i j))⟩)))
variable{P:bS}{s:aJ}{env:eE}
def MU(m:bm.contains (.type "BaseException")=aD)(o:A.handled=aF)
 (p:aU (aW P w) A x (λv a=>∃e oe vs,v=.ref e/\a.heap.get? C=Z (rZ nm q C N bs bm l sn sub ab u dd k0 k1 k2 k3 k5 n) /\
   a.heap.get? e=Z oe/\oe.cls=.ref C/\oe.data=.fields vs/\vs[1]?=Z .none/\E (.ref e) a) E s) :
  aU (aW P w) A (raiseStmt env (Z x) aF) Q E s:=by
 have r:(cU C::bm).contains (.type "BaseException")=aD:=by rw[List.contains_cons,m,wt]
 unfold raiseStmt;refine aO (fA p (λv a h₁=>?_) λ_ _ x=>x);obtain⟨e,oe,vs,rfl,f,h,t,y,h1,z⟩:=h₁;refine aO (bN (aO (jO ?_)));obtain⟨c,dx,J,M⟩:=oe;cases t;cases y;have B:aU (aW P w) A (excFromValue (.ref e) "exceptions must derive from BaseException") (λv L=>v=.ref e/\L=a) E a:=by
  unfold excFromValue;obtain⟨k,g,d,tk,os⟩:=a
  repeat (first|exact⟨O,O⟩|with_reducible refine o5 h ?_|with_reducible refine o5 f ?_|(with_reducible refine vY f ?_;rw[r])|wp_step)
 refine fA B (λv L i=>?_) λ_ _ x=>x;obtain⟨rfl,rfl⟩:=i;have D:aU (aW P w) A (L1 (.ref e) aF>>=λ_=>(raiseNew (.ref e):Sem Flow)) Q E L:=by
  refine aO ?_;unfold L1;refine aO (oI h O h1 ?_);rw[B3 YR];refine bN ?_;unfold raiseNew;refine aO (wpAny_handled ?_);rw[o];exact wpAny_throw z
 have G:aU (aW P w) A (isType (.ref e)) (λb j=>b=aK/\j=L) E L:=by
  obtain⟨k,g,d,tk,os⟩:=L
  repeat (first|exact⟨O,O⟩|with_reducible refine o5 h ?_|with_reducible refine o5 f ?_|(with_reducible refine vY f ?_)|wp_step)
 have H:aU (aW P w) A (raisedInstance (.ref e)) (λv j=>v=.ref e/\j=L) E L:=by
  obtain⟨k,g,d,tk,os⟩:=L;unfold raisedInstance
  repeat (first|exact⟨O,O⟩|with_reducible refine o5 h ?_|with_reducible refine o5 f ?_|(with_reducible refine vY f ?_)|wp_step)
 dsimp only;refine aO (fA G (λb T I=>?_) λ_ _ x=>x);obtain⟨rfl,rfl⟩:=I;rw[B3 fQ];refine aO (fA H (λv U i=>?_) λ_ _ x=>x);obtain⟨rfl,rfl⟩:=i;exact D
def OU(F:ExcBaseFacts B n y H){x:aA}{args:List bI}{Q:Flow->aJ->Prop}
 (p:bm.contains (.type "BaseException")=aD)(t:A.handled=aF)(z:(H8 c (cN args env)).any (·.1)=aK)
 (D:aU (aW P w) A (H5 (.Name x np) env) (λf k=>f=.ref C/\aU (aW P w) A (evalArgs (.ref C) aD (H8 c (cN args env)) [])
   (λa b=>a.kw=[]/\a.pos.length<=cP/\b.heap.get? C=Z (rZ nm q C N bs bm l sn sub ab u dd k0 k1 k2 k3 k5 n)/\qI (aW P w) b.heap (r0 (.ref C) (qV "__init__")) (Z (.ref fI))/\OwnTail b.heap H bm/\(∃h,b.heap.get? fI=Z h/\h.cls=.type "function") /\
    ∀h' e,b.heap.MadeExcOf h' e (.ref C) a.pos->aU (aW P w) (A.under (.builtin "type.__call__" {pos:=.ref C::a.pos})) (call (.ref fI) (.ref e::a.pos)) (λr L=>r=.none/\L.heap.get? C=Z (rZ nm q C N bs bm l sn sub ab u dd k0 k1 k2 k3 k5 n)/\(∃oe vs,L.heap.get? e=Z oe/\oe.cls=.ref C/\oe.data=.fields vs/\vs[1]?=Z .none)/\E (.ref e) L) E {b with heap:=h'}) E k) E s) :
  aU (aW P w) A (exec (.Raise (Z (.Call (.Name x np) args [] c)) aF pos) env) Q E s:=by
 rw[arm_exec_Raise];simp only[evalOpt,Option.map];refine aO (pY (MU (C:=C) (nm:=nm) (q:=q) (N:=N) (bs:=bs) (bm:=bm) (l:=l) (sn:=sn) (sub:=sub) (ab:=ab) (u:=u) (dd:=dd) (k0:=k0) (k1:=k1) (k2:=k2) (k3:=k3) (k5:=k5) (n:=n) p t (aO (fA (wpAny_Call_ofName (fA D (λf k h₁=>?_) λ_ _ x=>x)) (λv a6 G=>aO (pY (bN G))) λ_ _ x=>x))));obtain⟨rfl,h₁⟩:=h₁;unfold q1;refine aO (jO (fA h₁ (λa b j=>aO (pY ?_)) λ_ _ x=>x));obtain⟨i,I⟩:=a;obtain⟨J,M,m,U,T,⟨h,Y,a0⟩,j⟩:=j;obtain rfl:I=[]:=J;obtain⟨a7,g,d,tk,os⟩:=b;simp only[z];refine aO (wpAny_keeperOf_exc m (aO (OP F m T U Y a0 M λh' e hm=>fA (j h' e hm) (λr L o=>⟨o.1,?_⟩) λ_ _ x=>x)));obtain⟨_,a1,⟨oe,vs,a2,a3,a4,h1⟩,a5⟩:=o;exact aO (jO (wpAny_point (bN ⟨e,oe,vs,O,a1,a2,a3,a4,h1,a5⟩)))
end
end L2
namespace L2
open PySem PySem.Spec PyProof.Rows PySem.W
section
variable{prog:bS}{w:bP}{A:bX}{E:aE->aJ->Prop}{s:aJ}{K:L7}{D:aB}
def Nb(X:K.In s.heap)(a:Looks (aW prog w) s.heap (typeOf (.ref D)) (.type "type"))(f:L8 K (.ref D) "__init__"=Z (Z (.builtin "ValueError.__init__")))(op:nsIn K cStatics "thirdparty.any"=Z aF)
 (h:Q (.builtin "ValueError.__init__",[]) {s with toks:=s.toks+1}):aU (aW prog w) A (oK (.ref D) "__init__" pl) Q E s:=by
 have d:=pZ (M:=aW prog w) (t:=.type "type") (name:="__getattribute__") (r:=Z (.builtin "type.__getattribute__")) X (by show t6 "type" "__getattribute__"=_;decide +kernel);have g:=pZ (M:=aW prog w) (t:=.type "type") (name:="__init__") (r:=Z (.builtin "type.__init__")) X (by show t6 "type" "__init__"=_;decide +kernel);have i:=pZ (M:=aW prog w) (t:=.type "wrapper_descriptor") (name:="__get__") (r:=Z (.builtin "wrapper_descriptor.__get__")) X (by show t6 "wrapper_descriptor" "__get__"=_;decide +kernel);have j:=pZ (M:=aW prog w) (t:=.type "wrapper_descriptor") (name:="__set__") (r:=aF) X (by show t6 "wrapper_descriptor" "__set__"=_;decide +kernel);have k:=pZ (M:=aW prog w) (t:=.type "wrapper_descriptor") (name:="__delete__") (r:=aF) X (by show t6 "wrapper_descriptor" "__delete__"=_;decide +kernel);have l:=pZ (M:=aW prog w) X f;have m:=looks_nsIn (M:=aW prog w) X op;obtain⟨h2,p,q,e,u⟩:=s;unfold oK specialOf;refine aO (aO (a.at (d.at ?_)));dsimp only;refine rO YS ?_;unfold getAttr getAttrBy;refine aO (aO (wpAny_mkText (jO (aO (a.at (aO (d.at ?_)))))));dsimp only;refine iR YS ?_;unfold getAttrByItsOwn hookBefore;refine aO (iR YS (bN (aO (wy (jO ?_)))));show aU _ _ (boundAndCalled _ _ _) _ _ _;unfold boundAndCalled;refine aO (mw (show bindSpecial (.builtin "type.__getattribute__") (.ref D)=pure (.builtin "type.__getattribute__",[.ref D]) from ?_) ?_)
 .rfl
 show aU _ _ (call (.builtin "type.__getattribute__") [.ref D,.str "__init__" e]) _ _ _;refine oJ (vT YS (b:=Builtin.«type.__getattribute__») (entryFor_of_fast (by kernel_rfl)) ?_);have n:builtinKind "type.__getattribute__"=Z .slot:=YS;have o:splitId "type.__getattribute__"=Z ("type","__getattribute__"):=YS;simp only[checkBuiltinCall,n,o];refine aO ?_;unfold isInstance;refine aO (a.at (mw tc_sub ?_));rw[B3 YR];refine mw (show argsOk "type.__getattribute__" {pos:=[.ref D,.str "__init__" e]} from by kernel_rfl) ?_;unfold Builtin.«type.__getattribute__»;refine aO (bN ?_);unfold opaqueClassAbove anyOpaqueLoaded;refine aO (aO (aO (m.at (bN (rO O (bN (aO (a.at (aO (g.at ?_))))))))));dsimp only;have c:typeOf (.builtin "type.__init__")=pure (.type "wrapper_descriptor"):=by kernel_rfl
 have tv:typeOf (.builtin "ValueError.__init__")=pure (.type "wrapper_descriptor"):=by kernel_rfl
 unfold specialOf;refine aO (aO (mw c (i.at ?_)));dsimp only;refine aO (aO (mw c (j.at (iR YR (aO (aO (mw c (k.at (aO (bN (iR YR (aO (l.at ?_)))))))))))));dsimp only;refine iR YS (aO (mw tv (rO YS (bN ?_))));dsimp only;exact handed_on YS (bN h)
end
noncomputable def tm(K:L7)(C:aB):Bool:=match mL C K with
 |some {cls:=.type "type",dict:=_,data:=.cls cd,slots:=a}=>match cd.mro,a.toList with
  |.ref b::bm,[_,_,_,_,Z (.builtin n),_]=>b==C&&n == "ValueError.__new__" && !cd.hasDel&&tailIn K pI bm
  |_,_=>aK
 |_=>aK
def EJ{K:L7}{C:aB}{h:bH}(q:tm K C=aD)(X:K.In h):∃(B:M4)(N:aB)(nm j:aA)(bs:M4)(l:Bool)(sn:L9)(sub:M4)(ab:Bool)(u:Option Bool)(dd:Option aB)(k0 k1 k2 k3 k5:Option aE),
  h.get? C=Z (rZ nm j C N bs B l sn sub ab u dd k0 k1 k2 k3 k5 "ValueError.__new__")/\OwnTail h pI B:=by
 unfold tm at q;split at q
 .rename_i k m n o;split at q
  .rename_i C2 B d a b c p e em es;have f:=iJ.mp q;have g:=iJ.mp f.1;have i:=iJ.mp g.1;obtain rfl:C2=C:=C0.mp i.1;obtain rfl:p="ValueError.__new__":=C0.mp i.2;obtain⟨r,s,t,w,x,A,D,E,G,H,y⟩:=m;obtain rfl:t=.ref C2::B:=em;obtain rfl:y=aK:=by simpa using g.2
   obtain⟨z⟩:=n;obtain rfl:z=[d,a,b,c,Z (.builtin "ValueError.__new__"),e]:=es;exact⟨B,w,r,x,s,_,_,_,_,_,k,d,a,b,c,e,X _ _ o,PySem.W.tail_of_in X f.2⟩
  .cases q
 .cases q
section
variable{P:bS}{w:bP}{A:bX}{E:aE->aJ->Prop}{s:aJ}{K:L7}{C e:aB}{oe:aZ}{vs:Array aE}
def OQ{Q:aE->aJ->Prop}(q:tm K C=aD)(X:K.In s.heap)(i:s.heap.get? e=Z oe)(cl:oe.cls=.ref C)(f:oe.data=.fields vs)(j:0<vs.size)
 (n:∀h',(∀b o,b≠e->s.heap.get? b=Z o->h'.get? b=Z o)->(∃t,h'.get? e=Z (l9 (·.setIfInBounds 0 (.ref t)) oe))->Q .none {s with heap:=h'}):aU (aW P w) A (call (.builtin "ValueError.__init__") [.ref e,v]) Q E s:=by
 obtain⟨B,N,nm,z,bs,l,sn,sub,ab,u,dd,k0,k1,k2,k3,k5,p,T⟩:=EJ q X;obtain⟨a,g,d,tk,os⟩:=s;refine oJ (vT qG.init.plain qG.initEntry (wpAny_check_init_subT qG T p i cl ?_));unfold Builtin.«BaseException.__init__»;dsimp only;refine iR (by simp) ?_;unfold newTuple;refine aO (nI ?_ (show sizeOk (.seq [v].toArray) from by unfold sizeOk;first|decide|(simp[cP])));generalize D:({cls:=.type "tuple",dict:=aF,data:=.seq [v].toArray}:aZ)=c;have h:(a.push c).get? e=Z oe:=cZ c i;have r:=qK f (·.setIfInBounds 0 (cU a.objs.size));have x:=pQ (l9 (·.setIfInBounds 0 (cU a.objs.size))) h (tz r);unfold Builtin.BaseException.bexcPut;have k:∀b o,b≠e->a.get? b=Z o->((a.push c).update e (l9 (·.setIfInBounds 0 (cU a.objs.size)))).get? b=Z o:=λb o y q=>(lU _ _ (D4 y)).trans (cZ c q);refine aO (aO (oI h f (vB j) (aO (rN h f j ?_))));have m:=n _ k ⟨_,x⟩;split
 .exact wpAny_letGo (bN m)
 .exact bN (bN m)
end
noncomputable def kF(a:aB)(cls:aE)(p:Option aB):cY:=.ext λh=>∃o vs,h.get? a=Z o/\o.cls=cls/\o.data=.fields vs/\0<vs.size/\vs[1]?=Z .none/\o.dict=p
def SQ(e:H a=Z o):aI H a o=H:=by
 funext b
 unfold aI;split
 .rename_i q;rw[q,e]
 .rfl
def Tc(K:L7)(t:eZ):bF:=λY H Q=>t Y H λvs z=>∃ea v C p,vs=[.ref ea,v]/\z ea=Z (kF ea (.ref C) p)/\tm K C=aD/\Q .non z
section
variable{X:aX}{x:aA}{D:aB}{np i pos:Pos}{e:bI}{es:List bI}{t:eZ}
def QA(hm:X.mg x=Z (.ref D))(z:rT X.K D)(A:L8 X.K (.ref D) "__init__"=Z (Z (.builtin "ValueError.__init__")))(op:nsIn X.K cStatics "thirdparty.any"=Z aF)(E:iA X (e :: es) t)(G:jH X x:=by rfl)(J:(x == ("__debug__":aA))=aK:=by decide)
 (d:cN (e :: es) X.env=(aK,H5 e X.env) :: cN es X.env:=by rfl)(L:(H8 pos (cN es X.env)).any (·.1)=aK:=by rfl)
 (M:H5 (.Call (.Attribute (.Name x np) "__init__" i) (e :: es) [] pos) X.env=(do
   let j ← H5 (.Name x np) X.env
   standAt i.atName
   let (f,first) ← I0 [j] (oK j "__init__" pl)
   q1 pos f first (H8 pos (cN (e :: es) X.env)) (mR pos (mO [] X.env))):=by rfl) :
  bL X (.Call (.Attribute (.Name x np) "__init__" i) (e :: es) [] pos) (Tc X.K t):=by
 refine⟨?_⟩
 intro U s Y H Q I h
 obtain⟨B,N,nm,ac,bs,l,sn,sub,ab,u,dd,k0,k1,k2,k3,k5,mN,a0,ae,af,T⟩:=(z.own I.ok.mod.kin hm).obj
 refine vL (pl:=pl) (qr I G hm ?_ J) M
 refine Nb I.kIn ((qI.ld (I.bk _ _ a0)).andThen .now) A op ?_
 have a1:=I.tok (s.toks+1)
 refine rC ?_ ?_
 ·rw[d]
  show (aK || (H8 pos (cN es X.env)).any (·.1))=aK
  rw[L]
  rfl
 ·have g:=E pos U _ Y H _ a1 h
  rw[d] at g ⊢
  refine rF (bT g fun us m z'=>?_);obtain⟨vs,H2,a,a2,ea,v,C,p,ev,b,q,a3⟩:=z'
  subst ev
  obtain⟨ag,ah,rfl,a4,ai⟩:=cA.two a2
  cases a4
  obtain⟨⟨o,ws,a5,n,r,w,a6,a7⟩,_,_⟩:=(show dQ X.prog X.w H2 m.heap ea (kF ea (.ref C) p) from a.hok ea _ b)
  refine OQ q a.kIn a5 n r w fun h' k z'=>?_;obtain⟨t,c⟩:=z';refine⟨.non,H2,?_,rfl,a3⟩
  have y:=a.write (x:=ea) (e:=ea) (o:=kF ea (.ref C) p) (t':=m.toks) (h':=h') (by rw[b];trivial) (.inl rfl) k ⟨_,c⟩ ⟨⟨_,_,c,(yZ _ _).trans n,qK r _,by simpa using w,by rw[Array.getElem?_setIfInBounds_ne (by decide)];exact a6,(IY _ _).trans a7⟩,⟨_,c⟩,fun h1 aj ⟨o,vs,a8,a9,aa⟩ k=>⟨o,vs,k o a8,a9,aa⟩⟩
  rw[SQ b] at y
  exact y
end
noncomputable def tj(K:L7)(C D:aB):Bool:=match clsIn K C with
 |some cd=>cd.mro==.ref C::.ref D::pI&&cd.hasDict
 |none=>aK
section
variable{P:bS}{w:bP}{A:bX}{E:aE->aJ->Prop}{s:aJ}{K:L7}{C D e:aB}{oe:aZ}{vs:Array aE}{f:aA}
def Pr(X:K.In s.heap)(m:tj K C D=aD)(a:s.heap.get? e=Z oe)(cl:oe.cls=.ref C)(h:Q () s):aU (aW P w) A (Builtin.ObjectAttr.refuseIfOverridden (.ref e) "__setattr__") Q E s:=by
 unfold tj at m;split at m
 .rename_i cd b;have c:=iJ.mp m;have d:cd.mro=.ref C::.ref D::pI:=by simpa using c.1
  unfold Builtin.ObjectAttr.refuseIfOverridden;refine aO (aO (tV a (bN ?_)));rw[cl];refine aO (aO (yB (yI X b) (bN ?_)));rw[d];have f:classOwn (.type "ValueError") "__setattr__"=pure aF:=by kernel_rfl
  have g:classOwn (.type "Exception") "__setattr__"=pure aF:=by kernel_rfl
  have i:classOwn (.type "BaseException") "__setattr__"=pure aF:=by kernel_rfl
  have j:classOwn (.type "object") "__setattr__"=pure (Z (.builtin "object.__setattr__")):=by kernel_rfl
  unfold pI;simp only[wh,List.forIn_nil];exact aO (aO (bN (aO (bN (aO (iR YR (iR YR (aO (mw f (iR YR (bN (aO (iR YR (iR YR (aO (mw g (iR YR (bN (aO (iR YR (iR YR (aO (mw i (iR YR (bN (aO (iR YR (iR YR (aO (mw j (rO YR (iR YS (bN (bN (bN h)))))))))))))))))))))))))))))))))))
 .cases m
noncomputable def rx(d:aB)(f:aA)(v:V):cY:=.ext λh=>∃T u,h.Ns1 d T/\cE v u/\T f=Z u
def RG(X:K.In s.heap)(m:tj K C D=aD)(x:L8 K (.ref C) "__setattr__"=Z (Z (.builtin "object.__setattr__")))(B:L8 K (.ref C) f=Z aF)(c:s.heap.get? e=Z oe)(cl:oe.cls=.ref C)(k:oe.data=.fields vs)(l:oe.dict=aF)
 (h:∀h' d,s.heap.objs.size<=d->(∀b o,b≠e->s.heap.get? b=Z o->h'.get? b=Z o)->h'.get? e=Z {oe with dict:=Z d}->h'.Ns1 d (λy=>if y=f then Z v else aF)->Q () {s with heap:=h',toks:=s.toks+2}) :
  aU (aW P w) A (setAttr (.ref e) f v) Q E s:=by
 have G:=pZ (M:=aW P w) X B;have H:InstAt s.heap e oe C aF:=⟨c,cl,by unfold notCls;rw[k],by rw[l];trivial⟩
 refine PySem.W.set_plain X H x (vT YS (b:=Builtin.«object.__setattr__») (entryFor_of_fast (by kernel_rfl)) ?_);have I:builtinKind "object.__setattr__"=Z .slot:=YS;have J:splitId "object.__setattr__"=Z ("object","__setattr__"):=YS;simp only[checkBuiltinCall,I,J];have L:∃cd,clsIn K C=Z cd/\cd.mro=.ref C::.ref D::pI/\cd.hasDict=aD:=by
  have i:=m;unfold tj at i;split at i
  .rename_i cd j;have n:=iJ.mp i;exact⟨cd,j,by simpa using n.1,n.2⟩
  .cases i
 obtain⟨cd,j,N,T⟩:=L;have U:=looks_mroIn (M:=aW P w) (C:=C) (base:=.type "object") (r:=aD) X (by unfold mroIn;rw[j];simp[N,pI]);refine aO ?_;unfold isInstance;refine aO (aO (tV c (bN ?_)));rw[cl];refine U.at (iR YR (mw (show argsOk "object.__setattr__" {pos:=[.ref e,.str f s.toks,v]} from by kernel_rfl) ?_));unfold Builtin.«object.__setattr__»;refine iR (by simp) (aO (Pr X m c cl (aO (bN (aO (aO (tV c (bN ?_))))))));rw[cl];refine aO (G.at (aO (bN ?_)));dsimp only;unfold Builtin.ObjectAttr.storeInOwnDict;refine aO (bN (iR (by simp) ?_));unfold Builtin.ObjectAttr.ownDictForStores instanceDict;refine aO (aO (tV c ?_));rw[cl];dsimp only;refine aO (yB (yI X j) ?_);rw[T,l];refine iR YR ?_;dsimp only;refine iR (by simp[typeHasDict]) ?_;rw[k];dsimp only;obtain⟨a,g,a8,tk,os⟩:=s;refine aO (wpAny_alloc' ?_);have p:(a.push {cls:=.type "dict",data:=.dict #[]}).get? e=Z oe:=cZ _ c;have lt:e<a.objs.size:=cW c;have Y:=pQ (λo:aZ=>{o with dict:=Z a.objs.size}) p (by
  show aZ.isFreed {oe with dict:=Z a.objs.size}=aK;exact tz (vs:=vs) k)
 have a0:(a.push {cls:=.type "dict",data:=.dict #[]}).Ns1 a.objs.size λ_=>aF:=.of_empty ⟨_,_,_,fP _ O,O,by unfold StrKeys;simp,λ_=>O⟩;have a1:((a.push {cls:=.type "dict",data:=.dict #[]}).update e λo=>{o with dict:=Z a.objs.size}).Ns1 a.objs.size λ_=>aF:=a0.at λo q=>(lU _ _ (dC lt)).trans q;refine aO (wpAny_update' p (bN ?_));dsimp only;unfold Builtin.ObjectAttr.storeInDict;refine aO (bN (aO (wpAny_nsSet1 a1 λh' t u=>?_)));have a2:=t;obtain⟨a9,aa,ac,a3,a4,a5⟩:=t.count (tX.cons f v (ns:=[]) λy a6=>B6 O a6);refine aO (wpAny_lookBehind a3 (by rw[a4];exact pastItsLine_dict (dN a5 (by rw[fW];decide))) (bN (h h' a.objs.size (bQ _) (λb o a7 q=>?_) ((u.2 e (dC lt)).trans Y) a2)));refine(u.2 b (λz=>?_)).trans ((lU _ _ (D4 a7)).trans (cZ _ q));exact B6 (cW q) (by rw[z];exact oF _)
end
def Uw(K:L7)(M tv:bF)(f:aA):dZ:=λD Y H=>tv Y H λy z=>M Y z λx H2=>∃(e C a:aB),x=.ref e/\H2 e=Z (kF e (.ref C) aF)/\tj K C a=aD/\L8 K (.ref C) "__setattr__"=Z (Z (.builtin "object.__setattr__"))/\L8 K (.ref C) f=Z aF /\
 ∀d,H2 d=aF->d≠e->D.nx Y (aI (aI H2 e (kF e (.ref C) (Z d))) d (rx d f y))
section
variable{X:aX}{o value:bI}{f:aA}{pos A:Pos}{M tv:bF}
def RM(B:bL X o M)(E:bL X value tv)(G:qZ value (Z (.Attribute o f A)) pos.line X.env=pure aK):kz X (.Assign [.Attribute o f A] value pos) (Uw X.K M tv f):=.mk λU s Y H D I h=>by
 refine I7 (bT (E U s Y H _ I h) λu s1 z'=>?_) G;obtain⟨y,z,J,L,q⟩:=z';refine bT (B U s1 Y z _ J q) λN l z'=>?_;obtain⟨x,H2,b,Q,e,C,ai,ex,c,m,a0,a1,a2⟩:=z';subst ex;obtain rfl:N=cU e:=Q;obtain⟨⟨oe,vs,a3,n,p,a4,a5,a6⟩,_,_⟩:=(show dQ X.prog X.w H2 l.heap e (kF e (.ref C) aF) from b.hok e _ c)
 refine RG b.kIn m a0 a1 a3 n p a6 λh' d ld k g r=>⟨Y,_,?_,a2 d (b.hok.fresh ld) ?_⟩
 .have i:H2 d=aF:=b.hok.fresh ld;have t:d≠e:=λj=>by rw[j,c]at i;cases i
  have w:r6 (H2 e):=by rw[c];trivial
  have ok1:dQ X.prog X.w (aI H2 e (kF e (.ref C) (Z d))) h' e (kF e (.ref C) (Z d)):=⟨⟨_,vs,g,n,p,a4,a5,O⟩,⟨_,g⟩,λh1 a7 ⟨o,vs,a8,a9,aa⟩ k=>⟨o,vs,k o a8,a9,aa⟩⟩
  have ac:eJ X.fs [] H2 (aI H2 e (kF e (.ref C) (Z d))) l.heap h':=eJ.write w YU k ⟨_,g⟩;have k1:dL X.prog X.w (aI H2 e (kF e (.ref C) (Z d))) h':=b.hok.write w YU k ⟨_,g⟩ ok1;refine b.un (ac.new (by rw[bA t];exact i) (vO ld)) (dL.new k1 (by rw[bA t];exact i) ?_);obtain⟨ae,_,_,af,_⟩:=id r;exact⟨⟨_,u,r,L,B4 O⟩,⟨ae,af⟩,λh1 a7 ⟨T,u,ag,ah⟩ k=>⟨T,u,ag.at k,ah⟩⟩
 .exact λj=>by
   have:=b.hok.fresh (a:=d) ld;rw[j,c]at this;cases this
end
section
variable{M:Model}{A:bX}{E:aE->aJ->Prop}{s:aJ}{b_:bH}{env:eE}{o_:List eE}{L e:aB}{d:aE}{p:Option aB}{oe:aZ}{vs:Array aE}
def UK(f:A.frames=Z (env::o_))(a:env.frame=Z L)(g:b_.StaysIn s.heap)(h:b_.get? e=aF)(i:s.heap.FunFrames b_ (env::o_))(b:s.heap.get? e=Z oe)(c:oe.data=.fields vs)(j:vs[0]?=Z d)(h1:vs[1]?=Z .none)(k:oe.dict=p)
 (l:∀h',mI b_ o_ e oe.cls d p .none h'->s.heap.UpToSlots h'->Q () {s with heap:=h'}):aU M A (leaving env (.ref e)) Q E s:=by
 unfold leaving K3;simp only[a];refine aO (aO (oI b c h1 ?_));rw[B3 YR];refine zN f i a b g h c (vz.mp h1).1 j k λh1 m n=>sY (fr:=aF) (s:={s with heap:=h1}) m λh2 o q=>?_;obtain⟨D,p2,⟨_,_,r⟩,t⟩:=o;exact l h2 ⟨D,p2,r,t⟩ (n.trans q)
end
def FQ(X:aX)(E:dG):Prop:=∀(U:List (aB×aZ))(Y:St)(H a:aC)(s L:aJ)(e:aB)(oe:aZ)(vs:Array aE),Inv X U Y H s->L.os=s.os->H1 L.gens->eJ (gL X.stack) [] H a s.heap L.heap->dL X.prog X.w a L.heap->s.heap.get? e=aF->a e=aF->L.heap.get? e=Z oe->oe.data=.fields vs->0<vs.size->vs[1]?=Z .none->E oe.cls oe.dict a->X.xe (.ref e) L
section
variable{P:bS}{w:bP}{K:L7}{mg:aA->Option aE}{b_:bH}{N:L9}{j:aA}{scope:kA}{f:aB}{cd:aE}{A:bX}{o_:List eE}{s:aJ}{H:aC}{E:dG}
def Oh:FQ (hG (li P w) P w K mg b_ N j scope f cd A o_ s H E) E:=by
 intro U Y z C s1 L e oe vs I os bare u d i k l m p h1 q;have g:=I.call' (L:=L) (ch:=[]) os u d bare λb a=>B6 a (by simp);have S:L.heap.FunFrames b_ (J1 j scope s.heap.objs.size f cd::o_):=g.stack;have t:∀v∈J1 j scope s.heap.objs.size f cd::o_,∀b,v.frame=Z b->b∈e::gL (J1 j scope s.heap.objs.size f cd::o_):=λv x b y=>eK _ (qJ.mpr ⟨v,x,y⟩);refine UK (b_:=yX L.heap (e::gL (J1 j scope s.heap.objs.size f cd::o_))) (env:=J1 j scope s.heap.objs.size f cd) (o_:=o_) I.ok.frames O (λb o a=>yJ _ a) (PySem.W.hideAll_none _ eB) (PySem.W.funFrames_hide S t) l m (vB p) h1 O λh2 fl us=>zP I os bare u d (λb o o' h c B=>tE _ c λa=>?_) (λb o' n c=>tE _ c λa=>?_) fl us q
 .rcases dW.mp a with r|r
  .rw[r,i]at h;cases h
  .exact B r
 .rcases dW.mp a with r|r
  .rw[r]at n;exact n k
  .exact n (g.stkFree b r)
end
def eJ.untrack(u:eJ fs ex H H' h h')(n:H e=aF)(d:h.get? e=aF):eJ fs ex H (λb=>if b=e then aF else H' b) h h' where
 keep:=u.keep
 slot:=u.slot
 free:=λb o q m c=>by
  by_cases a:b=e
  .rw[B4 a]
  .rw[B3 a];exact u.free b o q m c
 there:=u.there
 tups:=λb xs q=>by rw[B3 (λa=>by rw[a,n]at q;cases q)];exact u.tups b xs q
 frzs:=λb o v q=>by rw[B3 (λa=>by rw[a,n]at q;cases q)];exact u.frzs b o v q
 tbls:=λb ps q=>by rw[B3 (λa=>by rw[a,n]at q;cases q)];exact u.tbls b ps q
def dL.untrack(f:dL P w H h)(q:H e=Z (.ext d)):dL P w (λb=>if b=e then aF else H b) h:=λa o c=>by
 have c:(if a=e then aF else H a)=Z o:=c;have g:a≠e:=λr=>by rw[B4 r]at c;cases c
 rw[B3 g]at c;refine(f a o c).stay (λ_ _ _ r=>r) (λb r=>?_) λb xs r=>?_
 .show(if b=e then aF else H b)=_;rw[B3 (YH r q)];exact r
 .show(if b=e then aF else H b)=_;rw[B3 (YH r q)];exact r
inductive vg(C:aB)(f:aA)(vs:M0)(H:aC)(Q:aP)(z3:dG):Prop
 |mk:∀(e:aB)(v:V),vs=[.ref e,v]->H e=Z (kF e (.ref C) aF)->(∀d,H d=aF->d≠e->Q .non (aI (aI H e (kF e (.ref C) (Z d))) d (rx d f v)))->vg C f vs H Q z3
def Rq(C:aB)(f:aA)(E:dG)(t:eZ):dZ:=λ_ Y H=>t Y H λvs z=>∃v,vs=[v]/\∀d,z d=aF->E (.ref C) (Z d) (aI z d (rx d f v))
section
variable{X:aX}{C:aB}{x f:aA}{E:dG}{np c pos:Pos}{e:bI}{es:List bI}{t:eZ}{k:Nat}{ps:L9}
def Pt(hm:X.mg x=Z (.ref C))(al:tm X.K C=aD)(F:eR X.prog X.w X.K X.mg X.b_ k C "__init__" ps (vg C f))(am:eI (k+1) X.A)(an:X.calm=aD)(R:FQ X E)(ao:iA X (e :: es) t)(ap:jH X x:=by rfl)(aq:(x == ("__debug__":aA))=aK:=by decide)
 (a7:cN (e :: es) X.env=(aK,H5 e X.env) :: cN es X.env:=by rfl)(ar:(H8 c (cN es X.env)).any (·.1)=aK:=by rfl) :
  kz X (.Raise (Z (.Call (.Name x np) (e :: es) [] c)) aF pos) (Rq C f E t):=by
 refine⟨?_⟩
 intro U s Y H D I h
 obtain⟨fI,fd,G,b,a8⟩:=F.ex
 obtain⟨B,N,nm,as,bs,l,sn,sub,ab,u,dd,k0,k1,k2,k3,k5,a9,T⟩:=EJ al I.ok.mod.kin
 obtain⟨A,au,av⟩:∃ A,X.K.lookup fI=Z A∧A.cls=.type "function":=by
  have j:typeIn X.K (.ref fI)=Z (.type "function"):=C0.mp a8.fn
  unfold typeIn at j
  exact lJ.mp j
 refine OU (C:=C) (N:=N) (nm:=nm) (q:=as) (bs:=bs) (bm:=B) (l:=l) (sn:=sn) (sub:=sub) (ab:=ab) (u:=u) (dd:=dd) (k0:=k0) (k1:=k1) (k2:=k2) (k3:=k3) (k5:=k5) (fI:=fI)
  qG (T.hasType qG.hasBase) (I.ok.hd an) ?_ (qr I ap hm ⟨rfl,?_⟩ aq)
 ·rw[a7]
  show (aK || (H8 c (cN es X.env)).any (·.1))=aK
  rw[ar]
  rfl
 ·have g:=ao c U s Y H _ I h
  rw[a7] at g ⊢
  refine rF (bT g fun us w z'=>?_);obtain⟨vs,H2,m,aw,v,ev,ax⟩:=z'
  subst ev
  obtain⟨n,rfl,ay⟩:=F3 aw
  refine⟨rfl,by show (1:Nat)≤cP;rw[jC];omega,m.bk _ _ a9,pZ (M:=aW X.prog X.w) m.kIn a8.at_,T.keeps m.bk,⟨A,m.kIn _ _ au,av⟩,fun h' ea i=>?_⟩
  have p:H2 ea=aF:=by
   cases j:H2 ea with
   | none=>rfl
   | some o =>
    obtain⟨a2,J⟩:=m.hok.has (a:=ea) (by rw[j];simp)
    rw[i.new] at J
    cases J
  obtain⟨bd,aa,_,_⟩:=i.there
  have ok1:dQ X.prog X.w (aI H2 ea (kF ea (.ref C) aF)) h' ea (kF ea (.ref C) aF):=⟨⟨_,_,aa,rfl,rfl,by show 0<6;decide,rfl,rfl⟩,⟨_,aa⟩,fun h1 be ⟨o,vs,az,J,aR⟩ k=>⟨o,vs,k o az,J,aR⟩⟩
  have b0:eJ X.fs [] H2 (aI H2 ea (kF ea (.ref C) aF)) w.heap h':=(G8 i.keeps).new p i.new
  have a3:Inv X U Y (aI H2 ea (kF ea (.ref C) aF)) { w with heap:=h' }:=m.un b0 (dL.new (m.hok.kept i.keeps) p ok1)
  have sp1:vg C f [.ref ea,v] (aI H2 ea (kF ea (.ref C) aF)) (fun y b1=>y=.non∧∃ d,aI H2 ea (kF ea (.ref C) aF) d=aF∧d≠ea∧b1=aI (aI (aI H2 ea (kF ea (.ref C) aF)) ea (kF ea (.ref C) (Z d))) d (rx d f v)) mS:=⟨ea,v,rfl,aV,fun d b2 b3=>⟨rfl,d,b2,b3,rfl⟩⟩
  have b4:cA [F2 ea,v] [cU ea,n]:=.cons rfl (.cons ay .nil)
  have ac:=b { w with heap:=h' } [cU ea,n] a3.kIn (by rw[lK];exact (G.len _ _ _ _ sp1))
  rw[lK] at ac
  refine oJ (oG (G.run _ X.stack _ _ ⟨[cU ea,n],[]⟩ [cU ea,n] _ _ mS (am.make C [n] []) (a3.env0.make C [n] []) ac b4 sp1) fun j L z=>?_)
  cases j with
  | error e=>exact gH z
  | ok fl =>
   cases fl with
   | ret r =>
    obtain⟨y,Q,os,bare,ae,a4,b5,b6,d,af,a0,a5⟩:=z
    subst b6
    cases (show r=iS from b5)
    have b7:=a3.call' (L:=L) (ch:=[]) os ae a4 bare fun b j=>B6 j (by simp)
    rw[Rk] at a5
    have ag:Q ea=Z (kF ea (.ref C) (Z d)):=by rw[a5,bA (D4 a0),aV]
    obtain⟨⟨oe,ws,ah,a2,ai,b8,aj,b9⟩,_,_⟩:=(show dQ X.prog X.w Q L.heap ea (kF ea (.ref C) (Z d)) from a4 ea _ ag)
    have ba:H2 d=aF:=by rw[bA a0] at af;exact af
    have bb:(fun b=>if b=ea then aF else Q b)=aI H2 d (rx d f v):=by
     funext b
     rw[a5]
     by_cases a1:b=ea
     ·rw[B4 a1,a1,bA (D4 a0),p]
     ·rw[B3 a1]
      by_cases a6:b=d
      ·rw[a6,aV,aV]
      ·rw[bA a6,bA a1,bA a6]
    have bc:eJ (gL X.stack) [] H2 Q w.heap L.heap:=eJ.trans (eJ.new (G8 i.keeps) p i.new) ae
    have ak:=bc.untrack p i.new
    have k3:=dL.untrack a4 ag
    rw[bb] at ak k3
    refine⟨rfl,b7.bk _ _ a9,⟨oe,ws,ah,a2,ai,aj⟩,R U Y H2 _ w L ea oe ws m os bare ak k3 i.new (by rw[bA (D4 a0)];exact p) ah ai b8 aj ?_⟩
    rw[a2,b9]
    exact ax d ba
   | next=>exact gH z
   | brk=>exact gH z
   | cont=>exact gH z
end
end L2
namespace L2
open PySem PySem.Spec PyProof.Rows PySem.W PySem.Builtin.ObjectAttr
structure Md (K:L7) (C:aB):Prop where
 ex:tm K C=aD
 em:exmOne K (.ref C) (.ref C)=Z aD
 ga:L8 K (.ref C) "__getattribute__"=Z (Z (.builtin "BaseException.__getattribute__"))
 gt:L8 K (.ref C) "__getattr__"=Z aF
 mb:mroIn K C (.type "BaseException")=Z aD
 ic:wC K C
def KX(K:L7)(mg:aA->Option aE)(r n:aA)(b:Bool):Prop:=∀c d,mg r=Z (.ref c)->mg n=Z (.ref d)->kitOne K (.ref c) (.ref d)=Z b
def zt(K:L7)(mg:aA->Option aE)(r n:aA):Prop:=∀c d,mg r=Z (.ref c)->mg n=Z (.ref d)->exmOne K (.ref c) (.ref d)=Z aD
section
variable{K:L7}{mg:aA->Option aE}{r n:aA}{b:Bool}{c d:aB}
def YQ(h1:mg r=Z (.ref c))(h2:mg n=Z (.ref d))(k:exmOne K (.ref c) (.ref d)=Z aD):zt K mg r n:=λc' d' a b=>by
 rw[h1]at a;rw[h2]at b;cases a;cases b;exact k
end
end L2
namespace Mt46
open PySem L2 Ld Mt21
noncomputable def xC:aA:="nosuchxx"
def Nq:xC.cps.toList=[110,111,115,117,99,104,120,120]:=YS
def Uj(h:ab i=n)(h1:97<=n):i%26=(n:Int)-97:=by
 unfold ab at h;have a:=hW i (show(26:Int)≠0 by decide);omega
def Sb{b s:aA}{q:Int}(f:b.cps.toList=(eG a).map λ(j:Nat)=>ab (q+(j:Int)*(j:Int)))(w:pl<a)(y:a<=8)(k:s.cps.toList=b.cps.toList.take pl++[x]++b.cps.toList.drop (pl+1)):s≠xC:=λe=>by
 have l:s.cps.toList=[110,111,115,117,99,104,120,120]:=by rw[e];exact Nq
 have p:s.cps.toList.length=a:=by
  rw[k,eW,eW,dY,o6,f,aS,o4];show min pl a+1+(a-(pl+1))=a;omega
 have r:a=8:=by rw[←p,l];rfl
 subst r;have get:∀j:Nat,j<8->j≠pl->s.cps.toList[j]?=Z (ab (q+(j:Int)*(j:Int))):=λj g m=>by
  have o:b.cps.toList[j]?=Z (ab (q+(j:Int)*(j:Int))):=by
   rw[f,dB,List.getElem?_range g];rfl
  have i:b.cps.toList.length=8:=by rw[f,aS,o4]
  rw[k];by_cases h:j<pl
  .rw[oB,o0 (by rw[dY,i];omega),List.getElem?_take,B4 h];exact o
  .rw[rA (by rw[eW,dY,i];show min pl 8+1<=j;omega),eW,dY,i,vV];show b.cps.toList[pl+1+(j-(min pl 8+1))]?=_;rw[show pl+1+(j-(min pl 8+1))=j by omega];exact o
 have c:∀(j n:Nat),j<8->j≠pl->([110,111,115,117,99,104,120,120]:List Nat)[j]?=Z n->97<=n->(q+(j:Int)*(j:Int))%26=(n:Int)-97:=λj n g m t h1=>by
  have:=get j g m;rw[l,t]at this;exact Uj (eA this).symm h1
 by_cases D:pl=1
 .have d:=c 0 110 YT YT O YT;have u:=c 2 115 YT YT O YT;omega
 .by_cases p2:pl=2
  .have d:=c 0 110 YT YT O YT;have z:=c 3 117 YT YT O YT;omega
  .have A:=c 1 111 YT YT O YT;have u:=c 2 115 YT YT O YT;omega
end Mt46
namespace L2
open PySem PySem.Spec PyProof.Rows
noncomputable def Ya(d:aB)(o:aZ)(J:List (aT×V)):jI:=
 ⟨λi H=>H d=Z (.frz o (.dK J))/\i<J.length,λi H x H'=>H'=H/\∃a,J[i]?=Z a/\x=a.2,λi H=>H d=Z (.frz o (.dK J))/\J.length<=i⟩
noncomputable def oX(v d:aB):cY:=.ext λh=>h.IsItemsView v d
def oX.ok(x:h.IsItemsView v d):dQ P w H h v (oX v d):=
 ⟨x,let ⟨o,a,_⟩:=x;⟨o,a⟩,λ_ _ ⟨o,a,r⟩ k=>⟨o,k o a,r⟩⟩
def SJ(H:aC):List aB->List (aT×V)->Prop
 |[],J=>J=[]
 |a::as,J=>∃k v r,J=(k,v)::r/\H a=Z (.tup [kV k,v])/\SJ H as r
section
variable{X:aX}
def QC:r5 X "dict.items" (λx vs H Q=>∃d J,x=.ref d/\vs=[]/\eM H d (.dK J)/\∀v,H v=aF->Q (.ref v) (aI H v (oX v d))):=by
 intro U s Y H x vs v us Q I c f h;obtain⟨d,J,rfl,rfl,g,q⟩:=h;cases c;have i:=f.zero;subst i;obtain⟨j,lo,ws,k,a⟩:=g.ok I.hok;exact rW PySem.F.slot_dict_items a.typeIs PySem.F.entry_dict_items (PySem.F.args_dict_items_1 _) (meets_dict_items (dI X.prog X.w) d lo) ⟨⟨ws,a⟩,.ref s.heap.objs.size,_,I.laid (t':=s.toks) (λb l e=>cZ _ e) (bQ _) (oX.ok ⟨_,fP _ O,O,O⟩),O,q _ (I.hok.fresh (bQ _))⟩
end
def zj(d:aB)(o:aZ)(J:List (aT×V)):jI where
 go:=λi H=>H d=Z (.frz o (.dK J))/\i<J.length
 yld:=λi H v H'=>∃p a,H p=aF/\v=.ref p/\H'=aI H p (.tup [kV a.1,a.2])/\J[i]?=Z a
 stop:=λi H=>H d=Z (.frz o (.dK J))/\J.length<=i
def MH:entryFor table "dict_itemiterator.__iter__"=Z Builtin.«dict_keyiterator.__iter__»:=entryFor_alias (id':="dict_keyiterator.__iter__") (by kernel_rfl) O YS (by kernel_rfl)
def OC(e:IsItemIter s.heap G d i n ep b c)(h:Q (.ref G) s):aU (aW prog w) A (I2 (.ref G)) Q E s:=by
 have a:s.TypeIs (.ref G) "dict_itemiterator":=⟨_,e,O⟩
 refine wpAny_pyIter_slot a F.slot_dict_itemiterator_iter (tP F.slot_dict_itemiterator_iter a MH ?_ (F.args_dict_itemiterator_iter_1 _));show aU _ _ (ret (.ref G)) _ _ s;exact bN ⟨_,O,"dict_itemiterator",_,a,F.slot_dict_itemiterator_next.lookup,h⟩
def NZ{P:bS}{w:bP}{K:bJ}{a6:List bI}{k:Nat}{pos:Pos}{d G:aB}{o:aZ}{J:List (aT×V)}{vs:List (aT×aE)}{ep:Nat}{Q:bH}(y:eL J vs)(T:Q.get? d=Z o)(a0:Q.DictAt (dI P w) d vs ep) :
  oN P w K (.Tuple a6 k pos) (zj d o J) [G] G (λi h=>∃ok j,IsItemIter h G d i vs.length ep ok j) where
 mem:=by simp
 obj:=λi h ⟨ok,j,st⟩ b a=>by
  have e:b=G:=by simpa using a
  subst e;exact⟨_,st,λv l=>by cases l⟩
 keep:=λi h h' ⟨ok,j,st⟩ k=>⟨ok,j,k G (by simp) _ st⟩
 item:=by
  intro X z A B f i U s Y H E I hf ⟨ok,j,st⟩ C;subst z A B;obtain⟨D,hi⟩:=C;have g:=hf G (by simp);have now:=a0.at' (h':=s.heap) λL e=>by
   rw[T]at e;cases e;exact(show dQ X.prog X.w H s.heap d (.frz o (.dK J)) from I.hok d _ D).1
  have a7:=F5 y;obtain⟨⟨k,v⟩,a1⟩:∃p,vs[i]?=Z p:=⟨_,cJ YT⟩
  obtain⟨q,a8,a9,aa⟩:=eL.get y a1;refine wpAny_pyNext_items_item st now a1 λkey h1 ac ae af ar ag=>⟨_,O,wpAny_letOwnedTupleGo_items ae λh2 ah x=>?_⟩
  replace x:m7 G h1 h2:=x
  have a2:G<s.heap.objs.size:=cW st;have t:∀b o,b≠G->s.heap.get? b=Z o->h2.get? b=Z o:=λb o a3 q=>x.extBut b o a3 (ag b o a3 q);have ai:h2.get? s.heap.objs.size=Z {cls:=.type "tuple",data:=.seq #[key,v]}:=x.extBut _ _ (nN a2) af;have fresh:H s.heap.objs.size=aF:=I.hok.fresh (bQ _);have M:∀b,b∉[G]->b≠G:=λb a l=>a (by simp[l]);have a4:∀b o,H b=Z o->b≠G:=λb o q l=>(by rw[l,g.1]at q;cases q)
  have aj:cE (kV q.1) key:=by
   rw[show q.1=k from a9];exact Bw ac
  have ak:Inv X U Y (aI H s.heap.objs.size (.tup [kV q.1,q.2])) {s with heap:=h2}:=by
   refine I.step (g':=s.gens) (d':=s.drawn) (ch:=[G]) (λb a=>?_) (λb o _ _ f q _=>t b o (M b f) q) (λb o _ _ f q _=>⟨o.slots,t b o (M b f) q⟩)
    (λb o _ q n=>by rw[bA (dC (cW q))];exact n) (λb o f q=>⟨o,t b o (M b f) q⟩)
    (λb ys q=>by rw[bA (cX q fresh)];exact q) (λb o v q=>by rw[bA (cX q fresh)];exact q) (λb ps q=>⟨#[],by rw[bA (cX q fresh),q];simp⟩) (λm hm=>?_) (λb a5 u=>?_) I.bare
   .have N:b=G:=by simpa using a
    subst N;exact⟨g.2.2.2.1,g.2.1,g.2.2.2.2.1,g.2.2.2.2.2⟩
   .obtain⟨o,es,ep,al,r⟩:=hm;exact⟨o,es,ep,t _ o (D4 g.2.1) al,r⟩
   .by_cases a:b=s.heap.objs.size
    .subst a;rw[aV]at u;cases u;exact⟨by show 2<=cP;decide,[key,v],.cons aj (.cons aa .nil),⟨_,ai,O,_,O,O⟩⟩
    .rw[bA a]at u;refine(I.hok b a5 u).stay (λc o f r=>?_) (λc r=>by rw[bA (cX r fresh)];exact r) λc ys r=>by rw[bA (cX r fresh)];exact r
     have am:c≠G:=by
      rcases f with rfl|f
      .exact a4 c a5 u
      .exact a4 c _ f
     exact t c o am r
  refine⟨.ref s.heap.objs.size,_,ak,O,⟨_,q,fresh,O,O,a8⟩,⟨_,_,ah⟩,λb a=>?_⟩;have N:b=G:=by simpa using a
  subst N;rw[bA (dC a2)];exact g.1
 done:=by
  intro X z A B f i U s Y H E I hf ⟨ok,j,st⟩ C;subst z A B;obtain⟨D,hi⟩:=C;obtain⟨an,f1,f2,f3,ao,ap⟩:=hf G (by simp);have now:=a0.at' (h':=s.heap) λL e=>by
   rw[T]at e;cases e;exact(show dQ X.prog X.w H s.heap d (.frz o (.dK J)) from I.hok d _ D).1
  have a7:=F5 y;exact wpAny_pyNext_items_end (I.ok.hd f) st now (yF YT) λh' aq=>⟨O,I.turned (t':=s.toks) (λb L a e=>aq b L a e) an f1 f3 ao ap⟩
 self:=λ_ _ _ _ _ ⟨_,_,st⟩ h=>OC st h
section
variable{X:aX}
def Ua(t:bF):TI:=λY H R=>t Y H λx z=>∃v d J,x=.ref v/\z v=Z (oX v d)/\z d=Z (.dK J)/\∀o,R (zj d o J) (aI z d (.frz o (.dK J)))
def Qu{p:List bI}{k:Nat}(r:bL X l B):lY X (.Tuple p k m) l (Ua B):=.mk λU s Y H R I h=>by
 refine bT (r U s Y H _ I h) fun u s1 z'=>?_;obtain⟨x,z,a,t,v,d,J,e,w,i,q⟩:=z';subst e;cases t;have hok:=a.hok d _ i;obtain⟨y,lo,vs,j,n⟩:=id hok;obtain⟨ep,c⟩:=n.dictAt;obtain⟨o,es,f,_⟩:=id c;obtain⟨view,_⟩:=a.hok v _ w;have g:Inv X U Y (aI z d (.frz o (.dK J))) s1:=a.write (x:=d) (e:=d) (o:=.frz o (.dK J)) (h':=s1.heap) (t':=s1.toks) (by rw[i];exact trivial) YU (fun _ _ _ q=>q) ⟨o,f⟩ ⟨f,y,lo,vs,j,n⟩;refine wpAny_pyIter_items view c ⟨s1.heap.objs.size,[s1.heap.objs.size],_,_,aI z d (.frz o (.dK J)),O,g.kept (t':=s1.toks) (fun b C e=>cZ _ e),NZ j f c,⟨_,_,fP _ O⟩,fun b A=>?_,q o⟩;rw[show b=s1.heap.objs.size by simpa using A];exact g.fpOk (bQ _) (g.hok.fresh (bQ _))
def OO(C:J.length<=cP)(Pv:Nat->M0->aC->Prop)(k:Pv 0 [] H)
 (l:∀i ys H,i<=J.length->Pv i ys H->H d=Z (.frz o (.dK J))/\ys.length<=i)
 (n:∀i a ys H p (K:aP) (j:aC->Prop),J[i]?=Z a->Pv i ys H->H p=aF->(∀y b,Pv (i+1) (ys++[y]) b->K y b)->(∀c,Pv (i+1) ys c->j c) ->
   g (.ref p) e (aI H p (.tup [kV a.1,a.2])) (sT f te K j))
 (s:∀ys H,Pv J.length ys H->h ys H):q9 e g f te h (zj d o J) H:=by
 refine⟨λi m ys H=>m+i=J.length/\Pv i ys H,⟨J.length,O,k⟩,?_⟩;intro i m ys H t;obtain⟨hm,p⟩:=t;obtain⟨q,D⟩:=l i ys H YT p;rcases Nat.lt_or_ge i J.length with lt|ge
 .refine .inr ⟨⟨q,lt⟩,YT,λx H' y=>?_⟩;obtain⟨u,a,w,ex,z,A⟩:=y;subst z ex;exact n i a ys _ u _ _ A p w (λy b r=>⟨J.length-(i+1),YT,YT,r⟩) λc r=>⟨J.length-(i+1),YT,YT,r⟩
 .have B:i=J.length:=YT;subst B;exact .inl ⟨⟨q,bQ _⟩,s ys H p⟩
end
section
variable{prog:bS}{w:bP}{A:bX}{E:aE->aJ->Prop}{s:aJ}
theorem EL(c:t≠G):∀(n i:Nat)(s:aJ)(Q:M4->aJ->Prop),s.heap.IsListIter G t i->s.heap.IsList t items->i+n<=items.size ->
  (∀h',h'.IsListIter G t (i+n)->m7 G s.heap h'->Q ((items.toList.drop i).take n) {s with heap:=h'})->aU (aW prog w) A (draw (.ref G) n) Q E s
 |0,i,s,Q,a,_,_,b=>by
  show aU _ _ (pure []) Q E s;exact bN (by simpa using b s.heap a (m7.refl ..))
 |n+1,i,s,Q,a,d,m,b=>by
  have e:i<items.size:=YT;show aU _ _ (I1 (.ref G)>>=_) Q E s;refine aO (I4 a d (x:=items[i]) (by simp[e]) λh₁ g f=>aO (jO (EL c n (i+1) _ _ g (d.extBut f.extBut c) YT λh j k=>bN ?_)));have l:items.toList.drop i=items[i]::items.toList.drop (i+1):=by simp[vD,e]
  have:=b h (by rw[show i+(n+1)=i+1+n by omega];exact j) (f.trans k);rw[l,List.take_succ_cons]at this;exact this
def XD(g:A.handled=aF)(a:s.heap.IsList t items)
 (h:∀h',bH.ExtBut s.heap.objs.size s.heap h'->Q items.toList {s with heap:=h'}):aU (aW prog w) A (unpackItems (.ref t) items.size aF) Q E s:=by
 have c:t≠s.heap.objs.size:=by obtain⟨o,i,_⟩:=a;exact dC (cW i)
 unfold unpackItems;refine aO ?_
 .unfold notIterableAtAll;refine aO (tT a.typeIs slot_list_iter.lookup (bN ?_));simp only[tH,C5];refine aO (jO (qO a (aO (jO (EL c items.size 0 _ _ ⟨_,fP _ O,O,O⟩ (a.push _) YT λh₁ j d=>?_)))));have k:List.take items.size (List.drop 0 items.toList)=items.toList:=by
   rw[wn];exact dP (by simp)
  rw[k];rw[B3 (by simp)];have l:h₁.IsList t items:=(a.push _).extBut d.extBut c;refine aO (jO (I5 g j l (by simp) λm n=>?_));simp only[Option.isSome_none,tH,C5];refine bN (h m λb o f e=>n b o f (d.extBut b o f (cZ _ e)))
def XC{b}(c:A.handled=aF)(d:s.heap.IsList t items)
 (e:(my a env).length=items.size)(f:(my a env).findIdx? (·.1)=aF)
 (h:∀h',bH.ExtBut s.heap.objs.size s.heap h'->aU (aW prog w) A (t0 ((my a env).map (·.2)) items.toList) Q E {s with heap:=h'}) :
  aU (aW prog w) A (assign (.Tuple a b pos) env (.ref t)) Q E s:=by
 rw[assign_Tuple];refine aO (pY ?_);unfold unpack;rw[e,f];exact aO (jO (XD c d h))
end
section
variable{X:aX}{pos:Pos}
inductive HE(K:bJ)(n:Nat)(t:mB)(v:V)(Y:St)(H:aC)(Q:St->aC->Prop):Prop
 |mk:∀a xs,v=.ref a->aQ K H a xs->xs.length=n->t xs Y H Q->HE K n t v Y H Q
def Fj(f:X.calm=aD)(h:p5 X es t)
 (g:(my es X.env).length=n:=by rfl)(i:(my es X.env).findIdx? (·.1)=aF:=by rfl):nc X (.Tuple es k pos) (HE X.K n t):=.mk λU s Y H v u Q I r c=>by
 obtain⟨a,xs,j,l,p,c⟩:=c;subst j;cases r;obtain⟨z,d,⟨o,m,e,q,A,w⟩,B⟩:=I.list l;refine XC (I.ok.hd f) ⟨o,e,q,m,w⟩ (by simp[g,←p,d.length]) i λh' x=>?_;have y:Inv X U Y H {s with heap:=h'}:=I.kept (t':=s.toks) λb o e=>x b o (dC (cW e)) e;exact h U _ Y H xs _ Q y (by simpa using d) c
end
end L2
namespace L2
open PySem in
open PySem.W in
def BX(K:L7)(mg:aA->Option aE)(r n:aA):Prop:=∀c d,mg r=Z (.ref c)->mg n=Z (.ref d)->exmOne K (.ref c) (.ref d)=Z aK
open PySem PySem.Spec PyProof.Rows
def Yk{K:bJ}{mg:aA->Option aE}{r n:aA}(h1:mg r=Z (.ref c))(h2:mg n=Z (.ref d))(k:tQ K (.ref c) (.ref d)=Z aK):BX K mg r n:=λc' d' a b=>by
 rw[h1]at a;rw[h2]at b;cases a;cases b;exact k
section
variable{X:aX}{C C2:aB}{x y:aA}{np a1 a5 a6 pos:Pos}{body t Q:List bO}{E a4:bO}{tb:TB}{ts a2:dZ}
def Ul(K:bJ)(C C2:aB)(tb:TB)(ts a2:dZ):dZ:=λD Y H=>tb (λcls _ z=>(tQ K cls (.ref C)=Z aD/\ts D Y z)\/(tQ K cls (.ref C)=Z aK/\tQ K cls (.ref C2)=Z aD/\a2 D Y z)) D Y H
def RL(hm:X.mg x=Z (.ref C))(A:X.mg y=Z (.ref C2))(G:wG X body tb)(J:∀ ea,iB (X.held ea) (E :: t) ts)(L:∀ ea,iB (X.held ea) (a4 :: Q) a2)(M:jH X x:=by rfl)(N:(x == ("__debug__":aA))=aK:=by decide)(T:jH X y:=by rfl)(a0:(y == ("__debug__":aA))=aK:=by decide)
 (z:X.stack=X.env :: X.o_:=by rfl)(a3:X.env.frame=Z X.env.locals:=by rfl) :
  kz X (.Try body [.ExceptHandler (Z (.Name x np)) aF (E :: t) a1,.ExceptHandler (Z (.Name y a5)) aF (a4 :: Q) a6] [] [] pos) (Ul X.K C C2 tb ts a2):=by
 refine⟨?_⟩
 intro U s Y H D I h
 refine wpAny_Try_except (fA (G U s Y H D _ I h) (fun f s1 q=>?_) fun e s1 q=>?_)
 ·cases f with
  | next=>exact rL q
  | ret v=>exact q
  | brk=>exact q
  | cont=>exact q
 ·obtain⟨ag,H0,g,ea,cls,d,p,B,H',rfl,os,bare,u,i,fl,j,k,q⟩:=q
  have a7:X.A.frames=Z (X.env :: X.o_):=z▸I.ok.frames
  have a8:mI B (X.env :: X.o_) ea cls d p .none s1.heap:=z▸fl
  refine GA a7 a3 a8 fun a9 aa l=>?_
  refine sY (fr:=aF) (s:={ s1 with heap:=a9 }) aa fun m b n=>?_
  have c:=yl g os bare u i j k b.1 (l.trans n)
  refine wpAny_handleBy_cons (L3 (qr (X:=X.held ea) (c.held ea) M hm ?_ N)) (by intro a;cases a)
  rcases q with ⟨em,q⟩ | ⟨em,ac,q⟩
  ·refine (yY c.kIn (Bs b.w) em).here ?_
   refine L4 ?_
   refine sY (fr:=aF) (s:={ s1 with heap:=m }) b fun ae o r=>?_
   have w:=yl g os bare u i j k o.1 ((l.trans n).trans r)
   exact fA (J ea U _ Y H' D (w.held ea) q) (fun f af a=>a.unheld I.ok) fun _ _ a=>gH a
  ·refine (yY c.kIn (Bs b.w) em).here ?_
   refine wpAny_handleBy_cons (s:={ s1 with heap:=m }) (L3 (qr (X:=X.held ea) (c.held ea) T A ?_ a0)) (by intro a;cases a)
   refine (yY c.kIn (Bs b.w) ac).here ?_
   refine L4 ?_
   refine sY (fr:=aF) (s:={ s1 with heap:=m }) b fun ae o r=>?_
   have w:=yl g os bare u i j k o.1 ((l.trans n).trans r)
   exact fA (L ea U _ Y H' D (w.held ea) q) (fun f af a=>a.unheld I.ok) fun _ _ a=>gH a
end
def zl(K:bJ)(a b:aB):jI where
 go:=λi H=>∃xs ys x y,aQ K H a xs/\aQ K H b ys/\xs[i]?=Z x/\ys[i]?=Z y
 yld:=λi H v H'=>∃p x y,H p=aF/\v=.ref p/\H'=aI H p (.tup [x,y])/\(∀xs,aQ K H a xs->xs[i]?=Z x)/\∀ys,aQ K H b ys->ys[i]?=Z y
 stop:=λi H=>∃xs ys,aQ K H a xs/\aQ K H b ys/\(xs.length<=i\/ys.length<=i)
def Qe{P:bS}{w:bP}{K:bJ}{an:List bI}{k:Nat}{pos:Pos}(a b:aB){f TI TO j t:aB}(D:ZipApart f TI TO j t a b) :
  oN P w K (.Tuple an k pos) (zl K a b) [f,TI,TO,j,t] f (λi h=>IsZip h f TI TO .none/\IsPair h TI (.ref j) (.ref t)/\(∃x y,IsPair h TO x y)/\h.IsListIter j a i/\h.IsListIter t b i) where
 mem:=by simp
 obj:=λi h ⟨h1,h2,⟨x,y,h3⟩,J,L⟩ c z=>by
  have C:c=f\/c=TI\/c=TO\/c=j\/c=t:=by simpa using z
  rcases C with rfl|rfl|rfl|rfl|rfl
  .exact⟨_,h1,λv f=>by cases f⟩
  .exact⟨_,h2,λv f=>by cases f⟩
  .exact⟨_,h3,λv f=>by cases f⟩
  .obtain⟨o,e,c,d⟩:=J;exact⟨o,e,λv f=>by rw[d]at f;cases f⟩
  .obtain⟨o,e,c,d⟩:=L;exact⟨o,e,λv f=>by rw[d]at f;cases f⟩
 keep:=λi h h' ⟨h1,h2,⟨x,y,h3⟩,J,L⟩ k=>⟨k f (by simp) _ h1,k TI (by simp) _ h2,⟨x,y,k TO (by simp) _ h3⟩,J.at λo q=>k j (by simp) o q,L.at λo q=>k t (by simp) o q⟩
 item:=by
  intro X a8 a9 aa z i U s Y H E I hf ⟨st,M,⟨ao,ap,a0⟩,a1,a2⟩ ac;subst a8 a9 aa;obtain⟨xs,ys,x,y,a3,a4,a5,a6⟩:=ac;obtain⟨aq,ae,p,ar⟩:=I.list a3;obtain⟨its',af,ag,as⟩:=I.list a4;obtain⟨u,au,av⟩:=ae.get a5;obtain⟨ah,aw,ax⟩:=af.get a6;have A:=hf f (by simp);have B:=hf TO (by simp);have f1:=hf j (by simp);have f2:=hf t (by simp);have fI:=hf TI (by simp);refine wpAny_pyNext_zip_item D st M a0 a1 a2 p.isList ag.isList (x:=u) (y:=ah) (by simpa using au) (by simpa using aw) λh1 ay az aR b0 b1 b8 b2=>⟨_,O,wpAny_letOwnedTupleGo_zip ay λh2 b3 N=>?_⟩
  replace N:m7 f h1 h2:=N
  have lt:∀{c:aB} {o:aZ},s.heap.get? c=Z o->c<s.heap.objs.size:=λq=>cW q;have a7:∀b o,b≠f->b≠TO->b≠j->b≠t->s.heap.get? b=Z o->h2.get? b=Z o:=λb o h3 J L b4 q=>N.extBut b o h3 (b2 b o h3 J L b4 q);have al:f<s.heap.objs.size:=lt st;have b5:h2.get? s.heap.objs.size=Z {cls:=.type "tuple",data:=.seq #[u,ah]}:=N.extBut _ _ (nN al) b1;have fresh:H s.heap.objs.size=aF:=I.hok.fresh (bQ _);have G:∀b,b∉[f,TO,j,t]->b≠f/\b≠TO/\b≠j/\b≠t:=λb g=>⟨λe=>g (by simp[e]),λe=>g (by simp[e]),λe=>g (by simp[e]),λe=>g (by simp[e])⟩
  have Q:∀b o,H b=Z o->b≠f/\b≠TO/\b≠j/\b≠t:=λb o q=>⟨λe=>(by rw[e,A.1]at q;cases q),λe=>(by rw[e,B.1]at q;cases q),λe=>(by rw[e,f1.1]at q;cases q),λe=>(by rw[e,f2.1]at q;cases q)⟩
  have kp:∀b o,b∉[f,TO,j,t]->s.heap.get? b=Z o->h2.get? b=Z o:=λb o g q=>a7 b o (G b g).1 (G b g).2.1 (G b g).2.2.1 (G b g).2.2.2 q;have b6:Inv X U Y (aI H s.heap.objs.size (.tup [x,y])) {s with heap:=h2}:=by
   refine I.step (g':=s.gens) (d':=s.drawn) (t':=s.toks) (ch:=[f,TO,j,t]) (λb g=>?_) (λb o _ _ z q _=>kp b o z q) (λb o _ _ z q _=>⟨o.slots,kp b o z q⟩)
    (λb o _ q n=>by rw[bA (dC (cW q))];exact n) (λb o z q=>⟨o,kp b o z q⟩)
    (λb ys q=>by rw[bA (cX q fresh)];exact q) (λb o v q=>by rw[bA (cX q fresh)];exact q) (λb ps q=>⟨#[],by rw[bA (cX q fresh),q];simp⟩) (λm hm=>?_) (λb v q=>?_) I.bare
   .have T:b=f\/b=TO\/b=j\/b=t:=by simpa using g
    rcases T with rfl|rfl|rfl|rfl
    .exact⟨A.2.2.2.1,A.2.1,A.2.2.2.2.1,A.2.2.2.2.2⟩
    .exact⟨B.2.2.2.1,B.2.1,B.2.2.2.2.1,B.2.2.2.2.2⟩
    .exact⟨f1.2.2.2.1,f1.2.1,f1.2.2.2.2.1,f1.2.2.2.2.2⟩
    .exact⟨f2.2.2.2.1,f2.2.1,f2.2.2.2.2.1,f2.2.2.2.2.2⟩
   .obtain⟨o,es,ep,ai,r⟩:=hm;exact⟨o,es,ep,a7 _ o (D4 A.2.1) (D4 B.2.1) (D4 f1.2.1) (D4 f2.2.1) ai,r⟩
   .by_cases g:b=s.heap.objs.size
    .subst g;rw[aV]at q;cases q;exact⟨by show 2<=cP;decide,[u,ah],.cons av (.cons ax .nil),⟨_,b5,O,_,O,O⟩⟩
    .rw[bA g]at q;refine(I.hok b v q).stay (λc o z r=>?_) (λc r=>by rw[bA (cX r fresh)];exact r) λc ys r=>by rw[bA (cX r fresh)];exact r
     have C:c≠f/\c≠TO/\c≠j/\c≠t:=by
      rcases z with rfl|z
      .exact Q c v q
      .exact Q c _ z
     exact a7 c o C.1 C.2.1 C.2.2.1 C.2.2.2 r
  have aj:∀{c:aB},c≠f->∀o,h1.get? c=Z o->h2.get? c=Z o:=λn o q=>N.extBut _ o n q;refine⟨.ref s.heap.objs.size,_,b6,O,⟨_,x,y,fresh,O,O,(λys a6=>by rw[I.list_inj a6 a3];exact a5),λys b7=>by rw[I.list_inj b7 a4];exact a6⟩,⟨b3,a7 TI _ D.TIz D.TITO D.TIi1 D.TIi2 M,⟨_,_,aj D.TOz _ az⟩,aR.at (aj D.i1z),b0.at (aj D.i2z)⟩,λb g=>?_⟩;have T:b=f\/b=TI\/b=TO\/b=j\/b=t:=by simpa using g
  have am:∀{c l:aB} {n:Nat},s.heap.IsListIter c l n->c<s.heap.objs.size:=fun⟨o,q,_⟩=>cW q;rcases T with rfl|rfl|rfl|rfl|rfl
  .rw[bA (dC al)];exact A.1
  .rw[bA (dC (lt M))];exact fI.1
  .rw[bA (dC (lt a0))];exact B.1
  .rw[bA (dC (am a1))];exact f1.1
  .rw[bA (dC (am a2))];exact f2.1
 done:=by
  intro X a8 a9 aa z i U s Y H E I hf ⟨st,M,⟨ao,ap,a0⟩,a1,a2⟩ ac;subst a8 a9 aa;obtain⟨xs,ys,a3,a4,a5⟩:=ac;obtain⟨aq,ae,p,ar⟩:=I.list a3;obtain⟨its',af,ag,as⟩:=I.list a4;have b9:=ae.length;have ba:=af.length;refine wpAny_pyNext_zip_end (I.ok.hd z) D st M a0 a1 a2 p.isList ag.isList (by rcases a5 with h|h;exact .inl (by simp;omega);exact .inr (by simp;omega)) λh' ak=>⟨O,?_⟩
  have A:=hf f (by simp);have B:=hf TO (by simp);have f1:=hf j (by simp);have f2:=hf t (by simp);have G:∀b,b∉[f,TO,j,t]->b≠f/\b≠TO/\b≠j/\b≠t:=λb g=>⟨λe=>g (by simp[e]),λe=>g (by simp[e]),λe=>g (by simp[e]),λe=>g (by simp[e])⟩
  have Q:∀b o,H b=Z o->b≠f/\b≠TO/\b≠j/\b≠t:=λb o q=>⟨λe=>(by rw[e,A.1]at q;cases q),λe=>(by rw[e,B.1]at q;cases q),λe=>(by rw[e,f1.1]at q;cases q),λe=>(by rw[e,f2.1]at q;cases q)⟩
  have kp:∀b o,b∉[f,TO,j,t]->s.heap.get? b=Z o->h'.get? b=Z o:=λb o g q=>ak b o (G b g).1 (G b g).2.1 (G b g).2.2.1 (G b g).2.2.2 q;refine I.step (g':=s.gens) (d':=s.drawn) (t':=s.toks) (ch:=[f,TO,j,t]) (λb g=>?_) (λb o _ _ z q _=>kp b o z q) (λb o _ _ z q _=>⟨o.slots,kp b o z q⟩)
   (λb o _ q n=>n) (λb o z q=>⟨o,kp b o z q⟩) (λb ys q=>q) (λb o v q=>q) (λb ps q=>⟨#[],by rw[q];simp⟩) (λm hm=>?_) (λb v q=>?_) I.bare
  .have T:b=f\/b=TO\/b=j\/b=t:=by simpa using g
   rcases T with rfl|rfl|rfl|rfl
   .exact⟨A.2.2.2.1,A.2.1,A.2.2.2.2.1,A.2.2.2.2.2⟩
   .exact⟨B.2.2.2.1,B.2.1,B.2.2.2.2.1,B.2.2.2.2.2⟩
   .exact⟨f1.2.2.2.1,f1.2.1,f1.2.2.2.2.1,f1.2.2.2.2.2⟩
   .exact⟨f2.2.2.2.1,f2.2.1,f2.2.2.2.2.1,f2.2.2.2.2.2⟩
  .obtain⟨o,es,ep,ai,r⟩:=hm;exact⟨o,es,ep,ak _ o (D4 A.2.1) (D4 B.2.1) (D4 f1.2.1) (D4 f2.2.1) ai,r⟩
  .refine(I.hok b v q).stay (λc o z r=>?_) (λc r=>r) λc ys r=>r;have C:c≠f/\c≠TO/\c≠j/\c≠t:=by
    rcases z with rfl|z
    .exact Q c v q
    .exact Q c _ z
   exact ak c o C.1 C.2.1 C.2.2.1 C.2.2.2 r
 self:=λ_ _ _ _ _ ⟨st,_⟩ h=>wpAny_pyIter_zip st h
def VR(K:bJ)(M:eZ):TI:=λY H R=>M Y H λvs z=>∃a b,vs=[.ref a,.ref b]/\(∃xs,aQ K z a xs)/\(∃ys,aQ K z b ys)/\R (zl K a b) z
def Tl{X:aX}{j:List bI}{k:Nat}{m:Pos}{a b:bI}{M:eZ}{p pos:Pos}(hm:X.mg "zip"=aF)(o:iA X [a,b] M)(t:jH X "zip":=by rfl)(u:cN [a,b] X.env=(aK,H5 a X.env) :: cN [b] X.env:=by rfl)(w:cN [b] X.env=[(aK,H5 b X.env)]:=by rfl) :
  lY X (.Tuple j k m) (.Call (.Name "zip" p) [a,b] [] pos) (VR X.K M):=.mk λU s Y H R I h=>by
 refine Call_ (oW I t hm boot_zip (qF (bT (o pos U s Y H _ I h) fun us s1 z'=>?_) u (by rw[w];rfl)));obtain⟨vs,z,c,x,y⟩:=z';obtain⟨l,d,e,⟨xs,A⟩,⟨ys,B⟩,q⟩:=y;subst e;cases x with
 | cons r C =>
  cases C with
  | cons D E =>
   cases E;cases r;cases D;obtain⟨a2,a3,pl,a4⟩:=c.list A;obtain⟨its',a5,f,a6⟩:=c.list B;have G:l<s1.heap.objs.size:=by obtain⟨_,e,_⟩:=pl.isList;exact cW e
   have J:d<s1.heap.objs.size:=by obtain⟨_,e,_⟩:=f.isList;exact cW e
   refine call_zip_2 pl.isList f.isList fun h' g L N Q T a7 a0=>wpAny_pyIter_zip (s:={ s1 with heap:=h' }) g ?_;have le:∀ n,s1.heap.objs.size≤s1.heap.objs.size+n:=fun n=>pU _ n;refine⟨s1.heap.objs.size+4,[s1.heap.objs.size+4,s1.heap.objs.size+2,s1.heap.objs.size+3,s1.heap.objs.size,s1.heap.objs.size+1],_,_,z,O,c.kept (t':=s1.toks) a0,Qe l d (zipApart_new G J),⟨g,L,⟨_,_,N⟩,Q,T⟩,fun b a1=>?_,q⟩;have i:s1.heap.objs.size≤b:=by
    have:b=s1.heap.objs.size+4∨b=s1.heap.objs.size+2∨b=s1.heap.objs.size+3∨b=s1.heap.objs.size∨b=s1.heap.objs.size+1:=by simpa using a1
    rcases this with rfl | rfl | rfl | rfl | rfl
    ·exact le 4
    ·exact le 2
    ·exact le 3
    ·exact bQ _
    ·exact le 1
   exact c.fpOk i (c.hok.fresh i)
def Sq{K:bJ}{xs ys:M0}{g:gO}(d:ys.length=xs.length)(Pv:Nat->St->aC->Prop)(f:Pv 0 Y H)(h:∀i Y H,i<=xs.length->Pv i Y H->aQ K H a xs/\aQ K H b ys)
 (j:∀i x y Y H p,xs[i]?=Z x->ys[i]?=Z y->Pv i Y H->H p=aF->g (.ref p) Y (aI H p (.tup [x,y])) (tb {D with nx:=Pv (i+1),ct:=Pv (i+1),bk:=D.nx}))(k:∀Y H,Pv xs.length Y H->D.nx Y H) :
  sy g tb D Y (zl K a b) H:=by
 refine⟨λi m Y H=>m=xs.length-i/\i<=xs.length/\Pv i Y H,⟨xs.length,by simp,gU _,f⟩,?_⟩;rintro i m Y H ⟨rfl,hi,p⟩;have q:=h i Y H hi p;by_cases c:i<xs.length
 .refine .inr ⟨⟨xs,ys,xs[i],ys[i]'YT,q.1,q.2,by simp[c],by simp[d,c]⟩,Pv (i+1),fun σ' H' l=>⟨xs.length-(i+1),YT,O,c,l⟩,λv H' y=>?_⟩;obtain⟨n,x,y,o,rfl,rfl,r,s⟩:=y;exact j i x y Y H n (r xs q.1) (s ys q.2) p o
 .have e:i=xs.length:=YT;subst e;exact .inl ⟨⟨xs,ys,q.1,q.2,.inl (bQ _)⟩,k Y H p⟩
section
variable{X:aX}
def ML:jD X (.type "dict") (λxs H Q=>∃(p:aB)(J:List (aT×V)),xs=[.ref p]/\H p=Z (.dK J)/\∀l,H l=aF->Q (.ref l) (aI H l (.dK J))):=by
 intro U s Y H xs us Q I r h;obtain⟨p,J,rfl,c,q⟩:=h;obtain⟨u,rfl,d⟩:=F3 r;cases d;obtain⟨f,lo,ws,a,g⟩:=(show dQ X.prog X.w H s.heap p (.dK J) from I.hok p _ c)
 have l1:=F5 a;refine kt_call_dict lo g YT λh' i j=>?_;have k:∀b o,s.heap.get? b=Z o->h'.get? b=Z o:=λb o e=>(j.2 b (dC (cW e))).trans (cZ _ e);refine⟨.ref s.heap.objs.size,_,I.laid (t':=s.toks) k (bQ _) (show dQ X.prog X.w _ h' _ (.dK J) from⟨f,?_,ws,a,i⟩),O,q _ (I.hok.fresh (bQ _))⟩;have b:=I.big;exact C1.mpr (nN b)
end
structure XV (P:bS) (w:bP) (K:bJ) (mg:aA->Option aE) (b_:bH) (k:Nat) (x:aA) (st:bO) (N ps:L9) (sp:bW):Prop where
 len:∀vs H Q E,sp vs H Q E->vs.length=ps.length
 body:∀(f:aB)(cdv:aE)(A:bX)(o_:List eE)(s:aJ)(H:aC)(vs:M0)(Q:aP)(E:dG),eI k (A.deeper (J1 x (bM st) s.heap.objs.size f cdv))->sp vs H Q E ->
   ∃t,iB (hG iV P w K mg b_ N x (bM st) f cdv A o_ s H E).nox (jZ st) t/\t {nx:=λ_ H'=>Q .non H',rt:=Q} (start N vs) H
structure BK (P:bS) (w:bP) (K:bJ) (mg:aA->Option aE) (b_:bH) (k:Nat) (x:aA) (st:bO) (N ps:L9) (sp:bW):Prop where
 len:∀vs H Q E,sp vs H Q E->vs.length=ps.length
 body:∀(f:aB)(cdv:aE)(A:bX)(o_:List eE)(s:aJ)(H:aC)(vs:M0)(Q:aP)(E:dG),eI k (A.deeper (J1 x (bM st) s.heap.objs.size f cdv))->sp vs H Q E ->
   ∃t,iB (hG (li P w) P w K mg b_ N x (bM st) f cdv A o_ s H E) (jZ st) t/\t {nx:=λ_ H'=>Q .non H',rt:=Q} (start N vs) H
section
variable{P:bS}{w:bP}{K:bJ}{mg:aA->Option aE}{b_:bH}{k:Nat}{x m:aA}{st:bO}{N ps:L9}{sp sq:bW}{C:aB}
def MethAt.mcB(D:MethAt K C m x st ps)(S:cB N ps (bM st))(b:BK P w K mg b_ k x st N ps sp):wF P w K mg b_ (k+1) C m ps sp:=D.mcX S b.len b.body
end
end L2
namespace Mt73
open PySem L2 Mt22 Mt61
def PQ(f:0<=g.cap):mG (λe=>X e||Y e) g+mG (λe=>X e&&Y e) g<=mG X g+mG Y g:=by
 show(if (X g.a||Y g.a)=(X g.b||Y g.b) then 0 else g.cap)+(if (X g.a&&Y g.a)=(X g.b&&Y g.b) then 0 else g.cap)<=(if X g.a=X g.b then 0 else g.cap)+(if Y g.a=Y g.b then 0 else g.cap);generalize X g.a=a;generalize X g.b=b;generalize Y g.a=c;generalize Y g.b=d;cases a<;>cases b<;>cases c<;>cases d<;>simp<;>omega
def OA(r:fR q G)(s:∀a∈d,a∈b\/a∈c)(f:∀a∈e,a∈b/\a∈c)(h1:jU G b i)(h2:jU G c j)(t:jU G d k)(u:jU G e l):k+l<=i+j:=by
 obtain⟨⟨X,n,o,x⟩,_⟩:=h1;obtain⟨⟨Y,w,p,y⟩,_⟩:=h2;have z:=t.2 (λa=>X a||Y a) (by show(X D3||Y D3)=aK;rw[n,w];rfl) (λa m=>by
  show(X a||Y a)=aD;rcases s a m with h|h
  .rw[o a h];rfl
  .rw[p a h,wt])
 have A:=u.2 (λa=>X a&&Y a) (by show(X D3&&Y D3)=aK;rw[n];rfl) (λa m=>by
  show(X a&&Y a)=aD;rw[o a (f a m).1,p a (f a m).2];rfl)
 have:me G (λa=>X a||Y a)+me G (λa=>X a&&Y a)<=me G X+me G Y:=by
  unfold me;rw[←Mt61.ru,←Mt61.ru];exact sg λg m=>PQ (r.cap g m)
 omega
def Oz(h:jU G a c)(h':jU G b d)(sub:∀f∈a,f∈b):c<=d:=by
 obtain⟨⟨X,s,w,e⟩,_⟩:=h';rw[←e];exact h.2 X s λf m=>w f (sub f m)
def TA{P:Nat->Prop}:(∃n,P n)->∃n,P n/\∀m,P m->n<=m:=by
 rintro⟨n,a⟩
 induction n using Nat.strongRecOn with
 |_ n b=>
  by_cases h:∃m,m<n/\P m
  .obtain⟨m,lt,pm⟩:=h;exact b m lt pm
  .exact⟨n,a,λm pm=>Nat.le_of_not_lt λlt=>h ⟨m,lt,pm⟩⟩
def wT(b:fR a G)(X:aA->Bool):0<=me G X:=by
 have:cD G (λ_=>(0:Int))<=cD G (mG X):=sg λg m=>by
  have:=b.cap g m;unfold mG;split<;>omega
 rw[mY λ_ _=>O]at this;exact this
def QF{g:L9}{G:M5}(d:fR g G){a:L9}(ns:D3∉a):∃c,jU G a c:=by
 obtain⟨n,⟨X,s,w,e⟩,h⟩:=TA (P:=λn=>∃X:aA->Bool,X D3=aK/\(∀b∈a,X b=aD)/\(me G X).toNat=n) ⟨_,λb=>G9 (b∈a),B1 ns,λb m=>B0 m,O⟩;refine⟨me G X,⟨X,s,w,O⟩,λf i j=>?_⟩;have h1:=h _ ⟨f,i,j,O⟩;have h2:=wT d X;have h3:=wT d f;omega
def ER(d:fR b G)(ns:D3∉a):jU G a (jJ G a):=by
 obtain⟨c,h⟩:=QF d ns;rw[sk h];exact h
structure yC (zs:L9) (v:L9->Int):Prop where
 cg:∀a b:L9,(∀z,z∈a↔z∈b)->v a=v b
 zr:v []=0
 mono:∀a b:L9,(∀z∈a,z∈b)->(∀z∈b,z∈zs)->v a<=v b
 sub:∀a b e c:L9,(∀z∈e,z∈a\/z∈b)->(∀z∈c,z∈a/\z∈b)->(∀z∈a,z∈zs)->(∀z∈b,z∈zs)->v e+v c<=v a+v b
def Su(i:fR l G)(ns:D3∉zs):yC zs (jJ G):=by
 have L:∀f:L9,(∀d∈f,d∈zs)->jU G f (jJ G f):=λf h=>ER i λm=>ns (h _ m);exact⟨λa b e=>Rg e,sk ⟨⟨λ_=>aK,O,λd m=>(nomatch m),mY λg _=>B4 O⟩,λX _ _=>wT i X⟩,λa b h1 h2=>Oz (L a λd m=>h2 d (h1 d m)) (L b h2) h1,λa b e c h1 h2 j k=>OA i h1 h2 (L a j) (L b k) (L e λd m=>(h1 d m).elim (j d) (k d)) (L c λd m=>j d (h2 d m).1)⟩
def SE{v:L9->Int}{o T:L9}{k:Nat}(c:T.Nodup):cD T (λa=>if o[k]?=Z a then v (o.take (k+1))-v (o.take k) else 0)=match o[k]? with
  |some y=>if y∈T then v (o.take (k+1))-v (o.take k) else 0
  |none=>0:=by
 cases e:o[k]? with
 |none=>exact mY λa _=>B3 (by simp)
 |some y=>
  show _=if y∈T then _ else _
  induction T with
  |nil=>rw[B3 (by simp)];rfl
  |cons t r b=>
   have b:=b (gB.mp c).2;rw[eF,b];by_cases h:y=t
   .subst h;rw[B4 O,B3 (gB.mp c).1,B4 eB,t2]
   .rw[B3 (λa=>h (eA a)),pa];by_cases m:y∈r
    .rw[B4 m,B4 (eK _ m)]
    .rw[B3 m,B3 (λa=>(dW.mp a).elim h m)]
def SD{v:L9->Int}{o T:L9}{k:Nat}:cD T (λa=>mH v a o (k+1))=cD T (λa=>mH v a o k)+cD T (λa=>if o[k]?=Z a then v (o.take (k+1))-v (o.take k) else 0):=by
 rw[←ru];rfl
theorem FL{v:L9->Int}(b:v []=0){o zs:L9}(c:zs.Nodup)(d:∀a∈o,a∈zs):∀k,k<=o.length->cD zs (λa=>mH v a o k)=v (o.take k)
 |0,_=>by
  rw[List.take_zero,b];exact mY λ_ _=>O
 |k+1,f=>by
  obtain⟨y,e⟩:∃y,o[k]?=Z y:=⟨_,cJ YT⟩
  rw[SD,FL b c d k YT,SE c,e];show _+(if y∈zs then _ else _)=_;rw[B4 (d y (dM e))];omega
theorem Fb{q p:Type}(f:q->p->Int):∀(xs:List q)(ys:List p),cD xs (λx=>cD ys (f x))=cD ys λy=>cD xs λx=>f x y
 |[],ys=>(mY λ_ _=>rfl).symm
 |x::xs,ys=>by
  rw[eF,Fb f xs ys,←ru];exact lj λy _=>(eF x xs λx=>f x y).symm
theorem Ea{q:Type}(c:Int):∀xs:List q,cD xs (λ_=>c)=(xs.length:Int)*c
 |[]=>by rw[qu];show 0=((0:Nat):Int)*c;omega
 |x::xs=>by rw[eF,Ea c xs,fW,Int.natCast_add,pd];omega
def shr(v:L9->Int)(zs:L9)(a:aA):Int:=cD (nB zs.length) λns=>qB v zs a (ns.map λi=>zs.getD i "")
def Py{zs:L9}(c:zs.Nodup)(d:1<=zs.length)(f:zs.length<=5):(m1 zs.length zs).length=fac zs.length:=by
 have h:=QB zs.length d f;rw[←h]
 conv=>lhs;arg 1;arg 2;rw[BE zs]
 rw[zw λa g b i e=>rv c (kN.mp g) (kN.mp i) e,aS]
def RD(b:zs.Nodup)(c:1<=zs.length)(d:zs.length<=5)(F:yC zs v)(e:∀a∈T,a∈zs):cD T (shr v zs)=cD (m1 zs.length zs) λo=>cD T λa=>mH v a o zs.length:=by
 rw[←Fb];exact lj λa m=>(UD b c d F.cg (e a m)).symm
def RE{zs:L9}(a:zs.Nodup)(b:1<=zs.length)(c:zs.length<=5){v:L9->Int}(F:yC zs v):cD zs (shr v zs)=((fac zs.length:Nat):Int)*v zs:=by
 rw[RD a b c F λd m=>m,←Py a b c,←Ea];refine lj λo f=>?_;obtain⟨h,g,e⟩:=zv a O o f;have:=FL F.zr (o:=o) a (λd m=>(e d).mp m) o.length (bQ _);rw[dP (bQ _),g]at this;exact this.trans (F.cg _ _ e)
def Fc{q:Type}{f:q->Int}{a b:List q}(h:a.Perm b):cD a f=cD b f:=by
 induction h with
 |nil=>rfl
 |cons x _ c=>rw[eF,eF,c]
 |swap x y l=>rw[eF,eF,eF,eF];omega
 |trans _ _ h1 h2=>rw[h1,h2]
def YK(n i:Nat):Bool:=Av ((nB n).flatMap (s9 n i)) ((nB n).flatMap λns=>s9 n i (ns.map λj=>n-1-j))
def Fw(c:0<k)(d:0<b):low (k*a) (k*b)=low a b:=by
 have e:((D8 (k*a) (k*b):Nat):Int)=k*((D8 a b:Nat):Int):=by
  rw[Int.gcd_mul_left,wl,Int.natAbs_of_nonneg YT]
 unfold low;rw[e,Int.mul_ediv_mul_of_pos _ _ c,Int.mul_ediv_mul_of_pos _ _ c]
def EA(a:Int)(c:0<b):∃g:Int,0<g/\a=g*(low a b).1/\b=g*(low a b).2/\0<(low a b).2/\(low a b).2<=b:=by
 have d:=vo (a:=a) c;have h1:((D8 a b:Nat):Int)*(low a b).1=a:=yK (Int.gcd_dvd_left _ _);have h2:((D8 a b:Nat):Int)*(low a b).2=b:=yK (y0 _ _);have e:0<(low a b).2:=by
  refine Int.pos_of_mul_pos_right (a:=((D8 a b:Nat):Int)) ?_ d;rw[h2];exact c
 refine⟨_,d,h1.symm,h2.symm,e,?_⟩;have:1*(low a b).2<=((D8 a b:Nat):Int)*(low a b).2:=yu YT (qX e);rw[h2]at this;omega
end Mt73
namespace L2
open PySem PySem.Spec PyProof.Rows
section
variable{X:aX}
def XS(p:X.calm=aD):jD X (.builtin "sum") (λxs H Q=>∃v d J,∃ns:M6,xs=[.ref v]/\H v=Z (pO v d)/\eM H d (.dK J)/\J.map (·.2)=ns.map D1/\Q (.int ns.sum) H):=by
 intro U s Y H xs us Q I r h;obtain⟨v,d,J,ns,rfl,ev,x,f,q⟩:=h;obtain⟨u,rfl,y⟩:=F3 r;cases y;obtain⟨M,lo,vs,g,z⟩:=x.ok I.hok;obtain⟨B,_⟩:=I.hok v _ ev;obtain⟨ep,c⟩:=z.dictAt;have N:=F5 g;have le:J.length=ns.length:=by have:=B7 m8 f;rwa [aS,aS]at this
 have j:=c.lt_size;refine call_sum_walkG (wpAny_pyIter_values B c ?_);refine⟨s.heap.objs.size,[s.heap.objs.size,d],[s.heap.objs.size],vs.length,_,_,λi=>ns.getD i 0,O,Walks.dictValues (A:=X.A.in1) (I.ok.hd p) _ d (dC j) vs ep,
  ⟨⟨_,fP _ O,O,O⟩,c.push _⟩,λb m=>?_,λi w C=>?_,λh' tk t' D=>?_⟩
 .simp only[dW,mJ,C4]at m;show b<(s.heap.push _).objs.size;rw[show(s.heap.push _).objs.size=s.heap.objs.size+1 from wb ..];rcases m with e|e
  .rw[e];exact rH _
  .rw[e];exact tK j
 .obtain⟨k,e⟩:=C;obtain⟨o,E,_,a⟩:=eL.get g e;have h:=B7 (λl=>l[i]?) f;simp only[dB,E]at h;obtain⟨n,G,L⟩:=lJ.mp h.symm;have a:cE o.2 w:=a;rw[show o.2=D1 n from L.symm]at a;obtain⟨t,rfl⟩:=a;exact⟨t,by show pe n t=pe (ns.getD i 0) t;rw[kr,G];rfl⟩
 .have e:preSum (λi=>ns.getD i 0) vs.length=ns.sum:=by
   rw[AK _ _ YT,dP YT]
  rw[e];exact⟨.int _,H,I.kept (LSm.kept_iter D),⟨_,O⟩,q⟩
end
def Vo(r:V->M0->aC->aP->Prop)(to:bF):bF:=λY H Q=>to Y H λx z=>(∃p J,x=.ref p/\eM z p (.dK J))/\r x [] z Q
section
variable{X:aX}{o:bI}{to:bF}{name:aA}{i c:Pos}{id:String}{r:V->M0->aC->aP->Prop}
def Gr(f:Slot "dict" name id)(g:typeOf (.builtin id)=pure (.type "method_descriptor"))(hm:r5 X id r)(j:bL X o to)
 (k:qS o name X.env (H5 o X.env)=H5 o X.env:=by rfl)(l:(i.endLine==c.line)=aD:=by rfl):bL X (.Call (.Attribute o name i) [] [] c) (Vo r to):=.mk λU s Y H Q I h=>by
 refine K0 k l (bT (j U s Y H _ I h) λv s1 z'=>?_);obtain⟨x,z,d,m,⟨p,J,e,n⟩,q⟩:=z';subst e;cases m;obtain⟨_,_,_,_,b,_,_,e,ex,_⟩:=n.ok d.hok;have h2:∀a,cU p=.ref a->∃b,s1.heap.get? a=Z b/\b.dict=aF:=λa t=>by
  cases t;exact⟨b,e,ex.2.1⟩
 exact⟨"dict",id,rB,f,g,⟨b,e,ex.1⟩,h2,rC O (PySem.evalArgs_none (hm U s1 Y z (.ref p) [] _ [] Q d O .nil q))⟩
end
def PS(u:xs.length<=cP)(Pv:Nat->M0->aC->Prop)(l:Pv 0 [] H)
 (n:∀i ys H,i<=xs.length->Pv i ys H->aQ F H a xs/\ys.length<=i)
 (o:∀i x ys H p (K:aP) (k:aC->Prop),xs[i]?=Z x->Pv i ys H->H p=aF->(∀y b,Pv (i+1) (ys++[y]) b->K y b)->(∀c,Pv (i+1) ys c->k c) ->
   g (.ref p) f (aI H p (.tup [.int (i:Nat),x])) (sT h te K k))
 (r:∀ys H,Pv xs.length ys H->j ys H):q9 f g h te j (zi F a) H:=by
 refine⟨λi m ys H=>m=xs.length-i/\i<=xs.length/\Pv i ys H,⟨xs.length,by simp,gU _,l⟩,?_⟩;rintro i m ys H ⟨rfl,hi,p⟩;obtain⟨q,w⟩:=n i ys H hi p;by_cases d:i<xs.length
 .refine .inr ⟨⟨xs,xs[i],q,by simp[d]⟩,YT,λx H' y=>?_⟩;obtain⟨s,x,t,rfl,rfl,y⟩:=y;exact o i x ys H s _ _ (y xs q) p t (λy b q=>⟨xs.length-(i+1),YT,O,d,q⟩) λc q=>⟨xs.length-(i+1),YT,O,d,q⟩
 .have e:i=xs.length:=YT;subst e;exact .inl ⟨⟨xs,q,bQ _⟩,r ys H p⟩
def xt{K:bJ}{x:aA}{k:Int}{j}(i:Nat)(a:X.N[i]?=Z x:=by rfl)(b:sb X.env.scope x:=by trivial)(c:(x == ("__debug__":aA))=aK:=by decide)(d:(x == ("__classdict__":aA))=aK:=by decide)(e:X.K=K:=by rfl):bL X (.Subscript (.Name x D) (.Constant (.int k) j p2) f) (vh (xM K) (s8 i) (tC (.int k))):=iO (oa e) (pv i a b c d) bB (fun _ _=>rfl)
end L2
namespace L2
inductive vF {A0 A1:Type} (P:A0->A1->Prop):Prop
 |mk:∀d a1,P d a1->vF P
inductive rK {A0 A1 A2:Type} (P:A0->A1->A2->Prop):Prop
 |mk:∀d a1 a2,P d a1 a2->rK P
inductive vG {A0 A1 A2 A3:Type} (P:A0->A1->A2->A3->Prop):Prop
 |mk:∀d a1 a2 a3,P d a1 a2 a3->vG P
inductive vH {A0 A1 A2 A3 A4:Type} (P:A0->A1->A2->A3->A4->Prop):Prop
 |mk:∀d a1 a2 a3 a4,P d a1 a2 a3 a4->vH P
inductive BP {A0 A1 A2 A3 A4 A5:Type} (P:A0->A1->A2->A3->A4->A5->Prop):Prop
 |mk:∀d a1 a2 a3 a4 a5,P d a1 a2 a3 a4 a5->BP P
inductive BQ {A0 A1 A2 A3 A4 A5 A6:Type} (P:A0->A1->A2->A3->A4->A5->A6->Prop):Prop
 |mk:∀d a1 a2 a3 a4 a5 a6,P d a1 a2 a3 a4 a5 a6->BQ P
inductive BO {A0 A1 A2 A3 A4 A5 A6 A7 A8 A9:Type} (P:A0->A1->A2->A3->A4->A5->A6->A7->A8->A9->Prop):Prop
 |mk:∀d a1 a2 a3 a4 a5 a6 a7 a8 a9,P d a1 a2 a3 a4 a5 a6 a7 a8 a9->BO P
end L2
namespace K83
open PySem L2
noncomputable def cK(i:Nat):bO:=PySem.Challenge.pw_dykemoot_k83_whole_ledger.main.body.getD i (.Pass ⟨0,0,0,0⟩)
abbrev Je:bO:=lO (cK 10) 0
def Ml:cB ["self","field"] ["self","field"] (bM Je):={}
abbrev Ll:bO:=cK 19
def MN:cB ["thing"] ["thing"] (bM Ll):={}
abbrev LJ:bO:=cK 20
def Ni:cB ["thing"] ["thing"] (bM LJ):={}
abbrev Ji:bO:=cK 21
def Mn:cB ["thing"] ["thing"] (bM Ji):={}
abbrev Jk:bO:=cK 22
def Mo:cB ["thing"] ["thing"] (bM Jk):={}
abbrev Jh:bO:=cK 23
def Mm:cB ["thing","names"] ["thing","names"] (bM Jh):={}
abbrev IL:bO:=cK 24
def XH:cB ["thing","most"] ["thing","most"] (bM IL):={}
abbrev IC:bO:=cK 25
def Xu:cB ["thing","length"] ["thing","length"] (bM IC):={}
abbrev IK:bO:=cK 26
def XG:cB ["rows"] ["rows"] (bM IK):={}
abbrev Lm:bO:=cK 27
def MO:cB ["thing"] ["thing"] (bM Lm):={}
abbrev IQ:bO:=cK 28
def XJ:cB ["thing"] ["thing"] (bM IQ):={}
abbrev Jo:bO:=cK 29
def Mr:cB ["one","other","sides"] ["one","other","sides"] (bM Jo):={}
abbrev LI:bO:=cK 30
def Nh:cB ["thing","crown"] ["thing","crown"] (bM LI):={}
abbrev LK:bO:=cK 31
def Nj:cB ["thing","sides"] ["thing","sides"] (bM LK):={}
abbrev Jp:bO:=cK 32
def Ms:cB ["thing","sides"] ["thing","sides"] (bM Jp):={}
abbrev LH:bO:=cK 33
def Ng:cB ["land","thing"] ["land","thing"] (bM LH):={}
abbrev Jn:bO:=cK 34
def Mq:cB ["land","thing"] ["land","thing"] (bM Jn):={}
abbrev HK:bO:=cK 35
def HF:cB ["land","thing","names"] ["land","thing"] (bM HK):={}
abbrev II:bO:=cK 36
def XF:cB ["dyke","crown"] ["dyke","crown"] (bM II):={}
abbrev Ls:bO:=lO (cK 37) 0
def MT:cB ["self","fields","dykes"] ["self","fields","dykes"] (bM Ls):={}
abbrev IG:bO:=lO (cK 37) 1
def Xx:cB ["self"] ["self"] (bM IG):={}
abbrev IR:bO:=lO (cK 37) 2
def XK:cB ["self"] ["self"] (bM IR):={}
abbrev HH:bO:=lO (cK 37) 3
def Wy:cB ["self"] ["self"] (bM HH):={}
abbrev HL:bO:=lO (cK 37) 4
def WB:cB ["self"] ["self"] (bM HL):={}
abbrev Iv:bO:=lO (cK 37) 5
def Xn:cB ["self"] ["self"] (bM Iv):={}
abbrev IF:bO:=lO (cK 37) 6
def Xw:cB ["self","field"] ["self","field"] (bM IF):={}
abbrev Ju:bO:=lO (cK 37) 7
def Mx:cB ["self","field"] ["self","field"] (bM Ju):={}
abbrev Jt:bO:=lO (cK 37) 8
def Mw:cB ["self","name"] ["self","name"] (bM Jt):={}
abbrev IE:bO:=lO (cK 37) 9
def Ay:cB ["self","works","crowns","dykes"] ["self","works"] (bM IE):={}
abbrev Ij:bO:=cK 39
def HN:cB ["land","thing","sluices"] ["land","thing"] (bM Ij):={}
abbrev Ca:bO:=cK 40
def ND:cB ["land","opened"] ["land","opened"] (bM Ca):={}
abbrev Ir:bO:=cK 41
def uK:cB ["land","stand_of","steps","dyke","near","far"] ["land","stand_of"] (bM Ir):={}
abbrev Ii:bO:=cK 42
def pp:cB ["land","opened","steps","lowest","turn","name","near","far","height","reached"] ["land","opened"] (bM Ii):={}
abbrev Cb:bO:=cK 44
def uP:cB ["starts","steps","came","waiting","near","step"] ["starts","steps"] (bM Cb):={}
abbrev LG:bO:=cK 45
def xo:cB ["came","side","path","step"] ["came","side"] (bM LG):={}
abbrev IM:bO:=cK 47
def XI:cB ["land","fields","height"] ["land","fields","height"] (bM IM):={}
abbrev CN:bO:=cK 48
def BZ:cB ["land","fields","height","heights"] ["land","fields","height"] (bM CN):={}
abbrev Lo:bO:=cK 49
def MP:cB ["dyke","height"] ["dyke","height"] (bM Lo):={}
abbrev Lp:bO:=cK 50
def MQ:cB ["land","works"] ["land","works"] (bM Lp):={}
abbrev Cd:bO:=cK 51
def NE:cB ["land","side","height"] ["land","side","height"] (bM Cd):={}
abbrev Ce:bO:=cK 52
def NF:cB ["land","dyke","height"] ["land","dyke","height"] (bM Ce):={}
abbrev Jl:bO:=cK 53
def Mp:cB ["land","height"] ["land","height"] (bM Jl):={}
abbrev IJ:bO:=cK 54
def xf:cB ["land","names","steps","name","dyke"] ["land","names"] (bM IJ):={}
abbrev Ed:bO:=cK 55
def Pn:cB ["step","most","stream"] ["step","most","stream"] (bM Ed):={}
abbrev LF:bO:=cK 56
def Nf:cB ["steps","most","stream"] ["steps","most","stream"] (bM LF):={}
abbrev HO:bO:=cK 57
def Aw:cB ["steps","most","stream","fields","came","ends"] ["steps","most","stream","fields"] (bM HO):={}
abbrev HQ:bO:=cK 58
def sH:cB ["steps","most","fields","stream","path","amount","step"] ["steps","most","fields"] (bM HQ):={}
abbrev IB:bO:=cK 59
def Iq:cB ["steps","flowed","fields","height","behind"] ["steps","flowed","fields","height"] (bM IB):={}
abbrev Cf:bO:=cK 60
def sJ:cB ["land","fields","height","most","steps","stream","works","amounts"] ["land","fields","height"] (bM Cf):={}
abbrev Is:bO:=cK 63
def Xm:cB ["height"] ["height"] (bM Is):={}
abbrev Eg:bO:=cK 64
def Pq:cB ["land","fields","height"] ["land","fields","height"] (bM Eg):={}
abbrev HJ:bO:=cK 65
def xc:cB ["count","lists","place"] ["count"] (bM HJ):={}
abbrev Jm:bO:=cK 66
def xk:cB ["land","fields","height","told","places","company"] ["land","fields","height"] (bM Jm):={}
abbrev HG:bO:=cK 68
def xb:cB ["one","other","rest"] ["one","other"] (bM HG):={}
abbrev Ln:bO:=cK 69
def Jd:cB ["top","bottom","divisor"] ["top","bottom"] (bM Ln):={}
abbrev Ee:bO:=cK 70
def Po:cB ["one","other"] ["one","other"] (bM Ee):={}
abbrev CM:bO:=cK 71
def Oe:cB ["one","other"] ["one","other"] (bM CM):={}
abbrev Ef:bO:=cK 72
def Pp:cB ["one","other"] ["one","other"] (bM Ef):={}
abbrev Jf:bO:=cK 73
def xj:cB ["count","product","number"] ["count"] (bM Jf):={}
abbrev Ih:bO:=cK 74
def WX:cB ["ahead","count"] ["ahead","count"] (bM Ih):={}
abbrev Lk:bO:=cK 75
def uN:cB ["field","fields","costs","total","company","joined"] ["field","fields","costs"] (bM Lk):={}
abbrev Cc:bO:=cK 76
def LC:cB ["land","fields","height","costs"] ["land","fields","height"] (bM Cc):={}
abbrev Jq:bO:=cK 79
def Mt:cB ["thing"] ["thing"] (bM Jq):={}
abbrev IP:bO:=cK 80
def IA:cB ["land","thing","names"] ["land","thing"] (bM IP):={}
abbrev It:bO:=cK 81
def Ie:cB ["land","yes","names"] ["land","yes"] (bM It):={}
abbrev IN:bO:=cK 82
def AB:cB ["land","yes","names","for_it"] ["land","yes"] (bM IN):={}
abbrev Iu:bO:=cK 83
def Ig:cB ["purse_of","share_of","name"] ["purse_of","share_of"] (bM Iu):={}
abbrev Lq:bO:=lO (cK 84) 0
def MR:cB ["self","land","purses"] ["self","land","purses"] (bM Lq):={}
abbrev AG:bO:=lO (cK 84) 1
def uM:cB ["self","fields","height","yes","land","share_of","told","name"] ["self","fields","height","yes"] (bM AG):={}
abbrev Lr:bO:=lO (cK 84) 2
def MS:cB ["self","field","coins"] ["self","field","coins"] (bM Lr):={}
abbrev Jr:bO:=lO (cK 84) 3
def Mu:cB ["self"] ["self"] (bM Jr):={}
abbrev ID:bO:=lO (cK 84) 4
def Xv:cB ["self"] ["self"] (bM ID):={}
abbrev Js:bO:=lO (cK 84) 5
def Mv:cB ["self"] ["self"] (bM Js):={}
abbrev CR:bO:=cK 86
def AX:cB ["_law_script","_law_k","_law_number"] ["_law_script","_law_k"] (bM CR):={}
abbrev CP:bO:=cK 87
def pq:cB ["_law_cell","_law_letters","_law_size","_law_place","_law_by","_law_base","_law_found","_law_k","_law_sign"] ["_law_cell"] (bM CP):={}
abbrev Ch:bO:=cK 88
def NG:cB ["_law_cell"] ["_law_cell"] (bM Ch):={}
abbrev Ci:bO:=cK 89
def sK:cB ["_law_script","_law_most","_law_names_here","_law_fields_here","_law_k","_law_cell","_law_dues"] ["_law_script","_law_most"] (bM Ci):={}
abbrev CS:bO:=cK 90
def mV:cB ["_law_script","_law_at","_law_most","_law_fields_here","_law_names_here","_law_sides","_law_dykes_here","_law_k","_law_cell","_law_one","_law_others","_law_other","_law_crown","_law_rate","_law_sill"] ["_law_script","_law_at","_law_most","_law_fields_here"] (bM CS):={}
abbrev Eh:bO:=cK 91
def uW:cB ["_law_cell","_law_fields_here","_law_most","_law_left","_law_found","_law_k"] ["_law_cell","_law_fields_here","_law_most"] (bM Eh):={}
abbrev LL:bO:=cK 92
def Lj:cB ["_law_one","_law_other"] ["_law_one","_law_other"] (bM LL):={}
abbrev Cg:bO:=cK 93
def LD:cB ["_law_top","_law_bottom","_law_by"] ["_law_top","_law_bottom"] (bM Cg):={}
abbrev Ff:bO:=cK 94
def xY:cB ["_law_told","_law_total","_law_part"] ["_law_told"] (bM Ff):={}
abbrev CQ:bO:=cK 95
def uS:cB ["_law_moot","_law_wish_here","_law_height_here","_law_yes","_law_found"] ["_law_moot","_law_wish_here","_law_height_here","_law_yes"] (bM CQ):={}
abbrev Ei:bO:=cK 96
def xF:cB ["_law_before","_law_after","_law_told","_law_name","_law_due"] ["_law_before","_law_after","_law_told"] (bM Ei):={}
abbrev CO:bO:=cK 97
def xx:cB ["_law_land","_law_behind","_law_works_here","_law_old","_law_new"] ["_law_land","_law_behind"] (bM CO):={}
abbrev Ej:bO:=cK 98
def pw:cB ["_law_moot","_law_before","_law_asked","_law_land","_law_purses","_law_done","_law_wish_here","_law_height_here","_law_coins","_law_works_here","_law_told"] ["_law_moot","_law_before","_law_asked"] (bM Ej):={}
abbrev zG:bO:=cK 99
def kC:cB ["_law_script","_law_fields_here","_law_land","_law_purses","_law_name","_law_ground","_law_dues","_law_cell","_law_moot","_law_total","_law_k","_law_put","_law_wish_here","_law_height_here","_law_yes","_law_before","_law_handed","_law_coins"] ["_law_script"] (bM zG):={}
structure Txt (K:bJ) (mg:aA->Option aE) (C:aB):Prop where
 ad:ma K C
 or:mg "Land"=Z (.ref C)
 so:on K C "field_rows"
 Cl:on K C "dyke_rows"
 Da:wC K C
 Id:t8 K C "Land.__init__" Ls ["self","fields","dykes"]
 Os:MethAt K C "fields" "Land.fields" IG ["self"]
 Pi:MethAt K C "dykes" "Land.dykes" IR ["self"]
 Re:MethAt K C "field_names" "Land.field_names" HH ["self"]
 Tm:MethAt K C "dyke_names" "Land.dyke_names" HL ["self"]
 Ty:MethAt K C "sluices" "Land.sluices" Iv ["self"]
 Za:MethAt K C "ground" "Land.ground" IF ["self","field"]
 Zb:MethAt K C "dues" "Land.dues" Ju ["self","field"]
 Zc:MethAt K C "dyke" "Land.dyke" Jt ["self","name"]
 Zd:MethAt K C "raised" "Land.raised" IE ["self","works"]
 Ze:∃C_Moot:aB,ma K C_Moot/\mg "Moot"=Z (.ref C_Moot)/\on K C_Moot "land_now"/\on K C_Moot "purse_of"/\on K C_Moot "works_done"/\t8 K C_Moot "Moot.__init__" Lq ["self","land","purses"]/\MethAt K C_Moot "move" "Moot.move" AG ["self","fields","height","yes"]/\MethAt K C_Moot "put" "Moot.put" Lr ["self","field","coins"]/\MethAt K C_Moot "land" "Moot.land" Jr ["self"]/\MethAt K C_Moot "purses" "Moot.purses" ID ["self"]/\MethAt K C_Moot "done" "Moot.done" Js ["self"]
 Zf:∃c:aB,BS K c/\mg "NoVoice"=Z (.ref c)
 Zg:∃c:aB,BS K c/\mg "Outvoted"=Z (.ref c)
 Zh:∃c_Short c_DykeError:aB,(Md K c_Short/\tj K c_Short c_DykeError=aD/\lh K (.ref c_Short) "__setattr__"=Z (Z (.builtin "object.__setattr__"))/\lh K (.ref c_Short) "field"=Z aF/\vU K c_Short=aD/\MethAt K c_Short "__init__" "Short.__init__" Je ["self","field"]/\lh K (.ref c_DykeError) "__init__"=Z (Z (.builtin "ValueError.__init__"))/\PySem.W.nsIn K cStatics "thirdparty.any"=Z aF/\rT K c_DykeError)/\mg "Short"=Z (.ref c_Short)/\mg "DykeError"=Z (.ref c_DykeError)
 Zi:zt K mg "Outvoted" "Outvoted"
 Zj:zt K mg "Short" "Short"
 Zk:BX K mg "Short" "Outvoted"
 Zl:cQ K mg "is_whole" Ll ["thing"]
 Zm:cQ K mg "is_name" LJ ["thing"]
 Zn:cQ K mg "is_height" Ji ["thing"]
 Zo:cQ K mg "is_amount" Jk ["thing"]
 Zp:cQ K mg "is_one_of" Jh ["thing","names"]
 Zq:cQ K mg "is_list_of" IL ["thing","most"]
 Zr:cQ K mg "is_tuple_of" IC ["thing","length"]
 Zs:cQ K mg "none_twice" IK ["rows"]
 Zt:cQ K mg "is_field" Lm ["thing"]
 Zu:cQ K mg "are_fields" IQ ["thing"]
 Zv:cQ K mg "are_sides" Jo ["one","other","sides"]
 Zw:cQ K mg "is_sill" LI ["thing","crown"]
 Zx:cQ K mg "is_dyke" LK ["thing","sides"]
 Zy:cQ K mg "are_dykes" Jp ["thing","sides"]
 Zz:cQ K mg "is_work" LH ["land","thing"]
 q00:cQ K mg "are_works" Jn ["land","thing"]
 q01:cQ K mg "are_some_fields" HK ["land","thing"]
 q02:cQ K mg "with_crown" II ["dyke","crown"]
 q03:cQ K mg "check_sluices" Ij ["land","thing"]
 q04:cQ K mg "stands" Ca ["land","opened"]
 q05:cQ K mg "steps_inland" Ir ["land","stand_of"]
 q06:cQ K mg "flood_heights" Ii ["land","opened"]
 q07:cQ K mg "spread" Cb ["starts","steps"]
 q08:cQ K mg "path_to" LG ["came","side"]
 q09:cQ K mg "check_wish" IM ["land","fields","height"]
 q10:cQ K mg "keeps" CN ["land","fields","height"]
 q11:cQ K mg "coins_to" Lo ["dyke","height"]
 q12:cQ K mg "coins_of" Lp ["land","works"]
 q13:cQ K mg "is_low" Cd ["land","side","height"]
 q14:cQ K mg "is_gap" Ce ["land","dyke","height"]
 q15:cQ K mg "gap_coins" Jl ["land","height"]
 q16:cQ K mg "steps_over" IJ ["land","names"]
 q17:cQ K mg "room" Ed ["step","most","stream"]
 q18:cQ K mg "reached" LF ["steps","most","stream"]
 q19:cQ K mg "path_with_room" HO ["steps","most","stream","fields"]
 q20:cQ K mg "fullest_stream" HQ ["steps","most","fields"]
 q21:cQ K mg "works_round" IB ["steps","flowed","fields","height"]
 q22:cQ K mg "fewest" Cf ["land","fields","height"]
 q23:cQ K mg "cost_of_none" Is ["height"]
 q24:cQ K mg "cost" Eg ["land","fields","height"]
 q25:cQ K mg "lists_of_places" HJ ["count"]
 q26:cQ K mg "companies" Jm ["land","fields","height"]
 q27:cQ K mg "greatest_divisor" HG ["one","other"]
 q28:cQ K mg "fraction" Ln ["top","bottom"]
 q29:cQ K mg "plus" Ee ["one","other"]
 q30:cQ K mg "minus" CM ["one","other"]
 q31:cQ K mg "less" Ef ["one","other"]
 q32:cQ K mg "orders_of" Jf ["count"]
 q33:cQ K mg "orders_behind" Ih ["ahead","count"]
 q34:cQ K mg "share_of" Lk ["field","fields","costs"]
 q35:cQ K mg "shares" Cc ["land","fields","height"]
 q36:cQ K mg "are_coins" Jq ["thing"]
 q37:cQ K mg "are_purses" IP ["land","thing"]
 q38:cQ K mg "check_voices" It ["land","yes"]
 q39:cQ K mg "check_dues" IN ["land","yes"]
 q40:cQ K mg "check_purses" Iu ["purse_of","share_of"]
 q41:cQ K mg "_law_mixed" CR ["_law_script","_law_k"]
 q42:cQ K mg "_law_names" CP ["_law_cell"]
 q43:cQ K mg "_law_height" Ch ["_law_cell"]
 q44:cQ K mg "_law_fields" Ci ["_law_script","_law_most"]
 q45:cQ K mg "_law_dykes" CS ["_law_script","_law_at","_law_most","_law_fields_here"]
 q46:cQ K mg "_law_wish" Eh ["_law_cell","_law_fields_here","_law_most"]
 q47:cQ K mg "_law_divisor" LL ["_law_one","_law_other"]
 q48:cQ K mg "_law_lowest" Cg ["_law_top","_law_bottom"]
 q49:cQ K mg "_law_sum" Ff ["_law_told"]
 q50:cQ K mg "_law_moved" CQ ["_law_moot","_law_wish_here","_law_height_here","_law_yes"]
 q51:cQ K mg "_law_paid" Ei ["_law_before","_law_after","_law_told"]
 q52:cQ K mg "_law_works" CO ["_law_land","_law_behind"]
 q53:cQ K mg "_law_good" Ej ["_law_moot","_law_before","_law_asked"]
 q54:cQ K mg "law" zG ["_law_script"]
 q55:oo mg "SEA" (.str "sea")
 q56:oo mg "LETTERS" (.str "abcdefghijklmnopqrstuvwxyz")
 q57:oo mg "MOST_LETTERS" (.int 8)
 q58:oo mg "MOST_HEIGHT" (.int 1000000)
 q59:oo mg "MOST_AMOUNT" (.int 1000000)
 q60:oo mg "MOST_FIELDS" (.int 12)
 q61:oo mg "MOST_DYKES" (.int 40)
 q62:oo mg "MOST_IN_A_WISH" (.int 8)
 q63:oo mg "MOST_COINS" (.int 1000000000000)
 q64:mg "abs"=aF
 q65:mg "all"=aF
 q66:mg "bool"=aF
 q67:mg "dict"=aF
 q68:mg "enumerate"=aF
 q69:mg "int"=aF
 q70:mg "isinstance"=aF
 q71:mg "len"=aF
 q72:mg "list"=aF
 q73:mg "max"=aF
 q74:mg "min"=aF
 q75:mg "range"=aF
 q76:mg "reversed"=aF
 q77:mg "set"=aF
 q78:mg "sorted"=aF
 q79:mg "str"=aF
 q80:mg "sum"=aF
 q81:mg "tuple"=aF
 q82:mg "zip"=aF
section
variable{P:bS}{w:bP}{K:bJ}{mg:aA->Option aE}{b_:bH}{C:aB}
open Ld
def fJ:(1000:Nat)<=cP:=YR
inductive La(x:V)(H:aC)(Q:aP):Prop
 |mk:∀d,bY H d x->Q (.bl (isInt d)) H->La x H Q
def x6:bW:=sp1 (La)
def AH(T:Txt K mg C):aY P w K mg b_ 1 "is_whole" ["thing"] x6:=by
 refine T.Zl.fc MN kJ ?_;rintro f g A o_ s H vs Q E i ⟨x,rfl,d,a,q⟩;obtain⟨t,ty,b,c,_⟩:=tp K a;refine⟨_,(bG (cH (jL (dH (n4 (K:=K) O) O T.q70 n3 (aG (pv 0) (aG (ou T.q69 PW) aM))) (kR (Tp (dH (n4 (K:=K) O) O T.q70 n3 (aG (pv 0) (aG (ou T.q66 OR) aM)))))))),_,O,_,_,_,t,_,O,O,ty,b,_,O,lB (λh=>?_) (λh=>?_)⟩
 .refine⟨_,O,_,_,_,t,_,O,O,ty,c,_,O,?_⟩;have e:(!uF d)=isInt d:=by cases d<;>simp_all [isInt,uF]
  rw[e];exact q
 .have e:isInt d=aK:=by cases d<;>simp_all [isInt,uF]
  rw[e]at q;exact q
inductive Ks(x:V)(H:aC)(Q:aP):Prop
 |mk:∀d,bY H d x->jM d=aD->Q (.bl (pD d)) H->Ks x H Q
def zV:bW:=sp1 (Ks)
def Lw(T:Txt K mg C):aY P w K mg b_ 1 "is_name" ["thing"] zV:=by
 refine T.Zm.fcD Ni kJ (fun f I A o_ s H vs Q E J h=>?_)
 obtain⟨x,rfl,d,o,l,q⟩:=h
 obtain⟨t,ty,L,M,r,_⟩:=tp K o
 have N:=fJ
 refine⟨_,(bC (fK (F7 (lR (iM (gW (dH (n4 (K:=K) rfl) rfl T.q70 n3 (aG (pv 0) (aG (ou T.q79 DA) aM))))) (mD (iM (Qr nu nu bB (dH Nx rfl T.q71 iY (aG (pv 0) aM)) (l7 T.q57)))))) (bG (cH mF)) fH) (bG (cH (jL (lF oY (pv 0) (l7 T.q55) (eO _)) (kR (dH (pz rfl) rfl T.q65 px (aG (fN ["sign"] 1 [] rfl (Tn (pv 0)) (fun R=>cM (i:=0) (YS:eQ (["sign"]:L9)) rfl (D5 rfl)) (fD (by decide)) (fun R=>gQ) (fun R=>(lF Pz (pv 0) (l7 T.q56) (by with_unfolding_all rfl)))) aM))))))),?_⟩
 refine⟨_,rfl,_,_,_,t,_,rfl,rfl,ty,r,_,rfl,?_⟩
 cases d with
 | str g =>
  cases (show x=.str g from o)
  have l:g.length≤1000:=B2 l
  have q:Q (.bl (jS g)) H:=q
  have u:g.length≤cP:=by omega
  refine cC ?_
  refine⟨_,rfl,g,rfl,u,_,_,rfl,rfl,_,rfl,?_⟩
  refine lB (fun h1=>?_) (fun h1=>?_)
  ·refine⟨_,_,rfl,rfl,_,rfl,?_⟩
   have m:1≤g.length:=by
    have:=B2 h1
    omega
   refine lB (fun h2=>?_) (fun h2=>?_)
   ·have e:jS g=aK:=by
     have n:¬ g.length≤8:=by
      intro j
      have:((g.length:Nat):Int)≤8:=by omega
      simp[this] at h2
     simp[jS,n]
    rw[e] at q
    exact F0 (.refl _) q
   ·have n:g.length≤8:=by
     have j:G9 (((g.length:Nat):Int)≤8)=aD:=by
      cases k:G9 (((g.length:Nat):Int)≤8) with
      | true=>rfl
      | false=>exact B6 (by rw[k];rfl) h2
     have:=B2 j
     omega
    refine⟨_,rfl,rfl,_,rfl,?_⟩
    refine lB (fun j=>?_) (fun j=>?_)
    ·have y:¬ g="sea":=by
      intro k
      subst k
      simp at j
     refine⟨_,rfl,g,rfl,?_⟩
     refine Rb (dN l (by decide)) (fun i ys H'=>H'=H∧ys=(g.cps.toList.take i).map fun c=>GE (oj c)) ⟨rfl,rfl⟩ ?_ ?_ ?_
     ·rintro i ys H' ⟨_,rfl⟩
      rw[aS,dY]
      omega
     ·rintro i c ys H' U Y z ⟨rfl,rfl⟩ k1 k2
      refine⟨_,rfl,_,_,rfl,rfl,k1 _ _ ⟨rfl,?_⟩⟩
      have B:g.cps.toList[i]?=Z c:=by simpa using z
      rw[dR,B,OE]
      simp
     ·rintro ys H' ⟨rfl,rfl⟩
      intro p D
      refine⟨p,g.cps.toList.map oj,rfl,C8 ?_,?_⟩
      ·rw[aV,dP (by simp),eP]
       rfl
      ·refine⟨H',GM D,?_⟩
       have e:jS g=(g.cps.toList.map oj).all id:=by
        rw[rR]
        simp[jS,m,n,y]
       rw[← e]
       exact q
    ·have e:jS g=aK:=by
      have k:g="sea":=by
       apply vy
       intro G
       exact j (by simp[G])
      subst k
      simp[jS]
     rw[e] at q
     exact F0 (.refl _) q
  ·have e:jS g=aK:=by
    have m:¬ 1≤g.length:=by
     intro j
     exact h1 (B0 (by omega))
    simp[jS,m]
   rw[e] at q
   exact⟨_,rfl,F0 (.refl _) q⟩
 | non=>exact F0 (.refl _) q
 | bl b=>exact F0 (.refl _) q
 | int i=>exact F0 (.refl _) q
 | lst a=>exact F0 (.refl _) q
 | tup a=>exact F0 (.refl _) q
 | dct a b=>exact F0 (.refl _) q
inductive Kd(x:V)(H:aC)(Q:aP):Prop
 |mk:∀d,bY H d x->Q (.bl (nk d)) H->Kd x H Q
def rl:bW:=sp1 (Kd)
def sI(T:Txt K mg C):aY P w K mg b_ 2 "is_height" ["thing"] rl:=by
 refine T.Zn.fc Mn kJ ?_;rintro f e A o_ s H vs Q E c ⟨x,rfl,d,a,q⟩;refine⟨_,(bG (cH (jL (bU (AH T) c (aG (pv 0) aM)) (kR (x0 nu nu (ux vq (l7 T.q58)) (pv 0) (l7 T.q58)))))),_,O,_,O,d,a,_,O,?_⟩;cases d with
 |int i=>
  cases(show x=.int i from a);refine dO ?_;have q:Q (.bl (G9 (-1000000<=i)&&G9 (i<=1000000))) H:=q;refine⟨_,O,_,O,_,_,O,O,_,O,lB (λh1=>?_) (λh1=>?_)⟩
  .refine⟨_,_,O,O,?_⟩;rw[B0 (show -1000000<=i from B2 h1),kX]at q;exact q
  .rw[show G9 (-1000000<=i)=aK from by simpa using h1,tS]at q;exact q
 |_=>exact cC q
inductive JC(x:V)(H:aC)(Q:aP):Prop
 |mk:∀d,bY H d x->Q (.bl (qj d)) H->JC x H Q
def BI:bW:=sp1 (JC)
def IT(T:Txt K mg C):aY P w K mg b_ 2 "is_amount" ["thing"] BI:=by
 refine T.Zo.fc Mo kJ ?_;rintro f e A o_ s H vs Q E c ⟨x,rfl,d,a,q⟩;refine⟨_,(bG (cH (jL (bU (AH T) c (aG (pv 0) aM)) (kR (x0 nu nu bB (pv 0) (l7 T.q59)))))),_,O,_,O,d,a,_,O,?_⟩;cases d with
 |int i=>
  cases(show x=.int i from a);refine dO ?_;have q:Q (.bl (G9 (0<=i)&&G9 (i<=1000000))) H:=q;refine⟨_,O,_,_,O,O,_,O,lB (λh1=>?_) (λh1=>?_)⟩
  .refine⟨_,_,O,O,?_⟩;rw[B0 (show 0<=i from B2 h1),kX]at q;exact q
  .rw[show G9 (0<=i)=aK from by simpa using h1,tS]at q;exact q
 |_=>exact cC q
inductive Ku(K:bJ)(x y:V)(H:aC)(Q:aP):Prop
 |mk:∀(d:aH)(p:aB)(zs:L9),bY H d x->y=.ref p->aQ K H p (zs.map C9)->Q (.bl (gK zs d)) H->Ku K x y H Q
def qm(K:bJ):bW:=gA (Ku K)
def ro(a:aA)(zs:L9):sO (.str a) (zs.map C9)=G9 (a∈zs):=by
 unfold sO;rw[mK,tN,B5];constructor
 .rintro⟨y,b,e⟩;obtain⟨u,c,rfl⟩:=cG.mp b;have d:(u==a)=aD:=e;rw[←C0.mp d];exact c
 .intro h;exact⟨_,cG.mpr ⟨a,h,O⟩,B9 a⟩
def ri(zs:L9):(zs.map C9).all pL=aD:=by
 rw[ku];intro y a;obtain⟨u,_,rfl⟩:=cG.mp a;rfl
def rh(T:Txt K mg C):aY P w K mg b_ 1 "is_one_of" ["thing","names"] (qm K):=by
 refine T.Zp.fc Mm fZ (fun f g A o_ s H vs Q E i h=>?_)
 obtain⟨x,y,rfl,d,p,zs,a,rfl,c,q⟩:=h
 obtain⟨t,ty,j,k,e,_⟩:=tp K a
 refine⟨_,(bG (cH (jL (dH (n4 (K:=K) rfl) rfl T.q70 n3 (aG (pv 0) (aG (ou T.q79 DA) aM))) (kR (lF (sN (K:=K) rfl) (pv 0) (pv 1) (by with_unfolding_all rfl)))))),?_⟩
 refine⟨_,rfl,_,_,_,t,_,rfl,rfl,ty,e,_,rfl,?_⟩
 cases d with
 | str b =>
  cases (show x=.str b from a)
  refine dO ⟨_,rfl,_,rfl,p,_,rfl,.inl c,rfl,ri zs,?_⟩
  show Q (.bl (sO (.str b) (zs.map C9))) H
  rw[ro]
  exact q
 | _=>exact cC q
inductive Ki(x y:V)(H:aC)(Q:aP):Prop
 |mk:∀(d:aH)(n:Int),bY H d x->y=.int n->Q (.bl (w0 n d)) H->Ki x y H Q
def xU:bW:=gA (Ki)
def AD(T:Txt K mg C):aY P w K mg b_ 1 "is_list_of" ["thing","most"] xU:=by
 refine T.Zq.fc XH fZ ?_;rintro f k A o_ s H vs Q E l ⟨x,y,rfl,d,n,e,rfl,q⟩;obtain⟨t,ty,m,p,r,g,_⟩:=tp K e;refine⟨_,(bG (cH (jL (dH (n4 (K:=K) O) O T.q70 n3 (aG (pv 0) (aG (ou T.q72 lM) aM))) (kR (x0 nu nu bB (dH (kB (K:=K) O) O T.q71 iY (aG (pv 0) aM)) (pv 1)))))),_,O,_,_,_,t,_,O,O,ty,g,_,O,?_⟩;cases d with
 |lst N=>
  obtain⟨a,vs,rfl,o,i⟩:=e;have j:=i.length;have q:Q (.bl (G9 (1<=N.length)&&G9 ((N.length:Int)<=n))) H:=q;refine dO ⟨_,O,a,vs,O,.inl (C8 o),_,_,O,O,_,O,?_⟩;rw[j];refine lB (λh1=>?_) (λh1=>?_)
  .refine⟨_,O,_,_,O,O,?_⟩;have b:1<=N.length:=by have:=B2 h1;omega
   rw[B0 b,kX]at q;exact q
  .have b:¬1<=N.length:=λc=>h1 (B0 YT);rw[B1 b,tS]at q;exact q
 |_=>exact cC q
inductive KY(x y:V)(H:aC)(Q:aP):Prop
 |mk:∀(d:aH)(n:Int),bY H d x->y=.int n->Q (.bl (wX n d)) H->KY x y H Q
def x8:bW:=gA (KY)
def Az(T:Txt K mg C):aY P w K mg b_ 1 "is_tuple_of" ["thing","length"] x8:=by
 refine T.Zr.fc Xu fZ ?_;rintro f j A o_ s H vs Q E k ⟨x,y,rfl,d,n,b,rfl,q⟩;obtain⟨t,ty,l,m,p,r,c⟩:=tp K b;refine⟨_,(bG (cH (jL (dH (n4 (K:=K) O) O T.q70 n3 (aG (pv 0) (aG (ou T.q81 AR) aM))) (kR (lF pK (dH (kB (K:=K) O) O T.q71 iY (aG (pv 0) aM)) (pv 1) (eO _)))))),_,O,_,_,_,t,_,O,O,ty,c,_,O,?_⟩;cases d with
 |tup N=>
  obtain⟨a,vs,rfl,o,g⟩:=b;have i:=g.length;have q:Q (.bl (G9 ((N.length:Int)=n))) H:=q;refine dO ⟨_,O,a,vs,O,.inr (D0 o),_,O,O,?_⟩;rw[i];have e:G9 (D1 (N.length:Int)=D1 n)=G9 ((N.length:Int)=n):=by rw[pB,mK];simp
  rw[e];exact q
 |_=>exact cC q
inductive KZ(x:V)(H:aC)(Q:aP):Prop
 |mk:∀(p:aB)(vs:M0)(N:M3)(zs:L9),x=.ref p->H p=Z (.lst vs)->IsL H N vs->N.map gY=zs.map Z->zs.length<=1000->Q (.bl (G9 zs.Nodup)) H->KZ x H Q
def x7:bW:=sp1 (KZ)
def PM(h:bY H d v)(e:gY d=Z b):∃a r,v=.ref a/\H a=Z (.tup (.str b::r)):=by
 cases d with
 |tup N=>
  cases N with
  |nil=>cases e
  |cons c N=>
   cases c with
   |str y=>
    cases e;obtain⟨a,vs,rfl,o,f,r,rfl,g,_⟩:=h;cases(show f=.str b from g);exact⟨a,r,O,o⟩
   |_=>cases e
 |_=>cases e
def qg(zs:L9):(zs.map (C6:aA->aT)).Nodup↔zs.Nodup:=by
 induction zs with
 |nil=>simp
 |cons b zs a=>
  rw[dD,gB,gB,a];simp
def Fu(zs:L9):(zs.map (C6:aA->aT)).map kV=zs.map C9:=by
 rw[eP];rfl
def AC(T:Txt K mg C):aY P w K mg b_ 1 "none_twice" ["rows"] x7:=by
 refine T.Zs.fcD XG kJ ?_;rintro f J A o_ s H vs Q E L ⟨x,rfl,p,us,N,zs,rfl,b,hi,g,y,q⟩;have M:=fJ;have l1:=hi.length;have U:N.length=zs.length:=by have:=B7 m8 g;simpa using this
 refine⟨_,(bG (cH (lF pK (dH call_len_set O T.q71 iY (aG (iX (JB O) O T.q77 DB (aG (fN ["row"] 1 [] O (eV (pv 0)) (λR=>cM (i:=0) (YS:eQ (["row"]:L9)) O YU) (fD YR) (λR=>gQ) (λR=>(xt 0))) aM)) aM)) (dH (kB (K:=K) O) O T.q71 iY (aG (pv 0) aM)) (eO _)))),_,O,p,O,⟨_,C8 b⟩,fU (F:=K) (xs:=us) YT (λi ys H'=>H'=H/\ys=(zs.take i).map C9) ⟨O,O⟩ ?_ ?_ ?_⟩
 .rintro i ys H' Y ⟨rfl,rfl⟩;exact⟨C8 b,by rw[aS,dY];omega⟩
 .rintro i x ys H' a0 a1 k ⟨rfl,rfl⟩ k1 k2;have a2:i<us.length:=(cR.mp k).1;obtain⟨d,m⟩:∃d,N[i]?=Z d:=⟨_,cJ YT⟩
  obtain⟨c,n⟩:∃c,zs[i]?=Z c:=⟨_,cJ YT⟩
  obtain⟨v,ev,z⟩:=hi.get m;rw[k]at ev;cases ev;have B:gY d=Z c:=by
   have:=B7 (λl=>l[i]?) g;simpa [m,n] using this
  obtain⟨a,r,rfl,o⟩:=PM z B;refine⟨_,O,a,_,0,.str c,O,O,D0 o,bZ (j:=0) O,k1 _ _ ⟨O,?_⟩⟩;rw[dR,n];simp
 .rintro ys H' ⟨rfl,rfl⟩;intro D t;have G:(zs.take us.length).map C9=(zs.map (C6:aA->aT)).map kV:=by
   rw[dP YT,Fu]
  refine⟨D,zs.map C6,O,C8 (by rw[aV,G]),by rw[aS];exact y,λp2 u=>?_⟩;have I:=FH (zs.map (C6:aA->aT));rw[aS]at I;have np:p≠D:=cX b t;have a5:p≠p2:=cX (show aI H' D _ p=_ from(bA np).trans b) u;refine⟨p2,_,_,O,aV,YT,_,O,p,us,O,.inl (C8 (by rw[bA a5,bA np];exact b)),O,?_⟩;have e:G9 (D1 ((n2 (zs.map (C6:aA->aT))).length:Int)=D1 (us.length:Int))=G9 zs.Nodup:=by
   rw[pB,mK,B5,←qg,←Ds,aS,C0];omega
  rw[e];exact F0 ((hU.new u O).trans (GM t)) q
inductive JU(x:V)(H:aC)(Q:aP):Prop
 |mk:∀d,bY H d x->jM d=aD->Q (.bl (jY d)) H->JU x H Q
def E5:bW:=sp1 (JU)
def MX(T:Txt K mg C):aY P w K mg b_ 3 "is_field" ["thing"] E5:=by
 refine T.Zt.fc MO kJ ?_;rintro f a1 A o_ s H vs Q E i ⟨x,rfl,d,k,u,q⟩;refine⟨_,(bC (fK (iM (gW (bU (Az T) i (aG (pv 0) (aG bB aM))))) (bG (cH mF)) fH) (bG (cH (jL (bU (Lw T) i (aG (xt 0) aM)) (jL (bU (sI T) i (aG (xt 0) aM)) (kR (bU (IT T) i (aG (xt 0) aM)))))))),_,O,_,_,O,d,3,k,O,_,O,?_⟩;by_cases g:∃a b c,d=.tup [a,b,c]
 .obtain⟨a,b,c,rfl⟩:=g;obtain⟨t,us,rfl,o,y,a2,rfl,z,B,a3,rfl,D,G,I,rfl,J,L⟩:=k;cases(show I=[] from L);have M:jM a=aD:=by
   exact uR (CJ u) eB
  have q:Q (.bl (pD a&&(nk b&&qj c))) H:=q;refine cC ⟨_,O,t,_,0,y,O,O,D0 o,bZ (j:=0) O,_,O,a,z,M,_,O,?_⟩;cases ea:pD a with
  |false=>rw[ea]at q;exact cC q
  |true=>
   rw[ea,kX]at q;refine dO ⟨_,O,t,_,1,B,O,O,D0 o,bZ (j:=1) O,_,O,b,D,_,O,?_⟩;cases l:nk b with
   |false=>rw[l]at q;exact cC q
   |true=>
    rw[l,kX]at q;exact dO ⟨_,O,t,_,2,G,O,O,D0 o,bZ (j:=2) O,_,O,c,J,q⟩
 .have U:jY d=aK:=tI.mpr λe=>by
   obtain⟨_,_,_,rfl,_⟩:=iD e;exact g ⟨_,_,_,O⟩
  have Y:wX 3 d=aK:=by
   cases d with
   |tup N=>
    refine B1 (λe=>?_);have a0:N.length=3:=YT
    match N,a0,g with
    |[a,b,c],_,g=>exact g ⟨a,b,c,O⟩
   |_=>rfl
  dsimp only;rw[Y];rw[U]at q;exact dO q
theorem xI(b:∀d,p d=aD->∃a,gY d=Z a):∀{N:M3},N.all p=aD->∃zs:L9,N.map gY=zs.map Z
 |[],_=>⟨[],O⟩
 |d::N,h=>by
  rw[rP,fM]at h;obtain⟨a,e⟩:=b d h.1;obtain⟨zs,c⟩:=xI b h.2;exact⟨a::zs,by rw[dD,dD,e,c]⟩
def Na(d:aH)(h:jY d=aD):∃a,gY d=Z a:=by
 obtain⟨a,_,_,rfl,_⟩:=iD h;exact⟨a,O⟩
inductive JV(x:V)(H:aC)(Q:aP):Prop
 |mk:∀d,bY H d x->jM d=aD->Q (.bl (u0 d)) H->JV x H Q
def DW:bW:=sp1 (JV)
def XP(T:Txt K mg C):aY P w K mg b_ 4 "are_fields" ["thing"] DW:=by
 refine T.Zu.fcD XJ kJ ?_;rintro f I A o_ s H vs Q E b ⟨x,rfl,d,g,r,q⟩;have J:=fJ;refine⟨_,(bG (cH (jL (bU (AD T) b (aG (pv 0) (aG (l7 T.q60) aM))) (jL (dH (pz O) O T.q65 px (aG (fN ["row"] 1 [] O (eV (pv 0)) (λR=>cM (i:=0) (YS:eQ (["row"]:L9)) O YU) (fD YR) (λR=>gQ) (λR=>(bU (MX T) b (aG (pv 0) aM)))) aM)) (kR (bU (AC T) b (aG (pv 0) aM))))))),_,O,_,_,O,d,12,g,O,_,O,?_⟩;cases d with
 |lst N=>
  obtain⟨p,us,rfl,o,hi⟩:=g;have l1:=hi.length;have j:=iJ.mp (show(G9 (N.length<=1000)&&mZ N)=aD from r);have L:N.length<=1000:=B2 j.1;have q:Q (.bl ((G9 (1<=N.length)&&G9 (N.length<=12))&&(N.all jY&&G9 ((N.map gY).Nodup)))) H:=q;have t:(G9 (1<=N.length)&&G9 ((N.length:Int)<=12))=(G9 (1<=N.length)&&G9 (N.length<=12)):=by
   congr 1;rw[mK,B5,B5];omega
  show if (G9 (1<=N.length)&&G9 ((N.length:Int)<=12))=aD then _ else _
  rw[t];refine lB (λh1=>?_) (λh1=>?_)
  .rw[h1,kX]at q;refine⟨_,O,p,O,⟨_,C8 o⟩,fU (F:=K) (xs:=us) YT (λi ys H'=>H'=H/\ys=(N.take i).map λd=>GE (jY d)) ⟨O,O⟩ ?_ ?_ ?_⟩
   .rintro i ys H' M ⟨rfl,rfl⟩;exact⟨C8 o,by rw[aS,dY];omega⟩
   .rintro i x ys H' U Y k ⟨rfl,rfl⟩ k1 k2;have a0:i<us.length:=(cR.mp k).1;obtain⟨d,c⟩:∃d,N[i]?=Z d:=⟨_,cJ YT⟩
    obtain⟨v,ev,u⟩:=hi.get c;rw[k]at ev;cases ev;refine⟨_,O,_,O,d,u,uR j.2 (dM c),k1 _ _ ⟨O,?_⟩⟩;rw[dR,c];simp
   .rintro ys H' ⟨rfl,rfl⟩;intro D a;have np:p≠D:=cX o a;refine⟨D,N.map jY,O,C8 ?_,_,O,?_⟩
    .rw[aV,dP YT,eP];rfl
    have y:(N.map jY).all id=N.all jY:=by rw[rR];rfl
    rw[y];refine lB (λh2=>?_) (λh2=>?_)
    .rw[h2,kX]at q;obtain⟨zs,e⟩:=xI Na h2;have a1:zs.length=N.length:=by have:=B7 m8 e;simpa using this.symm
     refine⟨_,O,_,O,p,us,N,zs,O,by rw[bA np];exact o,D2 (C7 a) _ _ hi,e,YT,?_⟩;have z:G9 zs.Nodup=G9 (N.map gY).Nodup:=by rw[e,mK,B5,B5,pr]
     rw[z];exact F0 (GM a) q
    .have B:N.all jY=aK:=by simpa using h2
     rw[B]at q;exact F0 (GM a) q
  .have G:(G9 (1<=N.length)&&G9 (N.length<=12))=aK:=by simpa using h1
   rw[G]at q;exact F0 (.refl _) q
 |_=>exact cC (F0 (.refl _) q)
inductive KL(K:bJ)(x y u:V)(H:aC)(Q:aP):Prop
 |mk:∀(a b:aH)(p:aB)(zs:L9),bY H a x->bY H b y->u=.ref p->aQ K H p (zs.map C9)->Q (.bl (sZ zs a b)) H->KL K x y u H Q
def E2(K:bJ):bW:=kU (KL K)
def MB(T:Txt K mg C):aY P w K mg b_ 2 "are_sides" ["one","other","sides"] (E2 K):=by
 refine T.Zv.fc Mr lA ?_;rintro f n A o_ s H vs Q E j ⟨x,y,u,rfl,a,b,p,zs,k,l,rfl,m,q⟩;refine⟨_,(bG (cH (jL (bU (rh T) j (aG (pv 0) (aG (pv 2) aM))) (jL (bU (rh T) j (aG (pv 1) (aG (pv 2) aM))) (kR (lF oY (pv 0) (pv 1) (eO _))))))),?_⟩;have q:Q (.bl (gK zs a&&(gK zs b&&!iF a b))) H:=q;refine⟨_,O,_,O,_,_,O,a,p,zs,k,O,m,_,O,?_⟩;cases ea:gK zs a with
 |false=>rw[ea]at q;exact cC q
 |true=>
  rw[ea,kX]at q;refine dO ⟨_,O,_,O,_,_,O,b,p,zs,l,O,m,_,O,?_⟩;cases c:gK zs b with
  |false=>rw[c]at q;exact cC q
  |true=>
   rw[c,kX]at q;cases a with
   |str d=>
    cases b with
    |str g=>
     cases(show x=.str d from k);cases(show y=.str g from l);refine dO ⟨_,O,_,O,O,?_⟩;have e:(!G9 (C9 d=C9 g))=!iF (.str d) (.str g):=by rw[rp];rfl
     rw[e];exact q
    |_=>cases c
   |_=>cases ea
inductive KN(x y:V)(H:aC)(Q:aP):Prop
 |mk:∀(d:aH)(j:Int),bY H d x->y=.int j->Q (.bl (ol (.int j) d)) H->KN x y H Q
def FZ:bW:=gA (KN)
def Nn(T:Txt K mg C):aY P w K mg b_ 3 "is_sill" ["thing","crown"] FZ:=by
 refine T.Zw.fc Nh fZ ?_;rintro f n A o_ s H vs Q E m ⟨x,y,rfl,d,j,k,rfl,q⟩;refine⟨_,(bG (cH (Ag (lF z1 (pv 0) nl (eO _)) (kR (jL (bU (sI T) m (aG (pv 0) aM)) (kR (lF qC (pv 0) (pv 1) (eO _)))))))),_,O,O,_,O,?_⟩;cases d with
 |non=>
  cases(show x=.non from k);rw[B0 O];exact dO q
 |int i=>
  cases(show x=.int i from k);rw[B1 (show ¬D1 i=G5 by intro g;cases g)];refine cC ⟨_,O,_,O,.int i,O,_,O,?_⟩;have q:Q (.bl (fC i&&G9 (i<j))) H:=q;show if fC i=aD then _ else _
  cases e:fC i with
  |false=>rw[e]at q;exact cC q
  |true=>rw[e,kX]at q;exact dO ⟨_,O,_,O,_,_,O,O,q⟩
 |bl b=>
  cases(show x=.bl b from k);rw[B1 (show ¬GE b=G5 by intro g;cases g)];exact cC ⟨_,O,_,O,.bl b,O,_,O,cC q⟩
 |str b=>
  cases(show x=.str b from k);rw[B1 (show ¬C9 b=G5 by intro g;cases g)];exact cC ⟨_,O,_,O,.str b,O,_,O,cC q⟩
 |lst b=>
  obtain⟨a,us,rfl,o⟩:=id k;rw[B1 (show ¬F2 a=G5 by intro g;cases g)];exact cC ⟨_,O,_,O,.lst b,k,_,O,cC q⟩
 |tup b=>
  obtain⟨a,us,rfl,o⟩:=id k;rw[B1 (show ¬F2 a=G5 by intro g;cases g)];exact cC ⟨_,O,_,O,.tup b,k,_,O,cC q⟩
 |dct b c=>
  obtain⟨a,us,rfl,o⟩:=id k;rw[B1 (show ¬F2 a=G5 by intro g;cases g)];exact cC ⟨_,O,_,O,.dct b c,k,_,O,cC q⟩
inductive JO(K:bJ)(x y:V)(H:aC)(Q:aP):Prop
 |mk:∀(d:aH)(p:aB)(zs:L9),bY H d x->jM d=aD->y=.ref p->aQ K H p (zs.map C9)->Q (.bl (ko zs d)) H->JO K x y H Q
def Gh(K:bJ):bW:=gA (JO K)
def No(T:Txt K mg C):aY P w K mg b_ 4 "is_dyke" ["thing","sides"] (Gh K):=by
 refine T.Zx.fc Nj fZ ?_;rintro f aj A o_ s H vs Q E i ⟨x,y,rfl,d,p,zs,J,a5,rfl,a6,q⟩;refine⟨_,(bC (fK (F7 (lR (iM (gW (bU (Az T) i (aG (pv 0) (aG bB aM))))) (lR (iM (gW (bU (Lw T) i (aG (xt 0) aM)))) (mD (iM (gW (bU (MB T) i (aG (xt 0) (aG (xt 0) (aG (pv 1) aM)))))))))) (bG (cH mF)) fH) (bG (cH (jL (bU (sI T) i (aG (xt 0) aM)) (jL (bU (IT T) i (aG (xt 0) aM)) (kR (bU (Nn T) i (aG (xt 0) (aG (xt 0) aM))))))))),_,O,_,_,O,d,6,J,O,_,O,?_⟩;by_cases k:∃n a b c r l,d=.tup [n,a,b,c,r,l]
 .obtain⟨n,a,b,c,r,l,rfl⟩:=k;obtain⟨t,us,rfl,o,u,ak,rfl,a7,z,al,rfl,a8,B,am,rfl,a9,m,an,rfl,L,D,ao,rfl,aa,G,ac,rfl,ae,af⟩:=J;cases(show ac=[] from af);have sn:jM n=aD:=by
   exact uR (CJ a5) eB
  have q:Q (.bl (pD n&&sZ zs a b&&(nk c&&(qj r&&ol c l)))) H:=q;have g:∀(j:Nat)(v:V),([u,z,B,m,D,G]:M0)[j]?=Z v->lZ [u,z,B,m,D,G] (j:Int)=Z v:=λj v e=>bZ e;refine cC ⟨_,O,t,_,0,u,O,O,D0 o,g 0 _ O,_,O,n,a7,sn,_,O,?_⟩;cases M:pD n with
  |false=>rw[M]at q;exact dO q
  |true=>
   rw[M,kX]at q;refine cC ⟨_,O,t,_,1,z,O,O,D0 o,g 1 _ O,_,O,t,_,2,B,O,O,D0 o,g 2 _ O,_,O,_,_,_,O,a,b,p,zs,a8,a9,O,a6,_,O,?_⟩;cases es:sZ zs a b with
   |false=>rw[es]at q;exact dO q
   |true=>
    rw[es,kX]at q;refine cC ⟨_,O,t,_,3,m,O,O,D0 o,g 3 _ O,_,O,c,L,_,O,?_⟩;cases I:nk c with
    |false=>rw[I]at q;exact cC q
    |true=>
     rw[I,kX]at q;refine dO ⟨_,O,t,_,4,D,O,O,D0 o,g 4 _ O,_,O,r,aa,_,O,?_⟩;cases U:qj r with
     |false=>rw[U]at q;exact cC q
     |true=>
      rw[U,kX]at q;cases c with
      |int j=>
       cases(show m=.int j from L);exact dO ⟨_,O,t,_,5,G,O,O,D0 o,g 5 _ O,_,O,t,_,3,_,O,O,D0 o,g 3 _ O,_,_,O,l,j,ae,O,q⟩
      |_=>cases I
 .have ag:ko zs d=aK:=tI.mpr λe=>by
   obtain⟨_,_,_,_,_,_,rfl,_⟩:=gE e;exact k ⟨_,_,_,_,_,_,O⟩
  have ah:wX 6 d=aK:=by
   cases d with
   |tup N=>
    refine B1 (λe=>?_);have ai:N.length=6:=YT
    match N,ai,k with
    |[n,a,b,c,r,l],_,k=>exact k ⟨n,a,b,c,r,l,O⟩
   |_=>rfl
  dsimp only;rw[ah];rw[ag]at q;exact dO q
def Nv(d:aH)(h:ko zs d=aD):∃a,gY d=Z a:=by
 obtain⟨a,_,_,_,_,_,rfl,_⟩:=gE h;exact⟨a,O⟩
inductive JQ(K:bJ)(x y:V)(H:aC)(Q:aP):Prop
 |mk:∀(d:aH)(p:aB)(zs:L9),bY H d x->jM d=aD->y=.ref p->H p=Z (.lst (zs.map C9))->Q (.bl (vc zs d)) H->JQ K x y H Q
def E6(K:bJ):bW:=gA (JQ K)
def MC(T:Txt K mg C):aY P w K mg b_ 5 "are_dykes" ["thing","sides"] (E6 K):=by
 refine T.Zy.fcD Ms fZ ?_;rintro f U A o_ s H vs Q E c ⟨x,y,rfl,d,t,a,j,u,rfl,z,q⟩;have Y:=fJ;refine⟨_,(bG (cH (jL (bU (AD T) c (aG (pv 0) (aG (l7 T.q61) aM))) (jL (dH (pz O) O T.q65 px (aG (fN ["row","sides"] 1 [1] O (eV (pv 0)) (λR=>cM (i:=0) (YS:eQ (["row","sides"]:L9)) O YU) (fD YR) (λR=>gQ) (λR=>(bU (No T) c (aG (pv 0) (aG (pv 1) aM))))) aM)) (kR (bU (AC T) c (aG (pv 0) aM))))))),_,O,_,_,O,d,40,j,O,_,O,?_⟩;cases d with
 |lst N=>
  obtain⟨p,us,rfl,o,hi⟩:=j;have l1:=hi.length;have k:=iJ.mp (show(G9 (N.length<=1000)&&mZ N)=aD from u);have a0:N.length<=1000:=B2 k.1;have q:Q (.bl ((G9 (1<=N.length)&&G9 (N.length<=40))&&(N.all (ko a)&&G9 ((N.map gY).Nodup)))) H:=q;have B:(G9 (1<=N.length)&&G9 ((N.length:Int)<=40))=(G9 (1<=N.length)&&G9 (N.length<=40)):=by
   congr 1;rw[mK,B5,B5];omega
  show if (G9 (1<=N.length)&&G9 ((N.length:Int)<=40))=aD then _ else _
  rw[B];refine lB (λh1=>?_) (λh1=>?_)
  .rw[h1,kX]at q;refine⟨_,O,p,O,⟨_,C8 o⟩,fU (F:=K) (xs:=us) YT (λi ys H'=>H'=H/\ys=(N.take i).map λd=>GE (ko a d)) ⟨O,O⟩ ?_ ?_ ?_⟩
   .rintro i ys H' a1 ⟨rfl,rfl⟩;exact⟨C8 o,by rw[aS,dY];omega⟩
   .rintro i x ys H' a2 a3 l ⟨rfl,rfl⟩ k1 k2;have a4:i<us.length:=(cR.mp l).1;obtain⟨d,e⟩:∃d,N[i]?=Z d:=⟨_,cJ YT⟩
    obtain⟨v,ev,G⟩:=hi.get e;rw[l]at ev;cases ev;refine⟨_,O,_,O,_,_,O,d,t,a,G,uR k.2 (dM e),O,C8 z,k1 _ _ ⟨O,?_⟩⟩;rw[dR,e];simp
   .rintro ys H' ⟨rfl,rfl⟩;intro D b;have np:p≠D:=cX o b;refine⟨D,N.map (ko a),O,C8 ?_,_,O,?_⟩
    .rw[aV,dP YT,eP];rfl
    have I:(N.map (ko a)).all id=N.all (ko a):=by rw[rR];rfl
    rw[I];refine lB (λh2=>?_) (λh2=>?_)
    .rw[h2,kX]at q;obtain⟨zs,g⟩:=xI Nv h2;have a5:zs.length=N.length:=by have:=B7 m8 g;simpa using this.symm
     refine⟨_,O,_,O,p,us,N,zs,O,by rw[bA np];exact o,D2 (C7 b) _ _ hi,g,YT,?_⟩;have J:G9 zs.Nodup=G9 (N.map gY).Nodup:=by rw[g,mK,B5,B5,pr]
     rw[J];exact F0 (GM b) q
    .have L:N.all (ko a)=aK:=by simpa using h2
     rw[L]at q;exact F0 (GM b) q
  .have M:(G9 (1<=N.length)&&G9 (N.length<=40))=aK:=by simpa using h1
   rw[M]at q;exact F0 (.refl _) q
 |_=>exact cC (F0 (.refl _) q)
inductive Kf(C:aB)(x v1 v2:V)(H:aC)(Q:aP):Prop
 |mk:∀(p dx:aB)(fs N:M3),x=.ref p->H p=Z (.ins C dx [])->bY H (.lst fs) v1->bY H (.lst N) v2->jM (.lst fs)=aD->jM (.lst N)=aD->u0 (.lst fs)=aD->vc ("sea" :: fs.map aN) (.lst N)=aD->(∀H',dU C H' p fs N->(∀b o,H b=Z o->b≠p->H' b=Z o)->Q .non H')->Kf C x v1 v2 H Q
def zW(C:aB):bW:=kU (Kf C)
inductive KG(C:aB)(sel:M3->M3->M3)(x:V)(H:aC)(Q:aP):Prop
 |mk:∀(p:aB)(fs N:M3),x=.ref p->dU C H p fs N->(∀(l:aB)(vs:M0)(H':aC),aL H H'->H l=aF->H' l=Z (.lst vs)->IsL H' (sel fs N) vs->Q (.ref l) H')->KG C sel x H Q
def ta(C:aB)(a:M3->M3->M3):bW:=sp1 (KG C a)
inductive KU(C:aB)(sel:M3->M3->L9)(x:V)(H:aC)(Q:aP):Prop
 |mk:∀(p:aB)(fs N:M3),x=.ref p->dU C H p fs N->(∀(l:aB)(H':aC),aL H H'->H l=aF->H' l=Z (.lst ((sel fs N).map C9))->Q (.ref l) H')->KU C sel x H Q
def og(C:aB)(a:M3->M3->L9):bW:=sp1 (KU C a)
inductive KH(C:aB)(sel:M3->M3->M3)(x:V)(H:aC)(Q:aP):Prop
 |mk:∀(p:aB)(fs N:M3),x=.ref p->dU C H p fs N->(∀(l:aB)(vs:M0),H l=aF->IsL H (sel fs N) vs->Q (.ref l) (aI H l (.lst vs)))->KH C sel x H Q
def vi(C:aB)(a:M3->M3->M3):bW:=sp1 (KH C a)
inductive KV(C:aB)(sel:M3->M3->L9)(x:V)(H:aC)(Q:aP):Prop
 |mk:∀(p:aB)(fs N:M3),x=.ref p->dU C H p fs N->(∀(l:aB),H l=aF->Q (.ref l) (aI H l (.lst ((sel fs N).map C9))))->KV C sel x H Q
def x9(C:aB)(a:M3->M3->L9):bW:=sp1 (KV C a)
def Qo:∀vs H Q E,ta C b vs H Q E->vi C b vs H Q E:=by
 rintro vs H Q E ⟨x,rfl,p,fs,N,rfl,L,q⟩;exact⟨_,O,p,fs,N,O,L,λl us a hi=>q l us _ (C7 a) a aV (D2 (C7 a) _ _ hi)⟩
def Qh:∀vs H Q E,og C a vs H Q E->x9 C a vs H Q E:=by
 rintro vs H Q E ⟨x,rfl,p,fs,N,rfl,L,q⟩;exact⟨_,O,p,fs,N,O,L,λl b=>q l _ (C7 b) b aV⟩
def Xr(T:Txt K mg C):eR P w K mg b_ 1 C "fields" ["self"] (vi C λfs _=>fs):=by
 refine T.Os.mcD Xx kJ ?_;rintro f i A o_ s H vs Q E j ⟨x,rfl,p,fs,N,rfl,L,q⟩;obtain⟨dx,a,k,d,⟨k1,h1,m,e⟩,n⟩:=L.ex;refine⟨_,(bG (cH (iX (AA O) O T.q72 lM (aG (z0 rB tw vC xH (lG (pv 0) O)) aM)))),_,O,p,C,dx,_,_,O,d,T.ad,T.so,yi _ _,.inr (.inr (.inl ⟨O,.inl ⟨_,h1⟩⟩)),a,k1,O,O,.inl h1,λv b=>?_⟩;have g:a≠v:=cX h1 b;exact⟨v,a,k1,O,aV,.inl (by rw[bA g];exact h1),λl c=>F0 (hU.under b O c) (q l _ ((C7 b).free c) e)⟩
def Iz(T:Txt K mg C):eR P w K mg b_ 1 C "dykes" ["self"] (vi C λ_ N=>N):=by
 refine T.Pi.mcD XK kJ ?_;rintro f i A o_ s H vs Q E j ⟨x,rfl,p,fs,N,rfl,L,q⟩;obtain⟨dx,k,a,d,m,⟨k1,h1,n,e⟩⟩:=L.ex;refine⟨_,(bG (cH (iX (AA O) O T.q72 lM (aG (z0 rB tw vC xH (lG (pv 0) O)) aM)))),_,O,p,C,dx,_,_,O,d,T.ad,T.Cl,zM _ _,.inr (.inr (.inl ⟨O,.inl ⟨_,h1⟩⟩)),a,k1,O,O,.inl h1,λv b=>?_⟩;have g:a≠v:=cX h1 b;exact⟨v,a,k1,O,aV,.inl (by rw[bA g];exact h1),λl c=>F0 (hU.under b O c) (q l _ ((C7 b).free c) e)⟩
def uL(T:Txt K mg C):eR P w K mg b_ 1 C "dykes" ["self"] (ta C λ_ N=>N):=(Iz T).imp Qo
def Cp{J:List (aT×V)}{N:M3}(e:J.map (·.1)=N.map m0):(J.map λa=>kV a.1)=(N.map aN).map C9:=by
 have h:(J.map λa=>kV a.1)=(J.map (·.1)).map kV:=by rw[eP];rfl
 rw[h,e,eP,eP];rfl
def Wu(T:Txt K mg C):eR P w K mg b_ 1 C "field_names" ["self"] (x9 C λfs _=>fs.map aN):=by
 refine T.Re.mc Wy kJ ?_;rintro f e A o_ s H vs Q E g ⟨x,rfl,p,fs,N,rfl,L,q⟩;obtain⟨dx,a,i,b,⟨k1,h1,c,j⟩,k⟩:=L.ex;refine⟨_,(bG (cH (iX (xl O) O T.q72 lM (aG (lG (pv 0) O) aM)))),?_⟩;refine⟨_,O,p,C,dx,_,_,O,b,T.ad,T.so,yi _ _,a,k1,O,.inl h1,λl d=>?_⟩;have:=q l d;rw[Cp c];exact this
def WA(T:Txt K mg C):eR P w K mg b_ 1 C "dyke_names" ["self"] (x9 C λ_ N=>N.map aN):=by
 refine T.Tm.mc WB kJ ?_;rintro f e A o_ s H vs Q E g ⟨x,rfl,p,fs,N,rfl,L,q⟩;obtain⟨dx,i,a,b,j,⟨k1,h1,c,k⟩⟩:=L.ex;refine⟨_,(bG (cH (iX (xl O) O T.q72 lM (aG (lG (pv 0) O) aM)))),?_⟩;refine⟨_,O,p,C,dx,_,_,O,b,T.ad,T.Cl,zM _ _,a,k1,O,.inl h1,λl d=>?_⟩;have:=q l d;rw[Cp c];exact this
def rg(T:Txt K mg C):eR P w K mg b_ 1 C "field_names" ["self"] (og C λfs _=>fs.map aN):=(Wu T).imp Qh
def oS(h:bY H (.tup [.str n,.str a,.str b,.int c,.int r,s]) v):∃t vs,v=.ref t/\H t=Z (.tup [.str n,.str a,.str b,.int c,.int r,vs])/\bY H s vs:=by
 obtain⟨t,us,rfl,o,d,y,rfl,e,f,z,rfl,g,i,A,rfl,j,k,B,rfl,l,m,C,rfl,p,q,u,rfl,w,x⟩:=h;cases(show u=[] from x);cases(show d=_ from e);cases(show f=_ from g);cases(show i=_ from j);cases(show k=_ from l);cases(show m=_ from p);exact⟨t,q,O,o,w⟩
def oR(h:bY H (.tup [.str n,.int g,.int e]) v):∃t,v=.ref t/\H t=Z (.tup [.str n,.int g,.int e]):=by
 obtain⟨t,us,rfl,o,a,l,rfl,b,c,m,rfl,d,f,i,rfl,j,k⟩:=h;cases(show i=[] from k);cases(show a=_ from b);cases(show c=_ from d);cases(show f=_ from j);exact⟨t,O,o⟩
def Xq(T:Txt K mg C):eR P w K mg b_ 2 C "sluices" ["self"] (og C λ_ N=>(N.filter qs).map aN):=by
 refine T.Ty.mc Xn kJ ?_;rintro f a0 A o_ s H vs Q E M ⟨x,rfl,p,fs,N,rfl,L,q⟩;have a1:=fJ;obtain⟨dx,a2,a3,g,_⟩:=L.ex;have y:=(sR _ _).mp L.okd;refine⟨_,(bG (cH (fN ["dyke"] 1 [] O (eV (jA T.ad (uL T) (M.mono YR) (pv 0))) (λR=>cM (i:=0) (YS:eQ (["dyke"]:L9)) O YU) (fD YR) (λR=>mX (fG zJ (xt 0) nl (eO _))) (λR=>(xt 0))))),_,O,p,dx,_,O,g,jQ _ _ YS YS,_,O,p,fs,N,O,L,λl us z B fl D hi=>?_⟩;have hi:IsL z N us:=hi;have l1:=hi.length;have l2:=y.l2;refine⟨l,O,⟨_,C8 D⟩,fU (F:=K) (xs:=us) YT (λi ys H'=>H'=z/\ys=(((N.take i).filter qs).map aN).map C9/\ys.length<=i) ⟨O,O,bQ _⟩ ?_ ?_ ?_⟩
 .rintro i ys H' a4 ⟨rfl,rfl,m⟩;exact⟨C8 D,m⟩
 .rintro i x ys H' a5 a6 g ⟨rfl,rfl,m⟩ k1 k2;have a7:i<us.length:=(cR.mp g).1;obtain⟨d,k⟩:∃d,N[i]?=Z d:=⟨_,cJ YT⟩
  obtain⟨v,ev,U⟩:=hi.get k;rw[g]at ev;cases ev;obtain⟨n,a,b,c,r,u,rfl,_⟩:=gE (y.all d (dM k));obtain⟨t,vs,rfl,o,Y⟩:=oS U;refine⟨_,O,t,_,5,vs,O,O,D0 o,bZ (j:=5) O,O,_,O,?_⟩;rw[QK Y];have G:qs (.tup [.str n,.str a,.str b,.int c,.int r,u])=!uz u:=O;cases e:uz u with
  |true=>
   refine cC (k2 _ ⟨O,?_,YT⟩);rw[dR,k];simp[G,e]
  |false=>
   refine dO ⟨_,O,t,_,0,.str n,O,O,D0 o,bZ (j:=0) O,k1 _ _ ⟨O,?_,by rw[eW,lV];omega⟩⟩;rw[dR,k];simp[G,e,aN,gY]
 .rintro ys H' ⟨rfl,rfl,m⟩;intro l2 I;refine q l2 _ (B.trans (C7 I)) (B.free I) ?_;rw[aV,dP YT]
def fV(L:dU C H p fs N):oL fs/\ky ("sea" :: fs.map aN) N:=⟨(Bz _).mp L.okf,(sR _ _).mp L.okd⟩
inductive Kc(C:aB)(x y:V)(H:aC)(Q:aP):Prop
 |mk:∀(p:aB)(fs N:M3)(z:aA)(g e:Int),x=.ref p->y=.str z->dU C H p fs N->F6 [.str z,.int g,.int e]∈fs->Q (.int g) H->Kc C x y H Q
def BH(C:aB):bW:=gA (Kc C)
def Iy(T:Txt K mg C):eR P w K mg b_ 1 C "ground" ["self","field"] (BH C):=by
 refine T.Za.mc Xw fZ ?_;rintro f u A o_ s H vs Q E a ⟨x,y,rfl,p,fs,N,b,g,e,rfl,rfl,L,m,q⟩;have c:=jT a;obtain⟨dx,d,z,i,⟨k1,h1,l,n⟩,B⟩:=L.ex;obtain⟨v,ev,r⟩:=x5 l n (fV L).1.nd m;obtain⟨t,rfl,o⟩:=oR r;refine⟨_,(bG (cH (iO (oa (K:=K) O) (iZ c (lG (pv 0) O) (pv 1) (λ_ _=>O)) bB (λ_ _=>O)))),_,O,p,C,dx,_,_,O,i,T.ad,T.so,yi _ _,_,O,d,.ref t,O,?_,t,_,1,.int g,O,O,D0 o,bZ (j:=1) O,q⟩;rw[←ev];exact kL.k (k:=C6 b) h1
inductive JN(C:aB)(x y:V)(H:aC)(Q:aP):Prop
 |mk:∀(p:aB)(fs N:M3)(z:aA)(g e:Int),x=.ref p->y=.str z->dU C H p fs N->F6 [.str z,.int g,.int e]∈fs->Q (.int e) H->JN C x y H Q
def Gi(C:aB):bW:=gA (JN C)
def MD(T:Txt K mg C):eR P w K mg b_ 1 C "dues" ["self","field"] (Gi C):=by
 refine T.Zb.mc Mx fZ ?_;rintro f u A o_ s H vs Q E a ⟨x,y,rfl,p,fs,N,b,g,e,rfl,rfl,L,m,q⟩;have c:=jT a;obtain⟨dx,d,z,i,⟨k1,h1,l,n⟩,B⟩:=L.ex;obtain⟨v,ev,r⟩:=x5 l n (fV L).1.nd m;obtain⟨t,rfl,o⟩:=oR r;refine⟨_,(bG (cH (iO (oa (K:=K) O) (iZ c (lG (pv 0) O) (pv 1) (λ_ _=>O)) bB (λ_ _=>O)))),_,O,p,C,dx,_,_,O,i,T.ad,T.so,yi _ _,_,O,d,.ref t,O,?_,t,_,2,.int e,O,O,D0 o,bZ (j:=2) O,q⟩;rw[←ev];exact kL.k (k:=C6 b) h1
inductive JP(C:aB)(x y:V)(H:aC)(Q:aP):Prop
 |mk:∀(p:aB)(fs N:M3)(d:aH),x=.ref p->y=.str (aN d)->dU C H p fs N->d∈N->(∀v,bY H d v->Q v H)->JP C x y H Q
def ya(C:aB):bW:=gA (JP C)
def AE(T:Txt K mg C):eR P w K mg b_ 1 C "dyke" ["self","name"] (ya C):=by
 refine T.Zc.mc Mw fZ ?_;rintro f l A o_ s H vs Q E a ⟨x,y,rfl,p,fs,N,d,rfl,rfl,L,m,q⟩;have b:=jT a;obtain⟨dx,n,c,e,o,⟨k1,h1,g,i⟩⟩:=L.ex;obtain⟨v,ev,j⟩:=x5 g i (fV L).2.nd m;refine⟨_,(bG (cH (iZ b (lG (pv 0) O) (pv 1) (λ_ _=>O)))),_,O,p,C,dx,_,_,O,e,T.ad,T.Cl,zM _ _,_,O,c,v,O,?_,q v j⟩;rw[←ev];exact kL.k (k:=C6 (aN d)) h1
theorem EW{q p:Type}:∀{xs:List q} {ys:List p},xs.length=ys.length->(xs.zip ys).map (·.1)=xs
 |[],[],_=>rfl
 |x::xs,y::ys,h=>by rw[yS,dD,EW (by simpa using h)]
 |[],_::_,h=>by simp at h
 |_::_,[],h=>by simp at h
theorem EU{q p:Type}:∀{xs:List q} {ys:List p},xs.length=ys.length->(xs.zip ys).map (·.2)=ys
 |[],[],_=>rfl
 |x::xs,y::ys,h=>by rw[yS,dD,EU (by simpa using h)]
 |[],_::_,h=>by simp at h
 |_::_,[],h=>by simp at h
def ll(N:M3)(us:M0):List (aT×V):=(N.map m0).zip us
def xz(h:us.length=N.length):(ll N us).map (·.1)=N.map m0:=EW (by rw[aS];exact h.symm)
def Cj(h:us.length=N.length):(ll N us).map (·.2)=us:=EU (by rw[aS];exact h.symm)
def xG(h:us.length=N.length):(ll N us).length=us.length:=by
 unfold ll;rw[wg,aS];omega
def Eu{N:M3}{us:M0}{i:Nat}{d:aH}(a:N[i]?=Z d)(b:us[i]?=Z v):(ll N us)[i]?=Z (m0 d,v):=by
 unfold ll;rw[List.getElem?_zip_eq_some];exact⟨by rw[dB,a];rfl,b⟩
def uX{N:M3}(h:(N.map aN).Nodup):(N.map m0).Nodup:=by
 have e:N.map m0=(N.map aN).map C6:=by rw[eP];rfl
 rw[e,qg];exact h
def Jy(T:Txt K mg C):q3 P w K mg b_ 6 C ["self","fields","dykes"] (zW C):=by
 refine T.Id.ic MT lA ?_;rintro f bn A o_ s H vs Q E ak ⟨x,bo,bp,rfl,p,dx,fs,N,rfl,Y,al,am,b5,b6,a6,a7,q⟩;have bq:=fJ;have a0:=(Bz _).mp a6;have a8:=(sR _ _).mp a7;have lf:=a0.l2;have ld:=a8.l2;obtain⟨an,us,rfl,a1,a2⟩:=id al;obtain⟨b7,ws,rfl,ao,a9⟩:=id am;have l1:=a2.length;have l2:=a9.length;refine⟨_,(bC (fK (iM (gW (bU (XP T) ak (aG (pv 1) aM)))) (bG n8) fH) (bC (fK (iM (gW (bU (MC T) ak (aG (pv 2) (aG (bK tf (gX (aG (l7 T.q55) aM)) (fN ["field"] 1 [] O (eV (pv 1)) (λR=>cM (i:=0) (YS:eQ (["field"]:L9)) O YU) (fD YR) (λR=>gQ) (λR=>(xt 0)))) aM))))) (bG n8) fH) (bC (td (pv 0) (iX (oQ O) O T.q67 mW (aG (fN ["field"] 1 [] O (eV (pv 1)) (λR=>cM (i:=0) (YS:eQ (["field"]:L9)) O YU) (fD YR) (λR=>gQ) (λR=>(gF (aG (xt 0) (aG (pv 0) aM))))) aM)) O) (bG (td (pv 0) (iX (oQ O) O T.q67 mW (aG (fN ["dyke"] 1 [] O (eV (pv 2)) (λR=>cM (i:=0) (YS:eQ (["dyke"]:L9)) O YU) (fD YR) (λR=>gQ) (λR=>(gF (aG (xt 0) (aG (pv 0) aM))))) aM)) O))))),?_⟩;refine⟨_,O,_,O,.lst fs,al,b5,_,O,?_⟩;rw[a6];refine cC ?_;refine⟨_,O,dA O,λD b8=>?_⟩;have a3:=C7 (o:=.lst [.str "sea"]) b8;refine⟨_,O,an,O,⟨_,C8 (a3 _ _ a1)⟩,?_⟩;refine fU (F:=K) (xs:=us) YT (λi ys H'=>H'=aI H D (.lst [.str "sea"])/\ys=((fs.take i).map aN).map C9) ⟨O,O⟩ ?_ ?_ ?_
 .rintro i ys H' ap ⟨rfl,rfl⟩;exact⟨C8 (a3 _ _ a1),by rw[aS,aS,dY];omega⟩
 .rintro i x ys H' aq ar z ⟨rfl,rfl⟩ k1 k2;have as:i<us.length:=(cR.mp z).1;obtain⟨d,y⟩:∃d,fs[i]?=Z d:=⟨_,cJ YT⟩
  obtain⟨v,ev,L⟩:=a2.get y;rw[z]at ev;cases ev;obtain⟨u,g,e,rfl,_⟩:=iD (a0.all d (dM y));obtain⟨t,rfl,o⟩:=oR L;refine⟨_,O,t,_,0,.str u,O,O,D0 (a3 _ _ o),bZ (j:=0) O,k1 _ _ ⟨O,?_⟩⟩;rw[dR,y];simp[aN,gY]
 .rintro ys H' ⟨rfl,rfl⟩;intro p2 b9;rw[dP YT];have au:=C7 (o:=.lst ((fs.map aN).map C9)) b9;refine⟨D,p2,_,_,O,O,au _ _ aV,aV,by simp only[aS,fW,tO];omega,λaa ba=>?_⟩;have bb:=C7 (o:=.lst ([.str "sea"]++(fs.map aN).map C9)) ba;have S:=a3.trans (au.trans bb);generalize bc:aI (aI (aI H D (.lst [.str "sea"])) p2 (.lst ((fs.map aN).map C9))) aa (.lst ([.str "sea"]++(fs.map aN).map C9))=av at S;have bd:av aa=Z (.lst ((("sea":aA)::fs.map aN).map C9)):=by rw[←bc,aV];rfl
  refine⟨_,_,O,.lst N,aa,_,F9 S _ _ am,b6,O,bd,_,O,?_⟩;rw[a7];refine cC ?_;refine⟨_,O,an,O,⟨_,C8 (S _ _ a1)⟩,?_⟩;refine fU (F:=K) (xs:=us) YT (λi ys H'=>aL av H'/\fF H' ys ((ll fs us).take i)) ⟨D7 _,GT _⟩ ?_ ?_ ?_
  .rintro i ys H' ap ⟨I,m⟩;exact⟨C8 (I _ _ (S _ _ a1)),by have:=m.len;rw[dY]at this;omega⟩
  .rintro i x ys H' aq ar z ⟨I,m⟩ k1 k2;have as:i<us.length:=(cR.mp z).1;obtain⟨d,y⟩:∃d,fs[i]?=Z d:=⟨_,cJ YT⟩
   obtain⟨v,ev,L⟩:=a2.get y;rw[z]at ev;cases ev;obtain⟨u,g,e,rfl,_⟩:=iD (a0.all d (dM y));obtain⟨t,rfl,o⟩:=oR L;have ac:=I _ _ (S _ _ o);refine⟨_,O,t,_,0,.str u,O,O,D0 ac,bZ (j:=0) O,_,O,dA O,λbe M=>k1 _ _ ⟨I.trans (C7 M),?_⟩⟩;rw[dR,Eu y z];exact m.snoc (k:=C6 u) M
  .rintro ys aw ⟨I,m⟩;rw[dP (by rw[xG l1];omega)]at m;intro ae bf;have ax:=C7 (o:=.lst ys) bf;refine⟨ae,ys,ll fs us,O,C8 aV,m.same ax,by rw[xG l1];omega,by rw[xz l1];exact uX a0.nd,λl bg=>?_⟩;have bh:=C7 (o:=.dK (ll fs us)) bg;have a4:=S.trans (I.trans (ax.trans bh));have af:aI (aI aw ae (.lst ys)) l (.dK (ll fs us)) l=Z (.dK (ll fs us)):=aV;generalize aI (aI aw ae (.lst ys)) l (.dK (ll fs us))=U at a4 af;refine⟨_,O,p,C,dx,[],O,a4 _ _ Y,T.ad,T.so,(by show 0<1000;decide),?_⟩;have SB:∀b o,H b=Z o->b≠p->aI U p (.ins C dx (gJ "field_rows" (.ref l) [])) b=Z o:=λb o e B=>by rw[bA B];exact a4 _ _ e
   have ay:l≠p:=si af (a4 _ _ Y) (by intro u;cases u);have a5:sm H (aI U p (.ins C dx (gJ "field_rows" (.ref l) []))):=λb o e ag=>SB b o e (λu=>by subst u;rw[Y]at e;cases e;cases ag);have ah:aI U p (.ins C dx (gJ "field_rows" (.ref l) [])) p=Z (.ins C dx (gJ "field_rows" (.ref l) [])):=aV;have az:aI U p (.ins C dx (gJ "field_rows" (.ref l) [])) l=Z (.dK (ll fs us)):=by rw[bA ay];exact af
   generalize aI U p (.ins C dx (gJ "field_rows" (.ref l) []))=bi at SB a5 ah az;refine⟨_,O,b7,O,⟨_,C8 (a5 _ _ ao O)⟩,?_⟩;refine fU (F:=K) (xs:=ws) YT (λi ys H'=>aL bi H'/\fF H' ys ((ll N ws).take i)) ⟨D7 _,GT _⟩ ?_ ?_ ?_
   .rintro i ys H' ap ⟨J,m⟩;exact⟨C8 (J _ _ (a5 _ _ ao O)),by have:=m.len;rw[dY]at this;omega⟩
   .rintro i x ys H' aq ar z ⟨J,m⟩ k1 k2;have as:i<ws.length:=(cR.mp z).1;obtain⟨d,y⟩:∃d,N[i]?=Z d:=⟨_,cJ YT⟩
    obtain⟨v,ev,L⟩:=a9.get y;rw[z]at ev;cases ev;obtain⟨n,a,b,c,r,br,rfl,_⟩:=gE (a8.all d (dM y));obtain⟨t,vs,rfl,o,_⟩:=oS L;have ac:=J _ _ (a5 _ _ o O);refine⟨_,O,t,_,0,.str n,O,O,D0 ac,bZ (j:=0) O,_,O,dA O,λbe M=>k1 _ _ ⟨J.trans (C7 M),?_⟩⟩;rw[dR,Eu y z];exact m.snoc (k:=C6 n) M
   .rintro ys aR ⟨J,m⟩;rw[dP (by rw[xG l2];omega)]at m;intro ai bj;have b0:=C7 (o:=.lst ys) bj;refine⟨ai,ys,ll N ws,O,C8 aV,m.same b0,by rw[xG l2];omega,by rw[xz l2];exact uX a8.nd,λG bk=>?_⟩;have bl:=C7 (o:=.dK (ll N ws)) bk;have SC:=J.trans (b0.trans bl);have aj:aI (aI aR ai (.lst ys)) G (.dK (ll N ws)) G=Z (.dK (ll N ws)):=aV;generalize aI (aI aR ai (.lst ys)) G (.dK (ll N ws))=b1 at SC aj;refine⟨_,O,p,C,dx,_,O,SC _ _ ah,T.ad,T.Cl,(by show 1<1000;decide),?_⟩;have bm:G≠p:=si aj (SC _ _ ah) (by intro u;cases u);have b2:sm H (aI b1 p (.ins C dx (ny l G))):=λb o e ag=>by
     have B:b≠p:=λu=>by subst u;rw[Y]at e;cases e;cases ag
     rw[bA B];exact SC _ _ (SB _ _ e B)
    refine q _ ⟨⟨dx,l,G,aV,⟨_,(bA ay).trans (SC _ _ az),xz l1,?_⟩,⟨_,(bA bm).trans aj,xz l2,?_⟩⟩,a6,a7⟩ λb o e B=>?_
    .rw[Cj l1];exact F8 b2 _ _ a2
    .rw[Cj l2];exact F8 b2 _ _ a9
    .show aI b1 p (.ins C dx (ny l G)) b=Z o;rw[bA B];exact SC _ _ (SB _ _ e B)
open Mt02
def ng(K:bJ)(H:aC)(x:V):Prop:=∃(a:aB)(ns:M6),x=.ref a/\aQ K H a (ns.map D1)/\ns.length<=63
def ng.same(S:aL H H')(h:ng K H x):ng K H' x:=by
 obtain⟨a,ns,e,q,l⟩:=h;exact⟨a,ns,e,S.seq q,l⟩
def w5(e:0<=i)(h1:i<4):∃m:Int,lZ ([.int a,.int b,.int c,.int d]:M0) i=Z (.int m)/\(m=a\/m=b\/m=c\/m=d):=by
 obtain⟨k,rfl⟩:=l8 e;have f:k<4:=YT
 match k,f with
 |0,_=>exact⟨a,bZ O,.inl O⟩
 |1,_=>exact⟨b,bZ O,.inr YU⟩
 |2,_=>exact⟨c,bZ O,.inr (.inr YU)⟩
 |3,_=>exact⟨d,bZ O,.inr (.inr (.inr O))⟩
structure tY (fs:M3) (n:Nat):Prop where
 l1:1<=fs.length
 l2:fs.length<=n
 all:∀d∈fs,jY d=aD
 nd:(fs.map aN).Nodup
def Bg(h:jY d=aD):nZ d=aD:=by
 obtain⟨a,g,e,rfl,_⟩:=iD h;rfl
def QV(b:jS a=aD)(c:-1000000<=g)(d:g<=1000000)(f:0<=e)(h:e<=1000000):jY (.tup [.str a,.int g,.int e])=aD:=by
 show(jS a&&(fC g&&ni e))=aD;unfold fC ni;rw[b,B0 c,B0 d,B0 f,B0 h];rfl
structure BN (zs:L9) (N:M3) (n:Nat):Prop where
 l1:1<=N.length
 l2:N.length<=n
 all:∀d∈N,ko zs d=aD
 nd:(N.map aN).Nodup
def Pk(h:ol c s=aD):nZ s=aD:=by
 cases s with
 |non=>rfl
 |int i=>rfl
 |_=>cases h
def Dq(h:ko zs d=aD):nZ d=aD:=by
 obtain⟨n,a,b,c,r,s,rfl,_,_,_,_,_,_,e⟩:=gE h;have:=Pk e;show(aD&&(aD&&(aD&&(aD&&(aD&&(nZ s&&aD))))))=aD;rw[this];rfl
def Sx(d:jS n=aD)(e:a∈zs)(f:b∈zs)(g:a≠b)(h:fC c=aD)(i:ni r=aD)(j:ol (.int c) s=aD):ko zs (.tup [.str n,.str a,.str b,.int c,.int r,s])=aD:=by
 show(jS n&&(G9 (a∈zs)&&(G9 (b∈zs)&&!(a==b)))&&(fC c&&(ni r&&ol (.int c) s)))=aD;rw[d,B0 e,B0 f,h,i,j,C1.mpr g];rfl
def z8(a:-1000000<=i)(h1:i<=1000000):fC i=aD:=by
 unfold fC;rw[B0 a,B0 h1];rfl
def Uh(a:0<=i)(h1:i<=1000000):ni i=aD:=by
 unfold ni;rw[B0 a,B0 h1];rfl
def yd(h:jS a=aD):a≠"sea":=by
 intro e;subst e;simp[jS]at h
def Qj(h:tY fs n):("sea" :: fs.map aN:L9).Nodup:=by
 rw[gB];refine⟨λm=>?_,h.nd⟩;obtain⟨d,a,e⟩:=cG.mp m;obtain⟨c,g,f,rfl,b,_⟩:=iD (h.all d a);exact yd b e
def PN(h:tY fs n)(a:n<=12):u0 (.lst fs)=aD:=(Bz fs).mpr ⟨h.l1,dN h.l2 a,h.all,h.nd⟩
def QX(h:BN zs N n)(a:n<=40):vc zs (.lst N)=aD:=(sR zs N).mpr ⟨h.l1,dN h.l2 a,h.all,h.nd⟩
def uT(h:jS a=aD):a.length<=1000:=by
 unfold jS at h;rw[fM,fM,fM]at h;have:=B2 h.1.1.2;omega
def LU(h:jY d=aD):jM d=aD:=by
 obtain⟨a,g,e,rfl,b,_⟩:=iD h;show(G9 (3<=1000)&&(G9 (a.length<=1000)&&(aD&&(aD&&aD))))=aD;rw[B0 (uT b)];rfl
def BY{fs:M3}(b:∀d∈fs,jY d=aD){a:aA}(h:a∈("sea" :: fs.map aN:L9)):a.length<=1000:=by
 rcases dW.mp h with rfl|h
 .decide +kernel
 .obtain⟨d,m,rfl⟩:=cG.mp h;obtain⟨f,g,e,rfl,c,_⟩:=iD (b d m);exact uT c
def Cu{fs:M3}(f:∀d∈fs,jY d=aD){d:aH}(h:ko ("sea" :: fs.map aN) d=aD):jM d=aD:=by
 obtain⟨n,a,b,c,r,s,rfl,g,j,k,_,_,_,l⟩:=gE h;have e:jM s=aD:=by
  cases s with
  |non=>rfl
  |int i=>rfl
  |_=>cases l
 show(G9 (6<=1000)&&(G9 (n.length<=1000)&&(G9 (a.length<=1000)&&(G9 (b.length<=1000)&&(aD&&(aD&&(jM s&&aD)))))))=aD;rw[B0 (uT g),B0 (BY f j),B0 (BY f k),e];rfl
def sP(h:∀d∈N,jM d=aD)(a:N.length<=1000):jM (.lst N)=aD:=by
 show(G9 (N.length<=1000)&&mZ N)=aD;rw[B0 a,CK h];rfl
def EI(h:∀d∈N,iN 29 d=aD):iN 30 (.lst N)=aD:=Bf h
def NR(zs:L9):iN 30 (.lst (zs.map E8))=aD:=EI λd m=>by
 obtain⟨a,_,rfl⟩:=cG.mp m;rfl
def Rv{zs:L9}(h:H l=Z (.lst (zs.map C9))):bY H (.lst (zs.map E8)) (.ref l):=⟨l,_,O,h,IsL.strs H zs⟩
open Mt04
inductive Lf(C:aB)(x y:V)(H:aC)(Q:aP):Prop
 |mk:∀(p:aB)(fs N:M3)(d:aH),x=.ref p->dU C H p fs N->bY H d y->Q (.bl (lP N d)) H->Lf C x y H Q
def FW(C:aB):bW:=gA (Lf C)
def Nm(T:Txt K mg C):aY P w K mg b_ 3 "is_work" ["land","thing"] (FW C):=by
 refine T.Zz.fcD Ng fZ ?_;rintro f an A o_ s H vs Q E g ⟨x,y,rfl,p,fs,N,d,rfl,L,D,q⟩;obtain⟨dx,a9,aa,G,_⟩:=L.ex;have I:∀m:aA,¬m="dyke_rows"->¬m="field_rows"->(ny a9 aa).lookup m=aF:=λm h1 h2=>jQ _ _ h1 h2;refine⟨_,(bC (fK (F7 (lR (iM (gW (bU (Az T) g (aG (pv 1) (aG bB aM))))) (mD (iM (gW (bU (rh T) g (aG (xt 1) (aG (jA T.ad (WA T) (g.mono YR) (pv 0)) aM)))))))) (bG (cH mF)) fH) (bG (cH (jL (bU (sI T) g (aG (xt 1) aM)) (kR (lF Hh (xt 1) (iO (oa (K:=K) O) (pi T.ad (AE T) (g.mono YR) (pv 0) (aG (xt 1) aM)) bB (λ_ _=>O)) (eO _))))))),_,O,_,_,O,d,2,D,O,_,O,?_⟩;by_cases h2:∃a b,d=.tup [a,b]
 .obtain⟨a,b,rfl⟩:=h2;obtain⟨t,us,rfl,o,J,ao,rfl,M,U,ac,rfl,Y,ae⟩:=D;cases(show ac=[] from ae);refine cC ⟨_,O,t,_,0,J,O,O,D0 o,bZ (j:=0) O,_,O,p,dx,_,O,G,I _ YS YS,_,O,p,fs,N,O,L,λl a0=>?_⟩;have S:=C7 (o:=.lst ((N.map aN).map C9)) a0;refine⟨_,_,O,a,l,N.map aN,F9 S _ _ M,O,C8 aV,_,O,?_⟩;have k:=GM (xs:=(N.map aN).map C9) a0;cases ea:gK (N.map aN) a with
  |false=>
   have e:lP N (.tup [a,b])=aK:=tI.mpr λe=>by
    obtain⟨i,v,u,m,_⟩:=n7 e;cases u;cases(B0 m).symm.trans ea
   rw[e]at q;exact dO (F0 k q)
  |true=>
   refine cC ⟨_,O,t,_,1,U,O,O,D0 (S _ _ o),bZ (j:=1) O,_,O,b,F9 S _ _ Y,_,O,?_⟩;cases z:nk b with
   |false=>
    have e:lP N (.tup [a,b])=aK:=tI.mpr λe=>by
     obtain⟨i,v,u,_,m,_⟩:=n7 e;cases u;cases m.symm.trans z
    rw[e]at q;exact cC (F0 k q)
   |true=>
    cases a with
    |str i=>
     cases b with
     |int v=>
      have a1:i∈N.map aN:=B2 ea;obtain⟨d',B,rfl⟩:=cG.mp a1;cases(show J=.str (aN d') from M);cases(show U=.int v from Y);have a2:=(fV L).2;refine dO ⟨_,O,t,_,1,_,O,O,D0 (S _ _ o),bZ (j:=1) O,_,O,p,dx,_,O,S _ _ G,I _ YS YS,_,O,t,_,0,_,O,O,D0 (S _ _ o),bZ (j:=0) O,_,_,O,p,fs,N,d',O,O,L.same S,B,λap af=>?_⟩;have ag:=ql a2.nd B;obtain⟨n,ah,ai,c,r,aj,rfl,_⟩:=gE (a2.all d' B);obtain⟨t',aq,rfl,o',_⟩:=oS af;refine⟨t',_,3,.int c,O,O,D0 o',bZ (j:=3) O,_,_,O,O,F0 k ?_⟩;have e:lP N (.tup [.str (aN (.tup [.str n,.str ah,.str ai,.int c,.int r,aj])),.int v])=G9 (c<=v):=by
       show(G9 (_∈N.map aN)&&(fC v&&G9 (kZ N _<=v)))=_;rw[B0 a1,show fC v=aD from z,ag];rfl
      rw[e]at q;exact q
     |_=>cases z
    |_=>cases ea
 .have ak:lP N d=aK:=tI.mpr λe=>by
   obtain⟨i,v,rfl,_⟩:=n7 e;exact h2 ⟨_,_,O⟩
  have al:wX 2 d=aK:=by
   cases d with
   |tup a3=>
    refine B1 (λe=>?_);have am:a3.length=2:=YT
    match a3,am,h2 with
    |[a,b],_,h2=>exact h2 ⟨a,b,O⟩
   |_=>rfl
  dsimp only;rw[al];rw[ak]at q;exact dO (F0 (.refl _) q)
inductive Lg(C:aB)(x y:V)(H:aC)(Q:aP):Prop
 |mk:∀(p:aB)(fs N:M3)(d:aH),x=.ref p->dU C H p fs N->bY H d y->jM d=aD->Q (.bl (ES N d)) H->Lg C x y H Q
def zD(C:aB):bW:=gA (Lg C)
def IU(T:Txt K mg C):aY P w K mg b_ 4 "are_works" ["land","thing"] (zD C):=by
 refine T.q00.fcD Mq fZ ?_;rintro f M A o_ s H vs Q E e ⟨x,y,rfl,u,fs,a,d,rfl,L,g,z,q⟩;have U:=fJ;obtain⟨t,ty,j,k,Y,B,_⟩:=tp K g;refine⟨_,(bG (cH (jL (dH (n4 (K:=K) O) O T.q70 n3 (aG (pv 1) (aG (ou T.q72 lM) aM))) (jL (dH (pz O) O T.q65 px (aG (fN ["row","land"] 1 [0] O (eV (pv 1)) (λR=>cM (i:=0) (YS:eQ (["row","land"]:L9)) O YU) (fD YR) (λR=>gQ) (λR=>(bU (Nm T) e (aG (pv 1) (aG (pv 0) aM))))) aM)) (kR (bU (AC T) e (aG (pv 1) aM))))))),_,O,_,_,_,t,_,O,O,ty,B,_,O,?_⟩;cases d with
 |lst N=>
  obtain⟨p,us,rfl,o,hi⟩:=g;have l1:=hi.length;have G:=iJ.mp (show(G9 (N.length<=1000)&&mZ N)=aD from z);have a0:N.length<=1000:=B2 G.1;have q:Q (.bl (N.all (lP a)&&G9 ((N.map gY).Nodup))) H:=q;refine dO ⟨_,O,p,O,⟨_,C8 o⟩,fU (F:=K) (xs:=us) YT (λi ys H'=>H'=H/\ys=(N.take i).map λd=>GE (lP a d)) ⟨O,O⟩ ?_ ?_ ?_⟩
  .rintro i ys H' a1 ⟨rfl,rfl⟩;exact⟨C8 o,by rw[aS,dY];omega⟩
  .rintro i x ys H' a2 a3 l ⟨rfl,rfl⟩ k1 k2;have a4:i<us.length:=(cR.mp l).1;obtain⟨d,m⟩:∃d,N[i]?=Z d:=⟨_,cJ YT⟩
   obtain⟨v,ev,I⟩:=hi.get m;rw[l]at ev;cases ev;refine⟨_,O,_,O,_,_,O,u,fs,a,d,O,L,I,k1 _ _ ⟨O,?_⟩⟩;rw[dR,m];simp
  .rintro ys H' ⟨rfl,rfl⟩;intro D b;have np:p≠D:=cX o b;refine⟨D,N.map (lP a),O,C8 ?_,_,O,?_⟩
   .rw[aV,dP YT,eP];rfl
   have j:(N.map (lP a)).all id=N.all (lP a):=by rw[rR];rfl
   rw[j];refine lB (λh2=>?_) (λh2=>?_)
   .rw[h2,kX]at q;obtain⟨zs,c⟩:=xI AV h2;have a5:zs.length=N.length:=by have:=B7 m8 c;simpa using this.symm
    refine⟨_,O,_,O,p,us,N,zs,O,by rw[bA np];exact o,D2 (C7 b) _ _ hi,c,YT,?_⟩;have k:G9 zs.Nodup=G9 (N.map gY).Nodup:=by rw[c,mK,B5,B5,pr]
    rw[k];exact F0 (GM b) q
   .have J:N.all (lP a)=aK:=by simpa using h2
    rw[J]at q;exact F0 (GM b) q
 |_=>exact cC (F0 (.refl _) q)
inductive JL(x y:V)(H:aC)(Q:aP):Prop
 |mk:∀(t:aB)(n a b:aA)(c r h:Int)(sv:V),x=.ref t->y=.int h->H t=Z (.tup [.str n,.str a,.str b,.int c,.int r,sv])->(∀(p:aB)(H':aC),aL H H'->H' p=Z (.tup [.str n,.str a,.str b,.int h,.int r,sv])->Q (.ref p) H')->JL x y H Q
def E7:bW:=gA (JL)
def XM(T:Txt K mg C):aY P w K mg b_ 1 "with_crown" ["dyke","crown"] E7:=by
 refine T.q02.fc XF fZ ?_;rintro f L A o_ s H vs Q E M ⟨x,y,rfl,t,n,a,b,c,r,h,d,rfl,rfl,o,q⟩;refine⟨_,(bG (cH (bK (Ev (K:=K) O) (bK (Ev (K:=K) O) (qi (s6 (K:=K) O) (pv 0) qo (qn bB)) (gF (aG (pv 1) aM))) (qi (s6 (K:=K) O) (pv 0) (qn bB) qo)))),_,O,_,O,t,_,O,D0 o,(λw=>B6 (show F4 6 6 (Z 3)=6 from w.2) YR),λD j=>?_⟩;have k:=C7 (o:=.tup [.str n,.str a,.str b]) j;refine⟨_,O,dA O,λp2 l=>?_⟩;have e:=C7 (o:=.tup [.int h]) l;refine⟨D,p2,[.str n,.str a,.str b],[.int h],O,O,D0 (e _ _ aV),D0 aV,(by intro w;cases w),dA O,(λw=>by cases w),λ_ m p=>?_⟩;have u:=C7 (o:=.tup ([.str n,.str a,.str b]++[.int h])) p;have g:=k.trans (e.trans u);refine⟨_,O,_,O,t,_,O,D0 (g _ _ o),(λw=>B6 (show F4 6 0 (Z 4)=0 from w.1) YR),λz B=>?_⟩;have i:=C7 (o:=.tup [.int r,d]) B;refine⟨m,z,[.str n,.str a,.str b]++[.int h],[.int r,d],O,O,D0 (i _ _ aV),D0 aV,(by intro w;cases w),dA O,(λw=>by cases w),λ_ G I=>?_⟩;have J:=C7 (o:=.tup (([.str n,.str a,.str b]++[.int h])++[.int r,d])) I;exact q G _ (g.trans (i.trans J)) aV
def DN(h:bY H (.tup [.str a,.int v]) x):∃t,x=.ref t/\H t=Z (.tup [.str a,.int v]):=by
 obtain⟨t,us,rfl,o,b,i,rfl,c,d,e,rfl,f,g⟩:=h;cases(show e=[] from g);cases(show b=_ from c);cases(show d=_ from f);exact⟨t,O,o⟩
theorem Lz:∀{ws:M3} {us:M0},(∀d∈ws,lP N d=aD)->IsL H ws us->fF H us (ws.map oO)
 |[],_,_,e=>by rw[show _=[] from e];exact GT _
 |d::ws,_,g,⟨v,r,e,h,t⟩=>by
  subst e;obtain⟨b,n,rfl,_⟩:=n7 (g d eB);obtain⟨a,rfl,o⟩:=DN h;exact .cons ⟨a,O,o⟩ (Lz (λe m=>g e (eK _ m)) t)
def NV(ws:M3):(ws.map oO).map (·.1)=ws.map m0:=by
 rw[eP];rfl
inductive KA(C:aB)(x y:V)(H:aC)(Q:aP):Prop
 |mk:∀(p:aB)(fs N ws:M3),x=.ref p->dU C H p fs N->bY H (.lst ws) y->ws.length<=1000->GoodW N ws->(∀(p':aB)(H':aC),aL H H'->H p'=aF->dU C H' p' fs (mi N ws)->Q (.ref p') H')->KA C x y H Q
def DU(C:aB):bW:=gA (KA C)
def QQ{o:Option Int}{c:Int}:(o.map D1).getD (.int c)=.int (o.getD c):=by cases o<;>rfl
def XA(T:Txt K mg C):eR P w K mg b_ 8 C "raised" ["self","works"] (DU C):=by
 refine T.Zd.mc Ay fZ ?_;rintro f bj A o_ s H vs Q E g ⟨x,y,rfl,p,fs,N,ws,rfl,L,ae,lw,B,q⟩;have bk:=fJ;have az:=jT g;obtain⟨dx,aR,b0,af,_⟩:=L.ex;have ag:∀m:aA,¬m="dyke_rows"->¬m="field_rows"->(ny aR b0).lookup m=aF:=λm h1 h2=>jQ _ _ h1 h2;have ah:=(fV L).1;have M:=(fV L).2;have bl:=M.l2;have f2:=ah.l2;have ai:∀d∈fs,jY d=aD:=ah.all;have b1:jM (.lst ws)=aD:=sP (λd m=>by
  obtain⟨z,v,rfl,b2,_⟩:=n7 (B.all d m);obtain⟨d',b3,rfl⟩:=cG.mp b2;obtain⟨n,a,b,c,r,b4,rfl,b5,_⟩:=gE (M.all d' b3);have e:=uT b5;show(G9 (2<=1000)&&(G9 (n.length<=1000)&&(aD&&aD)))=aD;rw[B0 e];rfl) lw
 refine⟨_,(bC (fK (iM (gW (bU (IU T) g (aG (pv 0) (aG (pv 1) aM))))) (bG n8) fH) (bC (cF (i:=2) Ay.nd O (E1 O) (iX (oQ O) O T.q67 mW (aG (pv 1) aM))) (bC (sM (i:=3) Ay.nd O ["dyke","crowns"] 1 [2] O (eV (jA T.ad (Iz T) (g.mono YR) (pv 0))) (λR=>cM (i:=0) (YS:eQ (["dyke","crowns"]:L9)) O YU) (fD YR) (λR=>gQ) (λR=>(bU (XM T) g (aG (pv 0) (aG (Et az (pv 1) (xt 0) (xt 0) ⟨O,O,O,O⟩) aM))))) (bG (cH (Ah T.or (Jy T) (g.mono YR) (aG (jA T.ad (Xr T) (g.mono YR) (pv 0)) (aG (pv 3) aM)))))))),?_⟩;refine⟨_,O,_,O,_,_,O,p,fs,N,.lst ws,O,L,ae,b1,_,O,?_⟩;rw[(Dm N ws).mpr B];refine cC ?_;obtain⟨a,us,rfl,b6,hi⟩:=ae;refine⟨_,O,a,us,ws.map oO,O,C8 b6,Lz B.all hi,by rw[aS];exact lw,by rw[NV];exact uX B.nd,λcd b7=>?_⟩;have a1:=C7 (o:=.dK (ws.map oO)) b7;refine⟨_,O,p,dx,_,O,a1 _ _ af,ag _ YS YS,_,O,p,fs,N,O,L.same a1,λl vs b8 b9=>?_⟩;have a2:=C7 (o:=.lst vs) b8;have a3:aI (aI H cd (.dK (ws.map oO))) l (.lst vs) cd=Z (.dK (ws.map oO)):=a2 _ _ aV;have a4:aI (aI H cd (.dK (ws.map oO))) l (.lst vs) l=Z (.lst vs):=aV;have a5:=D2 a2 _ _ b9;have aj:=a1.trans a2;generalize aI (aI H cd (.dK (ws.map oO))) l (.lst vs)=H2 at a3 a4 a5 aj;have bm:vs.length=N.length:=a5.length;refine⟨l,O,⟨_,C8 a4⟩,?_⟩;refine fU (F:=K) (xs:=vs) YT (λi ys H'=>aL H2 H'/\IsL H' ((N.take i).map (mn ws)) ys) ⟨D7 _,O⟩ ?_ ?_ ?_
 .rintro i ys H' bn ⟨S,u⟩;have:=u.length;rw[aS,dY]at this;exact⟨C8 (S _ _ a4),YT⟩
 .rintro i bo ys H' bp bq ak ⟨S,u⟩ k1 k2;have br:i<vs.length:=(cR.mp ak).1;obtain⟨d,a6⟩:∃d,N[i]?=Z d:=⟨_,cJ YT⟩
  obtain⟨v,ev,ba⟩:=(show IsL H2 N vs from a5).get a6;rw[ak]at ev;cases ev;obtain⟨n,al,am,c,r,b4,rfl,_⟩:=gE (M.all d (dM a6));obtain⟨t,an,rfl,o,bb⟩:=oS ba;refine⟨_,O,_,O,cd,O,.inl ⟨_,.inl (S _ _ a3)⟩,_,O,t,_,0,.str n,O,O,D0 (S _ _ o),bZ (j:=0) O,_,O,t,_,3,.int c,O,O,D0 (S _ _ o),bZ (j:=3) O,_,kL.k (k:=C6 n) (S _ _ a3),?_⟩;refine⟨_,_,O,t,n,al,am,c,r,(jN ws n).getD c,an,O,by rw[NW,QQ],S _ _ o,λbc a7 D bd=>k1 _ _ ⟨S.trans D,?_⟩⟩;rw[dR,a6,dJ];refine D9 ?_ (D2 D _ _ u);exact⟨bc,_,O,bd,.str n,_,O,O,.str al,_,O,O,.str am,_,O,O,.int _,_,O,O,.int r,_,O,O,an,_,O,F9 (S.trans D) _ _ bb,O⟩
 rintro ys a7 ⟨D,u⟩;rw[dP YT]at u;intro U be;have ao:=C7 (o:=.lst ys) be;have ap:aI a7 U (.lst ys) U=Z (.lst ys):=aV;have aq:=D2 ao _ _ u;have G:=aj.trans (D.trans ao);generalize aI a7 U (.lst ys)=ar at ap aq G;refine⟨_,O,p,dx,_,O,G _ _ af,ag _ YS YS,_,O,p,fs,N,O,L.same G,λa8 Y bf bg=>?_⟩;have I:=C7 (o:=.lst Y) bf;refine⟨_,O,λa0 a9 aa bh bs=>?_⟩;have J:aL (aI ar a8 (.lst Y)) (aI (aI (aI ar a8 (.lst Y)) a9 (.own a0)) a0 (.ins C a9 [])):=λb o e=>by
  rw[bA (cX e aa),bA (cX e bh)];exact e
 have ac:=NH M B;have bu:=ac.l2;refine⟨_,_,_,O,a0,a9,fs,mi N ws,O,aV,⟨a8,Y,O,J _ _ aV,D2 (I.trans J) _ _ bg⟩,⟨U,ys,O,J _ _ (I _ _ ap),D2 (I.trans J) _ _ aq⟩,sP (λd m=>LU (ai d m)) YT,sP (λd m=>Cu ai (ac.all d m)) YT,L.okf,(sR _ _).mpr ac,λH' bi fr=>⟨O,?_⟩⟩;refine q a0 H' (λb o e=>?_) (G.free (I.free aa)) bi;have as:=I _ _ (G _ _ e);exact fr b o (J _ _ as) (cX as aa)
def kT(p:aB)(H H':aC):Prop:=∀b o,H b=Z o->b≠p->H' b=Z o
def kT.then(X:kT p H H')(S:aL H' a):kT p H a:=λb o e n=>S _ _ (X b o e n)
def kT.put(X:kT p H H'):kT p H (aI H' p o):=λb o' e n=>by rw[bA n];exact X b o' e n
def aL.x(S:aL H H'):kT p H H':=λb o e _=>S _ _ e
inductive AZ(f:V->V->V->V->aC->aP->Prop)(vs:M0)(H:aC)(Q:aP)(z3:dG):Prop
 |mk:∀x y z u,vs=[x,y,z,u]->f x y z u H Q->AZ f vs H Q z3
def Vt:∀vs H Q E,AZ f vs H Q E->vs.length=4:=λvs H Q E h=>by cases h;subst_vars;rfl
open Mt21 Mt46
inductive Kq(K:bJ)(x y:V)(H:aC)(Q:aP):Prop
 |mk:∀k:Int,ng K H x->y=.int k->0<=k->(∀m:Int,0<=m->m<10^24->Q (.int m) H)->Kq K x y H Q
def GZ(K:bJ):bW:=gA (Kq K)
inductive Kr(K:bJ)(x y:V)(H:aC)(Q:aP):Prop
 |mk:∀k:Int,ng K H x->y=.int k->0<=k->(∀m:Int,0<=m->Q (.int m) H)->Kr K x y H Q
def Ap(K:bJ):bW:=gA (Kr K)
def LP(T:Txt K mg C):aY P w K mg b_ 1 "_law_mixed" ["_law_script","_law_k"] (GZ K):=by
 refine T.q41.fc AX fZ ?_;rintro f l A o_ s H vs Q E n ⟨x,y,rfl,k,⟨a,ns,rfl,c,o⟩,rfl,g,q⟩;obtain⟨j,rfl⟩:=l8 g;refine⟨_,(bC (cF (i:=2) AX.nd O YU bB) (bC (fK (fG qC (pv 1) (dH (kB (K:=K) O) O T.q71 iY (aG (pv 0) aM)) (eO _)) (bG (cF (i:=2) AX.nd O YU (iO (mf (K:=K) O) (pv 0) (pv 1) (λ_ _=>O)))) fH) (bG (cH (bK gR (bK oi (pv 2) bB) (bK lH bB bB)))))),?_⟩;have b:(0:Int)<10^(24:Int).toNat:=YR;have d:∀m:Int,Q (.int (m%10^(24:Int).toNat)) H:=λm=>q _ (hW _ YR) (jB _ b);refine⟨_,O,_,O,a,_,O,.inl c,_,_,O,O,_,O,?_⟩;rw[aS];refine lB (λh1=>?_) (λh1=>?_)
 .have e:j<ns.length:=by
   have:=B2 h1;omega
  refine⟨_,O,_,O,a,_,_,.int (ns.getD j 0),O,O,c,bZ ?_,?_⟩
  .rw[dB,cJ e,kr,cJ e];rfl
  exact⟨_,O,_,_,O,O,.inr ⟨YR,YR⟩,_,_,O,O,⟨YR,YR,YR⟩,_,_,O,O,b,d _⟩
 .exact⟨_,O,_,_,O,O,.inr ⟨YR,YR⟩,_,_,O,O,⟨YR,YR,YR⟩,_,_,O,O,b,d _⟩
def Cn(T:Txt K mg C):aY P w K mg b_ 1 "_law_mixed" ["_law_script","_law_k"] (Ap K):=
 (LP T).imp λ_ _ _ _ ⟨x,y,e,k,a,b,c,q⟩=>⟨x,y,e,k,a,b,c,λm h _=>q m h⟩
inductive Ke(x:V)(H:aC)(Q:aP):Prop
 |mk:∀n:Int,x=.int n->(∀m:Int,fC m=aD->Q (.int m) H)->Ke x H Q
def w3:bW:=sp1 (Ke)
def AO(T:Txt K mg C):aY P w K mg b_ 1 "_law_height" ["_law_cell"] w3:=by
 refine T.q43.fc NG kJ ?_;rintro f c A o_ s H vs Q E e ⟨x,rfl,n,rfl,q⟩;have a:(10:Int)^(6:Int).toNat=1000000:=YR;refine⟨_,(bC (fK (fG pK (bK gR (pv 0) bB) bB (eO _)) (bG (cH (bK mE (bK gR (bK iL (pv 0) bB) bB) (bK lH bB bB)))) fH) (bG (cH (bK mE (bK gR (bK iL (pv 0) bB) bB) bB)))),_,O,_,_,O,O,(lz O),O,_,O,?_⟩;rw[pB];refine lB (λh1=>?_) (λh1=>?_)
 .refine⟨_,O,_,_,O,O,⟨YR,YR⟩,_,_,O,O,(lz O),_,_,O,O,⟨YR,YR,YR⟩,_,_,O,O,q _ ?_⟩;rw[a];have d:=hW (n/4) (show(2000001:Int)≠0 by decide);have b:=jB (n/4) (show(0:Int)<2000001 by decide);exact z8 YT YT
 .refine⟨_,O,_,_,O,O,⟨YR,YR⟩,_,_,O,O,(lz O),_,_,O,O,q _ ?_⟩;have d:=hW (n/4) (show(7:Int)≠0 by decide);have b:=jB (n/4) (show(0:Int)<7 by decide);exact z8 YT YT
def UH:("abcdefghijklmnopqrstuvwxyz":aA).length=26:=YS
inductive Kt(x:V)(H:aC)(Q:aP):Prop
 |mk:∀c:Int,x=.int c->(∀(zs:L9)(l:aB)(H':aC),BV zs->(∀z∈zs,z≠xC)->aL H H'->H l=aF->H' l=Z (.lst (zs.map C9))->Q (.ref l) H')->Kt x H Q
def Ao:bW:=sp1 (Kt)
def Cm(T:Txt K mg C):aY P w K mg b_ 1 "_law_names" ["_law_cell"] Ao:=by
 refine T.q42.fc pq kJ ?_;rintro f az A o_ s H vs Q E aR ⟨x,rfl,c,rfl,q⟩;have b0:=fJ;have ag:=UH;have a3:("abcdefghijklmnopqrstuvwxyz":aA).length<=cP:=by rw[ag];omega
 refine⟨_,(bC (cF (i:=1) pq.nd O (E1 O) qw) (bC (cF (i:=2) pq.nd O YU (bK lm bB (bK gR (pv 0) bB))) (bC (cF (i:=3) pq.nd O YU (bK gR (bK iL (pv 0) bB) (pv 2))) (bC (cF (i:=4) pq.nd O YU (iO (mf (K:=K) O) (gX (aG bB (aG bB (aG bB (aG bB (aG bB (aG bB (aG bB (aG bB (aG bB (aG bB (aG bB (aG bB aM))))))))))))) (bK gR (bK iL (pv 0) bB) bB) (λ_ _=>O))) (bC (cF (i:=5) pq.nd O YU (lS PySem.F.plainAttrs_str PySem.F.slot_str_join PySem.F.type_str_join Sg qw (aG (fN ["_law_j","_law_cell","_law_letters"] 1 [0,1] O (qf O T.q75 (aG (pv 2) aM)) (λR=>cM (i:=0) (YS:eQ (["_law_j","_law_cell","_law_letters"]:L9)) O YU) (fD YR) (λR=>gQ) (λR=>(iO GC (pv 2) (bK gR (bK lm (bK iL (pv 1) bB) (bK oi (pv 0) (pv 0))) bB) (λ_ _=>O)))) aM))) (bC (cF (i:=6) pq.nd O YU (gX aM)) (bC (kE jF O (qf O T.q75 (aG bB aM)) (cM (i:=7) pq.nd O YU) (bC (cF (i:=8) pq.nd O YU (iO GC (pv 1) (bK gR (bK lm (bK oi (pv 7) (pv 4)) (bK iL (pv 0) bB)) bB) (λ_ _=>O))) (bG (jR (lS lT mq mo mC (pv 6) (aG (bK Ck (bK Ck (qi Gl (pv 5) qo (qn (pv 3))) (pv 8)) (qi Gl (pv 5) (qn (bK lm (pv 3) bB)) qo)) aM)))))) (bG (cH (fN ["_law_name"] 1 [] O (eV (pv 6)) (λR=>cM (i:=0) (YS:eQ (["_law_name"]:L9)) O YU) (fD YR) (λR=>mX (fG oY (pv 0) qw (eO _))) (λR=>(pv 0)))))))))))),?_⟩;have b1:0<=c%8:=hW _ YR;have b2:c%8<8:=jB _ YR;obtain⟨a,hsz⟩:=l8 (show 0<=1+c%8 by omega);refine⟨_,O,_,_,O,O,(lz O),_,_,O,O,?_⟩;dsimp only;rw[hsz];have ah:(0:Int)<(a:Int):=YT;refine⟨_,O,_,_,O,O,⟨YR,YR⟩,_,O,_,_,O,O,ah,?_⟩;have d:0<=c/8%(a:Int):=hW _ YT;have b3:c/8%(a:Int)<(a:Int):=jB _ YT;obtain⟨t,ai⟩:=l8 d;dsimp only;rw[ai];refine⟨dA O,λa4 aj=>?_⟩;have M:=C7 (o:=.lst [.int 1,.int 3,.int 5,.int 7,.int 9,.int 11,.int 15,.int 17,.int 19,.int 21,.int 23,.int 25]) aj;obtain⟨u,a5,ak⟩:=VZ (i:=c/64%12) (hW _ YR) (jB _ YR);refine⟨_,O,_,_,O,O,⟨YR,YR⟩,_,_,O,O,(lz O),a4,_,_,.int u,O,O,C8 aV,ak,?_⟩;generalize aI H a4 (.lst [.int 1,.int 3,.int 5,.int 7,.int 9,.int 11,.int 15,.int 17,.int 19,.int 21,.int 23,.int 25])=H0 at M;refine⟨O,_,O,_,O,YT,YT,?_⟩;refine ON (lo:=0) (n:=a) YT (λi ys H'=>H0=H'/\ys=((eG i).map λ(j:Nat)=>nV (c/768+(j:Int)*(j:Int))).map C9) ⟨O,O⟩ ?_ ?_ ?_
 .rintro i ys H' ⟨rfl,rfl⟩;simp
 .rintro i ys H' al am hi ⟨rfl,rfl⟩ k1 k2;refine⟨_,O,_,O,_,_,O,O,⟨YR,YR⟩,_,O,_,O,_,_,O,O,.inl ⟨YT,YT⟩,_,_,O,O,_,_,O,O,(lz O),_,_,ab (c/768+(0+(i:Int))*(0+(i:Int))),O,O,a3,Hq _,k1 _ _ ⟨O,?_⟩⟩;rw[wd,dJ,dJ];show _++[C9 (nV _)]=_++[C9 (nV _)];rw[pa]
 rintro ys H' ⟨rfl,rfl⟩;intro D an;have a6:=C7 (o:=.lst (((eG a).map λ(j:Nat)=>nV (c/768+(j:Int)*(j:Int))).map C9)) an;have ao:((((eG a).map λ(j:Nat)=>nV (c/768+(j:Int)*(j:Int)))).map λy=>y.length).sum=a:=by
  rw[eP];show((eG a).map λ_=>1).sum=a;have e:∀m:Nat,((eG m).map λ_=>1).sum=m:=λm=>by
   induction m with
   |zero=>rfl
   |succ m N=>rw[wd,dJ,List.sum_append,N];rfl
  exact e a
 refine⟨"",D,(eG a).map λ(j:Nat)=>nV (c/768+(j:Int)*(j:Int)),O,O,C8 aV,by rw[ao,aS,o4,show("":aA).length=0 by decide +kernel];omega,?_⟩;generalize z:Txt.join "" ((eG a).map λ(j:Nat)=>nV (c/768+(j:Int)*(j:Int)))=b;have U:b.cps.toList=(eG a).map λ(j:Nat)=>ab (c/768+(j:Int)*(j:Int)):=by
  rw[←z,OB,eP];show(((eG a).map λj=>[ab _]).flatten)=_
  induction (eG a) with
  |nil=>rfl
  |cons x r N=>rw[dD,List.flatten_cons,N,dD];rfl
 have bl:b.length=a:=by rw[sQ,U,aS,o4]
 have ap:b.cps.toList.all oj=aD:=by
  rw[U,ku];intro x G;obtain⟨j,_,rfl⟩:=cG.mp G;exact DK _
 have bs:b.length<=cP:=YT;refine⟨dA O,λl a7=>?_⟩;have aq:=C7 (o:=.lst []) a7;have ar:=a6.free a7;have b4:1<=u/\u<=25:=(show ∀u∈units,1<=u/\u<=25 by decide +kernel) u a5;refine⟨_,O,YT,YT,?_⟩;refine qh (lo:=0) (n:=26) (λi Y H'=>rK λ(a0 a1:Option V)(g:Nat->aA)=>Y=[Z (.int c),Z (.str "abcdefghijklmnopqrstuvwxyz"),Z (.int a),Z (.int t),Z (.int u),Z (.str b),Z (.ref l),a0,a1]/\aL H0 H'/\H' l=Z (.lst (((eG i).map g).map C9))/\∀k,k<i->(g k).cps.toList=b.cps.toList.take t++[ab ((k:Int)*u+c/19968)]++b.cps.toList.drop (t+1))
  ⟨_,_,λ_=>"",O,a6.trans aq,aV,(λk a8=>B6 a8 YT)⟩ ?_ ?_
 .rintro i Y a9 hi ⟨a0,a1,g,rfl,J,I,pu⟩;have b5:0<=(0+(i:Int))*u:=zc YT YT;refine⟨_,O,_,O,_,O,_,_,O,O,.inl ⟨YT,YT⟩,_,O,_,_,O,O,⟨YR,YR⟩,_,_,O,O,_,_,O,O,(lz O),_,_,ab ((0+(i:Int))*u+c/19968),O,O,a3,Hq _,?_⟩;have B:(m9 b aF (Z (t:Int))).length<=8:=by
   rw[sQ,LZ b t YT,dY];omega
  have dl:(m9 b (Z ((t:Int)+1)) aF).length<=8:=by
   rw[show((t:Int)+1)=((t+1:Nat):Int) from O,sQ,Cx b (t+1) YT,o6,←sQ];omega
  have aa:(nV ((0+(i:Int))*u+c/19968)).length=1:=O;have as:(nV ((0+(i:Int))*u+c/19968)).cps.toList=[ab ((0+(i:Int))*u+c/19968)]:=O;refine⟨_,O,.inl ⟨O,_,C8 I⟩,_,O,_,O,_,O,b,O,bs,_,O,_,_,O,O,?_,_,O,_,O,_,_,O,O,_,O,b,O,bs,_,_,O,O,?_,l,_,_,O,O,I,by rw[aS,aS,o4];omega,?_⟩
  .refine dN (zb B (t1 aa)) YT
  .rw[Tx.Yi];refine dN (zb (zb B (t1 aa)) dl) YT
  .refine⟨_,_,λk=>if k=i then m9 b aF (Z (t:Int))++nV ((0+(i:Int))*u+c/19968)++m9 b (Z ((t:Int)+1)) aF else g k,O,J.over ?_,?_,λk a8=>?_⟩
   .exact ar
   .rw[aV,wd,dJ,dJ];have au:(eG i).map (λk=>if k=i then m9 b aF (Z (t:Int))++nV ((0+(i:Int))*u+c/19968)++m9 b (Z ((t:Int)+1)) aF else g k)=(eG i).map g:=m3 λk m=>by
     rw[B3 (by have:=kN.mp m;omega)]
    rw[au];show _=Z (cY.lst (_++[C9 (if i=i then _ else _)]));rw[B4 O];rfl
   .by_cases ac:k=i
    .subst ac;dsimp only;rw[B4 O];rw[Tx.Yh,Tx.Yh,LZ b t YT,show((t:Int)+1)=((t+1:Nat):Int) from O,Cx b (t+1) YT,as,pa]
    .dsimp only;rw[B3 ac];exact pu k YT
 .rintro Y a9 ⟨a0,a1,g,rfl,J,I,pu⟩;have av:=UC (g:=g) (r:=c/19968) ap bl YT YT YT a5 pu;have aw:∀p∈((eG 26).map g).filter (λp=>!G9 (p=("sea":aA))),p≠xC:=λp m=>by
   obtain⟨k,mk,rfl⟩:=cG.mp (gM.mp m).1;exact Sb U YT YT (pu k (kN.mp mk))
  refine⟨_,O,l,O,⟨_,C8 I⟩,?_⟩;generalize ax:(eG 26).map g=zs at *;have b6:zs.length=26:=by rw[←ax,aS,o4]
  refine fU (F:=K) (xs:=zs.map C9) (by rw[aS];omega) (λi ys H'=>a9=H'/\ys=((zs.take i).filter λp=>!G9 (p=("sea":aA))).map C9/\ys.length<=i) ⟨O,O,bQ _⟩ ?_ ?_ ?_
  .rintro i ys H' b7 ⟨rfl,rfl,a2⟩;exact⟨C8 I,a2⟩
  .rintro i b8 ys H' al am G ⟨rfl,rfl,a2⟩ k1 k2;obtain⟨p,ae⟩:∃p,zs[i]?=Z p:=by
    have:=(cR.mp G).1;rw[aS]at this;exact⟨_,cJ this⟩
   rw[dB,ae]at G;cases G;refine⟨_,O,O,_,O,?_⟩;show if (!G9 (C9 p=C9 "sea"))=aD then _ else _
   rw[rp];have L:((zs.take (i+1)).filter λp=>!G9 (p=("sea":aA)))=((zs.take i).filter λp=>!G9 (p=("sea":aA)))++(if (!G9 (p=("sea":aA)))=aD then [p] else []):=by
    rw[dR,ae,oA];cases z:(!G9 (p=("sea":aA)))<;>simp_all
   cases z:(!G9 (p=("sea":aA))) with
   |true=>
    rw[z]at L;refine dO ⟨_,O,k1 _ _ ⟨O,?_,by rw[eW,lV];omega⟩⟩;rw[L,dJ];rfl
   |false=>
    rw[z]at L;refine cC (k2 _ ⟨O,?_,YT⟩);rw[L];simp
  rintro ys H' ⟨rfl,rfl,a2⟩;rw[aS,dP (bQ _)];intro ay af;exact q _ ay _ av aw (M.trans (J.trans (C7 af))) (M.free (J.free af)) aV
def yk(h:fC i=aD):-1000000<=i/\i<=1000000:=by
 unfold fC at h;rw[fM,B5,B5]at h;exact h
theorem lN:∀{N:M3},(∀d∈N,nZ d=aD)->ow N=aD
 |[],_=>rfl
 |d::N,h=>by
  rw[ow,h d eB,lN λe m=>h e (eK _ m)];rfl
inductive JS(K:bJ)(x y:V)(H:aC)(Q:aP):Prop
 |mk:∀n:Nat,ng K H x->y=.int n->1<=n->n<=12->(∀(l:aB)(vs:M0)(fs:M3)(H':aC),aL H H'->H l=aF->H' l=Z (.lst vs)->IsL H' fs vs->tY fs n->(∀d∈fs,aN d≠Mt46.xC)->Q (.ref l) H')->JS K x y H Q
def Hd(K:bJ):bW:=gA (JS K)
def NN(T:Txt K mg C):aY P w K mg b_ 2 "_law_fields" ["_law_script","_law_most"] (Hd K):=by
 refine T.q44.fc sK fZ ?_;rintro f b1 A o_ s H vs Q E B ⟨x,y,rfl,n,⟨a,ns,rfl,ak,al⟩,rfl,b2,b3,q⟩;have a1:ng K H (.ref a):=⟨a,ns,O,ak,al⟩
 have b4:=fJ;refine⟨_,(bC (cF (i:=2) sK.nd O YU (bU (Cm T) B (aG (bU (Cn T) B (aG (pv 0) (aG bB aM))) aM))) (bC (cF (i:=3) sK.nd O YU (gX aM)) (bC (kE jF O (qf O T.q75 (aG (bK lm bB (bK gR (bU (Cn T) B (aG (pv 0) (aG bB aM))) (pv 1))) aM)) (cM (i:=4) sK.nd O YU) (bC (cF (i:=5) sK.nd O YU (bU (Cn T) B (aG (pv 0) (aG (bK lm bB (pv 4)) aM)))) (bC (cF (i:=6) sK.nd O YU (iO (mf (K:=K) O) (gX (aG bB (aG bB (aG (bK lm bB (bK gR (bK iL (pv 5) bB) bB)) (aG (bK gR (bK iL (pv 5) bB) (bK lm (bK lH bB bB) bB)) aM))))) (bK gR (pv 5) bB) (λ_ _=>O))) (bG (jR (lS lT mq mo mC (pv 3) (aG (gF (aG (iO (mf (K:=K) O) (pv 2) (pv 4) (λ_ _=>O)) (aG (bU (AO T) B (aG (bK iL (pv 5) (bK lH bB bB)) aM)) (aG (pv 6) aM)))) aM))))))) (bG (cH (pv 3)))))),_,O,_,_,O,0,a1,O,YR,λam b5=>⟨_,O,am,O,λzs ln z J an aa b6 ao=>⟨dA O,λl ac=>?_⟩⟩⟩;have ae:=C7 (o:=.lst []) ac;have a2:H l=aF:=aa.free ac;have a3:aI z l (.lst []) l=Z (.lst []):=aV;have L:=aa.trans ae;have M:=ae _ _ ao;have ap:ln≠l:=λj=>by rw[j,a3]at M;have:=(cY.lst.inj (eA M));have h1:=J.l1;rw[←aS (f:=C9),←this]at h1;exact B6 h1 YR
 generalize aI z l (.lst [])=H2 at L a3 M;refine⟨_,O,_,_,O,1,a1.same L,O,YR,λp b7=>?_⟩;have np:(0:Int)<(n:Int):=YT;have b8:0<=p%(n:Int):=hW _ YT;have b9:p%(n:Int)<(n:Int):=jB _ np;obtain⟨cnt,ba⟩:=l8 (show 0<=1+p%(n:Int) by omega);refine⟨_,O,_,_,O,O,np,_,_,O,O,_,O,by show -(2^62)<=1+p%(n:Int);omega,by show 1+p%(n:Int)<2^62;omega,?_⟩;rw[show(1+p%(n:Int)).toNat=cnt by omega];have bb:=J.l1;refine qh (lo:=0) (n:=cnt) (λi Y H'=>vH λ(a4 a5 a6:Option V)(vs:M0)(es:M3)=>Y=[Z (.ref a),Z (.int n),Z (.ref ln),Z (.ref l),a4,a5,a6]/\kT l H2 H'/\H' l=Z (.lst vs)/\IsL H' es vs/\es.map aN=zs.take i/\es.length=i/\∀d∈es,jY d=aD) ⟨_,_,_,[],[],O,(λb o e _=>e),a3,O,O,O,λd m=>by cases m⟩ ?_ ?_
 .rintro i Y H' hi ⟨a4,a5,a6,ys,es,rfl,X,r,N,U,le,all⟩;have a7:aL H H':=λb o e=>X _ _ (L _ _ e) (λj=>by rw[j,a2]at e;cases e);have bc:=N.length;obtain⟨j,a8⟩:∃j,zs[i]?=Z j:=⟨_,cJ YT⟩
  have aq:(0:Int)+(i:Int)=(i:Int):=pa _;refine⟨_,O,_,O,_,_,O,O,_,_,O,_,a1.same a7,O,by show 0<=2+(0+(i:Int));omega,λk bd=>?_⟩;have ar:(10:Int)^(6:Int).toNat=1000000:=YR;have as:(0:Int)<10^(6:Int).toNat+1:=YR;refine⟨_,O,_,_,O,O,⟨YR,YR⟩,_,_,O,O,(lz O),_,_,O,O,_,O,_,_,O,O,⟨YR,YR⟩,_,_,O,O,⟨YR,YR,YR⟩,_,_,O,O,_,_,O,O,as,dA O,λD au=>?_⟩;have G:=C7 (o:=.lst [.int 0,.int 1,.int (1+k/16%5),.int (k/16%(10^(6:Int).toNat+1))]) au;obtain⟨u,av,af⟩:=w5 (a:=0) (b:=1) (c:=1+k/16%5) (d:=k/16%(10^(6:Int).toNat+1)) (i:=k%4) (hW _ YR) (jB _ YR);have ag:0<=u/\u<=1000000:=by
   have be:=hW (k/16) (show(5:Int)≠0 by decide);have bf:=jB (k/16) (show(0:Int)<5 by decide);rw[ar]at af;have bg:=hW (k/16) (show(1000000+1:Int)≠0 by decide);have bh:=jB (k/16) (show(0:Int)<1000000+1 by decide);rcases af with rfl|rfl|rfl|rfl<;>omega
  refine⟨_,O,_,_,O,O,(lz O),D,_,_,.int u,O,O,C8 aV,av,?_⟩;generalize aI H' D (.lst [.int 0,.int 1,.int (1+k/16%5),.int (k/16%(10^(6:Int).toNat+1))])=aw at G ⊢;refine⟨_,O,.inl ⟨O,_,C8 (G _ _ r)⟩,_,O,_,O,ln,_,_,.str j,O,O,C8 (G _ _ (X _ _ M ap)),(by rw[aq];exact bZ (by rw[dB,a8];rfl)),_,O,_,_,O,O,⟨YR,YR,YR⟩,_,_,O,O,⟨YR,YR⟩,_,O,_,O,λg ax=>⟨_,O,dA O,λt a9=>?_⟩⟩;have ay:=C7 (o:=.tup [.str j,.int g,.int u]) a9;have A:=G.trans ay;have az:=A _ _ r;refine⟨l,_,_,O,O,az,YT,?_⟩;have aR:=J.nm j (dM a8);have b0:t≠l:=λe=>by rw[e,G _ _ r]at a9;cases a9
  have kp:gG H' (aI (aI aw t (.tup [.str j,.int g,.int u])) l (.lst (ys++[.ref t]))):=λb xs e=>by
   rw[bA (λj=>by rw[j,r]at e;cases e)];exact A _ _ e
  have ah:=yk ax;refine⟨_,_,_,ys++[.ref t],es++[.tup [.str j,.int g,.int u]],O,(X.then A).put,aV,D9 ?_ (FB kp _ _ (lN λd m=>Bg (all d m)) N),?_,by rw[eW,le];rfl,?_⟩
  .exact⟨t,_,O,by rw[bA b0,aV],_,_,O,O,_,_,O,O,_,_,O,O,O⟩
  .rw[dJ,U,dR,a8];rfl
  .intro d I;rcases gN.mp I with I|I
   .exact all d I
   .rw[eU.mp I];exact QV aR ah.1 ah.2 ag.1 ag.2
 .rintro Y H' ⟨a4,a5,a6,ys,es,rfl,X,r,N,U,le,all⟩;have a7:aL H H':=λb o e=>X _ _ (L _ _ e) (λj=>by rw[j,a2]at e;cases e);refine⟨_,O,q l ys es H' a7 a2 r N ⟨YT,YT,all,?_⟩ λd m=>?_⟩
  .rw[U];exact J.nd.sublist (yU _ _)
  .have h:aN d∈es.map aN:=cG.mpr ⟨d,m,O⟩;rw[U]at h;exact an _ (tB h)
def CL(R:L2.St->aC->Prop)(h:∀σ' H',R σ' H'->u D σ' H')(k:∀d:Ends,(∀σ' H',R σ' H'->d.nx σ' H')->An c a b d Y H):kH (An c a b) u D Y H:=k {D with nx:=u D} h
def VP{A B X:Prop}(a:A)(c:A->b=aK->X):if b=aD then(if aD=aD then A else B) else X:=by
 cases b with
 |true=>rw[B4 O,B4 O];exact a
 |false=>rw[B3 (by intro d;cases d)];exact c a O
inductive JM(K:bJ)(x y z u:V)(H:aC)(Q:aP):Prop
 |mk:∀(ia im:Nat)(lf:aB)(vf:M0)(fs:M3)(nf:Nat),ng K H x->y=.int ia->ia<=63->z=.int im->1<=im->im<=20->u=.ref lf->H lf=Z (.lst vf)->IsL H fs vf->tY fs nf->nf<=12->(∀(l:aB)(us:M0)(N:M3)(H':aC),aL H H'->H l=aF->H' l=Z (.lst us)->IsL H' N us->BN ("sea" :: fs.map aN) N im->(∀d∈N,aN d≠Mt46.xC)->Q (.ref l) H')->JM K x y z u H Q
def He(K:bJ):bW:=AZ (JM K)
def Ot(T:Txt K mg C):aY P w K mg b_ 2 "_law_dykes" ["_law_script","_law_at","_law_most","_law_fields_here"] (He K):=by
 refine T.q45.fc mV Vt (fun f dh A o_ s H vs Q E a8 h=>?_)
 obtain⟨x,y,k,u,rfl,L,I,lf,vf,fs,di,⟨a,ns,rfl,ba,c9⟩,rfl,dj,rfl,dk,dm,rfl,bb,bc,a9,dp,q⟩:=h
 have bd:ng K H (.ref a):=⟨a,ns,O,ba,c9⟩
 have dq:=fJ
 have dr:=bc.length
 have f1:=a9.l1
 have f2:=a9.l2
 have ca:=Qj a9
 refine⟨_,(bC (cF (i:=4) mV.nd O YU (bU (Cm T) a8 (aG (bK iL (bU (Cn T) a8 (aG (pv 0) (aG bB aM))) (bK lH bB bB)) aM))) (bC (cF (i:=5) mV.nd O YU (bK tf (gX (aG qw aM)) (fN ["_law_field"] 1 [] O (eV (pv 3)) (fun R=>cM (i:=0) (YS:eQ (["_law_field"]:L9)) O YU) (fD YR) (fun R=>gQ) (fun R=>(xt 0))))) (bC (cF (i:=6) mV.nd O YU (gX aM)) (bC (kE jF O (qf O T.q75 (aG (dH (xL O) O T.q73 xN (aG bB (aG (dH (xK O) O T.q74 uZ (aG (pv 2) (aG (bK mE (dH (kB (K:=K) O) O T.q71 iY (aG (pv 0) aM)) (pv 1)) aM))) aM))) aM)) (cM (i:=7) mV.nd O YU) (bC (cF (i:=8) mV.nd O YU (bU (Cn T) a8 (aG (pv 0) (aG (bK lm (pv 1) (pv 7)) aM)))) (bC (cF (i:=9) mV.nd O (E1 O) (iO (mf (K:=K) O) (pv 5) (bK gR (pv 8) (dH (kB (K:=K) O) O T.q71 iY (aG (pv 5) aM))) (fun _ _=>O))) (bC (sM (i:=10) mV.nd O ["_law_side","_law_one"] 1 [9] O (eV (pv 5)) (fun R=>cM (i:=0) (YS:eQ (["_law_side","_law_one"]:L9)) O YU) (fD YR) (fun R=>mX (fG oY (pv 0) (pv 1) (eO _))) (fun R=>(pv 0))) (bC (cF (i:=11) mV.nd O YU (iO (mf (K:=K) O) (pv 10) (bK gR (bK iL (pv 8) bB) (dH (kB (K:=K) O) O T.q71 iY (aG (pv 10) aM))) (fun _ _=>O))) (bC (cF (i:=12) mV.nd O YU (bU (AO T) a8 (aG (bK iL (pv 8) bB) aM))) (bC (cF (i:=13) mV.nd O YU (iO (mf (K:=K) O) (gX (aG bB (aG bB (aG (bK lm bB (bK gR (bK iL (pv 8) (bK lH bB bB)) bB)) (aG (bK gR (bK iL (pv 8) (bK lH bB bB)) (bK lm (bK lH bB bB) bB)) aM))))) (bK gR (bK iL (pv 8) (bK lH bB bB)) bB) (fun _ _=>O))) (bC (cF (i:=14) mV.nd O YU (bK mE (bK mE (pv 12) bB) (iO (mf (K:=K) O) (gX (aG bB (aG bB (aG bB (aG (bK lH bB bB) aM))))) (bK gR (bK iL (pv 8) (bK lH bB bB)) bB) (fun _ _=>O)))) (bC (fK (F7 (lR (fG pK (bK gR (bK iL (pv 8) (bK lH bB bB)) bB) bB (eO _)) (mD (fG qC (pv 14) (bK mE bB (bK lH bB bB)) (eO _))))) (bG (cF (i:=14) mV.nd O YU nl)) fH) (bG (jR (lS lT mq mo mC (pv 6) (aG (gF (aG (iO (mf (K:=K) O) (pv 4) (pv 7) (fun _ _=>O)) (aG (pv 9) (aG (pv 11) (aG (pv 12) (aG (pv 13) (aG (pv 14) aM))))))) aM))))))))))))) (bG (cH (pv 6))))))),?_⟩
 refine⟨_,O,_,_,O,1,bd,O,YR,fun ds dt=>?_⟩
 refine⟨_,_,O,O,⟨YR,YR,YR⟩,_,_,O,O,⟨YR,YR⟩,_,O,_,O,fun zs ln z am cb cc du cd=>?_⟩
 refine⟨dA O,fun D ce=>?_⟩
 have be:=C7 (o:=.lst [.str "sea"]) ce
 have aa:=cc.trans be
 refine⟨_,O,lf,O,⟨_,C8 (aa _ _ bb)⟩,?_⟩
 refine fU (F:=K) (xs:=vf) YT (fun i ys H'=>aI z D (.lst [.str "sea"])=H'∧ys=((fs.take i).map aN).map C9) ⟨O,O⟩ ?_ ?_ ?_
 ·rintro i ys H' cf ⟨rfl,rfl⟩
  exact⟨C8 (aa _ _ bb),by rw[aS,aS,dY];omega⟩
 ·rintro i cg ys H' ch ci U ⟨rfl,rfl⟩ k1 k2
  have dv:i<vf.length:=(cR.mp U).1
  obtain⟨d,an⟩:∃ d,fs[i]?=Z d:=⟨_,cJ YT⟩
  obtain⟨v,ev,cj⟩:=bc.get an
  rw[U] at ev
  cases ev
  obtain⟨k,g,e,rfl,_⟩:=iD (a9.all d (dM an))
  obtain⟨t,rfl,o⟩:=oR cj
  refine⟨_,O,t,_,0,.str k,O,O,D0 (aa _ _ o),bZ (j:=0) O,k1 _ _ ⟨O,?_⟩⟩
  rw[dR,an]
  simp[aN,gY]
 rintro ys H' ⟨rfl,rfl⟩
 rw[dP YT]
 intro p2 ck
 have ao:=C7 (o:=.lst ((fs.map aN).map C9)) ck
 refine⟨D,p2,_,_,O,O,ao _ _ aV,aV,by simp only[aS,fW,tO];omega,fun J cm=>?_⟩
 have bf:=C7 (o:=.lst ([.str "sea"]++(fs.map aN).map C9)) cm
 have ap:=aa.trans (ao.trans bf)
 have cn:=be.trans (ao.trans bf)
 have ac:aI (aI (aI z D (.lst [.str "sea"])) p2 (.lst ((fs.map aN).map C9))) J (.lst ([.str "sea"]++(fs.map aN).map C9)) J=Z (.lst ((("sea":aA) :: fs.map aN).map C9)):=aV
 have ae:=cn _ _ cd
 generalize aI (aI (aI z D (.lst [.str "sea"])) p2 (.lst ((fs.map aN).map C9))) J (.lst ([.str "sea"]++(fs.map aN).map C9))=bg at ap ac ae
 generalize co:(("sea":aA) :: fs.map aN)=p at *
 have dw:2≤p.length∧p.length≤13:=by rw[← co,fW,aS];omega
 refine⟨dA O,fun l af=>?_⟩
 have aq:=C7 (o:=.lst []) af
 have ag:=ap.trans aq
 have ar:H l=aF:=ap.free af
 have bh:aI bg l (.lst []) l=Z (.lst []):=aV
 have bi:=aq _ _ ac
 have bj:=aq _ _ ae
 have cp:J≠l:=fun k=>by rw[k,af] at ac;cases ac
 have cq:ln≠l:=fun k=>by rw[k,af] at ae;cases ae
 generalize aI bg l (.lst [])=cr at ag bh bi bj
 have dx:(ns.map D1).length=ns.length:=aS ..
 refine⟨_,O,_,O,a,_,O,.inl (ag.seq ba),_,O,_,_,O,O,_,_,O,_,_,O,?_⟩
 obtain⟨cnt,cs,ct,dy⟩:∃ cnt:Nat,(if (if (((ns.map D1).length:Nat):Int) - (L:Int)<(I:Int) then (((ns.map D1).length:Nat):Int) - (L:Int) else (I:Int))>1 then (if (((ns.map D1).length:Nat):Int) - (L:Int)<(I:Int) then (((ns.map D1).length:Nat):Int) - (L:Int) else (I:Int)) else 1)=(cnt:Int)∧1≤cnt∧cnt≤I:=by
  generalize (((ns.map D1).length:Nat):Int) - (L:Int)=w
  by_cases h1:w<(I:Int)
  ·rw[B4 h1]
   by_cases h2:w>1
   ·rw[B4 h2]
    exact⟨w.toNat,YT,YT,YT⟩
   ·rw[B3 h2]
    exact⟨1,O,YT,YT⟩
  ·rw[B3 h1]
   by_cases h2:(I:Int)>1
   ·rw[B4 h2]
    exact⟨I,O,YT,YT⟩
   ·rw[B3 h2]
    exact⟨1,O,YT,YT⟩
 refine⟨(cnt:Int),B7 (fun x=>[D1 x]) cs,YT,YT,?_⟩
 rw[qN]
 have dz:=am.l1
 refine qh (lo:=0) (n:=cnt) (fun i Y H'=>BO fun (as au av aw ax ay az aR:Option V) (vs:M0) (es:M3)=>Y=[Z (.ref a),Z (.int L),Z (.int I),Z (.ref lf),Z (.ref ln),Z (.ref J),Z (.ref l),as,au,av,aw,ax,ay,az,aR]∧kT l cr H'∧H' l=Z (.lst vs)∧IsL H' es vs∧es.map aN=zs.take i∧es.length=i∧∀ d∈es,ko p d=aD) ⟨_,_,_,_,_,_,_,_,[],[],O,(fun b o e _=>e),bh,O,O,O,fun d m=>by cases m⟩ ?_ ?_
 ·rintro i Y H' hi ⟨as,au,av,aw,ax,ay,az,aR,ys,es,rfl,X,a3,ah,ai,le,all⟩
  refine Aj fun dF cu=>?_
  have b0:aL H H':=fun b o e=>X _ _ (ag _ _ e) (fun k=>by rw[k,ar] at e;cases e)
  have dK:=ah.length
  obtain⟨k,b1⟩:∃ k,zs[i]?=Z k:=⟨_,cJ YT⟩
  have cv:=am.nm k (dM b1)
  have cw:(0:Int)+(i:Int)=(i:Int):=pa _
  refine⟨_,O,_,O,_,O,_,_,O,O,_,_,O,_,bd.same b0,O,by show 0≤(L:Int)+(0+(i:Int));omega,fun B dS=>?_⟩
  have aj:=X _ _ bi cp
  have bk:(0:Int)<(((p.map C9).length:Nat):Int):=by rw[aS];omega
  have cx:0≤B % (((p.map C9).length:Nat):Int):=hW _ YT
  have cy:B % (((p.map C9).length:Nat):Int)<(((p.map C9).length:Nat):Int):=jB _ bk
  obtain⟨bl,bm⟩:=l8 cx
  have cz:bl<p.length:=by rw[bm,aS] at cy;omega
  obtain⟨r,bn⟩:∃ k,p[bl]?=Z k:=⟨_,cJ cz⟩
  refine⟨_,O,_,O,_,O,J,_,O,.inl (C8 aj),_,_,O,O,bk,J,_,_,.str r,O,O,C8 aj,by rw[bm];exact bZ (by rw[dB,bn];rfl),?_⟩
  refine⟨_,O,J,O,⟨_,C8 aj⟩,?_⟩
  refine fU (F:=K) (xs:=p.map C9) (by rw[aS];omega) (fun i ys ak=>H'=ak∧ys=((p.take i).filter fun y=>!G9 (y=r)).map C9∧ys.length≤i) ⟨O,O,bQ _⟩ ?_ ?_ ?_
  ·rintro i ys ak cf ⟨rfl,rfl,b2⟩
   exact⟨C8 aj,b2⟩
  ·rintro i cg ys ak ch ci U ⟨rfl,rfl,b2⟩ k1 k2
   obtain⟨y,bo⟩:∃ y,p[i]?=Z y:=by
    have:=(cR.mp U).1
    rw[aS] at this
    exact⟨_,cJ this⟩
   rw[dB,bo] at U
   cases U
   refine⟨_,O,_,O,O,_,O,?_⟩
   show if (!G9 (C9 y=C9 r))=aD then _ else _
   rw[rp]
   have al:((p.take (i+1)).filter fun y=>!G9 (y=r))=((p.take i).filter fun y=>!G9 (y=r))++(if (!G9 (y=r))=aD then [y] else []):=by
    rw[dR,bo,oA]
    cases b3:(!G9 (y=r)) <;> simp_all
   cases b3:(!G9 (y=r)) with
   | true =>
    rw[b3] at al
    refine dO ⟨_,O,k1 _ _ ⟨O,?_,by rw[eW,lV];omega⟩⟩
    rw[al,dJ]
    rfl
   | false =>
    rw[b3] at al
    refine cC (k2 _ ⟨O,?_,YT⟩)
    rw[al]
    simp
  rintro dT ak ⟨rfl,rfl,b2⟩
  rw[aS,dP (bQ _)]
  intro a0 cI
  have bp:=C7 (o:=.lst ((p.filter fun y=>!G9 (y=r)).map C9)) cI
  have b4:aI H' a0 (.lst ((p.filter fun y=>!G9 (y=r)).map C9)) a0=Z (.lst ((p.filter fun y=>!G9 (y=r)).map C9)):=aV
  have dV:=z5 r p ca
  have bq:(0:Int)<((((p.filter fun y=>!G9 (y=r)).map C9).length:Nat):Int):=by rw[aS];omega
  generalize cL:(p.filter fun y=>!G9 (y=r))=a1 at *
  generalize aI H' a0 (.lst (a1.map C9))=cO at bp b4 ⊢
  have cS:0≤B / 16 % (((a1.map C9).length:Nat):Int):=hW _ YT
  have cT:B / 16 % (((a1.map C9).length:Nat):Int)<(((a1.map C9).length:Nat):Int):=jB _ bq
  obtain⟨br,bs⟩:=l8 cS
  have cV:br<a1.length:=by rw[bs,aS] at cT;omega
  obtain⟨a2,bu⟩:∃ k,a1[br]?=Z k:=⟨_,cJ cV⟩
  have bv:=dM bu
  rw[← cL] at bv
  obtain⟨d0,bw⟩:=gM.mp bv
  have d1:r≠a2:=fun e=>by rw[e] at bw;simp at bw
  refine⟨_,O,_,O,_,_,O,O,⟨YR,YR⟩,_,O,a0,_,O,.inl (C8 b4),_,_,O,O,bq,a0,_,_,.str a2,O,O,C8 b4,by rw[bs];exact bZ (by rw[dB,bu];rfl),?_⟩
  refine⟨_,O,_,_,O,O,⟨YR,YR⟩,_,O,_,O,fun M bx=>?_⟩
  have e0:=yk bx
  have bz:(10:Int) ^ (6:Int).toNat=1000000:=YR
  have d2:(0:Int)<10 ^ (6:Int).toNat+1:=YR
  refine⟨_,O,_,_,O,O,⟨YR,YR,YR⟩,_,_,O,O,⟨YR,YR⟩,_,_,O,O,(lz O),_,_,O,O,_,O,_,_,O,O,⟨YR,YR,YR⟩,_,_,O,O,⟨YR,YR⟩,_,_,O,O,⟨YR,YR,YR⟩,_,_,O,O,_,_,O,O,d2,dA O,fun bR d3=>?_⟩
  have c0:=C7 (o:=.lst [.int 0,.int 1,.int (1+B / 10 ^ (9:Int).toNat % 4),.int (B / 10 ^ (9:Int).toNat % (10 ^ (6:Int).toNat+1))]) d3
  obtain⟨N,d4,c1⟩:=w5 (a:=0) (b:=1) (c:=1+B / 10 ^ (9:Int).toNat % 4) (d:=B / 10 ^ (9:Int).toNat % (10 ^ (6:Int).toNat+1)) (i:=B / 10 ^ (8:Int).toNat % 4) (hW _ YR) (jB _ YR)
  have c2:0≤N∧N≤1000000:=by
   have e1:=hW (B / 10 ^ (9:Int).toNat) (show (4:Int)≠0 by decide)
   have e2:=jB (B / 10 ^ (9:Int).toNat) (show (0:Int)<4 by decide)
   rw[bz] at c1
   have e3:=hW (B / 10 ^ (9:Int).toNat) (show (1000000+1:Int)≠0 by decide)
   have ct:=jB (B / 10 ^ (9:Int).toNat) (show (0:Int)<1000000+1 by decide)
   rcases c1 with rfl | rfl | rfl | rfl <;> omega
  refine⟨_,O,_,_,O,O,⟨YR,YR,YR⟩,_,_,O,O,⟨YR,YR⟩,_,_,O,O,(lz O),bR,_,_,.int N,O,O,C8 aV,d4,?_⟩
  generalize aI cO bR (.lst [.int 0,.int 1,.int (1+B / 10 ^ (9:Int).toNat % 4),.int (B / 10 ^ (9:Int).toNat % (10 ^ (6:Int).toNat+1))])=d5 at c0 ⊢
  refine⟨_,O,_,_,O,O,_,_,O,O,⟨YR,YR,YR⟩,dA O,fun c3 d6=>?_⟩
  have c4:=C7 (o:=.lst [.int 0,.int 1,.int 2,.int (10 ^ (5:Int).toNat)]) d6
  obtain⟨a4,d7,d8⟩:=w5 (a:=0) (b:=1) (c:=2) (d:=10 ^ (5:Int).toNat) (i:=B / 10 ^ (15:Int).toNat % 4) (hW _ YR) (jB _ YR)
  have e4:0≤a4:=by rcases d8 with rfl | rfl | rfl | rfl <;> decide
  refine⟨_,O,_,_,O,O,⟨YR,YR,YR⟩,_,_,O,O,⟨YR,YR⟩,_,_,O,O,(lz O),c3,_,_,.int a4,O,O,C8 aV,d7,_,_,O,O,?_⟩
  generalize aI d5 c3 (.lst [.int 0,.int 1,.int 2,.int (10 ^ (5:Int).toNat)])=d9 at c4 ⊢
  have b5:=bp.trans (c0.trans c4)
  unfold nz
  dsimp only
  refine CL (fun σ' b6=>b6=d9∧∃(a5:V)(a6:aH),σ'=[Z (.ref a),Z (.int L),Z (.int I),Z (.ref lf),Z (.ref ln),Z (.ref J),Z (.ref l),Z (.int (0+(i:Int))),Z (.int B),Z (.str r),Z (.ref a0),Z (.str a2),Z (.int M),Z (.int N),Z a5]∧(∀ G:aC,bY G a6 a5)∧ol (.int M) a6=aD∧nZ a6=aD) (fun σ' b6 da=>?_) (fun e5 c5=>?_)
  rotate_left
  ·refine⟨_,O,_,_,O,O,⟨YR,YR,YR⟩,_,_,O,O,⟨YR,YR⟩,_,_,O,O,(lz O),O,_,O,?_⟩
   rw[pB]
   try dsimp only
   refine VP ?_ (fun db e6=>?_)
   ·exact c5 _ _ ⟨O,.non,.non,O,(fun _=>O),O,O⟩
   refine⟨_,O,_,_,O,O,⟨YR,YR,YR⟩,_,_,O,O,_,_,O,O,_,O,?_⟩
   refine lB (fun _=>db) (fun h2=>?_)
   have dc:¬ (M - 1 - a4<0 - 10 ^ (6:Int).toNat):=fun h=>h2 (B0 h)
   rw[bz] at dc
   refine c5 _ _ ⟨O,.int (M - 1 - a4),.int (M - 1 - a4),O,(fun _=>O),?_,O⟩
   show (fC _ && G9 _)=aD
   rw[z8 YT YT,B0 YT]
   rfl
  obtain⟨rfl,a5,a6,rfl,dd,de,e7⟩:=da
  have c6:=b5 _ _ a3
  refine⟨_,O,.inl ⟨O,_,C8 c6⟩,?_⟩
  refine⟨_,O,_,O,ln,_,_,.str k,O,O,C8 (b5 _ _ (X _ _ bj cq)),(by rw[cw];exact bZ (by rw[dB,b1];rfl)),_,O,_,O,_,O,_,O,_,O,dA O,fun t b7=>?_⟩
  have df:=C7 (o:=.tup [.str k,.str r,.str a2,.int M,.int N,a5]) b7
  have b8:=b5.trans df
  refine⟨l,_,_,O,O,b8 _ _ a3,YT,?_⟩
  have dg:t≠l:=fun e=>by rw[e,c6] at b7;cases b7
  have kp:gG H' (aI (aI b6 t (.tup [.str k,.str r,.str a2,.int M,.int N,a5])) l (.lst (ys++[.ref t]))):=fun b xs e=>by
   rw[bA (fun k=>by rw[k,a3] at e;cases e)]
   exact b8 _ _ e
  refine cu _ _ ⟨_,_,_,_,_,_,_,_,ys++[.ref t],es++[.tup [.str k,.str r,.str a2,.int M,.int N,a6]],O,(X.then b8).put,aV,D9 ?_ (FB kp _ _ (lN fun d m=>Dq (all d m)) ah),?_,by rw[eW,le];rfl,?_⟩
  ·exact⟨t,_,O,by rw[bA dg,aV],_,_,O,O,_,_,O,O,_,_,O,O,_,_,O,O,_,_,O,O,_,_,O,dd _,O⟩
  ·rw[dJ,ai,dR,b1]
   rfl
  ·intro d a7
   rcases gN.mp a7 with a7 | a7
   ·exact all d a7
   ·rw[eU.mp a7]
    exact Sx cv (dM bn) d0 d1 bx (Uh c2.1 c2.2) de
 ·rintro Y H' ⟨as,au,av,aw,ax,ay,az,aR,ys,es,rfl,X,a3,ah,ai,le,all⟩
  have b0:aL H H':=fun b o e=>X _ _ (ag _ _ e) (fun k=>by rw[k,ar] at e;cases e)
  refine⟨_,O,q l ys es H' b0 ar a3 ah ⟨YT,YT,all,?_⟩ fun d m=>?_⟩
  ·rw[ai]
   exact am.nd.sublist (yU _ _)
  ·have h:aN d∈es.map aN:=cG.mpr ⟨d,m,O⟩
   rw[ai] at h
   exact cb _ (tB h)
open Mt53
def pB(a b:Int):G9 (D1 a=D1 b)=G9 (a=b):=by
 by_cases h:a=b
 .subst h;simp
 .rw[B1 h,B1 (λc=>h (by cases c;rfl))]
inductive JH(x y:V)(H:aC)(Q:aP):Prop
 |mk:∀(t:aB)(n a b:aA)(c r h:Int)(sv:V),x=.ref t->y=.int h->H t=Z (.tup [.str n,.str a,.str b,.int c,.int r,sv])->0<=r->r<=1000000->Q (.int (r*(h-c))) H->JH x y H Q
def Bm:bW:=gA (JH)
def Jw(T:Txt K mg C):aY P w K mg b_ 1 "coins_to" ["dyke","height"] Bm:=by
 refine T.q11.fc MP fZ ?_;rintro f d A o_ s H vs Q E e ⟨x,y,rfl,t,n,a,b,c,r,h,g,rfl,rfl,o,i,k,q⟩;exact⟨_,(bG (cH (bK oi (xt 0) (bK mE (pv 1) (xt 0))))),_,O,t,_,4,.int r,O,O,D0 o,bZ (j:=4) O,_,O,_,O,t,_,3,.int c,O,O,D0 o,bZ (j:=3) O,_,_,O,O,_,_,O,O,.inl ⟨YT,YT⟩,q⟩
def Ui(h:ni r=aD):0<=r/\r<=1000000:=by
 have:=iJ.mp h;exact⟨B2 this.1,B2 this.2⟩
def NA(f:ky zs N)(g:GoodW N ws)(lw:ws.length<=1000):jM (.lst ws)=aD:=sP (λd m=>by
  obtain⟨k,v,rfl,h,_⟩:=n7 (g.all d m);obtain⟨d',i,rfl⟩:=cG.mp h;obtain⟨n,a,b,c,r,l,rfl,j,_⟩:=gE (f.all d' i);have e:=uT j;show(G9 (2<=1000)&&(G9 (n.length<=1000)&&(aD&&aD)))=aD;rw[B0 e];rfl) lw
inductive JG(C:aB)(x y:V)(H:aC)(Q:aP):Prop
 |mk:∀(p:aB)(fs N ws:M3),x=.ref p->dU C H p fs N->bY H (.lst ws) y->ws.length<=1000->GoodW N ws->Q (.int (ur N ws)) H->JG C x y H Q
def Bn(C:aB):bW:=gA (JG C)
def Jx(T:Txt K mg C):aY P w K mg b_ 5 "coins_of" ["land","works"] (Bn C):=by
 refine T.q12.fcD MQ fZ ?_;rintro f ah A o_ s H vs Q E k ⟨x,y,rfl,p,fs,N,ws,rfl,L,B,lw,l,q⟩;have ai:=fJ;obtain⟨dx,Y,a0,a1,_⟩:=L.ex;have a2:∀m:aA,¬m="dyke_rows"->¬m="field_rows"->(ny Y a0).lookup m=aF:=λm h1 h2=>jQ _ _ h1 h2;have b:=(fV L).2;refine⟨_,(bC (fK (iM (gW (bU (IU T) k (aG (pv 0) (aG (pv 1) aM))))) (bG n8) fH) (bG (cH (dH (vb O) O T.q80 sS (aG (fN ["work","land"] 1 [0] O (eV (pv 1)) (λR=>cM (i:=0) (YS:eQ (["work","land"]:L9)) O YU) (fD YR) (λR=>gQ) (λR=>(bU (Jw T) k (aG (pi T.ad (AE T) (k.mono YR) (pv 1) (aG (xt 0) aM)) (aG (xt 0) aM))))) aM))))),_,O,_,O,_,_,O,p,fs,N,.lst ws,O,L,B,NA b l lw,_,O,?_⟩;rw[(Dm N ws).mpr l];refine cC ?_;obtain⟨a,us,rfl,G,hi⟩:=B;have aj:=hi.length;refine⟨_,O,a,O,⟨_,C8 G⟩,fU (F:=K) (xs:=us) YT (λi ys H'=>H'=H/\ys=((ws.take i).map (uB N)).map D1) ⟨O,O⟩ ?_ ?_ ?_⟩
 .rintro i ys H' ak ⟨rfl,rfl⟩;exact⟨C8 G,by rw[aS,aS,dY];omega⟩
 .rintro i x ys H' al am I ⟨rfl,rfl⟩ k1 k2;have an:i<us.length:=(cR.mp I).1;obtain⟨d,u⟩:∃d,ws[i]?=Z d:=⟨_,cJ YT⟩
  obtain⟨v,ev,a3⟩:=hi.get u;rw[I]at ev;cases ev;obtain⟨z,h,rfl,a4,_⟩:=n7 (l.all d (dM u));obtain⟨d',g,rfl⟩:=cG.mp a4;obtain⟨t,rfl,o⟩:=DN a3;have a5:=ql b.nd g;have a6:=Fi b.nd g;refine⟨_,O,p,dx,_,O,a1,a2 _ YS YS,_,O,t,_,0,_,O,O,D0 o,bZ (j:=0) O,_,_,O,p,fs,N,d',O,O,L,g,λao a7=>?_⟩;obtain⟨n,a8,a9,c,r,ap,rfl,_,_,_,_,_,aa,_⟩:=gE (b.all d' g);obtain⟨t',ac,rfl,o',_⟩:=oS a7;obtain⟨ae,af⟩:=Ui aa;refine⟨_,O,t,_,1,.int h,O,O,D0 o,bZ (j:=1) O,_,_,O,t',n,a8,a9,c,r,h,ac,O,O,o',ae,af,k1 _ _ ⟨O,?_⟩⟩;rw[dR,u,dJ,dJ];have e:uB N (.tup [.str n,.int h])=r*(h-c):=by
   show ui N n*(h-kZ N n)=_;rw[show kZ N n=c from a5,show ui N n=r from a6]
  show _++[D1 _]=_++[D1 (uB N (.tup [.str n,.int h]))];rw[e]
 .rintro ys H' ⟨rfl,rfl⟩;intro D ag;rw[dP YT]at *;exact⟨D,_,O,C8 aV,F0 (GM ag) q⟩
open Mt22 MtF
def TC{zs:L9}{n:Int}(h1:1<=zs.length)(h2:(zs.length:Int)<=n):w0 n (.lst (zs.map E8))=aD:=by
 unfold w0;simp only[aS];rw[B0 YT,B0 YT];rfl
inductive KO(C:aB)(x y:V)(H:aC)(Q:aP):Prop
 |mk:∀(p l:aB)(fs N:M3)(zs:L9),x=.ref p->dU C H p fs N->y=.ref l->H l=Z (.lst (zs.map C9))->1<=zs.length->zs.Nodup->(∀z∈zs,z∈fs.map aN)->(∀H',aL H H'->Q (.bl aD) H')->KO C x y H Q
def FY(C:aB):bW:=gA (KO C)
def WG(T:Txt K mg C):aY P w K mg b_ 2 "are_some_fields" ["land","thing"] (FY C):=by
 refine T.q01.fc HF fZ ?_;rintro f a3 A o_ s H vs Q E g ⟨x,y,rfl,p,l,fs,N,zs,rfl,L,rfl,J,M,n,sub,q⟩;have a4:=fJ;have U:=(fV L).1;have f2:=U.l2;have a5:zs.length<=fs.length:=by
  have:=uq n sub;rw[aS]at this;exact this
 obtain⟨dx,a6,a7,c,_⟩:=L.ex;refine⟨_,(bC (cF (i:=2) HF.nd O (E1 O) (jA T.ad (rg T) (g.mono YR) (pv 0))) (bC (fK (F7 (lR (iM (gW (bU (AD T) g (aG (pv 1) (aG (dH (kB (K:=K) O) O T.q71 iY (aG (pv 2) aM)) aM))))) (mD (iM (gW (dH (pz O) O T.q65 px (aG (fN ["name","names"] 1 [2] O (eV (pv 1)) (λR=>cM (i:=0) (YS:eQ (["name","names"]:L9)) O YU) (fD YR) (λR=>gQ) (λR=>(bU (rh T) g (aG (pv 0) (aG (pv 1) aM))))) aM))))))) (bG (cH mF)) fH) (bG (cH (lF pK (dH call_len_set O T.q71 iY (aG (iX (JB O) O T.q77 DB (aG (pv 1) aM)) aM)) (dH (kB (K:=K) O) O T.q71 iY (aG (pv 1) aM)) (eO _)))))),_,O,p,dx,_,O,c,jQ _ _ YS YS,_,O,p,fs,N,O,L,λln z r a8 t=>?_⟩;have d:=r _ _ J;refine⟨_,O,_,O,ln,_,O,.inl (C8 t),_,_,O,.lst (zs.map E8),_,Rv d,O,_,O,?_⟩;rw[TC M (by rw[aS,aS];omega)];refine cC ⟨_,O,l,O,⟨_,C8 d⟩,fU (F:=K) (xs:=zs.map C9) (by rw[aS];omega) (λi ys H'=>z=H'/\ys=(zs.take i).map λa=>GE aD) ⟨O,O⟩ ?_ ?_ ?_⟩
 .rintro i ys H' a9 ⟨rfl,rfl⟩;exact⟨C8 d,by rw[aS,dY];omega⟩
 .rintro i aa ys H' ac ae c ⟨rfl,rfl⟩ k1 k2;obtain⟨a,j⟩:∃a,zs[i]?=Z a:=by
   have:=(cR.mp c).1;rw[aS]at this;exact⟨_,cJ this⟩
  rw[dB,j]at c;cases c;refine⟨_,O,_,O,_,_,O,.str a,ln,_,O,O,C8 t,?_⟩;rw[show gK (fs.map aN) (.str a)=aD from B0 (sub a (dM j))];refine k1 _ _ ⟨O,?_⟩;rw[dR,j,dJ];rfl
 rintro ys H' ⟨rfl,rfl⟩;rw[aS,dP (bQ _)];intro Y a0;have u:=C7 (o:=.lst (zs.map λa=>GE aD)) a0;refine⟨Y,zs.map λ_=>aD,O,C8 ?_,_,O,?_⟩
 .rw[aV,eP];rfl
 rw[show(zs.map λ_=>aD).all id=aD from ku.mpr λb m=>by obtain⟨a,_,rfl⟩:=cG.mp m;rfl];refine cC ?_;have k:=u _ _ d;refine⟨_,O,l,zs.map C6,O,C8 (by rw[k,Fu]),by rw[aS];omega,λa1 B=>?_⟩;have a2:=FH (zs.map (C6:aA->aT));rw[aS]at a2;refine⟨a1,_,_,O,aV,YT,_,O,l,zs.map C9,O,.inl (C8 (by rw[bA (cX k B)];exact k)),O,?_⟩;have e:G9 (D1 ((n2 (zs.map (C6:aA->aT))).length:Int)=D1 ((zs.map C9).length:Int))=aD:=by
  rw[pB,aS,(Ds _).mpr ((qg zs).mpr n),aS]
  first|exact B0 O|exact B9 _
 rw[e];exact q _ (r.trans (u.trans (C7 B)))
inductive Lc(C:aB)(x y u:V)(H:aC)(Q:aP):Prop
 |mk:∀(p l:aB)(fs N:M3)(zs:L9)(L:Int),x=.ref p->dU C H p fs N->y=.ref l->H l=Z (.lst (zs.map C9))->1<=zs.length->zs.Nodup->(∀z∈zs,z∈fs.map aN)->u=.int L->fC L=aD->(∀H',aL H H'->Q .non H')->Lc C x y u H Q
def u4(C:aB):bW:=kU (Lc C)
def xg(T:Txt K mg C):aY P w K mg b_ 3 "check_wish" ["land","fields","height"] (u4 C):=by
 refine T.q09.fc XI lA ?_;rintro f m A o_ s H vs Q E a ⟨x,y,u,rfl,p,l,fs,N,zs,b,rfl,L,rfl,e,g,i,sub,rfl,j,q⟩;refine⟨_,(bG (fK (F7 (lR (iM (gW (bU (WG T) a (aG (pv 0) (aG (pv 1) aM))))) (mD (iM (gW (bU (sI T) a (aG (pv 2) aM))))))) (bG n8) fH)),_,O,_,O,_,_,O,p,l,fs,N,zs,O,L,O,e,g,i,sub,λz k=>⟨_,O,cC ⟨_,O,_,O,.int b,O,_,O,?_⟩⟩⟩;rw[show nk (.int b)=aD from j];exact cC (q z k)
open Mt31 Mt61
def kI(fs:M3)(L:Int)(a:aA):Bool:=G9 (a="sea")||G9 (kP fs a<L)
noncomputable def n9(L:Int):aH->bV
 |.tup [.str n,.str a,.str b,.int c,.int r,_]=>⟨n,a,b,r*(L-c)⟩
 |_=>⟨"","","",0⟩
def mj(fs:M3)(L:Int):aH->Bool
 |.tup [.str _,.str a,.str b,.int c,.int _,_]=>G9 (c<L)&&(kI fs L a&&kI fs L b)
 |_=>aK
def bD(fs N:M3)(L:Int):M5:=(N.filter (mj fs L)).map (n9 L)
def iG(G:M5):List (aT×V):=G.map λg=>(C6 g.nm,D1 g.cap)
def GH(h:ko zs d=aD)(L:Int):(n9 L d).nm=aN d:=by
 obtain⟨n,a,b,c,r,s,rfl,_⟩:=gE h;rfl
def oU(i:oL fs)(h:ky ("sea" :: fs.map aN) N)(L:Int):fR ("sea" :: fs.map aN) (bD fs N L):=by
 have j:∀g∈bD fs N L,∃d∈N,mj fs L d=aD/\g=n9 L d:=λg m=>by
  obtain⟨d,f,rfl⟩:=cG.mp m;rw[gM]at f;exact⟨d,f.1,f.2,O⟩
 refine⟨?_,λg m=>?_,λg m=>?_,?_,eB⟩
 .have e:(bD fs N L).map (·.nm)=(N.filter (mj fs L)).map aN:=by
   unfold bD;rw[eP];exact m3 λd f=>GH (h.all d (gM.mp f).1) L
  rw[e];exact eQ.sublist (List.Sublist.map _ vR) h.nd
 .obtain⟨d,f,_,rfl⟩:=j g m;obtain⟨n,a,b,c,r,s,rfl,_,k,l,o,_⟩:=gE (h.all d f);exact⟨k,l,o⟩
 .obtain⟨d,f,p,rfl⟩:=j g m;obtain⟨n,a,b,c,r,s,rfl,_,k,l,o,w,q,_⟩:=gE (h.all d f);have h1:c<L:=B2 (iJ.mp (show(G9 (c<L)&&(kI fs L a&&kI fs L b))=aD from p)).1;have h2:0<=r:=by
   have:=iJ.mp (show(G9 (0<=r)&&G9 (r<=1000000))=aD from q);exact B2 this.1
  show 0<=r*(L-c);exact zc h2 YT
 .rw[gB];refine⟨λm=>?_,i.nd⟩;obtain⟨d,f,e⟩:=cG.mp m;obtain⟨x,g,u,rfl,t,_⟩:=iD (i.all d f);exact yd t e
inductive Kl(C:aB)(x y u:V)(H:aC)(Q:aP):Prop
 |mk:∀(p:aB)(fs N:M3)(z:aA)(L:Int),x=.ref p->dU C H p fs N->y=.str z->z∈(("sea":aA)::fs.map aN)->u=.int L->Q (.bl (kI fs L z)) H->Kl C x y u H Q
def Ha(C:aB):bW:=kU (Kl C)
def NJ(T:Txt K mg C):aY P w K mg b_ 2 "is_low" ["land","side","height"] (Ha C):=by
 refine T.q13.fc NE lA ?_;rintro f D A o_ s H vs Q E n ⟨x,y,u,rfl,p,fs,N,i,j,rfl,L,rfl,o,rfl,q⟩;obtain⟨dx,G,I,r,_⟩:=L.ex;have l:=(fV L).1;refine⟨_,(bG (cH (Ag (lF pK (pv 1) (l7 T.q55) (eO _)) (kR (lF qC (pi T.ad (Iy T) (n.mono YR) (pv 0) (aG (pv 1) aM)) (pv 2) (eO _)))))),_,O,O,?_⟩;by_cases a:i="sea"
 .subst a;rw[B0 O];exact⟨_,O,dO q⟩
 .rw[B1 (λc=>a (C9.inj c))];have t:i∈fs.map aN:=by
   rcases dW.mp o with h|h
   .exact B6 h a
   .exact h
  obtain⟨d,k,e⟩:=cG.mp t;obtain⟨b,g,u,rfl,J,_⟩:=iD (l.all d k);have z:b=i:=e;subst z;have B:kP fs b=g:=Dl l.nd k;refine⟨_,O,cC ⟨_,O,p,dx,_,O,r,jQ _ _ YS YS,_,O,_,_,O,p,fs,N,b,g,u,O,O,L,k,_,O,_,_,O,O,?_⟩⟩;have:kI fs j b=G9 (g<j):=by
   unfold kI;rw[B1 a,B];rfl
  show Q (GE (G9 (g<j))) H;rw[←this];exact q
inductive JY(C:aB)(x y u:V)(H:aC)(Q:aP):Prop
 |mk:∀(p:aB)(fs N:M3)(d:aH)(L:Int),x=.ref p->dU C H p fs N->bY H d y->d∈N->u=.int L->Q (.bl (mj fs L d)) H->JY C x y u H Q
def Hb(C:aB):bW:=kU (JY C)
def NK(T:Txt K mg C):aY P w K mg b_ 3 "is_gap" ["land","dyke","height"] (Hb C):=by
 refine T.q14.fc NF lA ?_;rintro f D A o_ s H vs Q E i ⟨x,y,u,rfl,p,fs,N,d,e,rfl,L,k,l,rfl,q⟩;have m:=(fV L).2;obtain⟨n,a,b,c,r,G,rfl,_,z,B,I,J,M,_⟩:=gE (m.all d l);obtain⟨t,U,rfl,o,Y⟩:=oS k;refine⟨_,(bG (cH (jL (lF qC (xt 1) (pv 2) (eO _)) (jL (bU (NJ T) i (aG (pv 0) (aG (xt 1) (aG (pv 2) aM)))) (kR (bU (NJ T) i (aG (pv 0) (aG (xt 1) (aG (pv 2) aM))))))))),_,O,t,_,3,.int c,O,O,D0 o,bZ (j:=3) O,_,O,_,_,O,O,?_⟩;have q:Q (.bl (G9 (c<e)&&(kI fs e a&&kI fs e b))) H:=q;refine⟨_,O,?_⟩;cases h1:G9 (c<e) with
 |false=>
  rw[h1]at q;exact cC q
 |true=>
  rw[h1]at q;refine dO ⟨_,O,_,O,t,_,1,.str a,O,O,D0 o,bZ (j:=1) O,_,O,_,_,_,O,p,fs,N,a,e,O,L,O,z,O,_,O,?_⟩;cases h2:kI fs e a with
  |false=>
   rw[h2]at q;exact cC q
  |true=>
   rw[h2]at q;exact dO ⟨_,O,_,O,t,_,2,.str b,O,O,D0 o,bZ (j:=2) O,_,O,_,_,_,O,p,fs,N,b,e,O,L,O,B,O,q⟩
def uY(G:M5):(iG G).length=G.length:=aS _
def OG(G:M5):(iG G).map (·.1)=(G.map (·.nm)).map C6:=by
 unfold iG;rw[eP,eP];rfl
def u8(fs N:M3)(L:Int):(bD fs N L).length<=N.length:=by
 unfold bD;rw[aS];exact m2 _ _
inductive JZ(C:aB)(x y:V)(H:aC)(Q:aP):Prop
 |mk:∀(p:aB)(fs N:M3)(L:Int),x=.ref p->dU C H p fs N->y=.int L->(∀(cd:aB)(H':aC),aL H H'->H cd=aF->H' cd=Z (.dK (iG (bD fs N L)))->Q (.ref cd) H')->JZ C x y H Q
def Gf(C:aB):bW:=gA (JZ C)
def Mz(T:Txt K mg C):aY P w K mg b_ 4 "gap_coins" ["land","height"] (Gf C):=by
 refine T.q15.fc Mp fZ ?_;rintro f am A o_ s H vs Q E u ⟨x,y,rfl,p,fs,N,e,rfl,L,rfl,q⟩;have an:=fJ;have a8:=(fV L).1;have z:=(fV L).2;have ao:=z.l2;have a9:=oU a8 z e;have ap:=u8 fs N e;obtain⟨dx,aq,ar,aa,_⟩:=L.ex;refine⟨_,(bG (cH (iX (oQ O) O T.q67 mW (aG (fN ["dyke","land","height"] 1 [0,1] O (eV (jA T.ad (uL T) (u.mono YR) (pv 0))) (λR=>cM (i:=0) (YS:eQ (["dyke","land","height"]:L9)) O YU) (fD YR) (λR=>mX (gW (bU (NK T) u (aG (pv 1) (aG (pv 0) (aG (pv 2) aM)))))) (λR=>(gF (aG (xt 0) (aG (bU (Jw T) u (aG (pv 0) (aG (pv 2) aM))) aM))))) aM)))),_,O,p,dx,_,O,aa,jQ _ _ YS YS,_,O,p,fs,N,O,L,λac B H2 G as I J=>?_⟩;have au:B.length=N.length:=J.length;refine⟨ac,O,⟨_,C8 I⟩,fU (F:=K) (xs:=B) YT (λi ys H'=>aL H2 H'/\fF H' ys (iG (bD fs (N.take i) e))) ⟨D7 _,GT _⟩ ?_ ?_ ?_⟩
 .rintro i ys H' av ⟨l,g⟩;have:=g.len;have:=u8 fs (N.take i) e;rw[uY]at *;rw[dY]at this;exact⟨C8 (l _ _ I),YT⟩
 .rintro i aw ys H' ax ay M ⟨l,g⟩ k1 k2;have az:i<B.length:=(cR.mp M).1;obtain⟨d,D⟩:∃d,N[i]?=Z d:=⟨_,cJ YT⟩
  obtain⟨v,ev,ae⟩:=J.get D;rw[M]at ev;cases ev;have U:=dM D;have Y:=F9 l _ _ ae;refine⟨_,O,_,O,_,O,_,_,_,O,p,fs,N,d,e,O,L.same (G.trans l),Y,U,O,_,O,?_⟩;have m:bD fs (N.take (i+1)) e=bD fs (N.take i) e++(if mj fs e d=aD then [n9 e d] else []):=by
   unfold bD;rw[dR,D,oA,dJ];cases h:mj fs e d<;>simp[h]
  cases a0:mj fs e d with
  |false=>
   rw[a0]at m;refine cC (k2 _ ⟨l,?_⟩);rw[m];simpa using g
  |true=>
   rw[a0]at m;refine dO ?_;obtain⟨n,a,b,c,r,af,rfl,_,aR,b0,b1,b2,ag,_⟩:=gE (z.all d U);obtain⟨t,ah,rfl,o,b3⟩:=oS Y;have h2:=iJ.mp (show(G9 (0<=r)&&G9 (r<=1000000))=aD from ag);refine⟨_,O,t,_,0,.str n,O,O,D0 o,bZ (j:=0) O,_,O,_,O,_,_,O,t,n,a,b,c,r,e,ah,O,O,o,B2 h2.1,B2 h2.2,dA O,λb4 a1=>k1 _ _ ⟨l.trans (C7 a1),?_⟩⟩;rw[m];have ai:iG (bD fs (N.take i) e++[n9 e (.tup [.str n,.str a,.str b,.int c,.int r,af])])=iG (bD fs (N.take i) e)++[(C6 n,D1 (r*(e-c)))]:=by
    unfold iG;rw[dJ];rfl
   rw[B4 O,ai];exact G4 (k:=C6 n) g a1
 rintro ys b5 ⟨aj,g⟩;rw[dP YT]at g;intro ak al;have a2:=C7 (o:=.lst ys) al;refine⟨ak,ys,iG (bD fs N e),O,C8 aV,g.same a2,by rw[uY];omega,by rw[OG];exact(qg _).mpr a9.nd,λcd a3=>?_⟩;have a4:=G.trans (aj.trans a2);exact q cd _ (a4.trans (C7 a3)) (a4.free a3) aV
def Cv(h:ko zs d=aD):nZ d=aD:=by
 obtain⟨n,a,b,c,r,s,rfl,_,_,_,_,_,_,e⟩:=gE h;cases s with
 |non=>rfl
 |int i=>rfl
 |_=>cases e
def qe(s:Mt22.St):nZ (fB s)=aD:=rfl
def EZ(h:oy H g fs)(l:H d=Z (.dK J))(m:∀v∈J.map (·.2),∀a,v≠.ref a)(n:1<=fs.length)(p:∀f∈fs,∃us,f=.tup us)(q:ow fs=aD):oy (aI H d (.frz o (.dK J))) g fs:=by
 obtain⟨s,e,k,i⟩:=h;have t:g≠d:=λc=>by
  rw[c,l]at e;cases e;cases fs with
  |nil=>exact B6 n YR
  |cons f fs=>
   obtain⟨us,rfl⟩:=p f eB;obtain⟨v,r,ev,⟨a,w,ea,_⟩,_⟩:=i;exact m v (by rw[ev];exact eB) a ea
 refine⟨s,by rw[bA t];exact e,k,FB (λb xs j=>?_) fs _ q i⟩;rw[bA (YH j l)];exact j
def QH(L:dU C H x fs N)(h:H d=Z (.dK J))(k:∀v∈J.map (·.2),∀a,v≠.ref a):dU C (aI H d (.frz o (.dK J))) x fs N:=by
 obtain⟨i,j⟩:=fV L;obtain⟨⟨dx,l,p,e,q,t⟩,a,b⟩:=L;refine⟨⟨dx,l,p,by rw[bA (YH e h)];exact e,EZ q h k i.l1 (λf m=>?_) (lN λf m=>?_),EZ t h k j.l1 (λf m=>?_) (lN λd m=>Cv (j.all d m))⟩,a,b⟩
 .obtain⟨u,g,e,rfl,_⟩:=iD (i.all f m);exact⟨_,O⟩
 .obtain⟨u,g,e,rfl,_⟩:=iD (i.all f m);rfl
 .obtain⟨n,a,b,c,r,s,rfl,_⟩:=gE (j.all f m);exact⟨_,O⟩
def zz(b:ky zs N)(m:g∈bD fs N L):∃d∈N,mj fs L d=aD/\g=n9 L d/\aN d=g.nm:=by
 obtain⟨d,a,rfl⟩:=cG.mp m;rw[gM]at a;exact⟨d,a.1,a.2,O,(GH (b.all d a.1) L).symm⟩
def xE(G:M5):(Mt61.mm G).length=2*G.length:=by
 unfold Mt61.mm
 induction G with
 |nil=>rfl
 |cons g G a=>
  rw[v8,eW,a];show 2+2*G.length=2*(G.length+1);omega
def CH(h:H t=Z (.tup [.str s.nm,.str s.near,.str s.far,.int s.h])):bY H (fB s) (.ref t):=⟨t,_,O,h,_,_,O,O,_,_,O,O,_,_,O,O,_,_,O,O,O⟩
inductive KS(C:aB)(x y:V)(H:aC)(Q:aP):Prop
 |mk:∀(p d:aB)(fs N:M3)(L:Int),x=.ref p->dU C H p fs N->y=.ref d->H d=Z (.dK (iG (bD fs N L)))->(∀(o:aZ)(l:aB)(us:M0)(H':aC),aL (aI H d (.frz o (.dK (iG (bD fs N L))))) H'->H l=aF->H' l=Z (.lst us)->IsL H' ((Mt61.mm (bD fs N L)).map fB) us->Q (.ref l) H')->KS C x y H Q
def DS(C:aB):bW:=gA (KS C)
def XN(T:Txt K mg C):aY P w K mg b_ 2 "steps_over" ["land","names"] (DS C):=by
 refine T.q16.fc xf fZ ?_;rintro f b8 A o_ s H vs Q E av ⟨x,y,rfl,p,d,fs,N,k,rfl,L,rfl,a1,q⟩;have b9:=fJ;have aw:=(fV L).1;have G:=(fV L).2;have ba:=G.l2;have bb:=oU aw G k;have bc:=u8 fs N k;refine⟨_,(bC (cF (i:=2) xf.nd O YU (gX aM)) (bC (kE jF O (vm (pv 1)) (cM (i:=3) xf.nd O YU) (bC (cF (i:=4) xf.nd O YU (pi T.ad (AE T) (av.mono YR) (pv 0) (aG (pv 3) aM))) (bC (jR (lS lT mq mo mC (pv 2) (aG (gF (aG (pv 3) (aG (xt 4) (aG (xt 4) (aG bB aM))))) aM))) (bG (jR (lS lT mq mo mC (pv 2) (aG (gF (aG (pv 3) (aG (xt 4) (aG (xt 4) (aG (ux vq bB) aM))))) aM))))))) (bG (cH (pv 2))))),dA O,λl I=>?_⟩;have ax:=C7 (o:=.lst []) I;have a2:d≠l:=cX a1 I;refine⟨_,O,d,_,O,by rw[bA a2];exact a1,λo=>?_⟩;have ay:∀v∈(iG (bD fs N k)).map (·.2),∀a,v≠.ref a:=λv m a e=>by
  obtain⟨af,mk,rfl⟩:=cG.mp m;obtain⟨g,_,rfl⟩:=cG.mp mk;cases e
 have ag:dU C (aI H d (.frz o (.dK (iG (bD fs N k))))) p fs N:=QH L a1 ay;have a3:aI H d (.frz o (.dK (iG (bD fs N k)))) l=aF:=by rw[bA (D4 a2)];exact I
 have a4:aL (aI H d (.frz o (.dK (iG (bD fs N k))))) (aI (aI H l (.lst [])) d (.frz o (.dK (iG (bD fs N k))))):=λb u e=>by
  by_cases ah:b=d
  .subst ah;rw[aV]at e ⊢;exact e
  .rw[bA ah]at e ⊢;exact ax _ _ e
 have ai:aI (aI H l (.lst [])) d (.frz o (.dK (iG (bD fs N k)))) l=Z (.lst []):=by rw[bA (D4 a2),aV]
 have aj:=λus H'=>q o l us H';have ak:aI H d (.frz o (.dK (iG (bD fs N k)))) d=Z (.frz o (.dK (iG (bD fs N k)))):=aV;generalize aI (aI H l (.lst [])) d (.frz o (.dK (iG (bD fs N k))))=H2 at a4 ai;generalize aI H d (.frz o (.dK (iG (bD fs N k))))=H0 at ag a3 a4 aj ak;refine x2 (λi Y H'=>rK λ(a5 a6:Option V)(us:M0)=>Y=[Z (.ref p),Z (.ref d),Z (.ref l),a5,a6]/\aL H0 H'/\H' l=Z (.lst us)/\IsL H' ((Mt61.mm ((bD fs N k).take i)).map fB) us) ⟨_,_,[],O,a4,ai,O⟩ (λi Y H' _ ⟨_,_,_,_,z,_⟩=>z _ _ ak) ?_ ?_
 .rintro i af Y H' a7 ⟨a5,a6,us,rfl,z,J,B⟩;unfold iG at a7;rw[dB]at a7;obtain⟨g,a8,az⟩:=lJ.mp a7;have bd:=(cR.mp a8).1;have aR:=dM a8;obtain⟨a9,al,be,rfl,bf⟩:=zz G aR;have am:=ag.same z;obtain⟨dx,bg,bh,b0,_⟩:=am.ex;have b1:=B.length;rw[aS,xE,dY]at b1;have b2:Mt61.mm ((bD fs N k).take (i+1))=Mt61.mm ((bD fs N k).take i)++[up (n9 k a9),dn (n9 k a9)]:=by
   unfold Mt61.mm;rw[dR,a8,List.flatMap_append];rfl
  obtain⟨n,a,b,c,r,bi,rfl,_⟩:=gE (G.all a9 al);have b3:kV af.1=C9 n:=by rw[←az];rfl
  rw[b3];refine⟨_,O,p,dx,_,O,b0,jQ _ _ YS YS,_,O,_,_,O,p,fs,N,_,O,O,am,al,λv b4=>?_⟩;obtain⟨t,bj,rfl,aa,bk⟩:=oS b4;refine⟨_,O,.inl ⟨O,_,C8 J⟩,_,O,_,O,t,_,1,.str a,O,O,D0 aa,bZ (j:=1) O,_,O,t,_,2,.str b,O,O,D0 aa,bZ (j:=2) O,dA O,λM b5=>?_⟩;have D:=C7 (o:=.tup [.str n,.str a,.str b,.int 1]) b5;have an:aI H' M (.tup [.str n,.str a,.str b,.int 1]) M=_:=aV;generalize aI H' M (.tup [.str n,.str a,.str b,.int 1])=U at D an;have hla:=D _ _ J;refine⟨l,us,.ref M,O,O,hla,YT,?_⟩;have KT:=G7 (o:=.lst (us++[.ref M])) hla;have ao:aL H0 (aI U l (.lst (us++[.ref M]))):=(z.trans D).over a3;have ac:aI U l (.lst (us++[.ref M])) l=Z (.lst (us++[.ref M])):=aV;have ap:IsL (aI U l (.lst (us++[.ref M]))) ((Mt61.mm ((bD fs N k).take i)).map fB++[fB (up ⟨n,a,b,r*(k-c)⟩)]) (us++[.ref M]):=by
   refine FB KT _ _ (lN λd m=>?_) (D9 (CH an) (D2 D _ _ B));rcases gN.mp m with m|m
   .obtain⟨s,_,rfl⟩:=cG.mp m;exact qe s
   .rw[eU.mp m];exact qe _
  have ae:=KT _ _ (D _ _ aa);generalize aI U l (.lst (us++[.ref M]))=aq at ao ac ap ae;refine⟨_,O,.inl ⟨O,_,C8 ac⟩,_,O,_,O,t,_,2,.str b,O,O,D0 ae,bZ (j:=2) O,_,O,t,_,1,.str a,O,O,D0 ae,bZ (j:=1) O,_,O,dA O,λtb b6=>?_⟩;have a0:=C7 (o:=.tup [.str n,.str b,.str a,.int (-1)]) b6;have ar:aI aq tb (.tup [.str n,.str b,.str a,.int (-1)]) tb=_:=aV;generalize aI aq tb (.tup [.str n,.str b,.str a,.int (-1)])=bl at a0 ar;have as:=a0 _ _ ac;refine⟨l,us++[.ref M],.ref tb,O,O,as,by rw[eW];show _+1<_;omega,?_⟩;have b7:=G7 (o:=.lst (us++[.ref M]++[.ref tb])) as;refine⟨_,_,us++[.ref M]++[.ref tb],O,(ao.trans a0).over a3,aV,?_⟩;rw[b2,dJ];show IsL _ (_++[fB (up ⟨n,a,b,r*(k-c)⟩),fB (dn ⟨n,a,b,r*(k-c)⟩)]) _;rw[show ∀(xs:M3)(p q:aH),xs++[p,q]=xs++[p]++[q] from λxs p q=>by simp];refine FB b7 _ _ (lN λd m=>?_) (D9 (CH (s:=dn ⟨n,a,b,r*(k-c)⟩) ar) (D2 a0 _ _ ap));rcases gN.mp m with m|m
  .rcases gN.mp m with m|m
   .obtain⟨s,_,rfl⟩:=cG.mp m;exact qe s
   .rw[eU.mp m];exact qe _
  .rw[eU.mp m];exact qe _
 .rintro Y H' ⟨a5,a6,us,rfl,z,J,B⟩;rw[uY,dP (bQ _)]at B;exact⟨_,O,aj us H' z I J B⟩
def o7(H:aC)(o:Option Mt22.St)(v:V):Prop:=match o with
 |none=>v=.non
 |some s=>bY H (fB s) v
def o7.same(S:aL H H')(h:o7 H o v):o7 H' o v:=by
 cases o with
 |none=>exact h
 |some s=>exact F9 S _ _ h
def o7.keep(S:gG H H')(h:o7 H o v):o7 H' o v:=by
 cases o with
 |none=>exact h
 |some s=>exact bY.keep S _ _ (qe s) h
structure kx (H:aC) (J:List (aT×V)) (cm:gC):Prop where
 len:J.length=cm.length
 at':∀(i:Nat)(z:aA)(o:Option Mt22.St),cm[i]?=Z (z,o)->∃v,J[i]?=Z (C6 z,v)/\o7 H o v
def kx.keys(h:kx H J a):J.map (·.1)=(G2 a).map C6:=by
 apply List.ext_getElem?;intro i;unfold G2;rw[dB,dB,dB];cases e:a[i]? with
 |none=>
  rw[List.getElem?_eq_none_iff]at e;rw[yF (by rw[h.len];exact e)];rfl
 |some x=>
  obtain⟨b,o⟩:=x;obtain⟨v,ev,_⟩:=h.at' i b o e;rw[ev];rfl
def kx.same(S:aL H H')(h:kx H J a):kx H' J a:=
 ⟨h.len,λi b o e=>by obtain⟨v,d,c⟩:=h.at' i b o e;exact⟨v,d,c.same S⟩⟩
def kx.keep(S:gG H H')(h:kx H J a):kx H' J a:=
 ⟨h.len,λi b o e=>by obtain⟨v,d,c⟩:=h.at' i b o e;exact⟨v,d,c.keep S⟩⟩
theorem DQ{f:Type}[DecidableEq f]:∀{J:List (f×V)} {i:Nat} {k:f} {v:V},(J.map (·.1)).Nodup->J[i]?=Z (k,v)->dE J k=Z v
 |p::r,0,k,v,a,e=>by cases e;exact l3 O
 |p::r,i+1,k,v,a,e=>by
  rw[dD,gB]at a;have b:r[i]?=Z (k,v):=e;rw[l4 (λc=>a.1 (by rw[c];exact cG.mpr ⟨_,dM b,O⟩))];exact DQ a.2 b
def Ou{zs:L9}(h:zs.Nodup):(zs.map (C6:aA->aT)).Nodup:=(qg zs).mpr h
def kx.val{S:List Mt22.St}{J:List (aT×V)}{a:gC}(h:kx H J a)(c:vu S a){i:Nat}{b:aA}{o:Option Mt22.St}(e:a[i]?=Z (b,o)):∃v,dE J (C6 b)=Z v/\o7 H o v:=by
 obtain⟨v,ev,d⟩:=h.at' i b o e;exact⟨v,DQ (by rw[h.keys];exact Ou c.nd) ev,d⟩
def kx.none(h:kx H J b)(n:¬a∈G2 b):dE J (C6 a)=aF:=by
 cases e:dE J (C6 a) with
 |none=>rfl
 |some v=>
  have:=Rj e;rw[h.keys]at this;obtain⟨y,c,d⟩:=cG.mp this;cases d;exact B6 c n
def kx.some(h:kx H J b)(n:a∈G2 b):(dE J (C6 a)).isSome=aD:=by
 cases e:dE J (C6 a) with
 |some v=>rfl
 |none=>
  have:=Qb e;rw[h.keys]at this;exact B6 (cG.mpr ⟨a,n,O⟩) this
def VQ(x:V)(r:M0):seqIndex? 0 (x::r).length=Z 0:=by
 rw[fW];unfold seqIndex?;simp;try omega
def sV(h:bY H (fB s) v):∃t,v=.ref t/\H t=Z (.tup [.str s.nm,.str s.near,.str s.far,.int s.h]):=by
 obtain⟨t,us,rfl,o,a,l,rfl,b,c,m,rfl,d,e,n,rfl,f,g,i,rfl,j,k⟩:=h;cases(show i=[] from k);cases(show a=_ from b);cases(show c=_ from d);cases(show e=_ from f);cases(show g=_ from j);exact⟨t,O,o⟩
def rp(a b:aA):G9 (C9 a=C9 b)=G9 (a=b):=by
 by_cases h:a=b
 .subst h;simp
 .rw[B1 h,B1 (λc=>h (by cases c;rfl))]
inductive KP(x y:V)(H:aC)(Q:aP):Prop
 |mk:∀(ls lt:aB)(us:M0)(S:List Mt22.St)(zs V0:L9),x=.ref ls->y=.ref lt->zs.Nodup->(∀z∈zs,z∈V0)->H ls=Z (.lst (zs.map C9))->H lt=Z (.lst us)->IsL H (S.map fB) us->S.length<=80->V0.length<=13->(∀s∈S,s.far∈V0)->(∀(d:aB)(cm:gC)(J:List (aT×V))(H':aC),aL H H'->H d=aF->H' d=Z (.dK J)->kx H' J cm->jX zs S cm->nE S cm cm.length->cm.length<=13->Q (.ref d) H')->KP x y H Q
def Bj:bW:=gA (KP)
def LN(T:Txt K mg C):aY P w K mg b_ 1 "spread" ["starts","steps"] Bj:=by
 refine T.q07.fc uP fZ ?_;rintro f ci A o_ s H vs Q E bq ⟨x,y,rfl,a9,lt,us,S,zs,ag,rfl,rfl,ah,ay,ai,az,aR,cj,ck,br,q⟩;have cm:zs.length<=13:=by have:=uq ah ay;omega
 have cn:=fJ;have b0:=jT bq;have bs:=aR.length;rw[aS]at bs;have lcm:∀g:gC,jX zs S g->(∀l∈keys g,l∈ag)->g.length<=13:=λg c sub=>by
  have:=uq c.nd sub;unfold keys at this;rw[aS]at this;omega
 refine⟨_,(bC (cF (i:=2) uP.nd O YU (iX (oQ O) O T.q67 mW (aG (fN ["side"] 1 [] O (eV (pv 0)) (λR=>cM (i:=0) (YS:eQ (["side"]:L9)) O YU) (fD YR) (λR=>gQ) (λR=>(gF (aG (pv 0) (aG nl aM))))) aM))) (bC (cF (i:=3) uP.nd O YU (iX (xn (K:=K) O) O T.q72 lM (aG (pv 0) aM))) (bC (u5 jF (zZ (pv 3)) (bC (cF (i:=4) uP.nd O YU (lS lT PySem.F.slot_list_pop PySem.F.type_list_pop Ey (pv 3) (aG bB aM))) (bG (kE jF O (eV (pv 1)) (cM (i:=5) uP.nd O YU) (bG (fK (F7 (zY (fG pK (xt 5) (pv 4) (eO _)) (zH (tc (CW b0 (xt 5) (pv 2)))))) (bC (vl b0 (pv 2) (xt 5) (pv 5) O) (bG (jR (lS lT mq mo mC (pv 3) (aG (xt 5) aM))))) fH)))))) (bG (cH (pv 2)))))),_,O,a9,O,⟨_,C8 ai⟩,fU (F:=K) (xs:=zs.map C9) (by rw[aS];omega) (λi ys H'=>aL H H'/\fF H' ys ((zs.take i).map λl=>((C6 l,.non):aT×V))) ⟨D7 _,GT _⟩ ?_ ?_ ?_⟩
 .rintro i ys H' co ⟨a3,N⟩;have:=N.len;rw[aS,dY]at this;exact⟨C8 (a3 _ _ ai),YT⟩
 .rintro i bu ys H' cp cq b1 ⟨a3,N⟩ k1 k2;rw[dB]at b1;obtain⟨l,aj,rfl⟩:=lJ.mp b1;refine⟨_,O,dA O,λcr b2=>k1 _ _ ⟨a3.trans (C7 b2),?_⟩⟩;rw[dR,aj,dJ];exact G4 (k:=C6 l) N b2
 rintro ys z ⟨b3,N⟩;rw[aS,dP (bQ _)]at N;intro a4 bv;have ak:=C7 (o:=.lst ys) bv;have bw:(zs.map λl=>((C6 l,.non):aT×V)).map (·.1)=zs.map C6:=by rw[eP];rfl
 refine⟨a4,ys,zs.map λl=>((C6 l,.non):aT×V),O,C8 aV,N.same ak,by rw[aS];omega,by rw[bw];exact(qg zs).mpr ah,λd b4=>?_⟩;have bx:=C7 (o:=.dK (zs.map λl=>((C6 l,.non):aT×V))) b4;have al:=b3.trans (ak.trans bx);have b5:=(b3.trans ak).free b4;refine⟨_,O,a9,_,O,.inl (C8 (al _ _ ai)),λlw am=>?_⟩;have b6:=C7 (o:=.lst (zs.map C9)) am;have b7:=al.trans b6;have b8:aI (aI (aI z a4 (.lst ys)) d (.dK (zs.map λl=>((C6 l,.non):aT×V)))) lw (.lst (zs.map C9)) d=Z (.dK (zs.map λl=>((C6 l,.non):aT×V))):=b6 _ _ aV;have b9:aI (aI (aI z a4 (.lst ys)) d (.dK (zs.map λl=>((C6 l,.non):aT×V)))) lw (.lst (zs.map C9)) lw=Z (.lst (zs.map C9)):=aV;have ba:=al.free am;have an:d≠lw:=cX (show aI (aI z a4 (.lst ys)) d (.dK (zs.map λl=>((C6 l,.non):aT×V))) d=Z _ from aV) am;generalize aI (aI (aI z a4 (.lst ys)) d (.dK (zs.map λl=>((C6 l,.non):aT×V)))) lw (.lst (zs.map C9))=bz at b7 b8 b9;have bR:jX zs S (zs.map λl=>(l,aF)):=jX.init S ah;have bb:keys (zs.map λl=>((l,aF):aA×Option Mt22.St))=zs:=by unfold keys;rw[eP];exact wA _
 have k0:kx bz (zs.map λl=>((C6 l,.non):aT×V)) (zs.map λl=>(l,aF)):=⟨by rw[aS,aS],λi l o e=>by
  rw[dB]at e;obtain⟨cs,aj,c0⟩:=lJ.mp e;cases c0;exact⟨.non,by rw[dB,aj];rfl,O⟩⟩
 refine u2 (λY H'=>∃(bc aa:Option V)(p:Nat)(g:gC)(J:List (aT×V)),Y=[Z (.ref a9),Z (.ref lt),Z (.ref d),Z (.ref lw),bc,aa]/\aL H H'/\H' d=Z (.dK J)/\kx H' J g/\jX zs S g/\(∀l∈keys g,l∈ag)/\p<=g.length/\H' lw=Z (.lst (((keys g).drop p).map C9))/\nE S g p)
  (λ_ H'=>match H' d,H' lw with|some (.dK J),Z (.lst ws)=>14-(J.length-ws.length)|_,_=>0) ⟨_,_,0,zs.map λl=>(l,aF),_,O,b7,b8,k0,bR,(λl m=>by rw[bb]at m;exact ay l m),gU _,by rw[bb,wn];exact b9,(λi u hi=>B6 hi YT)⟩ ?_ ?_
 .rintro Y a5 ⟨bc,aa,p,g,J,rfl,bd,ao,ap,c,sub,ct,U,op⟩;have c1:=lcm g c sub;refine⟨_,O,lw,_,O,C8 U,?_⟩;have cu:(keys g).length=g.length:=by unfold keys;rw[aS]
  by_cases cv:p<g.length
  .obtain⟨u,aq⟩:∃u,(keys g)[p]?=Z u:=⟨_,cJ YT⟩
   have c2:(keys g).drop p=u::(keys g).drop (p+1):=by
    obtain⟨h1,h2⟩:=cR.mp aq;rw[←h2];exact(List.getElem_cons_drop h1).symm
   rw[c2]at U ⊢;refine dO ⟨_,O,.inl ⟨O,_,C8 U⟩,lw,_,0,0,.str u,O,O,U,YR,YR,VQ _ _,O,?_⟩;have be:aI a5 lw (.lst (((u::(keys g).drop (p+1)).map C9).eraseIdx 0)) lw=Z (.lst (((keys g).drop (p+1)).map C9)):=aV;have bf:aI a5 lw (.lst (((u::(keys g).drop (p+1)).map C9).eraseIdx 0)) d=Z (.dK J):=by rw[bA an];exact ao
   have bg:=ap.keep (G7 (o:=.lst (((u::(keys g).drop (p+1)).map C9).eraseIdx 0)) U);have ar:aL H (aI a5 lw (.lst (((u::(keys g).drop (p+1)).map C9).eraseIdx 0))):=bd.over ba;generalize aI a5 lw (.lst (((u::(keys g).drop (p+1)).map C9).eraseIdx 0))=cw at be bf bg ar;refine⟨_,O,lt,O,⟨_,C8 (ar _ _ az)⟩,qk (K:=K) (a:=lt) (xs:=us)
    (λj Y H'=>rK λ(aa:Option V)(n:gC)(J:List (aT×V))=>Y=[Z (.ref a9),Z (.ref lt),Z (.ref d),Z (.ref lw),Z (.str u),aa]/\aL H H'/\H' d=Z (.dK J)/\kx H' J (g++n)/\jX zs S (g++n)/\(∀l∈keys (g++n),l∈ag)/\H' lw=Z (.lst (((keys (g++n)).drop (p+1)).map C9))/\nE S (g++n) p/\∀s∈S.take j,s.near=u->s.far∈keys (g++n))
    ⟨_,[],J,O,ar,bf,by rw[lK];exact bg,by rw[lK];exact c,by rw[lK];exact sub,by rw[lK];exact be,by rw[lK];exact op,(λs m=>by cases m)⟩ (λj Y H' _ ⟨_,_,_,_,a3,_⟩=>C8 (a3 _ _ az)) ?_ ?_⟩
   .rintro j bu Y G bh ⟨c3,n,r,rfl,a0,I,D,L,M,a1,a6,a2⟩;have cx:j<us.length:=(cR.mp bh).1;obtain⟨st,es⟩:∃st,S[j]?=Z st:=⟨_,cJ YT⟩
    obtain⟨v,ev,c4⟩:=aR.get (show(S.map fB)[j]?=Z (fB st) by rw[dB,es];rfl);rw[bh]at ev;cases ev;have a7:=dM es;obtain⟨t,rfl,o⟩:=sV c4;have ac:=a0 _ _ o;have as:S.take (j+1)=S.take j++[st]:=by rw[dR,es];rfl
    have c5:=lcm _ L M;have bi:(keys (g++n)).length=(g++n).length:=by unfold keys;rw[aS]
    have cy:(((keys (g++n)).drop (p+1)).map C9).length<=13:=by rw[aS,o6];omega
    have c6:u∈keys (g++n):=by rw[sW];exact o1 _ (dM aq)
    refine⟨_,O,t,_,1,.str st.near,O,O,D0 ac,bZ (j:=1) O,_,O,O,_,O,?_⟩;rw[rp];refine lB (λau=>?_) (λau=>?_)
    .have c7:st.near=u:=B2 au;refine⟨_,O,t,_,2,.str st.far,O,O,D0 ac,bZ (j:=2) O,_,O,d,_,O,.inl ⟨r,C6 st.far,.inl I,O,O⟩,_,O,?_⟩;by_cases ae:st.far∈keys (g++n)
     .rw[D.some ae];refine cC ⟨_,n,r,O,a0,I,D,L,M,a1,a6,λs m B=>?_⟩;rw[as]at m;rcases gN.mp m with m|m
      .exact a2 s m B
      .rw[eU.mp m];exact ae
     .have bj:=D.none ae;rw[bj];refine dO ?_;have c8:r.length<cP:=by rw[D.len];omega
      refine⟨_,O,_,O,_,O,t,_,2,.str st.far,O,O,D0 ac,bZ (j:=2) O,d,_,O,.inl ⟨r,C6 st.far,I,O,c8,O⟩,?_⟩;rw[Em _ bj];have bk:gG G (aI G d (.dK (r++[(C6 st.far,.ref t)]))):=λb ys e=>by
       rw[bA (YH e I)];exact e
      have af:aI G d (.dK (r++[(C6 st.far,.ref t)])) lw=Z (.lst (((keys (g++n)).drop (p+1)).map C9)):=by rw[bA (D4 an)];exact a1
      have av:aI G d (.dK (r++[(C6 st.far,.ref t)])) t=Z (.tup [.str st.nm,.str st.near,.str st.far,.int st.h]):=bk _ _ ac;have bl:aI G d (.dK (r++[(C6 st.far,.ref t)])) d=Z (.dK (r++[(C6 st.far,.ref t)])):=aV;have bm:aL H (aI G d (.dK (r++[(C6 st.far,.ref t)]))):=a0.over b5;have bn:=D.keep bk;generalize aI G d (.dK (r++[(C6 st.far,.ref t)]))=cz at af av bl bm bn;refine⟨_,O,.inl ⟨O,_,C8 af⟩,_,O,t,_,2,.str st.far,O,O,D0 av,bZ (j:=2) O,lw,_,.str st.far,O,O,af,YT,?_⟩;have bo:=G7 (o:=.lst (((keys (g++n)).drop (p+1)).map C9++[.str st.far])) af;have bp:=L.snoc a7 (by rw[c7];exact c6) ae;rw[oB]at bp;have aw:keys (g++(n++[(st.far,Z st)]))=keys (g++n)++[st.far]:=by rw[←oB,sW];rfl
      refine⟨_,n++[(st.far,Z st)],r++[(C6 st.far,.ref t)],O,bm.over ba,by rw[bA an];exact bl,?_,bp,?_,?_,?_,?_⟩
      .rw[←oB];have a8:=bn.keep bo;refine⟨by rw[eW,eW,a8.len];rfl,λi l o' e=>?_⟩;by_cases hi:i<(g++n).length
       .rw[o0 hi]at e;obtain⟨v,ev,ca⟩:=a8.at' i l o' e;exact⟨v,by rw[o0 (by rw[a8.len];exact hi)];exact ev,ca⟩
       .have cb:=(cR.mp e).1;rw[eW]at cb;have cI:([(st.far,Z st)]:gC).length=1:=O;have ax:i=(g++n).length:=YT;subst ax;rw[rA (bQ _),Nat.sub_self]at e;cases e;exact⟨.ref t,by rw[rA (by rw[a8.len];exact bQ _),a8.len,Nat.sub_self];rfl,t,_,O,bo _ _ av,_,_,O,O,_,_,O,O,_,_,O,O,_,_,O,O,O⟩
      .intro l m;rw[aw]at m;rcases gN.mp m with m|m
       .exact M l m
       .rw[eU.mp m];exact br st a7
      .rw[aV,aw,List.drop_append_of_le_length (by rw[bi,eW];omega),dJ];rfl
      .rw[←oB];exact a6.snoc (by rw[eW];omega) _
      .intro s m B;rw[aw];rw[as]at m;rcases gN.mp m with m|m
       .exact o1 _ (a2 s m B)
       .rw[eU.mp m];exact jV _ (eU.mpr O)
    .refine⟨_,n,r,O,a0,I,D,L,M,a1,a6,λs m B=>?_⟩;rw[as]at m;rcases gN.mp m with m|m
     .exact a2 s m B
     .rw[eU.mp m]at B;exact B6 (B0 B) au
   .rintro Y G ⟨c3,n,r,rfl,a0,I,D,L,M,a1,a6,a2⟩;rw[dP YT]at a2;have c5:=lcm _ L M;have bi:(keys (g++n)).length=(g++n).length:=by unfold keys;rw[aS]
    have cL:(g++n).length=g.length+n.length:=eW;refine⟨⟨_,_,p+1,g++n,r,O,a0,I,D,L,M,YT,a1,λi cc hi e s a7 B=>?_⟩,?_⟩
    .by_cases cd:i<p
     .exact a6 i cc cd e s a7 B
     .have ax:i=p:=YT;subst ax;rw[sW,o0 YT,aq]at e;cases e;exact a2 s a7 B
    .rw[I,a1,ao,U];dsimp only;rw[D.len,ap.len,aS,aS,o6,fW,o6];omega
  .have ce:p=g.length:=YT;subst ce;rw[show(keys g).drop g.length=[] from vM YT];refine cC ⟨_,O,q d g J a5 bd b5 ao ap c op c1⟩
 .intro Y H Q cO h cf;obtain⟨v,e,p,xs,cg,ch,q⟩:=cf;exact⟨v,e,p,xs,cg,ch,h _ _ q⟩
theorem sj{f:bV->V}:∀{G:M5} {g:bV},(G.map (·.nm)).Nodup->g∈G->dE (G.map λg=>((C6 g.nm:aT),f g)) (C6 g.nm)=Z (f g)
 |e::G,g,a,m=>by
  rw[dD]at a ⊢;rw[gB]at a;rcases dW.mp m with rfl|m
  .exact l3 O
  .rw[l4 (λc=>a.1 (by rw[pc c];exact cG.mpr ⟨g,m,O⟩))];exact sj a.2 m
def fE(G:M5)(f:dX):List (aT×V):=G.map λg=>(C6 g.nm,D1 (f g.nm))
def vj(r:eM H a u)(S:aL H H'):eM H' a u:=by
 rcases r with h|⟨o,h⟩
 .exact .inl (S _ _ h)
 .exact .inr ⟨o,S _ _ h⟩
def u3(m:s∈Mt61.mm G):∃g∈G,g.nm=s.nm/\(s.h=1\/s.h=-1):=by
 obtain⟨g,mg,e⟩:=s0.mp m;rcases e with rfl|rfl
 .exact⟨g,mg,O,.inl O⟩
 .exact⟨g,mg,O,.inr O⟩
inductive KD(x y u:V)(H:aC)(Q:aP):Prop
 |mk:∀(dm de:aB)(V0:L9)(G:M5)(f:dX)(s:Mt22.St),bY H (fB s) x->s∈Mt61.mm G->fR V0 G->y=.ref dm->eM H dm (.dK (iG G))->u=.ref de->eM H de (.dK (fE G f))->Q (.int (D6 G f s)) H->KD x y u H Q
def zU:bW:=kU (KD)
def CZ(T:Txt K mg C):aY P w K mg b_ 1 "room" ["step","most","stream"] zU:=by
 refine T.q17.fc Pn lA ?_;rintro f D A o_ s H vs Q E i ⟨x,y,u,rfl,k,l,I,G,fl,st,m,n,a,rfl,hm,rfl,p,q⟩;have d:=jT i;obtain⟨t,rfl,o⟩:=sV m;obtain⟨g,b,c,r⟩:=u3 n;have z:dE (iG G) (C6 st.nm)=Z (.int g.cap):=by rw[←c];exact sj (f:=λg=>D1 g.cap) a.nd b
 have B:dE (fE G fl) (C6 st.nm)=Z (.int (fl st.nm)):=by rw[←c];exact sj (f:=λg=>D1 (fl g.nm)) a.nd b
 refine⟨_,(bG (cH (bK mE (iZ d (pv 1) (xt 0) (λ_ _=>O)) (bK oi (xt 0) (iZ d (pv 2) (xt 0) (λ_ _=>O)))))),?_⟩;refine⟨_,O,_,O,t,_,0,.str st.nm,O,O,D0 o,bZ (j:=0) O,k,_,O,.inl ⟨_,C6 st.nm,hm,O,z.symm⟩,?_⟩;refine⟨_,O,t,_,3,.int st.h,O,O,D0 o,bZ (j:=3) O,_,O,_,O,t,_,0,.str st.nm,O,O,D0 o,bZ (j:=0) O,l,_,O,.inl ⟨_,C6 st.nm,p,O,B.symm⟩,?_⟩;refine⟨_,_,O,O,.inl (by rcases r with h|h<;>rw[h]<;>exact⟨YR,YR⟩),_,_,O,O,?_⟩;have e:D6 G fl st=g.cap-st.h*fl st.nm:=by
  unfold D6;rw[←c,va a b]
 rw[e]at q;exact q
def n0(G:M5)(f:dX):List Mt22.St:=(Mt61.mm G).filter λs=>G9 (0<D6 G f s)
def FF(d:fR a G)(m:s∈Mt61.mm G):s.near∈a/\s.far∈a:=by
 obtain⟨g,mg,e⟩:=s0.mp m;obtain⟨b,c,_⟩:=d.ends g mg;rcases e with rfl|rfl
 .exact⟨b,c⟩
 .exact⟨c,b⟩
inductive KC(x y u:V)(H:aC)(Q:aP):Prop
 |mk:∀(l dm de:aB)(us:M0)(V0:L9)(G:M5)(f:dX),x=.ref l->H l=Z (.lst us)->IsL H ((Mt61.mm G).map fB) us->G.length<=40->V0.length<=13->fR V0 G->y=.ref dm->eM H dm (.dK (iG G))->u=.ref de->eM H de (.dK (fE G f))->(∀(d:aB)(cm:gC)(J:List (aT×V))(H':aC),aL H H'->H d=aF->H' d=Z (.dK J)->kx H' J cm->jX [D3] (n0 G f) cm->nE (n0 G f) cm cm.length->cm.length<=13->Q (.ref d) H')->KC x y u H Q
def Bl:bW:=kU (KC)
def Lv(T:Txt K mg C):aY P w K mg b_ 2 "reached" ["steps","most","stream"] Bl:=by
 refine T.q18.fc Nf lA ?_;rintro f ac A o_ s H vs Q E k ⟨x,y,u,rfl,l,N,U,us,n,G,fl,rfl,p,r,ae,Y,j,rfl,hm,rfl,a0,q⟩;have af:=fJ;have a1:=r.length;have a2:=xE G;rw[aS,a2]at a1;refine⟨_,(bG (cH (bU (LN T) k (aG (gX (aG (l7 T.q55) aM)) (aG (fN ["step","most","stream"] 1 [1,2] O (eV (pv 0)) (λR=>cM (i:=0) (YS:eQ (["step","most","stream"]:L9)) O YU) (fD YR) (λR=>mX (fG uy (bU (CZ T) k (aG (pv 0) (aG (pv 1) (aG (pv 2) aM)))) bB (eO _))) (λR=>(pv 0))) aM))))),dA O,λc h1=>?_⟩;have a:=C7 (o:=.lst [.str "sea"]) h1;have t:aI H c (.lst [.str "sea"]) c=Z (.lst (([D3]:L9).map C9)):=aV;generalize aI H c (.lst [.str "sea"])=z at a t;refine⟨_,O,l,O,⟨_,C8 (a _ _ p)⟩,fU (F:=K) (xs:=us) YT (λi ys H'=>z=H'/\IsL H' ((((Mt61.mm G).take i).filter λs=>G9 (0<D6 G fl s)).map fB) ys) ⟨O,O⟩ ?_ ?_ ?_⟩
 .rintro i ys H' hi ⟨rfl,b⟩;refine⟨C8 (a _ _ p),?_⟩;have:=b.length;have:=m2 (λs=>G9 (0<D6 G fl s)) ((Mt61.mm G).take i);rw[dY]at this;rw[aS]at *;omega
 .rintro i ag ys H' ah ai B ⟨rfl,b⟩ k1 k2;have aj:i<us.length:=(cR.mp B).1;obtain⟨st,es⟩:∃st,(Mt61.mm G)[i]?=Z st:=⟨_,cJ YT⟩
  obtain⟨v,ev,D⟩:=(D2 a _ _ r).get (show((Mt61.mm G).map fB)[i]?=Z (fB st) by rw[dB,es];rfl);rw[B]at ev;cases ev;refine⟨_,O,_,O,_,O,_,_,_,O,N,U,n,G,fl,st,D,dM es,j,O,vj hm a,O,vj a0 a,_,_,O,O,_,O,?_⟩;have e:((Mt61.mm G).take (i+1)).filter (λs=>G9 (0<D6 G fl s))=((Mt61.mm G).take i).filter (λs=>G9 (0<D6 G fl s))++(if G9 (0<D6 G fl st)=aD then [st] else []):=by
   rw[dR,es,oA];cases h:G9 (0<D6 G fl st)<;>simp[h]
   all_goals simpa using h
  cases I:G9 (0<D6 G fl st) with
  |false=>
   rw[I]at e;refine cC (k2 _ ⟨O,?_⟩);rw[e];simpa using b
  |true=>
   rw[I]at e;refine dO ⟨_,O,k1 _ _ ⟨O,?_⟩⟩;rw[e,B4 O,dJ];exact D9 D b
 rintro ys H2 ⟨rfl,b⟩;rw[dP YT]at b;intro a3 h2;have g:=C7 (o:=.lst ys) h2;refine⟨_,_,O,c,a3,ys,n0 G fl,[D3],n,O,O,by simp,(λz m=>by rw[eU.mp m];exact j.sea),g _ _ t,aV,D2 g _ _ b,?_,Y,λs m=>(FF j (gM.mp m).1).2,λd a4 J H' a5 a6 a7 a8 a9 op aa=>?_⟩
 .have:=m2 (λs=>G9 (0<D6 G fl s)) (Mt61.mm G);unfold n0;omega
 .exact q d a4 J H' (a.trans (g.trans a5)) ((a.trans g).free a6) a7 a8 a9 op aa
inductive Kw(x y:V)(H:aC)(Q:aP):Prop
 |mk:∀(d:aB)(J:List (aT×V))(cm:gC)(S:List Mt22.St)(side:aA),x=.ref d->y=.str side->eM H d (.dK J)->kx H J cm->vu S cm->cm.length<=13->side∈keys cm->(∀(l:aB)(us:M0)(ss:List Mt22.St)(H':aC),aL H H'->H l=aF->H' l=Z (.lst us)->IsL H' (ss.map fB) us->mP S ss side->ss.length<=13->Q (.ref l) H')->Kw x y H Q
def Ga:bW:=gA (Kw)
def Gz(m:c∈keys b):∃(i:Nat)(o:Option Mt22.St),b[i]?=Z (c,o):=by
 obtain⟨i,hi⟩:=mr.mp m;unfold keys at hi;rw[dB]at hi;cases e:b[i]? with
 |none=>rw[e]at hi;cases hi
 |some x=>
  rw[e]at hi;obtain⟨a,o⟩:=x;cases hi;exact⟨i,o,e⟩
def Nl(T:Txt K mg C):aY P w K mg b_ 1 "path_to" ["came","side"] Ga:=by
 refine T.q08.fc xo fZ ?_;rintro f ax A o_ s H vs Q E a8 ⟨x,y,rfl,d,J,n,S,p,rfl,rfl,a0,a1,c,ay,a9,q⟩;have az:=fJ;have a2:=jT a8;obtain⟨a3,aa,u⟩:=Gz a9;obtain⟨a4,ac,ae⟩:=a1.val c u;have aR:=(cR.mp u).1;refine⟨_,(bC (cF (i:=2) xo.nd O YU (gX aM)) (bC (cF (i:=3) xo.nd O YU (iZ a2 (pv 0) (pv 1) (λ_ _=>O))) (bC (u5 jF (fG zJ (pv 3) nl (eO _)) (bC (jR (lS lT mq mo mC (pv 2) (aG (pv 3) aM))) (bG (cF (i:=3) xo.nd O YU (iZ a2 (pv 0) (xt 3) (λ_ _=>O)))))) (bG (cH (Ol O O T.q72 O T.q76 (aG (pv 2) aM))))))),?_⟩;refine⟨dA O,λlp a5=>?_⟩;have r:=C7 (o:=.lst []) a5;have h1:aI H lp (.lst []) lp=Z (.lst []):=aV;generalize aI H lp (.lst [])=z at r h1;refine⟨_,O,_,O,d,a4,O,.inl ⟨J,C6 p,vj a0 r,O,ac.symm⟩,?_⟩;refine u2 (λY H'=>∃(j:Nat)(a:aA)(o:Option Mt22.St)(v:V)(ps:List Mt22.St)(us:M0),Y=[Z (.ref d),Z (.str p),Z (.ref lp),Z v]/\aL H H'/\H' lp=Z (.lst us)/\IsL H' (ps.map fB) us/\n[j]?=Z (a,o)/\o7 H' o v/\At S n j a ps.reverse p/\ps.length+j<n.length)
  (λ_ H'=>match H' lp with|some (.lst us)=>14-us.length|_=>0) ⟨a3,p,aa,a4,[],[],O,r,h1,O,u,ae.same r,(λb0 ch _=>by rw[List.reverse_nil,lK];exact ch),by show 0+a3<_;omega⟩ ?_ ?_
 .rintro Y H2 ⟨j,a,o,v,ps,us,rfl,D,h2,G,b,I,B,b1⟩;have af:=G.length;rw[aS]at af;refine⟨_,O,O,_,O,?_⟩;cases o with
  |none=>
   have ag:v=.non:=I;subst ag;have M:j=0:=by
    cases j with
    |zero=>rfl
    |succ j=>
     obtain⟨L,h',_⟩:=c.prev (j+1) a aF YT b;cases h'
   subst M;have ah:a=D3:=by
    have:=c.first;rw[b]at this;cases this;rfl
   subst ah;have ch:=B [] .nil (λy m=>by cases m);rw[wf]at ch;rw[B0 O];refine cC ⟨_,O,lp,us,O,C8 h2,λl N=>?_⟩;refine q l us.reverse ps.reverse _ (D.trans (C7 N)) (D.free N) aV ?_ ch (by rw[vQ];omega);rw[List.map_reverse];exact IsL.rev (D2 (C7 N) _ _ G)
  |some s=>
   obtain⟨t,rfl,ai⟩:=sV I;have M:0<j:=by
    cases j with
    |zero=>
     have:=c.first;rw[b]at this;cases this
    |succ j=>omega
   obtain⟨L,aj,ak,al,am⟩:=c.prev j a (Z s) M b;cases aj;obtain⟨i,an,g⟩:=Gz am;have ao:=(cR.mp g).1;rw[dY]at ao;have a6:i<j:=YT;rw[qH a6]at g;obtain⟨a7,ap,aq⟩:=a1.val c g;have ar:(keys n)[i]?=Z s.near:=by unfold keys;rw[dB,g];rfl
   have as:(!G9 (F2 t=G5))=aD:=by rw[B1 (by intro c;cases c)];rfl
   rw[as];refine dO ?_;refine⟨_,O,.inl ⟨O,_,C8 h2⟩,_,O,lp,us,.ref t,O,O,h2,YT,?_⟩;have KT:=G7 (o:=.lst (us++[.ref t])) h2;have U:aL H (aI H2 lp (.lst (us++[.ref t]))):=D.over a5;refine⟨_,O,_,O,t,_,1,.str s.near,O,O,D0 (KT _ _ ai),bZ (j:=1) O,d,a7,O,.inl ⟨J,C6 s.near,vj a0 U,O,ap.symm⟩,?_⟩;refine⟨⟨i,s.near,an,a7,ps++[s],us++[.ref t],O,U,aV,?_,g,aq.same U,?_,by rw[eW];show _+1+_<_;omega⟩,?_⟩
   .refine FB KT _ _ (lN λd m=>?_) ?_
    .obtain⟨s,_,rfl⟩:=cG.mp m;exact qe s
    .rw[dJ];exact D9 (d:=fB s) (v:=.ref t) I G
   .rw[List.reverse_append];exact Pb c b ak al a6 ar B
   .rw[h2,aV];dsimp only;rw[eW];show 14-(us.length+1)<14-us.length;omega
 .intro Y H Q b2 h au;obtain⟨v,e,av,k,aw,q⟩:=au;exact⟨v,e,av,k,aw,h _ _ q⟩
def PU(c:mP S a b):a=[]->b=D3:=by
 induction c with
 |nil=>intro _;rfl
 |snoc c m n d=>intro e;simp at e
def Am(G:M5)(f:dX)(ws:L9):Prop:=∃a:gC,jX [D3] (n0 G f) a/\nE (n0 G f) a a.length/\∀b∈ws,b∉keys a
def HC(G:M5)(f:dX)(ws:L9)(a:List Mt22.St):Prop:=(a=[]/\Am G f ws)\/∃b,mP (n0 G f) a b/\b∈ws/\a≠[]/\a.length<=13
inductive xQ(vs:M0)(H:aC)(Q:aP)(z3:dG):Prop
 |mk:∀(x y u v:V)(l dm de lw:aB)(us:M0)(V0:L9)(G:M5)(f:dX)(ws:L9),vs=[x,y,u,v]->x=.ref l->H l=Z (.lst us)->IsL H ((Mt61.mm G).map fB) us->G.length<=40->V0.length<=13->fR V0 G->y=.ref dm->eM H dm (.dK (iG G))->u=.ref de->eM H de (.dK (fE G f))->v=.ref lw->H lw=Z (.lst (ws.map C9))->D3∉ws->(∀(lp:aB)(us:M0)(ss:List Mt22.St)(H':aC),aL H H'->H lp=aF->H' lp=Z (.lst us)->IsL H' (ss.map fB) us->HC G f ws ss->Q (.ref lp) H')->xQ vs H Q z3
def UG:∀vs H Q E,xQ vs H Q E->vs.length=4:=λvs H Q E h=>by cases h;subst_vars;rfl
def WM(T:Txt K mg C):aY P w K mg b_ 3 "path_with_room" ["steps","most","stream","fields"] xQ:=by
 refine T.q19.fc Aw UG (fun f aR A o_ s H vs Q E B h=>?_)
 obtain⟨x,y,u,v,l,a8,a9,lw,us,aa,G,fl,ws,rfl,rfl,ac,ae,af,ag,ah,rfl,hm,rfl,ai,rfl,aj,ns,q⟩:=h
 have b0:=fJ
 have b1:=jT B
 refine⟨_,(bC (cF (i:=4) Aw.nd rfl (D5 rfl) (bU (Lv T) B (aG (pv 0) (aG (pv 1) (aG (pv 2) aM))))) (bC (sM (i:=5) Aw.nd rfl ["side","fields"] 1 [3] rfl (vm (pv 4)) (fun R=>cM (i:=0) (YS:eQ (["side","fields"]:L9)) rfl (D5 rfl)) (fD (by decide)) (fun R=>mX (fG (sN (K:=K) rfl) (pv 0) (pv 1) (by with_unfolding_all rfl))) (fun R=>(pv 0))) (bG (cH (Es (zZ (pv 5)) (bU (Nl T) B (aG (pv 4) (aG (iO (mf (K:=K) rfl) (pv 5) bB (fun _ _=>rfl)) aM))) (gX aM)))))),?_⟩
 refine⟨_,rfl,_,rfl,_,rfl,_,_,_,rfl,l,a8,a9,us,aa,G,fl,rfl,ac,ae,af,ag,ah,rfl,hm,rfl,ai,fun d g J z ak al U Y a0 op am=>?_⟩
 refine⟨_,rfl,d,J,rfl,U,fun o=>?_⟩
 have D:aL H (aI z d (.frz o (.dK J))):=ak.over al
 have KF:gG z (aI z d (.frz o (.dK J))):=fun b ys e=>by
  rw[bA (fun c=>by rw[c,U] at e;cases e)]
  exact e
 have I:=Y.keep KF
 have L:aI z d (.frz o (.dK J)) d=Z (.frz o (.dK J)):=aV
 generalize aI z d (.frz o (.dK J))=H2 at D I L
 have lk:J.length=g.length:=Y.len
 have an:=D _ _ aj
 refine BD (by omega) (fun i ys H'=>H2=H'∧ys=(((keys g).take i).filter fun a=>G9 (a∈ws)).map C9) ⟨rfl,rfl⟩ ?_ ?_ ?_
 ·rintro i ys H' hi ⟨rfl,rfl⟩
  refine⟨L,?_⟩
  have:=m2 (fun a=>G9 (a∈ws)) ((keys g).take i)
  rw[dY] at this
  rw[aS]
  omega
 ·rintro i b2 ys H' b3 b4 a1 ⟨rfl,rfl⟩ k1 k2
  have b5:=(cR.mp a1).1
  obtain⟨⟨a,ao⟩,a2⟩:∃ x,g[i]?=Z x:=⟨_,cJ (by omega)⟩
  obtain⟨b6,ev,_⟩:=I.at' i a ao a2
  rw[a1] at ev
  cases ev
  have ap:(keys g)[i]?=Z a:=by unfold keys;rw[dB,a2];rfl
  refine⟨_,rfl,_,rfl,lw,_,rfl,.inl (C8 an),rfl,ri ws,_,rfl,?_⟩
  show (if sO (C9 a) (ws.map C9)=aD then _ else _)
  rw[ro]
  have n:((keys g).take (i+1)).filter (fun a=>G9 (a∈ws))=((keys g).take i).filter (fun a=>G9 (a∈ws))++(if G9 (a∈ws)=aD then [a] else []):=by
   rw[dR,ap,oA]
   cases h:G9 (a∈ws) <;> simp[h]
   all_goals simpa using h
  cases a3:G9 (a∈ws) with
  | false =>
   rw[a3] at n
   refine cC (k2 _ ⟨rfl,?_⟩)
   rw[n]
   simp
  | true =>
   rw[a3] at n
   refine dO ⟨_,rfl,k1 _ _ ⟨rfl,?_⟩⟩
   rw[n,B4 rfl,dJ]
   rfl
 rintro ys aq ⟨rfl,rfl⟩
 rw[dP (by unfold keys;rw[aS];omega)]
 intro le ar
 have p:=C7 (o:=.lst (((keys g).filter fun a=>G9 (a∈ws)).map C9)) ar
 have r:aI H2 le (.lst (((keys g).filter fun a=>G9 (a∈ws)).map C9)) le=Z (.lst (((keys g).filter fun a=>G9 (a∈ws)).map C9)):=aV
 have k:=D.trans p
 have a4:=I.same p
 have a5:=p _ _ L
 generalize aI H2 le (.lst (((keys g).filter fun a=>G9 (a∈ws)).map C9))=aq at p r k a4 a5
 refine⟨_,rfl,le,_,rfl,C8 r,?_⟩
 cases M:(keys g).filter fun a=>G9 (a∈ws) with
 | nil =>
  refine cC ⟨dA rfl,fun lp t=>?_⟩
  refine q lp [] [] _ (k.trans (C7 t)) (k.free t) aV rfl (.inl ⟨rfl,g,a0,op,fun a m mk=>?_⟩)
  have:a∈(keys g).filter fun a=>G9 (a∈ws):=gM.mpr ⟨mk,B0 m⟩
  rw[M] at this
  cases this
 | cons a b7 =>
  have m:a∈(keys g).filter fun a=>G9 (a∈ws):=by rw[M];exact eB
  rw[gM] at m
  have N:a∈ws:=B2 m.2
  rw[M] at r
  refine dO ?_
  refine⟨_,rfl,_,rfl,le,_,0,.str a,rfl,rfl,C8 r,bZ (j:=0) rfl,_,_,rfl,d,J,g,n0 G fl,a,rfl,rfl,.inr ⟨o,a5⟩,a4,a0.came,am,m.1,fun lp as au av aw ax t ay ch az=>?_⟩
  refine q lp as au av (k.trans aw) (k.free ax) t ay (.inr ⟨a,ch,N,fun e=>?_,az⟩)
  have:=PU ch e
  rw[this] at N
  exact ns N
def uG(J:List (aT×V)):dX:=λn=>match dE J (C6 n) with
 |some (.int i)=>i
 |_=>0
def Fy(h:IsL H N us):N.length=us.length:=by have:=h.length;omega
def FD{G:M5}(a:(G.map (·.nm)).Nodup)(f:dX){g:bV}(m:g∈G):uG (fE G f) g.nm=f g.nm:=by
 unfold uG;rw[show dE (fE G f) (C6 g.nm)=Z (.int (f g.nm)) from sj (f:=λg=>D1 (f g.nm)) a m]
def CE(h:∀g∈G,f g.nm=a g.nm):val G f=val G a:=by
 unfold val jE;rw[lj λg m=>show p8 f D3 g=p8 a D3 g by unfold p8;rw[h g m]]
def QS(m:n∈G.map (·.nm)):iI (fE G f) (C6 n) (.int x)=fE G (λk=>if k=n then x else f k):=by
 unfold iI;have a:((fE G f).any λb=>G9 (b.1=(C6 n:aT)))=aD:=by
  obtain⟨g,mg,e⟩:=cG.mp m;refine tN.mpr ⟨_,cG.mpr ⟨g,mg,O⟩,?_⟩;rw[←e];exact B0 O
 rw[B4 a];unfold fE;rw[eP];refine m3 λg _=>?_;show(if (C6 g.nm:aT)=C6 n then((C6 g.nm:aT),D1 x) else(C6 g.nm,D1 (f g.nm)))=(C6 g.nm,D1 (if g.nm=n then x else f g.nm))
 by_cases e:g.nm=n
 .rw[B4 (by rw[e]),B4 e]
 .rw[B3 (λc=>e (pc c)),B3 e]
def QT(a:s∈Mt61.mm G):iI (fE G f) (C6 s.nm) (.int (f s.nm+s.h*m))=fE G (kK m f s):=by
 obtain⟨g,mg,b,_⟩:=u3 a;rw[QS (by rw[←b];exact cG.mpr ⟨g,mg,O⟩)];unfold fE;refine m3 λg _=>?_;show(C6 g.nm,D1 (if g.nm=s.nm then f s.nm+s.h*m else f g.nm))=(C6 g.nm,D1 (if g.nm=s.nm then f g.nm+s.h*m else f g.nm))
 by_cases e:g.nm=s.nm
 .rw[B4 e,B4 e,e]
 .rw[B3 e,B3 e]
def u9(G:M5)(f:dX):(fE G f).length=G.length:=aS _
def PL(G:M5)(f:dX):(fE G f).map (·.1)=(G.map (·.nm)).map C6:=by
 unfold fE;rw[eP,eP];rfl
def zA:∀s∈n0 G f,s∈Mt61.mm G:=λs m=>(gM.mp m).1
inductive JX(x y u:V)(H:aC)(Q:aP):Prop
 |mk:∀(l dm lw:aB)(o:aZ)(us:M0)(V0:L9)(G:M5)(ws:L9),x=.ref l->H l=Z (.lst us)->IsL H ((Mt61.mm G).map fB) us->G.length<=40->V0.length<=13->fR V0 G->y=.ref dm->H dm=Z (.frz o (.dK (iG G)))->u=.ref lw->H lw=Z (.lst (ws.map C9))->D3∉ws->(∀(de:aB)(f:dX)(H':aC),aL H H'->H de=aF->H' de=Z (.dK (fE G f))->Stream V0 G ws f->Am G f ws->Q (.ref de) H')->JX x y u H Q
def Gg:bW:=kU (JX)
def WO(T:Txt K mg C):aY P w K mg b_ 4 "fullest_stream" ["steps","most","fields"] Gg:=by
 refine T.q20.fc sH lA ?_;rintro f co A o_ s H vs Q E a7 ⟨x,y,u,rfl,l,N,lw,o,us,a3,G,ws,rfl,av,aw,ax,ay,I,rfl,hm,rfl,az,ns,q⟩;have cp:=fJ;have bf:=jT a7;refine⟨_,(bC (cF (i:=3) sH.nd O (E1 O) (iX (oQ O) O T.q67 mW (aG (fN ["name"] 1 [] O (Er (pv 1)) (λR=>cM (i:=0) (YS:eQ (["name"]:L9)) O YU) (fD YR) (λR=>gQ) (λR=>(gF (aG (pv 0) (aG bB aM))))) aM))) (bC (cF (i:=4) sH.nd O YU (bU (WM T) a7 (aG (pv 0) (aG (pv 1) (aG (pv 3) (aG (pv 2) aM)))))) (bC (u5 jF (zZ (pv 4)) (bC (cF (i:=5) sH.nd O YU (dH (PV O) O T.q74 uZ (aG (fN ["step","most","stream"] 1 [1,3] O (eV (pv 4)) (λR=>cM (i:=0) (YS:eQ (["step","most","stream"]:L9)) O YU) (fD YR) (λR=>gQ) (λR=>(bU (CZ T) a7 (aG (pv 0) (aG (pv 1) (aG (pv 2) aM)))))) aM))) (bC (kE jF O (eV (pv 4)) (cM (i:=6) sH.nd O YU) (bG (RN bf (pv 3) (xt 6) (bK oi (xt 6) (pv 5)) TZ (λ_ _ _=>O)))) (bG (cF (i:=4) sH.nd O YU (bU (WM T) a7 (aG (pv 0) (aG (pv 1) (aG (pv 3) (aG (pv 2) aM)))))))))) (bG (cH (pv 3)))))),?_⟩;refine⟨_,O,N,o,_,O,hm,?_⟩;refine BD (by rw[uY];omega) (λi ys H'=>aL H H'/\fF H' ys (fE (G.take i) λ_=>0)) ⟨D7 _,GT _⟩ ?_ ?_ ?_
 .rintro i ys H' hi ⟨U,a0⟩;have:=a0.len;rw[u9,dY]at this;exact⟨U _ _ hm,YT⟩
 .rintro i bg ys H' bh bi ah ⟨U,a0⟩ k1 k2;unfold iG at ah;rw[dB]at ah;obtain⟨g,bj,bk⟩:=lJ.mp ah;have bl:kV bg.1=C9 g.nm:=by rw[←bk];rfl
  rw[bl];refine⟨_,O,dA O,λcq aR=>k1 _ _ ⟨U.trans (C7 aR),?_⟩⟩;have ai:fE (G.take (i+1)) (λ_=>0)=fE (G.take i) (λ_=>0)++[(C6 g.nm,D1 0)]:=by
   unfold fE;rw[dR,bj,dJ];rfl
  rw[ai];exact G4 (k:=C6 g.nm) a0 aR
 rintro ys z ⟨b0,a0⟩;rw[uY,dP (bQ _)]at a0;intro aj bm;have ak:=C7 (o:=.lst ys) bm;refine⟨aj,ys,fE G λ_=>0,O,C8 aV,a0.same ak,by rw[u9];omega,by rw[PL];exact(qg _).mpr I.nd,λB b1=>?_⟩;have b2:=C7 (o:=.dK (fE G λ_=>0)) b1;have a1:=b0.trans (ak.trans b2);have b3:=(b0.trans ak).free b1;have al:aI (aI z aj (.lst ys)) B (.dK (fE G λ_=>0)) B=Z (.dK (fE G λ_=>0)):=aV;generalize aI (aI z aj (.lst ys)) B (.dK (fE G λ_=>0))=cr at b2 a1 al;have bn:Stream a3 G ws (λ_=>0):=Stream.none I ws λ_ _=>O;refine⟨_,O,_,O,_,O,_,O,_,_,_,_,l,N,B,lw,us,a3,G,λ_=>0,ws,O,O,a1 _ _ av,D2 a1 _ _ aw,ax,ay,I,O,.inr ⟨o,a1 _ _ hm⟩,O,.inl al,O,a1 _ _ az,ns,λlp bo n cs b4 ct bp bq br=>?_⟩;refine u2 (λY H'=>∃(r:dX)(lp:aB)(D:M0)(n:List Mt22.St)(b5 L:Option V),Y=[Z (.ref l),Z (.ref N),Z (.ref lw),Z (.ref B),Z (.ref lp),b5,L]/\aL H H'/\H' B=Z (.dK (fE G r))/\Stream a3 G ws r/\H' lp=Z (.lst D)/\IsL H' (n.map fB) D/\HC G r ws n)
  (λ_ H'=>match H' B with|some (.dK J)=>(kW G-val G (uG J)).toNat|_=>0) ⟨λ_=>0,lp,bo,n,_,_,O,a1.trans b4,b4 _ _ al,bn,bp,bq,br⟩ ?_ ?_
 .rintro Y a8 ⟨r,lp,D,n,b5,L,rfl,am,a9,b6,aa,an,bs⟩;have ac:=Fy an;rw[aS]at ac;refine⟨_,O,lp,D,O,C8 aa,?_⟩;rcases bs with ⟨rfl,ao⟩|⟨z,ch,bu,b7,cu⟩
  .have:D=[]:=yw ac.symm;subst this;exact cC ⟨_,O,q B r a8 am b3 a9 b6 ao⟩
  have bv:D.isEmpty=aK:=by
   cases D with
   |nil=>exact B6 (yw ac) b7
   |cons a b=>rfl
  rw[bv];refine dO ?_;obtain⟨ap,cv⟩:=Dy ch;have bw:∀s∈n,0<D6 G r s:=λs m=>B2 (gM.mp (ap s m)).2;have bx:=am _ _ hm;refine⟨_,O,lp,O,⟨_,C8 aa⟩,?_⟩;refine fU (F:=K) (xs:=D) YT (λi ys H'=>a8=H'/\ys=((n.take i).map (D6 G r)).map D1) ⟨O,O⟩ ?_ ?_ ?_
  .rintro i ys H' hi ⟨rfl,rfl⟩;exact⟨C8 aa,by rw[aS,aS,dY];omega⟩
  .rintro i bz ys H' bh bi b8 ⟨rfl,rfl⟩ k1 k2;have bR:i<D.length:=(cR.mp b8).1;obtain⟨st,es⟩:∃st,n[i]?=Z st:=⟨_,cJ YT⟩
   obtain⟨v,ev,aq⟩:=an.get (show(n.map fB)[i]?=Z (fB st) by rw[dB,es];rfl);rw[b8]at ev;cases ev;have a2:=dM es;refine⟨_,O,_,O,_,O,_,_,_,O,N,B,a3,G,r,st,aq,zA _ (ap st a2),I,O,.inr ⟨o,bx⟩,O,.inl a9,k1 _ _ ⟨O,?_⟩⟩;rw[dR,es,dJ,dJ];rfl
  rintro ys c0 ⟨rfl,rfl⟩;rw[dP YT];intro ae c1;have a4:=C7 (o:=.lst ((n.map (D6 G r)).map D1)) c1;have b9:aI a8 ae (.lst ((n.map (D6 G r)).map D1)) ae=Z (.lst ((n.map (D6 G r)).map D1)):=aV;generalize aI a8 ae (.lst ((n.map (D6 G r)).map D1))=c0 at a4 b9;have c2:=am.trans a4;refine⟨ae,n.map (D6 G r),O,C8 b9,by rw[aS];exact List.length_pos_iff.mpr b7,λM c3 c4=>?_⟩;have c5:0<M:=by
   obtain⟨s,a2,rfl⟩:=cG.mp c3;exact bw s a2
  have c6:∀s∈n,M<=D6 G r s:=λs m=>c4 _ (cG.mpr ⟨s,m,O⟩);have c7:=a4 _ _ a9;have ba:=a4 _ _ aa;have c8:=D2 a4 _ _ an;refine⟨_,O,lp,O,⟨_,C8 ba⟩,qk (K:=K) (a:=lp) (xs:=D) (λi Y H'=>∃L,Y=[Z (.ref l),Z (.ref N),Z (.ref lw),Z (.ref B),Z (.ref lp),Z (.int M),L]/\aL H H'/\H' B=Z (.dK (fE G ((n.take i).foldl (kK M) r)))/\H' lp=Z (.lst D)/\IsL H' (n.map fB) D) ⟨_,O,c2,c7,ba,c8⟩ ?_ ?_ ?_⟩
  .rintro i Y H' hi ⟨L,rfl,U,a5,af,ar⟩;exact C8 af
  .rintro i bz Y H' bb ⟨L,rfl,U,a5,af,ar⟩;have bR:i<D.length:=(cR.mp bb).1;obtain⟨st,es⟩:∃st,n[i]?=Z st:=⟨_,cJ YT⟩
   obtain⟨v,ev,aq⟩:=ar.get (show(n.map fB)[i]?=Z (fB st) by rw[dB,es];rfl);rw[bb]at ev;cases ev;have a2:=zA _ (ap st (dM es));obtain⟨t,rfl,bc⟩:=sV aq;obtain⟨g,c9,ao,ca⟩:=u3 a2;have cb:dE (fE G ((n.take i).foldl (kK M) r)) (C6 st.nm)=Z (.int (((n.take i).foldl (kK M) r) st.nm)):=by rw[←ao];exact sj (f:=λg=>D1 (((n.take i).foldl (kK M) r) g.nm)) I.nd c9
   refine⟨_,O,_,O,t,_,0,.str st.nm,O,O,D0 bc,bZ (j:=0) O,B,_,O,.inl ⟨_,C6 st.nm,.inl a5,O,cb.symm⟩,?_⟩;refine⟨_,O,t,_,3,.int st.h,O,O,D0 bc,bZ (j:=3) O,_,O,_,_,O,O,.inl (by rcases ca with h|h<;>rw[h]<;>exact⟨YR,YR⟩),_,_,O,O,_,.inl ⟨_,C6 st.nm,a5,O,by rw[u9];omega,O⟩,?_⟩;rw[QT a2];have cc:lp≠B:=si af a5 (by intro c;cases c);have KT:gG H' (aI H' B (.dK (fE G (kK M ((n.take i).foldl (kK M) r) st)))):=λb ys e=>by
    rw[bA (λc=>by rw[c,a5]at e;cases e)];exact e
   refine⟨_,O,U.over b3,?_,by rw[bA cc];exact af,FB KT _ _ (lN λd m=>?_) ar⟩
   .rw[aV,dR,es,v3];rfl
   .obtain⟨s,_,rfl⟩:=cG.mp m;exact qe s
  .rintro Y cw ⟨L,rfl,a6,ag,cx,cy⟩;rw[←ac,dP (bQ _)]at ag;obtain⟨bd,cd⟩:=b6.more I ch zA (qX c5) c6 bu ns;refine⟨_,O,_,O,_,O,_,O,_,_,_,_,l,N,B,lw,us,a3,G,n.foldl (kK M) r,ws,O,O,a6 _ _ av,D2 a6 _ _ aw,ax,ay,I,O,.inr ⟨o,a6 _ _ hm⟩,O,.inl ag,O,a6 _ _ az,ns,λce cf cg cz as cI ci cj ck=>?_⟩;refine⟨⟨_,ce,cf,cg,_,_,O,a6.trans as,as _ _ ag,bd,ci,cj,ck⟩,?_⟩;rw[a9,as _ _ ag];show(kW G-val G (uG (fE G (n.foldl (kK M) r)))).toNat<(kW G-val G (uG (fE G r))).toNat;rw[CE λg m=>FD I.nd _ m,CE λg m=>FD I.nd r m,cd];have:=OX I bd.fits;omega
 .intro Y H Q cL h cm;obtain⟨v,e,p,xs,ai,cn,q⟩:=cm;exact⟨v,e,p,xs,ai,cn,h _ _ q⟩
def Aa(h:kx H J a)(b:aA):(dE J (C6 b)).isSome=G9 (b∈keys a):=by
 by_cases m:b∈keys a
 .rw[h.some m,B0 m]
 .rw[h.none m,B1 m];rfl
def sw(G:M5)(R:L9):List Mt22.St:=(Mt61.mm G).filter λs=>!G9 (s.far∈R)
def kD(L:Int)(s:Mt22.St):aH:=.tup [.str s.nm,.int L]
def xJ{q:Type}{P:q->Bool}{xs:List q}{i:Nat}{x:q}(e:xs[i]?=Z x):(xs.take (i+1)).filter P=(xs.take i).filter P++(if P x=aD then [x] else []):=by
 rw[dR,e,oA];cases h:P x<;>simp[h]
inductive xR(vs:M0)(H:aC)(Q:aP)(z3:dG):Prop
 |mk:∀(x y u v:V)(l df lw:aB)(us:M0)(V0:L9)(G:M5)(J:List (aT×V))(cm:gC)(ws:L9)(L:Int),vs=[x,y,u,v]->x=.ref l->H l=Z (.lst us)->IsL H ((Mt61.mm G).map fB) us->G.length<=40->V0.length<=13->fR V0 G->y=.ref df->eM H df (.dK J)->kx H J cm->u=.ref lw->H lw=Z (.lst (ws.map C9))->ws.Nodup->(∀z∈ws,z∈V0)->v=.int L->(∀(cmB:gC)(lr:aB)(us':M0)(H':aC),aL H H'->H lr=aF->H' lr=Z (.lst us')->IsL H' ((iE G (keys cm) (keys cmB)).map (kD L)) us'->jX ws (sw G (keys cm)) cmB->nE (sw G (keys cm)) cmB cmB.length->Q (.ref lr) H')->xR vs H Q z3
def TE:∀vs H Q E,xR vs H Q E->vs.length=4:=λvs H Q E h=>by cases h;subst_vars;rfl
def Xy(T:Txt K mg C):aY P w K mg b_ 2 "works_round" ["steps","flowed","fields","height"] xR:=by
 refine T.q21.fc Iq TE ?_;rintro f ay A o_ s H vs Q E I ⟨x,y,u,v,l,L,lw,us,a9,G,J,b,ws,N,rfl,rfl,n,z,az,aa,ac,rfl,U,Y,rfl,ae,af,ag,rfl,q⟩;have aR:=fJ;have B:=jT I;have ah:=Fy z;have ai:=xE G;rw[aS,ai]at ah;refine⟨_,(bC (cF (i:=4) Iq.nd O (E1 O) (bU (LN T) I (aG (pv 2) (aG (fN ["step","flowed"] 1 [1] O (eV (pv 0)) (λR=>cM (i:=0) (YS:eQ (["step","flowed"]:L9)) O YU) (fD YR) (λR=>mX (tc (CW B (xt 0) (pv 1)))) (λR=>(pv 0))) aM)))) (bG (cH (fN ["step","flowed","height","behind"] 1 [1,3,4] O (eV (pv 0)) (λR=>cM (i:=0) (YS:eQ (["step","flowed","height","behind"]:L9)) O YU) (fD YR) (λR=>mX (F7 (zY (tc (wR B (xt 0) (pv 1))) (zH (tc (wR B (xt 0) (pv 3))))))) (λR=>(gF (aG (xt 0) (aG (pv 2) aM)))))))),_,O,_,O,l,O,⟨_,C8 n⟩,fU (F:=K) (xs:=us) YT (λi ys H'=>H=H'/\IsL H' ((((Mt61.mm G).take i).filter λs=>!G9 (s.far∈keys b)).map fB) ys) ⟨O,O⟩ ?_ ?_ ?_⟩
 .rintro i ys H' hi ⟨rfl,a⟩;refine⟨C8 n,?_⟩;have:=a.length;have:=m2 (λs:Mt22.St=>!G9 (s.far∈keys b)) ((Mt61.mm G).take i);rw[dY]at this;rw[aS]at *;omega
 .rintro i aj ys H' ak a0 k ⟨rfl,a⟩ k1 k2;have al:i<us.length:=(cR.mp k).1;obtain⟨st,es⟩:∃st,(Mt61.mm G)[i]?=Z st:=⟨_,cJ YT⟩
  obtain⟨v,ev,p⟩:=z.get (show((Mt61.mm G).map fB)[i]?=Z (fB st) by rw[dB,es];rfl);rw[k]at ev;cases ev;obtain⟨t,rfl,o⟩:=sV p;have c:=xJ (P:=λs:Mt22.St=>!G9 (s.far∈keys b)) es;refine⟨_,O,t,_,2,.str st.far,O,O,D0 o,bZ (j:=2) O,_,O,L,_,O,.inl ⟨J,C6 st.far,U,O,O⟩,_,O,?_⟩;rw[Aa Y];cases r:(!G9 (st.far∈keys b)) with
  |false=>
   rw[r]at c;refine cC (k2 _ ⟨O,?_⟩);rw[c];simpa using a
  |true=>
   rw[r]at c;refine dO ⟨_,O,k1 _ _ ⟨O,?_⟩⟩;rw[c,B4 O,dJ];exact D9 p a
 rintro ys H2 ⟨rfl,a⟩;rw[dP YT]at a;intro am h2;have D:=C7 (o:=.lst ys) h2;refine⟨_,_,O,lw,am,ys,sw G (keys b),ws,a9,O,O,af,ag,D _ _ ae,aV,D2 D _ _ a,?_,aa,λs m=>(FF ac (gM.mp m).1).2,λan e ao ap aq b0 ar as au av b1=>?_⟩
 .have:=m2 (λs:Mt22.St=>!G9 (s.far∈keys b)) (Mt61.mm G);unfold sw;omega
 have g:=D.trans aq;have aw:=D2 g _ _ z;refine⟨_,O,l,O,⟨_,C8 (g _ _ n)⟩,fU (F:=K) (xs:=us) YT (λi ys H'=>aL ap H'/\IsL H' ((((Mt61.mm G).take i).filter λs=>G9 (s.near∈keys b)&&G9 (s.far∈keys e)).map (kD N)) ys) ⟨D7 _,O⟩ ?_ ?_ ?_⟩
 .rintro i ys H' hi ⟨d,a⟩;refine⟨C8 (d _ _ (g _ _ n)),?_⟩;have:=a.length;have:=m2 (λs:Mt22.St=>G9 (s.near∈keys b)&&G9 (s.far∈keys e)) ((Mt61.mm G).take i);rw[dY]at this;rw[aS]at *;omega
 .rintro i aj ys H' ak a0 k ⟨d,a⟩ k1 k2;have al:i<us.length:=(cR.mp k).1;obtain⟨st,es⟩:∃st,(Mt61.mm G)[i]?=Z st:=⟨_,cJ YT⟩
  obtain⟨v,ev,p⟩:=(D2 d _ _ aw).get (show((Mt61.mm G).map fB)[i]?=Z (fB st) by rw[dB,es];rfl);rw[k]at ev;cases ev;obtain⟨t,rfl,o⟩:=sV p;have c:=xJ (P:=λs:Mt22.St=>G9 (s.near∈keys b)&&G9 (s.far∈keys e)) es;have a1:(G9 (st.near∈keys b)&&G9 (st.far∈keys e))=aK->a0 H':=λr=>by
   refine k2 _ ⟨d,?_⟩;rw[c,r];simpa using a
  refine⟨_,O,t,_,1,.str st.near,O,O,D0 o,bZ (j:=1) O,_,O,L,_,O,.inl ⟨J,C6 st.near,vj U (g.trans d),O,O⟩,_,O,?_⟩;rw[Aa Y];cases h1:G9 (st.near∈keys b) with
  |false=>exact cC (a1 (by rw[h1];rfl))
  |true=>
   refine dO ⟨_,O,t,_,2,.str st.far,O,O,D0 o,bZ (j:=2) O,_,O,an,_,O,.inl ⟨ao,C6 st.far,.inl (d _ _ ar),O,O⟩,_,O,?_⟩;rw[Aa as];cases h2:G9 (st.far∈keys e) with
   |false=>exact cC (a1 (by rw[h1,h2];rfl))
   |true=>
    refine dO ⟨_,O,t,_,0,.str st.nm,O,O,D0 o,bZ (j:=0) O,_,O,dA O,λM a2=>k1 _ _ ⟨d.trans (C7 a2),?_⟩⟩;rw[h1,h2]at c;rw[c,dJ];exact D9 (show bY _ (kD N st) (.ref M) from⟨M,_,O,aV,_,_,O,O,_,_,O,O,O⟩) (D2 (C7 a2) _ _ a)
 rintro a3 b2 ⟨a4,a5⟩;rw[dP YT]at a5;intro ax a6;have a7:=C7 (o:=.lst a3) a6;exact q e ax a3 _ (g.trans (a4.trans a7)) ((g.trans a4).free a6) aV (D2 a7 _ _ a5) au av
def Rf{zs:L9}{S:List Mt22.St}{b:gC}(h:jX zs S b){R:L9}(l:∀a∈zs,a∈R)(cl:∀s∈S,s.near∈R->s.far∈R):∀a∈keys b,a∈R:=by
 have:∀(n i:Nat)(a:aA),i<n->(keys b)[i]?=Z a->a∈R:=by
  intro n
  induction n with
  |zero=>intro i a hi;omega
  |succ n p=>
   intro i a hi e;unfold keys at e;rw[dB]at e;obtain⟨⟨d,o⟩,f,rfl⟩:=lJ.mp e;by_cases q:i<zs.length
   .obtain⟨y,g⟩:∃y,zs[i]?=Z y:=⟨_,cJ q⟩
    have:=h.first i y g;rw[f]at this;cases this;exact l _ (dM g)
   .obtain⟨s,_,r,t,u⟩:=h.prev i d o YT f;obtain⟨j,c⟩:=mr.mp u;have k:=(cR.mp c).1;unfold keys at k;rw[aS,dY]at k;have w:(keys b)[j]?=Z s.near:=by
     unfold keys at c ⊢;rw[dB,qH YT]at c;rw[dB];exact c
    show d∈R;rw[←t];exact cl s r (p j _ YT w)
 intro a m;obtain⟨i,hi⟩:=mr.mp m;exact this (i+1) i a YT hi
def Qp{j:L9}{G:M5}(w:fR j G){f:dX}{ws:L9}(l:Am G f ws){b d:gC}(g:jX [D3] (n0 G f) b)(op:nE (n0 G f) b b.length)(h:jX ws (sw G (keys b)) d)(n:nE (sw G (keys b)) d d.length):nU G f ws (keys b) (keys d):=by
 obtain⟨o,p,q,r⟩:=l;have sub:=Rf g (R:=keys o) (λa m=>by rw[eU.mp m];exact p.start (eU.mpr O)) (AL q);have i:∀a∈ws,a∉keys b:=λa m k=>r a m (sub a k);refine⟨g.start (eU.mpr O),λs c t e=>?_,i,λa m=>h.start m,λa m=>?_,λs c u e=>?_⟩
 .exact AL op s (gM.mpr ⟨c,B0 t⟩) e
 .rcases h.mem m with m|⟨s,c,rfl⟩
  .exact i a m
  .have:=(gM.mp c).2;simpa using this
 .exact AL n s (gM.mpr ⟨c,by simpa using u⟩) e
theorem Ek(c:∀h∈B,h∉R):∀{G:M5},(G.map (·.nm)).Nodup->((iE G R B).map (·.nm)).Nodup/\∀n∈(iE G R B).map (·.nm),n∈G.map (·.nm)
 |[],_=>⟨by simp[iE,Mt61.mm],λn m=>by simp[iE,Mt61.mm]at m⟩
 |g::G,b=>by
  rw[dD,gB]at b;obtain⟨h1,h2⟩:=Ek c b.2;have e:iE (g::G) R B=([up g,dn g].filter λs=>G9 (s.near∈R)&&G9 (s.far∈B))++iE G R B:=by
   unfold iE Mt61.mm;rw[v8,oA]
  have a:([up g,dn g].filter λs=>G9 (s.near∈R)&&G9 (s.far∈B))=[]\/∃s,s.nm=g.nm/\([up g,dn g].filter λs=>G9 (s.near∈R)&&G9 (s.far∈B))=[s]:=by
   rw[oD];cases d:(G9 ((up g).near∈R)&&G9 ((up g).far∈B)) with
   |true=>
    rw[fM]at d;have i:g.b∈B:=B2 d.2;have:(G9 ((dn g).near∈R)&&G9 ((dn g).far∈B))=aK:=by
     have:(dn g).near∉R:=c _ i;rw[B1 this];rfl
    rw[oD,this];exact .inr ⟨up g,O,O⟩
   |false=>
    rw[oD];cases j:(G9 ((dn g).near∈R)&&G9 ((dn g).far∈B)) with
    |true=>exact .inr ⟨dn g,O,O⟩
    |false=>exact .inl O
  rw[e];rcases a with a|⟨s,f,a⟩
  .rw[a,wf];exact⟨h1,λn m=>eK _ (h2 n m)⟩
  .rw[a];refine⟨?_,λn m=>?_⟩
   .rw[dJ,dD,mu,yE,gB,f];exact⟨λm=>b.1 (h2 _ m),h1⟩
   .rw[dJ]at m;rcases gN.mp m with m|m
    .rw[dD,mu,eU,f]at m;rw[m];exact eB
    .exact eK _ (h2 n m)
def Bo:∀s∈iE G R B,s∈Mt61.mm G:=λs m=>(gM.mp m).1
def EO(e:ky zs N)(l:fR k (bD fs N L))(m:s∈Mt61.mm (bD fs N L)):uB N (kD L s)=pN (bD fs N L) s.nm/\s.nm∈N.map aN/\kZ N s.nm<=L:=by
 obtain⟨g,mg,i,_⟩:=u3 m;obtain⟨d,f,o,rfl,h⟩:=zz e mg;have j:=ql e.nd f;have p:=Fi e.nd f;have cap:=va l mg;rw[←i,←h];rw[←h]at cap;refine⟨?_,cG.mpr ⟨d,f,O⟩,?_⟩
 .show ui N s.nm*(L-kZ N s.nm)=_;rw[←i,←h,cap,j,p];obtain⟨n,a,b,c,r,q,rfl,_⟩:=gE (e.all d f);rfl
 .rw[j];obtain⟨n,a,b,c,r,q,rfl,_⟩:=gE (e.all d f);have h1:c<L:=B2 (iJ.mp (show(G9 (c<L)&&(kI fs L a&&kI fs L b))=aD from o)).1;show c<=L;omega
def xv(b:ky zs N)(c:fC L=aD)(a:fR e (bD fs N L))(f:∀g∈B,g∉R):GoodW N ((iE (bD fs N L) R B).map (kD L)):=by
 refine⟨λd m=>?_,?_⟩
 .obtain⟨s,h,rfl⟩:=cG.mp m;obtain⟨_,h2,i⟩:=EO b a (Bo s h);show(G9 (s.nm∈N.map aN)&&(fC L&&G9 (kZ N s.nm<=L)))=aD;rw[B0 h2,c,B0 i];rfl
 .rw[eP];exact(Ek f a.nd).1
def LX(c:ky zs N)(b:fR a (bD fs N L))(st:Stream a (bD fs N L) ws f)(r:nU (bD fs N L) f ws R B):ur N ((iE (bD fs N L) R B).map (kD L))=val (bD fs N L) f:=by
 rw[←Og b st r];unfold ur;rw[eP];show cD _ _=_;exact lj λs m=>(EO c b (Bo s m)).1
def CU:(iE G R B).length<=2*G.length:=by
 rw[←xE];exact m2 _ _
def Hp(f:dX)(g:bV):aH:=.tup [.str g.nm,.int (f g.nm)]
def uI(G:M5)(f:dX):M3:=(G.filter λg=>!G9 (f g.nm=0)).map (Hp f)
inductive JT(C:aB)(x y u:V)(H:aC)(Q:aP):Prop
 |mk:∀(p l:aB)(fs N:M3)(zs:L9)(L:Int),x=.ref p->dU C H p fs N->y=.ref l->H l=Z (.lst (zs.map C9))->1<=zs.length->zs.Nodup->(∀z∈zs,z∈fs.map aN)->u=.int L->fC L=aD->(∀(t lk la:aB)(uk ua:M0)(f:dX)(R B:L9)(H':aC),aL H H'->H t=aF->H lk=aF->H la=aF->lk≠la->H' t=Z (.tup [.int (val (bD fs N L) f),.ref lk,.ref la])->H' lk=Z (.lst uk)->IsL H' ((iE (bD fs N L) R B).map (kD L)) uk->H' la=Z (.lst ua)->IsL H' (uI (bD fs N L) f) ua->Stream ("sea" :: fs.map aN) (bD fs N L) zs f->nU (bD fs N L) f zs R B->Q (.ref t) H')->JT C x y u H Q
def xV(C:aB):bW:=kU (JT C)
def AM(T:Txt K mg C):aY P w K mg b_ 6 "fewest" ["land","fields","height"] (xV C):=by
 refine T.q22.fc sJ lA ?_;rintro f ci A o_ s H vs Q E n ⟨x,y,u,rfl,p,l,fs,N,zs,a,rfl,L,rfl,ag,bp,av,sub,rfl,aw,q⟩;have cj:=fJ;have ax:=jT n;have ah:=(fV L).1;have a6:=(fV L).2;have ck:=a6.l2;have f2:=ah.l2;have r:=oU ah a6 a;have cm:=u8 fs N a;have ai:(("sea":aA)::fs.map aN).length<=13:=by rw[fW,aS];omega
 have ns:D3∉zs:=λm=>by
  obtain⟨d,bq,e⟩:=cG.mp (sub _ m);obtain⟨z,g,u,rfl,br,_⟩:=iD (ah.all d bq);exact yd br e
 refine⟨_,(bC (jR (bU (xg T) n (aG (pv 0) (aG (pv 1) (aG (pv 2) aM))))) (bC (cF (i:=3) sJ.nd O YU (bU (Mz T) n (aG (pv 0) (aG (pv 2) aM)))) (bC (cF (i:=4) sJ.nd O YU (bU (XN T) n (aG (pv 0) (aG (pv 3) aM)))) (bC (cF (i:=5) sJ.nd O (E1 O) (bU (WO T) n (aG (pv 4) (aG (pv 3) (aG (pv 1) aM))))) (bC (cF (i:=6) sJ.nd O YU (bU (Xy T) n (aG (pv 4) (aG (bU (Lv T) n (aG (pv 4) (aG (pv 3) (aG (pv 5) aM)))) (aG (pv 1) (aG (pv 2) aM)))))) (bC (sM (i:=7) sJ.nd O ["name","stream"] 1 [5] O (vm (pv 5)) (λR=>cM (i:=0) (YS:eQ (["name","stream"]:L9)) O YU) (fD YR) (λR=>mX (fG oY (iZ ax (pv 1) (pv 0) (λ_ _=>O)) bB (eO _))) (λR=>(gF (aG (pv 0) (aG (iZ ax (pv 1) (pv 0) (λ_ _=>O)) aM))))) (bG (cH (gF (aG (bU (Jx T) n (aG (pv 0) (aG (pv 6) aM))) (aG (pv 6) (aG (pv 7) aM)))))))))))),_,O,_,O,_,O,_,_,_,O,p,l,fs,N,zs,a,O,L,O,ag,bp,av,sub,O,aw,λz aj=>⟨_,O,_,O,_,_,O,p,fs,N,a,O,L.same aj,O,λa0 H2 bs bu bv=>?_⟩⟩;have ay:=aj.trans bs;refine⟨_,O,_,O,_,_,O,p,a0,fs,N,a,O,L.same ay,O,bv,λo ak us az aR cn al b0=>?_⟩;have bw:H a0=aF:=aj.free bu;have am:aL H az:=λb u e=>aR _ _ (by rw[bA (λc=>by rw[c,bw]at e;cases e)];exact ay _ _ e);have b1:az a0=Z (.frz o (.dK (iG (bD fs N a)))):=aR _ _ aV;refine⟨_,O,_,O,_,O,_,_,_,O,ak,a0,l,o,us,"sea" :: fs.map aN,bD fs N a,zs,O,al,b0,YT,ai,r,O,b1,O,am _ _ ag,ns,λj fl co a1 bx b2 st bz=>?_⟩;have bR:=am.trans a1;have b3:=D2 a1 _ _ b0;refine⟨_,O,_,O,_,O,_,O,_,_,_,O,ak,a0,j,us,"sea" :: fs.map aN,bD fs N a,fl,O,a1 _ _ al,b3,YT,ai,r,O,.inr ⟨o,a1 _ _ b1⟩,O,.inl b2,λc0 I J cp a7 cq c1 c2 c3 op cr=>?_⟩;have an:=bR.trans a7;refine⟨_,O,_,O,_,_,_,_,ak,c0,l,us,"sea" :: fs.map aN,bD fs N a,J,I,zs,a,O,O,(a1.trans a7) _ _ al,D2 a7 _ _ b3,YT,ai,r,O,.inl c1,c2,O,an _ _ ag,av,λz m=>eK _ (sub z m),O,λa2 lk a8 D b4 c4 b5 c5 c6 c7=>?_⟩;have rd:=Qp r bz c3 op c6 c7;have c8:=an.trans b4;have ao:=(a7.trans b4) _ _ b2;have c9:H j=aF:=am.free bx;refine⟨_,O,j,_,O,ao,λk=>?_⟩;have ap:aL H (aI D j (.frz k (.dK (fE (bD fs N a) fl)))):=c8.over c9;have ca:gG D (aI D j (.frz k (.dK (fE (bD fs N a) fl)))):=λb ys e=>by
  rw[bA (λc=>by rw[c,ao]at e;cases e)];exact e
 have b6:IsL (aI D j (.frz k (.dK (fE (bD fs N a) fl)))) ((iE (bD fs N a) (keys I) (keys a2)).map (kD a)) a8:=FB ca _ _ (lN λd m=>by obtain⟨s,_,rfl⟩:=cG.mp m;rfl) c5;have aq:aI D j (.frz k (.dK (fE (bD fs N a) fl))) lk=Z (.lst a8):=by rw[bA (si b5 ao (by intro c;cases c))];exact b5
 have a9:aI D j (.frz k (.dK (fE (bD fs N a) fl))) j=Z (.frz k (.dK (fE (bD fs N a) fl))):=aV;generalize aI D j (.frz k (.dK (fE (bD fs N a) fl)))=cb at ap b6 aq a9;refine BD (by rw[u9];omega) (λi ys H'=>aL cb H'/\IsL H' (uI ((bD fs N a).take i) fl) ys) ⟨D7 _,O⟩ ?_ ?_ ?_
 .rintro i ys H' hi ⟨U,a3⟩;refine⟨U _ _ a9,?_⟩;have:=a3.length;unfold uI at this;have:=m2 (λg:bV=>!G9 (fl g.nm=0)) ((bD fs N a).take i);rw[dY]at this;rw[aS]at *;omega
 .rintro i cc ys H' cs ct ar ⟨U,a3⟩ k1 k2;unfold fE at ar;rw[dB]at ar;obtain⟨g,b7,cd⟩:=lJ.mp ar;have ce:=dM b7;have cf:kV cc.1=C9 g.nm:=by rw[←cd];rfl
  rw[cf];have b8:dE (fE (bD fs N a) fl) (C6 g.nm)=Z (.int (fl g.nm)):=sj (f:=λg=>D1 (fl g.nm)) r.nd ce;have aa:=xJ (P:=λg:bV=>!G9 (fl g.nm=0)) b7;refine⟨_,O,_,O,j,_,O,.inl ⟨_,C6 g.nm,.inr ⟨k,U _ _ a9⟩,O,b8.symm⟩,O,_,O,?_⟩;rw[pB];cases b9:(!G9 (fl g.nm=0)) with
  |false=>
   rw[b9]at aa;refine cC (k2 _ ⟨U,?_⟩);unfold uI at a3 ⊢;rw[aa];simpa using a3
  |true=>
   rw[b9]at aa;refine dO ⟨_,O,_,O,_,O,j,_,O,.inl ⟨_,C6 g.nm,.inr ⟨k,U _ _ a9⟩,O,b8.symm⟩,dA O,λM ba=>k1 _ _ ⟨U.trans (C7 ba),?_⟩⟩;unfold uI;rw[aa,B4 O,dJ];exact D9 (show bY _ (Hp fl g) (.ref M) from⟨M,_,O,aV,_,_,O,O,_,_,O,O,O⟩) (D2 (C7 ba) _ _ a3)
 rintro a4 bb ⟨ac,bc⟩;rw[u9,dP (bQ _)]at bc;intro Y as;have ae:=C7 (o:=.lst a4) as;have bd:aI bb Y (.lst a4) Y=Z (.lst a4):=aV;have af:=ap.trans (ac.trans ae);have cg:=(ap.trans ac).free as;have au:=ac.trans ae;have be:=D2 ae _ _ bc;have ch:lk≠Y:=cX (ac _ _ aq) as;generalize aI bb Y (.lst a4)=cu at ae bd af au be;have bf:=D2 au _ _ b6;have bg:=au _ _ aq;have cv:=CU (G:=bD fs N a) (R:=keys I) (B:=keys a2);refine⟨_,O,_,O,_,_,O,p,fs,N,(iE (bD fs N a) (keys I) (keys a2)).map (kD a),O,L.same af,⟨lk,a8,O,bg,bf⟩,by rw[aS];omega,xv a6 aw r rd.bout,_,O,_,O,dA O,λt bh=>?_⟩;have a5:=C7 (o:=.tup [.int (ur N ((iE (bD fs N a) (keys I) (keys a2)).map (kD a))),.ref lk,.ref Y]) bh;refine q t lk Y a8 a4 fl (keys I) (keys a2) _ (af.trans a5) (af.free bh) (an.free c4) cg ch ?_ (a5 _ _ bg) (D2 a5 _ _ bf) (a5 _ _ bd) (D2 a5 _ _ be) st rd;rw[aV,LX a6 r st rd]
def Oy(b:fR a G):jU G [] 0:=by
 refine⟨⟨λ_=>aK,O,λc m=>(nomatch m),mY λg _=>B4 O⟩,λX _ _=>?_⟩;have:cD G (λ_=>(0:Int))<=cD G (mG X):=sg λg m=>by
  have:=b.cap g m;unfold mG;split<;>omega
 rw[mY λ_ _=>O]at this;exact this
inductive JK(x:V)(H:aC)(Q:aP):Prop
 |mk:∀L:Int,x=.int L->fC L=aD->Q (.int 0) H->JK x H Q
def Fa:bW:=sp1 (JK)
def Xp(T:Txt K mg C):aY P w K mg b_ 3 "cost_of_none" ["height"] Fa:=by
 refine T.q23.fc Xm kJ ?_;rintro f e A o_ s H vs Q E c ⟨x,rfl,a,rfl,d,q⟩;refine⟨_,(bC (fK (iM (gW (bU (sI T) c (aG (pv 0) aM)))) (bG n8) fH) (bG (cH bB))),_,O,_,O,.int a,O,_,O,?_⟩;rw[show nk (.int a)=aD from d];exact cC q
inductive JJ(C:aB)(x y u:V)(H:aC)(Q:aP):Prop
 |mk:∀(p l:aB)(fs N:M3)(zs:L9)(L:Int),x=.ref p->dU C H p fs N->y=.ref l->H l=Z (.lst (zs.map C9))->zs.Nodup->(∀z∈zs,z∈fs.map aN)->u=.int L->fC L=aD->(∀(c:Int)(H':aC),aL H H'->jU (bD fs N L) zs c->Q (.int c) H')->JJ C x y u H Q
def Gj(C:aB):bW:=kU (JJ C)
def PC(T:Txt K mg C):aY P w K mg b_ 7 "cost" ["land","fields","height"] (Gj C):=by
 refine T.q24.fc Pq lA ?_;rintro f J A o_ s H vs Q E c ⟨x,y,u,rfl,p,l,fs,N,zs,a,rfl,L,rfl,b,m,sub,rfl,d,q⟩;have n:=(fV L).1;have o:=(fV L).2;have g:=oU n o a;refine⟨_,(bC (fK (F7 (zY (gW (dH (n4 (K:=K) O) O T.q70 n3 (aG (pv 1) (aG (ou T.q72 lM) aM)))) (zH (fG pK (dH (kB (K:=K) O) O T.q71 iY (aG (pv 1) aM)) bB (eO _))))) (bG (cH (bU (Xp T) c (aG (pv 2) aM)))) fH) (bG (cH (iO (oa (K:=K) O) (bU (AM T) c (aG (pv 0) (aG (pv 1) (aG (pv 2) aM)))) bB (λ_ _=>O))))),_,O,_,_,_,_,_,O,O,lE.lst b,py _ _,_,O,dO ⟨_,O,l,_,O,.inl (C8 b),O,_,O,?_⟩⟩;cases zs with
 |nil=>
  show(if aD=aD then _ else _);exact dO ⟨_,O,_,O,a,O,d,q 0 H (D7 _) (Oy g)⟩
 |cons r z=>
  rw[B1 (λe=>by have:=D1.inj e;rw[aS,fW]at this;omega)];exact cC ⟨_,O,_,O,_,O,_,_,_,O,p,l,fs,N,r::z,a,O,L,O,b,by rw[fW];omega,m,sub,O,d,λt lk M U Y a0 R B H' D a1 a2 a3 a4 G a5 a6 a7 a8 st I=>⟨t,_,0,_,O,O,D0 G,bZ (j:=0) O,q _ H' D (xq g st I)⟩⟩
noncomputable def Vu:aA:=("lists_of_places":aA)++".<locals>."++"<lambda>"
abbrev gz (a:aB) (H:aC):Prop:=hJ a ⟨231,29,231,59⟩ Vu H
inductive Kj(Tb:aB)(x:V)(H:aC)(Q:aP):Prop
 |mk:∀n:Nat,x=.int n->1<=n->n<=5->gz Tb H->(∀(D:aB)(ps:List (aB×M6))(H':aC),iH Tb H H'->gz Tb H'->H' D=Z (.lst (ps.map λp=>F2 p.1))->nA H' ps->(∀p∈ps,H p.1=aF)->ps.map (·.2)=ph n->Q (.ref D) H')->Kj Tb x H Q
def E3(a:aB):bW:=sp1 (Kj a)
def Wx{f:L2.St->aC->Prop}{Y σ':L2.St}(e:Y=σ')(h:f σ' H):f Y H:=e▸h
def l6(e:Y.set i (Z v)=σ')(h:Q σ' H):nz i v Y H Q:=by
 unfold nz;rw[e];exact h
theorem LS:∀{ns:M6} {xs:M0},IsL H (ns.map E9) xs->xs=ns.map D1
 |[],xs,h=>h
 |n::ns,xs,h=>by
  obtain⟨v,vs,rfl,e,r⟩:=h;cases(show v=.int n from e);rw[LS r];rfl
def Oo(T:Txt K mg C)(B:nh K mg b_ "lists_of_places" c a8):aY P w K mg b_ 5 "lists_of_places" ["count"] (E3 a8):=by
 refine T.q25.fcC B xc kJ ?_;rintro f A o_ s H vs Q E aq ⟨x,rfl,n,rfl,a9,aa,ac,q⟩;have bc:=fJ;have KB:Au (Hr (uv (xS (λxs H Q=>∃a ys,xs=[.ref a]/\(aQ K H a ys\/bE K H a ys)/\Q (.int ys.length) H) (uv (s8 0) su)) (uv (s8 0) su))):=λa ns H Q ea q=>⟨_,O,a,_,O,.inl (C8 ea),_,O,dA O,λt ar=>q t _ (C7 ar) (by rw[aV,aS])⟩
 refine⟨_,(bC (cF (i:=1) xc.nd O YU (gX (aG (gX aM) aM))) (bC (kE jF O (qf O T.q75 (aG (pv 0) aM)) (cM (i:=2) xc.nd O (E1 O)) (bG (cF (i:=1) xc.nd O YU (bK tf (pv 1) (fN ["some","place"] 1 [2] O (eV (pv 1)) (λR=>cM (i:=0) (YS:eQ (["some","place"]:L9)) O YU) (fD YR) (λR=>gQ) (λR=>(bK tf (pv 0) (gX (aG (pv 1) aM))))))))) (bG (cH (Qw (k:=0) (aq.mono YR) O T.q78 (pv 1) (Tq B O O O O) ⟨O,O,O,YS,O,YS,YS⟩ (λ_ _ _ _=>O) (λ_ _ _ _ _ _=>(gF (aG (dH (kB (K:=K) O) O T.q71 iY (aG (pv 0) aM)) (aG (pv 0) aM)))) KB))))),dA O,λd ae=>?_⟩;have af:=C7 (o:=.lst []) ae;have ag:aI H d (.lst []) d=Z (.lst []):=aV;generalize aI H d (.lst [])=H0 at af ag;refine⟨dA O,λy as=>?_⟩;have a0:=C7 (o:=.lst [.ref d]) as;have ah:aI H0 y (.lst [.ref d]) y=Z (.lst [.ref d]):=aV;have ai:IsL (aI H0 y (.lst [.ref d])) ((gZ 0).map λns=>G1 (ns.map E9)) [.ref d]:=⟨_,_,O,⟨d,_,O,a0 _ _ ag,O⟩,O⟩
 generalize aI H0 y (.lst [.ref d])=z at a0 ah ai;have aj:=af.trans a0;refine l6 (σ':=[Z (.int n),Z (.ref y),aF]) O ⟨_,O,n,O,YT,YT,qh (n:=n) (λi Y H'=>rK λ(l:aB)(us:M0)(a1:Option V)=>Y=[Z (.int n),Z (.ref l),a1]/\aL z H'/\H' l=Z (.lst us)/\IsL H' ((gZ i).map λns=>G1 (ns.map E9)) us/\∀v∈us,∃a,v=.ref a/\H a=aF) ⟨y,[.ref d],_,O,D7 _,ah,ai,λv m=>⟨d,eU.mp m,ae⟩⟩ ?_ ?_⟩
 .rintro i Y H' hi ⟨l,us,a1,rfl,ak,J,I,fr⟩;have cl:(gZ i).length<=54:=by
   rw[xT];have:2^i<=2^5:=o2 YR YT;omega
  have al:∀ns∈gZ i,ns.length<=5:=λns m=>by have:=xw i ns m;omega
  have es:gZ (i+1)=gZ i++(gZ i).map (·++[(i:Int)]):=O;rw[es];generalize gZ i=a2 at I cl al;have au:=I.length;rw[aS]at au;refine⟨_,O,_,O,l,O,⟨_,C8 J⟩,fU (F:=K) (xs:=us) YT (λj ys N=>aL H' N/\IsL N ((a2.take j).map λns=>G1 ((ns++[(i:Int)]).map E9)) ys/\∀v∈ys,∃a,v=.ref a/\H a=aF) ⟨D7 _,O,λ_ m=>nomatch m⟩ ?_ ?_ ?_⟩
  .rintro j ys N bd ⟨g,u,_⟩;refine⟨C8 (g _ _ J),?_⟩;have:=u.length;rw[aS,dY]at this;omega
  .rintro j be ys N bf bg am ⟨g,u,a3⟩ k1 k2;have bh:j<us.length:=(cR.mp am).1;obtain⟨ns,a4⟩:∃c,a2[j]?=Z c:=⟨_,cJ YT⟩
   obtain⟨v,ev,av⟩:=(D2 g _ _ I).get (show(a2.map λns=>G1 (ns.map E9))[j]?=Z (G1 (ns.map E9)) by rw[dB,a4];rfl);rw[am]at ev;cases ev;obtain⟨aw,xs,rfl,ax,ay⟩:=av;have ex:xs=ns.map D1:=LS ay;subst ex;have:=al ns (dM a4);refine⟨_,O,_,O,dA O,λaz h1=>?_⟩;have r:=C7 (o:=.lst [.int (0+(i:Int))]) h1;refine⟨aw,az,_,_,O,O,r _ _ ax,aV,by rw[aS];show _+1<=_;omega,λL h2=>k1 _ _ ⟨g.trans (r.trans (C7 h2)),?_,λv m=>?_⟩⟩;rotate_left
   .rcases gN.mp m with m|m
    .exact a3 v m
    .exact⟨L,eU.mp m,(aj.trans (ak.trans (g.trans r))).free h2⟩
   rw[dR,a4,dJ];refine D9 (show bY _ (G1 ((ns++[(i:Int)]).map E9)) (.ref L) from⟨L,_,O,aV,?_⟩) (D2 (r.trans (C7 h2)) _ _ u);rw[show ns.map D1++[D1 (0+(i:Int))]=(ns++[(i:Int)]).map D1 by rw[dJ,pa];rfl];exact x1 _
  rintro ys bi ⟨g,u,a3⟩;rw[dP YT]at u;intro aR b0;have r:=C7 (o:=.lst ys) b0;have b1:=u.length;rw[aS]at b1;refine⟨l,aR,_,_,O,O,(g.trans r) _ _ J,aV,YT,λb2 b3=>?_⟩;have a5:=C7 (o:=.lst (us++ys)) b3;refine⟨b2,us++ys,_,O,ak.trans (g.trans (r.trans a5)),aV,?_,λv m=>(gN.mp m).elim (fr v) (a3 v)⟩;rw[dJ,eP];exact IsL.app (D2 (r.trans a5) _ _ u) (D2 (g.trans (r.trans a5)) _ _ I)
 .rintro Y H2 ⟨l,us,a1,rfl,g,J,I,fr⟩;obtain⟨ps,rfl,G,ep⟩:=EE I;obtain⟨b4,M,b5,_⟩:=zF n a9 aa;have lp:ps.length=(gZ n).length:=by rw[←ep,aS]
  have L:2<=ps.length/\ps.length<=54:=by
   rw[lp,xT];have:2^1<=2^n:=o2 YR a9;have:2^n<=2^5:=o2 YR aa;omega
  have a6:=aj.trans g;refine⟨_,O,l,ps,(p7 n).toArray,O,J,G,L.1,YT,by rw[ep];exact b4,λi m=>by rw[lp];exact M i (by simpa using m),by rw[lp,eN];exact b5,ac.keep a6,λD b6 an b7 ao=>?_⟩;have b8:(p7 n).toArray.toList.map (λi=>(ps.map λp=>F2 p.1).getD i .non)=((p7 n).map λi=>ps.getD i (0,[])).map λp=>F2 p.1:=by
   rw[eP];refine m3 λi m=>?_;have hi:=M i m;rw[←lp]at hi;show(ps.map λp=>F2 p.1).getD i .non=F2 (ps.getD i (0,[])).1;rw[rm,kr,cJ hi];rfl
  rw[b8]at ao;obtain⟨bj,b9,_⟩:=ac.keep a6;refine q D _ b6 (λb o ba e=>an b o ba (a6 _ _ e)) b7 ao (λp m=>?_) (λp m=>?_) ?_
  .obtain⟨i,a7,rfl⟩:=cG.mp m;have hi:=M i a7;rw[←lp]at hi;have U:ps.getD i (0,[])∈ps:=by
    rw[kr,cJ hi];exact pT hi
   refine an _ _ (λz=>?_) (G _ U);have ap:=G _ U;rw[z,b9]at ap;cases ap
  .obtain⟨i,a7,rfl⟩:=cG.mp m;have hi:=M i a7;rw[←lp]at hi;have U:ps.getD i (0,[])∈ps:=by
    rw[kr,cJ hi];exact pT hi
   obtain⟨a,ea,bb⟩:=fr _ (cG.mpr ⟨_,U,O⟩);cases ea;exact bb
  .unfold ph;rw[eP];refine m3 λi m=>?_;have hi:=M i m;rw[←ep];rw[←lp]at hi;show(ps.getD i (0,[])).2=(ps.map (·.2)).getD i [];rw[rm,kr,cJ hi];rfl
def UJ(k:iH a H H')(t:gz a H):sm H H':=λb o e d=>k b o (λc=>by
 obtain⟨ps,f,_⟩:=t;rw[c,f]at e;cases e;cases d) e
def Bt(k:iH c H H')(t:gz c H)(h:dU C H x fs N):dU C H' x fs N:=by
 have D:=UJ k t;have tb:∀{a:aB} {N:M3},oy H a N->oy H' a N:=fun⟨J,e,k1,i⟩=>⟨J,D _ _ e O,k1,F8 D _ _ i⟩
 obtain⟨⟨dx,d,f,e,g,j⟩,a,b⟩:=h;refine⟨⟨dx,d,f,k _ _ (λl=>?_) e,tb g,tb j⟩,a,b⟩;obtain⟨ps,m,_⟩:=t;rw[l,m]at e;cases e
theorem zC:∀k,∀ns∈gZ k,ns.Nodup/\∀i∈ns,0<=i/\i<(k:Int)
 |0,ns,m=>by rw[eU.mp m];exact⟨.nil,λ_ m=>nomatch m⟩
 |k+1,ns,m=>by
  unfold gZ at m;rcases gN.mp m with m|m
  .obtain⟨a,b⟩:=zC k ns m;exact⟨a,λi c=>by have:=b i c;omega⟩
  .obtain⟨d,f,rfl⟩:=cG.mp m;obtain⟨a,b⟩:=zC k d f;refine⟨v0.mpr ⟨a,List.pairwise_singleton _ _,λx g y h e=>?_⟩,λi c=>?_⟩
   .have:=b x g;rw[e,eU.mp h]at this;omega
   .rcases gN.mp c with c|c
    .have:=b i c;omega
    .rw[eU.mp c];omega
noncomputable def l0(zs:L9)(i:Int):aA:=zs.getD i.toNat ""
def wU(a:0<=i)(h1:i<zs.length):lZ (zs.map C9) i=Z (.str (l0 zs i))/\zs[i.toNat]?=Z (l0 zs i):=by
 obtain⟨k,rfl⟩:=l8 a;have b:k<zs.length:=YT;have e:zs[k]?=Z (l0 zs (k:Int)):=by
  unfold l0;rw[qN,kr,cJ b];rfl
 exact⟨bZ (by rw[dB,e];rfl),by rw[qN];exact e⟩
def Vd(g:zs.Nodup):∀{ns:M6},ns.Nodup->(∀i∈ns,0<=i/\i<(zs.length:Int))->(ns.map (l0 zs)).Nodup/\∀d∈ns.map (l0 zs),d∈zs:=λ{ns} h1 h2=>by
 refine⟨?_,λd m=>?_⟩
 .induction ns with
  |nil=>exact .nil
  |cons i ns h=>
   rw[dD];refine gB.mpr ⟨λm=>?_,h (gB.mp h1).2 λj c=>h2 j (eK _ c)⟩;obtain⟨j,c,e⟩:=cG.mp m;have a:=(wU (h2 i eB).1 (h2 i eB).2).2;have b:=(wU (h2 j (eK _ c)).1 (h2 j (eK _ c)).2).2;rw[e]at b;have:=zx g a b;have:=h2 i eB;have:=h2 j (eK _ c);have k:i=j:=YT;exact(gB.mp h1).1 (k▸c)
 .obtain⟨i,f,rfl⟩:=cG.mp m;exact dM (wU (h2 i f).1 (h2 i f).2).2
noncomputable def kQ(X:aB)(H:aC):aC:=λb=>if b=X then aF else H b
def QZ(X:aB)(H:aC):aL (kQ X H) H:=λb o e=>by
 unfold kQ at e;by_cases h:b=X
 .rw[B4 h]at e;cases e
 .rw[B3 h]at e;exact e
def GN(n:b≠X)(e:H b=Z o):kQ X H b=Z o:=by
 unfold kQ;rw[B3 n];exact e
def Vb(S:aL H H'):aL (kQ X H) (kQ X H'):=λb o e=>by
 unfold kQ at e ⊢;by_cases h:b=X
 .rw[B4 h]at e;cases e
 .rw[B3 h]at e ⊢;exact S _ _ e
def VV:aL (kQ X H) (kQ X (aI H X o)):=λb o' e=>by
 unfold kQ at e ⊢;by_cases h:b=X
 .rw[B4 h]at e;cases e
 .rw[B3 h]at e ⊢;rw[bA h];exact e
def Qg(x:hJ T pos j H)(h:H lt=Z (.lst us)):hJ T pos j (aI H lt (.lst vs)):=by
 obtain⟨ps,e,t,r⟩:=x;refine⟨ps,by rw[bA (YH e h)];exact e,t,r.imp id fun⟨c,d,b⟩=>⟨c,d,by rw[bA (YH b h)];exact b⟩⟩
noncomputable def uH(r:L9×Int):aH:=.tup [.lst (r.1.map E8),.int r.2]
structure Told (G:M5) (zs:L9) (rs:List (L9×Int)):Prop where
 cos:rs.map (·.1)=(ph zs.length).map λns=>ns.map (l0 zs)
 lst:∀r∈rs,jU G r.1 r.2
inductive JI(C Tb:aB)(x y u:V)(H:aC)(Q:aP):Prop
 |mk:∀(p l:aB)(fs N:M3)(zs:L9)(L:Int),x=.ref p->dU C H p fs N->y=.ref l->H l=Z (.lst (zs.map C9))->1<=zs.length->zs.length<=5->zs.Nodup->(∀z∈zs,z∈fs.map aN)->u=.int L->fC L=aD->gz Tb H->(∀(D:aB)(us:M0)(rs:List (L9×Int))(H':aC),iH Tb H H'->gz Tb H'->H' D=Z (.lst us)->IsL H' (rs.map uH) us->Told (bD fs N L) zs rs->Q (.ref D) H')->JI C Tb x y u H Q
def LB(C a:aB):bW:=kU (JI C a)
def MA(T:Txt K mg C)(B:nh K mg b_ "lists_of_places" c g):aY P w K mg b_ 8 "companies" ["land","fields","height"] (LB C g):=by
 refine T.q26.fc xk lA ?_;rintro f c3 A o_ s H vs Q E am ⟨x,y,u,rfl,p,l,fs,N,zs,M,rfl,L,rfl,U,a3,a7,av,sub,rfl,aw,an,q⟩;have c4:=fJ;refine⟨_,(bC (jR (bU (xg T) am (aG (pv 0) (aG (pv 1) (aG (pv 2) aM))))) (bC (fK (fG uy (dH (kB (K:=K) O) O T.q71 iY (aG (pv 1) aM)) (l7 T.q62) (eO _)) (bG n8) fH) (bC (cF (i:=3) xk.nd O YU (gX aM)) (bC (kE jF O (eV (bU (Oo T B) am (aG (dH (kB (K:=K) O) O T.q71 iY (aG (pv 1) aM)) aM))) (cM (i:=4) xk.nd O YU) (bC (sM (i:=5) xk.nd O ["place","fields"] 1 [1] O (eV (pv 4)) (λR=>cM (i:=0) (YS:eQ (["place","fields"]:L9)) O YU) (fD YR) (λR=>gQ) (λR=>(iO (mf (K:=K) O) (pv 1) (pv 0) (λ_ _=>O)))) (bG (jR (lS lT mq mo mC (pv 3) (aG (gF (aG (pv 5) (aG (bU (PC T) am (aG (pv 0) (aG (pv 5) (aG (pv 2) aM)))) aM))) aM)))))) (bG (cH (pv 3))))))),_,O,_,O,_,O,_,_,_,O,p,l,fs,N,zs,M,O,L,O,U,a3,av,sub,O,aw,λz a0=>⟨_,O,l,_,O,.inl (C8 (a0 _ _ U)),_,_,O,O,_,O,?_⟩⟩;have bg:G9 ((8:Int)<((zs.map C9).length:Int))=aK:=B1 (by rw[aS];omega);rw[bg];refine cC ⟨dA O,λlt ax=>?_⟩;have ao:=C7 (o:=.lst []) ax;have ac:aI z lt (.lst []) lt=Z (.lst []):=aV;have bh:∀b o,z b=Z o->b≠lt:=λb o e=>cX e ax;generalize aI z lt (.lst [])=H2 at ao ac;refine l6 (σ':=[Z (.ref p),Z (.ref l),Z (.int M),Z (.ref lt),aF,aF]) O ?_;have a1:=a0.trans ao;refine⟨_,O,l,_,O,.inl (C8 (a1 _ _ U)),_,O,zs.length,by rw[aS],a3,a7,an.keep a1,λD ps bi ae bj af G fr ep=>?_⟩;have ay:gz g H2:=an.keep a1;have az:∀b (ys:M0),H2 b=Z (.lst ys)->b≠g:=λb ys e d=>by
  obtain⟨bk,ap,_⟩:=ay;rw[d,ap]at e;cases e
 have c5:=ae _ _ (az _ _ (a1 _ _ U)) (a1 _ _ U);have aR:=ae _ _ (az _ _ ac) ac;have c6:=Bt ae ay (L.same a1);have c7:ps.length<=54/\1<=ps.length:=by
  have:=B7 m8 ep;rw[aS]at this;unfold ph at this;rw[aS]at this;obtain⟨_,_,bl,_⟩:=zF zs.length a3 a7;rw[bl,xT]at this;have:2^1<=2^zs.length:=o2 YR a3;have:2^zs.length<=2^5:=o2 YR a7;omega
 have bm:D≠lt:=λd=>by
  rw[d,aR]at af;have:=B7 m8 (cY.lst.inj (eA af));rw[aS]at this;simp at this;omega
 have c8:∀(H':aC),iH g H2 H'->iH g H H':=λH' k b o n e=>k b o n (a1 _ _ e);have bn:iH g z bi:=λb o n e=>ae b o n (ao _ _ e);have b0:gz g z:=an.keep a0;have bo:∀q∈ps,q.1≠lt:=λq m d=>by
  have:=fr q m;rw[d,ac]at this;cases this
 have bp:∀q∈ps,q.2.Nodup/\∀i∈q.2,0<=i/\i<(zs.length:Int):=λq m=>by
  have:q.2∈ph zs.length:=by rw[←ep];exact cG.mpr ⟨q,m,O⟩
  exact zC _ _ ((zu a3 a7).mp this)
 refine⟨D,O,⟨_,C8 af⟩,qk (K:=K) (a:=D) (xs:=ps.map λq=>F2 q.1) (λi Y H'=>vG λ(ag a8:Option V)(us:M0)(I:List (L9×Int))=>Y=[Z (.ref p),Z (.ref l),Z (.int M),Z (.ref lt),ag,a8]/\iH g z H'/\gz g H'/\H' D=Z (.lst (ps.map λq=>F2 q.1))/\nA H' ps/\H' lt=Z (.lst us)/\IsL (kQ lt H') (I.map uH) us/\I.map (·.1)=(ps.take i).map (λq=>q.2.map (l0 zs))/\∀r∈I,jU (bD fs N M) r.1 r.2)
  ⟨_,_,[],[],O,bn,bj,af,G,aR,O,O,λ_ m=>nomatch m⟩ ?_ ?_ ?_⟩
 .rintro i Y H' hi ⟨ag,a8,us,I,rfl,a4,ah,d',ai,t',a9,a5,aj⟩;exact C8 d'
 .rintro i c9 Y H' b1 ⟨ag,a8,us,I,rfl,a4,ah,d',ai,t',a9,a5,aj⟩;rw[dB]at b1;obtain⟨⟨aa,ns⟩,b2,rfl⟩:=lJ.mp b1;have aq:(aa,ns)∈ps:=dM b2;have b3:H' aa=Z (.lst (ns.map D1)):=ai _ aq;obtain⟨bq,b4⟩:=bp _ aq;have ca:ns.length<=5:=by
   have:ns∈ph zs.length:=by rw[←ep];exact cG.mpr ⟨_,aq,O⟩
   have:=xw _ _ ((zu a3 a7).mp this);omega
  have br:l≠g:=λd=>by
   obtain⟨bk,ap,_⟩:=b0;have:=a0 _ _ U;rw[d,ap]at this;cases this
  have bs:H' l=Z (.lst (zs.map C9)):=a4 _ _ br (a0 _ _ U);refine l6 (σ':=[Z (.ref p),Z (.ref l),Z (.int M),Z (.ref lt),Z (.ref aa),a8]) O ⟨_,O,aa,O,⟨_,C8 b3⟩,fU (F:=K) (xs:=ns.map D1) (by rw[aS];omega) (λj ys ak=>H'=ak/\ys=((ns.take j).map (l0 zs)).map C9) ⟨O,O⟩ ?_ ?_ ?_⟩
  .rintro j ys ak cb ⟨rfl,rfl⟩;exact⟨C8 b3,by rw[aS,aS,dY];omega⟩
  .rintro j cc ys ak cd ce b5 ⟨rfl,rfl⟩ k1 k2;rw[dB]at b5;obtain⟨b6,b7,rfl⟩:=lJ.mp b5;have b8:=b4 b6 (dM b7);refine⟨_,O,_,O,l,_,b6,_,O,O,C8 bs,(wU b8.1 b8.2).1,k1 _ _ ⟨O,?_⟩⟩;rw[dR,b7,dJ,dJ];rfl
  rintro ys ak ⟨rfl,rfl⟩;rw[aS,dP (bQ _)];intro t ar;obtain⟨bu,bv⟩:=Vd av bq b4;have al:=C7 (o:=.lst ((ns.map (l0 zs)).map C9)) ar;have as:aI H' t (.lst ((ns.map (l0 zs)).map C9)) t=Z (.lst ((ns.map (l0 zs)).map C9)):=aV;have bw:t≠lt:=λd=>by rw[d,t']at ar;cases ar
  generalize aI H' t (.lst ((ns.map (l0 zs)).map C9))=bx at al as;refine l6 (σ':=[Z (.ref p),Z (.ref l),Z (.int M),Z (.ref lt),Z (.ref aa),Z (.ref t)]) O ?_;have bz:dU C bx p fs N:=(Bt a4 b0 (L.same a0)).same al;refine⟨_,O,.inl ⟨O,_,C8 (al _ _ t')⟩,_,O,_,O,_,O,_,O,_,_,_,O,p,t,fs,N,_,M,O,bz,O,as,bu,(λd m=>sub d (bv d m)),O,aw,λa6 b9 ba bR=>⟨dA O,λJ mt=>?_⟩⟩;have au:=C7 (o:=.tup [.ref t,.int a6]) mt;have bb:aI b9 J (.tup [.ref t,.int a6]) J=Z (.tup [.ref t,.int a6]):=aV;have bc:=al.trans ba;have c0:J≠lt:=λd=>by have:=bc _ _ t';rw[d,this]at mt;cases mt
  generalize aI b9 J (.tup [.ref t,.int a6])=cf at au bb;have a2:=bc.trans au;have c1:=a9.length;rw[aS]at c1;have c2:=B7 m8 a5;rw[aS,aS,dY]at c2;refine⟨lt,us,.ref J,O,O,a2 _ _ t',YT,_,_,us++[.ref J],I++[(ns.map (l0 zs),a6)],O,(λb o n e=>by rw[bA (bh b o e)];exact a2 _ _ (a4 b o n e)),Qg (ah.keep a2) (a2 _ _ t'),by rw[bA bm];exact a2 _ _ d',(λr m=>by rw[bA (bo r m)];exact a2 _ _ (ai r m)),aV,?_,?_,?_⟩
  .rw[dJ];refine D2 VV _ _ (D9 (show bY _ (uH (ns.map (l0 zs),a6)) (.ref J) from⟨J,_,O,GN c0 bb,_,_,O,⟨t,_,O,GN bw ((ba.trans au) _ _ as),IsL.strs _ _⟩,_,_,O,O,O⟩) (D2 (Vb a2) _ _ a9))
  .rw[dJ,a5,dR,b2,dJ];rfl
  .intro r m;rcases gN.mp m with m|m
   .exact aj r m
   .rw[eU.mp m];exact bR
 .rintro Y H' ⟨ag,a8,us,I,rfl,a4,ah,d',ai,t',a9,a5,aj⟩;rw[aS,dP (bQ _)]at a5;refine⟨_,O,q lt us I H' (λb o n e=>a4 b o n (a0 _ _ e)) ah t' (D2 (QZ _ _) _ _ a9) ⟨?_,aj⟩⟩;rw[a5,←ep,eP];rfl
open Mt73
inductive Ka(x y:V)(H:aC)(Q:aP):Prop
 |mk:∀i j:Nat,x=.int i->y=.int j->Q (.int (Nat.gcd i j:Nat)) H->Ka x y H Q
def wY:bW:=gA (Ka)
def EH{a b:Nat}(h:b≠0):((a:Int)%(b:Int))=((a%b:Nat):Int)/\Nat.gcd b (a%b)=Nat.gcd a b/\a%b<b:=
 ⟨(Int.natCast_emod a b).symm,by rw[Nat.gcd_comm b,←Nat.gcd_rec,Nat.gcd_comm],Nat.mod_lt _ YT⟩
def Fq(a b:Int):(!G9 (D1 a=D1 b))=!G9 (a=b):=by
 by_cases h:a=b
 .subst h;simp
 .rw[B1 h,B1 (λc=>h (by cases c;rfl))]
def Wz(T:Txt K mg C):aY P w K mg b_ 1 "greatest_divisor" ["one","other"] wY:=by
 refine T.q27.fc xb fZ ?_;rintro f p A o_ s H vs Q E r ⟨x,y,rfl,i,j,rfl,rfl,q⟩;refine⟨_,(bC (u5 jF (fG oY (pv 1) bB (eO _)) (bC (cF (i:=2) xb.nd O YU (bK gR (pv 0) (pv 1))) (bC (cF (i:=0) xb.nd O YU (pv 1)) (bG (cF (i:=1) xb.nd O YU (pv 2)))))) (bG (cH (pv 0)))),?_⟩;refine u2 (λY H'=>∃(a b:Nat)(v:Option V),Y=[Z (.int a),Z (.int b),v]/\H'=H/\Nat.gcd a b=Nat.gcd i j) (λY _=>match Y with|[_,Z (.int b),_]=>b.toNat|_=>0) ⟨i,j,_,O,O,O⟩ ?_ ?_
 .rintro Y H' ⟨a,b,v,rfl,rfl,e⟩;refine⟨_,O,O,_,O,?_⟩;rw[Fq];by_cases d:b=0
  .subst d;rw[Nat.gcd_zero_right]at e;refine cC ⟨_,O,?_⟩;rw[e];exact q
  .obtain⟨g,c,l⟩:=EH (a:=a) d;have m:(!G9 ((b:Int)=0))=aD:=by
    rw[B1 YT];rfl
   rw[m];refine dO ⟨_,O,_,O,_,_,O,O,YT,_,O,_,O,⟨b,a%b,Z (.int ((a:Int)%(b:Int))),?_,O,by rw[c,e]⟩,?_⟩
   .show [Z (D1 b),Z (D1 ((a:Int)%(b:Int))),Z (D1 ((a:Int)%(b:Int)))]=_;rw[g]
   .show((a:Int)%(b:Int)).toNat<b;rw[g];exact l
 .intro Y H Q t h n;obtain⟨v,e,o,k,c,q⟩:=n;exact⟨v,e,o,k,c,h _ _ q⟩
def Fr(H:aC)(x:V)(a b:Int):Prop:=∃l,x=.ref l/\H l=Z (.tup [.int a,.int b])
def Fr.same(S:aL H H')(h:Fr H x a b):Fr H' x a b:=by
 obtain⟨l,rfl,e⟩:=h;exact⟨l,O,S _ _ e⟩
inductive Kk(x y:V)(H:aC)(Q:aP):Prop
 |mk:∀a b:Int,x=.int a->y=.int b->0<b->b.natAbs<=1000000->(∀v H',aL H H'->Fr H' v (low a b).1 (low a b).2->Q v H')->Kk x y H Q
def ry:bW:=gA (Kk)
def FP(a:Int):(if a<0 then -a else a)=((a.natAbs:Nat):Int):=by split<;>omega
def Fz{a b:Int}(c:0<b):∃n:Nat,b=n/\Nat.gcd a.natAbs n=D8 a b:=by
 obtain⟨n,rfl⟩:=l8 (qX c);exact⟨n,O,O⟩
def GG(c:0<b)(h:b.natAbs<=1000000):(((D8 a b:Nat):Int)).natAbs.log2<9000:=by
 refine TD ?_;have h1:D8 a b<=b.natAbs:=Nat.gcd_le_right _ YT;show D8 a b<=_;exact dN h1 h
def xm(T:Txt K mg C):aY P w K mg b_ 2 "fraction" ["top","bottom"] ry:=by
 refine T.q28.fc Jd fZ ?_;rintro f o A o_ s H vs Q E j ⟨x,y,rfl,a,b,rfl,rfl,c,k,q⟩;obtain⟨n,rfl,l⟩:=Fz (a:=a) c;have d:=vo (a:=a) c;have e:=GG (a:=a) c k;refine⟨_,(bC (cF (i:=2) Jd.nd O YU (bU (Wz T) j (aG (dH EQ O T.q64 DC (aG (pv 0) aM)) (aG (pv 1) aM)))) (bG (cH (gF (aG (bK iL (pv 0) (pv 2)) (aG (bK iL (pv 1) (pv 2)) aM)))))),?_⟩;refine⟨_,O,_,O,_,O,_,_,O,a.natAbs,n,by rw[FP],O,?_⟩;rw[l];refine⟨_,O,_,O,_,_,O,O,⟨d,e⟩,_,O,_,O,_,_,O,O,⟨d,e⟩,dA O,λp m=>?_⟩;exact q _ _ (C7 m) ⟨p,O,aV⟩
inductive JR(x:V)(H:aC)(Q:aP):Prop
 |mk:∀n:Nat,x=.int n->n<=8->Q (.int (fac n:Nat)) H->JR x H Q
def Ad:bW:=sp1 (JR)
def z9:∀n,n<=8->fac n<=40320:=λn h=>(by decide:∀n,n<9->fac n<=40320) n (Nat.lt_succ_of_le h)
def IS(T:Txt K mg C):aY P w K mg b_ 1 "orders_of" ["count"] Ad:=by
 refine T.q32.fc xj kJ ?_;rintro f c A o_ s H vs Q E d ⟨x,rfl,n,rfl,e,q⟩;refine⟨_,(bC (cF (i:=1) xj.nd O YU bB) (bC (kE jF O (Px O T.q75 (aG bB (aG (bK lm (pv 0) bB) aM))) (cM (i:=2) xj.nd O YU) (bG (Gp (i:=1) xj.nd O YU (pv 2) TX))) (bG (cH (pv 1))))),_,O,_,_,O,O,_,_,O,⟨YR,YR,YT,YT⟩,?_⟩;have b:((n:Int)+1-1).toNat=n:=YT;rw[b];refine qh (lo:=1) (n:=n) (λi Y H'=>∃a:Option V,Y=[Z (.int n),Z (.int (fac i:Nat)),a]/\H'=H) ⟨_,O,O⟩ ?_ ?_
 .rintro i Y H' hi ⟨a,rfl,rfl⟩;refine⟨_,O,_,O,_,_,O,O,(show xa _ _ from .inr ⟨YT,YT⟩).ok,Z (.int (1+(i:Int))),?_,O⟩;show [Z (D1 n),Z (D1 ((fac i:Nat)*(1+(i:Int)))),Z (D1 (1+(i:Int)))]=_;rw[show((fac i:Nat):Int)*(1+(i:Int))=((fac (i+1):Nat):Int) by rw[show fac (i+1)=fac i*(i+1) from O,wl,Int.add_comm];rfl]
 .rintro Y H' ⟨a,rfl,rfl⟩;exact⟨_,O,q⟩
inductive JD(x y:V)(H:aC)(Q:aP):Prop
 |mk:∀a n:Nat,x=.int a->y=.int n->a<n->n<=5->Q (.int (fac a*fac (n-a-1):Nat)) H->JD x y H Q
def DY:bW:=gA (JD)
def WY(T:Txt K mg C):aY P w K mg b_ 2 "orders_behind" ["ahead","count"] DY:=by
 refine T.q33.fc WX fZ ?_;rintro f d A o_ s H vs Q E c ⟨x,y,rfl,a,n,rfl,rfl,e,g,q⟩;refine⟨_,(bG (cH (bK oi (bU (IS T) c (aG (pv 0) aM)) (bU (IS T) c (aG (bK mE (bK mE (pv 1) (pv 0)) bB) aM))))),_,O,_,O,a,O,YT,_,O,_,O,_,_,O,O,_,_,O,O,_,O,n-a-1,?_,YT,_,_,O,O,?_,?_⟩
 .show D1 _=D1 _;congr 1;omega
 .have:=z9 a YT;exact .inl ⟨YT,YT⟩
 .show Q (.int (((fac a:Nat):Int)*((fac (n-a-1):Nat):Int))) H;rw[←wl];exact q
noncomputable def nY(a:L9):M7:=a.map C6
def z6(a:L9):(nY a).map kV=a.map C9:=by
 unfold nY;rw[eP];rfl
def ED(h:nY a=nY b):a=b:=by
 induction a generalizing b with
 |nil=>cases b with
  |nil=>rfl
  |cons y b=>cases h
 |cons x a c=>cases b with
  |nil=>cases h
  |cons y b=>
   have:=List.cons.inj h;rw[pc this.1,c this.2]
def UB(S:aL H H')(r:eM H d u):eM H' d u:=r.imp (S _ _) fun⟨o,e⟩=>⟨o,S _ _ e⟩
def s5{t:aC->Prop}{o:cY}(n:H l=aF)(h:∀H',aL H H'->H' l=Z o->t H'):t (aI H l o):=h _ (C7 n) aV
def iP(zs:L9):List (L9):=(nB zs.length).map (q0 λi=>zs.getD i "")
noncomputable def lc(G:M5)(zs:L9):List (M7×V):=(iP zs).map λa=>(nY a,D1 (jJ G a))
theorem Dv:∀{b:List (L9)},a∈b->dE (b.map λa=>(nY a,D1 (jJ G a))) (nY a)=Z (.int (jJ G a))
 |x::r,m=>by
  rw[dD];by_cases e:x=a
  .subst e;exact l3 O
  .rw[l4 (λh=>e (ED h))];rcases dW.mp m with h|h
   .exact B6 h.symm e
   .exact Dv h
def Dw(m:a∈iP zs):dE (lc G zs) (nY a)=Z (.int (jJ G a)):=Dv m
def OM(a:1<=zs.length)(b:zs.length<=5)(q:aA->Bool):zs.filter q∈iP zs:=by
 rw[Do];exact cG.mpr ⟨_,Oj _ _ a b,O⟩
def Uf(c:1<=zs.length)(d:zs.length<=5)(m:a∈iP zs):∀b∈a,b∈zs:=by
 obtain⟨ns,e,rfl⟩:=cG.mp m;intro b f;obtain⟨i,g,rfl⟩:=cG.mp f;have:=wQ _ c d ns e i g;rw[kr,cJ this];exact pT this
def FK(c:1<=zs.length)(d:zs.length<=5)(m:a∈iP zs)(e:b∈zs)(f:b∉a):a.length<zs.length:=by
 obtain⟨ns,g,rfl⟩:=cG.mp m;obtain⟨i,hi,rfl⟩:=yL e;rw[aS];refine RP _ c d ns g i (kN.mpr hi) λh=>f (cG.mpr ⟨i,h,?_⟩);rw[kr,cJ hi];rfl
def Sw(y a:aA):G9 (C9 y=C9 a)=G9 (y=a):=by
 by_cases h:y=a
 .subst h;simp
 .rw[B1 h,B1 λe=>h (C9.inj e)]
theorem yn:∀n,0<fac n
 |0=>Nat.one_pos
 |n+1=>Nat.mul_pos (yn n) (Nat.succ_pos n)
def Al:∀n,n<=5->fac n<=720:=by
 intro n h;have:n=0\/n=1\/n=2\/n=3\/n=4\/n=5:=YT;rcases this with rfl|rfl|rfl|rfl|rfl|rfl<;>decide
noncomputable def kW(G:M5)(zs:L9)(a:aA)(k:Nat):Int:=cD ((iP zs).take k) λb=>qB (jJ G) zs a b
def LY(e:(iP zs)[i]?=Z co):kW G zs a (i+1)=kW G zs a i+qB (jJ G) zs a co:=by
 unfold kW;rw[dR,e,wO];show _+cD [co] _=_;rw[eF,qu];omega
def VT(l:∀R,R (.ref d) H->k Y H R)(m:eM H d (.dT J))(Pv:aZ->Nat->L2.St->aC->Prop)(a:∀o H',iH d H H'->H' d=Z (.frz o (.dT J))->Pv o 0 Y H')
 (c:∀o i Y H,i<=J.length->Pv o i Y H->H d=Z (.frz o (.dT J)))(f:∀o i h b Y H,J[i]?=Z h->H b=Z (.tup (h.1.map kV))->Pv o i Y H->g (.ref b) Y H λp H2=>tb {D with nx:=Pv o (i+1),ct:=Pv o (i+1),bk:=u D} p H2)
 (j:∀o Y H,Pv o J.length Y H->u D Y H):kH (Ht (GF k) g tb) u D Y H:=by
 refine l _ ?_;rcases m with e|⟨o,e⟩
 .exact⟨d,J,O,.inl ⟨e,λo=>GI (Pv o) (a o _ (λb u n e=>by rw[bA n];exact e) aV) (c o) (f o) (j o)⟩⟩
 .exact⟨d,J,O,.inr ⟨o,e,GI (Pv o) (a o H (λ_ _ _ e=>e) e) (c o) (f o) (j o)⟩⟩
def FG(r:eM H d (.dT J))(f:H b=Z (.tup (a.map C9)))(e:dE J (nY a)=Z (.int c)):kL H d (.ref b) (Z (.int c)):=
 .inr ⟨J,nY a,b,r,O,by rw[f,z6],e.symm⟩
inductive KI(x y u:V)(H:aC)(Q:aP):Prop
 |mk:∀(z:aA)(l d:aB)(G:M5)(zs:L9),x=.str z->y=.ref l->H l=Z (.lst (zs.map C9))->1<=zs.length->zs.length<=5->zs.Nodup->z∈zs->u=.ref d->eM H d (.dT (lc G zs))->(∀v H',iH d H H'->eM H' d (.dT (lc G zs))->Fr H' v (low (kW G zs z (iP zs).length) (fac zs.length:Nat)).1 (low (kW G zs z (iP zs).length) (fac zs.length:Nat)).2->Q v H')->KI x y u H Q
def CI:bW:=kU (KI)
def MW(T:Txt K mg C):aY P w K mg b_ 3 "share_of" ["field","fields","costs"] CI:=by
 refine T.q34.fc uN lA (fun f aR A o_ s H vs Q E D h=>?_)
 obtain⟨x,y,u,rfl,c,l,d,G,zs,rfl,rfl,I,a3,L,b0,ak,rfl,a4,q⟩:=h
 have b1:=fJ
 have a5:=jT D
 refine⟨_,(bC (cF (i:=3) uN.nd rfl (D5 rfl) bB) (bC (kE jF rfl (Qv (pv 2)) (cM (i:=4) uN.nd rfl (E1 rfl)) (bG (fK (fG (MV (K:=K) rfl) (pv 0) (pv 4) (by with_unfolding_all rfl)) (bC (cF (i:=5) uN.nd rfl (D5 rfl) (iX JA rfl T.q81 AR (aG (fN ["name","field","company"] 1 [0,4] rfl (eV (pv 1)) (fun R=>cM (i:=0) (YS:eQ (["name","field","company"]:L9)) rfl (D5 rfl)) (fD (by decide)) (fun R=>mX (F7 (lR (fG pK (pv 0) (pv 1) (eO _)) (mD (fG (sN (K:=K) rfl) (pv 0) (pv 2) (by with_unfolding_all rfl)))))) (fun R=>(pv 0))) aM))) (bG (Gp (i:=3) uN.nd rfl (D5 rfl) (bK oi (bU (WY T) D (aG (dH (kB (K:=K) rfl) rfl T.q71 iY (aG (pv 4) aM)) (aG (dH (kB (K:=K) rfl) rfl T.q71 iY (aG (pv 1) aM)) aM))) (bK mE (iZ a5 (pv 2) (pv 5) (fun _ _=>rfl)) (iZ a5 (pv 2) (pv 4) (fun _ _=>rfl)))) TY))) fH))) (bG (cH (bU (xm T) D (aG (pv 3) (aG (bU (IS T) D (aG (dH (kB (K:=K) rfl) rfl T.q71 iY (aG (pv 1) aM)) aM)) aM))))))),?_⟩
 have a6:l≠d:=fun e=>by rw[e] at I;rcases a4 with h | ⟨_,h⟩ <;> rw[I] at h <;> cases h
 refine l6 (σ':=[Z (.str c),Z (.ref l),Z (.ref d),Z (.int 0),aF,aF]) rfl ?_
 dsimp only
 refine VT (d:=d) (J:=lc G zs) (fun R h=>⟨_,rfl,h⟩) a4 (fun o i Y H'=>∃ M m:Option V,Y=[Z (.str c),Z (.ref l),Z (.ref d),Z (.int (kW G zs c i)),M,m]∧iH d H H'∧H' d=Z (.frz o (.dT (lc G zs)))) (fun o z a7 al=>⟨_,_,rfl,a7,al⟩) ?_ ?_ ?_
 ·rintro o i Y H' hi ⟨M,m,rfl,g,p⟩
  exact p
 ·rintro o i b2 b Y H' a0 r ⟨M,m,rfl,g,p⟩
  unfold lc at a0
  rw[dB] at a0
  obtain⟨a,a1,rfl⟩:=lJ.mp a0
  have a8:a∈iP zs:=dM a1
  have r:H' b=Z (.tup (a.map C9)):=by rw[r,z6]
  have a2:=g _ _ a6 I
  refine l6 (σ':=[Z (.str c),Z (.ref l),Z (.ref d),Z (.int (kW G zs c i)),Z (.ref b),m]) rfl ?_
  refine⟨_,rfl,_,rfl,b,_,rfl,.inr (D0 r),rfl,ri a,_,rfl,?_⟩
  rw[B4 rfl,ro]
  by_cases t:c∈a
  ·rw[B0 t]
   refine cC ⟨Z (.ref b),m,?_,g,p⟩
   rw[LY a1]
   unfold qB
   rw[B4 t,t2]
  ·rw[B1 t]
   refine dO ?_
   have am:=FK a3 L a8 ak t
   refine⟨_,rfl,l,rfl,⟨_,C8 a2⟩,?_⟩
   refine fU (F:=K) (xs:=zs.map C9) (by rw[aS];omega) (fun j ys N=>H'=N∧ys=((zs.take j).filter fun y=>G9 (y=c) || G9 (y∈a)).map C9) ⟨rfl,rfl⟩ ?_ ?_ ?_
   ·rintro j ys N b3 ⟨rfl,rfl⟩
    have:=m2 (fun y:aA=>G9 (y=c) || G9 (y∈a)) (zs.take j)
    rw[dY] at this
    exact⟨C8 a2,by rw[aS];omega⟩
   ·rintro j b4 ys N a7 b5 a9 ⟨rfl,rfl⟩ k1 k2
    rw[dB] at a9
    obtain⟨y,an,rfl⟩:=lJ.mp a9
    have k:=xJ (P:=fun y:aA=>G9 (y=c) || G9 (y∈a)) an
    refine⟨_,rfl,_,rfl,rfl,_,rfl,?_⟩
    rw[Sw]
    by_cases aa:y=c
    ·rw[B0 aa] at k ⊢
     exact dO (dO ⟨_,rfl,k1 _ _ ⟨rfl,by rw[k,Bool.true_or,B4 rfl,dJ];rfl⟩⟩)
    ·rw[B1 aa] at k ⊢
     refine cC ⟨_,rfl,_,rfl,b,_,rfl,.inr (D0 r),rfl,ri a,_,rfl,?_⟩
     rw[B3 fQ,ro]
     cases ac:G9 (y∈a) with
     | false =>
      rw[ac] at k
      exact cC (k2 _ ⟨rfl,by rw[k];simp⟩)
     | true =>
      rw[ac] at k
      exact dO ⟨_,rfl,k1 _ _ ⟨rfl,by rw[k,wt,B4 rfl,dJ];rfl⟩⟩
   rintro ys N ⟨rfl,rfl⟩
   rw[aS,dP (bQ _)]
   intro ao ap
   refine s5 ap fun H2 U aq=>?_
   refine⟨ao,_,rfl,.inl ⟨C8 aq,fun ae mt=>?_⟩⟩
   refine s5 mt fun ar as au=>?_
   have B:=U.trans as
   refine l6 (σ':=[Z (.str c),Z (.ref l),Z (.ref d),Z (.int (kW G zs c i)),Z (.ref b),Z (.ref ae)]) rfl ?_
   have af:=B _ _ p
   have ag:eM ar d (.dT (lc G zs)):=.inr ⟨o,af⟩
   refine⟨_,rfl,_,rfl,b,_,rfl,.inr (D0 (B _ _ r)),_,rfl,l,_,rfl,.inl (C8 (B _ _ a2)),_,_,rfl,a.length,zs.length,by rw[aS],by rw[aS],am,L,?_⟩
   refine⟨_,rfl,_,rfl,d,_,rfl,FG ag au (Dw (OM a3 L _)),_,rfl,_,rfl,d,_,rfl,FG ag (B _ _ r) (Dw a8),_,_,rfl,rfl,_,_,rfl,rfl,?_,_,_,rfl,rfl,Z (.ref b),Z (.ref ae),?_,(fun av aw ax e=>B _ _ (g av aw ax e)),af⟩
   ·have h1:=z9 a.length (by omega)
    have h2:=z9 (zs.length - a.length - 1) (by omega)
    have ay:fac a.length*fac (zs.length - a.length - 1)≤40320*40320:=pW h1 h2
    generalize fac a.length*fac (zs.length - a.length - 1)=x at ay
    exact .inl ⟨by omega,by omega⟩
   ·rw[LY a1]
    unfold qB
    rw[B3 t]
    rfl
 ·rintro o Y H' ⟨M,m,rfl,g,p⟩
  have az:(lc G zs).length=(iP zs).length:=by unfold lc;rw[aS]
  rw[az]
  refine⟨_,rfl,_,rfl,l,_,rfl,.inl (C8 (g _ _ a6 I)),_,rfl,zs.length,by rw[aS],by omega,?_⟩
  have b6:0<fac zs.length:=yn _
  exact⟨_,_,rfl,_,_,rfl,rfl,by omega,by have:=Al _ L;omega,fun v H2 U fr=>q v H2 (fun b u n e=>U _ _ (g b u n e)) (.inr ⟨o,U _ _ p⟩) fr⟩
def Rm(t:Told G zs a):a=(iP zs).map λb=>(b,jJ G b):=by
 have e:a.map (·.1)=iP zs:=by
  rw[t.cos];unfold iP nB;rw[eP];refine m3 λns _=>?_;show ns.map (l0 zs)=(ns.map Int.toNat).map λi=>zs.getD i "";rw[eP];rfl
 rw[←e,eP]
 conv=>lhs;rw[←wA a]
 refine m3 λr m=>?_;show r=(r.1,jJ G r.1)
 rw[sk (t.lst r m)]
theorem Bp{q p:Type}{f:q->p}:∀{l:List q},(∀a∈l,∀b∈l,f a=f b->a=b)->l.Nodup->(l.map f).Nodup
 |[],_,_=>.nil
 |x::r,inj,c=>by
  rw[dD];refine gB.mpr ⟨λm=>?_,Bp (λa g b h=>inj a (eK _ g) b (eK _ h)) (gB.mp c).2⟩;obtain⟨y,d,e⟩:=cG.mp m;exact(gB.mp c).1 (inj y (eK _ d) x eB e▸d)
theorem Fv(inj:∀a b,a<n->b<n->f a=f b->a=b):∀{a b:List Nat},(∀i∈a,i<n)->(∀i∈b,i<n)->a.map f=b.map f->a=b
 |[],[],_,_,_=>rfl
 |[],_::_,_,_,e=>by cases e
 |_::_,[],_,_,e=>by cases e
 |x::a,y::b,c,d,e=>by
  rw[dD,dD]at e;obtain⟨g,h⟩:=List.cons.inj e;rw[inj x y (c x eB) (d y eB) g,Fv inj (λi m=>c i (eK _ m)) (λi m=>d i (eK _ m)) h]
def Ra(f:zs.Nodup)(c:1<=zs.length)(d:zs.length<=5):((lc G zs).map (·.1)).Nodup:=by
 unfold lc iP;rw[eP,eP];exact Bp (λa g b k e=>Fv (λi j hi l h=>rv f hi l h) (wQ _ c d a g) (wQ _ c d b k) (ED e)) (Pw _ c d)
def PR(a:1<=zs.length)(b:zs.length<=5):(lc G zs).length<=54:=by
 unfold lc iP;rw[aS,aS];exact Eo _ a b
theorem uO:∀{zs:L9} {vs:M0},IsL H (zs.map E8) vs->vs=zs.map C9
 |[],_,h=>h
 |z::zs,_,h=>by
  obtain⟨v,r,rfl,e,t⟩:=h;cases(show v=.str z from e);rw[uO t];rfl
def qa(H:aC)(G:M5)(zs ws:L9)(J:List (aT×V)):Prop:=Paired (λ(a:aA)(b:aT×V)=>b.1=C6 a/\Fr H b.2 (low (kW G zs a (iP zs).length) (fac zs.length:Nat)).1 (low (kW G zs a (iP zs).length) (fac zs.length:Nat)).2) ws J
def qa.mono(h:qa H G zs ws J)(k:∀a xs,H a=Z (.tup xs)->H' a=Z (.tup xs)):qa H' G zs ws J:=
 G3 h λ_ _ ⟨e,a,b,c⟩=>⟨e,a,b,k _ _ c⟩
def Om(h:fF H ys J)(k:∀a xs,H a=Z (.tup xs)->H' a=Z (.tup xs)):fF H' ys J:=
 G3 h λ_ _ ⟨a,b,c⟩=>⟨a,b,k _ _ c⟩
def Qf(k:iH d H H')(b:eM H d (.dT J)):∀a xs,H a=Z (.tup xs)->H' a=Z (.tup xs):=λa xs e=>k _ _ (λc=>by
 rw[c]at e;rcases b with h|⟨o,h⟩<;>rw[e]at h<;>cases h) e
def Pc(k:iH d H H')(f:eM H d (.dT J))(x:hJ T pos j H):hJ T pos j H':=by
 have a:∀{b:aB} {o:cY},H b=Z o->(∀J,o≠.dT J)->(∀q J,o≠.frz q (.dT J))->H' b=Z o:=λ{b o} e g i=>k _ _ (λl=>by
  rw[l]at e;rcases f with h|⟨q,h⟩<;>rw[e]at h
  .exact g _ (eA h)
  .exact i _ _ (eA h)) e
 obtain⟨ps,e,t,r⟩:=x;exact⟨ps,a e (λ_=>nofun) (λ_ _=>nofun),t,r.imp id fun⟨c,m,n⟩=>⟨c,m,a n (λ_=>nofun) (λ_ _=>nofun)⟩⟩
def Qk(h:qa H G zs ws J):J.map (·.1)=ws.map C6:=by
 induction h with
 |nil=>rfl
 |cons a r b=>rw[dD,dD,b,a.1]
inductive KJ(C Tb:aB)(x y u:V)(H:aC)(Q:aP):Prop
 |mk:∀(p l:aB)(fs N:M3)(zs:L9)(L:Int),x=.ref p->dU C H p fs N->y=.ref l->H l=Z (.lst (zs.map C9))->1<=zs.length->zs.length<=5->zs.Nodup->(∀z∈zs,z∈fs.map aN)->u=.int L->fC L=aD->gz Tb H->(∀(d:aB)(J:List (aT×V))(H':aC),iH Tb H H'->gz Tb H'->H d=aF->H' d=Z (.dK J)->qa H' (bD fs N L) zs zs J->Q (.ref d) H')->KJ C Tb x y u H Q
def BG(C a:aB):bW:=kU (KJ C a)
def LO(T:Txt K mg C)(B:nh K mg b_ "lists_of_places" c r):aY P w K mg b_ 9 "shares" ["land","fields","height"] (BG C r):=by
 refine T.q35.fc LC lA ?_;rintro f bz A o_ s H vs Q E aa ⟨x,y,u,rfl,p,l,fs,N,zs,k,rfl,L,rfl,ac,ae,af,ag,sub,rfl,b6,aq,q⟩;have bR:=fJ;have c0:=jT aa;refine⟨_,(bC (cF (i:=3) LC.nd O (E1 O) (iX (XB O aa.units) O T.q67 mW (aG (fN ["row"] 1 [] O (eV (bU (MA T B) aa (aG (pv 0) (aG (pv 1) (aG (pv 2) aM))))) (λR=>cM (i:=0) (YS:eQ (["row"]:L9)) O YU) (fD YR) (λR=>gQ) (λR=>(gF (aG (iX (MK (K:=K) O) O T.q81 AR (aG (xt 0) aM)) (aG (xt 0) aM))))) aM))) (bG (cH (iX (oQ O) O T.q67 mW (aG (fN ["field","fields","costs"] 1 [1,3] O (eV (pv 1)) (λR=>cM (i:=0) (YS:eQ (["field","fields","costs"]:L9)) O YU) (fD YR) (λR=>gQ) (λR=>(gF (aG (pv 0) (aG (bU (MW T) aa (aG (pv 0) (aG (pv 1) (aG (pv 2) aM)))) aM))))) aM))))),_,O,_,O,_,O,_,_,_,O,p,l,fs,N,zs,k,O,L,O,ac,ae,af,ag,sub,O,b6,aq,λD us c1 z an ar as au b7=>?_⟩;have b8:=Rm b7;subst b8;have b9:l≠r:=λg=>by
  obtain⟨av,a1,_⟩:=aq;rw[g,a1]at ac;cases ac
 have ba:=an _ _ b9 ac;have bb:=au.length;rw[aS,aS]at bb;have c2:(iP zs).length<=54:=by have:=PR (G:=bD fs N k) ae af;unfold lc at this;rw[aS]at this;exact this
 refine⟨D,O,⟨_,C8 as⟩,fU (F:=K) (xs:=us) YT (λj ys H'=>aL z H'/\nn H' ys ((lc (bD fs N k) zs).take j)) ⟨D7 _,nn.nil _⟩ ?_ ?_ ?_⟩
 .rintro j ys H' bc ⟨m,Y⟩;have:=Y.len;rw[dY]at this;exact⟨C8 (m _ _ as),YT⟩
 .rintro j bd ys H' be bf a2 ⟨m,Y⟩ k1 k2;have c3:=(cR.mp a2).1;obtain⟨co,aw⟩:∃co,(iP zs)[j]?=Z co:=⟨_,cJ YT⟩
  obtain⟨v,ev,bg⟩:=au.get (show(((iP zs).map λco=>(co,jJ (bD fs N k) co)).map uH)[j]?=Z (uH (co,jJ (bD fs N k) co)) by rw[dB,dB,aw];rfl);rw[a2]at ev;cases ev;obtain⟨t,ts,rfl,ax,c4,c5,rfl,⟨bh,xs,rfl,bi,bj⟩,bk,bl,rfl,bm,bn⟩:=bg;cases(show bk=.int (jJ (bD fs N k) co) from bm);cases(show bl=[] from bn);have bo:xs=co.map C9:=uO bj;subst bo;refine⟨_,O,t,_,0,_,O,O,D0 (m _ _ ax),bZ (j:=0) O,bh,_,O,.inl ⟨C8 (m _ _ bi),λtk mt=>?_⟩⟩;have I:=C7 (o:=.tup (co.map C9)) mt;have ah:aI H' tk (.tup (co.map C9)) tk=Z (.tup (co.map C9)):=aV;generalize aI H' tk (.tup (co.map C9))=H2 at I ah;refine⟨_,O,t,_,1,_,O,O,D0 (I _ _ (m _ _ ax)),bZ (j:=1) O,dA O,λao a3=>s5 a3 λay a4 a0=>k1 _ _ ⟨m.trans (I.trans a4),?_⟩⟩;have bp:(lc (bD fs N k) zs)[j]?=Z (nY co,D1 (jJ (bD fs N k) co)):=by unfold lc;rw[dB,aw];rfl
  rw[dR,bp];exact rU (Y.same (I.trans a4)) ⟨ao,tk,O,a0,by rw[a4 _ _ ah,z6]⟩
 rintro ys H' ⟨m,Y⟩;have c6:(lc (bD fs N k) zs).length=(iP zs).length:=by unfold lc;rw[aS]
 rw[dP YT]at Y;intro lp a3;refine s5 a3 λH2 I ah=>⟨lp,ys,_,O,C8 ah,Y.same I,YT,Ra ag ae af,λd ap=>s5 ap λay a4 a0=>?_⟩;have ai:=m.trans (I.trans a4);refine l6 (σ':=[Z (.ref p),Z (.ref l),Z (.int k),Z (.ref d)]) O ?_;have a5:=ai _ _ ba;have bq:r≠d:=λg=>by
  obtain⟨av,a1,_⟩:=ar;have:=ai _ _ a1;rw[g,a0]at this;cases this
 have az:l≠d:=λg=>by rw[g,a0]at a5;cases a5
 have br:H d=aF:=by
  cases e:H d with
  |none=>rfl
  |some o=>
   have a:=an _ _ (λg=>bq g.symm) e;have:=(m.trans I) _ _ a;rw[this]at ap;cases ap
 refine⟨_,O,l,O,⟨_,C8 a5⟩,fU (F:=K) (xs:=zs.map C9) (by rw[aS];omega) (λj ys H'=>∃J,iH d ay H'/\eM H' d (.dT (lc (bD fs N k) zs))/\fF H' ys J/\qa H' (bD fs N k) zs (zs.take j) J) ⟨[],(λ_ _ _ e=>e),.inl a0,GT _,mx⟩ ?_ ?_ ?_⟩
 .rintro j ys H' bc ⟨J,U,aj,a6,M⟩;have h1:=a6.len;have h2:(zs.take j).length=J.length:=pX M;rw[dY]at h2;exact⟨C8 (U _ _ az a5),YT⟩
 .rintro j bd ys H' be bf a2 ⟨J,U,aj,a6,M⟩ k1 k2;rw[dB]at a2;obtain⟨g,aR,rfl⟩:=lJ.mp a2;refine⟨_,O,_,O,_,O,_,O,_,_,_,O,g,l,d,bD fs N k,zs,O,O,U _ _ az a5,ae,af,ag,dM aR,O,aj,λv c7 b0 bs fr=>?_⟩;have tk:=Qf b0 aj;refine⟨dA O,λao a3=>s5 a3 λc8 a7 bu=>k1 _ _ ⟨J++[(C6 g,v)],(λb u n e=>a7 _ _ (b0 _ _ n (U _ _ n e))),UB a7 bs,rU ((Om a6 tk).same a7) ⟨ao,O,bu⟩,?_⟩⟩;rw[dR,aR];exact rU (qa.mono M λa xs e=>a7 _ _ (tk _ _ e)) ⟨O,fr.same a7⟩
 rintro ys H' ⟨J,U,aj,a6,M⟩;rw[aS,dP (bQ _)]at M;intro ak bv;have lk:zs.length=J.length:=pX M;have a8:=C7 (o:=.lst ys) bv;have b1:aI H' ak (.lst ys) ak=Z (.lst ys):=aV;generalize aI H' ak (.lst ys)=al at a8 b1;refine⟨ak,ys,J,O,C8 b1,a6.same a8,YT,?_,λdd a9=>?_⟩
 .rw[Qk M];exact Bp (λa _ b _ e=>pc e) ag
 have am:=C7 (o:=.dK J) a9;have b2:aI al dd (.dK J) dd=Z (.dK J):=aV;generalize aI al dd (.dK J)=bw at am b2;have bx:=a8.trans am;have KK:∀b o,b≠r->H b=Z o->al b=Z o:=λb o n e=>a8 _ _ (U _ _ (λg=>by rw[g,br]at e;cases e) (ai _ _ (an _ _ n e)));have b3:gz r al:=(Pc U (.inl a0) (ar.keep ai)).keep a8;refine q dd J bw (λb o n e=>am _ _ (KK b o n e)) (b3.keep am) ?_ b2 (qa.mono M λa xs e=>bx _ _ e);cases e:H dd with
 |none=>rfl
 |some o=>
  by_cases g:dd=r
  .obtain⟨av,a1,_⟩:=b3;rw[g,a1]at a9;cases a9
  .rw[KK _ _ g e]at a9;cases a9
def Ve(zs:L9):aH->Bool
 |.lst N=>N.all (gK zs)
 |_=>aK
noncomputable def rq:M3->L9
 |[]=>[]
 |.str a::N=>a::rq N
 |_::N=>rq N
def Uv(zs:L9)(d:aH):Bool:=w0 (zs.length:Int) d&&Ve zs d&&(match d with|.lst N=>G9 ((rq N).Nodup)|_=>aK)
theorem ET:∀{N:M3},N.all (gK zs)=aD->N=(rq N).map E8/\∀a∈rq N,a∈zs
 |[],_=>⟨O,λa m=>by cases m⟩
 |d::N,h=>by
  rw[rP,fM]at h;obtain⟨e,s⟩:=ET h.2;cases d with
  |str a=>
   refine⟨?_,λy m=>?_⟩
   .show E8 a::N=E8 a::(rq N).map E8;rw[←e]
   .rcases dW.mp m with rfl|m
    .exact B2 h.1
    .exact s y m
  |_=>cases h.1
theorem E0:∀{zs:L9} {us:M0},IsL H (zs.map E8) us->us=zs.map C9
 |[],us,h=>h
 |z::zs,us,⟨v,r,e,a,t⟩=>by
  rw[e,show v=.str z from a,E0 t];rfl
inductive Xc(C:aB)(x y:V)(H:aC)(Q:aP):Prop
 |mk:∀(p:aB)(fs N:M3)(d:aH),x=.ref p->dU C H p fs N->bY H d y->jM d=aD->(∀H',aL H H'->Q (.bl (Uv (fs.map aN) d)) H')->Xc C x y H Q
noncomputable def om:aH->Bool
 |.int i=>G9 (0<=i)&&G9 (i<=1000000000000)
 |_=>aK
inductive JF(x:V)(H:aC)(Q:aP):Prop
 |mk:∀d,bY H d x->Q (.bl (om d)) H->JF x H Q
def zE:bW:=sp1 (JF)
def IV(T:Txt K mg C):aY P w K mg b_ 2 "are_coins" ["thing"] zE:=by
 refine T.q36.fc Mt kJ ?_;rintro f e A o_ s H vs Q E c ⟨x,rfl,d,a,q⟩;refine⟨_,(bG (cH (jL (bU (AH T) c (aG (pv 0) aM)) (kR (x0 nu nu bB (pv 0) (l7 T.q63)))))),_,O,_,O,d,a,_,O,?_⟩;cases d with
 |int i=>
  cases(show x=.int i from a);refine dO ?_;have q:Q (.bl (G9 (0<=i)&&G9 (i<=1000000000000))) H:=q;refine⟨_,O,_,_,O,O,_,O,lB (λh1=>?_) (λh1=>?_)⟩
  .refine⟨_,_,O,O,?_⟩;rw[B0 (show 0<=i from B2 h1),kX]at q;exact q
  .rw[show G9 (0<=i)=aK from by simpa using h1,tS]at q;exact q
 |_=>exact cC q
noncomputable def nq:aT->aH
 |.inl i=>.int i
 |.inr a=>.str a
def UM(k:aT):bY H (nq k) (kV k):=by
 cases k with
 |inl i=>rfl
 |inr a=>rfl
def rb(zs:L9)(ks:M7)(N:M3):Bool:=G9 (ks.length=zs.length)&&(qT (λk d=>gK zs (nq k)&&om d) ks N).all id
noncomputable def Gv:aH->Bool
 |.dct _ _=>aK
 |_=>aD
theorem EV{q p:Type}:∀{ks:List q} {vs:List p} {i:Nat} {k:q} {v:p},(ks.zip vs)[i]?=Z (k,v)->ks[i]?=Z k/\vs[i]?=Z v
 |[],_,_,_,_,h=>by simp at h
 |_::_,[],_,_,_,h=>by simp at h
 |a::ks,b::vs,0,k,v,h=>by
  simp at h;simp[h]
 |a::ks,b::vs,i+1,k,v,h=>by
  simp only[yS,List.getElem?_cons_succ]at h ⊢;exact EV h
theorem Dk:∀{N:M3} {d:aH},ow N=aD->d∈N->nZ d=aD
 |e::N,d,h,m=>by
  have h:=iJ.mp h;rcases dW.mp m with rfl|m
  .exact h.1
  .exact Dk h.2 m
def Tv(a b:Nat):(!G9 ((a:Int)=(b:Int)))=!G9 (a=b):=by
 by_cases h:a=b
 .subst h;simp
 .rw[B1 h,B1 (λc=>h YT)]
def Tw(K:bJ)(h:bY H d x)(n:Gv d=aD):∃t,lE K H x t/\nK K t (.type "dict")=Z aK:=by
 cases d with
 |non=>cases(show x=.non from h);exact⟨_,.non,O⟩
 |bl b=>cases(show x=.bl b from h);exact⟨_,.bl b,O⟩
 |int i=>cases(show x=.int i from h);exact⟨_,.int i,O⟩
 |str c=>cases(show x=.str c from h);exact⟨_,.str c,O⟩
 |lst N=>obtain⟨a,vs,rfl,e,_⟩:=h;exact⟨_,.lst e,O⟩
 |tup N=>obtain⟨a,vs,rfl,e,_⟩:=h;exact⟨_,.tup e,O⟩
 |dct ks N=>cases n
inductive Ky(C:aB)(x y:V)(H:aC)(Q:aP):Prop
  |mk:∀(pl:aB)(fs gs:M3),x=.ref pl->dU C H pl fs gs->(((∃d,bY H d y/\Gv d=aD/\∀H',aL H H'->Q (.bl aK) H') \/
   (∃(a:aB)(ks:M7)(vs:M0)(N:M3),y=.ref a/\H a=Z (.dK (ks.zip vs))/\vs.length=ks.length/\IsL H N vs/\ow N=aD/\ks.length<=100 /\
     ∀H',kT a H H'->(H' a=Z (.dK (ks.zip vs))\/∃o,H' a=Z (.frz o (.dK (ks.zip vs))))->Q (.bl (rb (fs.map aN) ks N)) H')))->Ky C x y H Q
def DV(C:aB):bW:=gA (Ky C)
def XO(T:Txt K mg C):aY P w K mg b_ 3 "are_purses" ["land","thing"] (DV C):=by
 refine T.q37.fc IA fZ (fun f av A o_ s H vs Q E r h=>?_);obtain⟨x,y,rfl,pl,fs,gs,rfl,L,aa⟩:=h;have aw:=fJ;obtain⟨ac,B,ax,ae,_⟩:=L.ex;refine⟨_,(bC (cF (i:=2) IA.nd O (E1 O) (jA T.ad (rg T) (r.mono YR) (pv 0))) (bC (fK (F7 (lR (iM (gW (dH (n4 (K:=K) O) O T.q70 n3 (aG (pv 1) (aG (ou T.q67 mW) aM))))) (mD (fG oY (dH Dz O T.q71 iY (aG (pv 1) aM)) (dH (kB (K:=K) O) O T.q71 iY (aG (pv 2) aM)) (eO _))))) (bG (cH mF)) fH) (bG (cH (dH (pz O) O T.q65 px (aG (fN ["name","coins","names"] 2 [2] O (Qu (z0 rB PySem.F.slot_dict_items PySem.F.type_dict_items QC (pv 1))) (fun R=>Fk (K:=K) (n:=2) O O (kO (cM (i:=0) (YS:eQ (["name","coins","names"]:L9)) O YU) (kO (cM (i:=1) (YS:eQ (["name","coins","names"]:L9)) O YU) qp))) (Dn (xu YR (xu YR Cs))) (fun R=>gQ) (fun R=>(jL (bU (rh T) r (aG (pv 0) (aG (pv 2) aM))) (kR (bU (IV T) r (aG (pv 1) aM)))))) aM)))))),?_⟩;refine⟨_,O,pl,ac,_,O,ae,jQ _ _ YS YS,_,O,pl,fs,gs,O,L,fun ln z c Y j=>?_⟩;have j:z ln=Z (.lst ((fs.map aN).map C9)):=j;refine l6 (σ':=[Z (.ref pl),Z y,Z (.ref ln)]) O ?_;rcases aa with ⟨d,af,ag,q⟩ | ⟨a,ks,vs,N,rfl,g,ay,a0,ah,lk,q⟩
 ·obtain⟨t,ty,ai⟩:=Tw K (F9 c _ _ af) ag;exact⟨_,O,_,_,_,_,_,O,O,ty,ai,_,O,dO (q _ c)⟩
 refine⟨_,O,_,_,_,_,_,O,O,.dK (c _ _ g),py _ _,_,O,cC ?_⟩;have a1:(ks.zip vs).length=ks.length:=by rw[wg];omega
 have aj:ln≠a:=fun D=>by rw[D,g] at Y;cases Y
 refine⟨_,O,a,_,O,c _ _ g,_,O,ln,_,O,.inl (C8 j),O,_,O,?_⟩;rw[a1,aS,aS,Fq,Tv];have az:=a0.length;cases l:G9 (ks.length=fs.length) with
 | false =>
  refine dO ?_;have G:rb (fs.map aN) ks N=aK:=by unfold rb;rw[aS,l];rfl
  rw[G] at q;exact q _ (aL.x c) (.inl (c _ _ g))
 | true =>
  refine cC ?_;have l:=B2 l;refine⟨_,O,.inr (.inr (.inl ⟨O,.inl ⟨_,c _ _ g⟩⟩)),a,_,O,O,.inl (c _ _ g),fun v ak=>?_⟩;have I:=C7 (o:=oX v a) ak;refine⟨v,a,_,O,aV,I _ _ (c _ _ g),fun o=>?_⟩;have J:kT a H (aI (aI z v (oX v a)) a (.frz o (.dK (ks.zip vs)))):=(aL.x (c.trans I)).put;have a2:aI (aI z v (oX v a)) a (.frz o (.dK (ks.zip vs))) ln=Z (.lst ((fs.map aN).map C9)):=by rw[bA aj];exact I _ _ j
  have M:aI (aI z v (oX v a)) a (.frz o (.dK (ks.zip vs))) a=Z (.frz o (.dK (ks.zip vs))):=aV;generalize aI (aI z v (oX v a)) a (.frz o (.dK (ks.zip vs)))=H2 at J a2 M ⊢;refine OO YT (fun i ys H'=>aL H2 H'∧ys=((qT (fun k d=>gK (fs.map aN) (nq k) && om d) ks N).take i).map GE) ⟨D7 _,O⟩ ?_ ?_ ?_
  ·rintro i ys H' aR ⟨S,rfl⟩;exact⟨S _ _ M,by rw[aS,dY];omega⟩
  ·rintro i ⟨k,u⟩ ys H' p b0 b1 al ⟨S,rfl⟩ am k1 k2;obtain⟨an,a3⟩:=EV al;obtain⟨d,U⟩:∃ d,N[i]?=Z d:=by
    have:=(cR.mp a3).1;exact⟨_,cJ YT⟩
   obtain⟨b2,a4,ao⟩:=a0.get U;rw[a3] at a4;cases a4;have m:=C7 (o:=.tup [kV k,u]) am;have ap:gG H (aI H' p (.tup [kV k,u])):=fun b xs e=>m _ _ (S _ _ (J _ _ e fun D=>by rw[D,g] at e;cases e));have aq:=bY.keep ap _ _ (Dk ah (dM U)) ao;have ar:(qT (fun k d=>gK (fs.map aN) (nq k) && om d) ks N)[i]?=Z (gK (fs.map aN) (nq k) && om d):=by rw[List.getElem?_zipWith,an,U]
   have a5:∀ b,(gK (fs.map aN) (nq k) && om d)=b→((qT (fun k d=>gK (fs.map aN) (nq k) && om d) ks N).take i).map GE++[GE b]=((qT (fun k d=>gK (fs.map aN) (nq k) && om d) ks N).take (i+1)).map GE:=fun b e=>by rw[dR,ar,dJ,e];rfl
   refine⟨p,_,O,D0 aV,O,_,_,O,_,_,O,O,?_⟩;refine⟨_,O,_,O,_,_,O,nq k,ln,_,UM k,O,C8 (m _ _ (S _ _ a2)),_,O,?_⟩;cases B:gK (fs.map aN) (nq k) with
   | false =>
    refine cC (k1 _ _ ⟨S.trans m,a5 _ ?_⟩);rw[B];rfl
   | true =>
    refine dO ⟨_,O,_,O,d,aq,k1 _ _ ⟨S.trans m,a5 _ ?_⟩⟩;rw[B];rfl
  ·rintro ys H' ⟨S,rfl⟩;rw[dP (by rw[List.length_zipWith,a1];omega)];intro as au;have a6:=C7 (o:=.lst ((qT (fun k d=>gK (fs.map aN) (nq k) && om d) ks N).map GE)) au;refine⟨as,_,O,C8 aV,?_⟩;have G:rb (fs.map aN) ks N=(qT (fun k d=>gK (fs.map aN) (nq k) && om d) ks N).all id:=by
    unfold rb;rw[aS,B0 l,kX]
   rw[G] at q;exact q _ (J.then (S.trans a6)) (.inr ⟨o,a6 _ _ (S _ _ M)⟩)
def ln(a:Int):Prop:=a.natAbs<=10^60
def nv(h:ln a):a.natAbs<2^4096:=vW h YS
inductive Kh(x y:V)(H:aC)(Q:aP):Prop
 |mk:∀a b c d:Int,Fr H x a b->Fr H y c d->ln a->ln b->ln c->ln d->Q (.bl (G9 (a*d<c*b))) H->Kh x y H Q
def Gd:bW:=gA (Kh)
def PB(T:Txt K mg C):aY P w K mg b_ 1 "less" ["one","other"] Gd:=by
 refine T.q31.fc Pp fZ ?_;rintro f o A o_ s H vs Q E p ⟨x,y,rfl,a,b,c,d,⟨l,rfl,e⟩,⟨m,rfl,em⟩,g,i,k,n,q⟩;exact⟨_,(bG (cH (lF qC (bK qq (xt 0) (xt 1)) (bK qq (xt 1) (xt 0)) (eO _)))),_,O,l,_,0,.int a,O,O,D0 e,bZ (j:=0) O,_,O,m,_,1,.int d,O,O,D0 em,bZ (j:=1) O,_,_,O,O,⟨nv g,nv n⟩,_,O,m,_,0,.int c,O,O,D0 em,bZ (j:=0) O,_,O,l,_,1,.int b,O,O,D0 e,bZ (j:=1) O,_,_,O,O,⟨nv k,nv i⟩,_,_,O,O,q⟩
inductive Kx(g:Int)(x y:V)(H:aC)(Q:aP):Prop
 |mk:∀a b c d:Int,Fr H x a b->Fr H y c d->ln a->ln c->0<b->b<=1000->0<d->d<=1000->(∀v H',aL H H'->Fr H' v (low (a*d+g*c*b) (b*d)).1 (low (a*d+g*c*b) (b*d)).2->Q v H')->Kx g x y H Q
def vr(g:Int):bW:=gA (Kx g)
def rc(a:0<b)(h:b<=1000):ln b:=dN (show b.natAbs<=1000 by omega) YS
def Hi{b d:Int}(c:0<b)(e:b<=1000)(a:0<d)(f:d<=1000):0<b*d/\(b*d).natAbs<=1000000:=by
 have g:=rX c a;have h1:b*d<=1000*1000:=Int.mul_le_mul e f (qX a) YR;exact⟨g,YT⟩
def Db(T:Txt K mg C):aY P w K mg b_ 3 "plus" ["one","other"] (vr 1):=by
 refine T.q29.fc Po fZ ?_;rintro f u A o_ s H vs Q E p ⟨x,y,rfl,a,b,c,d,⟨l,rfl,e⟩,⟨m,rfl,em⟩,r,t,g,i,k,n,q⟩;have hm:=Hi g i k n;rw[p0]at q;refine⟨_,(bG (cH (bU (xm T) p (aG (bK lm (bK qq (xt 0) (xt 1)) (bK qq (xt 1) (xt 0))) (aG (bK qq (xt 0) (xt 1)) aM))))),?_⟩;exact⟨_,O,l,_,0,.int a,O,O,D0 e,bZ (j:=0) O,_,O,m,_,1,.int d,O,O,D0 em,bZ (j:=1) O,_,_,O,O,⟨nv r,nv (rc k n)⟩,_,O,m,_,0,.int c,O,O,D0 em,bZ (j:=0) O,_,O,l,_,1,.int b,O,O,D0 e,bZ (j:=1) O,_,_,O,O,⟨nv t,nv (rc g i)⟩,_,_,O,O,_,O,l,_,1,.int b,O,O,D0 e,bZ (j:=1) O,_,O,m,_,1,.int d,O,O,D0 em,bZ (j:=1) O,_,_,O,O,⟨nv (rc g i),nv (rc k n)⟩,_,_,O,_,_,O,O,hm.1,hm.2,q⟩
def On(T:Txt K mg C):aY P w K mg b_ 4 "minus" ["one","other"] (vr (-1)):=by
 refine T.q30.fc Oe fZ ?_;rintro f D A o_ s H vs Q E g ⟨x,y,rfl,a,b,c,d,⟨l,rfl,i⟩,⟨m,rfl,em⟩,k,G,n,r,t,u,q⟩;refine⟨_,(bG (cH (bU (Db T) g (aG (pv 0) (aG (gF (aG (ux vq (xt 1)) (aG (xt 1) aM))) aM))))),_,O,_,O,m,_,0,.int c,O,O,D0 em,bZ (j:=0) O,_,O,_,O,m,_,1,.int d,O,O,D0 em,bZ (j:=1) O,dA O,λp z=>?_⟩;have S:=C7 (o:=.tup [.int (-c),.int d]) z;refine⟨_,_,O,a,b,-c,d,⟨l,O,S _ _ i⟩,⟨p,O,aV⟩,k,by unfold ln at *;omega,n,r,t,u,λv H' B fr=>q v H' (S.trans B) ?_⟩;rw[show(1:Int)*-c*b=-1*c*b by rw[p0,qY,qY,qY,p0]]at fr;exact fr
def My(T:Txt K mg C)(g:mg "Short"=Z (.ref a)):eR P w K mg b_ 1 a "__init__" ["self","field"] (vg a "field"):=by
 obtain⟨x,y,⟨i,j,k,l,z,m,n,o,p⟩,b,r⟩:=T.Zh;rw[g]at b;cases b;refine m.mc Ml (λvs H Q E h=>?_) (λf B A o_ s H vs Q E D h=>?_)
 .obtain⟨e,v,rfl,_⟩:=h;rfl
 obtain⟨e,v,rfl,c,q⟩:=h;exact⟨_,(bC (jR (QA r p n o (aG (pv 0) (aG (pv 1) aM)))) (bG (RM (pv 0) (pv 1) O))),_,O,_,O,e,v,_,aF,O,c,i.ex,_,O,_,O,e,_,_,O,c,j,k,l,λd t u=>q d t u⟩
def s4(b:Bool)(c:aB)(Q:aP)(E:dG)(H:aC):Prop:=if b=aD then Q .non H else E (.ref c) aF H
inductive Bd(C c:aB)(vs:M0)(H:aC)(Q:aP)(E:dG):Prop
 |mk:∀(p l:aB)(fs N es:M3)(us:M0),vs=[.ref p,.ref l]->dU C H p fs N->H l=Z (.lst us)->IsL H es us->es.length<=100->(∀H',aL H H'->s4 ((es.map (gK (fs.map aN))).all id) c Q E H')->Bd C c vs H Q E
def Xa(T:Txt K mg C)(u:mg "NoVoice"=Z (.ref c)):p4 P w K mg b_ 2 "check_voices" ["land","yes"] (Bd C c):=by
 obtain⟨a1,x,j⟩:=T.Zf;have k:=j;rw[u]at k;cases k;refine T.q38.fcX Ie (λvs H Q E h=>?_) (λf a2 A o_ s H vs Q E m h=>?_)
 .obtain⟨p,l,fs,N,es,us,rfl,_⟩:=h;rfl
 obtain⟨p,l,fs,N,es,us,rfl,L,D,G,le,q⟩:=h;have a3:=fJ;obtain⟨dx,a4,a5,b,_⟩:=L.ex;refine⟨_,(bC (cF (i:=2) Ie.nd O (E1 O) (jA T.ad (rg T) (m.mono YR) (pv 0))) (bG (fK (F7 (lR (iM (gW (dH (n4 (K:=K) O) O T.q70 n3 (aG (pv 1) (aG (ou T.q72 lM) aM))))) (mD (iM (gW (dH (pz O) O T.q65 px (aG (fN ["name","names"] 1 [2] O (eV (pv 1)) (λR=>cM (i:=0) (YS:eQ (["name","names"]:L9)) O YU) (fD YR) (λR=>gQ) (λR=>(bU (rh T) m (aG (pv 0) (aG (pv 1) aM))))) aM))))))) (bG (En j x.ex O CV (aG qw aM))) fH))),_,O,p,dx,_,O,b,jQ _ _ YS YS,_,O,p,fs,N,O,L,λln z d a6 I=>?_⟩;have g:=d _ _ D;have n:=D2 d _ _ G;have J:=n.length;refine⟨_,O,_,_,_,_,_,O,O,lE.lst g,py _ _,_,O,cC ⟨_,O,l,O,⟨_,C8 g⟩,fU (F:=K) (xs:=us) YT (λi ys H'=>z=H'/\ys=((es.take i).map (gK (fs.map aN))).map GE) ⟨O,O⟩ ?_ ?_ ?_⟩⟩
 .rintro i ys H' a7 ⟨rfl,rfl⟩;exact⟨C8 g,by rw[aS,aS,dY];omega⟩
 .rintro i a8 ys H' a9 aa b ⟨rfl,rfl⟩ k1 k2;have ac:i<us.length:=(cR.mp b).1;obtain⟨e,r⟩:∃e,es[i]?=Z e:=⟨_,cJ YT⟩
  obtain⟨v,ev,M⟩:=n.get r;rw[b]at ev;cases ev;refine⟨_,O,_,O,_,_,O,e,ln,_,M,O,C8 I,k1 _ _ ⟨O,?_⟩⟩;rw[dR,r,dJ,dJ];rfl
 rintro ys H' ⟨rfl,rfl⟩;rw[J,dP (bQ _)];intro U Y;have a0:=C7 (o:=.lst ((es.map (gK (fs.map aN))).map GE)) Y;refine⟨U,es.map (gK (fs.map aN)),O,C8 aV,_,O,?_⟩;have a:=q _ (d.trans a0);unfold s4 at a;cases t:(es.map (gK (fs.map aN))).all id with
 |true=>
  rw[t,B4 O]at a;exact cC a
 |false=>
  rw[t,B3 fQ]at a;exact dO ⟨dA O,a⟩
noncomputable def lC:aH->Int
 |.tup [_,_,.int e]=>e
 |_=>0
def sB(fs:M3)(ys:L9):Int:=((fs.filter λd=>G9 (aN d∈ys)).map lC).sum
def sE(fs:M3):Int:=(fs.map lC).sum
inductive Bb(C c:aB)(vs:M0)(H:aC)(Q:aP)(E:dG):Prop
 |mk:∀(p l:aB)(fs N:M3)(ys:L9),vs=[.ref p,.ref l]->dU C H p fs N->H l=Z (.lst (ys.map C9))->ys.length<=100->(∀H',aL H H'->s4 (!G9 (2*sB fs ys<=sE fs)) c Q E H')->Bb C c vs H Q E
def Xz(T:Txt K mg C)(a3:mg "Outvoted"=Z (.ref c)):p4 P w K mg b_ 2 "check_dues" ["land","yes"] (Bb C c):=by
 obtain⟨al,a4,J⟩:=T.Zg
 have M:=J
 rw[a3] at M
 cases M
 refine T.q39.fcX AB (fun vs H Q E h=>?_) (fun f am A o_ s H vs Q E x h=>?_)
 ·obtain⟨p,l,fs,N,ys,rfl,_⟩:=h
  rfl
 obtain⟨p,l,fs,N,ys,rfl,L,a6,le,q⟩:=h
 have an:=fJ
 have y:=(fV L).1
 have f2:=y.l2
 obtain⟨dx,ao,ap,B,_⟩:=L.ex
 refine⟨_,(bC (cF (i:=2) AB.nd rfl (D5 rfl) (jA T.ad (rg T) (x.mono (by decide)) (pv 0))) (bC (cF (i:=3) AB.nd rfl (D5 rfl) (dH (vb rfl) rfl T.q80 sS (aG (fN ["name","land","yes"] 1 [0,1] rfl (eV (pv 2)) (fun R=>cM (i:=0) (YS:eQ (["name","land","yes"]:L9)) rfl (D5 rfl)) (fD (by decide)) (fun R=>mX (fG (sN (K:=K) rfl) (pv 0) (pv 2) (by with_unfolding_all rfl))) (fun R=>(pi T.ad (MD T) (x.mono (by decide)) (pv 1) (aG (pv 0) aM)))) aM))) (bG (fK (fG nu (bK oi bB (pv 3)) (dH (vb rfl) rfl T.q80 sS (aG (fN ["name","land"] 1 [0] rfl (eV (pv 2)) (fun R=>cM (i:=0) (YS:eQ (["name","land"]:L9)) rfl (D5 rfl)) (fD (by decide)) (fun R=>gQ) (fun R=>(pi T.ad (MD T) (x.mono (by decide)) (pv 1) (aG (pv 0) aM)))) aM)) (eO _)) (bG (En J a4.ex rfl CV (aG qw aM))) fH)))),?_⟩
 refine⟨_,rfl,p,dx,_,rfl,B,jQ _ _ (by decide +kernel) (by decide +kernel),_,rfl,p,fs,N,rfl,L,fun ln z r aq m=>?_⟩
 have m:z ln=Z (.lst ((fs.map aN).map C9)):=m
 have a7:=r _ _ a6
 have a8:=L.same r
 have Y:((fs.map aN).map C9).length=fs.length:=by rw[aS,aS]
 refine⟨_,rfl,ln,rfl,⟨_,C8 m⟩,?_⟩
 refine fU (F:=K) (xs:=(fs.map aN).map C9) (by omega) (fun i vs H'=>z=H'∧vs=(((fs.take i).filter fun d=>G9 (aN d∈ys)).map lC).map D1∧vs.length≤i) ⟨rfl,rfl,bQ _⟩ ?_ ?_ ?_
 ·rintro i vs H' a9 ⟨rfl,rfl,D⟩
  exact⟨C8 m,D⟩
 ·rintro i aa vs H' ac ae j ⟨rfl,rfl,D⟩ k1 k2
  obtain⟨d,b⟩:∃ d,fs[i]?=Z d:=by
   have:=(cR.mp j).1
   exact⟨_,cJ (by omega)⟩
  rw[dB,dB,b] at j
  cases j
  obtain⟨a,k,e,rfl,_⟩:=iD (y.all d (dM b))
  have t:(((fs.take (i+1)).filter fun d=>G9 (aN d∈ys)).map lC)=(((fs.take i).filter fun d=>G9 (aN d∈ys)).map lC)++(if a∈ys then [e] else []):=by
   rw[dR,b,oA,dJ]
   by_cases g:a∈ys
   ·rw[B4 g]
    have:G9 (aN (.tup [.str a,.int k,.int e])∈ys)=aD:=B0 g
    simp only[wo,oD,this,if_true,wj,dD,mu]
    rfl
   ·rw[B3 g]
    have:G9 (aN (.tup [.str a,.int k,.int e])∈ys)=aK:=B1 g
    simp only[wo,oD,this,wj,mu]
    rfl
  refine⟨_,rfl,_,rfl,l,_,rfl,.inl (C8 a7),rfl,ri ys,_,rfl,?_⟩
  rw[B3 fQ,ro]
  cases a0:G9 (aN (.tup [.str a,.int k,.int e])∈ys) with
  | true =>
   have g:a∈ys:=B2 a0
   rw[B4 g] at t
   refine dO ⟨_,rfl,_,_,_,rfl,(r _ _ B),jQ _ _ (by decide +kernel) (by decide +kernel),_,rfl,_,_,rfl,p,fs,N,a,k,e,rfl,rfl,a8,dM b,k1 _ _ ⟨rfl,?_,by rw[eW,lV];omega⟩⟩
   rw[t,dJ]
   rfl
  | false =>
   have g:a∉ys:=B8 a0
   rw[B3 g] at t
   refine cC (k2 _ ⟨rfl,?_,by omega⟩)
   rw[t,lK]
 rintro vs H' ⟨rfl,rfl,D⟩
 rw[Y,dP (bQ _)]
 intro a1 af
 have G:=C7 (o:=.lst (((fs.filter fun d=>G9 (aN d∈ys)).map lC).map D1)) af
 refine⟨a1,_,rfl,C8 aV,?_⟩
 have u:=r.trans G
 have I:=G _ _ m
 generalize aI z a1 (.lst (((fs.filter fun d=>G9 (aN d∈ys)).map lC).map D1))=ag at G u I ⊢
 have ah:=L.same u
 refine⟨_,rfl,_,_,rfl,rfl,.inl ⟨by decide,by decide⟩,?_⟩
 refine⟨_,rfl,ln,rfl,⟨_,C8 I⟩,?_⟩
 refine fU (F:=K) (xs:=(fs.map aN).map C9) (by omega) (fun i vs H'=>ag=H'∧vs=((fs.take i).map lC).map D1) ⟨rfl,rfl⟩ ?_ ?_ ?_
 ·rintro i vs H' a9 ⟨rfl,rfl⟩
  exact⟨C8 I,by rw[aS,aS,dY];omega⟩
 ·rintro i aa vs H' ac ae j ⟨rfl,rfl⟩ k1 k2
  obtain⟨d,b⟩:∃ d,fs[i]?=Z d:=by
   have:=(cR.mp j).1
   exact⟨_,cJ (by omega)⟩
  rw[dB,dB,b] at j
  cases j
  obtain⟨a,k,e,rfl,_⟩:=iD (y.all d (dM b))
  refine⟨_,rfl,_,_,_,rfl,(u _ _ B),jQ _ _ (by decide +kernel) (by decide +kernel),_,rfl,_,_,rfl,p,fs,N,a,k,e,rfl,rfl,ah,dM b,k1 _ _ ⟨rfl,?_⟩⟩
  rw[dR,b,dJ,dJ]
  rfl
 rintro vs H' ⟨rfl,rfl⟩
 rw[Y,dP (bQ _)]
 intro ai aj
 have ak:=C7 (o:=.lst ((fs.map lC).map D1)) aj
 refine⟨ai,_,rfl,C8 aV,_,_,rfl,rfl,_,rfl,?_⟩
 change if G9 (2*sB fs ys≤sE fs)=aD then _ else _
 have n:=q _ (u.trans ak)
 unfold s4 at n
 cases a2:G9 (2*sB fs ys≤sE fs) with
 | false =>
  rw[a2,B4 (by rfl)] at n
  exact cC n
 | true =>
  rw[a2,B3 (by decide)] at n
  exact dO ⟨dA rfl,n⟩
def eS(H:aC)(J:List (aT×V))(zs:L9)(pu:aA->Int×Int):Prop:=Paired (λ(a:aA)(b:aT×V)=>b.1=C6 a/\Fr H b.2 (pu a).1 (pu a).2) zs J
def AI(pu:aA->Int×Int)(zs:L9):Prop:=∀a∈zs,ln (pu a).1/\ln (pu a).2
def eS.same(S:gG H H')(h:eS H J zs pu):eS H' J zs pu:=by
 unfold eS at *
 induction h with
 |nil=>exact .nil
 |cons a r b=>
  obtain⟨e,l,ev,c⟩:=a;exact .cons ⟨e,l,ev,S _ _ c⟩ b
def eS.val(h:eS H J zs pu)(m:b∈zs):∃v,dE J (C6 b)=Z v/\Fr H v (pu b).1 (pu b).2:=by
 unfold eS at h
 induction h with
 |nil=>cases m
 |@cons y f zs J a r g=>
  obtain⟨e,fr⟩:=a;obtain⟨k,v⟩:=f;cases(show k=C6 y from e);by_cases c:y=b
  .subst c;exact⟨v,by unfold dE;simp[lX],fr⟩
  .obtain⟨u,d,i⟩:=g (by rcases dW.mp m with q|q;exact B6 q.symm c;exact q);refine⟨u,?_,i⟩;unfold dE at d ⊢;have:G9 ((C6 y:aT)=C6 b)=aK:=B1 (λq=>c (by cases q;rfl));simp only[lX,this];exact d
def eS.key(h:eS H J zs pu):J.map (·.1)=zs.map (C6:aA->aT):=by
 unfold eS at h
 induction h with
 |nil=>rfl
 |cons a r b=>rw[dD,dD,a.1,b]
noncomputable def oh(pu b:aA->Int×Int)(a:aA):Bool:=G9 ((pu a).1*(b a).2<(b a).1*(pu a).2)
inductive Ba(cS:aB)(vs:M0)(H:aC)(Q:aP)(E:dG):Prop
 |mk:∀(dp dS:aB)(kp kS:List (aT×V))(zs ws:L9)(pu sh:aA->Int×Int),vs=[.ref dp,.ref dS]->eM H dp (.dK kp)->eS H kp zs pu->H dS=Z (.dK kS)->dp≠dS->eS H kS ws sh->AI pu zs->AI sh ws->(∀z∈ws,z∈zs)->(∀o,((∀z∈ws,oh pu sh z=aK)->Q .non (aI H dS (.frz o (.dK kS))))/\∀i z,ws[i]?=Z z->oh pu sh z=aD->(∀y∈ws.take i,oh pu sh y=aK)->∀d,H d=aF->E (.ref cS) (Z d) (aI (aI H dS (.frz o (.dK kS))) d (rx d "field" (.str z))))->Ba cS vs H Q E
def Xg(T:Txt K mg C)(x:mg "Short"=Z (.ref c)):p4 P w K mg b_ 3 "check_purses" ["purse_of","share_of"] (Ba c):=by
 obtain⟨aj,ak,⟨a1,al,am,an,ao,ap,aq,ar,as⟩,B,au⟩:=T.Zh;have D:=B;rw[x]at D;cases D;refine T.q40.fcX Ig (λvs H Q E h=>?_) (λf av A o_ s H vs Q E t h=>?_)
 .obtain⟨dp,j,kp,kS,zs,ws,pu,n,rfl,_⟩:=h;rfl
 obtain⟨dp,j,kp,kS,zs,ws,pu,n,rfl,a2,fp,G,a3,fs,lp,I,sub,q⟩:=h;have J:=jT t;refine⟨_,(bG (kE vt.leaving O (vm (pv 1)) (cM (i:=2) Ig.nd O YU) (bG (fK (gW (bU (PB T) t (aG (iZ J (pv 0) (pv 2) (λ_ _=>O)) (aG (iZ J (pv 1) (pv 2) (λ_ _=>O)) aM)))) (bG (Pt B a1.ex (My T x) (t.mono YR) O Oh (aG (pv 2) aM))) fH)))),_,O,j,kS,O,G,λo=>?_⟩;obtain⟨a4,a5⟩:=q o;have KT:gG H (aI H j (.frz o (.dK kS))):=λb xs e=>by rw[bA (YH e G)];exact e
 have a6:eM (aI H j (.frz o (.dK kS))) dp (.dK kp):=by unfold eM;rw[bA a3];exact a2
 have a7:=fp.same KT;have a8:=fs.same KT;have ks:=fs.key;have a9:kS.length=ws.length:=by have:=B7 m8 ks;rwa [aS,aS]at this
 have L:aI H j (.frz o (.dK kS)) j=Z (.frz o (.dK kS)):=aV;have aa:∀d,aI H j (.frz o (.dK kS)) d=aF->H d=aF:=λd e=>by
  by_cases g:d=j
  .rw[g,aV]at e;cases e
  .rwa [bA g]at e
 generalize aI H j (.frz o (.dK kS))=z at *;refine x2 (λi Y H'=>H'=z/\(∀y∈ws.take i,oh pu n y=aK)/\∃u,Y=[Z (.ref dp),Z (.ref j),u]) ⟨O,(λy m=>B6 m (by simp)),_,O⟩ (λi Y H' _ ⟨e,_⟩=>e▸L) ?_ ?_
 .rintro i ac Y H' M ⟨rfl,p,u,rfl⟩;obtain⟨g,r⟩:∃g,ws[i]?=Z g:=⟨_,cJ (by have:=(cR.mp M).1;omega)⟩
  have ae:ac.1=C6 g:=by
   have h:=B7 (λl=>l[i]?) ks;simp only[dB,M,r]at h;exact eA h
  have k:=dM r;obtain⟨a,ea,af⟩:=a7.val (sub g k);obtain⟨b,ag,ah⟩:=a8.val k;rw[ae];refine⟨_,O,_,O,dp,a,O,?_,_,O,_,O,j,b,O,?_,_,_,O,_,_,_,_,af,ah,(lp g (sub g k)).1,(lp g (sub g k)).2,(I g k).1,(I g k).2,_,O,?_⟩
  .exact .inl ⟨kp,C6 g,a6,O,ea.symm⟩
  .exact .inl ⟨kS,C6 g,.inr ⟨o,L⟩,O,ag.symm⟩
  change if oh pu n g=aD then _ else _
  cases N:oh pu n g with
  |true=>exact dO ⟨_,O,_,O,λd ai=>a5 i g r N p d (aa d ai)⟩
  |false=>
   refine cC ⟨O,λy m=>?_,_,O⟩;rw[dR,r]at m;rcases gN.mp m with m|m
   .exact p y m
   .cases eU.mp m;exact N
 .rintro Y H' ⟨rfl,p,u,rfl⟩;exact a4 λg m=>p g (by rw[a9,dP (bQ _)];exact m)
noncomputable def kG(zs:L9)(cnt:aA->Int):List (aT×V):=zs.map λa=>(C6 a,D1 (cnt a))
theorem Dx:∀{zs:L9} {g:aA},g∈zs->dE (kG zs c) (C6 g)=Z (.int (c g))
 |[],_,m=>by cases m
 |z::zs,g,m=>by
  unfold dE kG;by_cases e:z=g
  .subst e;simp
  .have a:g∈zs:=by
    rcases dW.mp m with h|h
    .exact B6 h.symm e
    .exact h
   have:=Dx (c:=c) (zs:=zs) a;unfold dE kG at this;rw[dD,List.find?_cons_of_neg (by simp[e])];exact this
def Sy(e:H b=Z o)(n:b≠p):kQ p H b=Z o:=by
 unfold kQ;rw[B3 n];exact e
def GO:kQ p H p=aF:=by unfold kQ;rw[B4 O]
noncomputable def w7:L9:=["land_now","purse_of","works_done"]
structure ue (F:List (aA×V)) (pl dp lw:aB):Prop where
 f1:F.lookup ("land_now":aA)=Z (.ref pl)
 f2:F.lookup ("purse_of":aA)=Z (.ref dp)
 f3:F.lookup ("works_done":aA)=Z (.ref lw)
 no:∀m:aA,¬m∈w7->F.lookup m=aF
def eM.same'(S:aL H H')(h:eM H a u):eM H' a u:=by
 rcases h with h|⟨o,h⟩
 .exact .inl (S _ _ h)
 .exact .inr ⟨o,S _ _ h⟩
def nr(pl:aB):List (aA×V):=gJ "land_now" (.ref pl) []
def oq(pl dp:aB):List (aA×V):=gJ "purse_of" (.ref dp) (nr pl)
def ot(pl dp lw:aB):List (aA×V):=gJ "works_done" (.ref lw) (oq pl dp)
def Ov(pl dp lw:aB):ue (ot pl dp lw) pl dp lw:=by
 unfold ot oq nr;have q:∀(m f:aA)(v:V)(F:List (aA×V)),¬m=f->(gJ f v F).lookup m=F.lookup m:=λm f v F h=>by rw[mU,B3 h]
 have r:∀(f:aA)(v:V)(F:List (aA×V)),(gJ f v F).lookup f=Z v:=λf v F=>by rw[mU,B4 O]
 refine⟨?_,?_,?_,λm hm=>?_⟩
 .rw[q _ _ _ _ YS,q _ _ _ _ YS,r]
 .rw[q _ _ _ _ YS,r]
 .rw[r]
 .unfold w7 at hm;simp only[dW,mJ,C4,not_or]at hm;obtain⟨a,b,c⟩:=hm;rw[q _ _ _ _ c,q _ _ _ _ b,q _ _ _ _ a];rfl
theorem vk(f:aA)(v:V):∀F:List (aA×V),(gJ f v F).length<=F.length+1
 |[]=>bQ _
 |(g,x)::F=>by
  have a:=vk f v F;unfold gJ;by_cases e:g=f
  .subst e;simp
  .simp[e];exact a
def Gx(pl dp lw:aB):(nr pl).length<=1/\(oq pl dp).length<=2/\(ot pl dp lw).length<=3:=by
 have h1:(nr pl).length<=1:=vk "land_now" (.ref pl) [];have h2:=vk "purse_of" (.ref dp) (nr pl);have h3:=vk "works_done" (.ref lw) (oq pl dp);unfold ot oq at *;omega
def z2(zs b:L9)(c:aA->Int):Prop:=b.length=zs.length/\(∀a∈b,a∈zs)/\(∀a∈zs,a∈b)/\∀a∈b,0<=c a/\c a<=1000000000000
def z2.pur(h:z2 zs d c):rb zs (d.map C6) (d.map λa=>E9 (c a))=aD:=by
 unfold rb;rw[aS,B0 h.1,kX,ku];intro b m;rw[List.zipWith_map,List.zipWith_self]at m;obtain⟨a,e,rfl⟩:=cG.mp m;obtain⟨h1,h2⟩:=h.2.2.2 a e;show(G9 (a∈zs)&&(G9 (0<=c a)&&G9 (c a<=1000000000000)))=aD;rw[B0 (h.2.1 a e),B0 h1,B0 h2];rfl
theorem EG(f:aA->Int):∀zs:L9,IsL H (zs.map λz=>E9 (f z)) (zs.map λz=>D1 (f z))
 |[]=>rfl
 |z::zs=>⟨_,_,O,O,EG f zs⟩
theorem Dj(f:aA->Int):∀zs:L9,ow (zs.map λz=>E9 (f z))=aD
 |[]=>rfl
 |z::zs=>Dj f zs
def eS.snoc(h:eS H J zs pu)(e:Fr H v (pu b).1 (pu b).2):eS H (J++[(C6 b,v)]) (zs++[b]) pu:=by
 unfold eS at *
 induction h with
 |nil=>exact .cons ⟨O,e⟩ .nil
 |cons a r c=>exact .cons a c
def eS.len(h:eS H J zs pu):J.length=zs.length:=by
 have:=B7 m8 h.key
 rwa [aS,aS]at this
def sX(S:aL H H'):gG H H':=λb xs e=>S _ _ e
noncomputable def pG(a:aA->Int)(b:aA):Int×Int:=(a b,1)
def vn(a:Int):low a 1=(a,1):=by
 unfold low;rw[Int.gcd_one];exact Prod.ext (wx a) O
structure jP (r C:aB) (H:aC) (p dp lw pl:aB) (fs gs:M3) (pu:aA->Int×Int) (wk:M3):Prop where
 ex:∃dx F J us H0,H p=Z (.ins r dx F)/\ue F pl dp lw/\F.length<=3+wk.length/\H dp=Z (.dK J)/\eS H J (fs.map aN) pu/\H lw=Z (.lst us)/\aL H0 H/\H0 p=aF/\H0 dp=aF/\H0 lw=aF/\dU C H0 pl fs gs/\IsL H0 wk us
section
variable{r C:aB}{H H':aC}{p dp lw pl:aB}{fs gs:M3}{pu:aA->Int×Int}{wk:M3}
def jP.same(S:aL H H')(M:jP r C H p dp lw pl fs gs pu wk):jP r C H' p dp lw pl fs gs pu wk:=by
 obtain⟨dx,F,J,us,H0,h1,h2,a,b,c,d,s,e,f,g,L,h⟩:=M;exact⟨dx,F,J,us,H0,S _ _ h1,h2,a,S _ _ b,c.same (sX S),S _ _ d,s.trans S,e,f,g,L,h⟩
def jP.lnd(M:jP r C H p dp lw pl fs gs pu wk):dU C H pl fs gs:=by
 obtain⟨dx,F,J,us,H0,h1,h2,a,b,c,d,s,e,f,g,L,h⟩:=M;exact L.same s
end
inductive Kn(r C:aB)(x y z:V)(H:aC)(Q:aP):Prop
 |mk:∀(p dx pl a:aB)(fs gs:M3)(zs:L9)(held:aA->Int)(H0:aC),x=.ref p->H p=Z (.ins r dx [])->y=.ref pl->aL H0 H->H0 p=aF->H0 a=aF->dU C H0 pl fs gs->z=.ref a->H a=Z (.dK (kG zs held))->z2 (fs.map aN) zs held->(∀(dp lw:aB)(H':aC),jP r C H' p dp lw pl fs gs (pG held) []->(∀b o,H b=Z o->b≠p->b≠a->H' b=Z o)->H lw=aF->eM H' a (.dK (kG zs held))->Q .non H')->Kn r C x y z H Q
def Gc(r C:aB):bW:=kU (Kn r C)
def MY(T:Txt K mg C)(b9:mg "Moot"=Z (.ref r)):q3 P w K mg b_ 4 r ["self","land","purses"] (Gc r C):=by
 obtain⟨br,a5,an,ba,bb,bc,bd,bs,bu,bv,bw,bx⟩:=T.Ze;rw[b9]at an;cases an;refine bd.ic MR lA ?_;rintro f bz A o_ s H vs Q E G ⟨x,y,c,rfl,p,dx,pl,a,fs,gs,zs,g,H0,rfl,a6,rfl,m,a7,ao,L,rfl,ap,a8,q⟩;have bR:=fJ;have aq:=(fV L).1;have f2:=aq.l2;have bh:=jT G;have c0:(kG zs g).length=zs.length:=by unfold kG;rw[aS]
 have ar:kG zs g=(zs.map (C6:aA->aT)).zip (zs.map λc=>D1 (g c)):=by
  unfold kG;rw[List.zip_map,List.zip_eq_zipWith,List.zipWith_self,eP];rfl
 have c1:zs.length<=12:=by have:=a8.1;rw[aS]at this;omega
 have I:p≠a:=λc=>by rw[c,ap]at a6;cases a6
 refine⟨_,(bC (fK (iM (gW (bU (XO T) G (aG (pv 1) (aG (pv 2) aM))))) (bG n8) fH) (bC (td (pv 0) (pv 1) O) (bC (td (pv 0) (iX (oQ O) O T.q67 mW (aG (fN ["name","purses"] 1 [2] O (eV (jA T.ad (rg T) (G.mono YR) (pv 1))) (λR=>cM (i:=0) (YS:eQ (["name","purses"]:L9)) O YU) (fD YR) (λR=>gQ) (λR=>(gF (aG (pv 0) (aG (bU (xm T) G (aG (iZ bh (pv 1) (pv 0) (λ_ _=>O)) (aG bB aM))) aM))))) aM)) O) (bG (td (pv 0) (gX aM) O))))),_,O,_,O,_,_,O,pl,fs,gs,O,L.same m,.inr ⟨a,zs.map C6,zs.map λc=>D1 (g c),zs.map λc=>E9 (g c),O,by rw[←ar];exact ap,by rw[aS,aS],EG _ _,Dj _ _,by rw[aS];omega,λz as h1=>?_⟩⟩;rw[a8.pur,←ar]at *;refine⟨_,O,cC ⟨_,O,_,O,p,r,dx,[],O,as _ _ a6 I,a5,ba,YR,?_⟩⟩;have M:∀b o,H b=Z o->b≠p->b≠a->aI z p (.ins r dx (nr pl)) b=Z o:=λb o e j n=>by rw[bA j];exact as _ _ e n
 have au:aI z p (.ins r dx (nr pl)) p=Z (.ins r dx (nr pl)):=aV;have N:eM (aI z p (.ins r dx (nr pl))) a (.dK (kG zs g)):=by unfold eM;rw[bA I.symm];exact h1
 change kH _ _ _ _ (aI z p (.ins r dx (nr pl)));generalize aI z p (.ins r dx (nr pl))=H2 at M au N;have bi:aL H0 H2:=λb o e=>M _ _ (m _ _ e) (cX e a7) (cX e ao);have av:=L.same bi;obtain⟨bj,c2,c3,bk,_⟩:=av.ex;refine⟨_,O,pl,bj,_,O,bk,jQ _ _ YS YS,_,O,pl,fs,gs,O,av,λln aw a9 c4 U=>?_⟩;have U:aw ln=Z (.lst ((fs.map aN).map C9)):=U;refine⟨ln,O,⟨_,C8 U⟩,fU (F:=K) (xs:=(fs.map aN).map C9) (by rw[aS,aS];omega) (λi ys H'=>aL aw H'/\∃J,fF H' ys J/\eS H' J ((fs.map aN).take i) (pG g)) ⟨D7 _,[],GT _,mx⟩ ?_ ?_ ?_⟩
 .rintro i ys H' c5 ⟨S,J,u,fr⟩;have:=fr.len;rw[dY]at this;exact⟨C8 (S _ _ U),by have:=u.len;omega⟩
 .rintro i c6 ys H' c7 c8 aa ⟨S,J,u,fr⟩ k1 k2;obtain⟨c,ac⟩:∃c,(fs.map aN)[i]?=Z c:=by
   have:=(cR.mp aa).1;rw[aS]at this;exact⟨_,cJ this⟩
  rw[dB,ac]at aa;cases aa;have bl:c∈zs:=a8.2.2.1 c (dM ac);refine⟨_,O,_,O,_,O,a,_,O,?_,_,_,O,g c,1,O,O,YR,YR,λbm c9 ae ax=>?_⟩
  .rw[←Dx bl];exact .inl ⟨_,C6 c,eM.same' (a9.trans S) N,O,O⟩
  rw[vn]at ax;refine⟨dA O,λt Y=>k1 _ _ ⟨S.trans (ae.trans (C7 Y)),J++[(C6 c,bm)],?_,?_⟩⟩
  .exact(u.same ae).snoc (k:=C6 c) Y
  .rw[dR,ac];exact(fr.same (sX (ae.trans (C7 Y)))).snoc (Fr.same (C7 Y) ax)
 rintro ys ay ⟨az,J,u,fr⟩;rw[dP (by rw[aS,aS,aS];exact bQ _)]at fr;have bn:=fr.len;rw[aS]at bn;intro af bo;have a0:=C7 (o:=.lst ys) bo;refine⟨af,ys,J,O,C8 aV,u.same a0,YT,?_,λdp aR=>?_⟩
 .rw[fr.key,qg];exact aq.nd
 have b0:=C7 (o:=.dK J) aR;have B:=a9.trans (az.trans (a0.trans b0));have b1:=fr.same (sX (a0.trans b0));have a1:aI (aI ay af (.lst ys)) dp (.dK J) dp=Z (.dK J):=aV;have ag:H2 dp=aF:=(a9.trans (az.trans a0)).free aR;have a2:=B _ _ au;have ah:=eM.same' B N;generalize aI (aI ay af (.lst ys)) dp (.dK J)=d at B b1 a1 a2 ah;have ca:=Gx pl dp dp;refine⟨_,O,p,r,dx,nr pl,O,a2,a5,bb,YT,?_⟩;have b2:dp≠p:=λc=>by rw[c,a2]at a1;cases a1
 have ai:kT p d (aI d p (.ins r dx (oq pl dp))):=(aL.x (D7 d)).put;have aj:aI d p (.ins r dx (oq pl dp)) p=Z (.ins r dx (oq pl dp)):=aV;change Ends.nx _ _ (aI d p (.ins r dx (oq pl dp)));generalize aI d p (.ins r dx (oq pl dp))=D at ai aj;refine⟨dA O,λlw a3=>?_⟩;have b3:=C7 (o:=.lst []) a3;refine⟨_,O,p,r,dx,oq pl dp,O,b3 _ _ aj,a5,bc,YT,?_⟩;have a4:lw≠p:=λc=>by rw[c,aj]at a3;cases a3
 have l:kT p d (aI (aI D lw (.lst [])) p (.ins r dx (ot pl dp lw))):=(ai.then b3).put;have b4:aI (aI D lw (.lst [])) p (.ins r dx (ot pl dp lw)) p=Z (.ins r dx (ot pl dp lw)):=aV;have b5:aI (aI D lw (.lst [])) p (.ins r dx (ot pl dp lw)) lw=Z (.lst []):=by rw[bA a4,aV]
 show Q .non (aI (aI D lw (.lst [])) p (.ins r dx (ot pl dp lw)));generalize aI (aI D lw (.lst [])) p (.ins r dx (ot pl dp lw))=ak at l b4 b5 ⊢;have al:d lw=aF:=by
  cases e:d lw with
  |none=>rfl
  |some o=>
   have:=ai _ _ e a4;rw[a3]at this;cases this
 have bp:dp≠a:=λc=>by
  rw[c]at ag;rcases N with h|⟨o,h⟩<;>rw[ag]at h<;>cases h
 have b6:lw≠a:=λc=>by
  rw[c]at al;rcases ah with h|⟨o,h⟩<;>rw[al]at h<;>cases h
 have b7:∀b o,H b=Z o->b≠p->b≠a->ak b=Z o:=λb o e j n=>l _ _ (B _ _ (M _ _ e j n)) j;have am:∀b,b≠p->b≠a->H2 b=aF->H b=aF:=λb j n h=>by
  cases e:H b with
  |none=>rfl
  |some o=>
   have:=M _ _ e j n;rw[h]at this;cases this
 have b8:H2 lw=aF:=by
  cases e:H2 lw with
  |none=>rfl
  |some o=>
   have:=B _ _ e;rw[al]at this;cases this
 have bq:gG d ak:=λb xs e=>l _ _ e (λc=>by rw[c,a2]at e;cases e);exact q dp lw ak ⟨dx,ot pl dp lw,J,[],H0,b4,Ov _ _ _,(Gx pl dp lw).2.2,l _ _ a1 b2,b1.same bq,b5,λb o e=>b7 _ _ (m _ _ e) (cX e a7) (cX e ao),a7,m.free (am dp b2 bp ag),m.free (am lw a4 b6 b8),L,O⟩ b7 (am lw a4 b6 b8) (ah.imp (λe=>l _ _ e I.symm) fun⟨o,e⟩=>⟨o,l _ _ e I.symm⟩)
inductive Kp(r C:aB)(x:V)(H:aC)(Q:aP):Prop
 |mk:∀(p dp lw pl:aB)(fs gs:M3)(pu:aA->Int×Int)(wk:M3),x=.ref p->jP r C H p dp lw pl fs gs pu wk->(∀(l:aB)(J:List (aT×V)),H l=aF->eS H J (fs.map aN) pu->Q (.ref l) (aI H l (.dK J)))->Kp r C x H Q
def Tf(r C:aB):bW:=sp1 (Kp r C)
def Ix(T:Txt K mg C)(b:mg "Moot"=Z (.ref r)):eR P w K mg b_ 1 r "purses" ["self"] (Tf r C):=by
 obtain⟨m,c,a,n,d,o,t,u,y,z,e,B⟩:=T.Ze;rw[b]at a;cases a;refine e.mc Xv kJ ?_;rintro f D A o_ s H vs Q E G ⟨x,rfl,p,dp,lw,pl,fs,gs,pu,wk,rfl,M,q⟩;obtain⟨dx,F,J,us,H0,g,i,_,j,fr,_⟩:=M;exact⟨_,(bG (cH (iX ML O T.q67 mW (aG (lG (pv 0) O) aM)))),_,O,p,r,dx,F,_,O,g,c,d,i.f2,dp,J,O,j,λl k=>q l J k fr⟩
inductive Ko(r C:aB)(x:V)(H:aC)(Q:aP):Prop
 |mk:∀(p dp lw pl:aB)(fs gs:M3)(pu:aA->Int×Int)(wk:M3),x=.ref p->jP r C H p dp lw pl fs gs pu wk->Q (.ref pl) H->Ko r C x H Q
def Rw(r C:aB):bW:=sp1 (Ko r C)
def IW(T:Txt K mg C)(b:mg "Moot"=Z (.ref r)):eR P w K mg b_ 1 r "land" ["self"] (Rw r C):=by
 obtain⟨j,c,a,d,k,l,m,n,o,e,t,u⟩:=T.Ze;rw[b]at a;cases a;refine e.mc Mu kJ ?_;rintro f y A o_ s H vs Q E z ⟨x,rfl,p,dp,lw,pl,fs,gs,pu,wk,rfl,M,q⟩;obtain⟨dx,F,J,us,H0,g,i,_,B,fr,_⟩:=M;exact⟨_,(bG (cH (lG (pv 0) O))),_,O,p,r,dx,F,_,O,g,c,d,i.f1,q⟩
def p9(d:aH):Prop:=∃(ws:L9)(h c:Int),d=.tup [.lst (ws.map E8),.int h,.int c]/\ws.length<=12
theorem rn:∀zs:L9,IsL H (zs.map E8) (zs.map C9)
 |[]=>rfl
 |z::zs=>⟨_,_,O,O,rn zs⟩
noncomputable def nw(H H':aC):aC:=λb=>if H b=aF then H' b else aF
def z4(n:H b=aF)(e:H' b=Z o):nw H H' b=Z o:=by
 unfold nw;rw[B4 n];exact e
def ov(e:nw H H' b=Z o):H b=aF/\H' b=Z o:=by
 unfold nw at e;by_cases n:H b=aF
 .rw[B4 n]at e;exact⟨n,e⟩
 .rw[B3 n]at e;cases e
def Fn(S:aL H' H2):aL (nw H H') (nw H H2):=λb o e=>z4 (ov e).1 (S _ _ (ov e).2)
inductive Km(r C:aB)(x:V)(H:aC)(Q:aP):Prop
 |mk:∀(p dp lw pl:aB)(fs gs:M3)(pu:aA->Int×Int)(wk:M3),x=.ref p->jP r C H p dp lw pl fs gs pu wk->(∀d∈wk,p9 d)->wk.length<=100->(∀(l:aB)(us:M0)(H':aC),aL H H'->H l=aF->H' l=Z (.lst us)->IsL (nw H H') wk us->Q (.ref l) H')->Km r C x H Q
def Rx(r C:aB):bW:=sp1 (Km r C)
def IX(T:Txt K mg C)(G:mg "Moot"=Z (.ref r)):eR P w K mg b_ 1 r "done" ["self"] (Rx r C):=by
 obtain⟨ae,I,y,af,ag,L,ah,ai,aj,ak,al,N⟩:=T.Ze;rw[G]at y;cases y;refine N.mc Mv kJ ?_;rintro f am A o_ s H vs Q E an ⟨x,rfl,p,dp,lw,pl,fs,gs,pu,wk,rfl,M,U,ao,q⟩;obtain⟨dx,F,J,us,H0,Y,a0,_,ap,fr,z,a1,_,_,_,_,g⟩:=M;have aq:=fJ;have g:=D2 a1 _ _ g;have a2:=g.length;refine⟨_,(bG (cH (fN ["work"] 1 [] O (eV (lG (pv 0) O)) (λR=>cM (i:=0) (YS:eQ (["work"]:L9)) O YU) (fD YR) (λR=>gQ) (λR=>(gF (aG (iX (xn (K:=K) O) O T.q72 lM (aG (xt 0) aM)) (aG (xt 0) (aG (xt 0) aM)))))))),_,O,p,r,dx,F,_,O,Y,I,L,a0.f3,lw,O,⟨_,C8 z⟩,fU (F:=K) (xs:=us) YT (λi ys H'=>aL H H'/\IsL (nw H H') (wk.take i) ys) ⟨D7 _,O⟩ ?_ ?_ ?_⟩
 .rintro i ys H' ar ⟨S,b⟩;have:=b.length;rw[dY]at this;exact⟨C8 (S _ _ z),YT⟩
 .rintro i as ys H' au av B ⟨S,b⟩ k1 k2;obtain⟨d,m⟩:∃d,wk[i]?=Z d:=⟨_,cJ (by have:=(cR.mp B).1;omega)⟩
  obtain⟨v,ev,a3⟩:=(D2 S _ _ g).get m;rw[B]at ev;cases ev;obtain⟨ws,h,c,rfl,aw⟩:=U d (dM m);obtain⟨t,_,rfl,n,ax,_,rfl,⟨a,zs,rfl,a4,a5⟩,a6,_,rfl,a7,a8,_,rfl,a9,rfl⟩:=a3;cases(show a6=.int h from a7);cases(show a8=.int c from a9);refine⟨_,O,t,_,0,_,O,O,D0 n,bZ (j:=0) O,a,zs,O,.inl (C8 a4),λaa D=>?_⟩;have e:=C7 (o:=.lst zs) D;refine⟨_,O,t,_,1,.int h,O,O,D0 (e _ _ n),bZ (j:=1) O,_,O,t,_,2,.int c,O,O,D0 (e _ _ n),bZ (j:=2) O,dA O,λac k=>k1 _ _ ⟨S.trans (e.trans (C7 k)),?_⟩⟩;rw[dR,m];refine D9 ?_ (D2 (Fn (e.trans (C7 k))) _ _ b);cases uO a5;exact⟨ac,_,O,z4 ((S.trans e).free k) aV,_,_,O,⟨aa,_,O,z4 (S.free D) (C7 k _ _ aV),rn ws⟩,_,_,O,O,_,_,O,O,O⟩
 .rintro ys H' ⟨S,b⟩;rw[a2,dP (bQ _)]at b;intro l u;exact q l ys _ (S.trans (C7 u)) (S.free u) aV (D2 (Fn (C7 u)) _ _ b)
def yh(x y:Int):(low x y).1.natAbs<=x.natAbs:=by
 show(x/((D8 x y:Nat):Int)).natAbs<=_;rw[Int.natAbs_ediv_of_dvd (Int.gcd_dvd_left ..)];exact Nat.div_le_self _ _
def yg(h:0<y):0<(low x y).2:=by
 have g:=vo (a:=x) h;show 0<y/((D8 x y:Nat):Int);exact Int.ediv_pos_of_pos_of_dvd h (qX g) (y0 ..)
def yf(h:0<y)(b:y∣x*N):(low x y).2∣N:=by
 have g:=vo (a:=x) h;show y/((D8 x y:Nat):Int)∣N;have e:((D8 x y:Nat):Int)*(y/((D8 x y:Nat):Int))=y:=yK (y0 ..);have d:y∣((D8 (x*N) (y*N):Nat):Int):=Int.dvd_coe_gcd b (Int.dvd_mul_right ..);rw[Int.gcd_mul_right,wl]at d;rw[←e]at d;generalize y/((D8 x y:Nat):Int)=k at d e ⊢;rw[e]at d;have c:((D8 x y:Nat):Int)*k∣((D8 x y:Nat):Int)*(N.natAbs:Int):=by rw[e];exact d
 exact Int.dvd_natAbs.mp (Int.dvd_of_mul_dvd_mul_left YT c)
theorem Eb{q:Type}{f:q->Int}{B:Int}:∀{xs:List q},(∀x∈xs,f x<=B)->cD xs f<=(xs.length:Int)*B
 |[],_=>by show(0:Int)<=((0:Nat):Int)*B;omega
 |x::xs,h=>by
  rw[eF,fW,Int.natCast_add,pd];have:=Eb λy m=>h y (eK _ m);have:=h x eB;omega
def FJ(i:oL fs)(f:ky ("sea" :: fs.map aN) N)(j:fC L=aD)(ns:D3∉zs):0<=jJ (bD fs N L) zs/\jJ (bD fs N L) zs<=10^14:=by
 have h:=oU i f L;have k:=ER h ns;have u:=yk j;obtain⟨⟨X,l,o,p⟩,lo⟩:=k;refine⟨by rw[←p];exact wT h X,pb (lo X l o) ?_⟩;have h1:me (bD fs N L) X<=((bD fs N L).length:Int)*(2*10^12):=Eb λg m=>by
  have w:=h.cap g m;have:g.cap<=2*10^12:=by
   unfold bD at m;obtain⟨d,q,rfl⟩:=cG.mp m;obtain⟨n,a,b,c,r,s,rfl,_,_,_,_,t,e,_⟩:=gE (f.all d (gM.mp q).1);have x:=yk t;unfold ni at e;rw[fM,B5,B5]at e;show r*(L-c)<=_;refine pb (Int.mul_le_mul_of_nonneg_left (show L-c<=2000000 by omega) e.1) ?_;have:r*2000000<=1000000*2000000:=yu e.2 YR;omega
  unfold mG;split
  .omega
  .exact this
 have h2:((bD fs N L).length:Int)<=40:=by
  unfold bD;rw[aS];have:=m2 (mj fs L) N;have:=f.l2;omega
 have y:((bD fs N L).length:Int)*(2*10^12)<=40*(2*10^12):=yu h2 YR;omega
theorem Gk{q:Type}{f:q->Int}{B:Nat}:∀{xs:List q},(∀x∈xs,(f x).natAbs<=B)->(cD xs f).natAbs<=xs.length*B
 |[],_=>by show(0:Int).natAbs<=_;omega
 |x::xs,h=>by
  rw[eF,fW,Nat.add_mul];have h1:=Gk λy m=>h y (eK _ m);have h2:=h x eB;omega
noncomputable def kq(G:M5)(ws:L9)(a:aA):Int×Int:=low (kW G ws a (iP ws).length) (fac ws.length:Nat)
def lx(B:Nat)(pu:aA->Int×Int)(zs:L9):Prop:=∀a∈zs,0<(pu a).2/\(pu a).2∣720/\(pu a).1.natAbs<=B
def lx.k(h:lx B pu zs)(m:a∈zs):0<(pu a).2/\(pu a).2<=1000:=by
 obtain⟨h1,h2,_⟩:=h a m;exact⟨h1,pb (Int.le_of_dvd YR h2) YR⟩
def lx.ln(a:B<=10^60)(h:lx B pu zs):AI pu zs:=λb m=>⟨dN (h b m).2.2 a,rc (h.k m).1 (h.k m).2⟩
def Sv:∀n,n<=5->((fac n:Nat):Int)∣720:=by
 intro n h;have:n=0\/n=1\/n=2\/n=3\/n=4\/n=5:=YT;rcases this with rfl|rfl|rfl|rfl|rfl|rfl<;>decide
def wP(d:oL fs)(e:ky ("sea" :: fs.map aN) N)(f:fC L=aD)(c:1<=ws.length)(b:ws.length<=5)(ns:D3∉ws):lx (10^30) (kq (bD fs N L) ws) ws:=by
 intro g j;have fp:0<((fac ws.length:Nat):Int):=by have:=yn ws.length;omega
 refine⟨yg fp,yf fp ?_,dN (yh _ _) ?_⟩
 .obtain⟨k,l⟩:=Sv ws.length b;exact⟨kW (bD fs N L) ws g (iP ws).length*k,by rw[l];exact tL _ _ _⟩
 .unfold kW;have m:(iP ws).length<=54:=by
   unfold iP;rw[aS];exact Eo _ c b
  rw[dP (bQ _)];refine dN (Gk (B:=720*720*10^14) λa i=>?_) ?_
  .unfold qB;split
   .exact gU _
   .rename_i n;have o:=FK c b i j n;have h1:=Al a.length YT;have h2:=Al (ws.length-a.length-1) YT;have p:=FJ (zs:=ws.filter λy=>G9 (y=g)||G9 (y∈a)) d e f (λh=>ns (gM.mp h).1);have q:=FJ (zs:=a) d e f (λh=>ns (Uf c b i _ h));rw[rM];refine pW ?_ YT;show fac a.length*fac (ws.length-a.length-1)<=_;exact pW h1 h2
  .refine dN (Nat.mul_le_mul_right _ m) YS
def eS.ntab(h:eS H J zs pu)(n:1<=zs.length)(i:IsL H N (J.map (·.2)))(j:∀d∈N,∃a b c r,d=.tup (a::b::c::r)):False:=by
 unfold eS at h;cases h with
 |nil=>cases n
 |@cons y u zs J a r=>
  obtain⟨_,l,ev,k⟩:=a;cases N with
  |nil=>cases i
  |cons d N=>
   obtain⟨v,vs,e,m,_⟩:=i;obtain⟨a,b,c,r,rfl⟩:=j d eB;rw[dD]at e;cases e;obtain⟨t,xs,f,g,o⟩:=m;rw[ev]at f;cases f;rw[k]at g;cases g;obtain⟨_,_,p,_,_,_,q,_,_,_,s,_⟩:=o;cases p;cases q;cases s
def zL(L:dU C H x fs N)(E:x≠p)(l:H p=Z (.ins G dx F))(h:H dp=Z (.dK J))(fr:eS H J zs pu)(n:1<=zs.length)
 (k:∀b o,H b=Z o->b≠p->b≠dp->(∀us,o≠.lst us)->(∀ps,o≠.tbl ps)->H' b=Z o):dU C H' x fs N:=by
 have t:=(fV L).1;have u:=(fV L).2;have KT:gG H H':=λb xs e=>k _ _ e (YH e l) (YH e h) nofun nofun;obtain⟨⟨I,w,y,e,⟨k1,i,M,z⟩,⟨k2,j,Q,A⟩⟩,a,b⟩:=L;have T:w≠dp:=λf=>by
  rw[f,h]at i;cases i;exact fr.ntab n z λd m=>by
   obtain⟨f,g,e,rfl,_⟩:=iD (t.all d m);exact⟨_,_,_,_,O⟩
 have U:y≠dp:=λf=>by
  rw[f,h]at j;cases j;exact fr.ntab n A λd m=>by
   obtain⟨n,a,b,c,r,s,rfl,_⟩:=gE (u.all d m);exact⟨_,_,_,_,O⟩
 have B:∀{q:aB} {D:List (aT×V)},H q=Z (.dK D)->q≠dp->H' q=Z (.dK D):=λe Y=>k _ _ e (YH e l) Y nofun nofun;refine⟨⟨I,w,y,k _ _ e E (YH e h) nofun nofun,⟨k1,B i T,M,FB KT _ _ (lN λd m=>?_) z⟩,⟨k2,B j U,Q,FB KT _ _ (lN λd m=>?_) A⟩⟩,a,b⟩
 .obtain⟨f,g,e,rfl,_⟩:=iD (t.all d m);rfl
 .exact Dq (u.all d m)
def eS.put(h:eS H J zs pu)(m:b∈zs)(KT:gG H H')(j:Fr H' v x.1 x.2):eS H' (iI J (C6 b) v) zs (λw=>if w=b then x else pu w):=by
 have f:(J.any λc=>G9 (c.1=C6 b))=aD:=by
  obtain⟨u,g,_⟩:=h.val m;unfold dE at g;obtain⟨c,i,_⟩:=lJ.mp g;exact tN.mpr ⟨c,yz i,by have:=y4 i;exact this⟩
 unfold iI;rw[B4 f];clear f m;unfold eS at *
 induction h with
 |nil=>exact .nil
 |@cons y c zs J a r k=>
  obtain⟨e,l,ev,n⟩:=a;rw[dD];refine .cons ?_ k;by_cases d:y=b
  .subst d;rw[B4 e];exact⟨e,by dsimp only;rw[B4 O];exact j⟩
  .rw[B3 (λq=>d (by rw[e]at q;cases q;rfl))];exact⟨e,by dsimp only;rw[B3 d];exact⟨l,ev,KT _ _ n⟩⟩
def pJ(t:gz g H)(k:∀b o,H b=Z o->(∀J,o≠.dK J)->(∀us,o≠.lst us)->(∀c d f,o≠.ins c d f)->H' b=Z o):gz g H':=by
 obtain⟨ps,h,i,e⟩:=t;refine⟨ps,k _ _ h nofun nofun nofun,i,?_⟩;rcases e with e|⟨c',e,j⟩
 .exact .inl e
 .exact .inr ⟨c',e,k _ _ j nofun nofun nofun⟩
def ue.put(h:ue F pl dp lw):ue (gJ "land_now" (.ref q) F) q dp lw:=by
 refine⟨by rw[mU,B4 O],?_,?_,λm hm=>?_⟩
 .rw[mU,B3 YS];exact h.f2
 .rw[mU,B3 YS];exact h.f3
 .rw[mU,B3 (λa=>hm (by rw[a];decide +kernel))];exact h.no m hm
def LQ{zs:L9}{i:Nat}{a:aA}(b:zs.Nodup)(e:zs[i]?=Z a):a∉zs.take i:=by
 intro m;obtain⟨j,f,c⟩:=List.mem_take_iff_getElem.mp m;obtain⟨hi,d⟩:=cR.mp e;have:=(tM b).mp (c.trans d.symm);omega
def lx.next(h:lx B pu zs)(g:lx (10^30) f ws)(sub:∀e∈ws,e∈zs):lx (1000*(B+10^30)) (λe=>if e∈ws then low ((pu e).1*(f e).2+-1*(f e).1*(pu e).2) ((pu e).2*(f e).2) else pu e) zs:=by
 intro e m;obtain⟨l,n,p⟩:=h e m;have t:=(h.k m).2;dsimp only;by_cases i:e∈ws
 .obtain⟨q,r,s⟩:=g e i;have u:=(g.k i).2;have o:=rX l q;rw[B4 i];generalize (pu e).1=a at *;generalize (pu e).2=b at *;generalize (f e).1=c at *;generalize (f e).2=d at *;refine⟨yg o,yf o ?_,dN (yh _ _) ?_⟩
  .rw[pd];refine Int.dvd_add ?_ ?_
   .obtain⟨k,j⟩:=n;exact⟨a*k,by rw[j];simp only[rQ,qW,tL]⟩
   .obtain⟨k,j⟩:=r;exact⟨-1*c*k,by rw[j];simp only[rQ,qW,tL]⟩
  .have h1:(a*d).natAbs<=B*1000:=by rw[rM];exact pW p YT
   have h2:(-1*c*b).natAbs<=10^30*1000:=by rw[rM];exact pW (by rw[rM,show(-1:Int).natAbs=1 from O,Nat.one_mul];exact s) YT
   have h3:=Int.natAbs_add_le (a*d) (-1*c*b);omega
 .rw[B3 i];exact⟨l,n,YT⟩
def w8(H:aC)(p dp lw l:aB)(wk:M3):Prop:=∃z us,aL z H/\z p=aF/\z dp=aF/\z lw=aF/\z l=aF/\IsL z wk us/\H lw=Z (.lst us)
inductive xP(r C Tb cV cO cS:aB)(vs:M0)(H:aC)(Q:aP)(E:dG):Prop
 |mk:∀(p dp lw pl l ly:aB)(fs gs:M3)(pu:aA->Int×Int)(wk:M3)(ws:L9)(L:Int)(es:M3)(us:M0)(B:Nat),vs=[.ref p,.ref l,.int L,.ref ly]->jP r C H p dp lw pl fs gs pu wk->H l=Z (.lst (ws.map C9))->l≠lw->1<=ws.length->ws.length<=5->ws.Nodup->(∀z∈ws,z∈fs.map aN)->fC L=aD->H ly=Z (.lst us)->IsL H es us->es.length<=100->gz Tb H->lx B pu (fs.map aN)->B<=10^56->wk.length<=50->w8 H p dp lw l wk->(((es.map (gK (fs.map aN))).all id=aK->∀H',aL H H'->E (.ref cV) aF H'))->(∀ys,es=ys.map E8->(∀y∈ys,y∈fs.map aN)->(2*sB fs ys<=sE fs->∀H',iH Tb H H'->gz Tb H'->E (.ref cO) aF H') /\
  (¬2*sB fs ys<=sE fs->(∀i z,ws[i]?=Z z->oh pu (kq (bD fs gs L) ws) z=aD->(∀y∈ws.take i,oh pu (kq (bD fs gs L) ws) y=aK)->∀d H',iH Tb H H'->gz Tb H'->H' d=Z (rx d "field" (.str z))->E (.ref cS) (Z d) H') /\
   ((∀z∈ws,oh pu (kq (bD fs gs L) ws) z=aK)->∀(pl':aB)(ff:dX)(R Bk:L9)(H':aC),Stream ("sea" :: fs.map aN) (bD fs gs L) ws ff->nU (bD fs gs L) ff ws R Bk->jP r C H' p dp lw pl' fs (mi gs ((iE (bD fs gs L) R Bk).map (kD L))) (λz=>if z∈ws then low ((pu z).1*(kq (bD fs gs L) ws z).2+-1*(kq (bD fs gs L) ws z).1*(pu z).2) ((pu z).2*(kq (bD fs gs L) ws z).2) else pu z) (wk++[.tup [.lst (ws.map E8),.int L,.int (val (bD fs gs L) ff)]])->lx (1000*(B+10^30)) (λz=>if z∈ws then low ((pu z).1*(kq (bD fs gs L) ws z).2+-1*(kq (bD fs gs L) ws z).1*(pu z).2) ((pu z).2*(kq (bD fs gs L) ws z).2) else pu z) (fs.map aN)->(∀b o,H b=Z o->b≠p->b≠dp->b≠lw->b≠Tb->H' b=Z o)->gz Tb H'->w8 H' p dp lw l (wk++[.tup [.lst (ws.map E8),.int L,.int (val (bD fs gs L) ff)]])->Q (.int (val (bD fs gs L) ff)) H')))->xP r C Tb cV cO cS vs H Q E
def XQ(T:Txt K mg C)(TB:nh K mg b_ "lists_of_places" dv N)(dw:mg "Moot"=Z (.ref r))(dy:mg "NoVoice"=Z (.ref bq))(dz:mg "Outvoted"=Z (.ref br))(dF:mg "Short"=Z (.ref bs)):BK P w K mg b_ 11 "Moot.move" AG ["self","fields","height","yes","land","share_of","told","name"] ["self","fields","height","yes"] (xP r C N bq br bs):=by
 obtain⟨fO,aq,cr,cs,bu,dK,fT,g0,g1,g2,g3,g4⟩:=T.Ze;rw[dw]at cr;cases cr;refine⟨λvs H Q E h=>?_,λf g5 A o_ s H vs Q E ae h=>?_⟩
 .obtain⟨p,dp,lw,pl,l,aR,fs,gs,pu,wk,ws,L,es,us,B,rfl,_⟩:=h;rfl
 obtain⟨p,dp,lw,pl,l,aR,fs,gs,pu,wk,ws,y,es,us,B,rfl,M,b0,g6,D,ct,bf,sub,b1,bv,cu,le,tb,bg,cv,g7,⟨z,e5,s1,e6,e7,e8,e9,cw,cx⟩,eb,q⟩:=h;have bw:=jT ae;have L:=M.lnd;obtain⟨dx,F,J,b2,H0,bh,bx,g8,b3,fr,bi,cy,cz,ec,ed,ee,cI⟩:=id M;rw[bi]at cx;have ef:e5=b2:=by cases cx;rfl
 rw[ef]at cw;refine⟨_,(bC (cF (i:=4) uM.nd O YU (lG (pv 0) O)) (bC (jR (bU (xg T) ae (aG (pv 4) (aG (pv 1) (aG (pv 2) aM))))) (bC (jR (Ai (Xa T dy) (ae.mono YR) zI (aG (pv 4) (aG (pv 3) aM)))) (bC (cF (i:=5) uM.nd O YU (bU (LO T TB) ae (aG (pv 4) (aG (pv 1) (aG (pv 2) aM))))) (bC (jR (Ai (Xz T dz) (ae.mono YR) zI (aG (pv 4) (aG (pv 3) aM)))) (bC (jR (Ai (Xg T dF) (ae.mono YR) zI (aG (lG (pv 0) O) (aG (pv 5) aM)))) (bC (cF (i:=6) uM.nd O YU (bU (AM T) ae (aG (pv 4) (aG (pv 1) (aG (pv 2) aM))))) (bC (td (pv 0) (pi T.ad (XA T) (ae.mono YR) (pv 4) (aG (xt 6) aM)) O) (bC (kE vt.leaving O (Er (pv 5)) (cM (i:=7) uM.nd O YU) (bG (vl bw (lG (pv 0) O) (pv 7) (bU (On T) ae (aG (iZ bw (lG (pv 0) O) (pv 7) (λ_ _=>O)) (aG (iZ bw (pv 5) (pv 7) (λ_ _=>O)) aM))) O))) (bC (jR (lS lT mq mo mC (lG (pv 0) O) (aG (gF (aG (iX (xn (K:=K) O) O T.q72 lM (aG (pv 1) aM)) (aG (pv 2) (aG (xt 6) aM)))) aM))) (bG (cH (xt 6))))))))))))),_,O,p,r,dx,F,_,O,bh,aq,cs,bx.f1,_,O,_,O,_,O,_,_,_,O,pl,l,fs,gs,ws,y,O,L,O,b0,D,bf,sub,O,b1,λz b4=>⟨_,O,_,O,pl,aR,fs,gs,es,us,O,L.same b4,b4 _ _ bv,D2 b4 _ _ cu,le,λH2 cL=>?_⟩⟩;unfold s4;cases cO:(es.map (gK (fs.map aN))).all id with
 |false=>exact eb cO H2 (b4.trans cL)
 |true=>
  rw[B4 O];obtain⟨bj,cS⟩:=ET (show es.all (gK (fs.map aN))=aD by rw[←cO,rR];rfl);generalize rq es=ys at bj cS;obtain⟨eg,eh⟩:=q ys bj cS;have ar:=b4.trans cL;have cT:gz N H2:=F1 tb ar;refine⟨_,O,_,O,_,O,_,_,_,O,pl,l,fs,gs,ws,y,O,L.same ar,O,ar _ _ b0,D,ct,bf,sub,O,b1,cT,λU kS bz KB ei ej ek shr=>?_⟩;have cV:iH N H bz:=λb o n e=>KB b o n (ar _ _ e);have d0:dU C bz pl fs gs:=Bt KB cT (L.same ar);have el:∀{G:aC},gz N G->∃ps,G N=Z (.tbl ps):=λh=>⟨_,h.choose_spec.1⟩
  obtain⟨g9,bR⟩:=el tb;have as:∀{b:aB} {o:cY},H b=Z o->(∀ps,o≠.tbl ps)->b≠N:=λe n u=>by rw[u,bR]at e;exact n _ (eA e).symm
  have en:bz aR=Z (.lst (ys.map C9)):=by
   rw[cV _ _ (as bv (λ_ u=>by cases u)) bv,E0 (show IsL H (ys.map E8) us by rw[←bj];exact cu)]
  refine⟨_,O,_,O,pl,aR,fs,gs,ys,O,d0,en,by rw[bj,aS]at le;exact le,λa1 b5=>?_⟩;have af:iH N H a1:=λb o n e=>b5 _ _ (cV b o n e);have c0:gz N a1:=F1 ei b5;unfold s4;cases b6:G9 (2*sB fs ys<=sE fs) with
  |true=>exact eg (B2 b6) a1 af c0
  |false=>
   rw[show(!aK)=aD from O,B4 O];obtain⟨eo,ep⟩:=eh (B8 b6);have eq:=d0.same b5;have c1:=af _ _ (as bh (λ_ u=>by cases u)) bh;have d1:=af _ _ (as b3 (λ_ u=>by cases u)) b3;have er:=af _ _ (as bi (λ_ u=>by cases u)) bi;have et:=af _ _ (as b0 (λ_ u=>by cases u)) b0;have eu:gG H a1:=λb xs e=>af _ _ (as e (λ_ u=>by cases u)) e;have d2:=fr.same eu;have b7:=b5 _ _ ek;have c2:H U=aF:=ar.free ej;have c3:eS a1 kS ws (kq (bD fs gs y) ws):=eS.same (λb xs e=>b5 _ _ e) shr;have au:=(fV L).1;have bk:=(fV L).2;have ew:D3∉ws:=λm=>by
    obtain⟨d,ex,e⟩:=cG.mp (sub _ m);obtain⟨u,g,ga,rfl,ey,_⟩:=iD (au.all d ex);have:u=D3:=e;subst this;exact B6 ey YS
   have bl:=wP au bk b1 D ct ew;have c4:dp≠U:=λu=>by rw[u,c2]at b3;cases b3
   refine⟨_,O,p,r,dx,F,_,O,c1,aq,bu,bx.f2,_,O,dp,U,J,kS,fs.map aN,ws,pu,_,O,.inl d1,d2,b7,c4,c3,bg.ln (dN cv YS),bl.ln YS,sub,λo=>⟨λez=>?_,λi u av eC eD d b6=>?_⟩⟩;rotate_left
   .have eH:∀{b:aB} {x:cY},H b=Z x->b≠N->b≠d:=λe n u=>by
     rw[u]at e n;have:=af _ _ n e;rw[b6]at this;cases this
    refine eo i u av eC eD d _ (λb x n e=>?_) ?_ aV
    .rw[bA (eH e n),bA (λu=>by rw[u,c2]at e;cases e)];exact af b x n e
    .exact pJ c0 λb x e n _ _=>by
      rw[bA (λu=>by rw[u,b6]at e;cases e),bA (λu=>by rw[u,b7]at e;exact n _ (eA e).symm)];exact e
   have al:∀b x,a1 b=Z x->b≠U->aI a1 U (.frz o (.dK kS)) b=Z x:=λb x e n=>by rw[bA n];exact e
   have eT:aI a1 U (.frz o (.dK kS)) U=Z (.frz o (.dK kS)):=aV;have b8:∀{b:aB} {x:cY},H b=Z x->b≠U:=λe u=>by rw[u,c2]at e;cases e
   have eX:pl≠p:=λu=>by
    obtain⟨⟨_,_,_,e,_⟩,_⟩:=ee;rw[u,cz]at e;cases e
   have c5:dU C (aI a1 U (.frz o (.dK kS))) pl fs gs:=zL eq eX c1 b7 c3 D λb x e _ I _ _=>al b x e I;have eY:gz N (aI a1 U (.frz o (.dK kS))):=pJ c0 λb x e n _ _=>al b x e (λu=>by rw[u,b7]at e;exact n _ (eA e).symm);have f0:∀b x,b≠N->H b=Z x->aI a1 U (.frz o (.dK kS)) b=Z x:=λb x n e=>al _ _ (af b x n e) (b8 e);have d3:=al _ _ et (b8 b0);have d4:=al _ _ c1 (b8 bh);have f1:=al _ _ d1 (b8 b3);have f2:=al _ _ er (b8 bi);have d5:gG a1 (aI a1 U (.frz o (.dK kS))):=λb xs e=>al _ _ e (λu=>by rw[u,b7]at e;cases e);have f3:=d2.same d5;have f4:=c3.same d5;generalize aI a1 U (.frz o (.dK kS))=gb at *;refine⟨_,O,_,O,_,O,_,_,_,O,pl,l,fs,gs,ws,y,O,c5,O,d3,D,bf,sub,O,b1,λt lk gc f5 gd aw R ax gf bm gg gh gi gj d6 f6 f7 gk gl st d7=>?_⟩;have f8:=oU au bk y;have f9:=xv bk b1 f8 (R:=R) (B:=ax) d7.bout;obtain⟨fa,gm,a4,fb,_⟩:=(c5.same bm).ex;have fc:((iE (bD fs gs y) R ax).map (kD y)).length<=1000:=by
    have h1:=u8 fs gs y;have h2:=CU (G:=bD fs gs y) (R:=R) (B:=ax);have h3:=bk.l2;rw[aS];omega
   refine⟨_,O,pl,fa,_,O,fb,jQ _ _ YS YS,_,O,t,_,1,.ref lk,O,O,D0 d6,bZ (j:=1) O,_,_,O,pl,fs,gs,_,O,c5.same bm,⟨lk,f5,O,f6,f7⟩,fc,f9,λay a5 d8 d9 fd=>?_⟩;have ag:=bm.trans d8;have c6:=ag _ _ d4;have c7:=ag _ _ f1;have da:=ag _ _ f2;have db:=ag _ _ d3;have dc:=ag _ _ eT;have dd:=d8 _ _ d6;have de:=f3.same (sX ag);have fe:=f4.same (sX ag);have ff:gz N a5:=F1 eY ag;have fg:∀b x,b≠N->H b=Z x->a5 b=Z x:=λb x n e=>ag _ _ (f0 b x n e);have df:ay≠p:=λu=>by rw[u,bm _ _ d4]at d9;cases d9
   refine⟨_,O,p,r,dx,F,O,c6,aq,cs,YT,?_⟩;have b9:=bx.put (q:=ay);have fh:=vk "land_now" (.ref ay) F;generalize gJ "land_now" (.ref ay) F=a6 at b9 fh ⊢;have ah:∀b x,a5 b=Z x->b≠p->aI a5 p (.ins r dx a6) b=Z x:=λb x e n=>by rw[bA n];exact e
   have am:aI a5 p (.ins r dx a6) p=Z (.ins r dx a6):=aV;have np:∀{b:aB} {x:cY},a5 b=Z x->(∀c d f,x≠.ins c d f)->b≠p:=λe n u=>by rw[u,c6]at e;exact n _ _ _ (eA e).symm
   have ai:=ah _ _ c7 (np c7 (λ_ _ _ u=>by cases u));have ba:=ah _ _ da (np da (λ_ _ _ u=>by cases u));have c8:=ah _ _ db (np db (λ_ _ _ u=>by cases u));have c9:=ah _ _ dc (np dc (λ_ _ _ u=>by cases u));have ca:=ah _ _ dd (np dd (λ_ _ _ u=>by cases u));have dg:gG a5 (aI a5 p (.ins r dx a6)):=λb xs e=>ah _ _ e (np e (λ_ _ _ u=>by cases u));have dh:=de.same dg;have cb:=fe.same dg;have di:dU C (aI a5 p (.ins r dx a6)) ay fs (mi gs ((iE (bD fs gs y) R ax).map (kD y))):=zL fd df c6 c7 de (by rw[aS];exact au.l1) λb x e n _ _ _=>ah b x e n;have fi:gz N (aI a5 p (.ins r dx a6)):=pJ ff λb x e _ _ n=>ah b x e (np e n);have cc:∀b x,b≠N->b≠p->H b=Z x->aI a5 p (.ins r dx a6) b=Z x:=λb x D I e=>ah _ _ (fg b x D e) I;generalize aI a5 p (.ins r dx a6)=bn at *;generalize fj:mi gs ((iE (bD fs gs y) R ax).map (kD y))=gn at di;generalize fk:kq (bD fs gs y) ws=a0 at *;have fl:kS.length=ws.length:=by have:=B7 m8 cb.key;rwa [aS,aS]at this
   have fm:∀{G:aC} {an:List (aT×V)} {cd:aA->Int×Int},eS G an (fs.map aN) cd->an.length<cP:=λh=>by
    have:=h.len;have:=au.l2;rw[aS]at *;rw[jC];omega
   refine⟨_,O,U,o,kS,O,c9,x2 (λi Y H'=>vF λ(ce:Option V)(an:List (aT×V))=>Y=[Z (.ref p),Z (.ref l),Z (.int y),Z (.ref aR),Z (.ref pl),Z (.ref U),Z (.ref t),ce]/\(∀b x,bn b=Z x->b≠dp->H' b=Z x)/\H' dp=Z (.dK an)/\eS H' an (fs.map aN) (λu=>if u∈ws.take i then low ((pu u).1*(a0 u).2+-1*(a0 u).1*(pu u).2) ((pu u).2*(a0 u).2) else pu u)) ⟨_,J,O,λ_ _ e _=>e,ai,by simpa using dh⟩ (λi Y H' _ ⟨_,_,_,k,_⟩=>k _ _ c9 (λu=>c4 u.symm)) ?_ ?_⟩
   .rintro i an Y H' dj ⟨ce,bb,rfl,a3,a7,az⟩;obtain⟨u,av⟩:∃u,ws[i]?=Z u:=⟨_,cJ (by have:=(cR.mp dj).1;omega)⟩
    have fn:an.1=C6 u:=by
     have h:=B7 (λl=>l[i]?) cb.key;simp only[dB,dj,av]at h;exact eA h
    have ao:=dM av;have fo:u∉ws.take i:=LQ bf av;have a8:=a3 _ _ am (λe=>by rw[e,ai]at am;cases am);have fp:gG bn H':=λb xs e=>a3 _ _ e (λu=>by rw[u,ai]at e;cases e);obtain⟨a,ea,dk⟩:=az.val (sub u ao);rw[B3 fo]at dk;obtain⟨b,fq,ft⟩:=(cb.same fp).val ao;obtain⟨s1,go,fu⟩:=bl u ao;have dm:=bl.k ao;have dq:=bg.k (sub u ao);rw[fn];refine⟨_,O,p,r,dx,a6,_,O,a8,aq,bu,b9.f2,_,O,dp,a,O,.inl ⟨bb,C6 u,.inl a7,O,ea.symm⟩,_,O,_,O,U,b,O,.inl ⟨kS,C6 u,.inr ⟨o,a3 _ _ c9 (λu=>c4 u.symm)⟩,O,fq.symm⟩,_,_,O,_,_,_,_,dk,ft,dN (bg u (sub u ao)).2.2 (dN cv YS),dN fu YS,dq.1,dq.2,dm.1,dm.2,λv dr bc fv=>⟨_,O,p,r,dx,a6,_,O,bc _ _ a8,aq,bu,b9.f2,_,O,dp,_,O,qb.k (k:=C6 u) (bc _ _ a7) (fm az),?_⟩⟩;obtain⟨lt,ev,cf⟩:=fv;have fw:lt≠dp:=λe=>by rw[e,bc _ _ a7]at cf;cases cf
    have fx:∀b x,bn b=Z x->b≠dp->aI dr dp (.dK (iI bb (C6 u) v)) b=Z x:=λb x e n=>by rw[bA n];exact bc _ _ (a3 _ _ e n)
    refine⟨_,_,O,fx,aV,?_⟩;have ds:=az.put (x:=low ((pu u).1*(a0 u).2+-1*(a0 u).1*(pu u).2) ((pu u).2*(a0 u).2)) (H':=aI dr dp (.dK (iI bb (C6 u) v))) (sub u ao) (λb xs e=>by rw[bA (λu=>by rw[u,a7]at e;cases e)];exact bc _ _ e) ⟨lt,ev,by rw[bA fw];exact cf⟩;have fy:(λw=>if w=u then low ((pu u).1*(a0 u).2+-1*(a0 u).1*(pu u).2) ((pu u).2*(a0 u).2) else if w∈ws.take i then low ((pu w).1*(a0 w).2+-1*(a0 w).1*(pu w).2) ((pu w).2*(a0 w).2) else pu w)=λw=>if w∈ws.take (i+1) then low ((pu w).1*(a0 w).2+-1*(a0 w).1*(pu w).2) ((pu w).2*(a0 w).2) else pu w:=by
     funext w
     rw[dR,av];by_cases cg:w=u
     .subst cg;rw[B4 O,B4 (jV (ws.take i) (show w∈(Z w).toList from eB))]
     .rw[B3 cg];by_cases hi:w∈ws.take i
      .rw[B4 hi,B4 (o1 _ hi)]
      .rw[B3 hi,B3 (λh=>by rcases gN.mp h with h|h;exact hi h;exact cg (eU.mp h))]
    rw[fy]at ds;exact ds
   .rintro Y H' ⟨ce,bb,rfl,a3,a7,az⟩;rw[fl,dP (bQ _)]at az;have a8:=a3 _ _ am (λe=>by rw[e,ai]at am;cases am);have aa:=a3 _ _ ba (λe=>by rw[e,ai]at ba;cases ba);have ch:=a3 _ _ c8 (λe=>by rw[e,ai]at c8;cases c8);have bo:=a3 _ _ ca (λe=>by rw[e,ai]at ca;cases ca);refine⟨_,O,p,r,dx,a6,_,O,a8,aq,dK,b9.f3,.inl ⟨O,_,C8 aa⟩,_,O,l,_,O,.inl (C8 ch),λa4 dt=>?_⟩;have ci:=C7 (o:=.lst (ws.map C9)) dt;refine⟨_,O,_,O,t,_,0,_,O,O,D0 (ci _ _ bo),bZ (j:=0) O,dA O,λaj cj=>?_⟩;have ac:=ci.trans (C7 (o:=.tup [.ref a4,.int y,.int (val (bD fs gs y) aw)]) cj);have ck:=C7 (o:=.tup [.ref a4,.int y,.int (val (bD fs gs y) aw)]) cj _ _ (aV (H:=H') (a:=a4) (o:=.lst (ws.map C9)));have cm:aI (aI H' a4 (.lst (ws.map C9))) aj (.tup [.ref a4,.int y,.int (val (bD fs gs y) aw)]) aj=Z (.tup [.ref a4,.int y,.int (val (bD fs gs y) aw)]):=aV;generalize aI (aI H' a4 (.lst (ws.map C9))) aj (.tup [.ref a4,.int y,.int (val (bD fs gs y) aw)])=a9 at ac ck cm ⊢;refine⟨lw,b2,_,O,O,ac _ _ aa,by rw[cI.length,jC];omega,?_⟩;have ap:∀b x,a9 b=Z x->b≠lw->aI a9 lw (.lst (b2++[.ref aj])) b=Z x:=λb x e n=>by rw[bA n];exact e
    have fz:t≠lw:=λe=>by rw[e,aa]at bo;cases bo
    refine⟨_,O,t,_,0,_,O,O,D0 (ap _ _ (ac _ _ bo) fz),bZ (j:=0) O,?_⟩;have a2:∀{b:aB} {x:cY},H' b=Z x->b≠a4/\b≠aj:=λe=>⟨(λu=>by rw[u,dt]at e;cases e),(λu=>by rw[u]at e;have:=ci _ _ e;rw[cj]at this;cases this)⟩
    have cd:p≠lw:=λu=>by rw[u,aa]at a8;cases a8
    have fI:dp≠lw:=λu=>by rw[u,aa]at a7;cases a7
    have du:∀{b:aB} {x:cY},bn b=Z x->b≠dp->b≠lw->aI a9 lw (.lst (b2++[.ref aj])) b=Z x:=λe n m=>ap _ _ (ac _ _ (a3 _ _ e n)) m;have bd:∀{b:aB} {x:cY},a9 b=Z x->b≠p->b≠dp->b≠lw->(if b=p\/b=dp\/b=lw then aF else a9 b)=Z x:=λe D I ak=>by
     rw[B3 (λh=>by rcases h with h|h|h;exact D h;exact I h;exact ak h)];exact e
    subst fj;subst fk;refine ep ez ay aw R ax _ st d7 ⟨dx,a6,bb,b2++[.ref aj],(λb=>if b=p\/b=dp\/b=lw then aF else a9 b),ap _ _ (ac _ _ a8) cd,b9,by rw[eW,lV];omega,ap _ _ (ac _ _ a7) fI,eS.same (λb xs e=>ap _ _ (ac _ _ e) (λu=>by rw[u,aa]at e;cases e)) az,aV,λb x e=>?_,B4 YU,B4 (.inr YU),B4 (.inr (.inr O)),?_,D9 ?_ ?_⟩ (bg.next bl sub) (λb x e D I ak be=>du (cc b x be D e) I ak) ?_ ?_
    .have e:(if b=p\/b=dp\/b=lw then aF else a9 b)=Z x:=e;by_cases h:b=p\/b=dp\/b=lw
     .rw[B4 h]at e;cases e
     .rw[B3 h]at e;exact ap _ _ e (λu=>h (.inr (.inr u)))
    .exact zL di df am ai dh (by rw[aS];exact au.l1) λb x e D I bp _=>bd (ac _ _ (a3 _ _ e I)) D I (λu=>by rw[u,ba]at e;exact bp _ (eA e).symm)
    .have cn:∀(G:aC)(zs:L9),IsL G (zs.map E8) (zs.map C9):=λG zs=>by
      induction zs with
      |nil=>rfl
      |cons u zs co=>exact⟨.str u,_,O,O,co⟩
     exact⟨aj,_,O,bd cm (a2 a8).2.symm (a2 a7).2.symm (a2 aa).2.symm,_,_,O,⟨a4,_,O,bd ck (a2 a8).1.symm (a2 a7).1.symm (a2 aa).1.symm,cn _ _⟩,_,_,O,O,_,_,O,O,O⟩
    .refine F8 (λb x e cp=>?_) _ _ cI;have cq:b≠N:=λu=>by
      have:=cy _ _ e;rw[u,bR]at this;cases this;cases cp
     have D:b≠p:=λu=>by rw[u,cz]at e;cases e
     have I:b≠dp:=λu=>by rw[u,ec]at e;cases e
     have ak:b≠lw:=λu=>by rw[u,ed]at e;cases e
     exact bd (ac _ _ (a3 _ _ (cc _ _ cq D (cy _ _ e)) I)) D I ak
    .exact pJ fi λb x e D I _=>du e (λu=>by rw[u,ai]at e;exact D _ (eA e).symm) (λu=>by rw[u,ba]at e;exact I _ (eA e).symm)
    .have cn:∀(G:aC)(zs:L9),IsL G (zs.map E8) (zs.map C9):=λG zs=>by
      induction zs with
      |nil=>rfl
      |cons u zs co=>exact⟨.str u,_,O,O,co⟩
     have dl:∀{b:aB} {x:cY},a9 b=Z x->b≠p->b≠dp->b≠lw->b≠l->kQ l (λb=>if b=p\/b=dp\/b=lw then aF else a9 b) b=Z x:=λe D I ak be=>Sy (bd e D I ak) be;refine⟨kQ l (λb=>if b=p\/b=dp\/b=lw then aF else a9 b),_,λb x e=>?_,?_,?_,?_,GO,D9 ?_ ?_,aV⟩
     .by_cases bp:b=l
      .rw[bp,GO]at e;cases e
      .have e:(if b=p\/b=dp\/b=lw then aF else a9 b)=Z x:=by unfold kQ at e;rw[B3 bp]at e;exact e
       by_cases h:b=p\/b=dp\/b=lw
       .rw[B4 h]at e;cases e
       .rw[B3 h]at e;exact ap _ _ e (λu=>h (.inr (.inr u)))
     .unfold kQ;split
      .rfl
      .exact B4 YU
     .unfold kQ;split
      .rfl
      .exact B4 (.inr YU)
     .unfold kQ;split
      .rfl
      .exact B4 (.inr (.inr O))
     .exact⟨aj,_,O,dl cm (a2 a8).2.symm (a2 a7).2.symm (a2 aa).2.symm (a2 ch).2.symm,_,_,O,⟨a4,_,O,dl ck (a2 a8).1.symm (a2 a7).1.symm (a2 aa).1.symm (a2 ch).1.symm,cn _ _⟩,_,_,O,O,_,_,O,O,O⟩
     .refine F8 (λb x e cp=>?_) _ _ cw;have cq:b≠N:=λu=>by
       have:=s1 _ _ e;rw[u,bR]at this;cases this;cases cp
      have D:b≠p:=λu=>by rw[u,e6]at e;cases e
      have I:b≠dp:=λu=>by rw[u,e7]at e;cases e
      have ak:b≠lw:=λu=>by rw[u,e8]at e;cases e
      have be:b≠l:=λu=>by rw[u,e9]at e;cases e
      exact dl (ac _ _ (a3 _ _ (cc _ _ cq D (s1 _ _ e)) I)) D I ak be
def Pl{j n:Nat}(h:j<n):PySem.seqIndex? (j:Int) n=Z j:=by
 unfold PySem.seqIndex?;have a:¬(j:Int)<0:=YT;have h1:(G9 (0<=(j:Int))&&G9 ((j:Int)<(n:Int)))=aD:=by rw[B0 YT,B0 YT];rfl
 simp only[B3 a];rw[B4 h1,qN]
theorem Dp{q p:Type}(f:q->p):∀(l:List q)(k:Nat),(l.map f).eraseIdx k=(l.eraseIdx k).map f
 |[],_=>rfl
 |x::l,0=>rfl
 |x::l,k+1=>by
  show f x::(l.map f).eraseIdx k=f x::(l.eraseIdx k).map f;rw[Dp f l k]
theorem Ct{q:Type}:∀(l:List q)(k:Nat)(h:k<l.length),(l[k]::l.eraseIdx k).Perm l
 |x::l,0,_=>.refl _
 |x::l,k+1,h=>by
  show(l[k]'(by simpa using h)::x::l.eraseIdx k).Perm (x::l);exact(List.Perm.swap _ _ _).trans ((Ct l k (by simpa using h)).cons x)
inductive Lb(x y u:V)(H:aC)(Q:aP):Prop
 |mk:∀(m:Int)(l:aB)(vf:M0)(fs:M3),x=.int m->0<=m->y=.ref l->H l=Z (.lst vf)->IsL H fs vf->tY fs 6->u=.int 5->(∀(lw:aB)(zs:L9)(H':aC),aL H H'->H' lw=Z (.lst (zs.map C9))->H lw=aF->1<=zs.length->zs.length<=5->zs.Nodup->(∀z∈zs,z∈fs.map aN)->Q (.ref lw) H')->Lb x y u H Q
def FX:bW:=kU (Lb)
def PD(T:Txt K mg C):aY P w K mg b_ 1 "_law_wish" ["_law_cell","_law_fields_here","_law_most"] FX:=by
 refine T.q46.fc uW lA ?_;rintro f ao A o_ s H vs Q E ap ⟨x,y,u,rfl,m,l,vf,fs,rfl,ac,rfl,J,hi,D,rfl,q⟩;have aq:=fJ;refine⟨_,(bC (sM (i:=3) uW.nd O ["_law_field"] 1 [] O (eV (pv 1)) (λR=>cM (i:=0) (YS:eQ (["_law_field"]:L9)) O YU) (fD YR) (λR=>gQ) (λR=>(xt 0))) (bC (cF (i:=4) uW.nd O YU (gX aM)) (bC (kE jF O (qf O T.q75 (aG (bK lm bB (bK gR (pv 0) (dH (xK O) O T.q74 uZ (aG (pv 2) (aG (dH (kB (K:=K) O) O T.q71 iY (aG (pv 1) aM)) aM))))) aM)) (cM (i:=5) uW.nd O YU) (bC (cF (i:=0) uW.nd O YU (bK iL (pv 0) bB)) (bG (jR (lS lT mq mo mC (pv 4) (aG (lS lT PySem.F.slot_list_pop PySem.F.type_list_pop Ey (pv 3) (aG (bK gR (pv 0) (dH (kB (K:=K) O) O T.q71 iY (aG (pv 3) aM))) aM)) aM)))))) (bG (cH (pv 4)))))),?_⟩;have f1:=D.l1;have f2:=D.l2;have ar:=hi.length;refine⟨_,O,l,O,⟨_,C8 J⟩,?_⟩;refine fU (F:=K) (xs:=vf) YT (λi ys H'=>H=H'/\ys=((fs.take i).map aN).map C9) ⟨O,O⟩ ?_ ?_ ?_
 .rintro i ys H' ae ⟨rfl,rfl⟩;exact⟨C8 J,by rw[aS,aS,dY];omega⟩
 .rintro i as ys H' au av a2 ⟨rfl,rfl⟩ k1 k2;have aw:i<vf.length:=(cR.mp a2).1;obtain⟨d,L⟩:∃d,fs[i]?=Z d:=⟨_,cJ YT⟩
  obtain⟨v,ev,af⟩:=hi.get L;rw[a2]at ev;cases ev;obtain⟨B,g,e,rfl,_⟩:=iD (D.all d (dM L));obtain⟨t,rfl,o⟩:=oR af;refine⟨_,O,t,_,0,.str B,O,O,D0 o,bZ (j:=0) O,k1 _ _ ⟨O,?_⟩⟩;rw[dR,L];simp[aN,gY]
 rintro ys H' ⟨rfl,rfl⟩;rw[dP YT];intro p a3;have M:=C7 (o:=.lst ((fs.map aN).map C9)) a3;have G:aI H p (.lst ((fs.map aN).map C9)) p=Z (.lst ((fs.map aN).map C9)):=aV;generalize aI H p (.lst ((fs.map aN).map C9))=z at M G;refine l6 (σ':=[Z (.int m),Z (.ref l),Z (.int 5),Z (.ref p),aF,aF]) O ?_;refine⟨dA O,λlf I=>?_⟩;have N:=C7 (o:=.lst []) I;have a4:aI z lf (.lst []) lf=Z (.lst (([]:L9).map C9)):=aV;generalize aI z lf (.lst [])=H2 at N a4;refine l6 (σ':=[Z (.int m),Z (.ref l),Z (.int 5),Z (.ref p),Z (.ref lf),aF]) O ?_;have a5:p≠lf:=λB=>by rw[B]at G;rw[G]at I;cases I
 have a6:=M.trans N;have a7:H lf=aF:=M.free I;obtain⟨r,ag,ax,ay,az⟩:∃r:Nat,(if (vf.length:Int)<5 then(vf.length:Int) else 5)=r/\1<=r/\r<=5/\r<=fs.length:=by
  by_cases h:(vf.length:Int)<5
  .exact⟨vf.length,by rw[B4 h],YT,YT,YT⟩
  .exact⟨5,by rw[B3 h];rfl,YT,YT,YT⟩
 refine⟨_,O,_,O,_,O,l,_,O,.inl (C8 (a6 _ _ J)),_,_,O,?_⟩;rw[ag];have aR:0<=m%(r:Int):=hW _ YT;have b0:m%(r:Int)<(r:Int):=jB _ YT;obtain⟨cnt,b1⟩:=l8 (show 0<=1+m%(r:Int) by omega);refine⟨_,_,O,O,YT,_,_,O,O,_,O,by show -(2^62)<=1+m%(r:Int);omega,by show 1+m%(r:Int)<2^62;omega,?_⟩;rw[show(1+m%(r:Int)).toNat=cnt by omega];refine qh (lo:=0) (n:=cnt) (λi Y H'=>vG λ(c:Int)(U:Option V)(a zs:L9)=>Y=[Z (.int c),Z (.ref l),Z (.int 5),Z (.ref p),Z (.ref lf),U]/\0<=c/\aL H H'/\H' p=Z (.lst (a.map C9))/\H' lf=Z (.lst (zs.map C9))/\zs.length=i/\(zs++a).Perm (fs.map aN)) ⟨m,_,fs.map aN,[],O,ac,a6,N _ _ G,a4,O,.refl _⟩ ?_ ?_
 .rintro i Y H' ae ⟨c,U,a,zs,rfl,a8,a0,h1,h2,a9,pm⟩;have ah:=pm.length_eq;rw[eW,aS]at ah;refine l6 (σ':=[Z (.int c),Z (.ref l),Z (.int 5),Z (.ref p),Z (.ref lf),Z (.int (0+(i:Int)))]) O ?_;refine⟨_,O,_,_,O,O,⟨YR,YR⟩,?_⟩;refine l6 (σ':=[Z (.int (c/7)),Z (.ref l),Z (.int 5),Z (.ref p),Z (.ref lf),Z (.int (0+(i:Int)))]) O ?_;have ai:0<=c/7:=tR a8 YR;have aa:(0:Int)<(a.length:Int):=YT;obtain⟨k,aj⟩:=l8 (hW (c/7) (show(a.length:Int)≠0 by omega));have a1:k<a.length:=by have:=jB (c/7) aa;omega
  have ak:a[k]?=Z a[k]:=cJ a1;refine⟨_,O,.inl ⟨O,_,C8 h2⟩,_,O,.inl ⟨O,_,C8 h1⟩,_,O,_,O,p,_,O,.inl (C8 h1),_,_,O,O,by rw[aS];exact aa,p,_,k,k,.str a[k],O,by rw[aS];show [D1 (c/7%(a.length:Int))]=_;rw[aj],h1,YT,YT,by rw[aS];exact Pl a1,by rw[dB,ak];rfl,?_⟩;have al:(a.map C9).eraseIdx k=(a.eraseIdx k).map C9:=Dp _ _ _;rw[al];refine⟨lf,_,_,O,O,by rw[bA (λB=>a5 B.symm)];exact h2,by rw[aS];omega,?_⟩;refine⟨c/7,_,a.eraseIdx k,zs++[a[k]],O,ai,(λb o e=>?_),by rw[bA a5,aV],by rw[aV,dJ];rfl,by rw[eW,a9];rfl,?_⟩
  .rw[bA (cX e a7),bA (cX e a3)];exact a0 _ _ e
  .refine List.Perm.trans ?_ pm;rw[oB];refine List.Perm.append_left zs ?_;exact Ct a k a1
 .rintro Y H' ⟨c,U,a,zs,rfl,a8,a0,h1,h2,a9,pm⟩;have am:(zs++a).Nodup:=pm.nodup_iff.mpr D.nd;exact⟨_,O,q lf zs H' a0 h2 a7 YT YT (v0.mp am).1 λB an=>pm.mem_iff.mp (o1 _ an)⟩
def jP.put(M:jP r C H p dp lw pl fs gs pu wk)(X:kT dp H H')(e:H' dp=Z (.dK J))(fr:eS H' J (fs.map aN) d):jP r C H' p dp lw pl fs gs d wk:=by
 obtain⟨dx,F,j,us,H0,h1,h2,l,m,x,f,s,q,g,t,L,u⟩:=M;have h:∀b o,H b=Z o->(∀k,o≠.dK k)->b≠dp:=λb o i n w=>n j (by rw[w,m]at i;cases i;rfl);exact⟨dx,F,J,us,H0,X _ _ h1 (h _ _ h1 λ_ a=>by cases a),h2,l,e,fr,X _ _ f (h _ _ f λ_ a=>by cases a),(λb o c=>X _ _ (s _ _ c) λa=>by rw[a,g]at c;cases c),q,g,t,L,u⟩
def nC(pu:aA->Int×Int)(a:aA)(c:Int)(w:aA):Int×Int:=if w=a then low ((pu a).1*1+1*c*(pu a).2) ((pu a).2*1) else pu w
inductive Kz(r C:aB)(x y u:V)(H:aC)(Q:aP):Prop
 |mk:∀(p dp lw pl:aB)(fs gs:M3)(pu:aA->Int×Int)(wk:M3)(z:aA)(c:Int),x=.ref p->jP r C H p dp lw pl fs gs pu wk->y=.str z->z∈fs.map aN->u=.int c->0<=c->c<=1000000000000->ln (pu z).1->0<(pu z).2->(pu z).2<=1000->fs.length<=12->(∀H',jP r C H' p dp lw pl fs gs (nC pu z c) wk->kT dp H H'->Q .non H')->Kz r C x y u H Q
def Te(r C:aB):bW:=kU (Kz r C)
def MZ(T:Txt K mg C)(a1:mg "Moot"=Z (.ref r)):eR P w K mg b_ 4 r "put" ["self","field","coins"] (Te r C):=by
 obtain⟨ar,j,G,a2,I,as,au,av,a3,aw,ax,ay⟩:=T.Ze;rw[a1]at G;cases G;refine a3.mc MS lA ?_;rintro f az A o_ s H vs Q E d ⟨x,y,u,rfl,p,dp,lw,pl,fs,gs,pu,wk,a,c,rfl,M,rfl,l,rfl,a9,aa,ac,ae,af,aR,q⟩;have b0:=fJ;have N:=jT d;have L:=M.lnd;obtain⟨dx,F,J,us,H0,m,n,b1,g,fr,b2,_⟩:=id M;obtain⟨ag,b3,b4,ah,_⟩:=L.ex;have ai:=fr.len;rw[aS]at ai;refine⟨_,(bC (fK (iM (gW (bU (rh T) d (aG (pv 1) (aG (jA T.ad (rg T) (d.mono YR) (lG (pv 0) O)) aM))))) (bG n8) fH) (bC (fK (iM (gW (bU (IV T) d (aG (pv 2) aM)))) (bG n8) fH) (bG (vl N (lG (pv 0) O) (pv 1) (bU (Db T) d (aG (iZ N (lG (pv 0) O) (pv 1) (λ_ _=>O)) (aG (bU (xm T) d (aG (pv 2) (aG bB aM))) aM))) O)))),_,O,_,O,p,r,dx,F,_,O,m,j,a2,n.f1,pl,ag,_,O,ah,jQ _ _ YS YS,_,O,pl,fs,gs,O,L,λln z o b5 aj=>⟨_,_,O,.str a,ln,_,O,O,C8 aj,_,O,?_⟩⟩;rw[show gK ((λfs _=>q0 aN fs) fs gs) (.str a)=aD from B0 l];refine cC ⟨_,O,_,O,.int c,O,_,O,?_⟩;have ak:om (.int c)=aD:=by
  show(G9 (0<=c)&&G9 (c<=1000000000000))=aD;rw[B0 a9,B0 aa];rfl
 rw[ak];refine cC ?_;obtain⟨v,ev,al⟩:=fr.val l;refine⟨_,O,p,r,dx,F,_,O,o _ _ m,j,I,n.f2,_,O,dp,_,O,(by rw[←ev];exact kL.k (k:=C6 a) (o _ _ g)),_,O,_,_,O,c,1,O,O,YR,YR,λb6 H2 am U=>?_⟩;rw[vn]at U;have Y:=o.trans am;refine⟨_,_,O,_,_,c,1,Fr.same Y al,U,ac,dN (show c.natAbs<=1000000000000 by omega) YS,ae,af,YR,YR,λt a0 an ao=>?_⟩;have i:=Y.trans an;refine⟨_,O,p,r,dx,F,_,O,i _ _ m,j,I,n.f2,_,O,dp,_,O,qb.k (k:=C6 a) (i _ _ g) YT,?_⟩;have B:kT dp H (aI a0 dp (.dK (iI J (C6 a) t))):=(aL.x i).put;have ap:Fr (aI a0 dp (.dK (iI J (C6 a) t))) t (low ((pu a).1*1+1*c*(pu a).2) ((pu a).2*1)).1 (low ((pu a).1*1+1*c*(pu a).2) ((pu a).2*1)).2:=by
  obtain⟨aq,rfl,D⟩:=ao;exact⟨aq,O,by rw[bA (YH D (i _ _ g))];exact D⟩
 exact q _ (M.put B aV (fr.put l (λb xs e=>B _ _ e λk=>by rw[k,g]at e;cases e) ap)) B
def Np(T:Txt K mg C):aY P w K mg b_ 1 "_law_divisor" ["_law_one","_law_other"] wY:=by
 refine T.q47.fc Lj fZ ?_;rintro f o A o_ s H vs Q E p ⟨x,y,rfl,i,j,rfl,rfl,q⟩;refine⟨_,(bC (u5 jF (fG uy (pv 1) bB (eO _)) (bG (Tj (i:=0) (j:=1) O Lj.nd O O YR O O (aG (pv 1) (aG (bK gR (pv 0) (pv 1)) aM)) O))) (bG (cH (pv 0)))),u2 (λY H'=>∃(a b:Nat),Y=[Z (.int a),Z (.int b)]/\H'=H/\Nat.gcd a b=Nat.gcd i j) (λY _=>match Y with|[_,Z (.int b)]=>b.toNat|_=>0) ⟨i,j,O,O,O⟩ ?_ ?_⟩
 .rintro Y H' ⟨a,b,rfl,rfl,e⟩;refine⟨_,O,_,_,O,O,_,O,?_⟩;by_cases l:b=0
  .subst l;rw[Nat.gcd_zero_right]at e;refine cC ⟨_,O,?_⟩;rw[e];exact q
  .obtain⟨c,d,g⟩:=EH (a:=a) l;have m:G9 ((b:Int)>0)=aD:=B0 YT;rw[m];refine dO ⟨_,O,_,O,_,O,_,_,O,O,YT,_,_,O,⟨b,a%b,?_,O,by rw[d,e]⟩,?_⟩
   .show [Z (D1 b),Z (D1 ((a:Int)%(b:Int)))]=_;rw[c]
   .show((a:Int)%(b:Int)).toNat<b;rw[c];exact g
 .intro Y H Q r h n;obtain⟨v,e,i,j,c,g,k,d,q⟩:=n;exact⟨v,e,i,j,c,g,k,d,h _ _ q⟩
def NM(T:Txt K mg C):aY P w K mg b_ 2 "_law_lowest" ["_law_top","_law_bottom"] ry:=by
 refine T.q48.fc LD fZ ?_;rintro f o A o_ s H vs Q E j ⟨x,y,rfl,a,b,rfl,rfl,c,k,q⟩;obtain⟨n,rfl,l⟩:=Fz (a:=a) c;have d:=vo (a:=a) c;have e:=GG (a:=a) c k;refine⟨_,(bC (cF (i:=2) LD.nd O YU (bU (Np T) j (aG (dH EQ O T.q64 DC (aG (pv 0) aM)) (aG (pv 1) aM)))) (bG (cH (gF (aG (bK iL (pv 0) (pv 2)) (aG (bK iL (pv 1) (pv 2)) aM)))))),_,O,_,O,_,O,_,_,O,a.natAbs,n,by rw[FP],O,?_⟩;rw[l];exact⟨_,O,_,O,_,_,O,O,⟨d,e⟩,_,O,_,O,_,_,O,O,⟨d,e⟩,dA O,λp m=>q _ _ (C7 m) ⟨p,O,aV⟩⟩
def iQ(t p:Int×Int):Int×Int:=low (t.1*p.2+p.1*t.2) (t.2*p.2)
def ml(B:Nat)(t:Int×Int):Prop:=0<t.2/\t.2∣720/\t.1.natAbs<=B
def ml.k(h:ml B t):t.2<=1000:=pb (Int.le_of_dvd YR h.2.1) YR
def ml.add(h:ml B t)(g:ml D p):ml (1000*(B+D)) (iQ t p):=by
 obtain⟨i,j,l⟩:=id h;obtain⟨m,n,o⟩:=id g;have q:=h.k;have r:=g.k;obtain⟨a,b⟩:=t;obtain⟨c,d⟩:=p;dsimp only at *;have f:=rX i m;refine⟨yg f,yf f ?_,dN (yh _ _) ?_⟩
 .show b*d∣(a*d+c*b)*720;rw[pd];refine Int.dvd_add ?_ ?_
  .obtain⟨k,e⟩:=j;exact⟨a*k,by rw[e];simp only[rQ,qW,tL]⟩
  .obtain⟨k,e⟩:=n;exact⟨c*k,by rw[e];simp only[rQ,qW,tL]⟩
 .show(a*d+c*b).natAbs<=_;have h1:(a*d).natAbs<=B*1000:=by rw[rM];exact pW l YT
  have h2:(c*b).natAbs<=D*1000:=by rw[rM];exact pW o YT
  have h3:=Int.natAbs_add_le (a*d) (c*b);omega
def ml.mono(h:ml B t)(l:B<=D):ml D t:=⟨h.1,h.2.1,dN h.2.2 l⟩
def Sr:∀{ps:List (Int×Int)},(∀p∈ps,ml D p)->∀i,i<=ps.length->ml (2000^i*D) ((ps.take i).foldl iQ (0,1)):=by
 intro ps h i
 induction i with
 |zero=>exact λ_=>⟨(by decide:(0:Int)<1),⟨720,O⟩,gU _⟩
 |succ i b=>
  intro hi;have a:i<ps.length:=hi;rw[dR,cJ a,v3];refine(ml.add (b YT) (h _ (pT a))).mono ?_;have:D<=2000^i*D:=Nat.le_mul_of_pos_left _ (Nat.pow_pos YR);rw[Nat.pow_succ];have e:2000^i*2000*D=2000*(2000^i*D):=by rw[Nat.mul_comm (2000^i) 2000,Nat.mul_assoc]
  omega
def CY{q p:Type}{F:q->p->Prop}{f:List q}{g:List p}(h:Paired F f g):∀{i:Nat} {a:q} {b:p},f[i]?=Z a->g[i]?=Z b->F a b:=by
 induction h with
 |nil=>intro i a b e;simp at e
 |cons h _ j=>
  intro i a b c d;cases i with
  |zero=>simp at c d;subst c d;exact h
  |succ i=>exact j (by simpa using c) (by simpa using d)
inductive KW(x:V)(H:aC)(Q:aP):Prop
 |mk:∀(l:aB)(vs:M0)(ps:List (Int×Int))(D:Nat),x=.ref l->H l=Z (.lst vs)->Paired (λ(p:Int×Int)(v:V)=>Fr H v p.1 p.2) ps vs->(∀p∈ps,ml D p)->ps.length<=12->D<=10^60->(∀v H',aL H H'->Fr H' v (ps.foldl iQ (0,1)).1 (ps.foldl iQ (0,1)).2->Q v H')->KW x H Q
def Ac:bW:=sp1 (KW)
def Gy{a:Int}(h:a.natAbs<=2000^i*D)(hi:i<=12)(b:D<=10^60):a.natAbs<2^4096:=
 vW (dN h (pW (o2 YR hi) b)) YS
def Ew(T:Txt K mg C):aY P w K mg b_ 3 "_law_sum" ["_law_told"] Ac:=by
 refine T.q49.fc xY kJ ?_;rintro f ac A o_ s H vs Q E a6 ⟨x,rfl,l,us,ps,D,rfl,N,n,U,ae,a0,q⟩;refine⟨_,(bC (cF (i:=1) xY.nd O YU (gF (aG bB (aG bB aM)))) (bC (kE jF O (eV (pv 0)) (cM (i:=2) xY.nd O YU) (bG (cF (i:=1) xY.nd O YU (bU (NM T) a6 (aG (bK lm (bK qq (xt 1) (xt 2)) (bK qq (xt 2) (xt 1))) (aG (bK qq (xt 1) (xt 2)) aM)))))) (bG (cH (pv 1))))),dA O,λg a7=>?_⟩;have r:=C7 (o:=.tup [.int 0,.int 1]) a7;have a1:aI H g (.tup [.int 0,.int 1]) g=Z (.tup [.int 0,.int 1]):=aV;generalize aI H g (.tup [.int 0,.int 1])=H0 at r a1 ⊢;refine⟨_,O,l,O,⟨_,C8 (r _ _ N)⟩,qk (K:=K) (a:=l) (xs:=us) (λi Y H'=>vF λ(k:V)(m:Option V)=>Y=[Z (.ref l),Z k,m]/\aL H H'/\Fr H' k ((ps.take i).foldl iQ (0,1)).1 ((ps.take i).foldl iQ (0,1)).2) ⟨.ref g,aF,O,r,g,O,a1⟩ ?_ ?_ ?_⟩
 .rintro i Y H' hi ⟨k,m,rfl,b,c⟩;exact C8 (b _ _ N)
 .rintro i x Y H' a2 ⟨k,m,rfl,b,c⟩;have af:i<us.length:=(cR.mp a2).1;have le:=n.length;have u:i<ps.length:=YT;have f2:=(CY n (cJ u) a2).same b;have d:=Sr U i YT;have e:=U _ (pT u);have a3:=d.add e;have y:=d.k;have z:=e.k;have hm:=Hi d.1 y e.1 z;have n1:=Gy d.2.2 (show i<=12 by omega) a0;have a4:(ps[i].1).natAbs<2^4096:=Gy (i:=0) (D:=D) (by rw[Nat.pow_zero,Nat.one_mul];exact e.2.2) YR a0;have B:=nv (rc d.1 y);have G:=nv (rc e.1 z);have a8:(ps.take (i+1)).foldl iQ (0,1)=iQ ((ps.take i).foldl iQ (0,1)) ps[i]:=by rw[dR,cJ u,v3];rfl
  rw[a8];generalize (ps.take i).foldl iQ (0,1)=t at c d a3 n1 B hm y ⊢;generalize ps[i]=p at f2 e a3 a4 G hm z ⊢;obtain⟨I,rfl,J⟩:=c;obtain⟨L,rfl,M⟩:=f2;refine⟨_,O,I,_,0,.int t.1,O,O,D0 J,bZ (j:=0) O,_,O,L,_,1,.int p.2,O,O,D0 M,bZ (j:=1) O,_,_,O,O,⟨n1,G⟩,_,O,L,_,0,.int p.1,O,O,D0 M,bZ (j:=0) O,_,O,I,_,1,.int t.2,O,O,D0 J,bZ (j:=1) O,_,_,O,O,⟨a4,B⟩,_,_,O,O,
   _,O,I,_,1,.int t.2,O,O,D0 J,bZ (j:=1) O,_,O,L,_,1,.int p.2,O,O,D0 M,bZ (j:=1) O,_,_,O,O,⟨B,G⟩,_,_,O,_,_,O,O,hm.1,hm.2,λv H2 a9 aa=>?_⟩
  exact⟨v,_,O,b.trans a9,aa⟩
 .rintro Y H' ⟨k,m,rfl,b,c⟩;have le:=n.length;rw[←le,List.take_length]at c;exact⟨_,O,q _ _ b c⟩
def HA(sp:bW):Prop:=∀vs H (Q a:aP) (E b:dG),(∀v H',Q v H'->a v H')->(∀c p H',E c p H'->b c p H')->sp vs H Q E->sp vs H a b
inductive Bc(sp:bW)(mg:aA->Option aE)(r:aB)(vs:M0)(H:aC)(Q:aP)(E:dG):Prop
 |mk:∀(p dx:aB)(F:List (aA×V))(y u z:V),vs=[.ref p,y,u,z]->H p=Z (.ins r dx F)->F.lookup ("move":aA)=aF->(sp vs H Q (λcls _ H'=>(∃c:aB,(mg "Outvoted"=Z (.ref c)\/mg "Short"=Z (.ref c))/\cls=.ref c)/\Q .non H'))->Bc sp mg r vs H Q E
def NL(T:Txt K mg C)(g:mg "Moot"=Z (.ref r))(j:HA sp)(k:wF P w K mg b_ 12 r "move" ["self","fields","height","yes"] sp):aY P w K mg b_ 13 "_law_moved" ["_law_moot","_law_wish_here","_law_height_here","_law_yes"] (Bc sp mg r):=by
 obtain⟨B,l,d,D,G,I,J,L,M,N,U,Y⟩:=T.Ze;rw[g]at d;cases d;obtain⟨a0,a1,b⟩:=T.Zg;obtain⟨a2,a3,⟨a4,a5,a6,a7,a8,a9,aa,ac,ae⟩,e,af⟩:=T.Zh;refine T.q50.fc uS (λvs H Q E h=>?_) (λf ag A o_ s H vs Q E m h=>?_)
 .obtain⟨p,dx,F,y,u,n,rfl,_⟩:=h;rfl
 obtain⟨p,dx,F,y,u,n,rfl,o,nm,t⟩:=h;refine⟨_,(bC (cF (i:=4) uS.nd O YU nl) (bC (RL b e (Tr (i:=4) uS.nd O YU (Vr l k (m.mono YR) (pv 0) (aG (pv 1) (aG (pv 2) (aG (pv 3) aM))))) (λea=>(bG (cF (i:=4) uS.nd O YU nl))) (λea=>(bG (cF (i:=4) uS.nd O YU nl)))) (bG (cH (pv 4))))),_,O,p,dx,F,O,o,nm,_,O,_,O,_,O,j _ _ _ _ _ _ (λv H' x=>?_) (λcls ah H' z=>?_) t⟩
 .exact⟨_,O,x⟩
 .obtain⟨⟨c,a,rfl⟩,q⟩:=z;rcases a with a|a
  .exact .inl ⟨T.Zi _ _ a b,⟨_,O,q⟩⟩
  .exact .inr ⟨T.Zk _ _ a b,T.Zj _ _ a e,⟨_,O,q⟩⟩
def BW(d d':aH):Prop:=∃(n a b:aA)(c c' r:Int)(s:aH),d=.tup [.str n,.str a,.str b,.int c,.int r,s]/\d'=.tup [.str n,.str a,.str b,.int c',.int r,s]/\c<=c'/\(s=.non\/∃i,s=.int i)
def lg(p:aH×aH):Option aH:=if l5 p.1<l5 p.2 then Z (.tup [.str (aN p.1),.int (l5 p.2)]) else aF
def OV(l:List (aH×aH)):ow (l.filterMap lg)=aD:=lN λd m=>by
 obtain⟨p,_,e⟩:=qJ.mp m;unfold lg at e;split at e
 .cases e;rfl
 .cases e
def w4(ys:M0)(ex:x=.ref a)(sq:bE K H a xs)(c:¬(F4 xs.length 0 lo=0/\F4 xs.length xs.length hi=xs.length))(e:sC xs lo hi=ys)(q:∀p H',H p=aF->aL H H'->H' p=Z (.tup ys)->Q (.ref p) H'):xO K x lo hi H Q:=
 ⟨a,xs,ex,sq,c,λp b=>e▸q p _ b (C7 b) aV⟩
def u1(d:aH)(a:bY H d x)(b:bY H d y)(f:iN 30 d=aD)(q:Q aK H):vd aD x y H (xp Q):=
 ⟨d,d,a,b,f,f,_,O,by rw[x3 30 d f];exact q⟩
inductive Le(C:aB)(x y:V)(H:aC)(Q:aP):Prop
 |mk:∀(p q:aB)(fs gs gs':M3),x=.ref p->dU C H p fs gs->y=.ref q->dU C H q fs gs'->Paired BW gs gs'->(∀(l:aB)(us:M0)(H':aC),aL H H'->H l=aF->H' l=Z (.lst us)->IsL H' ((gs.zip gs').filterMap lg) us->Q (.ref l) H')->Le C x y H Q
def GX(C:aB):bW:=gA (Le C)
def Oq(T:Txt K mg C):aY P w K mg b_ 2 "_law_works" ["_law_land","_law_behind"] (GX C):=by
 have an:=uL (P:=P) (w:=w) (b_:=b_) T;refine T.q52.fc xx fZ ?_;rintro f bR A o_ s H vs Q E G ⟨x,y,rfl,p,q,fs,gs,N,rfl,L,rfl,ao,a7,bc⟩;refine⟨_,(bC (cF (i:=2) xx.nd O YU (gX aM)) (bC (kE jF O (Tl T.q82 (aG (jA T.ad an (G.mono YR) (pv 0)) (aG (jA T.ad an (G.mono YR) (pv 1)) aM))) (uj O (kO (cM (i:=3) xx.nd O YU) (kO (cM (i:=4) xx.nd O YU) qp))) (bC (fK (F7 (lR (fG (um G.units) (qi (s6 (K:=K) O) (pv 3) qo (qn bB)) (qi (s6 (K:=K) O) (pv 4) qo (qn bB)) (eO _)) (lR (fG (um G.units) (qi (s6 (K:=K) O) (pv 3) (qn bB) qo) (qi (s6 (K:=K) O) (pv 4) (qn bB) qo) (eO _)) (mD (fG qC (xt 4) (xt 3) (eO _)))))) (bG (cH nl)) fH) (bG (fK (fG uy (xt 4) (xt 3) (eO _)) (bG (jR (lS lT mq mo mC (pv 2) (aG (gF (aG (xt 3) (aG (xt 4) aM))) aM)))) fH)))) (bG (cH (pv 2))))),?_⟩;have c0:=jT G;obtain⟨dx,c1,c2,U,_⟩:=L.ex;obtain⟨bd,c3,c4,be,_⟩:=ao.ex;refine⟨dA O,λlo a8=>?_⟩;have u:=C7 (o:=.lst []) a8;have a0:aI H lo (.lst []) lo=Z (.lst []):=aV;generalize aI H lo (.lst [])=H0 at u a0 ⊢;refine⟨_,O,p,dx,_,O,u _ _ U,jQ _ _ YS YS,_,O,p,fs,gs,O,L.same u,λa9 a1 z I ap bf a2=>⟨_,O,q,bd,_,O,I _ _ (u _ _ be),jQ _ _ YS YS,_,O,q,fs,N,O,ao.same (u.trans I),λaa aq H2 a3 ar as au=>?_⟩⟩;have bg:=u.trans (I.trans a3);have bh:aq.length=a1.length:=by rw[au.length,a2.length];exact a7.length.symm
 have av:=a3 _ _ bf;have bi:=D2 a3 _ _ a2;have ac:=a3 _ _ (I _ _ a0);have bj:a9≠lo:=λe=>by rw[e,a0]at ap;cases ap
 have bk:aa≠lo:=λe=>by rw[e,I _ _ a0]at ar;cases ar
 refine⟨a9,aa,O,⟨_,C8 av⟩,⟨_,C8 as⟩,Sq (K:=K) (a:=a9) (b:=aa) (xs:=a1) (ys:=aq) bh (λi Y H'=>rK λ(a4 a5:Option V)(us:M0)=>Y=[Z (.ref p),Z (.ref q),Z (.ref lo),a4,a5]/\(∀b o,H2 b=Z o->b≠lo->H' b=Z o)/\H' lo=Z (.lst us)/\us.length<=i/\IsL H' (((gs.zip N).take i).filterMap lg) us) ⟨aF,aF,[],O,(λb o e _=>e),ac,bQ _,O⟩ ?_ ?_ ?_⟩
 .rintro i Y H' hi ⟨a4,a5,us,rfl,k,_⟩;exact⟨C8 (k _ _ av bj),C8 (k _ _ as bk)⟩
 .rintro i x y Y H' J U bl ⟨a4,a5,us,rfl,k,j,bm,M⟩ bn;refine uu λc5 aw=>?_;have c6:i<a1.length:=(cR.mp U).1;have c7:a1.length=gs.length:=a2.length;have c8:=a7.length;have c9:=((sR _ _).mp L.okd).l2;have ae:i<gs.length:=YT;have af:i<N.length:=YT;obtain⟨n,a,b,c,c',r,s,ax,ay,bo,az⟩:=CY a7 (cJ ae) (cJ af);obtain⟨_,ex,aR⟩:=bi.get (cJ ae);rw[U]at ex;cases ex;obtain⟨_,b0,b1⟩:=au.get (cJ af);rw[bl]at b0;cases b0;rw[ax]at aR;rw[ay]at b1;obtain⟨d,_,rfl,ag,_,_,rfl,rfl,_,_,rfl,rfl,_,_,rfl,rfl,_,_,rfl,rfl,_,_,rfl,rfl,b2,_,rfl,b3,rfl⟩:=aR;obtain⟨g,_,rfl,ah,_,_,rfl,rfl,_,_,rfl,rfl,_,_,rfl,rfl,_,_,rfl,rfl,_,_,rfl,rfl,b4,_,rfl,b5,rfl⟩:=b1;have ai:=C7 (o:=.tup [.ref d,.ref g]) bn;have k1:∀b o,H2 b=Z o->b≠lo->aI H' J (.tup [.ref d,.ref g]) b=Z o:=λb o e n=>ai _ _ (k b o e n);have op:aI H' J (.tup [.ref d,.ref g]) J=Z (.tup [.ref d,.ref g]):=aV;generalize aI H' J (.tup [.ref d,.ref g])=ca at ai k1 op ⊢;have f1:=k1 _ _ ag (λl=>by rw[l,ac]at ag;cases ag);have f2:=k1 _ _ ah (λl=>by rw[l,ac]at ah;cases ah);refine⟨J,_,O,D0 op,O,_,_,O,_,_,O,O,_,O,_,O,w4 [.str n,.str a,.str b] O (D0 f1) (λw=>B6 (show F4 6 6 (Z 3)=6 from w.2) YR) O λD cb cc b6 bp=>⟨_,O,_,O,w4 [.str n,.str a,.str b] O (D0 (b6 _ _ f2)) (λw=>B6 (show F4 6 6 (Z 3)=6 from w.2) YR) O λp2 cd ce b7 bq=>u1 (.tup [.str n,.str a,.str b]) ⟨D,_,O,b7 _ _ bp,_,_,O,O,_,_,O,O,_,_,O,O,O⟩ ⟨p2,_,O,bq,_,_,O,O,_,_,O,O,_,_,O,O,O⟩ O (cC ?_)⟩⟩;have aj:=b6.trans b7;refine⟨_,O,_,O,w4 [.int r,b2] O (D0 (aj _ _ f1)) (λw=>B6 (show F4 6 0 (Z 4)=0 from w.1) YR) O λbr cf cg b8 bs=>⟨_,O,_,O,w4 [.int r,b4] O (D0 (b8 _ _ (aj _ _ f2))) (λw=>B6 (show F4 6 0 (Z 4)=0 from w.1) YR) O λbu b9 ch ba bv=>?_⟩⟩;have m:=aj.trans (b8.trans ba);have fl:iN 30 (.tup [.int r,s])=aD:=by
   rcases az with rfl|⟨i,rfl⟩<;>rfl
  have es:bY b9 s b2/\bY b9 s b4:=by
   rcases az with rfl|⟨i,rfl⟩
   .exact⟨b3,b5⟩
   .exact⟨b3,b5⟩
  refine u1 (.tup [.int r,s]) ⟨br,_,O,ba _ _ bs,_,_,O,O,_,_,O,es.1,O⟩ ⟨bu,_,O,bv,_,_,O,O,_,_,O,es.2,O⟩ fl (cC ⟨_,O,g,_,_,_,O,O,D0 (m _ _ f2),O,_,O,d,_,_,_,O,O,D0 (m _ _ f1),O,_,_,O,O,_,O,?_⟩);rw[B1 (Int.not_lt.mpr bo)];refine cC ?_;have bb:(gs.zip N)[i]?=Z (.tup [.str n,.str a,.str b,.int c,.int r,s],.tup [.str n,.str a,.str b,.int c',.int r,s]):=by
   rw[List.getElem?_zip_eq_some,cJ ae,cJ af,ax,ay];exact⟨O,O⟩
  have B:=ai.trans m;refine⟨_,O,g,_,_,_,O,O,D0 (m _ _ f2),O,_,O,d,_,_,_,O,O,D0 (m _ _ f1),O,_,_,O,O,_,O,?_⟩;have bw:=m _ _ f1;have bx:=m _ _ f2;by_cases lt:c<c'
  .rw[B0 lt];refine dO ⟨_,O,.inl ⟨O,_,C8 (B _ _ j)⟩,_,O,d,_,_,_,O,O,D0 bw,O,_,O,g,_,_,_,O,O,D0 bx,O,dA O,λt ak=>?_⟩;have al:=B.trans (C7 (o:=.tup [.str n,.int c']) ak);refine⟨lo,us,_,O,O,al _ _ j,by rw[jC];omega,aw _ _ ⟨_,_,us++[.ref t],O,λb o e a6=>by rw[bA a6];exact al _ _ (k _ _ e a6),aV,by rw[eW,lV];omega,?_⟩⟩;rw[dR,bb,List.filterMap_append];have am:((Z (F6 [.str n,.str a,.str b,.int c,.int r,s],F6 [.str n,.str a,.str b,.int c',.int r,s])).toList).filterMap lg=[.tup [.str n,.int c']]:=by
    show List.filterMap lg [_]=_;rw[List.filterMap_cons_some (show lg (F6 [.str n,.str a,.str b,.int c,.int r,s],F6 [.str n,.str a,.str b,.int c',.int r,s])=Z (.tup [.str n,.int c']) from B4 lt)];rfl
   rw[am];have bz:t≠lo:=λe=>by rw[e,B _ _ j]at ak;cases ak
   refine D9 ?_ (FB (λb xs e=>?_) _ _ (OV _) M)
   .exact⟨t,_,O,by rw[bA bz,aV],_,_,O,O,_,_,O,O,O⟩
   rw[bA (λl=>by rw[l,j]at e;cases e)];exact al _ _ e
  .rw[B1 lt];refine cC (aw _ _ ⟨_,_,us,O,λb o e a6=>B _ _ (k _ _ e a6),B _ _ j,YT,?_⟩);rw[dR,bb,List.filterMap_append];have am:((Z (F6 [.str n,.str a,.str b,.int c,.int r,s],F6 [.str n,.str a,.str b,.int c',.int r,s])).toList).filterMap lg=[]:=by
    show List.filterMap lg [_]=_;rw[List.filterMap_cons_none (show lg (F6 [.str n,.str a,.str b,.int c,.int r,s],F6 [.str n,.str a,.str b,.int c',.int r,s])=aF from B3 lt)];rfl
   rw[am,lK];exact D2 B _ _ M
 .rintro Y H' ⟨a4,a5,us,rfl,k,j,bm,M⟩;rw[dP (by rw[wg,a2.length];omega)]at M;exact⟨_,O,bc lo us H' (λb o e=>k _ _ (bg _ _ e) (λl=>by rw[l,a8]at e;cases e)) a8 j M⟩
def eS.no(h:eS H J zs pu)(m:b∉zs):dE J (C6 b)=aF:=by
 unfold eS at h
 induction h with
 |nil=>rfl
 |@cons y d zs J a r f=>
  obtain⟨e,fr⟩:=a;obtain⟨k,v⟩:=d;cases(show k=C6 y from e);have g:¬y=b:=λe=>m (e▸eB);have c:=f (λh=>m (eK _ h));unfold dE at c ⊢;have:G9 ((C6 y:aT)=C6 b)=aK:=B1 (λq=>g (by cases q;rfl));simp only[lX,this];exact c
def HD(d:aH)(a:bY H d x)(b:bY H d y)(f:iN 30 d=aD)(q:Q (.bl aD) H):vd aK x y H Q:=
 ⟨d,d,a,b,f,f,by rw[x3 30 d f];exact q⟩
def uD(pu b:aA->Int×Int)(ws:L9)(a:aA):Int×Int:=if a∈ws then iQ (iQ (0,1) (pu a)) (0-(b a).1,(b a).2) else pu a
inductive Kv(x y u:V)(H:aC)(Q:aP):Prop
 |mk:∀(b a t:aB)(kb ka kt:List (aT×V))(zs ws:L9)(pu pu' sh:aA->Int×Int)(B:Nat),x=.ref b->y=.ref a->u=.ref t->H b=Z (.dK kb)->eS H kb zs pu->H a=Z (.dK ka)->eS H ka zs pu'->H t=Z (.dK kt)->eS H kt ws sh->a≠b->t≠b->lx B pu zs->lx (10^30) sh ws->B<=10^59->zs.length<=12->(∀z∈zs,pu' z=uD pu sh ws z/\0<=(pu' z).1)->(∀H',kT b H H'->Q (.bl aD) H')->Kv x y u H Q
def Gb:bW:=kU (Kv)
def PE(T:Txt K mg C):aY P w K mg b_ 4 "_law_paid" ["_law_before","_law_after","_law_told"] Gb:=by
 refine T.q51.fc xF lA ?_;rintro f bg A o_ s H vs Q E a0 ⟨x,y,u,rfl,b,a,t,z,a1,a2,zs,ws,pu,a3,g,B,rfl,rfl,rfl,al,a4,am,an,b0,ao,ap,b1,b2,b3,b4,bh,b5,q⟩;have G:=jT a0;refine⟨_,(bC (kE jF O (vm (pv 0)) (cM (i:=3) xF.nd O YU) (bC (cF (i:=4) xF.nd O YU (iZ G (pv 0) (pv 3) (λ_ _=>O))) (bC (fK (tc (wR G (pv 3) (pv 2))) (bG (cF (i:=4) xF.nd O YU (bU (Ew T) a0 (aG (gX (aG (iZ G (pv 0) (pv 3) (λ_ _=>O)) (aG (gF (aG (bK mE bB (iO (oa (K:=K) O) (iZ G (pv 2) (pv 3) (λ_ _=>O)) bB (λ_ _=>O))) (aG (iO (oa (K:=K) O) (iZ G (pv 2) (pv 3) (λ_ _=>O)) bB (λ_ _=>O)) aM))) aM))) aM)))) fH) (bG (fK (F7 (lR (fG (um a0.units) (iZ G (pv 1) (pv 3) (λ_ _=>O)) (pv 4) (eO _)) (mD (fG qC (iO (oa (K:=K) O) (iZ G (pv 1) (pv 3) (λ_ _=>O)) bB (λ_ _=>O)) bB (eO _))))) (bG (cH mF)) fH))))) (bG (cH (lF (Gs a0.units) (iX (xl O) O T.q72 lM (aG (pv 1) aM)) (iX (xl O) O T.q72 lM (aG (pv 0) aM)) (eO _))))),_,O,b,z,O,al,λo=>?_⟩;have J:kT b H (aI H b (.frz o (.dK z))):=λc x e n=>by rw[bA n];exact e
 have a5:aI H b (.frz o (.dK z)) b=Z (.frz o (.dK z)):=aV;have KT:gG H (aI H b (.frz o (.dK z))):=λc xs e=>J _ _ e (YH e al);generalize aI H b (.frz o (.dK z))=b6 at J a5 KT ⊢;have lk:=a4.len;refine x2 (λi Y H'=>vF λ(ac ae:Option V)=>Y=[Z (.ref b),Z (.ref a),Z (.ref t),ac,ae]/\aL b6 H') ⟨aF,aF,O,D7 _⟩ (λi Y H' _ ⟨_,_,_,r⟩=>r _ _ a5) ?_ ?_
 .rintro i I Y H' aq ⟨ac,ae,rfl,r⟩;obtain⟨d,ar⟩:∃d,zs[i]?=Z d:=⟨_,cJ (by have:=(cR.mp aq).1;omega)⟩
  have b7:I.1=C6 d:=by
   have h:=B7 (λl=>l[i]?) a4.key;simp only[dB,aq,ar]at h;exact eA h
  have a6:=dM ar;have af:gG H H':=λc xs e=>r _ _ (KT _ _ e);obtain⟨bi,as,ag,rfl,tb⟩:=(a4.same af).val a6;obtain⟨bj,ea,au,rfl,M⟩:=(an.same af).val a6;have a7:=r _ _ a5;have a8:=r _ _ (J _ _ am ap);have a9:=r _ _ (J _ _ b0 b1);obtain⟨av,b8⟩:=b5 d a6;rw[b7];refine⟨_,O,_,O,b,_,O,.inl ⟨z,C6 d,.inr ⟨o,a7⟩,O,as.symm⟩,?_⟩;unfold Hw nz;dsimp only;refine CL (fun σ' H2=>∃l,σ'=[Z (.ref b),Z (.ref a),Z (.ref t),Z (.str d),Z (.ref l)]/\aL H' H2/\H2 l=Z (.tup [.int (a3 d).1,.int (a3 d).2])) ?_ λbk aw=>?_
  .rintro σ' H2 ⟨l,rfl,aa,b9⟩;have ax:=aa _ _ M;refine⟨_,O,_,O,a,_,O,.inl ⟨a1,C6 d,.inl (aa _ _ a8),O,ea.symm⟩,_,O,u1 (.tup [.int (a3 d).1,.int (a3 d).2]) ⟨au,_,O,ax,_,_,O,O,_,_,O,O,O⟩ ⟨l,_,O,b9,_,_,O,O,_,_,O,O,O⟩ O (cC ⟨_,O,_,O,a,_,O,.inl ⟨a1,C6 d,.inl (aa _ _ a8),O,ea.symm⟩,au,_,0,_,O,O,D0 ax,bZ (j:=0) O,_,_,O,O,_,O,?_⟩)⟩;rw[B1 (Int.not_lt.mpr b8)];exact cC ⟨_,_,O,r.trans aa⟩
  .by_cases N:d∈ws
   .obtain⟨bl,ah,lt,rfl,ay⟩:=(ao.same af).val N;refine⟨_,O,_,O,t,Z _,O,.inl ⟨a2,C6 d,.inl a9,O,ah.symm⟩,_,O,dO ⟨_,O,_,O,b,_,O,.inl ⟨z,C6 d,.inr ⟨o,a7⟩,O,as.symm⟩,_,O,_,O,t,_,O,.inl ⟨a2,C6 d,.inl a9,O,ah.symm⟩,lt,_,0,_,O,O,D0 ay,bZ (j:=0) O,_,_,O,O,_,O,_,O,t,_,O,.inl ⟨a2,C6 d,.inl a9,O,ah.symm⟩,lt,_,1,_,O,O,D0 ay,bZ (j:=1) O,dA O,λD h1=>?_⟩⟩;have U:=C7 (o:=.tup [.int (0-(g d).1),.int (g d).2]) h1;have ba:aI H' D (.tup [.int (0-(g d).1),.int (g d).2]) D=Z (.tup [.int (0-(g d).1),.int (g d).2]):=aV;refine⟨dA O,λai h2=>?_⟩;have L:=C7 (o:=.lst [.ref ag,.ref D]) h2;have aj:=b2 d a6;have ak:=b3 d N;refine⟨_,O,ai,_,[pu d,(0-(g d).1,(g d).2)],B+10^30,O,aV,.cons ⟨ag,O,L _ _ (U _ _ tb)⟩ (.cons ⟨D,O,L _ _ ba⟩ .nil),λp m=>?_,(by decide:2<=12),dN (Nat.add_le_add_right b4 _) YS,λv bm bb bc=>?_⟩
    .rcases dW.mp m with rfl|m
     .exact⟨aj.1,aj.2.1,dN aj.2.2 (pU _ _)⟩
     .rw[eU.mp m];exact⟨ak.1,ak.2.1,dN (by rw[show((0-(g d).1,(g d).2):Int×Int).1=-(g d).1 from Int.zero_sub _,Int.natAbs_neg];exact ak.2.2) (Nat.le_add_left _ _)⟩
    .obtain⟨bd,rfl,be⟩:=bc;refine aw _ _ ⟨bd,O,U.trans (L.trans bb),?_⟩;rw[av,uD,B4 N];exact be
   .refine⟨_,O,_,O,t,aF,O,.inl ⟨a2,C6 d,.inl a9,O,(ao.no N).symm⟩,_,O,cC (aw _ _ ⟨ag,O,D7 _,?_⟩)⟩;rw[av,uD,B3 N];exact tb
 .rintro Y H' ⟨ac,ae,rfl,r⟩;have a7:=r _ _ a5;have a8:=r _ _ (J _ _ am ap);have az:∀{k:List (aT×V)} {p:aA->Int×Int},eS H k zs p->k.map (λI=>kV I.1)=zs.map C9:=λh=>by
   have:=B7 (q0 kV) h.key;rw[eP,eP]at this;exact this
  refine⟨_,O,a,a1,O,.inl a8,λbf h1=>?_⟩;have U:=C7 (o:=.lst (a1.map λI=>kV I.1)) h1;refine⟨_,O,b,z,O,.inr ⟨o,U _ _ a7⟩,λai h2=>?_⟩;have L:=C7 (o:=.lst (z.map λI=>kV I.1)) h2;refine HD (.lst (zs.map E8)) ⟨bf,_,O,L _ _ aV,?_⟩ ⟨ai,_,O,aV,?_⟩ (NR zs) (q _ λc x e n=>L _ _ (U _ _ (r _ _ (J _ _ e n))))
  .rw[az an];exact rn zs
  .rw[az a4];exact rn zs
def Ex{q p:Type}{f:q->p}{l:List q}(h:(l.map f).Nodup):l.Nodup:=List.Pairwise.of_map f (λa b n e=>n (by rw[e])) h
theorem DL(f:aH->aH):∀N:M3,(N.zip (N.map f)).filterMap lg=N.filterMap λd=>lg (d,f d)
 |[]=>rfl
 |d::N=>by
  show((d,f d)::N.zip (N.map f)).filterMap lg=_;rw[rG,rG,DL f N]
def SK(a:(ws.map aN).Nodup){w:aH}(m:w∈ws):jN ws (aN w)=Z (sL w):=by
 unfold jN;rw[FE a m];rfl
def Bq(e:ky zs N)(f:d∈N):l5 (mn ws d)=(jN ws (aN d)).getD (l5 d):=by
 obtain⟨n,a,b,c,r,s,rfl,_⟩:=gE (e.all d f);rfl
theorem Fo(f:ky zs N)(j:GoodW N ws):∀{es:M3},(∀d∈es,d∈N)->Paired BW es (es.map (mn ws))
 |[],_=>.nil
 |d::es,h=>by
  have g:=h d eB;have o:=Bq (ws:=ws) f g;have k:=ql f.nd g;obtain⟨n,a,b,c,r,s,rfl,_,_,_,_,_,_,l⟩:=gE (f.all d g);refine .cons ⟨n,a,b,c,_,r,s,O,O,?_,?_⟩ (Fo f j λe m=>h e (eK _ m))
  .cases e:jN ws n with
   |none=>exact rY _
   |some v=>
    have h2:=(BF j e).2;rw[show kZ N n=c from k]at h2;exact h2
  .cases s with
   |non=>exact .inl O
   |int i=>exact .inr ⟨i,O⟩
   |_=>cases l
def PZ(f:ky zs N)(g:GoodW N ws)(lt:∀w∈ws,kZ N (aN w)<sL w):((N.zip (mi N ws)).filterMap lg).Perm ws:=by
 unfold mi;rw[DL];have sub:∀es:M3,((es.filterMap λd=>lg (d,mn ws d)).map aN).Sublist (es.map aN):=by
  intro es
  induction es with
  |nil=>exact .slnil
  |cons d es i=>
   rw[rG];cases e:lg (d,mn ws d) with
   |none=>exact .cons _ i
   |some w=>
    unfold lg at e;split at e
    .cases e;exact .cons₂ _ i
    .cases e
 refine(List.perm_ext_iff_of_nodup (Ex (f.nd.sublist (sub N))) (Ex g.nd)).mpr λw=>⟨λm=>?_,λm=>?_⟩
 .obtain⟨d,c,e⟩:=qJ.mp m;unfold lg at e;split at e
  .rename_i h;cases e;have a:=Bq (ws:=ws) f c;cases b:jN ws (aN d) with
   |none=>
    rw[b]at a;exact B6 h (by show ¬l5 d<l5 (mn ws d);rw[a];exact Int.lt_irrefl _)
   |some v=>
    rw[b]at a;show F6 [.str (aN d),.int (l5 (mn ws d))]∈ws;rw[a];unfold jN at b;obtain⟨w,j,rfl⟩:=lJ.mp b;have k:=yz j;have nw:aN w=aN d:=by simpa using y4 j
    obtain⟨n,u,rfl,_⟩:=n7 (g.all w k);rw[←nw];exact k
  .cases e
 .obtain⟨n,u,rfl,o,_⟩:=n7 (g.all w m);obtain⟨d,c,rfl⟩:=cG.mp o;have b:jN ws (aN d)=Z u:=SK g.nd m;have a:=Bq (ws:=ws) f c;rw[b]at a;have l:=lt _ m;rw[show kZ N (aN (F6 [.str (aN d),.int u]))=l5 d from ql f.nd c]at l;refine qJ.mpr ⟨d,c,?_⟩;unfold lg;rw[B4 (show l5 d<l5 (mn ws d) by rw[a];exact l)];show Z (F6 [.str (aN d),.int (l5 (mn ws d))])=_;rw[a];rfl
def PY(e:ky zs N):∀w∈(iE (bD fs N L) R B).map (kD L),kZ N (aN w)<sL w:=λw m=>by
 obtain⟨s,h,rfl⟩:=cG.mp m;obtain⟨g,mg,i,_⟩:=u3 (Bo s h);obtain⟨d,f,j,rfl,k⟩:=zz e mg;show kZ N s.nm<L;rw[←i,←k,ql e.nd f];obtain⟨n,a,b,c,r,l,rfl,_⟩:=gE (e.all d f);exact B2 (iJ.mp (show(G9 (c<L)&&(kI fs L a&&kI fs L b))=aD from j)).1
def Pa:kW G zs a (iP zs).length=shr (jJ G) zs a:=by
 unfold kW shr;rw[dP (bQ _)];unfold iP cD;rw[eP];rfl
def zK(x:Int)(h:0<y):low (low x y).1 (low x y).2=low x y:=by
 obtain⟨g,b,c,d,p2,_⟩:=EA x h;have:=Fw (a:=(low x y).1) b p2;rw[←c,←d]at this;exact this.symm
noncomputable def q7(p:Int×Int):Int:=p.1*(720/p.2)
def kM(p:Int×Int):Prop:=0<p.2/\p.2∣720
def wW(h:kM p):q7 p*p.2=p.1*720:=by
 unfold q7;rw[rQ,Int.ediv_mul_cancel h.2]
def FR(a:0<y)(b:(low x y).2∣720):q7 (low x y)*y=x*720:=by
 obtain⟨g,e,c,d,p2,_⟩:=EA x a;have h:=wW (p:=low x y) ⟨p2,b⟩;have h1:q7 (low x y)*(g*(low x y).2)=g*(low x y).1*720:=by
  rw[show q7 (low x y)*(g*(low x y).2)=g*(q7 (low x y)*(low x y).2) by ac_rfl,h,rQ]
 rw[←c,←d]at h1;exact h1
def kM.add(h:kM t)(g:kM p):kM (iQ t p):=
 ⟨(ml.add ⟨h.1,h.2,bQ _⟩ ⟨g.1,g.2,bQ _⟩).1,(ml.add ⟨h.1,h.2,bQ _⟩ ⟨g.1,g.2,bQ _⟩).2.1⟩
def wL(h:kM t)(g:kM p):q7 (iQ t p)=q7 t+q7 p:=by
 have a:=rX h.1 g.1;have e:=FR a (h.add g).2;refine yx (Int.ne_of_gt a) ?_;show q7 (low _ _)*(t.2*p.2)=_;rw[e,pd,pd,show t.1*p.2*720=t.1*720*p.2 by ac_rfl,show p.1*t.2*720=p.1*720*t.2 by ac_rfl,←wW h,←wW g]
 ac_rfl
theorem EX:∀(ps:List (Int×Int))(t:Int×Int),kM t->(∀p∈ps,kM p)->q7 (ps.foldl iQ t)=q7 t+cD ps q7/\kM (ps.foldl iQ t)
 |[],t,h,_=>⟨(t2 _).symm,h⟩
 |p::ps,t,h,g=>by
  have a:=g p eB;obtain⟨e,o⟩:=EX ps (iQ t p) (h.add a) λq m=>g q (eK _ m);refine⟨?_,o⟩;show q7 (ps.foldl iQ (iQ t p))=_;rw[e,wL h a,eF,Int.add_assoc]
theorem EB:∀(ps:List (Int×Int))(t:Int×Int),kM t->(∀p∈ps,kM p)->low t.1 t.2=t->low (ps.foldl iQ t).1 (ps.foldl iQ t).2=ps.foldl iQ t
 |[],_,_,_,l=>l
 |p::ps,t,h,g,_=>by
  have a:=g p eB;exact EB ps (iQ t p) (h.add a) (λq m=>g q (eK _ m)) (zK _ (rX h.1 a.1))
def Rt(h:kM p)(l:low p.1 p.2=p)(e:q7 p=720*n):p=(n,1):=by
 have k:=wW h;rw[e]at k;have k1:p.1=p.2*n:=by
  refine yx (show(720:Int)≠0 by decide) ?_;rw[←k]
  ac_rfl
 rw[←l,k1];have:=Fw (a:=n) (b:=1) h.1 YR;rw[p1]at this;rw[this,vn]
def Pd(h:∀p∈ps,kM p)(e:cD ps q7=720*n):ps.foldl iQ (0,1)=(n,1):=by
 have c:kM (0,1):=⟨YR,⟨720,O⟩⟩
 obtain⟨a,b⟩:=EX ps (0,1) c h;refine Rt b (EB ps (0,1) c h (vn 0)) ?_;rw[a,e];show 0*_+_=_;rw[ww,pa]
theorem yc{q:Type}(f:q->Int)(k:Int):∀xs:List q,cD xs f*k=cD xs λx=>f x*k
 |[]=>ww _
 |x::xs=>by rw[eF,eF,pd,yc f k xs]
def Nd(b:oL fs)(c:ky ("sea" :: fs.map aN) N)(f:fC L=aD)(d:1<=ws.length)(e:ws.length<=5)(h:ws.Nodup)(ns:D3∉ws):cD ws (λa=>q7 (kq (bD fs N L) ws a))=720*jJ (bD fs N L) ws:=by
 have ok:=wP b c f d e ns;have i:=oU b c L;have fp:(0:Int)<(fac ws.length:Nat):=Int.natCast_pos.mpr (yn _);have j:=RE h d e (Su i ns);refine yx (Int.ne_of_gt fp) ?_;rw[yc,lj (g:=λa=>shr (jJ (bD fs N L)) ws a*720) λa m=>by rw[←Pa];exact FR fp (ok a m).2.1,←yc,j]
 ac_rfl
def Ob(b:zs.Nodup)(nw:ws.Nodup)(sub:∀a∈ws,a∈zs)(F:aA->Int):cD zs (λa=>if a∈ws then F a else 0)=cD ws F:=by
 have p:(zs.filter λa=>G9 (a∈ws)).Perm ws:=(List.perm_ext_iff_of_nodup (b.sublist vR) nw).mpr λa=>by
  rw[gM,B5];exact⟨λh=>h.2,λh=>⟨sub a h,h⟩⟩
 rw[←Fc p,uV];exact lj λa _=>by simp only[B5]
def Fm{p s:Int×Int}(h:kM p)(l:low p.1 p.2=p):iQ (iQ (0,1) p) (0-s.1,s.2)=low (p.1*s.2+-1*s.1*p.2) (p.2*s.2):=by
 have e:iQ (0,1) p=p:=by
  show low (0*p.2+p.1*1) (1*p.2)=p;rw[ww,pa,p1,p0,l]
 rw[e];show low (p.1*s.2+(0-s.1)*p.2) (p.2*s.2)=_;rw[Int.zero_sub,y7]
def SP(h:kM p)(g:kM s)(l:low p.1 p.2=p):q7 (low (p.1*s.2+-1*s.1*p.2) (p.2*s.2))=q7 p-q7 s:=by
 have a:kM (0,1):=⟨YR,⟨720,O⟩⟩
 have b:kM (0-s.1,s.2):=g;rw[←Fm h l,wL (a.add h) b,wL a h];show 0*_+q7 p+(0-s.1)*(720/s.2)=q7 p-s.1*(720/s.2);rw[ww,pa,Int.zero_sub,qY];rfl
def SO(h:kM p):q7 (low (p.1*1+1*c*p.2) (p.2*1))=q7 p+720*c:=by
 have g:kM (c,1):=⟨(by decide:(0:Int)<1),⟨720,O⟩⟩
 rw[p0];show q7 (iQ p (c,1))=_;rw[wL h g];show _+c*(720/1)=_;rw[wx,qW]
def Pf(d:aH):rr [] d=l5 d:=by
 unfold rr;rw[B3 (by simp)]
def uJ(fs N:M3)(L:Int)(B:aA->Bool):Prop:=B D3=aK/\∀d∈N,mj fs L d=aD->B (uE d)=B (ul d)
def z7{L:Int}{n a b:aA}{c r:Int}(h1:c<L)(e:a="sea"\/kP fs a<L)(f:b="sea"\/kP fs b<L):mj fs L (.tup [.str n,.str a,.str b,.int c,.int r,s])=aD:=by
 show(G9 (c<L)&&(kI fs L a&&kI fs L b))=aD;have low:∀d:aA,d="sea"\/kP fs d<L->kI fs L d=aD:=λd h=>by
  unfold kI;rcases h with h|h
  .rw[B0 h];rfl
  .rw[B0 h,wt]
 rw[B0 h1,low a e,low b f];rfl
def TV(h:mj fs L (.tup [.str n,.str a,.str b,.int c,.int r,s])=aD):c<L/\(a="sea"\/kP fs a<L)/\(b="sea"\/kP fs b<L):=by
 have h1:=iJ.mp (show(G9 (c<L)&&(kI fs L a&&kI fs L b))=aD from h);have h2:=iJ.mp h1.2;have low:∀d:aA,kI fs L d=aD->d="sea"\/kP fs d<L:=λd h=>by
  unfold kI at h;rcases yM.mp h with h|h
  .exact .inl (B2 h)
  .exact .inr (B2 h)
 exact⟨B2 h1.1,low a h2.1,low b h2.2⟩
def Gn(b:oL fs)(m:a∈fs.map aN):a≠D3:=λe=>by
 obtain⟨d,c,f⟩:=cG.mp m;obtain⟨i,g,u,rfl,h,_⟩:=iD (b.all d c);exact yd h (f.trans e)
def Tu(g:ky ("sea" :: fs.map aN) N)(j:GoodW N wk)(i:d∈N){L:Int}(h:mj fs L (mn wk d)=aD):mj fs L d=aD/\uE (mn wk d)=uE d/\ul (mn wk d)=ul d/\∀v,jN wk (aN d)=Z v->v<L:=by
 have k:=ql g.nd i;obtain⟨n,a,b,c,r,l,rfl,_⟩:=gE (g.all d i);obtain⟨f,m,o⟩:=TV (show mj fs L (.tup [.str n,.str a,.str b,.int ((jN wk n).getD c),.int r,l])=aD from h);have q:kZ N n=c:=k;refine⟨z7 ?_ m o,O,O,λv e=>?_⟩
 .cases e:jN wk n with
  |none=>rw[e]at f;exact f
  |some v=>
   have:=(BF j e).2;rw[e]at f;have s:v<L:=f;omega
 .have p:jN wk n=Z v:=e;rw[p]at f;exact f
def Of(q:oL fs)(h:ky ("sea" :: fs.map aN) N)(t:fC L=aD)(st:Stream ("sea" :: fs.map aN) (bD fs N L) ws f)(r:nU (bD fs N L) f ws R B):uJ fs (mi N ((iE (bD fs N L) R B).map (kD L))) L (uQ B):=by
 have j:=oU q h L;have k:=xv h t j (R:=R) (B:=B) r.bout;refine⟨B1 λm=>r.bout _ m r.sea,λd' u w=>?_⟩;obtain⟨d,i,rfl⟩:=cG.mp u;obtain⟨x,y,z,A⟩:=Tu h k i w;rw[y,z];have mg:n9 L d∈bD fs N L:=cG.mpr ⟨d,gM.mpr ⟨i,x⟩,O⟩;have l:∀s∈iE (bD fs N L) R B,s.nm=aN d->False:=λs C D=>by
  have nd:=k.nd;have E:kD L s∈(iE (bD fs N L) R B).map (kD L):=cG.mpr ⟨s,C,O⟩;have:jN ((iE (bD fs N L) R B).map (kD L)) (aN d)=Z L:=by
   unfold jN;rw[←D,show s.nm=aN (kD L s) from O,ym nd E];rfl
  have:=A L this;omega
 obtain⟨G,H⟩:=xy j st.fits r mg;obtain⟨n,a,b,c,o,p,rfl,_⟩:=gE (h.all d i);show G9 (a∈B)=G9 (b∈B);by_cases e:a∈B<;>by_cases g:b∈B
 .rw[B0 e,B0 g]
 .exfalso;have I:=(H e g).1;exact l (dn (n9 L (.tup [.str n,.str a,.str b,.int c,.int o,p]))) (gM.mpr ⟨Mt61.s0.mpr ⟨_,mg,.inr O⟩,by
   rw[fM];exact⟨B0 I,B0 e⟩⟩) O
 .exfalso;have J:=(G e g).1;exact l (up (n9 L (.tup [.str n,.str a,.str b,.int c,.int o,p]))) (gM.mpr ⟨Mt61.s0.mpr ⟨_,mg,.inl O⟩,by
   rw[fM];exact⟨B0 J,B0 g⟩⟩) O
 .rw[B1 e,B1 g]
inductive JE(C:aB)(x y:V)(H:aC)(Q:aP):Prop
 |mk:∀(p l:aB)(fs N:M3)(op:L9),x=.ref p->dU C H p fs N->y=.ref l->H l=Z (.lst (op.map C9))->op.length<=1000->(∀z∈op,z∈(N.filter qs).map aN)->(∀H',aL H H'->Q .non H')->JE C x y H Q
def DX(C:aB):bW:=gA (JE C)
def Xf(T:Txt K mg C):aY P w K mg b_ 3 "check_sluices" ["land","thing"] (DX C):=by
 refine T.q03.fc HN fZ ?_;rintro f B A o_ s H vs Q E j ⟨x,y,rfl,p,l,fs,N,op,rfl,L,rfl,e,lo,sub,q⟩;have D:=fJ;obtain⟨dx,G,I,c,_⟩:=L.ex;refine⟨_,(bC (cF (i:=2) HN.nd O (E1 O) (jA T.ad (Xq T) (j.mono YR) (pv 0))) (bG (fK (F7 (lR (iM (gW (dH (n4 (K:=K) O) O T.q70 n3 (aG (pv 1) (aG (ou T.q72 lM) aM))))) (mD (iM (gW (dH (pz O) O T.q65 px (aG (fN ["name","sluices"] 1 [2] O (eV (pv 1)) (λR=>cM (i:=0) (YS:eQ (["name","sluices"]:L9)) O YU) (fD YR) (λR=>gQ) (λR=>(bU (rh T) j (aG (pv 0) (aG (pv 1) aM))))) aM))))))) (bG n8) fH))),_,O,p,dx,_,O,c,jQ _ _ YS YS,_,O,p,fs,N,O,L,λo z d J r=>⟨_,O,_,_,_,_,_,O,O,.lst (d _ _ e),py _ _,_,O,cC ⟨_,O,l,O,⟨_,C8 (d _ _ e)⟩,fU (F:=K) (xs:=op.map C9) (by rw[aS];omega) (λi ys H'=>z=H'/\ys=(op.take i).map λa=>GE aD) ⟨O,O⟩ ?_ ?_ ?_⟩⟩⟩
 .rintro i ys H' M ⟨rfl,rfl⟩;exact⟨C8 (d _ _ e),by rw[aS,dY];omega⟩
 .rintro i U ys H' Y a0 c ⟨rfl,rfl⟩ k1 k2;obtain⟨a,g⟩:∃a,op[i]?=Z a:=by
   have:=(cR.mp c).1;rw[aS]at this;exact⟨_,cJ this⟩
  rw[dB,g]at c;cases c;refine⟨_,O,_,O,_,_,O,.str a,o,_,O,O,C8 r,?_⟩;rw[show gK ((N.filter qs).map aN) (.str a)=aD from B0 (sub a (dM g))];refine k1 _ _ ⟨O,?_⟩;rw[dR,g,dJ];rfl
 .rintro ys H' ⟨rfl,rfl⟩;rw[aS,dP (bQ _)];intro t u;refine⟨t,op.map λ_=>aD,O,C8 ?_,_,O,?_⟩
  .rw[aV,eP];rfl
  .rw[show(op.map λ_=>aD).all id=aD from ku.mpr λb m=>by obtain⟨a,_,rfl⟩:=cG.mp m;rfl];exact cC (q _ (d.trans (C7 u)))
def oz(op:L9)(N:M3):List (aT×V):=N.map λd=>(C6 (aN d),D1 (rr op d))
def Pg(op:L9)(N:M3):(oz op N).map (·.1)=N.map m0:=by
 unfold oz;rw[eP];rfl
theorem AW{f:aH->V}:∀{N:M3} {d:aH},(N.map aN).Nodup->d∈N->dE (N.map λd=>((C6 (aN d):aT),f d)) (C6 (aN d))=Z (f d)
 |e::N,d,a,m=>by
  rw[dD]at a ⊢;rw[gB]at a;rcases dW.mp m with rfl|m
  .exact l3 O
  .rw[l4 (λc=>a.1 (by rw[pc c];exact cG.mpr ⟨d,m,O⟩))];exact AW a.2 m
inductive KR(C:aB)(x y:V)(H:aC)(Q:aP):Prop
 |mk:∀(p l:aB)(fs N:M3)(op:L9),x=.ref p->dU C H p fs N->y=.ref l->H l=Z (.lst (op.map C9))->op.length<=1000->(∀z∈op,z∈(N.filter qs).map aN)->(∀(d:aB)(H':aC),aL H H'->H d=aF->H' d=Z (.dK (oz op N))->Q (.ref d) H')->KR C x y H Q
def DT(C:aB):bW:=gA (KR C)
def Qi{zs:L9}{N:M3}(f:ky zs N){op:L9}(sub:∀j∈op,j∈(N.filter qs).map aN){d:aH}(m:d∈N)(h:aN d∈op):∃i,Gm d=.int i:=by
 obtain⟨e,g,k⟩:=cG.mp (sub _ h);rw[gM]at g;have:e=d:=by
  have h1:=ym f.nd g.1;have h2:=ym f.nd m;rw[k,h2]at h1;exact(eA h1).symm
 subst this;obtain⟨n,a,b,c,r,s,rfl,_,_,_,_,_,_,l⟩:=gE (f.all e m);have h2:(!uz s)=aD:=g.2;cases s with
 |int i=>exact⟨i,O⟩
 |non=>cases h2
 |_=>cases l
def NI(T:Txt K mg C):aY P w K mg b_ 4 "stands" ["land","opened"] (DT C):=by
 refine T.q04.fc ND fZ (fun f ax A o_ s H vs Q E U h=>?_)
 obtain⟨x,y,rfl,p,l,fs,N,op,rfl,L,rfl,Y,lo,sub,q⟩:=h
 have ay:=fJ
 have B:=(fV L).2
 have az:=B.l2
 refine⟨_,(bC (jR (bU (Xf T) U (aG (pv 0) (aG (pv 1) aM)))) (bG (cH (iX (oQ rfl) rfl T.q67 mW (aG (fN ["dyke","opened"] 1 [1] rfl (eV (jA T.ad (uL T) (U.mono (by decide)) (pv 0))) (fun R=>cM (i:=0) (YS:eQ (["dyke","opened"]:L9)) rfl (D5 rfl)) (fD (by decide)) (fun R=>gQ) (fun R=>(gF (aG (xt 0) (aG (Es (fG (sN (K:=K) rfl) (xt 0) (pv 1) (by with_unfolding_all rfl)) (xt 0) (xt 0)) aM))))) aM))))),?_⟩
 refine⟨_,rfl,_,rfl,_,_,rfl,p,l,fs,N,op,rfl,L,rfl,Y,lo,sub,fun z a0=>?_⟩
 have a1:=L.same a0
 obtain⟨dx,aR,b0,ah,_⟩:=a1.ex
 refine⟨_,rfl,p,dx,_,rfl,ah,jQ _ _ (by decide +kernel) (by decide +kernel),_,rfl,p,fs,N,rfl,a1,fun ai J H2 aj b1 a2 a3=>?_⟩
 have b2:J.length=N.length:=a3.length
 have a4:=a0.trans aj
 have ak:=a4 _ _ Y
 refine⟨ai,rfl,⟨_,C8 a2⟩,?_⟩
 refine fU (F:=K) (xs:=J) (by omega) (fun i ys H'=>aL H2 H'∧fF H' ys (oz op (N.take i))) ⟨D7 _,GT _⟩ ?_ ?_ ?_
 ·rintro i ys H' b3 ⟨m,b⟩
  have:=b.len
  unfold oz at this
  rw[aS,dY] at this
  exact⟨C8 (m _ _ a2),by omega⟩
 ·rintro i b4 ys H' al b5 a5 ⟨m,b⟩ k1 k2
  have b6:i<J.length:=(cR.mp a5).1
  obtain⟨d,M⟩:∃ d,N[i]?=Z d:=⟨_,cJ (by omega)⟩
  obtain⟨v,ev,am⟩:=a3.get M
  rw[a5] at ev
  cases ev
  have a6:=dM M
  have an:=fun h=>Qi B sub a6 h
  obtain⟨n,a7,a8,c,r,D,rfl,_⟩:=gE (B.all d a6)
  obtain⟨t,ao,rfl,o,ap⟩:=oS am
  have G:=m _ _ o
  have aq:oz op (N.take (i+1))=oz op (N.take i)++[(C6 n,D1 (rr op (.tup [.str n,.str a7,.str a8,.int c,.int r,D])))]:=by
   unfold oz
   rw[dR,M,dJ]
   rfl
  have a9:∀ v,v=D1 (rr op (.tup [.str n,.str a7,.str a8,.int c,.int r,D]))→∀ a,H' a=aF→al (.ref a) (aI H' a (.tup [.str n,v])):=fun v e a g=>by
   subst e
   refine k1 _ _ ⟨m.trans (C7 g),?_⟩
   rw[aq]
   exact G4 (k:=C6 n) b g
  refine⟨_,rfl,t,_,0,.str n,rfl,rfl,D0 G,bZ (j:=0) rfl,_,rfl,t,_,0,.str n,rfl,rfl,D0 G,bZ (j:=0) rfl,_,rfl,l,_,rfl,.inl (C8 (m _ _ ak)),rfl,ri op,_,rfl,?_⟩
  rw[B3 fQ,ro]
  refine lB (fun h1=>?_) (fun h1=>?_)
  ·have I:n∈op:=B2 h1
   obtain⟨u,ar⟩:=an I
   have as:D=.int u:=ar
   subst as
   cases (show ao=.int u from ap)
   refine⟨_,rfl,t,_,5,.int u,rfl,rfl,D0 G,bZ (j:=5) rfl,dA rfl,fun a g=>a9 _ ?_ a g⟩
   show D1 u=D1 (if n∈op then u else c)
   rw[B4 I]
  ·have I:¬ n∈op:=fun c=>h1 (B0 c)
   refine⟨_,rfl,t,_,3,.int c,rfl,rfl,D0 G,bZ (j:=3) rfl,dA rfl,fun a g=>a9 _ ?_ a g⟩
   show D1 c=D1 (if n∈op then Hl D else c)
   rw[B3 I]
 rintro ys b7 ⟨au,b⟩
 rw[dP (by omega)] at b
 intro av aw
 have aa:=C7 (o:=.lst ys) aw
 refine⟨av,ys,oz op N,rfl,C8 aV,b.same aa,by unfold oz;rw[aS];omega,by rw[Pg];exact uX B.nd,fun cd ac=>?_⟩
 have ae:=a4.trans (au.trans aa)
 exact q cd _ (ae.trans (C7 ac)) (ae.free ac) aV
def Sz(a b:aA):(!G9 (C9 a=C9 b))=!G9 (a=b):=by
 by_cases h:a=b
 .subst h;simp
 .rw[B1 h,B1 (λc=>h (by cases c;rfl))]
def PO(c:oL fs)(m:a∈fs.map aN):∃g e,F6 [.str a,.int g,.int e]∈fs/\kP fs a=g:=by
 obtain⟨d,b,rfl⟩:=cG.mp m;obtain⟨a,g,e,rfl,_⟩:=iD (c.all d b);exact⟨g,e,b,Dl c.nd b⟩
def Gw(a b:Int):(if b>a then b else a)=max a b:=by split<;>omega
structure uh (fs:M3) (L:Int) (B:aA->Bool) (s:Mt22.St):Prop where
 gr:kP fs s.far<=s.h
 up:B s.near=aK->B s.far=aD->L<=s.h\/(s.near≠"sea"/\L<=kP fs s.near)
def Uu{L:Int}(h:uJ fs N L B){n a b near d:aA}{c r:Int}(i:F6 [.str n,.str a,.str b,.int c,.int r,s]∈N)(j:near=a/\d=b\/near=b/\d=a):uh fs L B ⟨n,near,d,max c (kP fs d)⟩:=by
 refine⟨wa _ _,λh1 h2=>?_⟩;by_cases f:L<=max c (kP fs d)
 .exact .inl f
 refine .inr (vy λl=>?_);have k:c<L:=Int.lt_of_le_of_lt (y8 _ _) (Int.not_le.mp f);have lf:d="sea"\/kP fs d<L:=.inr (Int.lt_of_le_of_lt (wa _ _) (Int.not_le.mp f));have ln:near="sea"\/kP fs near<L:=by
  by_cases e:near="sea"
  .exact .inl e
  .exact .inr (Int.not_le.mp λg=>l ⟨e,g⟩)
 have e:B a=B b:=by
  rcases j with ⟨rfl,rfl⟩|⟨rfl,rfl⟩
  .exact h.2 _ i (z7 k ln lf)
  .exact h.2 _ i (z7 k lf ln)
 have h1:B near=aK:=h1;have h2:B d=aD:=h2;rcases j with ⟨rfl,rfl⟩|⟨rfl,rfl⟩
 .rw[e,h2]at h1;cases h1
 .rw[←e,h2]at h1;cases h1
def Oa(S:List Mt22.St):ow (S.map fB)=aD:=lN λd m=>by
 obtain⟨s,_,rfl⟩:=cG.mp m;rfl
inductive KQ(C:aB)(x y:V)(H:aC)(Q:aP):Prop
 |mk:∀(p sd:aB)(fs N:M3)(L:Int)(B:aA->Bool),x=.ref p->dU C H p fs N->y=.ref sd->H sd=Z (.dK (oz [] N))->uJ fs N L B->(∀(l:aB)(us:M0)(S:List Mt22.St)(H':aC),aL H H'->H' l=Z (.lst us)->IsL H' (S.map fB) us->S.length<=80->(∀s∈S,uh fs L B s)->Q (.ref l) H')->KQ C x y H Q
def GY(C:aB):bW:=gA (KQ C)
def Xo(T:Txt K mg C):aY P w K mg b_ 2 "steps_inland" ["land","stand_of"] (GY C):=by
 refine T.q05.fc uK fZ ?_;rintro f ce A o_ s H vs Q E ag ⟨x,y,rfl,p,ah,fs,N,L,B,rfl,Ld,rfl,bm,bn,q⟩;have cf:=fJ;have bo:=jT ag;have bp:=(fV Ld).1;have ai:=(fV Ld).2;have cg:=ai.l2;refine⟨_,(bC (cF (i:=2) uK.nd O YU (gX aM)) (bC (kE jF O (eV (jA T.ad (uL T) (ag.mono YR) (pv 0))) (cM (i:=3) uK.nd O YU) (bG (kE jF O (eV (gX (aG (gF (aG (xt 3) (aG (xt 3) aM))) (aG (gF (aG (xt 3) (aG (xt 3) aM))) aM)))) (uj O (kO (cM (i:=4) uK.nd O YU) (kO (cM (i:=5) uK.nd O YU) qp))) (bG (fK (fG oY (pv 5) (l7 T.q55) (eO _)) (bG (jR (lS lT mq mo mC (pv 2) (aG (gF (aG (xt 3) (aG (pv 4) (aG (pv 5) (aG (dH (xL O) O T.q73 xN (aG (iZ bo (pv 1) (xt 3) (λ_ _=>O)) (aG (pi T.ad (Iy T) (ag.mono YR) (pv 0) (aG (pv 5) aM)) aM))) aM))))) aM)))) fH))))) (bG (cH (pv 2))))),dA O,λl az=>?_⟩;have aj:=C7 (o:=.lst []) az;have ak:aI H l (.lst []) l=Z (.lst []):=aV;generalize aI H l (.lst [])=z at aj ak;have aR:=Ld.same aj;obtain⟨dx,ch,ci,bq,_⟩:=aR.ex;refine⟨_,O,p,dx,_,O,bq,jQ _ _ YS YS,_,O,p,fs,N,O,aR,λal b0 H2 b1 br b2 b3=>?_⟩;have bs:al≠l:=(cX ak br).symm;have am:=b1 _ _ ak;have cj:=b3.length;have a2:∀b o,H b=Z o->H2 b=Z o/\b≠l:=λb o e=>⟨b1 _ _ (aj _ _ e),cX e az⟩
 refine⟨al,O,⟨_,C8 b2⟩,qk (K:=K) (a:=al) (xs:=b0) (λi Y H'=>vH λ(an a3 a4:Option V)(us:M0)(S:List Mt22.St)=>Y=[Z (.ref p),Z (.ref ah),Z (.ref l),an,a3,a4]/\kT l H2 H'/\H' l=Z (.lst us)/\IsL H' (S.map fB) us/\S.length<=2*i/\∀s∈S,uh fs L B s)
  ⟨_,_,_,[],[],O,λ_ _ e _=>e,am,O,gU _,λs m=>by cases m⟩ (λi Y H' _ ⟨_,_,_,_,_,_,X,_⟩=>C8 (X _ _ b2 bs)) ?_ ?_⟩
 .rintro i ck Y a9 hi ⟨an,a3,a4,us,S,rfl,X,aa,ao,b4,ap⟩;refine uu λcm bu=>?_;have cn:i<b0.length:=(cR.mp hi).1;obtain⟨d,b5⟩:∃d,N[i]?=Z d:=⟨_,cJ YT⟩
  obtain⟨v,ev,bv⟩:=b3.get b5;rw[hi]at ev;cases ev;have aq:=dM b5;have val:=AW (f:=λd=>D1 (rr [] d)) ai.nd aq;rw[Pf]at val;obtain⟨n,u,D,c,r,co,rfl,_,bw,bx,_⟩:=gE (ai.all d aq);obtain⟨t,cp,rfl,o,_⟩:=oS bv;have a5:=X _ _ o (YH o am);refine⟨_,O,t,_,1,.str u,O,O,D0 a5,bZ (j:=1) O,_,O,t,_,2,.str D,O,O,D0 a5,bZ (j:=2) O,dA O,λG bz=>?_⟩;have a6:=C7 (o:=.tup [.str u,.str D]) bz;have b6:aI a9 G (.tup [.str u,.str D]) G=Z (.tup [.str u,.str D]):=aV;generalize aI a9 G (.tup [.str u,.str D])=b7 at a6 b6 ⊢;refine⟨_,O,t,_,2,.str D,O,O,D0 (a6 _ _ a5),bZ (j:=2) O,_,O,t,_,1,.str u,O,O,D0 (a6 _ _ a5),bZ (j:=1) O,dA O,λI bR=>?_⟩;have R2:=C7 (o:=.tup [.str D,.str u]) bR;have b8:aI b7 I (.tup [.str D,.str u]) I=Z (.tup [.str D,.str u]):=aV;generalize aI b7 I (.tup [.str D,.str u])=b9 at R2 b8 ⊢;refine⟨dA O,λa0 ba=>?_⟩;have ac:=C7 (o:=.lst [.ref G,.ref I]) ba;have ar:aI b9 a0 (.lst [.ref G,.ref I]) a0=Z (.lst [.ref G,.ref I]):=aV;generalize aI b9 a0 (.lst [.ref G,.ref I])=as at ac ar ⊢;have R:=a6.trans (R2.trans ac);have c0:a0≠l:=(cX ((a6.trans R2) _ _ aa) ba).symm;have bb:=R _ _ aa;have bc:∀b o,H2 b=Z o->b≠l->as b=Z o:=λb o e n=>R _ _ (X _ _ e n);have k1:=ac _ _ (R2 _ _ b6);have k2:=ac _ _ b8;refine⟨a0,O,⟨_,C8 ar⟩,qk (K:=K) (a:=a0) (xs:=[.ref G,.ref I]) (λj Y H'=>vG λ(a3 a4:Option V)(us:M0)(S:List Mt22.St)=>Y=[Z (.ref p),Z (.ref ah),Z (.ref l),Z (.ref t),a3,a4]/\kT l as H'/\H' l=Z (.lst us)/\IsL H' (S.map fB) us/\S.length<=2*i+j/\∀s∈S,uh fs L B s)
   ⟨_,_,us,S,O,λ_ _ e _=>e,bb,D2 R _ _ ao,b4,ap⟩ (λj Y H' _ ⟨_,_,_,_,_,X,_⟩=>C8 (X _ _ ar c0)) ?_ ?_⟩
  .rintro j c1 Y au av ⟨c2,c3,a7,ae,rfl,M,U,a8,bd,af⟩;refine uu λcq be=>?_;have c4:j<2:=(cR.mp av).1;obtain⟨q,near,k,rfl,c5,aw,c6⟩:∃(q:aB)(near k:aA),c1=.ref q/\(near=u/\k=D\/near=D/\k=u)/\as q=Z (.tup [.str near,.str k])/\k∈(("sea":aA)::fs.map aN):=by
    match j,c4 with
    |0,_=>cases av;exact⟨G,u,D,O,.inl ⟨O,O⟩,k1,bx⟩
    |1,_=>cases av;exact⟨I,D,u,O,.inr ⟨O,O⟩,k2,bw⟩
   have bf:=M _ _ (R _ _ a5) (YH o am);refine⟨q,_,O,D0 (M _ _ aw (YH aw bb)),O,_,_,O,_,_,O,O,_,O,O,_,O,?_⟩;rw[Sz];by_cases ax:k="sea"
   .rw[B0 ax];exact cC (be _ _ ⟨_,_,a7,ae,O,M,U,a8,YT,af⟩)
   rw[B1 ax];refine dO ?_;obtain⟨g,c7,c8,c9⟩:=PO bp ((dW.mp c6).resolve_left ax);have bg:aL H au:=λb o e=>M _ _ (bc _ _ (a2 _ _ e).1 (a2 _ _ e).2) (a2 _ _ e).2;have bh:=Ld.same bg;obtain⟨ca,cr,cs,cb,_⟩:=bh.ex;refine⟨_,O,.inl ⟨O,_,C8 U⟩,_,O,t,_,0,.str n,O,O,D0 bf,bZ (j:=0) O,_,O,_,O,_,O,_,O,t,_,0,.str n,O,O,D0 bf,bZ (j:=0) O,ah,_,O,.inl ⟨_,C6 n,.inl (bg _ _ bm),O,val.symm⟩,_,O,p,ca,_,O,cb,jQ _ _ YS YS,_,O,_,_,O,p,fs,N,k,g,c7,O,O,bh,c8,_,_,O,dA O,λa1 bi=>?_⟩;have em:(if g>c then g else c)=max c (kP fs k):=by rw[c9];exact Gw c g
   have ay:=C7 (o:=.tup [.str n,.str near,.str k,.int (if g>c then g else c)]) bi;have cc:aI au a1 (.tup [.str n,.str near,.str k,.int (if g>c then g else c)]) a1=Z (.tup [.str n,.str near,.str k,.int (if g>c then g else c)]):=aV;refine⟨l,a7,.ref a1,O,O,ay _ _ U,by have:=a8.length;rw[aS]at this;rw[jC];omega,?_⟩;have cd:a1≠l:=(cX U bi).symm;refine be _ _ ⟨_,_,a7++[.ref a1],ae++[⟨n,near,k,max c (kP fs k)⟩],O,λb o e bj=>by rw[bA bj];exact ay _ _ (M _ _ e bj),aV,?_,by rw[eW,lV];omega,λs m=>?_⟩
   .rw[dJ];refine D9 (d:=fB ⟨n,near,k,max c (kP fs k)⟩) ?_ (FB (λb xs e=>?_) _ _ (Oa _) a8)
    .exact⟨a1,_,O,by rw[bA cd];exact cc,_,_,O,O,_,_,O,O,_,_,O,O,_,_,O,B7 D1 em,O⟩
    .rw[bA (YH e U)];exact ay _ _ e
   .rcases gN.mp m with m|m
    .exact af s m
    .rw[eU.mp m];exact Uu bn aq c5
  .rintro Y au ⟨c2,c3,a7,ae,rfl,M,U,a8,bd,af⟩;exact bu _ _ ⟨_,_,_,a7,ae,O,λb o e n=>M _ _ (bc _ _ e n) n,U,a8,bd,af⟩
 .rintro Y a9 ⟨an,a3,a4,us,S,rfl,X,aa,ao,b4,ap⟩;exact⟨_,O,q l us S a9 (λb o e=>X _ _ (a2 _ _ e).1 (a2 _ _ e).2) aa ao YT ap⟩
structure dL (fs:M3) (L:Int) (B:aA->Bool) (z:aA) (h:Int):Prop where
 up:B z=aD->L<=h
 gr:z="sea"\/kP fs z<=h
def dL.step(c:uh fs L B s)(h:dL fs L B s.near a):dL fs L B s.far (if s.h>a then s.h else a):=by
 rw[Gw];refine⟨λb=>?_,.inr (pb c.gr (wa _ _))⟩;cases e:B s.near with
 |true=>exact pb (h.up e) (y8 _ _)
 |false=>
  rcases c.up e b with x|⟨x,y⟩
  .exact pb x (wa _ _)
  .exact pb y (pb (h.gr.resolve_left x) (y8 _ _))
def dL.min(x:dL fs L B c a)(y:dL fs L B c b):dL fs L B c (if b<a then b else a):=by
 split
 .exact y
 .exact x
def wE(fs:M3)(L:Int)(B:aA->Bool)(J:List (aT×V)):Prop:=∀a v,dE J (C6 a)=Z v->∃h,v=.int h/\dL fs L B a h
inductive JW(C:aB)(x y:V)(H:aC)(Q:aP):Prop
 |mk:∀(p l:aB)(fs N:M3)(L:Int)(B:aA->Bool),x=.ref p->dU C H p fs N->y=.ref l->H l=Z (.lst [])->uJ fs N L B->(∀(d:aB)(J:List (aT×V))(H':aC),aL H H'->wE fs L B J->H' d=Z (.dK (fs.map λd=>(C6 (aN d),(dE J (C6 (aN d))).getD .non)))->Q (.ref d) H')->JW C x y H Q
def Hc(C:aB):bW:=gA (JW C)
def WZ(T:Txt K mg C):aY P w K mg b_ 5 "flood_heights" ["land","opened"] (Hc C):=by
 refine T.q06.fc pp fZ ?_;rintro f bx A o_ s H vs Q E u ⟨x,y,rfl,p,l,fs,N,L,B,rfl,Ld,rfl,b4,ah,q⟩;have bz:=fJ;have M:=jT u;have ai:=(fV Ld).1;have f2:=ai.l2;refine⟨_,(bC (cF (i:=2) pp.nd O YU (bU (Xo T) u (aG (pv 0) (aG (bU (NI T) u (aG (pv 0) (aG (pv 1) aM))) aM)))) (bC (cF (i:=3) pp.nd O (E1 O) (RX (Qs (l7 T.q55) (ux vq (l7 T.q58)) RO) O O (by simp) (Nat.le_of_ble_eq_true O))) (bC (kE jF O (qf O T.q75 (aG (dH (kB (K:=K) O) O T.q71 iY (aG (jA T.ad (rg T) (u.mono YR) (pv 0)) aM)) aM)) (cM (i:=4) pp.nd O YU) (bG (kE jF O (eV (pv 2)) (uj O (kO (cM (i:=5) pp.nd O YU) (kO (cM (i:=6) pp.nd O YU) (kO (cM (i:=7) pp.nd O YU) (kO (cM (i:=8) pp.nd O YU) qp))))) (bG (fK (tc (wR M (pv 6) (pv 3))) (bC (cF (i:=9) pp.nd O YU (dH (xL O) O T.q73 xN (aG (iZ M (pv 3) (pv 6) (λ_ _=>O)) (aG (pv 8) aM)))) (bG (vl M (pv 3) (pv 7) (dH (xK O) O T.q74 uZ (aG (pv 9) (aG (Et M (pv 3) (pv 7) (pv 9) ⟨O,O,O,O⟩) aM))) O))) fH))))) (bG (cH (iX (oQ O) O T.q67 mW (aG (fN ["name","lowest"] 1 [3] O (eV (jA T.ad (rg T) (u.mono YR) (pv 0))) (λR=>cM (i:=0) (YS:eQ (["name","lowest"]:L9)) O YU) (fD YR) (λR=>gQ) (λR=>(gF (aG (pv 0) (aG (Qz M (pv 1) (pv 0) ⟨O,O,O,O⟩) aM))))) aM))))))),?_⟩;refine⟨_,O,_,O,_,O,_,_,O,p,l,fs,N,[],O,Ld,O,b4,gU _,(λU m=>by cases m),λb5 z aj _ b6=>?_⟩;refine⟨_,_,O,p,b5,fs,N,L,B,O,Ld.same aj,O,b6,ah,λa7 us S H2 b7 ak al bR b8=>?_⟩;have b9:=al.length;rw[aS]at b9;have am:=aj.trans b7;refine λdl a8=>?_;refine⟨_,O,aV,[(C6 "sea",.int (-1000000))],O,by show 1<=15;decide,?_⟩;have a9:aL H2 (aI (aI H2 dl (.dK [])) dl (.dK (qx [] [(C6 "sea",.int (-1000000))]))):=(C7 a8).over a8;have an:∃J,aI (aI H2 dl (.dK [])) dl (.dK (qx [] [(C6 "sea",.int (-1000000))])) dl=Z (.dK J)/\J.length<=1/\wE fs L B J:=by
  refine⟨[(C6 "sea",.int (-1000000))],aV,bQ _,λU v e=>?_⟩;by_cases G:U="sea"
  .subst G;rw[l3 O]at e;cases e;exact⟨_,O,⟨λb=>B6 b (by rw[show B "sea"=aK from ah.1];decide),.inl O⟩⟩
  .rw[l4 (λe=>G (pc e).symm)]at e;cases e
 generalize aI (aI H2 dl (.dK [])) dl (.dK (qx [] [(C6 "sea",.int (-1000000))]))=c0 at a9 an;have ao:=Ld.same am;have ap:=ao.same a9;obtain⟨dx,c1,c2,ba,_⟩:=ap.ex;refine⟨_,O,p,dx,_,O,ba,jQ _ _ YS YS,_,O,p,fs,N,O,ap,λln c3 aq _ bb=>?_⟩;refine⟨ln,_,O,.inl (C8 bb),(fs.length:Int),by rw[aS,aS],YT,YT,?_⟩;refine qh (lo:=0) (n:=fs.length) (λi Y H'=>BQ λ(aa a0 a1 a2 a3 a4:Option V)(J:List (aT×V))=>Y=[Z (.ref p),Z (.ref l),Z (.ref a7),Z (.ref dl),aa,a0,a1,a2,a3,a4]/\aL H2 H'/\H' dl=Z (.dK J)/\J.length<=1+i*80/\wE fs L B J)
  (by obtain⟨J,e,r⟩:=an;exact⟨_,_,_,_,_,_,J,O,a9.trans aq,aq _ _ e,r⟩) ?_ ?_
 .rintro i Y bc hi ⟨aa,a0,a1,a2,a3,a4,J,rfl,a5,c,lk,g⟩;refine Aj λc4 bd=>?_;refine⟨_,O,a7,O,⟨_,C8 (a5 _ _ ak)⟩,qk (K:=K) (a:=a7) (xs:=us) (λj Y H'=>BP λ(a0 a1 a2 a3 a4:Option V)(J:List (aT×V))=>Y=[Z (.ref p),Z (.ref l),Z (.ref a7),Z (.ref dl),Z (.int (0+(i:Int))),a0,a1,a2,a3,a4]/\aL H2 H'/\H' dl=Z (.dK J)/\J.length<=1+i*80+j/\wE fs L B J)
   ⟨_,_,_,_,_,J,O,a5,c,lk,g⟩ (λj Y H' _ ⟨_,_,_,_,_,_,_,S,_⟩=>C8 (S _ _ ak)) ?_ ?_⟩
  .rintro j be Y ac ar ⟨bf,bg,bh,bi,bj,J,rfl,D,c,lk,g⟩;refine uu λc5 as=>?_;have c6:j<us.length:=(cR.mp ar).1;obtain⟨st,es⟩:∃st,S[j]?=Z st:=⟨_,cJ YT⟩
   obtain⟨v,ev,bk⟩:=al.get (show(S.map fB)[j]?=Z (fB st) by rw[dB,es];rfl);rw[ar]at ev;cases ev;obtain⟨t,_,rfl,o,_,_,rfl,rfl,_,_,rfl,rfl,_,_,rfl,rfl,_,_,rfl,rfl,rfl⟩:=bk;have bl:J.length<cP:=by rw[jC];omega
   refine⟨t,_,O,D0 (D _ _ o),O,_,_,O,_,_,O,_,_,O,_,_,O,O,?_⟩;refine⟨_,O,_,O,dl,_,O,.inl ⟨J,C6 st.near,.inl c,O,O⟩,_,O,?_⟩;cases au:dE J (C6 st.near) with
   |none=>exact cC (as _ _ ⟨_,_,_,_,_,J,O,D,c,YT,g⟩)
   |some v=>
    refine dO ?_;obtain⟨a,rfl,bm⟩:=g _ _ au;have u:=bm.step (b8 st (dM es));refine⟨_,O,_,O,dl,.int a,O,.inl ⟨J,C6 st.near,.inl c,O,au.symm⟩,_,O,_,_,O,?_⟩;generalize (if st.h>a then st.h else a)=av at u ⊢;obtain⟨b,bn,ae⟩:∃b,(dE J (C6 st.far)).getD (.int av)=.int b/\dL fs L B st.far b:=by
     cases e:dE J (C6 st.far) with
     |none=>exact⟨av,O,u⟩
     |some w=>
      obtain⟨b,rfl,ae⟩:=g _ _ e;exact⟨b,O,ae⟩
    refine⟨_,O,_,O,dl,O,.inl ⟨_,.inl c⟩,_,O,_,O,_,kL.k (k:=C6 st.far) c,_,_,by rw[bn],?_⟩;refine⟨_,O,_,O,dl,_,O,.inl ⟨J,C6 st.far,c,O,bl,O⟩,?_⟩;refine as _ _ ⟨_,_,_,_,_,_,O,D.over a8,aV,?_,λU v e=>?_⟩
    .exact dN (xr _ _ _) YT
    .rw[Qa]at e;by_cases G:(C6 U:aT)=C6 st.far
     .rw[B4 G]at e;cases e;cases G;exact⟨_,O,u.min ae⟩
     .rw[B3 G]at e;exact g U v e
  .rintro Y ac ⟨bf,bg,bh,bi,bj,J,rfl,D,c,lk,g⟩;exact bd _ _ ⟨_,_,_,_,_,_,J,O,D,c,by rw[Nat.succ_mul];omega,g⟩
 .rintro Y bc ⟨aa,a0,a1,a2,a3,a4,J,rfl,a5,c,lk,g⟩;have aw:=ao.same a5;obtain⟨bo,c7,c8,bp,_⟩:=aw.ex;refine⟨_,O,p,bo,_,O,bp,jQ _ _ YS YS,_,O,p,fs,N,O,aw,λbq ac D _ ax=>?_⟩;have ay:=D _ _ c;refine⟨bq,O,⟨_,C8 ax⟩,?_⟩;refine fU (F:=K) (xs:=(fs.map aN).map C9) (by rw[aS,aS];omega) (λi ys H'=>aL ac H'/\fF H' ys ((fs.take i).map λd=>(C6 (aN d),(dE J (C6 (aN d))).getD .non))) ⟨D7 _,GT _⟩ ?_ ?_ ?_
  .rintro i ys H' c9 ⟨a6,I⟩;have:=I.len;rw[aS,dY]at this;exact⟨C8 (a6 _ _ ax),YT⟩
  .rintro i be ys H' ca cb af ⟨a6,I⟩ k1 k2;have az:=(cR.mp af).1;rw[aS,aS]at az;obtain⟨d,aR⟩:∃d,fs[i]?=Z d:=⟨_,cJ az⟩
   rw[dB,dB,aR]at af;cases af;refine⟨_,O,_,O,dl,O,.inl ⟨_,.inl (a6 _ _ ay)⟩,_,O,_,kL.k (k:=C6 (aN d)) (a6 _ _ ay),?_⟩;refine⟨dA O,λcc b0=>k1 _ _ ⟨a6.trans (C7 b0),?_⟩⟩;rw[dR,aR,dJ];exact G4 (k:=C6 (aN d)) I b0
  rintro ys ce ⟨br,I⟩;rw[aS,aS,dP (bQ _)]at I;intro bs bu;have b1:=C7 (o:=.lst ys) bu;have bv:=am.trans (a5.trans (D.trans (br.trans b1)));refine⟨bs,ys,_,O,C8 aV,I.same b1,by rw[aS];omega,?_,λcd bw=>?_⟩
  .rw[eP];exact uX ai.nd
  .exact q cd J _ (bv.trans (C7 bw)) g aV
inductive Kg(C:aB)(x y u:V)(H:aC)(Q:aP):Prop
 |mk:∀(p l:aB)(fs N:M3)(zs:L9)(L:Int)(B:aA->Bool),x=.ref p->dU C H p fs N->y=.ref l->H l=Z (.lst (zs.map C9))->1<=zs.length->zs.Nodup->(∀z∈zs,z∈fs.map aN)->u=.int L->fC L=aD->uJ fs N L B->(∀z∈zs,B z=aD)->(∀H',aL H H'->Q (.bl aD) H')->Kg C x y u H Q
def E4(C:aB):bW:=kU (Kg C)
def Op(T:Txt K mg C):aY P w K mg b_ 6 "keeps" ["land","fields","height"] (E4 C):=by
 refine T.q10.fc BZ lA ?_;rintro f ak A o_ s H vs Q E b ⟨x,y,u,rfl,p,l,fs,N,zs,j,B,rfl,L,rfl,k,a5,n,sub,rfl,a6,a7,a8,q⟩;have al:=fJ;have r:=jT b;have t:=(fV L).1;have f2:=t.l2;have am:zs.length<=fs.length:=by
  have:=uq n sub;rw[aS]at this;exact this
 refine⟨_,(bC (jR (bU (xg T) b (aG (pv 0) (aG (pv 1) (aG (pv 2) aM))))) (bC (cF (i:=3) BZ.nd O (E1 O) (bU (WZ T) b (aG (pv 0) (aG (gX aM) aM)))) (bG (cH (dH (pz O) O T.q65 px (aG (fN ["name","height","heights"] 1 [2,3] O (eV (pv 1)) (λR=>cM (i:=0) (YS:eQ (["name","height","heights"]:L9)) O YU) (fD YR) (λR=>gQ) (λR=>(Ag (lF z1 (iZ r (pv 2) (pv 0) (λ_ _=>O)) nl (eO _)) (kR (lF Hh (iZ r (pv 2) (pv 0) (λ_ _=>O)) (pv 1) (eO _)))))) aM)))))),_,O,_,O,_,O,_,_,_,O,p,l,fs,N,zs,j,O,L,O,k,a5,n,sub,O,a6,λz D=>⟨_,O,dA O,λle a9=>?_⟩⟩;have G:=C7 (o:=.lst []) a9;refine⟨_,_,O,p,le,fs,N,j,B,O,(L.same D).same G,O,aV,a7,λI J aa ac ae M=>?_⟩;have U:=D.trans (G.trans ac);have Y:=U _ _ k;refine⟨_,O,l,O,⟨_,C8 Y⟩,fU (F:=K) (xs:=zs.map C9) (by rw[aS];omega) (λi ys H'=>aa=H'/\ys=((zs.take i).map λ_=>aD).map GE) ⟨O,O⟩ ?_ ?_ ?_⟩
 .rintro i ys H' an ⟨rfl,rfl⟩;exact⟨C8 Y,by rw[aS,aS,dY];omega⟩
 .rintro i ao ys H' ap aq e ⟨rfl,rfl⟩ k1 k2;obtain⟨a,g⟩:∃a,zs[i]?=Z a:=by
   have:=(cR.mp e).1;rw[aS]at this;exact⟨_,cJ this⟩
  rw[dB,g]at e;cases e;have a0:=dM g;have af:=a8 a a0;obtain⟨d,ag,rfl⟩:=cG.mp (sub a a0);have val:=AW (f:=λd=>(dE J (C6 (aN d))).getD .non) t.nd ag;have a1:((zs.take (i+1)).map λ_=>aD).map GE=((zs.take i).map λ_=>aD).map GE++[GE aD]:=by
   rw[dR,g,dJ,dJ];rfl
  refine⟨_,O,_,O,I,_,O,.inl ⟨_,C6 (aN d),.inl M,O,val.symm⟩,O,_,O,?_⟩;cases a2:dE J (C6 (aN d)) with
  |none=>exact dO (k1 _ _ ⟨O,a1.symm⟩)
  |some v=>
   obtain⟨c,rfl,ah⟩:=ae _ _ a2;refine cC ⟨_,O,_,O,I,.int c,O,.inl ⟨_,C6 (aN d),.inl M,O,by rw[val,a2];rfl⟩,_,O,_,_,O,O,k1 _ _ ⟨O,?_⟩⟩;rw[a1,B0 (ah.up af)]
 rintro ys H' ⟨rfl,rfl⟩;rw[aS,dP (bQ _)];intro ai aj;refine⟨ai,zs.map λ_=>aD,O,C8 aV,?_⟩;rw[ku.mpr (λx m=>by obtain⟨_,_,rfl⟩:=cG.mp m;rfl)];exact q _ (U.trans (C7 aj))
def Co(k:∀b o,H b=Z o->(∀ps,o≠.tbl ps)->H' b=Z o)(h:dU C H x fs N):dU C H' x fs N:=by
 have D:sm H H':=λb o e d=>k b o e (λps c=>by rw[c]at d;cases d);have tb:∀{a:aB} {N:M3},oy H a N->oy H' a N:=fun⟨J,e,k1,i⟩=>⟨J,D _ _ e O,k1,F8 D _ _ i⟩
 obtain⟨⟨dx,f,g,e,j,l⟩,a,b⟩:=h;exact⟨⟨dx,f,g,k _ _ e nofun,tb j,tb l⟩,a,b⟩
def jP.keepB(k:iH c H H')(t:gz c H)(M:jP r C H p dp lw pl fs gs pu wk):jP r C H' p dp lw pl fs gs pu wk:=by
 obtain⟨ps,l,_⟩:=t;obtain⟨dx,F,J,us,H0,h1,h2,m,h,q,i,s,u,w,x,L,y⟩:=M;have f:∀{b:aB} {o:cY},H b=Z o->(∀ps,o≠.tbl ps)->b≠c:=λe n a=>by rw[a,l]at e;exact n _ (eA e).symm
 have j:∀b o,H0 b=Z o->(∀ps,o≠.tbl ps)->(if b=c then aF else H0 b)=Z o:=λb o e n=>by rw[B3 (f (s _ _ e) n)];exact e
 have g:∀b,H0 b=aF->(if b=c then aF else H0 b)=aF:=λb e=>by rw[e];split<;>rfl
 refine⟨dx,F,J,us,λb=>if b=c then aF else H0 b,k _ _ (f h1 nofun) h1,h2,m,k _ _ (f h nofun) h,q.same (λb xs e=>k _ _ (f e nofun) e),k _ _ (f i nofun) i,λb o e=>?_,g _ u,g _ w,g _ x,Co j L,F8 (λb o e d=>j b o e (λps a=>by rw[a]at d;cases d)) _ _ y⟩;have e:(if b=c then aF else H0 b)=Z o:=e;by_cases a:b=c
 .rw[B4 a]at e;cases e
 .rw[B3 a]at e;exact k _ _ a (s _ _ e)
noncomputable def pP(ws:L9)(L c:Int):aH:=.tup [.lst (ws.map E8),.int L,.int c]
structure Me (r C Tb:aB) (H Hm:aC) (p lb la db lq:aB) (fs gs wk:M3) (pu:aA->Int×Int) (ws:L9) (L:Int) (f:dX) (R Bk:L9) (B:Nat):Prop where
 S:aL Hm H
 nb:Hm db=aF
 nT:Hm Tb=aF
 tab:gz Tb H
 hlb:∃pl ld ud,Hm lb=Z (.lst [.ref pl,.ref db,.ref ld])/\dU C Hm pl fs gs/\Hm ld=Z (.lst ud)/\IsL Hm wk ud
 hla:Hm la=Z (.lst [.ref lq,.int L,.int (val (bD fs gs L) f)])
 hlq:Hm lq=Z (.lst (ws.map C9))
 hdb:∃kb,H db=Z (.dK kb)/\eS Hm kb (fs.map aN) pu
 M:∃dp lw pl',jP r C Hm p dp lw pl' fs (mi gs ((iE (bD fs gs L) R Bk).map (kD L))) (λz=>if z∈ws then low ((pu z).1*(kq (bD fs gs L) ws z).2+-1*(kq (bD fs gs L) ws z).1*(pu z).2) ((pu z).2*(kq (bD fs gs L) ws z).2) else pu z) (wk++[pP ws L (val (bD fs gs L) f)])
 st:Stream ("sea" :: fs.map aN) (bD fs gs L) ws f
 rd:nU (bD fs gs L) f ws R Bk
 n1:1<=ws.length
 n5:ws.length<=5
 nd:ws.Nodup
 sub:∀z∈ws,z∈fs.map aN
 hL:fC L=aD
 pk:lx B pu (fs.map aN)
 hB:B<=10^56
 lw:∀z∈fs.map aN,low (pu z).1 (pu z).2=pu z/\0<=(pu z).1
 ns:∀z∈ws,oh pu (kq (bD fs gs L) ws) z=aK
 isw:∀d∈wk,p9 d
 lk:wk.length<=50
inductive Kb(r C Tb:aB)(x y u:V)(H:aC)(Q:aP):Prop
 |mk:∀(Hm:aC)(p lb la db lq:aB)(fs gs wk:M3)(pu:aA->Int×Int)(ws:L9)(L:Int)(f:dX)(R Bk:L9)(B:Nat),x=.ref p->y=.ref lb->u=.ref la->Me r C Tb H Hm p lb la db lq fs gs wk pu ws L f R Bk B->(∀H',aL Hm H'->gz Tb H'->Q (.bl aD) H')->Kb r C Tb x y u H Q
def Ge(r C a:aB):bW:=kU (Kb r C a)
theorem EF:∀{N:M3} {vs:M0},IsL H (N++[d]) vs->∃us v,vs=us++[v]/\IsL H N us/\bY H d v
 |[],_,⟨v,_,e,h,a⟩=>⟨[],v,by rw[e,show _=([]:M0) from a];rfl,O,h⟩
 |_::_,_,⟨v,r,e,h,t⟩=>by
  obtain⟨us,w,a,h2,b⟩:=EF t;exact⟨v::us,w,by rw[e,a];rfl,⟨v,us,O,h,h2⟩,b⟩
def Ri(h:p9 d):iN 29 d=aD:=by
 obtain⟨ws,h,c,rfl,_⟩:=h;have:jK 27 (ws.map E8)=aD:=Bf λd m=>by
  obtain⟨a,_,rfl⟩:=cG.mp m;rfl
 simp[iN,jK,this]
def Gu:aL (nw H H') H':=λb o e=>(ov e).2
def PF(T:Txt K mg C){r c Y:aB}(B:nh K mg b_ "lists_of_places" c Y)(ak:mg "Moot"=Z (.ref r)):aY P w K mg b_ 10 "_law_good" ["_law_moot","_law_before","_law_asked"] (Ge r C Y):=by
 obtain⟨e6,aa,bd,e7,e8,e9,ea,eb,ec,ed,ee,ef⟩:=T.Ze
 rw[ak] at bd
 cases bd
 have ci:aY P w K mg b_ 4 "_law_paid" ["_law_before","_law_after","_law_told"] Gb:=PE T
 have cj:aY P w K mg b_ 2 "_law_works" ["_law_land","_law_behind"] (GX C):=Oq T
 have ck:aY P w K mg b_ 6 "fewest" ["land","fields","height"] (xV C):=AM T
 have cm:aY P w K mg b_ 9 "shares" ["land","fields","height"] (BG C Y):=LO T B
 have cn:aY P w K mg b_ 5 "coins_of" ["land","works"] (Bn C):=Jx T
 have co:aY P w K mg b_ 6 "keeps" ["land","fields","height"] (E4 C):=Op T
 have cp:=Ix (P:=P) (w:=w) (b_:=b_) T ak
 have be:=IW (P:=P) (w:=w) (b_:=b_) T ak
 have bf:=IX (P:=P) (w:=w) (b_:=b_) T ak
 refine T.q53.fc pw lA (fun f eg A o_ s H vs Q E k h=>?_)
 obtain⟨x,y,u,rfl,ac,p,cq,cr,al,a4,fs,gs,wk,pu,ws,L,D,R,bg,B,rfl,rfl,rfl,g,q⟩:=h
 have eh:=jT k
 obtain⟨S,cs,ct,bh,⟨pl,ld,I,cu,Ld,bi,aR⟩,cv,am,⟨cw,a5,cx⟩,⟨dp,lw,a2,M⟩,st,ae,a6,bj,b0,sub,a7,bk,cy,cz,ns,cI,lk⟩:=g
 refine⟨_,(bC (Gq (pv 1) (Fj rfl (kO (cM (i:=3) pw.nd rfl (D5 rfl)) (kO (cM (i:=4) pw.nd rfl (D5 rfl)) (kO (cM (i:=5) pw.nd rfl (D5 rfl)) qp))))) (bC (Gq (pv 2) (Fj rfl (kO (cM (i:=6) pw.nd rfl (D5 rfl)) (kO (cM (i:=7) pw.nd rfl (D5 rfl)) (kO (cM (i:=8) pw.nd rfl (D5 rfl)) qp))))) (bC (fK (F7 (lR (fG oY (pv 8) (iO (oa (K:=K) rfl) (bU ck k (aG (pv 3) (aG (pv 6) (aG (pv 7) aM)))) bB (fun _ _=>rfl)) (eO _)) (mD (iM (gW (bU ci k (aG (pv 4) (aG (jA aa cp (k.mono (by decide)) (pv 0)) (aG (bU cm k (aG (pv 3) (aG (pv 6) (aG (pv 7) aM)))) aM))))))))) (bG (cH mF)) fH) (bC (cF (i:=9) pw.nd rfl (D5 rfl) (bU cj k (aG (pv 3) (aG (jA aa be (k.mono (by decide)) (pv 0)) aM)))) (bC (fK (F7 (lR (fG z1 (pv 9) nl (eO _)) (lR (fG oY (bU cn k (aG (pv 3) (aG (pv 9) aM))) (pv 8) (eO _)) (mD (iM (gW (bU co k (aG (jA aa be (k.mono (by decide)) (pv 0)) (aG (pv 6) (aG (pv 7) aM)))))))))) (bG (cH mF)) fH) (bC (cF (i:=10) pw.nd rfl (D5 rfl) (jA aa bf (k.mono (by decide)) (pv 0))) (bC (fK (fG (um k.units) (pv 10) (bK tf (pv 5) (gX (aG (gF (aG (pv 6) (aG (pv 7) (aG (pv 8) aM)))) aM))) (eO _)) (bG (cH mF)) fH) (bC (jR (lS lT mq mo mC (iO (oa (K:=K) rfl) (iO (mf (K:=K) rfl) (pv 10) (ux vq bB) (fun _ _=>rfl)) bB (fun _ _=>rfl)) (aG qw aM))) (bG (cH (lF (Gs k.units) (jA aa bf (k.mono (by decide)) (pv 0)) (bK tf (pv 5) (gX (aG (gF (aG (pv 6) (aG (pv 7) (aG (pv 8) aM)))) aM))) (eO _)))))))))))),?_⟩
 refine⟨_,rfl,cq,_,rfl,C8 (S _ _ cu),rfl,_,_,rfl,_,_,rfl,_,_,rfl,rfl,?_⟩
 refine⟨_,rfl,cr,_,rfl,C8 (S _ _ cv),rfl,_,_,rfl,_,_,rfl,_,_,rfl,rfl,?_⟩
 refine⟨_,rfl,_,rfl,_,rfl,_,rfl,_,_,_,rfl,pl,a4,fs,gs,ws,L,rfl,Ld.same S,rfl,S _ _ am,a6,b0,sub,rfl,a7,fun t b1 ei ej ek cL el en z a0 eo _ _ _ b2 _ _ _ _ cO cS=>?_⟩
 have af:=(fV Ld).1
 have U:=(fV Ld).2
 have an:=oU af U L
 have cT:D3∉ws:=fun m=>Gn af (sub _ m) rfl
 have ev:val (bD fs gs L) cL=val (bD fs gs L) D:=by rw[← sk (xq an cO cS),sk (xq an st ae)]
 refine⟨t,_,0,_,rfl,rfl,D0 b2,bZ (j:=0) rfl,rfl,_,rfl,?_⟩
 rw[ev,B0 rfl]
 refine cC ?_
 have b3:=S.trans a0
 obtain⟨dx,F,J,us,H0,ag,cV,_⟩:=M.ex
 have np:∀ m:aA,¬ m∈w7→F.lookup m=aF:=cV.no
 refine⟨_,rfl,_,rfl,p,dx,F,rfl,b3 _ _ ag,np _ (by decide +kernel),_,rfl,p,dp,lw,a2,fs,_,_,_,rfl,M.same b3,fun a8 kp ah fp=>?_⟩
 have a3:=C7 (o:=.dK kp) ah
 have bl:aI z a8 (.dK kp) a8=Z (.dK kp):=aV
 generalize aI z a8 (.dK kp)=H2 at a3 bl ⊢
 have b4:=b3.trans a3
 refine⟨_,rfl,_,rfl,_,rfl,_,_,_,rfl,pl,a4,fs,gs,ws,L,rfl,Ld.same b4,rfl,b4 _ _ am,a6,bj,b0,sub,rfl,a7,F1 bh (a0.trans a3),fun N ks bm k3 d0 bn d1 shr=>?_⟩
 have d2:∀ {b:aB} {o:cY},ac b=Z o→b≠Y:=fun e a=>by rw[a,ct] at e;cases e
 have bo:aL ac bm:=fun b o e=>k3 _ _ (d2 e) (b4 _ _ e)
 obtain⟨ps,b5,_⟩:=id bh
 have bp:al≠Y:=fun a=>by rw[a,b5] at a5;cases a5
 have d3:a8≠al:=fun a=>by rw[a,a0 _ _ a5] at ah;cases ah
 have d4:a8≠Y:=fun a=>by rw[a,a0 _ _ b5] at ah;cases ah
 have d5:N≠al:=fun a=>by rw[a,a3 _ _ (a0 _ _ a5)] at bn;cases bn
 have d6:gG z bm:=fun b xs e=>k3 _ _ (fun a=>by rw[a,a0 _ _ b5] at e;cases e) (a3 _ _ e)
 have d7:=wP af U a7 a6 bj cT
 refine⟨_,_,_,rfl,al,a8,N,cw,kp,ks,fs.map aN,ws,pu,_,kq (bD fs gs L) ws,B,rfl,rfl,rfl,k3 _ _ bp (a3 _ _ (a0 _ _ a5)),cx.same (sX bo),k3 _ _ d4 bl,fp.same d6,d1,shr,d3,d5,bk,d7,dN cy (by decide +kernel),by rw[aS];exact af.l2,fun a m=>?_,fun bq br=>⟨_,rfl,cC ?_⟩⟩
 ·obtain⟨d8,d9⟩:=cz a m
  have bs:=bk a m
  by_cases ai:a∈ws
  ·simp only[B4 ai]
   refine⟨?_,tR ?_ (vX _)⟩
   ·unfold uD
    rw[B4 ai,Fm ⟨bs.1,bs.2.1⟩ d8]
   ·have:=Int.not_lt.mp (B8 (ns a ai))
    rw[y7,qY]
    omega
  ·simp only[B3 ai]
   refine⟨?_,d9⟩
   unfold uD
   rw[B3 ai]
 have aj:aL ac bq:=fun b o e=>br _ _ (bo _ _ e) (fun a=>by rw[a,cs] at e;cases e)
 have da:gz Y bq:=pJ d0 fun b o e a6 _ _=>br _ _ e (fun a=>by rw[a,k3 _ _ bp (a3 _ _ (a0 _ _ a5))] at e;exact a6 _ (eA e).symm)
 have ao:=xv U a7 an ae.bout
 have pm:=PZ U ao (PY U)
 have bu:=M.lnd
 refine⟨_,rfl,_,rfl,p,dx,F,rfl,aj _ _ ag,np _ (by decide +kernel),_,rfl,p,dp,lw,a2,fs,_,_,_,rfl,M.same aj,_,_,rfl,pl,a2,fs,gs,_,rfl,Ld.same aj,rfl,bu.same aj,Fo U ao fun d m=>m,fun bv db ep bw eq dc dd=>?_⟩
 have a9:=aj.trans bw
 refine⟨_,rfl,rfl,_,rfl,?_⟩
 rw[show G9 (F2 bv=G5)=aK from rfl]
 refine cC ⟨_,rfl,_,rfl,_,_,rfl,pl,fs,gs,_,rfl,Ld.same a9,⟨bv,db,rfl,dc,dd⟩,?_,⟨fun d m=>ao.all d (pm.mem_iff.mp m),(pm.map aN).nodup_iff.mpr ao.nd⟩,_,rfl,rfl,_,rfl,?_⟩
 ·refine dN (List.length_filterMap_le _ _) ?_
  have:=U.l2
  rw[wg]
  omega
 have de:ur gs ((gs.zip (mi gs ((iE (bD fs gs L) R bg).map (kD L)))).filterMap lg)=val (bD fs gs L) D:=by
  rw[← LX U an st ae]
  exact Fc pm
 rw[de,B0 rfl]
 refine cC ⟨_,rfl,p,dx,F,rfl,a9 _ _ ag,np _ (by decide +kernel),_,rfl,p,dp,lw,a2,fs,_,_,_,rfl,M.same a9,_,rfl,_,rfl,_,_,_,rfl,a2,a4,fs,_,ws,L,uQ bg,rfl,bu.same a9,rfl,a9 _ _ am,a6,b0,sub,rfl,a7,Of af U a7 st ae,(fun a m=>B0 (ae.win a m)),fun er bx=>⟨_,rfl,?_⟩⟩
 have ap:=a9.trans bx
 have b6:∀ d∈wk++[pP ws L (val (bD fs gs L) D)],p9 d:=fun d m=>by
  rcases gN.mp m with m | m
  ·exact cI d m
  ·rw[eU.mp m]
   exact⟨ws,L,_,rfl,by omega⟩
 have b1:(wk++[pP ws L (val (bD fs gs L) D)]).length≤100:=by rw[eW,lV];omega
 refine cC ⟨_,rfl,p,dx,F,rfl,ap _ _ ag,np _ (by decide +kernel),_,rfl,p,dp,lw,a2,fs,_,_,_,rfl,M.same ap,b6,b1,fun bz df es bR et c0 c1=>?_⟩
 have c2:=ap.trans bR
 refine⟨_,rfl,_,rfl,_,rfl,_,rfl,_,rfl,dA rfl,fun aq dg=>⟨dA rfl,fun dh di=>?_⟩⟩
 have c3:iN 30 (.lst (wk++[pP ws L (val (bD fs gs L) D)]))=aD:=EI fun d m=>Ri (b6 d m)
 have c4:=aR.length
 have c5:∀ {G:aC} {t l:aB} {ar b7:cY},aL ac G→G t=aF→ar=.tup [.ref a4,.int L,.int (val (bD fs gs L) D)]→(aI G t ar) l=aF→b7=.lst [.ref t]→∃ H',H'=aI (aI G t ar) l b7∧aL G H'∧H' l=Z (.lst [.ref t])∧bY H' (pP ws L (val (bD fs gs L) D)) (.ref t):=by
  intro G t l ar b7 dj b2 c6 dk c7
  subst c6 c7
  have c8:=C7 (o:=.tup [.ref a4,.int L,.int (val (bD fs gs L) D)]) b2
  have b8:=C7 (o:=.lst [.ref t]) dk
  refine⟨_,rfl,c8.trans b8,aV,t,_,rfl,b8 _ _ aV,_,_,rfl,⟨a4,_,rfl,b8 _ _ (c8 _ _ (dj _ _ am)),rn ws⟩,_,_,rfl,rfl,_,_,rfl,rfl,rfl⟩
 obtain⟨c9,dm,ca,dq,dr⟩:=c5 c2 dg rfl di rfl
 rw[← dm]
 have cb:=c2.trans ca
 refine⟨ld,dh,I,_,rfl,rfl,cb _ _ bi,dq,by rw[c4,jC];show wk.length+1≤_;omega,fun as ds=>?_⟩
 have au:=C7 (o:=.lst (I++[.ref aq])) ds
 have cc:aI c9 as (.lst (I++[.ref aq])) as=Z (.lst (I++[.ref aq])):=aV
 generalize aI c9 as (.lst (I++[.ref aq]))=b9 at au cc ⊢
 have a1:=ca.trans au
 have cd:=cb.trans au
 refine u1 (.lst (wk++[pP ws L (val (bD fs gs L) D)])) ⟨bz,df,rfl,a1 _ _ c0,D2 (Gu.trans a1) _ _ c1⟩ ⟨as,_,rfl,cc,D9 (F9 au _ _ dr) (D2 cd _ _ aR)⟩ c3 (cC ?_)
 obtain⟨eu,v,rfl,_,dt,_,rfl,du,_,_,rfl,⟨av,_,rfl,aw,dv⟩,_,_,rfl,c6,_,_,rfl,c7,rfl⟩:=EF c1
 cases uO dv
 refine⟨_,rfl,1,rfl,bz,_,-1,_,rfl,rfl,C8 (a1 _ _ c0),Rh _ _,dt,_,0,_,rfl,rfl,D0 (a1 _ _ (ov du).2),bZ (j:=0) rfl,.inl ⟨rfl,_,C8 (a1 _ _ (ov aw).2)⟩,av,_,_,rfl,rfl,a1 _ _ (ov aw).2,by rw[aS,jC];omega,?_⟩
 have ba:∀ b o,b9 b=Z o→b≠av→aI b9 av (.lst (ws.map C9++[.str "x"])) b=Z o:=fun b o e n=>by rw[bA n];exact e
 have dw:=a1 _ _ (ov aw).2
 generalize aI b9 av (.lst (ws.map C9++[.str "x"]))=ce at ba ⊢
 have bb:aL ac ce:=fun b o e=>ba _ _ (cd _ _ e) (fun a=>by rw[a] at e;have:=ap _ _ e;rw[(ov aw).1] at this;cases this)
 have dy:gz Y ce:=pJ (F1 da (bw.trans (bx.trans (bR.trans a1)))) fun b o e _ dz _=>ba _ _ e (fun a=>by rw[a,dw] at e;exact dz _ (eA e).symm)
 refine⟨_,rfl,p,dx,F,rfl,bb _ _ ag,np _ (by decide +kernel),_,rfl,p,dp,lw,a2,fs,_,_,_,rfl,M.same bb,b6,b1,fun dF dK ew SB ex dS dT=>?_⟩
 have bc:=bb.trans SB
 refine⟨_,rfl,_,rfl,_,rfl,_,rfl,dA rfl,fun tC dV=>⟨dA rfl,fun e0 e1=>?_⟩⟩
 obtain⟨cf,e2,SC,e3,e4⟩:=c5 bc dV rfl e1 rfl
 rw[← e2]
 have cg:=bc.trans SC
 refine⟨ld,e0,I,_,rfl,rfl,cg _ _ bi,e3,by rw[c4,jC];show wk.length+1≤_;omega,fun ax e5=>?_⟩
 have ay:=C7 (o:=.lst (I++[.ref tC])) e5
 have ch:aI cf ax (.lst (I++[.ref tC])) ax=Z (.lst (I++[.ref tC])):=aV
 generalize aI cf ax (.lst (I++[.ref tC]))=ey at ay ch ⊢
 have az:=SC.trans ay
 exact HD (.lst (wk++[pP ws L (val (bD fs gs L) D)])) ⟨dF,dK,rfl,az _ _ dS,D2 (Gu.trans az) _ _ dT⟩ ⟨ax,_,rfl,ch,D9 (F9 ay _ _ e4) (D2 (cg.trans ay) _ _ aR)⟩ c3 (q _ (bc.trans az) (F1 dy (SB.trans az)))
theorem CA:∀{zs:L9} {g:aA},g∉zs->dE (kG zs c) (C6 g)=aF
 |[],_,_=>rfl
 |z::zs,g,m=>by
  have h1:¬z=g:=λe=>m (by rw[e];exact eB);have:=CA (c:=c) (zs:=zs) (g:=g) (λh=>m (eK _ h));unfold dE kG at this ⊢;rw[dD,List.find?_cons_of_neg (by simp[h1])];exact this
def Rc(h:∀a∈zs,c a=c' a):kG zs c=kG zs c':=by
 unfold kG;exact m3 λa m=>by rw[h a m]
def PT(m:g∉zs):iI (kG zs c) (C6 g) (.int b)=kG (zs++[g]) λa=>if a=g then b else c a:=by
 rw[Em _ (CA m),Rc (c':=λa=>if a=g then b else c a) (λa d=>by simp only[B3 (show ¬a=g from λe=>m (e▸d))])];unfold kG;rw[dJ,List.map_singleton];simp only[if_true]
def IH:(10:Int)^(12:Int).toNat=1000000000000:=YR
def VO{A B:Prop}(h:b=aK)(a:B):if b=aD then A else B:=by
 subst h;exact cC a
def Sm(h:IsL H N vs){i:Int}(b:0<=i)(h1:i<N.length):∃d v,d∈N/\lZ vs i=Z v/\bY H d v:=by
 obtain⟨k,rfl⟩:=l8 b;obtain⟨d,a⟩:∃d,N[k]?=Z d:=⟨_,cJ YT⟩
 obtain⟨v,ev,c⟩:=h.get a;exact⟨d,v,dM a,bZ ev,c⟩
structure oM (K:bJ) (a lf lw:aB) (vf:M0) (fs:M3) (G:aC):Prop where
 scr:ng K G (.ref a)
 na:a≠lw\/∀G',ng K G' (.ref a)
 hf:G lf=Z (.lst vf)
 nf:lf≠lw
 hif:IsL G fs vf
section
variable{a lf lw:aB}{vf:M0}{fs:M3}{G G':aC}
def oM.same(S:aL G G')(h:oM K a lf lw vf fs G):oM K a lf lw vf fs G':=⟨h.scr.same S,h.na,S _ _ h.hf,h.nf,D2 S _ _ h.hif⟩
def oM.mv(j:G p=Z (.ins u dx F))(r:G dp=Z (.dK J))(t:gz i G)(w:∃us,G lw=Z (.lst us))(x:∀d∈fs,jY d=aD)
 (k:∀b o,G b=Z o->b≠p->b≠dp->b≠lw->b≠i->G' b=Z o)(h:oM K a lf lw vf fs G):oM K a lf lw vf fs G':=by
 obtain⟨ps,s,_⟩:=t;obtain⟨A,y⟩:=w;have f:∀{b:aB} {xs:M0} {o:cY},(o=.lst xs\/∃c,o=.frz c (.lst xs))->G b=Z o->b≠lw->G' b=Z o:=λ{b xs o} g e n=>k _ _ e (λc=>by rw[c,j]at e;rcases g with rfl|⟨c,rfl⟩<;>cases e) (λc=>by rw[c,r]at e;rcases g with rfl|⟨c,rfl⟩<;>cases e) n (λc=>by rw[c,s]at e;rcases g with rfl|⟨c,rfl⟩<;>cases e);have z:gG G G':=λb xs e=>k _ _ e (YH e j) (YH e r) (YH e y) (YH e s);refine⟨?_,h.na,f YU h.hf h.nf,h.nf,FB z _ _ (lN λd m=>Bg (x d m)) h.hif⟩;rcases h.na with n|n
 .obtain⟨b,ns,e,q,l⟩:=h.scr;cases e;refine⟨a,ns,O,?_,l⟩;rcases q with (e|⟨o,e⟩)|e
  .exact .inl (.inl (f YU e n))
  .exact .inl (.inr ⟨o,f (.inr ⟨o,O⟩) e n⟩)
  .exact .inr e
 .exact n G'
end
def Tz:HA (xP r C h j m n):=λvs H Q ah E ai o e ⟨p,dp,lw,pl,l,s,fs,gs,pu,wk,ws,L,es,us,B,ev,M,h1,h2,u,w,x,y,A,D,G,I,J,N,T,U,Y,a0,q⟩=>⟨p,dp,lw,pl,l,s,fs,gs,pu,wk,ws,L,es,us,B,ev,M,h1,h2,u,w,x,y,A,D,G,I,J,N,T,U,Y,λa H' S=>e _ _ _ (a0 a H' S),λys f g=>⟨λa H' k t=>e _ _ _ ((q ys f g).1 a H' k t),λa=>⟨λi z a1 a2 a3 d H' k t a4=>e _ _ _ (((q ys f g).2 a).1 i z a1 a2 a3 d H' k t a4),λb a5 a6 a7 a8 c H' a9 aa ac ae af ag=>o _ _ (((q ys f g).2 a).2 b a5 a6 a7 a8 c H' a9 aa ac ae af ag)⟩⟩⟩
def lQ(h:Q σ' H)(e:Y.set i (Z v)=σ':=by dsimp only [List.set]):nz i v Y H Q:=l6 e h
def RQ(d:0<=i)(h1:i<3):∃m:Int,lZ ([.int a,.int b,.int c]:M0) i=Z (.int m)/\(m=a\/m=b\/m=c):=by
 obtain⟨k,rfl⟩:=l8 d;have e:k<3:=YT
 match k,e with
 |0,_=>exact⟨a,bZ O,.inl O⟩
 |1,_=>exact⟨b,bZ O,.inr YU⟩
 |2,_=>exact⟨c,bZ O,.inr (.inr O)⟩
def RK(i:zs.Nodup)(d:a∈zs)(j:0<=c)(l:c<=1000000000000)(b:lx B pu zs)(lo:∀a∈zs,low (pu a).1 (pu a).2=pu a/\0<=(pu a).1)(n:cD zs (λa=>q7 (pu a))=720*g) :
  lx (B+10^15) (nC pu a c) zs/\(∀w∈zs,low (nC pu a c w).1 (nC pu a c w).2=nC pu a c w/\0<=(nC pu a c w).1)/\cD zs (λw=>q7 (nC pu a c w))=720*(g+c):=by
 obtain⟨D,p2,o⟩:=b a d;have k:=b.k d;have f:0<(pu a).2*1:=by rw[p1];exact D
 have p:0<=c*(pu a).2:=zc j (qX D);have q:c*(pu a).2<=1000000000000*1000:=Int.mul_le_mul l k.2 (qX D) YR;refine⟨λw m=>?_,λw m=>?_,?_⟩
 .unfold nC;by_cases e:w=a
  .rw[B4 e];refine⟨yg f,yf f ?_,dN (yh _ _) ?_⟩
   .rw[p1,p1,p0,pd];exact Int.dvd_add (Int.dvd_trans p2 (Int.dvd_mul_left _ _)) (Int.dvd_trans p2 (Int.dvd_mul_left _ _))
   .rw[p1,p0];omega
  .rw[B3 e];exact⟨(b w m).1,(b w m).2.1,dN (b w m).2.2 (pU _ _)⟩
 .unfold nC;by_cases e:w=a
  .rw[B4 e];refine⟨zK _ f,tR ?_ (vX _)⟩;rw[p1,p0];have:=(lo a d).2;omega
  .rw[B3 e];exact lo w m
 .have e:∀w,q7 (nC pu a c w)=q7 (pu w)+if a=w then 720*c else 0:=λw=>by
   unfold nC;by_cases e:w=a
   .rw[B4 e,B4 e.symm,e,SO ⟨D,p2⟩]
   .rw[B3 e,B3 (D4 e),t2]
  have h:=yb (λ_=>aD) (720*c) i d;rw[vS.mpr (λ_ _=>O),B4 O]at h;rw[lj λw _=>e w,Mt61.ru,n,h,Int.mul_add]
structure Mg (r C Tb:aB) (G:aC) (p dp lw pl:aB) (fs gs:M3) (pu:aA->Int×Int) (wk:M3) (B:Nat) (tot:Int):Prop where
 M:jP r C G p dp lw pl fs gs pu wk
 tb:gz Tb G
 pk:lx B pu (fs.map aN)
 lo:∀z∈fs.map aN,low (pu z).1 (pu z).2=pu z/\0<=(pu z).1
 tt:cD (fs.map aN) (λz=>q7 (pu z))=720*tot
 isw:∀d∈wk,p9 d
def VN{A B:Prop}(h:b=aD)(a:A):if b=aD then A else B:=by
 subst h;exact dO a
def QG(L:dU C H x fs N)(S:aL H l)(p:l j=Z (.dK q))(fr:eS l q zs pu)(n:1<=zs.length)
 (k:∀b o,H b=Z o->b≠j->(∀us,o≠.lst us)->(∀ps,o≠.tbl ps)->H' b=Z o):dU C H' x fs N:=by
 have t:=(fV L).1;have u:=(fV L).2;obtain⟨⟨dx,E,G,e,⟨k1,w,I,y⟩,⟨k2,z,J,A⟩⟩,a,b⟩:=L;have B:∀{d:aB} {D:List (aT×V)} {es:M3},H d=Z (.dK D)->IsL H es (D.map (·.2))->(∀d∈es,∃a b c r,d=.tup (a::b::c::r))->d≠j:=λe i h f=>by
  have:=S _ _ e;rw[f,p]at this;cases this;exact fr.ntab n (D2 S _ _ i) h
 have KT:gG H H':=λb xs e=>k _ _ e (λf=>by rw[f]at e;have:=S _ _ e;rw[p]at this;cases this) nofun nofun;have M:x≠j:=λf=>by rw[f]at e;have:=S _ _ e;rw[p]at this;cases this
 refine⟨⟨dx,E,G,k _ _ e M nofun nofun,⟨k1,k _ _ w (B w y λd m=>?_) nofun nofun,I,FB KT _ _ (lN λd m=>Bg (t.all d m)) y⟩,⟨k2,k _ _ z (B z A λd m=>?_) nofun nofun,J,FB KT _ _ (lN λd m=>Cv (u.all d m)) A⟩⟩,a,b⟩
 .obtain⟨f,g,e,rfl,_⟩:=iD (t.all d m);exact⟨_,_,_,_,O⟩
 .obtain⟨n,a,b,c,r,s,rfl,_⟩:=gE (u.all d m);exact⟨_,_,_,_,O⟩
theorem zT(f:gG H H')(g:∀b xs,H b=Z (.lst xs)->H' b=Z (.lst xs)):∀{wk:M3} {us:M0},(∀d∈wk,p9 d)->IsL H wk us->IsL H' wk us
 |[],_,_,h=>h
 |d::wk,_,w,⟨v,r,e,h,t⟩=>by
  refine⟨v,r,e,?_,zT f g (λd m=>w d (eK _ m)) t⟩;obtain⟨ws,l,c,rfl,_⟩:=w d eB;obtain⟨t,_,rfl,i,q,_,rfl,⟨a,zs,rfl,j,k⟩,_,_,rfl,n,_,_,rfl,o,p⟩:=h;cases uO k;exact⟨t,_,O,f _ _ i,_,_,O,⟨a,_,O,g _ _ j,rn ws⟩,_,_,O,n,_,_,O,o,p⟩
def jP.cut(M:jP r C H p dp lw pl fs gs pu wk)(sp:w8 H p dp lw l wk)(Q:∀d∈wk,p9 d)(i:H m=Z (.dK A))(fr:eS H A (fs.map aN) I)(T:dp≠m)(f:H y=Z (.tbl ps))(n:H l=Z (.lst N))(U:l≠lw)
 (k:∀b o,H b=Z o->b≠m->b≠y->b≠l->H' b=Z o):jP r C H' p dp lw pl fs gs pu wk:=by
 have f1:=((fV M.lnd).1).l1;obtain⟨dx,F,J,us,H0,Y,a0,a1,g,a2,c,j,q,s,t,L,ae⟩:=M;obtain⟨z,a3,s1,a4,a5,a6,a7,B,D⟩:=sp;rw[c]at D;have a8:a3=us:=by cases D;rfl
 rw[a8]at B;have E:∀{b:aB} {o:cY},H' b=Z o->b≠p->b≠dp->b≠lw->(if b=p\/b=dp\/b=lw then aF else H' b)=Z o:=λe q s t=>by
  rw[B3 (λh=>by rcases h with h|h|h;exact q h;exact s h;exact t h)];exact e
 have G:∀{b:aB} {o:cY},H b=Z o->(∀J,o≠.dK J)->(∀ps,o≠.tbl ps)->(∀us,o≠.lst us)->H' b=Z o:=λe u w a9=>k _ _ e (λa=>by rw[a,i]at e;exact u _ (eA e).symm) (λa=>by rw[a,f]at e;exact w _ (eA e).symm) (λa=>by rw[a,n]at e;exact a9 _ (eA e).symm);refine⟨dx,F,J,us,(λb=>if b=p\/b=dp\/b=lw then aF else H' b),G Y (λ_ a=>by cases a) (λ_ a=>by cases a) (λ_ a=>by cases a),a0,a1,k _ _ g T (λa=>by rw[a,f]at g;cases g) (λa=>by rw[a,n]at g;cases g),a2.same λb xs e=>G e (λ_ a=>by cases a) (λ_ a=>by cases a) (λ_ a=>by cases a),k _ _ c (λa=>by rw[a,i]at c;cases c) (λa=>by rw[a,f]at c;cases c) U.symm,λb x e=>?_,B4 YU,B4 (.inr YU),B4 (.inr (.inr O)),?_,?_⟩
 .have e:(if b=p\/b=dp\/b=lw then aF else H' b)=Z x:=e;by_cases h:b=p\/b=dp\/b=lw
  .rw[B4 h]at e;cases e
  .rw[B3 h]at e;exact e
 .refine QG L j i fr (by rw[aS];exact f1) λb o e aa ac xt=>E (k _ _ (j _ _ e) aa (λa=>by rw[a]at e;have:=j _ _ e;rw[f]at this;exact xt _ (eA this).symm) (λa=>by rw[a]at e;have:=j _ _ e;rw[n]at this;exact ac _ (eA this).symm)) (λa=>by rw[a,q]at e;cases e) (λa=>by rw[a,s]at e;cases e) (λa=>by rw[a,t]at e;cases e)
 .have x:∀{b:aB} {o:cY},z b=Z o->(∀J,o≠.dK J)->(∀ps,o≠.tbl ps)->(if b=p\/b=dp\/b=lw then aF else H' b)=Z o:=λ{b o} e u w=>E (k _ _ (s1 _ _ e) (λa=>by rw[a]at e;have:=s1 _ _ e;rw[i]at this;exact u _ (eA this).symm) (λa=>by rw[a]at e;have:=s1 _ _ e;rw[f]at this;exact w _ (eA this).symm) (λa=>by rw[a,a7]at e;cases e)) (λa=>by rw[a,a4]at e;cases e) (λa=>by rw[a,a5]at e;cases e) (λa=>by rw[a,a6]at e;cases e);exact zT (λb xs e=>x e (λ_ a=>by cases a) (λ_ a=>by cases a)) (λb xs e=>x e (λ_ a=>by cases a) (λ_ a=>by cases a)) Q B
theorem EK:∀{a b:L9},a.map E8=b.map E8->a=b
 |[],[],_=>rfl
 |_::_,_::_,h=>by
  rw[dD,dD]at h;injection h with h1 h2;injection h1 with h1;rw[h1,EK h2]
def Rp{c d e b u:dZ}{D:Ends}{G:Prop}(i:∀f σ' H',kH c (kH d (kH e b)) f σ' H'->u f σ' H')(R:L2.St->aC->Prop)(h:(∀σ' H',(∀g:dZ,(∀a H2,R a H2->g D a H2)->kH c (kH d (kH e g)) D σ' H')->u D σ' H')->G)(j:∀a H2,R a H2->b D a H2):G:=h fun σ' H' k=>i D σ' H' (k b j)
def QR(S:aL H H')(h:eS H J zs pu):Paired (λ(p:Int×Int)(v:V)=>Fr H' v p.1 p.2) (zs.map pu) (J.map (·.2)):=by
 unfold eS at h
 induction h with
 |nil=>exact .nil
 |cons a r b=>
  obtain⟨_,l,e,c⟩:=a;exact .cons ⟨l,e,S _ _ c⟩ b
def QD(ep:c=λa=>if a∈ws then low ((pu a).1*(kq (bD fs gs L) ws a).2+-1*(kq (bD fs gs L) ws a).1*(pu a).2) ((pu a).2*(kq (bD fs gs L) ws a).2) else pu a)(d:oL fs)(h:ky ("sea" :: fs.map aN) gs)(l:fC L=aD)(n:1<=ws.length)(o:ws.length<=5)(p:ws.Nodup)(sub:∀a∈ws,a∈fs.map aN)(st:Stream ("sea" :: fs.map aN) (bD fs gs L) ws f)(s:nU (bD fs gs L) f ws R r)(i:lx B pu (fs.map aN))
 (lo:∀a∈fs.map aN,low (pu a).1 (pu a).2=pu a/\0<=(pu a).1)(ns:∀a∈ws,oh pu (kq (bD fs gs L) ws) a=aK)(t:cD (fs.map aN) (λa=>q7 (pu a))=720*k) :
  (∀a∈fs.map aN,low (c a).1 (c a).2=c a/\0<=(c a).1) /\
  cD (fs.map aN) (λa=>q7 (c a))=720*(k-val (bD fs gs L) f):=by
 subst ep;have q:D3∉ws:=λm=>Gn d (sub _ m) O;have u:=oU d h L;have e:=wP d h l n o q;have j:=Nd d h l n o p q;rw[sk (xq u st s)]at j;generalize kq (bD fs gs L) ws=w at ns e j ⊢;dsimp only;refine⟨λa m=>?_,?_⟩
 .by_cases b:a∈ws
  .rw[B4 b];refine⟨zK _ (rX (i a m).1 (e a b).1),tR ?_ (vX _)⟩;have:=Int.not_lt.mp (B8 (ns a b));rw[y7,qY];omega
  .rw[B3 b];exact lo a m
 .rw[lj (g:=λa=>q7 (pu a)-if a∈ws then q7 (w a) else 0) λa m=>?_,Mt61.AY,t,Ob d.nd p sub,j,Int.mul_sub];by_cases b:a∈ws
  .rw[B4 b,B4 b];exact SP ⟨(i a m).1,(i a m).2.1⟩ ⟨(e a b).1,(e a b).2.1⟩ (lo a m).1
  .rw[B3 b,B3 b,Int.sub_zero]
def QY{fs:M3}{ys:L9}{j:Nat}{a:aA}{g e:Int}(c:fs[j]?=Z (.tup [.str a,.int g,.int e])):(((fs.take (j+1)).filter λd=>G9 (aN d∈ys)).map lC)=(((fs.take j).filter λd=>G9 (aN d∈ys)).map lC)++(if a∈ys then [e] else []):=by
 rw[dR,c,oA,dJ];by_cases b:a∈ys
 .rw[B4 b];have:G9 (aN (.tup [.str a,.int g,.int e])∈ys)=aD:=B0 b;simp only[wo,oD,this,if_true,wj,dD,mu];rfl
 .rw[B3 b];have:G9 (aN (.tup [.str a,.int g,.int e])∈ys)=aK:=B1 b;simp only[wo,oD,this,wj,mu];rfl
def VY(h:B+2*10^30<=10^31*t):1000*((B+10^15)+10^30)+2*10^30<=10^31*(t*1000):=YT
inductive zm(K:bJ)(a lf p lp pm lw dp:aB)(vf:M0)(fs:M3)(r C Tb:aB)(i:Nat)(Y:L2.St)(G:aC):Prop
 |mk:∀(v4 v5 v6 v7 v10 v11 v12 v13 v14 v15 v16 v17:Option V)(tot:Int)(pl:aB)(gs:M3)(pu:aA->Int×Int)(wk:M3)(B:Nat),Y=[Z (.ref a),Z (.ref lf),Z (.ref p),Z (.ref lp),v4,v5,v6,v7,Z (.ref pm),Z (.int tot),v10,v11,v12,v13,v14,v15,v16,v17]->oM K a lf lw vf fs G->Mg r C Tb G pm dp lw pl fs gs pu wk B tot->B+2*10^30<=10^31*1000^i->wk.length<=i->zm K a lf p lp pm lw dp vf fs r C Tb i Y G
def Tt(T:Txt K mg C)(TB:nh K mg b_ "lists_of_places" gb U)(F:mT K "law" "law" zG f fd):hZ P w K mg b_ iV 15 f fd ["_law_script"] (wN K U):=by
 obtain⟨ah,bm,an,iC,j0,j1,j2,gc,j3,j4,j5,j6⟩:=T.Ze
 obtain⟨gd,j7,gf⟩:=T.Zf
 obtain⟨e8,j8,e9⟩:=T.Zg
 obtain⟨ea,j9,⟨ja,jb,jc,jd,je,jf,jg,jh,ji⟩,eb,jj⟩:=T.Zh
 have go:=MZ (P:=P) (w:=w) (b_:=b_) T an
 have ed:=Ix (P:=P) (w:=w) (b_:=b_) T an
 have gp:=IW (P:=P) (w:=w) (b_:=b_) T an
 have gq:=IX (P:=P) (w:=w) (b_:=b_) T an
 refine F.ok kC (fun _ _ _ _ h=>by obtain⟨_,e,_⟩:=h;rw[e];rfl) (fun jk A o_ s H vs Q E a5 h=>?_)
 obtain⟨x,rfl,a,ns,rfl,cw,ee,gu,q⟩:=h
 have jl:=fJ
 have gv:=jT a5
 have c4:ng K H (.ref a):=⟨a,ns,rfl,cw,ee⟩
 refine⟨_,(bC (cF (i:=1) kC.nd rfl (D5 rfl) (bU (NN T) a5 (aG (pv 0) (aG bB aM)))) (bC (cF (i:=2) kC.nd rfl (D5 rfl) (Ah T.or (Jy T) (a5.mono (by decide)) (aG (pv 1) (aG (bU (Ot T) a5 (aG (pv 0) (aG bB (aG bB (aG (pv 1) aM))))) aM)))) (bC (cF (i:=3) kC.nd rfl (D5 rfl) Qy) (bC (kE jF rfl (eV (pv 1)) (uj rfl (kO (cM (i:=4) kC.nd rfl (D5 rfl)) (kO (cM (i:=5) kC.nd rfl (D5 rfl)) (kO (cM (i:=6) kC.nd rfl (D5 rfl)) qp)))) (bC (cF (i:=7) kC.nd rfl (E1 rfl) (bU (LP T) a5 (aG (pv 0) (aG (bK lm bB (dH Dz rfl T.q71 iY (aG (pv 3) aM))) aM)))) (bG (vl gv (pv 3) (pv 4) (iO (mf (K:=K) rfl) (gX (aG bB (aG (bK gR (bK iL (pv 7) bB) bB) (aG (bK lH bB bB) (aG (bK gR (bK iL (pv 7) bB) (bK lH bB bB)) aM))))) (bK gR (pv 7) bB) (fun _ _=>rfl)) rfl)))) (bC (cF (i:=8) kC.nd rfl (D5 rfl) (Ah an (MY T an) (a5.mono (by decide)) (aG (pv 2) (aG (pv 3) aM)))) (bC (cF (i:=9) kC.nd rfl (D5 rfl) (dH (XS rfl) rfl T.q80 sS (aG (Gr tw vC xH (pv 3)) aM))) (bC (kE jF rfl (qf rfl T.q75 (aG (dH (xL rfl) rfl T.q73 xN (aG bB (aG (dH (xK rfl) rfl T.q74 uZ (aG bB (aG (bK mE (dH (kB (K:=K) rfl) rfl T.q71 iY (aG (pv 0) aM)) bB) aM))) aM))) aM)) (cM (i:=10) kC.nd rfl (D5 rfl)) (bC (cF (i:=7) kC.nd rfl (E1 rfl) (bK iL (bU (LP T) a5 (aG (pv 0) (aG (bK lm bB (pv 10)) aM))) bB)) (bC (cF (i:=11) kC.nd rfl (D5 rfl) (iO (mf (K:=K) rfl) (gX (aG bB (aG (bK lH bB bB) (aG (bK gR (bK iL (pv 7) (bK lH bB bB)) bB) aM)))) (bK gR (pv 7) bB) (fun _ _=>rfl))) (bC (jR (pi bm go (a5.mono (by decide)) (pv 8) (aG (iO (oa (K:=K) rfl) (iO (mf (K:=K) rfl) (pv 1) (bK gR (bK iL (pv 7) bB) (dH (kB (K:=K) rfl) rfl T.q71 iY (aG (pv 1) aM))) (fun _ _=>rfl)) bB (fun _ _=>rfl)) (aG (pv 11) aM)))) (bC (cF (i:=12) kC.nd rfl (D5 rfl) (bU (PD T) a5 (aG (pv 7) (aG (pv 1) (aG bB aM))))) (bC (cF (i:=13) kC.nd rfl (D5 rfl) (bU (AO T) a5 (aG (bK iL (pv 7) (bK lH bB bB)) aM))) (bC (cF (i:=14) kC.nd rfl (E1 rfl) (fN ["_law_j","_law_field","_law_cell"] 2 [7] rfl (RT T.q68 (aG (pv 1) aM)) (fun R=>Fk (K:=K) (n:=2) rfl rfl (kO (cM (i:=0) (YS:eQ (["_law_j","_law_field","_law_cell"]:L9)) rfl (D5 rfl)) (kO (cM (i:=1) (YS:eQ (["_law_j","_law_field","_law_cell"]:L9)) rfl (D5 rfl)) qp))) (Dn (xu (by decide) (xu (by decide) Cs))) (fun R=>mX (fG uy (bK gR (bK Ts (pv 2) (bK lm bB (bK oi bB (pv 0)))) bB) bB (eO _))) (fun R=>(xt 1)))) (bC (cF (i:=15) kC.nd rfl (D5 rfl) (gX (aG (jA bm gp (a5.mono (by decide)) (pv 8)) (aG (jA bm ed (a5.mono (by decide)) (pv 8)) (aG (jA bm gq (a5.mono (by decide)) (pv 8)) aM))))) (bC (cF (i:=16) kC.nd rfl (D5 rfl) (iX (xn (K:=K) rfl) rfl T.q72 lM (aG (pv 12) aM))) (bC (cF (i:=17) kC.nd rfl (D5 rfl) (bU (NL T an Tz (gc.mcB uM (XQ T TB an gf e9 eb))) a5 (aG (pv 8) (aG (pv 16) (aG (pv 13) (aG (pv 14) aM)))))) (bC (jR (lS lT mq mo mC (pv 16) (aG qw aM))) (bC (cF (i:=9) kC.nd rfl (D5 rfl) (bK lm (pv 9) (pv 11))) (bC (fK (fG zJ (pv 17) nl (eO _)) (bC (cF (i:=6) kC.nd rfl (D5 rfl) (dH (vb rfl) rfl T.q80 sS (aG (fN ["_law_field","_law_yes"] 1 [14] rfl (eV (pv 1)) (fun R=>cM (i:=0) (YS:eQ (["_law_field","_law_yes"]:L9)) rfl (D5 rfl)) (fD (by decide)) (fun R=>mX (fG (sN (K:=K) rfl) (xt 0) (pv 1) (by with_unfolding_all rfl))) (fun R=>(xt 0))) aM))) (bC (fK (fG nu (bK oi bB (pv 6)) (dH (vb rfl) rfl T.q80 sS (aG (fN ["_law_field"] 1 [] rfl (eV (pv 1)) (fun R=>cM (i:=0) (YS:eQ (["_law_field"]:L9)) rfl (D5 rfl)) (fD (by decide)) (fun R=>gQ) (fun R=>(xt 0))) aM)) (eO _)) (bG (cH mF)) fH) (bC (fK (iM (gW (bU (PF T TB an) a5 (aG (pv 8) (aG (pv 15) (aG (gX (aG (pv 12) (aG (pv 13) (aG (pv 17) aM)))) aM)))))) (bG (cH mF)) fH) (bG (cF (i:=9) kC.nd rfl (D5 rfl) (bK mE (pv 9) (pv 17))))))) fH) (bG (fK (fG (um a5.units) (bU (Ew T) a5 (aG (iX (AA rfl) rfl T.q72 lM (aG (Gr tw vC xH (jA bm ed (a5.mono (by decide)) (pv 8))) aM)) aM)) (gF (aG (pv 9) (aG bB aM))) (eO _)) (bG (cH mF)) fH))))))))))))))) (bG (cH mF))))))))),?_⟩
 refine xW fun jm gw=>?_
 refine⟨_,rfl,_,_,rfl,6,c4,rfl,by decide,by decide,fun lf vf fs z ef jn cx cy a3 jo=>?_⟩
 refine⟨_,rfl,_,rfl,_,rfl,_,_,_,_,rfl,8,10,lf,vf,fs,6,c4.same ef,rfl,by decide,rfl,by decide,by decide,rfl,cx,cy,a3,by decide,fun ld gx N H2 cz cI eg eh c5 jp=>?_⟩
 have okf:=PN a3 (by decide)
 have okd:=QX c5 (by decide)
 have f1:=a3.l1
 have f2:=a3.l2
 have gy:=c5.l1
 have jq:=c5.l2
 have gD:jM (.lst fs)=aD:=sP (fun d m=>LU (a3.all d m)) (by omega)
 have gP:jM (.lst N)=aD:=sP (fun d m=>Cu a3.all (c5.all d m)) (by omega)
 have gS:=ef.trans cz
 have cL:=cz _ _ cx
 have cO:=D2 cz _ _ cy
 refine fun p dx np gV jr=>?_
 have bd:aL H2 (aI (aI H2 dx (.own p)) p (.ins C dx [])):=fun b o e=>by
  rw[bA (cX e np),bA (cX e gV)]
  exact e
 refine⟨_,_,_,rfl,p,dx,fs,N,rfl,aV,⟨lf,vf,rfl,bd _ _ cL,D2 bd _ _ cO⟩,⟨ld,gx,rfl,bd _ _ eg,D2 bd _ _ eh⟩,gD,gP,okf,okd,fun ao h0 fr=>⟨rfl,?_⟩⟩
 have cS:aL H2 ao:=fun b o e=>fr b o (bd _ _ e) (cX e np)
 have be:=gS.trans cS
 have c6:=cS _ _ cL
 have cT:=D2 cS _ _ cO
 clear bd fr cL cO eg eh cx cy
 refine lQ ?_
 intro lp bf
 have b2:=C7 (o:=.dK []) bf
 have cV:aI ao lp (.dK []) lp=Z (.dK []):=aV
 generalize aI ao lp (.dK [])=h3 at b2 cV ⊢
 refine lQ ?_
 refine gw _ _ _ ?_
 refine xX fun js h4=>?_
 have d0:=cT.length
 have d1:=b2 _ _ c6
 have h5:lf≠lp:=cX c6 bf
 refine⟨_,rfl,lf,rfl,⟨_,C8 d1⟩,?_⟩
 refine qk (K:=K) (a:=lf) (xs:=vf) (fun i Y H'=>vH fun (b3 b4 b5 b6:Option V) (a1:aA→Int)=>Y=[Z (.ref a),Z (.ref lf),Z (.ref p),Z (.ref lp),b3,b4,b5,b6,aF,aF,aF,aF,aF,aF,aF,aF,aF,aF]∧kT lp h3 H'∧H' lp=Z (.dK (kG ((fs.map aN).take i) a1))∧∀ r∈(fs.map aN).take i,0≤a1 r∧a1 r≤1000000000000)
  ⟨_,_,_,_,fun _=>0,rfl,aL.x (D7 _),cV,fun r m=>by cases m⟩ ?_ ?_ ?_
 ·rintro i Y H' hi ⟨b3,b4,b5,b6,a1,rfl,X,b7,au⟩
  exact C8 (X _ _ d1 h5)
 ·rintro i jt Y H' ai ⟨b3,b4,b5,b6,a1,rfl,X,b7,au⟩
  have ju:i<vf.length:=(cR.mp ai).1
  obtain⟨d,a6⟩:∃ d,fs[i]?=Z d:=⟨_,cJ (by omega)⟩
  obtain⟨v,ev,ak⟩:=cT.get a6
  rw[ai] at ev
  cases ev
  obtain⟨r,g,e,rfl,_⟩:=iD (a3.all d (dM a6))
  obtain⟨t,us,rfl,h6,_,_,rfl,rfl,_,_,rfl,rfl,_,_,rfl,rfl,rfl⟩:=ak
  have ei:aL ao H':=fun b o b8=>X _ _ (b2 _ _ b8) (cX b8 bf)
  refine uu fun d2 d3=>?_
  refine⟨t,_,rfl,D0 (ei _ _ h6),rfl,_,_,rfl,_,_,rfl,_,_,rfl,rfl,?_⟩
  refine Wx (σ':=[Z (.ref a),Z (.ref lf),Z (.ref p),Z (.ref lp),Z (.str r),Z (.int g),Z (.int e),b6,aF,aF,aF,aF,aF,aF,aF,aF,aF,aF]) rfl ?_
  have jv:(kG ((fs.map aN).take i) a1).length≤12:=by unfold kG;rw[aS,dY,aS];omega
  refine⟨_,rfl,_,rfl,lp,_,rfl,b7,_,_,rfl,rfl,_,_,rfl,_,c4.same (be.trans ei),rfl,by omega,fun al h7 _=>?_⟩
  refine lQ ?_
  refine⟨_,rfl,_,_,rfl,rfl,⟨by decide,by decide⟩,_,_,rfl,rfl,lz rfl,_,_,rfl,rfl,⟨by decide,by decide,by decide⟩,_,rfl,_,_,rfl,rfl,⟨by decide,by decide⟩,_,_,rfl,rfl,⟨by decide,by decide,by decide⟩,_,_,rfl,rfl,lz rfl,dA rfl,fun d4 h8=>?_⟩
  have bn:=C7 (o:=.lst [.int 0,.int (al / 4 % 100),.int (10 ^ (12:Int).toNat),.int (al / 4 % 10 ^ (7:Int).toNat)]) h8
  obtain⟨b,b8,ej⟩:=w5 (a:=0) (b:=al / 4 % 100) (c:=10 ^ (12:Int).toNat) (d:=al / 4 % 10 ^ (7:Int).toNat) (hW al (show (4:Int)≠0 by decide)) (jB al (show (0:Int)<4 by decide))
  have h9:0≤b∧b≤1000000000000:=by
   rw[IH,show (10:Int) ^ (7:Int).toNat=10000000 by decide] at ej
   have ap:=hW (al / 4) (show (100:Int)≠0 by decide)
   have am:=jB (al / 4) (show (0:Int)<100 by decide)
   have av:=hW (al / 4) (show (10000000:Int)≠0 by decide)
   have aw:=jB (al / 4) (show (0:Int)<10000000 by decide)
   rcases ej with rfl | rfl | rfl | rfl <;> omega
  refine⟨_,rfl,_,_,rfl,rfl,lz rfl,d4,_,_,_,rfl,rfl,C8 aV,b8,_,rfl,_,rfl,lp,_,rfl,qb.k (k:=C6 r) (bn _ _ b7) (by omega),?_⟩
  have d5:(fs.map aN)[i]?=Z r:=by rw[dB,a6];rfl
  have ha:r∉(fs.map aN).take i:=LQ a3.nd d5
  refine d3 _ _ ⟨_,_,_,_,fun w=>if w=r then b else a1 w,rfl,(X.then bn).put,?_,?_⟩
  ·rw[aV,dR,d5,PT ha]
   rfl
  ·intro w bg
   by_cases d6:w=r
   ·simp only[B4 d6]
    exact h9
   ·simp only[B3 d6]
    rw[dR,d5,gN] at bg
    rcases bg with bg | bg
    ·exact au w bg
    ·exact B6 (by simpa using bg) d6
 ·rintro Y H' ⟨b3,b4,b5,b6,a1,rfl,X,b7,au⟩
  rw[dP (by rw[aS];omega)] at b7 au
  have aq:aL ao H':=fun b o b8=>X _ _ (b2 _ _ b8) (cX b8 bf)
  clear X b2 cV d1
  refine h4 _ _ _ ?_
  refine xX fun jw hb=>?_
  refine⟨_,rfl,_,rfl,fun pm ax d7 ek hc=>?_⟩
  have ae:aL H' (aI (aI H' ax (.own pm)) pm (.ins ah ax [])):=fun b o e=>by
   rw[bA (cX e d7),bA (cX e ek)]
   exact e
  have d8:aI (aI H' ax (.own pm)) pm (.ins ah ax []) pm=Z (.ins ah ax []):=aV
  generalize aI (aI H' ax (.own pm)) pm (.ins ah ax [])=jx at ae d8 ⊢
  have d9:ao pm=aF:=aq.free d7
  refine⟨_,_,_,rfl,pm,ax,p,lp,fs,N,fs.map aN,a1,ao,rfl,d8,rfl,aq.trans ae,d9,bf,h0,rfl,ae _ _ b7,⟨rfl,fun r m=>m,fun r m=>m,au⟩,fun dp lw c7 el en eo bo=>⟨rfl,?_⟩⟩
  have a8:aL ao c7:=fun b o e=>en _ _ (ae _ _ (aq _ _ e)) (cX e d9) (cX e bf)
  have hd:gz U H:=⟨#[],gu,trivial,.inl rfl⟩
  have c8:ao lw=aF:=(aq.trans ae).free eo
  have ep:oM K a lf lw vf fs c7:=⟨c4.same (be.trans a8),(by
   rcases cw with (e | ⟨o,e⟩) | e
   ·exact .inl (cX (be _ _ e) c8)
   ·exact .inl (cX (be _ _ e) c8)
   ·exact .inr fun G'=>⟨a,ns,rfl,.inr e,ee⟩),a8 _ _ c6,cX c6 c8,D2 a8 _ _ cT⟩
  have eq:=F1 hd (be.trans a8)
  have er:=(be.trans a8).seq cw
  clear en ae d8 d7 ek hc d9 b7 eo c8 a8
  refine lQ ?_
  refine hb _ _ _ ?_
  refine xX fun jy he=>?_
  have hf:∃ o,c7 lp=Z o:=by
   rcases bo with e | ⟨o,e⟩
   ·exact⟨_,e⟩
   ·exact⟨_,e⟩
  refine⟨_,rfl,⟨lp,_,rfl,bo⟩,lp,_,rfl,rfl,bo,fun c9 es=>?_⟩
  have bh:=C7 (o:=pO c9 lp) es
  refine⟨c9,lp,_,(fs.map aN).map a1,rfl,aV,eM.same' bh bo,?_,?_⟩
  ·unfold kG
   simp only[eP]
   rfl
  have da:=el.same bh
  have db:=ep.same bh
  have dc:=F1 eq bh
  have dd:=bh.seq er
  have de:cD (fs.map aN) (fun r=>q7 (pG a1 r))=720*((fs.map aN).map a1).sum:=by
   rw[lj (g:=fun r=>a1 r*720) fun r _=>by show a1 r*(720 / 1)=_;rw[wx],← yc,qW]
   rfl
  have et:lx (10 ^ 12) (pG a1) (fs.map aN):=fun r m=>⟨(by show (0:Int)<1;decide),⟨720,rfl⟩,by have:=au r m;show (a1 r).natAbs≤10 ^ 12;omega⟩
  have eu:∀ r∈fs.map aN,low (pG a1 r).1 (pG a1 r).2=pG a1 r∧0≤(pG a1 r).1:=fun r m=>⟨vn _,(au r m).1⟩
  generalize aI c7 c9 (pO c9 lp)=jz at da db dc dd ⊢
  generalize ((fs.map aN).map a1).sum=hg at de ⊢
  clear el ep eq er bh es bo hf au
  refine lQ ?_
  refine he _ _ _ ?_
  refine xX fun k0 hh=>?_
  refine⟨_,rfl,a,_,rfl,.inl dd,_,_,rfl,rfl,_,_,rfl,_,_,rfl,?_⟩
  obtain⟨ew,hj,k3⟩:∃ cnt:Nat,(if (if (((ns.map D1).length:Nat):Int) - 8<6 then (((ns.map D1).length:Nat):Int) - 8 else 6)>2 then (if (((ns.map D1).length:Nat):Int) - 8<6 then (((ns.map D1).length:Nat):Int) - 8 else 6) else 2)=(cnt:Int)∧cnt≤6:=by
   generalize (((ns.map D1).length:Nat):Int) - 8=w
   by_cases h1:w<6
   ·rw[B4 h1]
    by_cases h2:w>2
    ·rw[B4 h2]
     exact⟨w.toNat,by omega,by omega⟩
    ·rw[B3 h2]
     exact⟨2,rfl,by omega⟩
   ·rw[B3 h1]
    exact⟨6,rfl,by omega⟩
  refine⟨(ew:Int),B7 (fun x=>[D1 x]) hj,by omega,by omega,?_⟩
  rw[qN]
  refine qh (lo:=0) (n:=ew) (zm K a lf p lp pm lw dp vf fs ah C U)
   ⟨_,_,_,_,_,_,_,_,_,_,_,_,hg,p,N,pG a1,[],10 ^ 12,rfl,db,⟨da,dc,et,eu,de,fun d m=>by cases m⟩,by decide +kernel,bQ _⟩ ?_ ?_
  ·rintro i Y G hi ⟨b3,b4,b5,b6,hk,hl,hn,ho,hp,hq,hr,hs,ca,pl,gs,pu,wk,B,rfl,I,ex,cb,ht⟩
   clear db da dc et eu de dd
   refine Aj fun d2 d3=>?_
   obtain⟨M,tb,cc,lo,ey,bp⟩:=ex
   obtain⟨dx,F,J,ez,H0,a7,cd,_,af,_,ag,_⟩:=id M.ex
   refine xW fun k4 hu=>?_
   refine⟨_,rfl,_,rfl,_,_,rfl,rfl,_,_,rfl,_,I.scr,rfl,by show 0≤8+(0+(i:Int));omega,fun eC hv h7=>?_⟩
   refine⟨_,_,rfl,rfl,⟨by decide,by decide⟩,?_⟩
   have eD:0≤eC / 16:=tR hv (by decide)
   generalize eC / 16=m at eD ⊢
   refine lQ ?_
   refine⟨_,_,rfl,rfl,⟨by decide,by decide,by decide⟩,_,rfl,_,_,rfl,rfl,⟨by decide,by decide,by decide⟩,_,_,rfl,rfl,⟨by decide,by decide⟩,_,_,rfl,rfl,lz rfl,dA rfl,fun eH eT=>?_⟩
   have a9:=C7 (o:=.lst [.int 0,.int (10 ^ (12:Int).toNat),.int (m / 10 ^ (5:Int).toNat % 1000)]) eT
   obtain⟨c,eX,df⟩:=RQ (a:=0) (b:=10 ^ (12:Int).toNat) (c:=m / 10 ^ (5:Int).toNat % 1000) (hW m (show (3:Int)≠0 by decide)) (jB m (show (0:Int)<3 by decide))
   have ce:0≤c∧c≤1000000000000:=by
    rw[IH] at df
    have ap:=hW (m / 10 ^ (5:Int).toNat) (show (1000:Int)≠0 by decide)
    have am:=jB (m / 10 ^ (5:Int).toNat) (show (0:Int)<1000 by decide)
    rcases df with rfl | rfl | rfl <;> omega
   refine⟨_,rfl,_,_,rfl,rfl,lz rfl,eH,_,_,_,rfl,rfl,C8 aV,eX,?_⟩
   generalize aI G eH (.lst [.int 0,.int (10 ^ (12:Int).toNat),.int (m / 10 ^ (5:Int).toNat % 1000)])=k5 at a9 ⊢
   refine lQ ?_
   have bq:=I.same a9
   have d0:=I.hif.length
   have br:(0:Int)<(vf.length:Nat):=by omega
   obtain⟨d,v,bi,a6,ak⟩:=Sm bq.hif (hW (m / 3) (Int.ne_of_gt br)) (by have:=jB (m / 3) br;omega)
   have b9:aN d∈fs.map aN:=cG.mpr ⟨d,bi,rfl⟩
   obtain⟨r,g,e,rfl,_⟩:=iD (a3.all d bi)
   obtain⟨t,rfl,o⟩:=oR ak
   refine⟨_,rfl,pm,dx,F,rfl,a9 _ _ a7,cd.no _ (by decide +kernel),?_⟩
   have bs:r∈fs.map aN:=b9
   have dg:=cc.k bs
   refine⟨_,rfl,_,rfl,_,_,rfl,rfl,⟨by decide,by decide⟩,_,rfl,lf,vf,rfl,.inl (C8 bq.hf),_,_,rfl,rfl,br,lf,vf,_,_,rfl,rfl,C8 bq.hf,a6,t,_,0,_,rfl,rfl,D0 o,bZ (j:=0) rfl,_,rfl,?_⟩
   refine⟨_,_,_,rfl,pm,dp,lw,pl,fs,gs,pu,wk,r,c,rfl,M.same a9,rfl,bs,rfl,ce.1,ce.2,(cc.ln (dN (dN (pU _ _) cb) (dN (yQ _ (o2 (by decide) (show i≤6 by omega))) (by decide +kernel))) r bs).1,dg.1,dg.2,dN a3.l2 (by decide),fun cf M2 dh=>?_⟩
   refine hu _ _ _ ?_
   obtain⟨bu,cg,di⟩:=RK a3.nd bs ce.1 ce.2 cc lo ey
   have bv:oM K a lf lw vf fs cf:=bq.mv (a9 _ _ a7) (a9 _ _ af) (F1 tb a9) ⟨_,a9 _ _ ag⟩ a3.all fun b o e _ n _ _=>dh _ _ e n
   have eY:gz U cf:=pJ (F1 tb a9) fun b o e n _ _=>dh _ _ e (fun r=>by rw[r,a9 _ _ af] at e;exact n _ (eA e).symm)
   generalize nC pu r c=dj at M2 bu cg di
   clear M tb cc lo ey a7 cd af ag I bq a9 eT dh dg b9 bs o ak a6 eX df bi
   refine xW fun k6 hw=>?_
   refine⟨_,rfl,_,rfl,_,_,_,rfl,m,lf,vf,fs,rfl,eD,rfl,bv.hf,bv.hif,a3,rfl,fun ay ws hx ch f0 f3 dk dm dq dr=>?_⟩
   refine lQ ?_
   refine⟨_,rfl,_,_,rfl,rfl,⟨by decide,by decide,by decide⟩,_,_,rfl,rfl,⟨by decide,by decide⟩,_,rfl,_,rfl,fun L ds=>?_⟩
   refine lQ ?_
   have ci:=bv.same ch
   refine⟨_,rfl,lf,rfl,⟨_,C8 ci.hf⟩,?_⟩
   refine PS (F:=K) (xs:=vf) (by rw[jC];omega) (fun j vs H'=>aL hx H'∧∃ ys:L9,vs=ys.map C9∧ys.length≤j∧∀ y∈ys,y∈fs.map aN) ⟨D7 _,[],rfl,bQ _,fun y m=>by cases m⟩ (fun j vs H' _ ⟨S,ys,e,l,_⟩=>⟨C8 (S _ _ ci.hf),by rw[e,aS];exact l⟩) ?_ ?_
   ·rintro j x vs H' hy f4 f5 ai ⟨S,ys,rfl,hz,cj⟩ hA k1 k2
    obtain⟨d,a6⟩:∃ d,fs[j]?=Z d:=⟨_,cJ (by have:=(cR.mp ai).1;omega)⟩
    obtain⟨v,ev,ak⟩:=ci.hif.get a6
    rw[ai] at ev
    cases ev
    have bi:=dM a6
    obtain⟨r,g,e,rfl,_⟩:=iD (a3.all d bi)
    obtain⟨t,rfl,o⟩:=oR ak
    have A:=C7 (o:=.tup [.int (j:Nat),.ref t]) hA
    refine⟨hy,_,rfl,D0 aV,rfl,_,_,rfl,_,_,rfl,rfl,?_⟩
    refine⟨_,rfl,_,rfl,_,_,rfl,rfl,.inl ⟨by decide,by decide⟩,_,_,rfl,rfl,_,_,rfl,rfl,by omega,_,_,rfl,rfl,lz rfl,_,_,rfl,rfl,_,rfl,?_⟩
    refine lB (fun _=>?_) (fun _=>k2 _ ⟨S.trans A,ys,rfl,by omega,cj⟩)
    refine⟨_,rfl,t,_,0,.str r,rfl,rfl,D0 (A _ _ (S _ _ o)),bZ (j:=0) rfl,k1 _ _ ⟨S.trans A,ys++[r],by rw[dJ];rfl,by rw[eW,lV];omega,fun y m=>?_⟩⟩
    rcases gN.mp m with m | m
    ·exact cj y m
    ·cases eU.mp m
     exact cG.mpr ⟨_,bi,rfl⟩
   rintro vs H' ⟨S,ys,rfl,hz,cj⟩
   intro ar dt
   have aq:=S.trans (C7 (o:=.lst (ys.map C9)) dt)
   have as:aI H' ar (.lst (ys.map C9)) ar=Z (.lst (ys.map C9)):=aV
   have f6:cf ar=aF:=ch.free (S.free dt)
   generalize aI H' ar (.lst (ys.map C9))=du at aq as ⊢
   refine lQ ?_
   refine hw _ _ _ ?_
   have dv:=ch.trans aq
   have az:=M2.same dv
   have bj:=F1 eY dv
   have dw:=bv.same dv
   have f7:=aq _ _ f0
   have f8:∃ u,cf lw=Z (.lst u):=by
    obtain⟨_,_,_,_,_,_,_,_,_,_,h,_⟩:=M2.ex
    exact⟨_,h⟩
   have hB:ay≠lw:=fun r=>by obtain⟨u,h⟩:=f8;rw[r,h] at f3;cases f3
   have hC:ar≠lw:=fun r=>by obtain⟨u,h⟩:=f8;rw[r,h] at f6;cases f6
   clear S aq dt ci M2 eY bv ch f0
   obtain⟨dx,F,J,ez,H0,a7,cd,_,af,_,ag,ba,f9,fa,fb,hD,hE⟩:=id az.ex
   have np:∀ m:aA,¬ m∈w7→F.lookup m=aF:=cd.no
   refine xW fun hF hH=>?_
   refine⟨_,rfl,pm,dx,F,rfl,a7,np _ (by decide +kernel),_,rfl,pm,dp,lw,pl,fs,gs,_,wk,rfl,az,_,rfl,pm,dx,F,rfl,a7,np _ (by decide +kernel),_,rfl,pm,dp,lw,pl,fs,gs,_,wk,rfl,az,fun a0 bw aj fc=>?_⟩
   have bx:=C7 (o:=.dK bw) aj
   have bk:aI du a0 (.dK bw) a0=Z (.dK bw):=aV
   generalize aI du a0 (.dK bw)=hI at bx bk ⊢
   refine⟨_,rfl,pm,dx,F,rfl,bx _ _ a7,np _ (by decide +kernel),_,rfl,pm,dp,lw,pl,fs,gs,_,wk,rfl,az.same bx,bp,by omega,fun ld hK dy ae cI hL hM=>⟨dA rfl,fun bz dz=>?_⟩⟩
   have a8:=C7 (o:=.lst [.ref pl,.ref a0,.ref ld]) dz
   have fe:aI dy bz (.lst [.ref pl,.ref a0,.ref ld]) bz=Z (.lst [.ref pl,.ref a0,.ref ld]):=aV
   generalize aI dy bz (.lst [.ref pl,.ref a0,.ref ld])=bl at a8 fe ⊢
   refine lQ ?_
   have a2:=bx.trans (ae.trans a8)
   refine⟨_,rfl,ay,_,rfl,.inl (C8 (a2 _ _ f7)),fun a4 aa=>?_⟩
   have bR:=C7 (o:=.lst (ws.map C9)) aa
   have ck:aI bl a4 (.lst (ws.map C9)) a4=Z (.lst (ws.map C9)):=aV
   generalize aI bl a4 (.lst (ws.map C9))=dF at bR ck ⊢
   refine lQ ?_
   have ac:=a2.trans bR
   obtain⟨ps,aR,_⟩:=id bj
   have ff:B+10 ^ 15≤10 ^ 56:=dN (dN (Nat.add_le_add_left (by decide +kernel:10 ^ 15≤2*10 ^ 30) B) cb) (dN (yQ _ (o2 (by decide) (show i≤6 by omega))) (by decide +kernel))
   have dK:a4≠lw:=fun r=>by rw[r,a2 _ _ ag] at aa;cases aa
   have fg:a4≠U:=fun r=>by rw[r,a2 _ _ aR] at aa;cases aa
   have hN:w8 dF pm dp lw a4 wk:=⟨H0,ez,ba.trans ac,f9,fa,fb,(ba.trans a2).free aa,hE,ac _ _ ag⟩
   have fh:(ws.map C9).length<cP:=by rw[aS,jC];omega
   refine Rp (D:=d2) hH (zm K a lf p lp pm lw dp vf fs ah C U (i+1)) (fun fi=>?_) ?_
   ·have dS:∀ H',iH U dF H'→gz U H'→hF d2 [Z (.ref a),Z (.ref lf),Z (.ref p),Z (.ref lp),b3,b4,b5,Z (.int m),Z (.ref pm),Z (.int ca),Z (.int (0+(i:Int))),Z (.int c),Z (.ref ay),Z (.int L),Z (.ref ar),Z (.ref bz),Z (.ref a4),Z .non] H':=fun H' k t=>by
     refine fi _ _ fun hO dT=>?_
     have b0:=k _ _ fg ck
     refine⟨_,rfl,.inl ⟨rfl,_,C8 b0⟩,a4,_,_,rfl,rfl,b0,fh,?_⟩
     have X:∀ b o,bl b=Z o→b≠U→aI H' a4 (.lst (ws.map C9++[.str "x"])) b=Z o:=fun b o e n=>by rw[bA (fun r=>by rw[r,aa] at e;cases e)];exact k _ _ n (bR _ _ e)
     have tA:gz U (aI H' a4 (.lst (ws.map C9++[.str "x"]))):=pJ t fun b o e _ n _=>by rw[bA (fun r=>by rw[r,b0] at e;exact n _ (eA e).symm)];exact e
     generalize aI H' a4 (.lst (ws.map C9++[.str "x"]))=c0 at X tA ⊢
     refine⟨_,rfl,_,rfl,_,_,rfl,rfl,?_⟩
     refine lQ ?_
     refine⟨_,rfl,rfl,_,rfl,VO rfl ?_⟩
     refine dT _ _ ⟨_,_,_,_,_,_,_,_,_,_,_,_,ca+c,pl,gs,dj,wk,B+10 ^ 15,rfl,?_,⟨?_,tA,bu,cg,di,bp⟩,?_,by omega⟩
     ·exact (dw.same a2).mv (a2 _ _ a7) (a2 _ _ af) (F1 bj a2) ⟨_,a2 _ _ ag⟩ a3.all fun b o e _ _ _ n=>X _ _ e n
     ·exact (az.same a2).keepB (fun b o n e=>X _ _ e n) (F1 bj a2)
     ·rw[Nat.pow_succ]
      have:1≤1000 ^ i:=Nat.pow_pos (by decide)
      omega
    have hP:((ys.map E8).map (gK (fs.map aN))).all id=aD:=ku.mpr fun x m=>by
     obtain⟨gy,hQ,rfl⟩:=cG.mp m
     obtain⟨y,hR,rfl⟩:=cG.mp hQ
     exact B0 (cj y hR)
    refine⟨_,rfl,_,rfl,_,rfl,_,rfl,pm,dx,F,_,_,_,rfl,ac _ _ a7,np _ (by decide +kernel),pm,dp,lw,pl,a4,ar,fs,gs,dj,wk,ws,L,ys.map E8,ys.map C9,B+10 ^ 15,rfl,az.same ac,ck,dK,dk,dm,dq,dr,ds,ac _ _ as,rn ys,by rw[aS];omega,F1 bj ac,bu,ff,by omega,hN,(fun fj=>by rw[hP] at fj;cases fj),fun k7 hS k8=>?_⟩
    obtain rfl:=EK hS
    refine⟨fun _ H' k t=>⟨⟨e8,.inl e9,rfl⟩,l6 (σ':=_) rfl (dS H' k t)⟩,fun hT=>⟨fun _ r _ _ _ d H' k t _=>⟨⟨ea,.inr eb,rfl⟩,l6 (σ':=_) rfl (dS H' k t)⟩,fun ns c1 b1 R hV H' st fk hX hY fr fl i0=>?_⟩⟩
    clear dS
    refine lQ ?_
    refine fi _ _ fun hO dT=>?_
    have i1:∀ {b:aB} {xs:M0},dF b=Z (.lst xs)→b≠lw→H' b=Z (.lst xs):=fun {b xs} e n=>fr _ _ e (fun r=>by rw[r,ac _ _ a7] at e;cases e) (fun r=>by rw[r,ac _ _ af] at e;cases e) n (fun r=>by rw[r,ac _ _ aR] at e;cases e)
    have b0:=i1 ck dK
    refine⟨_,rfl,.inl ⟨rfl,_,C8 b0⟩,a4,_,_,rfl,rfl,b0,fh,?_⟩
    have X:∀ b o,H' b=Z o→b≠a4→aI H' a4 (.lst (ws.map C9++[.str "x"])) b=Z o:=fun b o e n=>by rw[bA n];exact e
    have tA:gz U (aI H' a4 (.lst (ws.map C9++[.str "x"]))):=pJ fl fun b o e _ n _=>X _ _ e (fun r=>by rw[r,b0] at e;exact n _ (eA e).symm)
    generalize aI H' a4 (.lst (ws.map C9++[.str "x"]))=c0 at X tA ⊢
    refine⟨_,rfl,_,rfl,_,_,rfl,rfl,?_⟩
    refine lQ ?_
    refine⟨_,rfl,rfl,_,rfl,VN rfl ?_⟩
    have fm:∀ b o,du b=Z o→b≠pm→b≠dp→b≠lw→b≠U→c0 b=Z o:=fun b o e ap am av aw=>X _ _ (fr _ _ (ac _ _ e) ap am av aw) (fun r=>by rw[r] at e;have:=a2 _ _ e;rw[aa] at this;cases this)
    have cm:oM K a lf lw vf fs c0:=dw.mv a7 af bj ⟨_,ag⟩ a3.all fm
    have i2:c0 ar=Z (.lst (ys.map C9)):=fm _ _ as (fun r=>by rw[r,a7] at as;cases as) (fun r=>by rw[r,af] at as;cases as) hC (fun r=>by rw[r,aR] at as;cases as)
    refine Qm fun k9 i3=>?_
    refine⟨_,rfl,lf,rfl,⟨_,C8 cm.hf⟩,?_⟩
    refine fU (F:=K) (xs:=vf) (by rw[jC];omega) (fun j us J=>J=c0∧us=(((fs.take j).filter fun d=>G9 (aN d∈ys)).map lC).map D1∧us.length≤j) ⟨rfl,rfl,bQ _⟩ ?_ ?_ ?_
    ·rintro j us J i4 ⟨rfl,rfl,fn⟩
     exact⟨C8 cm.hf,fn⟩
    ·rintro j x us J f4 f5 ai ⟨rfl,rfl,fn⟩ k1 k2
     obtain⟨d,a6⟩:∃ d,fs[j]?=Z d:=⟨_,cJ (by have:=(cR.mp ai).1;omega)⟩
     obtain⟨v,ev,ak⟩:=cm.hif.get a6
     rw[ai] at ev
     cases ev
     obtain⟨r,g,e,rfl,_⟩:=iD (a3.all d (dM a6))
     obtain⟨t,rfl,o⟩:=oR ak
     have cn:=QY (ys:=ys) a6
     refine⟨_,rfl,t,_,0,_,rfl,rfl,D0 o,bZ (j:=0) rfl,_,rfl,ar,_,rfl,.inl (C8 i2),rfl,ri ys,_,rfl,?_⟩
     rw[B3 fQ,ro]
     by_cases co:r∈ys
     ·rw[B4 co] at cn
      rw[B0 co]
      refine dO ⟨_,rfl,t,_,2,_,rfl,rfl,D0 o,bZ (j:=2) rfl,k1 _ _ ⟨rfl,?_,by rw[eW,lV];omega⟩⟩
      rw[cn,dJ]
      rfl
     ·rw[B3 co,lK] at cn
      rw[B1 co]
      exact cC (k2 _ ⟨rfl,by rw[cn],by omega⟩)
    rintro us J ⟨rfl,rfl,_⟩
    rw[d0,dP (bQ _)]
    intro fo i5
    have dV:=C7 (o:=.lst (((fs.filter fun d=>G9 (aN d∈ys)).map lC).map D1)) i5
    refine⟨fo,_,rfl,C8 aV,?_⟩
    generalize aI J fo (.lst (((fs.filter fun d=>G9 (aN d∈ys)).map lC).map D1))=i6 at dV ⊢
    refine lQ ?_
    have e0:=cm.same dV
    refine⟨_,rfl,_,_,rfl,rfl,.inl ⟨by decide,by decide⟩,_,rfl,lf,rfl,⟨_,C8 e0.hf⟩,?_⟩
    refine fU (F:=K) (xs:=vf) (by rw[jC];omega) (fun j us c2=>c2=i6∧us=((fs.take j).map lC).map D1) ⟨rfl,rfl⟩ ?_ ?_ ?_
    ·rintro j us c2 i4 ⟨rfl,rfl⟩
     exact⟨C8 e0.hf,by rw[aS,aS,dY];omega⟩
    ·rintro j x us c2 f4 f5 ai ⟨rfl,rfl⟩ k1 k2
     obtain⟨d,a6⟩:∃ d,fs[j]?=Z d:=⟨_,cJ (by have:=(cR.mp ai).1;omega)⟩
     obtain⟨v,ev,ak⟩:=e0.hif.get a6
     rw[ai] at ev
     cases ev
     obtain⟨r,g,e,rfl,_⟩:=iD (a3.all d (dM a6))
     obtain⟨t,rfl,o⟩:=oR ak
     refine⟨_,rfl,t,_,2,_,rfl,rfl,D0 o,bZ (j:=2) rfl,k1 _ _ ⟨rfl,?_⟩⟩
     rw[dR,a6,dJ,dJ]
     rfl
    rintro us c2 ⟨rfl,rfl⟩
    rw[d0,dP (bQ _)]
    intro fp i7
    have e1:=dV.trans (C7 (o:=.lst ((fs.map lC).map D1)) i7)
    refine⟨fp,_,rfl,C8 aV,_,_,rfl,rfl,_,rfl,?_⟩
    generalize aI c2 fp (.lst ((fs.map lC).map D1))=fq at e1 ⊢
    rw[B1 (show ¬ 2*((fs.filter fun d=>G9 (aN d∈ys)).map lC).sum≤(fs.map lC).sum from hT)]
    refine cC ?_
    refine i3 _ _ _ ?_
    refine⟨_,rfl,_,rfl,_,rfl,_,rfl,_,rfl,dA rfl,fun cp ft=>?_⟩
    have cq:=e1.trans (C7 (o:=.lst [.ref ay,.int L,.int (val (bD fs gs L) b1)]) ft)
    have fu:aI fq cp (.lst [.ref ay,.int L,.int (val (bD fs gs L) b1)]) cp=Z (.lst [.ref ay,.int L,.int (val (bD fs gs L) b1)]):=aV
    have cr:=e1.free ft
    generalize aI fq cp (.lst [.ref ay,.int L,.int (val (bD fs gs L) b1)])=bb at cq fu ⊢
    have i8:=(fV az.lnd).2
    have i9:=(fV az.lnd).1
    have ia:=bR _ _ (a8 _ _ (ae _ _ bk))
    have fv:dp≠a0:=fun r=>by rw[← r,af] at aj;cases aj
    have ib:a0≠lw:=fun r=>by rw[r,ag] at aj;cases aj
    have ic:a0≠U:=fun r=>by rw[r,aR] at aj;cases aj
    have ie:a0≠pm:=fun r=>by rw[r,a7] at aj;cases aj
    have e2:=fr _ _ ia ie fv.symm ib ic
    have fw:a0≠a4:=fun r=>by rw[← r,a8 _ _ (ae _ _ bk)] at aa;cases aa
    obtain⟨ka,fx,_⟩:=id fl
    have hm:∀ b o,H' b=Z o→b≠a0→b≠U→b≠a4→(if b=a0∨b=U then aF else bb b)=Z o:=fun b o e ap am av=>by
     rw[B3 (fun h=>by rcases h with h | h;exact ap h;exact am h)]
     exact cq _ _ (X _ _ e av)
    have fy:∀ {b:aB} {o:cY},bl b=Z o→(∀ c d f,o≠.ins c d f)→(∀ J,o≠.dK J)→(∀ ps,o≠.tbl ps)→b≠lw→(if b=a0∨b=U then aF else bb b)=Z o:=fun {b o} e ap am av aw=>by
     have e3:b≠U:=fun r=>by rw[r,a2 _ _ aR] at e;exact av _ (eA e).symm
     have fz:b≠a0:=fun r=>by rw[r,a8 _ _ (ae _ _ bk)] at e;exact am _ (eA e).symm
     exact hm _ _ (fr _ _ (bR _ _ e) (fun r=>by rw[r,a2 _ _ a7] at e;exact ap _ _ _ (eA e).symm) (fun r=>by rw[r,a2 _ _ af] at e;exact am _ (eA e).symm) aw e3) fz e3 (fun r=>by rw[r,aa] at e;cases e)
    have cs:∀ {b:aB} {xs:M0},bl b=Z (.lst xs)→b≠lw→(if b=a0∨b=U then aF else bb b)=Z (.lst xs):=fun e n=>fy e (fun _ _ _ r=>by cases r) (fun _ r=>by cases r) (fun _ r=>by cases r) n
    have fI:∀(b:aB)(xs:M0),bl b=Z (.tup xs)→(if b=a0∨b=U then aF else bb b)=Z (.tup xs):=fun b xs e=>fy e (fun _ _ _ r=>by cases r) (fun _ r=>by cases r) (fun _ r=>by cases r) (fun r=>by rw[r,a2 _ _ ag] at e;cases e)
    have fO:∀ d∈wk++[pP ws L (val (bD fs gs L) b1)],p9 d:=fun d m=>by
     rcases gN.mp m with m | m
     ·exact bp d m
     ·rw[eU.mp m]
      exact⟨ws,L,_,rfl,by omega⟩
    have e4:=bx _ _ ag
    have fT:=hX.cut (H':=fun b=>if b=a0∨b=U then aF else bb b) i0 fO e2 (fc.same fun b xs e=>fr _ _ (ac _ _ e) (fun r=>by rw[r,a7] at e;cases e) (fun r=>by rw[r,af] at e;cases e) (fun r=>by rw[r,ag] at e;cases e) (fun r=>by rw[r,aR] at e;cases e)) fv fx b0 dK hm
    refine⟨_,_,_,rfl,(fun b=>if b=a0∨b=U then aF else bb b),pm,bz,cp,a0,ay,fs,gs,wk,dj,ws,L,b1,R,hV,B+10 ^ 15,rfl,rfl,rfl,⟨fun b o e=>?_,B4 (.inl rfl),B4 (.inr rfl),F1 tA cq,⟨pl,ld,hK,cs fe ?_,?_,cs (a8 _ _ hL) ?_,?_⟩,?_,cs (a2 _ _ f7) hB,⟨bw,?_,fc.same fun b xs e=>fI _ _ (a2 _ _ e)⟩,⟨dp,lw,c1,fT⟩,st,fk,dk,dm,dq,dr,ds,bu,ff,cg,ns,bp,by omega⟩,fun kb g0 ig=>⟨_,rfl,cC ?_⟩⟩
    ·have e:(if b=a0∨b=U then aF else bb b)=Z o:=e
     by_cases h:b=a0∨b=U
     ·rw[B4 h] at e;cases e
     ·rw[B3 h] at e
      exact e
    ·exact fun r=>by rw[r,ae _ _ e4] at dz;cases dz
    ·exact Co (fun b o e g1=>hm _ _ (fr _ _ (ac _ _ (ba _ _ e)) (fun r=>by rw[r,f9] at e;cases e) (fun r=>by rw[r,fa] at e;cases e) (fun r=>by rw[r,fb] at e;cases e) (fun r=>by rw[r] at e;have:=ba _ _ e;rw[aR] at this;exact g1 _ (eA this).symm)) (fun r=>by rw[r,ba.free aj] at e;cases e) (fun r=>by rw[r] at e;have:=ba _ _ e;rw[aR] at this;exact g1 _ (eA this).symm) (fun r=>by rw[r,(ba.trans a2).free aa] at e;cases e)) hD
    ·exact fun r=>by rw[r,e4] at cI;cases cI
    ·exact zT (H:=nw hI dy) (fun b xs e=>fI _ _ (a8 _ _ (ov e).2)) (fun b xs e=>cs (a8 _ _ (ov e).2) (fun r=>by have:=(ov e).1;rw[r,e4] at this;cases this)) bp hM
    ·rw[B3 (fun h=>by
      rcases h with h | h
      ·rw[h,X _ _ e2 fw] at cr;cases cr
      ·rw[h,X _ _ fx fg.symm] at cr;cases cr)]
     exact fu
    ·exact cq _ _ (X _ _ e2 fw)
    obtain⟨ih,ii⟩:=QD rfl i9 i8 ds dk dm dq dr st fk bu cg ns di
    refine⟨_,rfl,_,rfl,_,_,rfl,rfl,lQ ?_⟩
    refine dT _ _ ⟨_,_,_,_,_,_,_,_,_,_,_,_,ca+c - val (bD fs gs L) b1,c1,_,_,wk++[pP ws L (val (bD fs gs L) b1)],1000*((B+10 ^ 15)+10 ^ 30),rfl,?_,⟨fT.same g0,ig,hY,ih,ii,fO⟩,?_,by rw[eW,lV];omega⟩
    ·exact dw.mv a7 af bj ⟨_,ag⟩ a3.all fun b o e ap am av aw=>g0 _ _ (hm _ _ (fr _ _ (ac _ _ e) ap am av aw) (fun r=>by rw[r,aj] at e;cases e) aw (fun r=>by rw[r] at e;have:=a2 _ _ e;rw[aa] at this;cases this))
    ·exact VY cb
   ·rintro kc H2 ⟨aw,kd,ke,kf,kg,e3,fz,kh,ki,kj,kk,kl,ct,c1,g2,e5,g3,g4,rfl,ij,⟨e6,ik,cu,il,g5,im⟩,g6,io⟩
    obtain⟨ip,iq,_,_,_,ir,is,_⟩:=id e6.ex
    refine⟨_,rfl,pm,ip,iq,rfl,ir,is.no _ (by decide +kernel),_,rfl,pm,dp,lw,c1,fs,g2,e5,g3,rfl,e6,fun bc c3 it iu=>?_⟩
    have a9:=C7 (o:=.dK c3) it
    have cv:aI H2 bc (.dK c3) bc=Z (.dK c3):=aV
    generalize aI H2 bc (.dK c3)=km at a9 cv ⊢
    refine⟨⟨bc,_,rfl,.inl cv⟩,bc,_,rfl,rfl,.inl cv,fun g7 iv=>?_⟩
    have g8:=C7 (o:=pO g7 bc) iv
    refine⟨g7,bc,_,rfl,aV,.inl (g8 _ _ cv),fun br iw=>?_⟩
    have ix:=C7 (o:=.lst (c3.map (·.2))) iw
    have g9:=a9.trans (g8.trans ix)
    refine⟨_,rfl,br,_,(fs.map aN).map e5,g4,rfl,aV,QR g9 iu,fun q m=>?_,by rw[aS,aS];exact dN a3.l2 (by decide),?_,fun v kn b2 ga=>?_⟩
    ·obtain⟨r,b9,rfl⟩:=cG.mp m
     exact cu r b9
    ·exact dN (dN (pU _ _) g6) (dN (yQ _ (o2 (by decide) (show i+1≤7 by omega))) (by decide +kernel))
    rw[Pd (n:=ct) (fun q m=>by obtain⟨r,b9,rfl⟩:=cG.mp m;exact⟨(cu r b9).1,(cu r b9).2.1⟩) (by rw[← g5];unfold cD;rw[eP];rfl)] at ga
    obtain⟨d4,rfl,bk⟩:=ga
    refine⟨_,rfl,dA rfl,fun iy iz=>?_⟩
    have bn:=C7 (o:=.tup [.int ct,.int 1]) iz
    have e7:=g9.trans (b2.trans bn)
    exact u1 (.tup [.int ct,.int 1]) ⟨d4,_,rfl,bn _ _ bk,_,_,rfl,rfl,_,_,rfl,rfl,rfl⟩ ⟨iy,_,rfl,aV,_,_,rfl,rfl,_,_,rfl,rfl,rfl⟩ rfl (cC (d3 _ _ ⟨_,_,_,_,_,_,_,_,_,_,_,_,ct,c1,g2,e5,g3,g4,rfl,ij.same e7,⟨e6.same e7,F1 ik e7,cu,il,g5,im⟩,g6,io⟩))
  ·rintro Y G ⟨b3,b4,b5,b6,hk,hl,hn,ho,hp,hq,hr,hs,ca,pl,gs,pu,wk,B,rfl,I,ex,cb,ht⟩
   refine hh _ _ _ ?_
   exact q _
def YC(e:mg "law"=Z (.ref a))(T:Txt K mg C) :
  ∃fd:iK,(∀(s:aJ)(u:aE),I9 s fd ⟨[u],[]⟩ [("_law_script",u)])/\∀b_:bH,K.In b_->b_.Ns mM mg->nh K mg b_ "lists_of_places" c d->hZ P w K mg b_ iV 15 a fd ["_law_script"] (wN K d):=by
 obtain⟨f,fd,F,b,m⟩:=T.q54.ex;rw[e]at m;cases m;refine⟨fd,λs u=>?_,λb_ _ _ B=>Tt T B F⟩;obtain⟨g,h,kV,doc,pm,i,j,k,l,rfl,lk,n⟩:=F.ex;exact .of_eq O
end
end K83
theorem q1{α:Type}{P:List α→Prop}(h:∀a,P [a]):∀u:List α,u.length=1→P u
|[a],_=>h a
theorem q2{α:Type}{P:List α→Prop}(h:∀a b,P [a,b]):∀u:List α,u.length=2→P u
|[a,b],_=>h a b
theorem q3{α:Type}{P:List α→Prop}(h:∀a b c,P [a,b,c]):∀u:List α,u.length=3→P u
|[a,b,c],_=>h a b c
theorem q4{α:Type}{P:List α→Prop}(h:∀a b c d,P [a,b,c,d]):∀u:List α,u.length=4→P u
|[a,b,c,d],_=>h a b c d
theorem q5{α:Type}{P:List α→Prop}(h:∀a b c d e,P [a,b,c,d,e]):∀u:List α,u.length=5→P u
|[a,b,c,d,e],_=>h a b c d e
end
structure PySem.W.Fast:Prop where(tw5999648971590632855 tw16784754983543508532 tw6363979397943555494 tw6912606240630343555 tw537557146435844524 tw2520993923819549195 tw6025835881774989019 tw10887645403745034488 tw4381814885559865721 tw18365195581661017952 tw18173593749308291098 tw9371239373797713196 tw10366832084797102016 tw17110253954911057742 tw15318344065098125558 tw12303734423141141283 tw9035246613409501075 tw1577943977472540853 tw7383859387867632523 tw3734099954333749301 tw6889293755245455876 tw4196049387631406631 tw10499415818309007076 tw8364636923809326403 tw1523474290581068409 tw16717177503854774332 tw12349225041535799667 tw12928560510532223710 tw5818667652999931448 tw2040828511898250507 tw8109855265552820522 tw1856555143253784641 tw15328862070000439162 tw4249701017751854077 tw14521682723303756399 tw5419057162296374938 tw17295318990300503224 tw13507920493960996025 tw11619443208952841275 tw18204431353791221752 tw13126416337108261036 tw16788896318172591383 tw14009892588687213065 tw15512337075675403787 tw11204127153164070966 tw2950824483146617742 tw5633939255572692836 tw10852073238657129973 tw7506484412521625936 tw3719350703349292672 tw16685338218633467920 tw6592864859149477622 tw14619283110091095229 tw14088622112099485210 tw17354911794168164815 tw16476323445428446917 tw14143979084832558190 tw6738276057830007261 tw17754320754795458740 tw15675279513435389761 tw15716211002570754509 tw17505659425563458982 tw1209532805726056215 tw11585193254092057626 tw11369052714543583541 tw3089852678035869876 tw14923808082611640359 tw452040655451181507 tw1905227422559881786 tw11442456114323053184 tw3437122570883562503 tw17421945601929199254 tw4329327033381031873 tw2702981242391089475 tw9858414177052452262 tw8886307299292544588 tw10349657776597936541 tw11541643446167824308 tw13871339451623459356 tw8679582518176396096 tw8161990619713548070 tw8369575486622126508 tw15074393922664736698 tw5331865085111806742 tw10235497125033675367 tw10908675149371562347 tw10092990738566181905 tw8457256120063190574 tw12569675361163215413 tw6701264439162122729 tw5987623273627802241 tw7757030528993091920 tw2617671417074477441 tw5621961535480599367 tw685528867591588441 tw15656876909908192198 tw17506001931249566246 tw7966500274006538783 tw15388611445146388183 tw13751238924829409332 tw6341746603546360022 tw17022912645777768415 tw13091415665164502003 tw17058988481580555475 tw14601985152437556774 tw2415525529972681718 tw12479723304023933715 tw2536926760710077904 tw11389146658817403395 tw9865321751771862301 tw14090419486681846958 tw16871273110803905824 tw16144851833658681958 tw13299113998769572553 tw6263090183369832548 tw7524677243513358529 tw5343015519490663027 tw10668468934490891348 tw14292131110726462996 tw11889415170930128829 tw16693971754190871830 tw15052006071775667479 tw12640996545410440235 tw607325692774625201 tw5961939169174365163 tw3382204900669769911 tw8009769099195254586 tw3805272858697137042 tw16193662573217260720 tw5722944770478640339 tw4537565626261482722 tw3853151586325627893 tw2313833597034471409 tw11984091709436643352 tw9610284222983149857 tw9712892884528309286 tw3740286037566155439 tw14867578241778955044 tw5580353401502037560 tw14108517132263983572 tw2568065990147406409 tw6930578955090740977 tw14600536080880147141 tw16200373464696340971 tw10368473913897097638 tw12272892224833015855 tw10761390766470574562 tw12950440324856574003 tw6862943529978809039 tw8828732461521483565 tw18174515027519974869 tw4760649491792129055 tw33770223785495210 tw3497976703868914445 tw17444328660760096132 tw11496655367857096198 tw8602420315488799278 tw11263436747714513225 tw3819236893244645234 tw13071513180725961276 tw15029868708119632512 tw3247433454508659190 tw3704849778908886647 tw1798659282035212591 tw8204062687542028040 tw6891776117395666949 tw16486927541745595246 tw11346977791614946443 tw3608990086287616019 tw5307770697264676760 tw12613101132584063539 tw4805123795924061870 tw6754629161187186946 tw16349175588187221785 tw6704548996999052781 tw1053289339714910959 tw12067836430282097078 tw9631584454382495931 tw17459335843445656761 tw3843623665826337045 tw2861989307132685876 tw6208293420482905321 tw1137478866965331476 tw3757748263826433517 tw15987537286901147078 tw3465330053623864897 tw1284191501433171999 tw9896738734114053470 tw9885651501465962641 tw8087228815982136905 tw14110369305063881476 tw10822573779260956272 tw15422123294978172329 tw10489792562463133835 tw15057310773863219215 tw592819315066514102 tw12473441766856910498 tw9843567742206989975 tw2267064642619451468 tw2496961981298681338 tw13948157682327611660 tw4437712057972837133 tw9295050580793289671 tw1565903937058059859 tw5751306664443243516 tw2245512768267357040 tw264110354363098798 tw13987075031691005167 tw14123207542048950919 tw3543333099170491571 tw13773261463688271970 tw6725392516148131466 tw9766319771343079221 tw10612358445624916311 tw17509456330098788995 tw15880241718589914437 tw11365615428351994684 tw12719638607567312938 tw9905140781852552136 tw3353271989786622905 tw5842954179606253426 tw6631321401315372928 tw13216377972414406521 tw14487827528317847679 tw12817571259857096133 tw5169441464646576927 tw3403431825824915028 tw5692534135158995734 tw16116486540693494912 tw14664586859851733991 tw5083220093126265626 tw13059267790899011187 tw9741931788984348309 tw9093248943353317935 tw9041097223700558867 tw2185559648628174201 tw14869732483287265065 tw11204249366982260457 tw17939453847875826521 tw14693928298565740816 tw7209903413631837328 tw15678200056047350255 tw16494245198976734746 tw5803992855976625654 tw5405301873248819843 tw15293837178132585756 tw5804310066871596226 tw2655005441396331029 tw15852225429653008737 tw7456225372436798219 tw2499609453647801508 tw18069617027077242208 tw12229215381565683786 tw17027173998186267825 tw1671814427704171875 tw2817129332915195284 tw9818122504015177989 tw15673681594227129246 tw1720588363236461152 tw11480342635230027278 tw3847785516148179225 tw17887155488359666271 tw5093159683960927466 tw3195027270885234479 tw17468172759650226477 tw5651882612453098653 tw11038809263946292676 tw15221278474933757763 tw11044705654146471350 tw18191902547130594081 tw6730834464290030767 tw8447694857109609736 tw5566495400962297846 tw5002702498659905001 tw16309438845001577327 tw15717686675747081672 tw13738394340819005871 tw10885738388829460964 tw8171339304617311473 tw15314450001221429686 tw14851765457558914330 tw13482666232029052768 tw13897049525626833099 tw12489517786914017607 tw12342509298123817722 tw7642652505406926654 tw15048194040832515580 tw12161548687007602635 tw10927235799213366064 tw14599199908807079230 tw9668995063632774217 tw16522052486809904473 tw17651080433645901174 tw1071867765178159027 tw4468231634580523547 tw17912895705325465127 tw18188890627327390956 tw6914882318236052539 tw5643566176088143285 tw17556302009674828275 tw5918730552939625929 tw13583475634009380774 tw13891664962397046224 tw8654059846443336907 tw12755002573156612018 tw17630689233894330362 tw8861313016470347949 tw9841258288375770698 tw17480501688977696808 tw17447691578512448752 tw15430968692935602248 tw13510061109362752073 tw12659686870151502256 tw3228482925502257112 tw8366491542249950438 tw5496707135839242524 tw4718778756859699013 tw2327895340166253180 tw14911899358461494805 tw14854626093738518603 tw14787314757739117409 tw13516352554343735925 tw13323007510935603669 tw8408685783503244341 tw5941874239768754863 tw587448528963850928 tw886019650796533586 tw12208011785778824417 tw6433200451954900300 tw3920898589936632001 tw14856871195739145965 tw5666439200075978811 tw174655156800663764 tw7524501513428218836 tw7489280142202328858 tw6218647984307732498 tw4796285187645942532 tw4429792887415736601 tw1963009500503806353 tw1839013857936804004 tw16756082943615839433 tw15997136470219645227 tw15302263179816759428 tw8362145788822858527 tw4635995299638466057 tw4102920503864966896 tw3044575876750394434 tw17166998204913204868 tw15734253583323072969 tw15513228789136018081 tw15173809048670670245 tw14897131221423448903 tw12343543383452139565 tw12280580221812485375 tw7905167878043992820 tw15795371588444533410 tw9390004529745108461 tw9283363308187275068 tw9194308740467613135 tw917662919494506662 tw7934916224896350273 tw7517296956636126632 tw7027963022672191423 tw6998948207509198169 tw6105307436205399027 tw5413190846763318159 tw4941210108970217269 tw4935096142975708201 tw431952292678004076 tw3419882149032705185 tw3359176488339737704 tw2950300526783402861 tw2903531128861792233 tw2117646094235671831 tw185875708507639484 tw18167317331338085900 tw18103402197070055240 tw17706065004630226692 tw17547491814587791325 tw17324000269398955925 tw16627449100688403614 tw16577121878989392225 tw15738653164306170013 tw15565876140668030124 tw15504805899856405922 tw15265949183973881090 tw13853859760288588606 tw13828792203774060929 tw13521616940536721876 tw12747832947443994980 tw12701807964458959958 tw12494703984252248357 tw1218701556941313911 tw12082861938246571355 tw11923987186474301002 tw11751296711620537939 tw11724438320967388574 tw11326747705197057814 tw11211221126069962797 tw10820806281675022228 tw10679579586964910528 tw9663110160417260511 tw13339539718223471693 tw8097700156475974038 tw2585849966163130366 tw1318316816152423690 tw7756417440899140388 tw1848514446370947069 tw15116656038983673855 tw12738780281863102029 tw8893613335592639544 tw8648629343745133410 tw3007344587248047899 tw1966286847074584646 tw16615403437101873993 tw16080945430526274528 tw13952191938385707434 tw13687454991677681391 tw13557671226848656902 tw1333669617219331588 tw13238550301102980497 tw13020942791509710414 tw1039141071551026228 tw5696716859375547410 tw7985225405233835949 tw16959237934298622223 tw16324653773566604015 tw16316394642731842457 tw16001611176677382511 tw12648790788661846145 tw12126674813052683911 tw11557490270827913822 tw8493785859600141428 tw2858080359385594583 tw7674646744201801919 tw16356803951180042253 tw1743822921748136261 tw1194188146933699739 tw4948299944979415433 tw14367176177976276927 tw15869076098808414780 tw1129354056881023095:True)
open PySem PySem.W PyProof.Rows
set_option maxRecDepth 100000 in
set_option maxHeartbeats 0 in
theorem PySem.Challenge.cw_dykemoot_k83_whole_ledger_holds : PySem.Challenge.rw_dykemoot_k83_whole_ledger.Holds := by
 w_on; o_law; k_head; (case hw=>w_witness2)
 k_fill
 refine L2.YP (l:=PySem.Challenge.rw_dykemoot_k83_whole_ledger) 15 "lists_of_places" 468 466 ⟨rfl,by decide,by decide⟩ rfl rfl (fun w h Y=>PySem.W.km_in_of Y) (fun w h Y=>PySem.W.km_tabs_of Y 466 (by k_mem)) (fun w=>by kernel_rfl) (fun w=>by kernel_rfl) (fun w=>by kernel_rfl) ?F
 case F =>
  intro w mg fa h KX G hmg
  refine' K83.YC hmg (.mk ⟨?_,?_,?_,?_⟩ (PySem.W.mg_of KX G ?_) ?_ ?_ ⟨?_,?_,?_,?_⟩ ?_ ?_ ?_ ?_ ?_ ?_ ?_ ?_ ?_ ?_ ⟨_,⟨?_,?_,?_,?_⟩,PySem.W.mg_of KX G ?_,?_,?_,?_,?_,?_,?_,?_,?_,?_⟩ ⟨_,⟨⟨⟨?_⟩,?_⟩,?_,?_,?_,⟨?_,?_,?_,?_⟩⟩,PySem.W.mg_of KX G ?_⟩ ⟨_,⟨⟨⟨?_⟩,?_⟩,?_,?_,?_,⟨?_,?_,?_,?_⟩⟩,PySem.W.mg_of KX G ?_⟩ ⟨_,_,⟨⟨?_,?_,?_,?_,?_,⟨?_,?_,?_,?_⟩⟩,?_,?_,?_,?_,?_,?_,?_,⟨?_⟩⟩,PySem.W.mg_of KX G ?_,PySem.W.mg_of KX G ?_⟩ ..)
  all_goals try first|k_is|k_exc|kts_exm|kit_is
  all_goals try first|k_is|k_exc|kts_exm|kit_is|(show PySem.W.findIn _ _ _ = some none; k_is)
  all_goals try first|exact PySem.W.mg_none_of KX G (by k_is)|exact ⟨_,PySem.W.mg_of KX G (by k_is)⟩|refine' L2.Yo KX G ?_ ?_ ?_ ?_ ?_|refine' L2.YG ?_ ?_ ?_ ?_ ?_ ?_|refine' L2.Yu ?_ ?_ ?_ ?_ ?_ ?_ ?_ ?_|refine' L2.Yt KX G ?_ ?_|refine' L2.YQ (PySem.W.mg_of KX G ?_) (PySem.W.mg_of KX G ?_) ?_|refine' L2.Yk (PySem.W.mg_of KX G ?_) (PySem.W.mg_of KX G ?_) ?_
  all_goals try first|k_is|kit_is|kts_exm|exact ⟨_,rfl⟩|exact fun _ _ _ _ _ _=>q1 fun _=>rfl|exact fun _ _ _ _ _ _=>q2 fun _ _=>rfl|exact fun _ _ _ _ _ _=>q3 fun _ _ _=>rfl|exact fun _ _ _ _ _ _=>q4 fun _ _ _ _=>rfl|exact fun _ _ _ _ _ _=>q5 fun _ _ _ _ _=>rfl
  all_goals try first|k_is|kit_is|kts_exm|exact ⟨_,rfl⟩|kernel_rfl|decide +kernel|exact fun _ _ _ _ _ _=>q1 fun _=>rfl|exact fun _ _ _ _ _ _=>q2 fun _ _=>rfl|exact fun _ _ _ _ _ _=>q3 fun _ _ _=>rfl|exact fun _ _ _ _ _ _=>q4 fun _ _ _ _=>rfl|exact fun _ _ _ _ _ _=>q5 fun _ _ _ _ _=>rfl
