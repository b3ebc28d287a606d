import PyProof.Rows.All
import Wide.All
import OpenK.AllK
import Wide.FinOn
import Lean
import PyProof.EqAt
import PyProof.EqKinds
import PyProof.TupleCall
import PyProof.StrBlockI
import PyProof.SliceList
import PyProof.StrLawsIn
import PyProof.StrLaws
import PyProof.DictValues
import KE.KItemsList
import KE.KEqDict
import PyProof.DictItems
import PyProof.MeetsDictList
import PySem.Challenge.RW_dykemoot_k22_flood_heights
set_option Elab.async false
set_option linter.all false
set_option maxRecDepth 100000
namespace L2
open PySem PySem.Spec PyProof.Rows
abbrev Key:=Sum Int Str
def mX:Key → Value → Bool
 | .inl k,v=>Value.isInt k v
 | .inr x,v=>Value.isStrOf x v
def aIL (w:World):Key → Int
 | .inl k=>hashInt k
 | .inr x=>hashStr w x
theorem bO:∀ {k:Key} {v:Value},mX k v = true → (∃ i t,k = Sum.inl i ∧ v = Value.int i t) ∨ (∃ x t,k = Sum.inr x ∧ v = Value.str x t)
 | .inl i,v,h=>by
  obtain ⟨t,e⟩:=Value.isInt_shape (k:=i) (v:=v) h
  exact .inl ⟨i,t,rfl,e⟩
 | .inr x,v,h=>by
  obtain ⟨t,e⟩:=Value.isStrOf_shape (x:=x) (v:=v) h
  exact .inr ⟨x,t,rfl,e⟩
theorem mI (i:Int) (t:Tok):mX (.inl i) (.int i t) = true:=by simp [mX,Value.isInt]
theorem mH (x:Str) (t:Tok):mX (.inr x) (.str x t) = true:=by simp [mX,Value.isStrOf]
theorem aFP (a b:Int):decide ((Sum.inl a:Key) = Sum.inl b) = (a == b):=by
 by_cases e:a = b
 ·subst e;simp
 ·have h:¬ (Sum.inl a:Key) = Sum.inl b:=fun q=>e (Sum.inl.inj q)
  rw [decide_eq_false h]
  exact (beq_eq_false_iff_ne.mpr e).symm
theorem aFM (a b:Str):decide ((Sum.inr a:Key) = Sum.inr b) = decide (a = b):=by
 by_cases e:a = b
 ·subst e;simp
 ·have h:¬ (Sum.inr a:Key) = Sum.inr b:=fun q=>e (Sum.inr.inj q)
  rw [decide_eq_false h,decide_eq_false e]
theorem aFO (a:Int) (b:Str):decide ((Sum.inl a:Key) = Sum.inr b) = false:=decide_eq_false (fun q=>nomatch q)
theorem aFN (a:Str) (b:Int):decide ((Sum.inr a:Key) = Sum.inl b) = false:=decide_eq_false (fun q=>nomatch q)
def aI (prog:Program) (w:World):PySem.KeyKind prog w Key where
 is:=mX
 hash:=aIL w
 inj:=fun v a b ha hb=>by
  rcases bO ha with ⟨i,t,rfl,rfl⟩ | ⟨x,t,rfl,rfl⟩
  ·rcases bO hb with ⟨j,u,rfl,e⟩ | ⟨y,u,rfl,e⟩
   ·injection e with e1 _;rw [e1]
   ·exact nomatch e
  ·rcases bO hb with ⟨j,u,rfl,e⟩ | ⟨y,u,rfl,e⟩
   ·exact nomatch e
   ·injection e with e1 _;rw [e1]
 byValue:=fun k v h=>by
  rcases bO h with ⟨i,t,rfl,rfl⟩ | ⟨x,t,rfl,rfl⟩ <;> rfl
 pyHash:=fun hv h=>by
  rcases bO hv with ⟨i,t,rfl,rfl⟩ | ⟨x,t,rfl,rfl⟩
  ·exact wpAny_pyHash_int h
  ·exact wpAny_pyHash_str h
 eqBool:=fun hu hv h=>by
  rcases bO hu with ⟨i,t,rfl,rfl⟩ | ⟨x,t,rfl,rfl⟩
  ·rcases bO hv with ⟨j,u,rfl,rfl⟩ | ⟨y,u,rfl,rfl⟩
   ·rw [aFP] at h;exact wpAny_eqBool_int h
   ·rw [aFO] at h;exact SeqAt.EqAt.int_str i t y u _ _ _ _ h
  ·rcases bO hv with ⟨j,u,rfl,rfl⟩ | ⟨y,u,rfl,rfl⟩
   ·rw [aFN] at h;exact SeqAt.EqAt.str_int x t j u _ _ _ _ h
   ·rw [aFM] at h;exact wpAny_eqBool_str h
 «strs»:=fun k x t v h=>by
  rcases bO h with ⟨i,u,rfl,e⟩ | ⟨y,u,rfl,e⟩
  ·exact nomatch e
  ·injection e with e1 _
   subst e1
   cases v <;> rfl
theorem vL (prog:Program) (w:World) (i:Int) (t:Tok):(aI prog w).is (.inl i) (.int i t) = true:=mI i t
theorem vK (prog:Program) (w:World) (x:Str) (t:Tok):(aI prog w).is (.inr x) (.str x t) = true:=mH x t
end L2
namespace L2
open PySem PySem.Spec PyProof.Rows
inductive V where
 | non | bl (b:Bool) | int (i:Int) | str (x:Str) | byt (b:Array UInt8) | flt (b:UInt64) | ref (a:Addr) | ty (n:String)
 deriving DecidableEq
def aZ:V → Value → Prop
 | .non,u=>u = Value.none
 | .bl b,u=>u = Value.bool b
 | .int i,u=>∃ t,u = Value.int i t
 | .str x,u=>∃ t,u = Value.str x t
 | .byt b,u=>∃ t,u = Value.bytes b t
 | .flt b,u=>∃ t,u = Value.float b t
 | .ref a,u=>u = Value.ref a
 | .ty n,u=>u = Value.type n
abbrev bC:List V → List Value → Prop:=Paired aZ
theorem bC.length {xs:List V} {us:List Value} (r:bC xs us):xs.length = us.length:=Paired.length r
theorem bC.get:∀ {xs:List V} {us:List Value} {i:Nat} {x:V},bC xs us → xs[i]? = some x → ∃ u,us[i]? = some u ∧ aZ x u
 | _,_,_,_,.nil,e=>by simp at e
 | _,_,0,_,.cons r _,e=>by simp at e;subst e;exact ⟨_,rfl,r⟩
 | _,_,i + 1,x,.cons _ t,e=>by
  obtain ⟨u,h1,h2⟩:=bC.get (i:=i) (x:=x) t (by simpa using e)
  exact ⟨u,by simpa using h1,h2⟩
theorem bC.append:∀ {xs ys:List V} {us ws:List Value},bC xs us → bC ys ws → bC (xs ++ ys) (us ++ ws)
 | _,_,_,_,.nil,s=>s
 | _,_,_,_,.cons r t,s=>.cons r (bC.append t s)
def jB:Option V → Option Value → Prop
 | some v,some u=>aZ v u
 | none,none=>True
 | _,_=>False
def KV {κ:Type}:List (κ × V) → List (κ × Value) → Prop:=Paired fun (p:κ × V) (q:κ × Value)=>p.1 = q.1 ∧ aZ p.2 q.2
def kV:Key → V
 | .inl i=>.int i
 | .inr x=>.str x
inductive HO where
 /-- a list -/
 | lst (xs:List V)
 /-- a tuple (never changes) -/
 | tup (xs:List V)
 /-- a dict whose keys are ints and texts;one whose keys are tuples of ints and texts (the empty one is both) -/
 | dK (kvs:List (Key × V)) | dT (kvs:List (List Key × V))
 /-- a set of ints: its members,its size -/
 | set (S:Int → Bool) (n:Nat)
 /-- an instance of the class at C,its dict at dx,its attributes -/
 | ins (C dx:Addr) (fs:List (Str × V))
 /-- the dict of the instance at x -/
 | own (x:Addr)
 /-- the dict of an exception -/
 | xd (fs:List (Str × V))
 /-- a bound method,f of x -/
 | met (f x:Addr)
 /-- a range object lo,lo + 1,.. below hi -/
 | rng (lo hi:Int)
 /-- a thing that is known to the object (the script;a dict while a loop walks it): read,never written while it is so -/
 | frz (o:Obj) (u:HO)
 /-- a aHP object's table -/
 | tbl (ps:Array Value)
 /-- any other thing,by what is true of its one object (a def of one's own: aAL a S n:=HO.ext fun h=>..) -/
 | ext (φ:Heap → Prop)
abbrev Hp:=Addr → Option HO
def upd (H:Hp) (a:Addr) (o:HO):Hp:=fun b=>if b = a then some o else H b
theorem aD {H:Hp} {a:Addr} {o:HO}:upd H a o a = some o:=by unfold upd;rw [if_pos rfl]
theorem aO {H:Hp} {a b:Addr} {o:HO} (h:b ≠ a):upd H a o b = H b:=by unfold upd;rw [if_neg h]
theorem aDC {H:Hp} {a:Addr} {o u:HO}:upd (upd H a o) a u = upd H a u:=by
 funext b;unfold upd;split <;> rfl
theorem yI {H:Hp} {a b:Addr} {o u:HO} (h:H a = some o) (h':H b = some u) (d:o ≠ u):a ≠ b:=by
 intro e;subst e;rw [h] at h';exact d (Option.some.inj h')
theorem aS {H:Hp} {a b:Addr} {o:HO} (h:H a = some o) (h':H b = none):a ≠ b:=by
 intro e;subst e;rw [h] at h';cases h'
def xN (h:Heap) (a:Addr) (its:Array Value):Prop:=∃ o,h.get? a = some o ∧ o.cls = .type "tuple" ∧ ∃ n,o.data = .seq its n ∧ o.dict = none
theorem xN.tup {h:Heap} {a:Addr} {its:Array Value} (x:xN h a its):IsTup h a its:=by
 obtain ⟨o,e,c,n,d,_⟩:=x
 exact ⟨o,e,c,n,d⟩
section
variable (P:Program) (w:World)
def bX (H:Hp) (h:Heap) (a:Addr):HO → Prop
 | .lst xs=>xs.length ≤ sizeLine ∧ ∃ (its:List Value) (n:Nat),bC xs its ∧ h.get? a = some { cls:=.type "list",data:=.seq its.toArray n }
 | .tup xs=>xs.length ≤ sizeLine ∧ ∃ its:List Value,bC xs its ∧ xN h a its.toArray
 | .dK kvs=>kvs.length ≤ sizeLine ∧ (a == sysModules) = false ∧ ∃ vs,KV kvs vs ∧ h.DictOf (aI P w) a vs
 | .dT kvs=>kvs.length ≤ sizeLine ∧ (a == sysModules) = false ∧ ∃ xs:List (List Key × Addr × Value),
   Paired (fun (p:List Key × V) (q:List Key × Addr × Value)=>p.1 = q.1 ∧ H q.2.1 = some (.tup (p.1.map kV)) ∧ aZ p.2 q.2.2) kvs xs ∧
   ∃ o es ep,h.get? a = some o ∧ o.ExactDict ∧ o.data = .dict es ep ∧ es.toList = xs.map (entryOfKey (tupleKind (aI P w))) ∧ (xs.map (·.1)).Nodup
 | .set S n=>h.SetOf (intKind P w) a S n
 | .ins C dx fs=>H dx = some (.own a) ∧ fs.length ≤ 1000 ∧ dx ≠ a ∧ h.get? a = some (PySem.W.instObj C dx) ∧
   ∃ mA,h.Ns1 dx mA ∧ (∀ f,jB (fs.lookup f) (mA f)) ∧ PySem.Within mA (fs.map (·.1))
 | .own _=>∃ o,h.get? a = some o
 | .xd fs=>∃ mA,h.Ns1 a mA ∧ ∀ f,jB (fs.lookup f) (mA f)
 | .rng lo hi=>∃ t u v,h.get? a = some { cls:=.type "range",data:=.fields #[.int lo t,.int hi u,.int 1 v] }
 | .frz o u=>h.get? a = some o ∧ bX H h a u
 | .tbl ps=>h.get? a = some { cls:=.none,data:=.fields ps }
 | .met f x=>h.get? a = some (PySem.W.methodObj (.ref f) (.ref x))
 | .ext φ=>φ h ∧ (∃ o,h.get? a = some o) ∧ ∀ h1 h2:Heap,φ h1 → (∀ o,h1.get? a = some o → h2.get? a = some o) → φ h2
def HOk (H:Hp) (h:Heap):Prop:=∀ a o,H a = some o → bX P w H h a o
end
section
variable {P:Program} {w:World} {H H':Hp} {h h':Heap} {a:Addr} {o:HO}
theorem bX.lt (x:bX P w H h a o):a < h.objs.size:=by
 cases o with
 | lst xs=>obtain ⟨_,_,_,_,e⟩:=x;exact Heap.lt_size e
 | tup xs=>obtain ⟨_,_,_,_,e,_⟩:=x;exact Heap.lt_size e
 | dK kvs=>obtain ⟨_,_,_,_,o,_,_,e,_⟩:=x;exact Heap.lt_size e
 | dT kvs=>obtain ⟨_,_,_,_,o,_,_,e,_⟩:=x;exact Heap.lt_size e
 | set S n=>obtain ⟨o,_,_,_,e,_⟩:=x;exact Heap.lt_size e
 | ins C dx fs=>obtain ⟨_,_,_,e,_⟩:=x;exact Heap.lt_size e
 | own y=>obtain ⟨_,e⟩:=x;exact Heap.lt_size e
 | xd fs=>obtain ⟨_,⟨_,_,_,e,_⟩,_⟩:=x;exact Heap.lt_size e
 | rng lo hi=>obtain ⟨_,_,_,e⟩:=x;exact Heap.lt_size e
 | frz ob u=>obtain ⟨e,_⟩:=x;exact Heap.lt_size e
 | tbl ps=>exact Heap.lt_size (show h.get? a = some _ from x)
 | met f y=>exact Heap.lt_size (show h.get? a = some _ from x)
 | ext φ=>obtain ⟨_,⟨_,e⟩,_⟩:=x;exact Heap.lt_size e
theorem Paired.mapP {α β:Type} {F G:α → β → Prop}:∀ {l₁:List α} {l₂:List β},Paired F l₁ l₂ → (∀ a b,F a b → G a b) → Paired G l₁ l₂
 | _,_,.nil,_=>.nil
 | _,_,.cons r t,f=>.cons (f _ _ r) (Paired.mapP t f)
theorem bX.stay (x:bX P w H h a o) (k:∀ b u,(b = a ∨ H b = some (.own a)) → h.get? b = some u → h'.get? b = some u)
  (ho:∀ b,H b = some (.own a) → H' b = some (.own a)) (ht:∀ b xs,H b = some (.tup xs) → H' b = some (.tup xs)):bX P w H' h' a o:=by
 induction o with
 | lst xs=>obtain ⟨z,its,n,r,e⟩:=x;exact ⟨z,its,n,r,k _ _ (.inl rfl) e⟩
 | tup xs=>obtain ⟨z,its,r,ob,e,c⟩:=x;exact ⟨z,its,r,ob,k _ _ (.inl rfl) e,c⟩
 | dK kvs=>obtain ⟨z,y,vs,r,ob,es,ep,e,c⟩:=x;exact ⟨z,y,vs,r,ob,es,ep,k _ _ (.inl rfl) e,c⟩
 | dT kvs =>
  obtain ⟨z,y,xs,r,ob,es,ep,e,c⟩:=x
  exact ⟨z,y,xs,Paired.mapP r fun p q z=>⟨z.1,ht _ _ z.2.1,z.2.2⟩,ob,es,ep,k _ _ (.inl rfl) e,c⟩
 | set S n=>obtain ⟨ob,es,ep,t,e,c⟩:=x;exact ⟨ob,es,ep,t,k _ _ (.inl rfl) e,c⟩
 | ins C dx fs =>
  obtain ⟨d,z,ne,e,mA,⟨od,es,ep,e2,c⟩,r⟩:=x
  exact ⟨ho _ d,z,ne,k _ _ (.inl rfl) e,mA,⟨od,es,ep,k _ _ (.inr d) e2,c⟩,r⟩
 | own y=>obtain ⟨ob,e⟩:=x;exact ⟨ob,k _ _ (.inl rfl) e⟩
 | xd fs=>obtain ⟨mA,⟨od,es,ep,e,c⟩,r⟩:=x;exact ⟨mA,⟨od,es,ep,k _ _ (.inl rfl) e,c⟩,r⟩
 | rng lo hi=>obtain ⟨t,u,v,e⟩:=x;exact ⟨t,u,v,k _ _ (.inl rfl) e⟩
 | frz ob u ih=>obtain ⟨e,q⟩:=x;exact ⟨k _ _ (.inl rfl) e,ih q⟩
 | tbl ps =>
  have e:h.get? a = some { cls:=.none,data:=.fields ps }:=x
  show h'.get? a = some { cls:=.none,data:=.fields ps }
  exact k a _ (.inl rfl) e
 | met f y =>
  have e:h.get? a = some (PySem.W.methodObj (.ref f) (.ref y)):=x
  show h'.get? a = some (PySem.W.methodObj (.ref f) (.ref y))
  exact k a _ (.inl rfl) e
 | ext φ=>obtain ⟨p,⟨o,e⟩,st⟩:=x;exact ⟨st _ _ p fun o q=>k _ _ (.inl rfl) q,⟨o,k _ _ (.inl rfl) e⟩,st⟩
theorem HOk.lt (x:HOk P w H h) (e:H a = some o):a < h.objs.size:=(x a o e).lt
theorem HOk.fresh (x:HOk P w H h) (e:h.objs.size ≤ a):H a = none:=by
 cases q:H a with
 | none=>rfl
 | some u=>exact absurd (Nat.lt_of_lt_of_le (x.lt q) e) (Nat.lt_irrefl _)
theorem HOk.kept (x:HOk P w H h) (k:∀ b u,h.get? b = some u → h'.get? b = some u):HOk P w H h':=fun a o e =>
 (x a o e).stay (fun b u _ q=>k b u q) (fun _ q=>q) fun _ _ q=>q
theorem HOk.laid (x:HOk P w H h) (k:∀ b u,h.get? b = some u → h'.get? b = some u) (hp:h.objs.size ≤ a) (new:bX P w (upd H a o) h' a o):HOk P w (upd H a o) h':=fun b u e=>by
 have hn:=x.fresh hp
 by_cases hb:b = a
 ·subst hb;rw [aD] at e;cases e;exact new
 ·rw [aO hb] at e
  exact (x b u e).stay (fun c v _ q=>k c v q) (fun c q=>by rw [aO (aS q hn)];exact q) fun c xs q=>by rw [aO (aS q hn)];exact q
end
def Rd (H:Hp) (a:Addr) (u:HO):Prop:=H a = some u ∨ ∃ o,H a = some (.frz o u)
theorem Rd.ok {P:Program} {w:World} {H:Hp} {h:Heap} {a:Addr} {u:HO} (r:Rd H a u) (x:HOk P w H h):bX P w H h a u:=by
 rcases r with r | ⟨o,r⟩
 ·exact x a u r
 ·obtain ⟨_,q⟩:=x a _ r
  exact q
def Mut:Option HO → Prop
 | some (.lst _)=>True
 | some (.dK _)=>True
 | some (.dT _)=>True
 | some (.set _ _)=>True
 | some (.ins _ _ _)=>True
 | some (.ext _)=>True
 | _=>False
section
variable {P:Program} {w:World} {H:Hp} {h h':Heap} {x e:Addr} {o':HO}
theorem HOk.write (ok:HOk P w H h) (mu:Mut (H x)) (he:e = x ∨ H e = some (.own x)) (k:∀ b u,b ≠ e → h.get? b = some u → h'.get? b = some u) (heo:∃ u,h'.get? e = some u)
  (new:bX P w (upd H x o') h' x o'):HOk P w (upd H x o') h':=fun b u q=>by
 have nown:∀ c y,H c = some (.own y) → c ≠ x:=fun c y r z=>by subst z;rw [r] at mu;exact mu
 have ntup:∀ c xs,H c = some (.tup xs) → c ≠ x:=fun c xs r z=>by subst z;rw [r] at mu;exact mu
 by_cases hb:b = x
 ·subst hb;rw [aD] at q;cases q;exact new
 ·rw [aO hb] at q
  by_cases hbe:b = e
  ·have q':H b = some (.own x):=by
    rcases he with z | z
    ·exact absurd (hbe.trans z) hb
    ·rw [hbe];exact z
   rw [q] at q';cases q'
   obtain ⟨v,hv⟩:=heo
   exact ⟨v,by rw [hbe];exact hv⟩
  ·refine (ok b u q).stay (fun c v hc r=>k c v ?_ r) (fun c r=>by rw [aO (nown c b r)];exact r) fun c xs r=>by rw [aO (ntup c xs r)];exact r
   rcases hc with rfl | hc
   ·exact hbe
   ·rintro rfl
    rcases he with z | z
    ·exact nown c b hc z
    ·rw [hc] at z;cases z;exact hb rfl
end
structure Un (fs ex:List Addr) (H H':Hp) (h h':Heap):Prop where
 keep:∀ b o,h.get? b = some o → H b = none → b ∉ fs → b ∉ ex → h'.get? b = some o
 slot:∀ b o,h.get? b = some o → H b = none → b ∈ fs → b ∉ ex → ∃ sl,h'.get? b = some { o with slots:=sl }
 free:∀ b o,h.get? b = some o → H b = none → b ∉ ex → H' b = none
 there:∀ b o,h.get? b = some o → b ∉ ex → ∃ o',h'.get? b = some o'
 tups:∀ b xs,H b = some (.tup xs) → H' b = some (.tup xs)
 frzs:∀ b o u,H b = some (.frz o u) → H' b = some (.frz o u)
 tbls:∀ b ps,H b = some (.tbl ps) → ∃ more,H' b = some (.tbl (ps ++ more))
section
variable {fs fs' ex ex':List Addr} {H H1 H2:Hp} {h h1 h2 h':Heap} {a x e:Addr} {o:HO}
theorem Un.any (u:Un fs ex H H1 h h1) {b:Addr} {ob:Obj} (q:h.get? b = some ob) (n:H b = none) (hx:b ∉ ex):∃ sl,h1.get? b = some { ob with slots:=sl }:=by
 by_cases hb:b ∈ fs
 ·exact u.slot b ob q n hb hx
 ·exact ⟨ob.slots,u.keep b ob q n hb hx⟩
theorem Un.kept (k:∀ b u,h.get? b = some u → h'.get? b = some u):Un fs ex H H h h' :=
 ⟨fun b ob q _ _ _=>k b ob q,fun b ob q _ _ _=>⟨ob.slots,k b ob q⟩,fun _ _ _ n _=>n,fun b ob q _=>⟨ob,k b ob q⟩,fun _ _ q=>q,fun _ _ _ q=>q,fun _ ps q=>⟨#[],by rw [q];simp⟩⟩
theorem Un.refl:Un fs ex H H h h:=Un.kept fun _ _ q=>q
theorem Un.laid (k:∀ b u,h.get? b = some u → h'.get? b = some u) (hp:h.objs.size ≤ a) (hn:H a = none):Un fs ex H (upd H a o) h h' where
 keep:=fun b u q _ _ _=>k b u q
 slot:=fun b u q _ _ _=>⟨u.slots,k b u q⟩
 free:=fun b u q n _=>by rw [aO (Nat.ne_of_lt (Nat.lt_of_lt_of_le (Heap.lt_size q) hp))];exact n
 there:=fun b u q _=>⟨u,k b u q⟩
 tups:=fun b xs q=>by rw [aO (aS q hn)];exact q
 frzs:=fun b u xs q=>by rw [aO (aS q hn)];exact q
 tbls:=fun b ps q=>⟨#[],by rw [aO (aS q hn),q];simp⟩
theorem Un.write (mu:Mut (H x)) (he:e = x ∨ H e = some (.own x)) (k:∀ b u,b ≠ e → h.get? b = some u → h'.get? b = some u) (heo:∃ u,h'.get? e = some u):Un fs ex H (upd H x o) h h':=by
 have hx:∀ b,H b = none → b ≠ x:=fun b n z=>by subst z;rw [n] at mu;exact mu
 have hb:∀ b,H b = none → b ≠ e:=fun b n z=>by
  subst z
  rcases he with r | r
  ·exact hx b n r
  ·rw [n] at r;cases r
 have hm:∀ b u,H b = some u → ¬ Mut (some u) → b ≠ x:=fun b u q nm z=>by subst z;rw [q] at mu;exact nm mu
 refine ⟨fun b u q n _ _=>k b u (hb b n) q,fun b u q n _ _=>⟨u.slots,k b u (hb b n) q⟩,fun b u q n _=>by rw [aO (hx b n)];exact n,fun b u q _=>?_,
  fun b xs q=>by rw [aO (hm b _ q fun z=>z)];exact q,fun b u xs q=>by rw [aO (hm b _ q fun z=>z)];exact q,fun b ps q=>⟨#[],by rw [aO (hm b _ q fun z=>z),q];simp⟩⟩
 by_cases hbe:b = e
 ·subst hbe;exact heo
 ·exact ⟨u,k b u hbe q⟩
end
def trk (h:Heap) (H:Hp):List Addr:=(List.range h.objs.size).filter fun a=>(H a).isSome
def tP (h:Heap) (H:Hp):Heap:=PySem.W.hideAll h (trk h H)
theorem zR (h:Heap) (H:Hp):(tP h H).objs.size = h.objs.size:=PySem.W.hideAll_size _ _
theorem aCG {h:Heap} {H:Hp} {b:Addr} {o:Obj} (e:h.get? b = some o) (n:H b = none):(tP h H).get? b = some o :=
 PySem.W.hideAll_get _ e fun hm=>by
  have q:(H b).isSome = true:=(List.mem_filter.mp hm).2
  rw [n] at q;simp at q
theorem aDT {h:Heap} {H:Hp} {b:Addr} {o:Obj} (e:(tP h H).get? b = some o):h.get? b = some o ∧ H b = none:=by
 have e':h.get? b = some o:=PySem.W.of_hideAll (trk h H) e
 refine ⟨e',?_⟩
 cases q:H b with
 | none=>rfl
 | some x =>
  have hm:b ∈ trk h H:=List.mem_filter.mpr ⟨List.mem_range.mpr (Heap.lt_size e'),by simp [q]⟩
  have z:(tP h H).get? b = none:=PySem.W.hideAll_none (trk h H) hm
  rw [z] at e;cases e
def aEI (g h:Heap) (L:Addr):List (Addr × Obj):=(List.range h.objs.size).filterMap fun a=>if a = L ∨ (g.get? a).isSome = true then none else (h.get? a).map fun o=>(a,o)
def nL (g h:Heap) (L d:Addr):List (Addr × Obj):=(aEI g h L).filter fun p=>decide (p.1 ≠ d)
end L2
namespace L2
open PySem PySem.Spec PyProof.Rows
structure Mod (K:PySem.W.Frag) (mg:Str → Option Value) (base:Heap):Prop where
 kin:K.In base
 glob:base.Ns mainGlobals mg
 blt:∃ mb,base.Ns builtinsNs mb ∧ ∀ x:Str,x ≠ "__name__" → mb x = bootBuiltins x
 nolimit:base.NoLimit
structure Cx where
 prog:Program
 w:World
 K:PySem.W.Frag
 mg:Str → Option Value
 base:Heap
 A:Around
 N:List Str
 s₀:Shared
 H₀:Hp
 env:Env
 outer:List Env
 stack:List Env
 ex:List Addr
 fn:Str → Bool
 calm:Bool
 pn:List (Addr × Obj)
 xe:Value → Shared → Prop
def frs (l:List Env):List Addr:=l.filterMap (·.frame)
abbrev Cx.fs (X:Cx):List Addr:=frs X.outer
def Vis (sc:Scope) (x:Str):Prop:=sc.names.lookup x = some .local ∨ sc.names.lookup x = some .cell ∨ sc.names.lookup x = some .free
def Loc (sc:Scope) (x:Str):Prop:=sc.names.lookup x = some .local ∨ sc.names.lookup x = some .cell
def aIR (env:Env) (h:Heap) (m:Str → Option Value) (x:Str) (u:Value):Prop :=
 (env.kindOf x = some .local ∧ m x = some u) ∨ ((env.kindOf x = some .cell ∨ env.kindOf x = some .free) ∧ ∃ c,env.cells.lookup x = some c ∧ h.IsCell c (some u))
structure Cx.Ok (X:Cx):Prop where
 mod:Mod X.K X.mg X.base
 kind:X.env.scope.kind = .function
 glob:X.env.globals = mainGlobals
 blt:X.env.builtins = builtinsNs
 above:X.s₀.heap.objs.size ≤ X.env.locals
 inj:∀ x y c,X.env.cells.lookup x = some c → X.env.cells.lookup y = some c → x = y
 has:∀ x,(X.env.kindOf x = some .cell ∨ X.env.kindOf x = some .free) → ∃ c,X.env.cells.lookup x = some c
 cab:∀ x c,X.fn x = true → X.env.cells.lookup x = some c → X.s₀.heap.objs.size ≤ c
 hd:X.calm = true → X.A.handled = none
 frames:X.A.frames = some X.stack
 stk:X.stack = X.outer ∨ (X.stack = X.env :: X.outer ∧ X.env.frame = some X.env.locals)
 exf:∀ b ∈ X.ex,b ≠ X.env.locals ∧ ∀ x c,X.env.cells.lookup x = some c → c ≠ b
 bs:∀ b o,X.base.get? b = some o → X.s₀.heap.get? b = some o ∧ X.H₀ b = none
 bsz:X.base.objs.size ≤ X.s₀.heap.objs.size
 noex:∀ b o,X.base.get? b = some o → b ∉ X.ex
 exfs:∀ b ∈ X.ex,b ∉ X.fs
 funs:X.s₀.heap.FunFrames X.base X.outer
 frf:∀ b ∈ X.fs,X.H₀ b = none
structure Inv (X:Cx) (pins:List (Addr × Obj)) (σ:List (Option V)) (H:Hp) (s:Shared):Prop where
 ok:X.Ok
 os:s.os = X.s₀.os
 bare:AllBare s.gens
 base:Un X.fs X.ex X.H₀ H X.s₀.heap s.heap
 loc:∃ m,s.heap.Ns X.env.locals m ∧ ∀ (i:Nat) (x:Str) (v:V),X.N[i]? = some x → σ[i]? = some (some v) → Vis X.env.scope x → ∃ u,aZ v u ∧ aIR X.env s.heap m x u
 cell:∀ x c,X.env.cells.lookup x = some c → ∃ v,s.heap.IsCell c v
 free:H X.env.locals = none
 freeC:∀ x c,X.env.cells.lookup x = some c → H c = none
 pin:∀ p ∈ X.pn ++ pins,s.heap.get? p.1 = some p.2 ∧ H p.1 = none ∧ p.1 ≠ X.env.locals ∧ p.1 ∉ X.fs ∧ ∀ v,p.2.data ≠ .cell v
 hok:HOk X.prog X.w H s.heap
 len:σ.length = X.N.length
section
variable {X:Cx} {pins:List (Addr × Obj)} {σ:List (Option V)} {H H':Hp} {s:Shared} {h':Heap}
theorem Cx.Ok.nofr (ok:X.Ok) {b:Addr} {o:Obj} (e:X.base.get? b = some o):b ∉ X.fs:=fun hb=>by
 have:=(ok.funs.mem hb).1
 rw [e] at this;cases this
theorem Inv.bs (I:Inv X pins σ H s):∀ b o,X.base.get? b = some o → s.heap.get? b = some o ∧ H b = none:=fun b o e =>
 ⟨I.base.keep b o (I.ok.bs b o e).1 (I.ok.bs b o e).2 (I.ok.nofr e) (I.ok.noex b o e),I.base.free b o (I.ok.bs b o e).1 (I.ok.bs b o e).2 (I.ok.noex b o e)⟩
theorem Inv.bk (I:Inv X pins σ H s):∀ b o,X.base.get? b = some o → s.heap.get? b = some o:=fun b o e=>(I.bs b o e).1
theorem Inv.mod (I:Inv X pins σ H s):Mod X.K X.mg X.base:=I.ok.mod
theorem Inv.kIn (I:Inv X pins σ H s):X.K.In s.heap:=I.ok.mod.kin.keeps I.bk
theorem Inv.fr (I:Inv X pins σ H s):∃ m,Fr X.base X.env.locals s.heap m :=
 let ⟨m,hn,_⟩:=I.loc
 ⟨m,hn,I.bk,Nat.le_trans I.ok.bsz I.ok.above⟩
theorem Inv.lt (I:Inv X pins σ H s):X.env.locals < s.heap.objs.size:=let ⟨_,hn,_⟩:=I.loc;hn.lt
theorem Inv.sz (I:Inv X pins σ H s):X.s₀.heap.objs.size ≤ s.heap.objs.size:=Nat.le_trans I.ok.above (Nat.le_of_lt I.lt)
theorem Inv.nofs (I:Inv X pins σ H s) {a:Addr} (h:s.heap.objs.size ≤ a):a ∉ X.fs:=fun hb=>by
 obtain ⟨_,o,ho,_⟩:=I.ok.funs.mem hb
 exact absurd (Nat.lt_of_lt_of_le (Heap.lt_size ho) (Nat.le_trans I.sz h)) (Nat.lt_irrefl _)
theorem Inv.cne (I:Inv X pins σ H s):∀ x c,X.env.cells.lookup x = some c → c ≠ X.env.locals:=fun x c e z=>by
 obtain ⟨v,o,ho,hd⟩:=I.cell x c e
 obtain ⟨m,⟨o',es,ep,ho',hd',_⟩,_⟩:=I.loc
 rw [z,ho'] at ho;cases ho;rw [hd'] at hd;cases hd
theorem Inv.funs (I:Inv X pins σ H s):s.heap.FunFrames X.base X.outer:=by
 have all:∀ (l:List Env),(∀ b ∈ frs l,b ∈ X.fs) → X.s₀.heap.FunFrames X.base l → s.heap.FunFrames X.base l:=by
  intro l
  induction l with
  | nil=>intro _ _;trivial
  | cons env r ih =>
   intro hs hl
   obtain ⟨hk,⟨L,o,hf,hn,ho,hd⟩,hr⟩:=hl
   have hL:L ∈ X.fs:=hs L (by unfold frs;rw [List.filterMap_cons,hf];exact List.mem_cons_self)
   obtain ⟨sl,e⟩:=I.base.slot L o ho (I.ok.frf L hL) hL fun z=>I.ok.exfs L z hL
   exact ⟨hk,⟨L,_,hf,hn,e,hd⟩,ih (fun b hb=>hs b (by unfold frs;rw [List.filterMap_cons,hf];exact List.mem_cons_of_mem _ hb)) hr⟩
 exact all X.outer (fun _ hb=>hb) I.ok.funs
theorem Inv.stack (I:Inv X pins σ H s):s.heap.FunFrames X.base X.stack:=by
 rcases I.ok.stk with e | ⟨e,hf⟩
 ·rw [e];exact I.funs
 ·rw [e]
  obtain ⟨m,hn,_⟩:=I.loc
  refine .cons (by rw [I.ok.kind];decide) hf hn ?_ I.funs
  exact Heap.get?_none_of_le (Nat.le_trans I.ok.bsz I.ok.above)
theorem Inv.stkSub (I:Inv X pins σ H s):∀ b ∈ frs X.stack,b ∈ X.env.locals :: X.fs:=fun b hb=>by
 rcases I.ok.stk with e | ⟨e,hf⟩
 ·rw [e] at hb;exact List.mem_cons_of_mem _ hb
 ·rw [e] at hb
  unfold frs at hb
  rw [List.filterMap_cons,hf] at hb
  exact hb
theorem Inv.stkFree (I:Inv X pins σ H s):∀ b ∈ frs X.stack,H b = none:=fun b hb=>by
 rcases List.mem_cons.mp (I.stkSub b hb) with e | hb
 ·rw [e];exact I.free
 ·obtain ⟨_,o,ho,_⟩:=I.ok.funs.mem hb
  exact I.base.free b o ho (I.ok.frf b hb) fun z=>I.ok.exfs b z hb
theorem Inv.step {g':Array GenState} {t':Nat} {d':Drawn} {ch:List Addr} (I:Inv X pins σ H s)
  (hch:∀ b ∈ ch,(b ∈ X.ex ∨ X.s₀.heap.objs.size ≤ b) ∧ b ≠ X.env.locals ∧ (∀ x c,X.env.cells.lookup x = some c → c ≠ b) ∧ ∀ p ∈ X.pn ++ pins,p.1 ≠ b)
  (keep:∀ b o,b ≠ X.env.locals → b ∉ X.fs → b ∉ ch → s.heap.get? b = some o → H b = none → h'.get? b = some o)
  (slot:∀ b o,b ≠ X.env.locals → b ∈ X.fs → b ∉ ch → s.heap.get? b = some o → H b = none → ∃ sl,h'.get? b = some { o with slots:=sl }) (free:∀ b o,b ∉ ch → s.heap.get? b = some o → H b = none → H' b = none)
  (there:∀ b o,b ∉ ch → s.heap.get? b = some o → ∃ o',h'.get? b = some o')
  (tups:∀ b xs,H b = some (.tup xs) → H' b = some (.tup xs)) (frzs:∀ b o u,H b = some (.frz o u) → H' b = some (.frz o u)) (tbls:∀ b ps,H b = some (.tbl ps) → ∃ more,H' b = some (.tbl (ps ++ more)))
  (ns:∀ m,s.heap.Ns X.env.locals m → h'.Ns X.env.locals m) (hok:HOk X.prog X.w H' h') (hg:AllBare g') :
  Inv X pins σ H' { s with heap:=h',gens:=g',drawn:=d',toks:=t' }:=by
 have neL:∀ b o,X.s₀.heap.get? b = some o → b ≠ X.env.locals:=fun b o e=>Nat.ne_of_lt (Nat.lt_of_lt_of_le (Heap.lt_size e) I.ok.above)
 have neC:∀ b o,X.s₀.heap.get? b = some o → b ∉ X.ex → b ∉ ch:=fun b o e hx hb=>by
  rcases (hch b hb).1 with z | z
  ·exact hx z
  ·exact absurd (Nat.lt_of_lt_of_le (Heap.lt_size e) z) (Nat.lt_irrefl _)
 have cellK:∀ x c,X.env.cells.lookup x = some c → ∀ v,s.heap.IsCell c v → h'.IsCell c v:=fun x c e v ⟨o,ho,hd⟩=>by
  have nch:c ∉ ch:=fun z=>(hch c z).2.2.1 x c e rfl
  by_cases hc:c ∈ X.fs
  ·obtain ⟨sl,q⟩:=slot c o (I.cne x c e) hc nch ho (I.freeC x c e)
   exact ⟨_,q,hd⟩
  ·exact ⟨o,keep c o (I.cne x c e) hc nch ho (I.freeC x c e),hd⟩
 refine ⟨I.ok,I.os,hg,⟨fun b o e n hb hx=>?_,fun b o e n hb hx=>?_,fun b o e n hx=>?_,fun b o e hx=>?_,fun b xs e=>tups b xs (I.base.tups b xs e),fun b o xs e=>frzs b o xs (I.base.frzs b o xs e),fun b ps e=>?_⟩,?_,fun x c e=>?_,?_,fun x c e=>?_,fun p hp=>?_,hok,I.len⟩
 ·exact keep b o (neL b o e) hb (neC b o e hx) (I.base.keep b o e n hb hx) (I.base.free b o e n hx)
 ·obtain ⟨sl,e1⟩:=I.base.slot b o e n hb hx
  obtain ⟨sl',e2⟩:=slot b _ (neL b o e) hb (neC b o e hx) e1 (I.base.free b o e n hx)
  exact ⟨sl',e2⟩
 ·obtain ⟨o',e1⟩:=I.base.there b o e hx
  exact free b o' (neC b o e hx) e1 (I.base.free b o e n hx)
 ·obtain ⟨o',e1⟩:=I.base.there b o e hx
  exact there b o' (neC b o e hx) e1
 ·obtain ⟨m1,e1⟩:=I.base.tbls b ps e
  obtain ⟨m2,e2⟩:=tbls b _ e1
  exact ⟨m1 ++ m2,by rw [e2,Array.append_assoc]⟩
 ·obtain ⟨m,hn,hl⟩:=I.loc
  refine ⟨m,ns m hn,fun i x v e1 e2 e3=>?_⟩
  obtain ⟨u,r,l⟩:=hl i x v e1 e2 e3
  refine ⟨u,r,?_⟩
  rcases l with l | ⟨k,c,e,z⟩
  ·exact .inl l
  ·exact .inr ⟨k,c,e,cellK x c e _ z⟩
 ·obtain ⟨v,z⟩:=I.cell x c e
  exact ⟨v,cellK x c e v z⟩
 ·obtain ⟨m,⟨o,_,_,ho,_⟩,_⟩:=I.loc
  exact free _ o (fun z=>(hch _ z).2.1 rfl) ho I.free
 ·obtain ⟨v,o,ho,hd⟩:=I.cell x c e
  exact free c o (fun z=>(hch c z).2.2.1 x c e rfl) ho (I.freeC x c e)
 ·obtain ⟨e,n,ne,nf,d⟩:=I.pin p hp
  have nch:p.1 ∉ ch:=fun z=>(hch p.1 z).2.2.2 p hp rfl
  exact ⟨keep p.1 p.2 ne nf nch e n,free p.1 p.2 nch e n,ne,nf,d⟩
theorem Inv.un {t':Nat} (I:Inv X pins σ H s) (u:Un X.fs [] H H' s.heap h') (hok:HOk X.prog X.w H' h'):Inv X pins σ H' { s with heap:=h',toks:=t' }:=by
 obtain ⟨m,⟨o,es,ep,ho,r⟩,_⟩:=id I.loc
 obtain ⟨sl,hL⟩:=u.any ho I.free (by simp)
 exact I.step (g':=s.gens) (d':=s.drawn) (ch:=[]) (fun _ z=>nomatch z) (fun b o _ hb _ e n=>u.keep b o e n hb (by simp)) (fun b o _ hb _ e n=>u.slot b o e n hb (by simp)) (fun b o _ e n=>u.free b o e n (by simp)) (fun b o _ e=>u.there b o e (by simp)) u.tups u.frzs u.tbls (fun m' hm=>by
  obtain ⟨o',es',ep',ho',r'⟩:=hm
  rw [ho] at ho';cases ho'
  exact ⟨_,es',ep',hL,r'⟩) hok I.bare
theorem Inv.call {g':Array GenState} {t':Nat} {d':Drawn} {ch:List Addr} (I:Inv X pins σ H s) (u:Un (frs X.stack) ch H H' s.heap h') (hok:HOk X.prog X.w H' h') (hg:AllBare g')
  (hch:∀ b ∈ ch,(b ∈ X.ex ∨ X.s₀.heap.objs.size ≤ b) ∧ b ≠ X.env.locals ∧ (∀ x c,X.env.cells.lookup x = some c → c ≠ b) ∧ ∀ p ∈ X.pn ++ pins,p.1 ≠ b) :
  Inv X pins σ H' { s with heap:=h',gens:=g',drawn:=d',toks:=t' }:=by
 obtain ⟨m,⟨o,es,ep,ho,r⟩,_⟩:=id I.loc
 obtain ⟨sl,hL⟩:=u.any ho I.free fun z=>(hch _ z).2.1 rfl
 exact I.step (ch:=ch) hch (fun b o hL hb hc e n=>u.keep b o e n (fun z=>(List.mem_cons.mp (I.stkSub b z)).elim hL hb) hc) (fun b o _ _ hc e n=>u.any e n hc) (fun b o hc e n=>u.free b o e n hc) (fun b o hc e=>u.there b o e hc) u.tups u.frzs u.tbls (fun m' hm=>by
  obtain ⟨o',es',ep',ho',r'⟩:=hm
  rw [ho] at ho';cases ho'
  exact ⟨_,es',ep',hL,r'⟩) hok hg
theorem Inv.turned {t':Nat} {it:Addr} (I:Inv X pins σ H s) (k:∀ b o,b ≠ it → s.heap.get? b = some o → h'.get? b = some o) (hn:H it = none) (hL:it ≠ X.env.locals)
  (h1:it ∈ X.ex ∨ X.s₀.heap.objs.size ≤ it) (h2:∀ x c,X.env.cells.lookup x = some c → c ≠ it) (h3:∀ p ∈ X.pn ++ pins,p.1 ≠ it):Inv X pins σ H { s with heap:=h',toks:=t' }:=by
 have nit:∀ b u,H b = some u → b ≠ it:=fun b u e z=>by rw [z,hn] at e;cases e
 refine I.step (g':=s.gens) (d':=s.drawn) (ch:=[it]) (fun b hb=>?_) (fun b o _ _ hc e _=>k b o (fun z=>hc (by simp [z])) e) (fun b o _ _ hc e _=>⟨o.slots,k b o (fun z=>hc (by simp [z])) e⟩) (fun _ _ _ _ n=>n)
  (fun b o hc e=>⟨o,k b o (fun z=>hc (by simp [z])) e⟩) (fun _ _ e=>e) (fun _ _ _ e=>e) (fun b ps e=>⟨#[],by rw [e];simp⟩) (fun m hm=>?_) (fun b u e=>?_) I.bare
 ·have e:b = it:=by simpa using hb
  subst e
  exact ⟨h1,hL,h2,h3⟩
 ·obtain ⟨o,es,ep,ho,r⟩:=hm
  exact ⟨o,es,ep,k _ o (Ne.symm hL) ho,r⟩
 ·refine (I.hok b u e).stay (fun c v hc q=>k c v ?_ q) (fun _ q=>q) fun _ _ q=>q
  rcases hc with z | z
  ·rw [z];exact nit b u e
  ·exact nit c _ z
theorem Inv.tok (I:Inv X pins σ H s) (t:Nat):Inv X pins σ H { s with toks:=t }:=I.un (h':=s.heap) (t':=t) Un.refl I.hok
theorem Inv.kept {t':Nat} (I:Inv X pins σ H s) (k:∀ b u,s.heap.get? b = some u → h'.get? b = some u):Inv X pins σ H { s with heap:=h',toks:=t' }:=I.un (Un.kept k) (I.hok.kept k)
theorem Inv.laid {a:Addr} {o:HO} {t':Nat} (I:Inv X pins σ H s) (k:∀ b u,s.heap.get? b = some u → h'.get? b = some u) (hp:s.heap.objs.size ≤ a) (new:bX X.prog X.w (upd H a o) h' a o) :
  Inv X pins σ (upd H a o) { s with heap:=h',toks:=t' }:=I.un (Un.laid k hp (I.hok.fresh hp)) (I.hok.laid k hp new)
theorem Inv.write {x e:Addr} {o:HO} {t':Nat} (I:Inv X pins σ H s) (mu:Mut (H x)) (he:e = x ∨ H e = some (.own x)) (k:∀ b u,b ≠ e → s.heap.get? b = some u → h'.get? b = some u) (heo:∃ u,h'.get? e = some u)
  (new:bX X.prog X.w (upd H x o) h' x o):Inv X pins σ (upd H x o) { s with heap:=h',toks:=t' }:=I.un (Un.write mu he k heo) (I.hok.write mu he k heo new)
theorem Inv.weak {σ':List (Option V)} (I:Inv X pins σ H s) (hl:σ'.length = σ.length) (w:∀ (i:Nat) v,σ'[i]? = some (some v) → σ[i]? = some (some v)):Inv X pins σ' H s :=
 ⟨I.ok,I.os,I.bare,I.base,let ⟨m,hn,hl'⟩:=I.loc;⟨m,hn,fun i x v e1 e2 e3=>hl' i x v e1 (w i v e2) e3⟩,I.cell,I.free,I.freeC,I.pin,I.hok,hl.trans I.len⟩
theorem Inv.pins_of {pins':List (Addr × Obj)} (I:Inv X pins σ H s) (h:∀ p ∈ pins',s.heap.get? p.1 = some p.2 ∧ H p.1 = none ∧ p.1 ≠ X.env.locals ∧ p.1 ∉ X.fs ∧ ∀ v,p.2.data ≠ .cell v):Inv X pins' σ H s :=
 ⟨I.ok,I.os,I.bare,I.base,I.loc,I.cell,I.free,I.freeC,fun p hp=>(List.mem_append.mp hp).elim (fun z=>I.pin p (List.mem_append_left _ z)) (h p),I.hok,I.len⟩
theorem vI {N:List Str} (hN:N.Nodup) {i j:Nat} {x:Str} (a:N[i]? = some x) (b:N[j]? = some x):i = j:=by
 obtain ⟨h1,e1⟩:=List.getElem?_eq_some_iff.mp a
 obtain ⟨h2,e2⟩:=List.getElem?_eq_some_iff.mp b
 exact (List.getElem_inj hN).mp (e1.trans e2.symm)
theorem yX {M:Model} {A:Around} {E:Value → Shared → Prop} {i:Nat} {x:Str} {v:V} {u:Value} {Q:Unit → Shared → Prop} (I:Inv X pins σ H s) (hN:X.N.Nodup) (hi:X.N[i]? = some x) (hx:Loc X.env.scope x) (r:aZ v u)
  (h:∀ s',Inv X pins (σ.set i (some v)) H s' → (∃ a,Heap.SameBut a s.heap s'.heap ∧ (a = X.env.locals ∨ X.env.cells.lookup x = some a)) → Q () s') (hf:X.fn x = true ∨ X.env.scope.names.lookup x = some .local:=by first | exact .inl rfl | exact .inr rfl | assumption):wpAny M A (storeName X.env x u) Q E s:=by
 obtain ⟨m,hn,hl⟩:=id I.loc
 have hcls:(X.env.scope.kind == .class || (X.env.scope.kind == .module && X.env.locals != X.env.globals)) = false:=by rw [I.ok.kind];rfl
 have hiσ:i < σ.length:=by rw [I.len];exact (List.getElem?_eq_some_iff.mp hi).1
 have cne:=I.cne
 have tracked:∀ {a:Addr} {h':Heap},(∃ o,s.heap.get? a = some o ∧ H a = none) → Heap.SameBut a s.heap h' → HOk X.prog X.w H h':=fun {a h'} ha hs b ob e=>by
  obtain ⟨_,_,hfree⟩:=ha
  refine (I.hok b ob e).stay (fun c w' hc q=>(hs.2 c ?_).trans q) (fun _ q=>q) fun _ _ q=>q
  rintro rfl
  rcases hc with rfl | hc
  ·rw [hfree] at e;cases e
  ·rw [hfree] at hc;cases hc
 rcases hx with hk | hk
 ·refine wpAny_storeName_local hk hn (fun h' hn' hs=>?_) hcls
  obtain ⟨oL,_,_,hoL,_⟩:=id hn
  refine h _ ⟨I.ok,I.os,I.bare,⟨fun b o e n hb hx=>?_,fun b o e n hb hx=>?_,I.base.free,fun b o e hx=>?_,I.base.tups,I.base.frzs,I.base.tbls⟩,⟨_,hn',fun j y v' e1 e2 e3=>?_⟩,fun y c e=>?_,I.free,I.freeC,fun p hp=>?_,tracked ⟨oL,hoL,I.free⟩ hs,by simpa using I.len⟩ ⟨_,hs,.inl rfl⟩
  ·exact (hs.2 b (Nat.ne_of_lt (Nat.lt_of_lt_of_le (Heap.lt_size e) I.ok.above))).trans (I.base.keep b o e n hb hx)
  ·obtain ⟨sl,e1⟩:=I.base.slot b o e n hb hx
   exact ⟨sl,(hs.2 b (Nat.ne_of_lt (Nat.lt_of_lt_of_le (Heap.lt_size e) I.ok.above))).trans e1⟩
  ·obtain ⟨o',e1⟩:=I.base.there b o e hx
   exact ⟨o',(hs.2 b (Nat.ne_of_lt (Nat.lt_of_lt_of_le (Heap.lt_size e) I.ok.above))).trans e1⟩
  ·by_cases hj:j = i
   ·subst hj
    rw [hi] at e1;cases e1
    rw [List.getElem?_set_self hiσ] at e2
    cases e2
    exact ⟨u,r,.inl ⟨hk,by simp⟩⟩
   ·rw [List.getElem?_set_ne (Ne.symm hj)] at e2
    obtain ⟨u',r',q⟩:=hl j y v' e1 e2 e3
    refine ⟨u',r',?_⟩
    rcases q with ⟨k,e⟩ | ⟨k,c,e,z⟩
    ·refine .inl ⟨k,?_⟩
     have:y ≠ x:=fun e=>hj (vI hN e1 (e ▸ hi))
     simp [this,e]
    ·exact .inr ⟨k,c,e,z.sameBut hs (cne y c e)⟩
  ·obtain ⟨w',z⟩:=I.cell y c e
   exact ⟨w',z.sameBut hs (cne y c e)⟩
  ·obtain ⟨e,n,ne,nf,d⟩:=I.pin p hp
   exact ⟨(hs.2 p.1 ne).trans e,n,ne,nf,d⟩
 ·have hfn:X.fn x = true:=by
   rcases hf with z | z
   ·exact z
   ·rw [z] at hk;cases hk
  obtain ⟨c,hc⟩:=I.ok.has x (.inl hk)
  obtain ⟨w',z⟩:=I.cell x c hc
  refine wpAny_storeName_cell I.ok.kind hk hc z (fun h' hc' hs=>?_)
  obtain ⟨oc,hoc,hocd⟩:=id z
  refine h { s with heap:=h' } ⟨I.ok,I.os,I.bare,⟨fun b o e n hb hx=>?_,fun b o e n hb hx=>?_,I.base.free,fun b o e hx=>?_,I.base.tups,I.base.frzs,I.base.tbls⟩,⟨m,hn.sameBut hs (Ne.symm (cne x c hc)),fun j y v' e1 e2 e3=>?_⟩,fun y c' e=>?_,I.free,I.freeC,fun p hp=>?_,tracked ⟨oc,hoc,I.freeC x c hc⟩ hs,by simpa using I.len⟩ ⟨c,hs,.inr hc⟩
  ·exact (hs.2 b (Nat.ne_of_lt (Nat.lt_of_lt_of_le (Heap.lt_size e) (I.ok.cab x c hfn hc)))).trans (I.base.keep b o e n hb hx)
  ·obtain ⟨sl,e1⟩:=I.base.slot b o e n hb hx
   exact ⟨sl,(hs.2 b (Nat.ne_of_lt (Nat.lt_of_lt_of_le (Heap.lt_size e) (I.ok.cab x c hfn hc)))).trans e1⟩
  ·obtain ⟨o',e1⟩:=I.base.there b o e hx
   exact ⟨o',(hs.2 b (Nat.ne_of_lt (Nat.lt_of_lt_of_le (Heap.lt_size e) (I.ok.cab x c hfn hc)))).trans e1⟩
  ·by_cases hj:j = i
   ·subst hj
    rw [hi] at e1;cases e1
    rw [List.getElem?_set_self hiσ] at e2
    cases e2
    exact ⟨u,r,.inr ⟨.inl hk,c,hc,hc'⟩⟩
   ·rw [List.getElem?_set_ne (Ne.symm hj)] at e2
    obtain ⟨u',r',q⟩:=hl j y v' e1 e2 e3
    refine ⟨u',r',?_⟩
    rcases q with q | ⟨k,c',e,z'⟩
    ·exact .inl q
    ·refine .inr ⟨k,c',e,z'.sameBut hs ?_⟩
     rintro rfl
     exact hj (vI hN e1 (I.ok.inj _ _ _ e hc ▸ hi))
  ·by_cases hcc:c' = c
   ·subst hcc;exact ⟨_,hc'⟩
   ·obtain ⟨w2,z2⟩:=I.cell y c' e
    exact ⟨w2,z2.sameBut hs hcc⟩
  ·obtain ⟨e,n,ne,nf,d⟩:=I.pin p hp
   refine ⟨(hs.2 p.1 ?_).trans e,n,ne,nf,d⟩
   intro q
   rw [q,hoc] at e
   have q':oc = p.2:=Option.some.inj e
   exact d w' (by rw [← q'];exact hocd)
theorem uI {M:Model} {A:Around} {E:Value → Shared → Prop} {i:Nat} {x:Str} {v:V} {u:Value} {Q:Unit → Shared → Prop} (I:Inv X pins σ H s) (hN:X.N.Nodup) (hi:X.N[i]? = some x) (hx:Loc X.env.scope x) (r:aZ v u)
  (h:∀ s',Inv X pins (σ.set i (some v)) H s' → Q () s') (hf:X.fn x = true ∨ X.env.scope.names.lookup x = some .local:=by first | exact .inl rfl | exact .inr rfl | assumption):wpAny M A (storeName X.env x u) Q E s :=
 yX I hN hi hx r (fun s' I' _=>h s' I') hf
theorem Inv.call' {s':Shared} {ch:List Addr} (I:Inv X pins σ H s) (ho:s'.os = s.os) (u:Un (frs X.stack) ch H H' s.heap s'.heap) (hok:HOk X.prog X.w H' s'.heap) (hg:AllBare s'.gens)
  (hch:∀ b ∈ ch,(b ∈ X.ex ∨ X.s₀.heap.objs.size ≤ b) ∧ b ≠ X.env.locals ∧ (∀ x c,X.env.cells.lookup x = some c → c ≠ b) ∧ ∀ p ∈ X.pn ++ pins,p.1 ≠ b):Inv X pins σ H' s':=by
 obtain ⟨h',g',d',t',o'⟩:=s'
 have e:o' = s.os:=ho
 subst e
 exact I.call (g':=g') (t':=t') (d':=d') u hok hg hch
end
abbrev XK:=Value → Option Addr → Hp → Prop
abbrev St:=List (Option V)
abbrev VK:=V → Hp → Prop
abbrev TE:=St → Hp → VK → Prop
abbrev TT:=St → Hp → (Bool → Hp → Prop) → Prop
abbrev TA:=St → Hp → (List V → Hp → Prop) → Prop
structure Ends where
 nx:St → Hp → Prop
 rt:VK
 bk:St → Hp → Prop:=fun _ _=>False
 ct:St → Hp → Prop:=fun _ _=>False
abbrev TS:=Ends → St → Hp → Prop
def EP (X:Cx) (pins:List (Addr × Obj)) (σ:St) (Q:VK) (u:Value) (s':Shared):Prop:=∃ v H',Inv X pins σ H' s' ∧ aZ v u ∧ Q v H'
def TP (X:Cx) (pins:List (Addr × Obj)) (σ:St) (Q:Bool → Hp → Prop) (b:Bool) (s':Shared):Prop:=∃ H',Inv X pins σ H' s' ∧ Q b H'
def AP (X:Cx) (pins:List (Addr × Obj)) (σ:St) (Q:List V → Hp → Prop) (us:List Value) (s':Shared):Prop:=∃ vs H',Inv X pins σ H' s' ∧ bC vs us ∧ Q vs H'
def SP (X:Cx) (pins:List (Addr × Obj)) (D:Ends) (f:Flow) (s':Shared):Prop :=
 match f with
 | .next=>∃ σ' H',Inv X pins σ' H' s' ∧ D.nx σ' H'
 | .brk=>∃ σ' H',Inv X pins σ' H' s' ∧ D.bk σ' H'
 | .cont=>∃ σ' H',Inv X pins σ' H' s' ∧ D.ct σ' H'
 | .ret u=>∃ v σ' H',Inv X pins σ' H' s' ∧ aZ v u ∧ D.rt v H'
def PE (X:Cx) (e:Expr) (t:TE):Prop :=
 ∀ (pins:List (Addr × Obj)) (s:Shared) (σ:St) (H:Hp) (Q:VK),Inv X pins σ H s → t σ H Q → wpAny (model X.prog X.w) X.A (eval e X.env) (EP X pins σ Q) X.xe s
def PT (X:Cx) (e:Expr) (t:TT):Prop :=
 ∀ (pins:List (Addr × Obj)) (s:Shared) (σ:St) (H:Hp) (Q:Bool → Hp → Prop),Inv X pins σ H s → t σ H Q → wpAny (model X.prog X.w) X.A (isTrue e X.env (eval e X.env)) (TP X pins σ Q) X.xe s
def PW (X:Cx) (e:Expr) (t:TT):Prop :=
 ∀ (whole:Sem Value) (pins:List (Addr × Obj)) (s:Shared) (σ:St) (H:Hp) (Q:Bool → Hp → Prop),Inv X pins σ H s → t σ H Q → wpAny (model X.prog X.w) X.A (isTrue e X.env whole) (TP X pins σ Q) X.xe s
theorem PW.pt {X:Cx} {e:Expr} {t:TT} (h:PW X e t):PT X e t:=h _
def PA (X:Cx) (es:List Expr) (t:TA):Prop :=
 ∀ (pos:Pos) (pins:List (Addr × Obj)) (s:Shared) (σ:St) (H:Hp) (Q:List V → Hp → Prop),Inv X pins σ H s → t σ H Q → wpAny (model X.prog X.w) X.A (spliced (backTo pos (starEach es X.env))) (AP X pins σ Q) X.xe s
def PS (X:Cx) (st:Stmt) (t:TS):Prop :=
 ∀ (pins:List (Addr × Obj)) (s:Shared) (σ:St) (H:Hp) (D:Ends),Inv X pins σ H s → t D σ H → wpAny (model X.prog X.w) X.A (exec st X.env) (SP X pins D) X.xe s
def PSs (X:Cx) (st:List Stmt) (t:TS):Prop :=
 ∀ (pins:List (Addr × Obj)) (s:Shared) (σ:St) (H:Hp) (D:Ends),Inv X pins σ H s → t D σ H → wpAny (model X.prog X.w) X.A (execs st X.env) (SP X pins D) X.xe s
theorem thn {α:Type} {t:Sem α} {Q Q':α → Shared → Prop} {M:Model} {A:Around} {E:Value → Shared → Prop} {s:Shared} (h:wpAny M A t Q E s) (hQ:∀ a s,Q a s → Q' a s):wpAny M A t Q' E s:=wpAny_mono h hQ fun _ _ x=>x
end L2
namespace L2
open PySem PySem.Spec PyProof.Rows
section
variable {X:Cx}
def aGE (i:Nat):TE:=fun σ H Q=>∃ v,σ[i]? = some (some v) ∧ Q v H
def tC (v:V):TE:=fun _ H Q=>Q v H
theorem aFF {i:Nat} {x:Str} {pos:Pos} (hN:X.N[i]? = some x) (hv:Vis X.env.scope x) (hd:(x == ("__debug__":Str)) = false:=by decide) (hcd:(x == ("__classdict__":Str)) = false:=by decide):PE X (.Name x pos) (aGE i):=by
 intro pins s σ H Q I h
 obtain ⟨v,e,h⟩:=h
 obtain ⟨m,hn,hl⟩:=I.loc
 obtain ⟨u,r,l⟩:=hl i x v hN e hv
 have fin:EP X pins σ Q u s:=⟨v,H,I,r,h⟩
 rcases l with ⟨hk,hm⟩ | ⟨hk,c,hc,hcell⟩
 ·exact wpAny_Name (wpAny_loadName_local I.ok.kind hk hn hm fin) hd
 ·rcases hk with hk | hk
  ·exact wpAny_Name (wpAny_loadName_cell I.ok.kind hk hc hcell fin) hd
  ·exact wpAny_Name (wpAny_loadName_free I.ok.kind hk hc hcell fin hcd) hd
theorem aE {i j pos}:PE X (.Constant (.int i) j pos) (tC (.int i)):=fun _ _ _ H _ I h=>wpAny_Constant_int ⟨.int i,H,I.tok _,⟨_,rfl⟩,h⟩
theorem mT {b j pos}:PE X (.Constant (.bool b) j pos) (tC (.bl b)):=fun _ _ _ H _ I h=>Constant_bool ⟨.bl b,H,I,rfl,h⟩
theorem jI {j pos}:PE X (.Constant .none j pos) (tC .non):=fun _ _ _ H _ I h=>Constant_none ⟨.non,H,I,rfl,h⟩
theorem oW {x j pos}:PE X (.Constant (.str x) j pos) (tC (.str x)):=fun _ _ _ H _ I h=>Calls.Constant_str ⟨.str x,H,I.tok _,⟨_,rfl⟩,h⟩
def Gl (X:Cx) (x:Str):Prop:=X.env.kindOf x = some .globalImplicit
theorem tK {E:Value → Shared → Prop} {pins:List (Addr × Obj)} {s:Shared} {σ:St} {H:Hp} {x:Str} {u:Value} {pos:Pos} {Q:Value → Shared → Prop} (I:Inv X pins σ H s) (hg:Gl X x) (hm:X.mg x = some u) (h:Q u s)
  (hd:(x == ("__debug__":Str)) = false:=by decide):wpAny (model X.prog X.w) X.A (eval (.Name x pos) X.env) Q E s :=
 Calls.Name_function_global I.ok.kind hg (Calls.loadGlobal_global (by rw [I.ok.glob];exact I.mod.glob.keeps I.bk) hm h) hd
theorem mE {E:Value → Shared → Prop} {pins:List (Addr × Obj)} {s:Shared} {σ:St} {H:Hp} {x:Str} {u:Value} {pos:Pos} {Q:Value → Shared → Prop} (I:Inv X pins σ H s) (hg:Gl X x) (hm:X.mg x = none) (hv:bootBuiltins x = some u) (h:Q u s)
  (hn:x ≠ "__name__":=by decide) (hd:(x == ("__debug__":Str)) = false:=by decide):wpAny (model X.prog X.w) X.A (eval (.Name x pos) X.env) Q E s:=by
 obtain ⟨mb,h1,h2⟩:=I.mod.blt
 exact Calls.Name_function_global I.ok.kind hg (Calls.loadGlobal_builtin (by rw [I.ok.glob];exact I.mod.glob.keeps I.bk) hm (by rw [I.ok.blt];exact h1.keeps I.bk) ((h2 x hn).trans hv) h) hd
theorem aDP {x:Str} {v:V} {u:Value} {pos:Pos} (hg:Gl X x) (hm:X.mg x = some u) (r:aZ v u) (hd:(x == ("__debug__":Str)) = false:=by decide):PE X (.Name x pos) (tC v) :=
 fun _ _ _ H _ I h=>tK I hg hm ⟨v,H,I,r,h⟩ hd
theorem aDR {x:Str} {v:V} {u:Value} {pos:Pos} (hg:Gl X x) (hm:X.mg x = none) (hv:bootBuiltins x = some u) (r:aZ v u) (hn:x ≠ "__name__":=by decide) (hd:(x == ("__debug__":Str)) = false:=by decide):PE X (.Name x pos) (tC v) :=
 fun _ _ _ H _ I h=>mE I hg hm hv ⟨v,H,I,r,h⟩ hn hd
def t2I (ta tb:TE) (k:Int → Int → Hp → Prop):St → Hp → Prop:=fun σ H=>ta σ H fun x H1=>tb σ H1 fun y H2=>∃ i j,x = .int i ∧ y = .int j ∧ k i j H2
variable {a b:Expr} {ta tb:TE} {pos:Pos}
def PC (X:Cx) (op:CmpOp) (a b:Expr) (t:TE):Prop :=
 ∀ (pins:List (Addr × Obj)) (s:Shared) (σ:St) (H:Hp) (Q:VK),Inv X pins σ H s → t σ H Q →
  wpAny (model X.prog X.w) X.A (eval a X.env) (fun v s₁=>wpAny (model X.prog X.w) X.A (eval b X.env) (fun u s₂=>wpAny (model X.prog X.w) X.A (compareOp op v u) (EP X pins σ Q) X.xe s₂) X.xe s₁) X.xe s
def tCmp (p:Int → Int → Bool) (ta tb:TE):TE:=fun σ H Q=>t2I ta tb (fun i j H2=>Q (.bl (p i j)) H2) σ H
def tB (t:TE):TT:=fun σ H Q=>t σ H fun x H1=>∃ c,x = .bl c ∧ Q c H1
theorem wM {op:CmpOp} {t:TE} (h:PC X op a b t) (h1:behindInMarks op b = false:=by first | exact nobehind _ (by decide) (by decide) | rfl):PT X (.Compare a [op] [b] pos) (tB t):=by
 intro pins s σ H Q I hw
 refine wpAny_isTrue_Compare1 (thn (h pins s σ H _ I hw) fun v s1 h1=>thn h1 fun u s2 h2=>thn h2 fun c s3 ⟨x,H1,I1,r1,q1⟩=>?_) h1
 obtain ⟨d,rfl,q⟩:=q1
 cases r1
 exact wpAny_truthy_bool ⟨H1,I1,q⟩
theorem gB {e:Expr} {t:TE} (h:PE X e t) (he:∀ whole,isTrue e X.env whole = (do let v ← whole;standAt e.pos;holding [v] (truthy v)):=by intro _;rfl):PT X e (tB t):=by
 intro pins s σ H Q I hw
 refine isTrue_plain (thn (h pins s σ H _ I hw) fun v s1 ⟨x,H1,I1,r1,q1⟩=>?_) (he _)
 obtain ⟨d,rfl,q⟩:=q1
 cases r1
 exact wpAny_truthy_bool ⟨H1,I1,q⟩
variable {tA tB':TT} {nL:List Expr}
def aIE (t u:TT):TT:=fun σ H Q=>t σ H fun c H1=>if c = true then u σ H1 Q else Q false H1
def tOr (t u:TT):TT:=fun σ H Q=>t σ H fun c H1=>if c = true then Q true H1 else u σ H1 Q
def aHW (t:TT):TT:=fun σ H Q=>t σ H fun c H1=>Q (!c) H1
theorem nV (ha:PT X a tA):PW X (.BoolOp .And [a] pos) tA:=by
 intro wh pins s σ H Q I h
 refine isTrue_and (thn (ha pins s σ H Q I h) fun c s1 e=>?_)
 cases c with
 | true=>exact isTrue_and_nil e
 | false=>exact e
theorem oS (ha:PT X a tA):PW X (.BoolOp .Or [a] pos) tA:=by
 intro wh pins s σ H Q I h
 refine isTrue_or (thn (ha pins s σ H Q I h) fun c s1 e=>?_)
 cases c with
 | false=>exact isTrue_or_nil e
 | true=>exact e
theorem oT (ha:PT X a tA) (hb:PW X (.BoolOp .And (b :: nL) pos) tB'):PW X (.BoolOp .And (a :: b :: nL) pos) (aIE tA tB'):=by
 intro wh pins s σ H Q I h
 refine isTrue_and (thn (ha pins s σ H _ I h) fun c s1 ⟨H1,I1,q1⟩=>?_)
 cases c with
 | true=>exact hb wh pins s1 σ H1 Q I1 q1
 | false=>exact ⟨H1,I1,q1⟩
theorem mS (ha:PT X a tA) (hb:PW X (.BoolOp .Or (b :: nL) pos) tB'):PW X (.BoolOp .Or (a :: b :: nL) pos) (tOr tA tB'):=by
 intro wh pins s σ H Q I h
 refine isTrue_or (thn (ha pins s σ H _ I h) fun c s1 ⟨H1,I1,q1⟩=>?_)
 cases c with
 | true=>exact ⟨H1,I1,q1⟩
 | false=>exact hb wh pins s1 σ H1 Q I1 q1
theorem gC (ha:PT X a tA):PT X (.UnaryOp .Not a pos) (aHW tA):=by
 intro pins s σ H Q I h
 exact isTrue_not (ha pins s σ H (fun c H1=>Q (!c) H1) I h)
def aGN (ta tb:TE):TE:=fun σ H Q=>ta σ H fun x H1=>∃ c,x = .bl c ∧ if c = true then tb σ H1 Q else Q (.bl false) H1
def aHV (ta tb:TE):TE:=fun σ H Q=>ta σ H fun x H1=>∃ c,x = .bl c ∧ if c = true then Q (.bl true) H1 else tb σ H1 Q
def aGH (ta:TE):TE:=fun σ H Q=>ta σ H fun x H1=>∃ c,x = .bl c ∧ Q (.bl (!c)) H1
theorem eZ {op} {t:TE} (h:PE X a t):PE X (.BoolOp op [a] pos) t:=fun pins s σ H Q I hw=>BoolOp_one (h pins s σ H Q I hw)
theorem dM (ha:PE X a ta) (hb:PE X (.BoolOp .And (b :: nL) pos) tb):PE X (.BoolOp .And (a :: b :: nL) pos) (aGN ta tb):=by
 intro pins s σ H Q I h
 refine BoolOp_and (thn (ha pins s σ H _ I h) fun v s1 ⟨x,H1,I1,r1,q1⟩=>?_)
 obtain ⟨c,rfl,q1⟩:=q1
 cases r1
 refine wpAny_truthy_bool ?_
 cases c with
 | true=>exact hb pins s1 σ H1 Q I1 q1
 | false=>exact ⟨.bl false,H1,I1,rfl,q1⟩
theorem aGW (ha:PE X a ta) (hb:PE X (.BoolOp .Or (b :: nL) pos) tb):PE X (.BoolOp .Or (a :: b :: nL) pos) (aHV ta tb):=by
 intro pins s σ H Q I h
 refine BoolOp_or (thn (ha pins s σ H _ I h) fun v s1 ⟨x,H1,I1,r1,q1⟩=>?_)
 obtain ⟨c,rfl,q1⟩:=q1
 cases r1
 refine wpAny_truthy_bool ?_
 cases c with
 | false=>exact hb pins s1 σ H1 Q I1 q1
 | true=>exact ⟨.bl true,H1,I1,rfl,q1⟩
theorem aFG (ha:PE X a ta):PE X (.UnaryOp .Not a pos) (aGH ta):=by
 intro pins s σ H Q I h
 refine UnaryOp_ (thn (ha pins s σ H _ I h) fun v s1 ⟨x,H1,I1,r1,q1⟩=>?_)
 obtain ⟨c,rfl,q1⟩:=q1
 cases r1
 exact not_of (wpAny_truthy_bool ⟨.bl (!c),H1,I1,rfl,q1⟩)
def tIf (t:TT) (ta tb:TE):TE:=fun σ H Q=>t σ H fun c H1=>if c = true then ta σ H1 Q else tb σ H1 Q
theorem aBP {c:Expr} (hc:PT X c tA) (ha:PE X a ta) (hb:PE X b tb):PE X (.IfExp c a b pos) (tIf tA ta tb):=by
 intro pins s σ H Q I h
 refine wpAny_IfExp (thn (hc pins s σ H _ I h) fun d s1 ⟨H1,I1,q1⟩=>?_)
 cases d with
 | true=>exact ha pins s1 σ H1 Q I1 q1
 | false=>exact hb pins s1 σ H1 Q I1 q1
end
end L2
namespace L2
open PySem PySem.Spec PyProof.Rows
def SqL (K:PySem.W.Frag) (H:Hp) (a:Addr) (xs:List V):Prop :=
 Rd H a (.lst xs) ∨
  ∃ (o:Obj) (its:Array Value) (n:Nat),K.lookup a = some o ∧ o.cls = .type "list" ∧ o.dict = none ∧ o.data = .seq its n ∧ its.size ≤ sizeLine ∧ bC xs its.toList
def SqT (K:PySem.W.Frag) (H:Hp) (a:Addr) (xs:List V):Prop :=
 Rd H a (.tup xs) ∨
  ∃ (o:Obj) (its:Array Value) (n:Nat),K.lookup a = some o ∧ o.cls = .type "tuple" ∧ o.data = .seq its n ∧ its.size ≤ sizeLine ∧ bC xs its.toList
def aIQ:Value → Option V
 | .none=>some .non
 | .bool b=>some (.bl b)
 | .int i _=>some (.int i)
 | .str x _=>some (.str x)
 | .bytes b _=>some (.byt b)
 | .float b _=>some (.flt b)
 | .ref a=>some (.ref a)
 | .type n=>some (.ty n)
 | _=>none
theorem aZ.abs {x:V} {u:Value} (r:aZ x u):aIQ u = some x:=by
 cases x with
 | non=>cases r;rfl
 | bl _=>cases r;rfl
 | int _=>obtain ⟨t,rfl⟩:=r;rfl
 | str _=>obtain ⟨t,rfl⟩:=r;rfl
 | byt _=>obtain ⟨t,rfl⟩:=r;rfl
 | flt _=>obtain ⟨t,rfl⟩:=r;rfl
 | ref _=>cases r;rfl
 | ty _=>cases r;rfl
theorem aZ.inj {x y:V} {u:Value} (r:aZ x u) (q:aZ y u):x = y:=Option.some.inj (r.abs.symm.trans q.abs)
theorem bC.inj:∀ {xs ys:List V} {us:List Value},bC xs us → bC ys us → xs = ys
 | _,_,_,.nil,.nil=>rfl
 | _,_,_,.cons r t,.cons r' t'=>by rw [r.inj r',bC.inj t t']
section
variable {X:Cx} {pins:List (Addr × Obj)} {σ:St} {H:Hp} {s:Shared} {a:Addr} {xs ys:List V}
theorem SqL.of {K:PySem.W.Frag} (h:H a = some (.lst xs)):SqL K H a xs:=.inl (.inl h)
theorem SqT.of {K:PySem.W.Frag} (h:H a = some (.tup xs)):SqT K H a xs:=.inl (.inl h)
theorem Inv.list (I:Inv X pins σ H s) (h:SqL X.K H a xs):∃ its:List Value,bC xs its ∧ PlainL s.heap a its.toArray ∧ xs.length ≤ sizeLine:=by
 rcases h with h | ⟨o,its,n,hk,hc,hd,hs,hz,r⟩
 ·obtain ⟨z,its,n,r,e⟩:=h.ok I.hok
  exact ⟨its,r,⟨_,n,e,rfl,rfl,rfl⟩,z⟩
 ·refine ⟨its.toList,r,⟨o,n,I.kIn a o hk,hc,hd,by simpa using hs⟩,?_⟩
  have e:=r.length
  simp only [Array.length_toList] at e
  omega
theorem Inv.tuple (I:Inv X pins σ H s) (h:SqT X.K H a xs):∃ its:List Value,bC xs its ∧ IsTup s.heap a its.toArray ∧ xs.length ≤ sizeLine:=by
 rcases h with h | ⟨o,its,n,hk,hc,hs,hz,r⟩
 ·obtain ⟨z,its,r,p⟩:=h.ok I.hok
  exact ⟨its,r,p.tup,z⟩
 ·refine ⟨its.toList,r,⟨o,I.kIn a o hk,hc,n,by simpa using hs⟩,?_⟩
  have e:=r.length
  simp only [Array.length_toList] at e
  omega
theorem Inv.list_inj (I:Inv X pins σ H s) (h:SqL X.K H a xs) (h':SqL X.K H a ys):xs = ys:=by
 obtain ⟨its,r,⟨o,n,e,_,_,d⟩,_⟩:=I.list h
 obtain ⟨its',r',⟨o',n',e',_,_,d'⟩,_⟩:=I.list h'
 rw [e] at e';cases e'
 rw [d] at d'
 injection d' with d1 _
 have:its = its':=by simpa using congrArg Array.toList d1
 subst this
 exact r.inj r'
end
abbrev Cx.wish (X:Cx) (E:Value → Shared → Prop):Cx:={ X with xe:=E }
abbrev Cx.nox (X:Cx):Cx:=X.wish fun _ _=>False
theorem Cx.Ok.wish {X:Cx} (ok:X.Ok) (E:Value → Shared → Prop):(X.wish E).Ok :=
 ⟨ok.mod,ok.kind,ok.glob,ok.blt,ok.above,ok.inj,ok.has,ok.cab,ok.hd,ok.frames,ok.stk,ok.exf,ok.bs,ok.bsz,ok.noex,ok.exfs,ok.funs,ok.frf⟩
theorem Cx.Ok.unwish {X:Cx} {E:Value → Shared → Prop} (ok:(X.wish E).Ok):X.Ok :=
 ⟨ok.mod,ok.kind,ok.glob,ok.blt,ok.above,ok.inj,ok.has,ok.cab,ok.hd,ok.frames,ok.stk,ok.exf,ok.bs,ok.bsz,ok.noex,ok.exfs,ok.funs,ok.frf⟩
section
variable {X:Cx} {pins:List (Addr × Obj)} {σ:St} {H:Hp} {s:Shared} {E:Value → Shared → Prop}
theorem Inv.wish (I:Inv X pins σ H s) (E:Value → Shared → Prop):Inv (X.wish E) pins σ H s:=⟨I.ok.wish E,I.os,I.bare,I.base,I.loc,I.cell,I.free,I.freeC,I.pin,I.hok,I.len⟩
theorem Inv.unwish (I:Inv (X.wish E) pins σ H s):Inv X pins σ H s:=⟨I.ok.unwish,I.os,I.bare,I.base,I.loc,I.cell,I.free,I.freeC,I.pin,I.hok,I.len⟩
theorem SP.unwish {D:Ends} {f:Flow} {s':Shared} (h:SP (X.wish E) pins D f s'):SP X pins D f s':=by
 cases f with
 | next=>obtain ⟨σ',H',I,q⟩:=h;exact ⟨σ',H',I.unwish,q⟩
 | brk=>obtain ⟨σ',H',I,q⟩:=h;exact ⟨σ',H',I.unwish,q⟩
 | cont=>obtain ⟨σ',H',I,q⟩:=h;exact ⟨σ',H',I.unwish,q⟩
 | ret u=>obtain ⟨v,σ',H',I,r,q⟩:=h;exact ⟨v,σ',H',I.unwish,r,q⟩
theorem PSs.nox {st:List Stmt} {t:TS} (h:PSs X.nox st t):PSs X st t:=fun pins s σ H D I hw =>
 wpAny_mono (h pins s σ H D (I.wish _) hw) (fun _ _ q=>q.unwish) fun _ _ z=>False.elim z
end
section
variable {X:Cx} {st:Stmt} {nL:List Stmt} {t u:TS} {e:Expr} {te:TE} {pos:Pos}
def aGI:TS:=fun D σ H=>D.nx σ H
def aHT (t u:TS):TS:=fun D σ H=>t { D with nx:=u D } σ H
theorem cA:PSs X [] aGI:=fun _ _ σ H _ I h=>wpAny_execs_nil ⟨σ,H,I,h⟩
theorem aG (h1:PS X st t) (h2:PSs X nL u):PSs X (st :: nL) (aHT t u):=by
 intro pins s σ H D I h
 refine wpAny_execs_cons (thn (h1 pins s σ H { D with nx:=u D } I h) fun f s1 q=>?_)
 cases f with
 | next =>
  obtain ⟨σ',H',I',q⟩:=q
  exact h2 pins s1 σ' H' D I' q
 | ret v=>exact q
 | brk=>exact q
 | cont=>exact q
theorem aH (h1:PS X st t):PSs X [st] t:=by
 intro pins s σ H D I h
 refine wpAny_execs_cons (thn (h1 pins s σ H D I h) fun f s1 q=>?_)
 cases f with
 | next=>exact wpAny_execs_nil q
 | ret v=>exact q
 | brk=>exact q
 | cont=>exact q
theorem Inv.quiet {pins:List (Addr × Obj)} {σ:St} {H:Hp} {s:Shared} (I:Inv X pins σ H s):interactive X.env = false:=by simp [interactive,I.ok.kind]
def aGJ (te:TE):TS:=fun D σ H=>te σ H fun _ H1=>D.nx σ H1
theorem jZ (he:PE X e te) (hs:swapsWith e none pos.line X.env = pure false:=by rfl):PS X (.Expr e pos) (aGJ te):=by
 intro pins s σ H D I h
 exact wpAny_Expr_any (thn (he pins s σ H _ I h) fun v s1 ⟨x,H1,I1,r1,q1⟩=>⟨σ,H1,I1,q1⟩) I.quiet hs
def aHU (te:TE):TS:=fun D σ H=>te σ H D.rt
theorem aY (he:PE X e te):PS X (.Return (some e) pos) (aHU te):=by
 intro pins s σ H D I h
 exact wpAny_Return_some (thn (he pins s σ H _ I h) fun v s1 ⟨x,H1,I1,r1,q1⟩=>⟨x,σ,H1,I1,r1,q1⟩)
def aHY (c:TT) (t u:TS):TS:=fun D σ H=>c σ H fun b H1=>if b = true then t D σ H1 else u D σ H1
theorem dY {c:Expr} {a b:List Stmt} {tc:TT} (hc:PT X c tc) (ha:PSs X a t) (hb:PSs X b u):PS X (.If c a b pos) (aHY tc t u):=by
 intro pins s σ H D I h
 refine wpAny_If (thn (hc pins s σ H _ I h) fun d s1 ⟨H1,I1,q1⟩=>?_)
 cases d with
 | true=>exact ha pins s1 σ H1 D I1 q1
 | false=>exact hb pins s1 σ H1 D I1 q1
def aEZ:TS:=fun _ _ _=>False
theorem oU:PS X st aEZ:=fun _ _ _ _ _ _ h=>h.elim
end
abbrev TG:=V → St → Hp → (St → Hp → Prop) → Prop
abbrev TGs:=List V → St → Hp → (St → Hp → Prop) → Prop
def PG (X:Cx) (target:Expr) (t:TG):Prop :=
 ∀ (pins:List (Addr × Obj)) (s:Shared) (σ:St) (H:Hp) (v:V) (u:Value) (Q:St → Hp → Prop),Inv X pins σ H s → aZ v u → t v σ H Q →
  wpAny (model X.prog X.w) X.A (assign target X.env u) (fun _ s'=>∃ σ' H',Inv X pins σ' H' s' ∧ Q σ' H') X.xe s
def PGs (X:Cx) (ts:List Expr) (t:TGs):Prop :=
 ∀ (pins:List (Addr × Obj)) (s:Shared) (σ:St) (H:Hp) (vs:List V) (us:List Value) (Q:St → Hp → Prop),Inv X pins σ H s → bC vs us → t vs σ H Q →
  wpAny (model X.prog X.w) X.A (assignInOrder ((assignEach ts X.env).map (·.2)) us) (fun _ s'=>∃ σ' H',Inv X pins σ' H' s' ∧ Q σ' H') X.xe s
abbrev TSet:=V → V → V → Hp → (Hp → Prop) → Prop
abbrev TIp:=V → V → Hp → VK → Prop
section
variable {X:Cx} {pos:Pos}
def vP (i:Nat):TG:=fun v σ H Q=>Q (σ.set i (some v)) H
theorem aL {i:Nat} {x:Str} (hN:X.N.Nodup) (hi:X.N[i]? = some x) (hx:Loc X.env.scope x) (hf:X.fn x = true ∨ X.env.scope.names.lookup x = some .local:=by first | exact .inl rfl | exact .inr rfl | assumption):PG X (.Name x pos) (vP i):=by
 intro pins s σ H v u Q I r h
 exact wpAny_assign_Name (uI I hN hi hx r (fun s' I'=>⟨_,H,I',h⟩) hf)
def aHK:TGs:=fun vs σ H Q=>vs = [] ∧ Q σ H
def aEV (t:TG) (u:TGs):TGs:=fun vs σ H Q=>∃ v r,vs = v :: r ∧ t v σ H fun σ' H'=>u r σ' H' Q
theorem dX:PGs X [] aHK:=by
 intro pins s σ H vs us Q I r h
 obtain ⟨e,h⟩:=h
 subst e
 cases r
 exact assignInOrder_nil ⟨σ,H,I,h⟩
theorem aQ {e:Expr} {es:List Expr} {t:TG} {u:TGs} (h1:PG X e t) (h2:PGs X es u)
  (hs:(assignEach (e :: es) X.env).map (·.2) = assign e X.env :: (assignEach es X.env).map (·.2):=by rfl):PGs X (e :: es) (aEV t u):=by
 intro pins s σ H vs us Q I r h
 obtain ⟨v,vr,e1,h⟩:=h
 subst e1
 cases r with
 | cons r rr =>
  rw [hs]
  refine assignInOrder_cons (thn (h1 pins s σ H _ _ _ I r h) fun _ s1 ⟨σ1,H1,I1,q1⟩=>?_)
  exact h2 pins s1 σ1 H1 _ _ Q I1 rr q1
def aFS (K:PySem.W.Frag) (n:Nat) (t:TGs):TG:=fun v σ H Q=>∃ a xs,v = .ref a ∧ SqT K H a xs ∧ xs.length = n ∧ t xs σ H Q
theorem fH {es:List Expr} {k:Nat} {t:TGs} {n:Nat} (hc:X.calm = true) (h:PGs X es t)
  (hn:(assignEach es X.env).length = n:=by rfl) (hst:(assignEach es X.env).findIdx? (·.1) = none:=by rfl):PG X (.Tuple es k pos) (aFS X.K n t):=by
 intro pins s σ H v u Q I r hw
 obtain ⟨a,xs,e1,hq,hl,hw⟩:=hw
 subst e1
 cases r
 obtain ⟨its,rv,ht,hz⟩:=I.tuple hq
 refine assign_Tuple_tuple (I.ok.hd hc) ht (by simp [hn,← hl,rv.length]) hst fun h' hx=>?_
 have I1:Inv X pins σ H { s with heap:=h' }:=I.kept (t':=s.toks) fun b o e=>hx b o (Nat.ne_of_lt (Heap.lt_size e)) e
 exact h pins _ σ H xs _ Q I1 (by simpa using rv) hw
def aFD (te:TE) (g:TG):TS:=fun D σ H=>te σ H fun x H1=>g x σ H1 D.nx
theorem oV {tg e:Expr} {te:TE} {g:TG} (he:PE X e te) (hg:PG X tg g) (hs:swapsWithSole [tg] e pos.line X.env = pure false:=by rfl) (hw:swappedStores [tg] e X.env = pure none:=by rfl)
  (h1:(assignEach [tg] X.env).map (·.2) = [assign tg X.env]:=by rfl):PS X (.Assign [tg] e pos) (aFD te g):=by
 intro pins s σ H D I h
 refine wpAny_Assign_stores (thn (he pins s σ H _ I h) fun v s1 ⟨x,H1,I1,r1,q1⟩=>?_) hs hw
 rw [h1]
 exact thn (hg pins s1 σ H1 x v _ I1 r1 q1) fun _ s2 q=>q
theorem aX {i:Nat} {x:Str} {e:Expr} {te:TE} {pos':Pos} (hN:X.N.Nodup) (hi:X.N[i]? = some x) (hx:Loc X.env.scope x) (he:PE X e te) (hs:swapsWith e (some (.Name x pos')) pos.line X.env = pure false:=by rfl) (hf:X.fn x = true ∨ X.env.scope.names.lookup x = some .local:=by first | exact .inl rfl | exact .inr rfl | assumption) :
  PS X (.Assign [.Name x pos'] e pos) (aFD te (vP i)):=by
 intro pins s σ H D I h
 refine wpAny_Assign_Name (thn (he pins s σ H _ I h) fun v s1 ⟨y,H1,I1,r1,q1⟩=>?_) hs
 exact uI I1 hN hi hx r1 (fun s2 I2=>⟨_,H1,I2,q1⟩) hf
end
section
variable {X:Cx} {pos:Pos}
def aAS (c:TT) (tb:TS):TS:=fun D σ H=>∃ W:Nat → St → Hp → Prop,(∃ m,W m σ H) ∧ ∀ m σ H,W m σ H →
 c σ H fun b H1=>if b = true then ∃ N:St → Hp → Prop,(∀ σ' H',N σ' H' → ∃ m',m' < m ∧ W m' σ' H') ∧ tb { D with nx:=N,ct:=N,bk:=D.nx } σ H1 else D.nx σ H1
theorem aBL {c:Expr} {body:List Stmt} {tc:TT} {tb:TS} (hp:PassesOwn (model X.prog X.w) X.A X.env X.xe) (hc:PT X c tc) (hb:PSs X body tb):PS X (.While c body [] pos) (aAS tc tb):=by
 intro pins s σ H D I h
 obtain ⟨W,⟨m0,w0⟩,turn⟩:=h
 refine wpAny_While (codeAny_whileLoop (fun n s'=>∃ σ' H',Inv X pins σ' H' s' ∧ W n σ' H') ?_ m0 ⟨σ,H,I,w0⟩)
 rintro n s1 ⟨σ1,H1,I1,w1⟩
 refine wpAny_passesOwn hp (thn (hc pins s1 σ1 H1 _ I1 (turn n σ1 H1 w1)) fun b s2 ⟨H2,I2,q2⟩=>?_)
 cases b with
 | true =>
  obtain ⟨N,hN,q2⟩:=q2
  rw [if_pos rfl]
  refine wpAny_passesOwn hp (thn (hb pins s2 σ1 H2 _ I2 q2) fun f s3 q3=>?_)
  cases f with
  | next =>
   obtain ⟨σ3,H3,I3,n3⟩:=q3
   obtain ⟨m',hm,w3⟩:=hN σ3 H3 n3
   exact ⟨m',hm,σ3,H3,I3,w3⟩
  | cont =>
   obtain ⟨σ3,H3,I3,n3⟩:=q3
   obtain ⟨m',hm,w3⟩:=hN σ3 H3 n3
   exact ⟨m',hm,σ3,H3,I3,w3⟩
  | brk=>exact q3
  | ret v=>exact q3
 | false =>
  rw [if_neg Bool.false_ne_true]
  exact wpAny_execs_nil ⟨σ1,H2,I2,q2⟩
end
structure It where
 go:Nat → Hp → Prop
 yld:Nat → Hp → V → Hp → Prop
 stop:Nat → Hp → Prop
def uC (X:Cx) (pins:List (Addr × Obj)) (H:Hp) (b:Addr):Prop :=
 H b = none ∧ b ≠ X.env.locals ∧ b ∉ X.fs ∧ (b ∈ X.ex ∨ X.s₀.heap.objs.size ≤ b) ∧ (∀ x c,X.env.cells.lookup x = some c → c ≠ b) ∧ ∀ p ∈ X.pn ++ pins,p.1 ≠ b
theorem Inv.fpOk {X:Cx} {pins:List (Addr × Obj)} {σ:St} {H H':Hp} {s:Shared} {b:Addr} (I:Inv X pins σ H s) (hb:s.heap.objs.size ≤ b) (hn:H' b = none):uC X pins H' b:=by
 refine ⟨hn,Nat.ne_of_gt (Nat.lt_of_lt_of_le I.lt hb),I.nofs hb,.inr (Nat.le_trans I.sz hb),fun x c e z=>?_,fun p hp z=>?_⟩
 ·obtain ⟨v,q⟩:=I.cell x c e
  exact absurd (Nat.lt_of_lt_of_le q.lt (by rw [z];exact hb)) (Nat.lt_irrefl _)
 ·exact absurd (Nat.lt_of_lt_of_le (Heap.lt_size (I.pin p hp).1) (by rw [z];exact hb)) (Nat.lt_irrefl _)
structure Turn (P:Program) (w:World) (K:PySem.W.Frag) (tg:Expr) (J:It) (fp:List Addr) (it:Addr) (tn:Nat → Heap → Prop):Prop where
 mem:it ∈ fp
 obj:∀ i h,tn i h → ∀ b ∈ fp,∃ o,h.get? b = some o ∧ ∀ v,o.data ≠ .cell v
 keep:∀ i h h',tn i h → (∀ b ∈ fp,∀ o,h.get? b = some o → h'.get? b = some o) → tn i h'
 item:∀ (X:Cx),X.prog = P → X.w = w → X.K = K → X.calm = true → ∀ (i:Nat) (pins:List (Addr × Obj)) (s:Shared) (σ:St) (H:Hp) (E:Value → Shared → Prop),Inv X pins σ H s → (∀ b ∈ fp,uC X pins H b) → tn i s.heap → J.go i H →
  wpAny (model P w) X.A (pyNext (.ref it)) (fun r s1=>∃ u,r = some u ∧
   wpAny (model P w) X.A (letOwnedTupleGo tg (.ref it) u) (fun _ s2=>∃ x H',Inv X pins σ H' s2 ∧ aZ x u ∧ J.yld i H x H' ∧ tn (i + 1) s2.heap ∧ ∀ b ∈ fp,H' b = none) E s1) E s
 done:∀ (X:Cx),X.prog = P → X.w = w → X.K = K → X.calm = true → ∀ (i:Nat) (pins:List (Addr × Obj)) (s:Shared) (σ:St) (H:Hp) (E:Value → Shared → Prop),Inv X pins σ H s → (∀ b ∈ fp,uC X pins H b) → tn i s.heap → J.stop i H →
  wpAny (model P w) X.A (pyNext (.ref it)) (fun r s1=>r = none ∧ Inv X pins σ H s1) E s
 self:∀ (A:Around) (i:Nat) (s:Shared) (Q:Value → Shared → Prop) (E:Value → Shared → Prop),tn i s.heap → Q (.ref it) s → wpAny (model P w) A (pyIter (.ref it)) Q E s
abbrev TI:=St → Hp → (It → Hp → Prop) → Prop
def PIE (X:Cx) (pins:List (Addr × Obj)) (σ:St) (tg:Expr) (R:It → Hp → Prop) (itv:Value) (s2:Shared):Prop :=
 ∃ (it:Addr) (fp:List Addr) (tn:Nat → Heap → Prop) (J:It) (H':Hp),itv = .ref it ∧ Inv X pins σ H' s2 ∧ Turn X.prog X.w X.K tg J fp it tn ∧ tn 0 s2.heap ∧ (∀ b ∈ fp,uC X pins H' b) ∧ R J H'
def PI (X:Cx) (tg iter:Expr) (wi:TI):Prop :=
 ∀ (pins:List (Addr × Obj)) (s:Shared) (σ:St) (H:Hp) (R:It → Hp → Prop),Inv X pins σ H s → wi σ H R →
  wpAny (model X.prog X.w) X.A (eval iter X.env) (fun v s1=>wpAny (model X.prog X.w) X.A (pyIter v) (PIE X pins σ tg R) X.xe s1) X.xe s
theorem yM {M:Model} {A:Around} {E:Value → Shared → Prop} {s:Shared} {tg:Expr} {it:Addr} {u:Value} {o:Obj} {n:String} {vs:Array Value} {Q:Unit → Shared → Prop} (ho:s.heap.get? it = some o) (hc:o.cls = .type n) (hd:o.data = .fields vs)
    (hn:["enumerate","zip","dict_itemiterator","dict_reverseitemiterator","odict_iterator","itertools.zip_longest","itertools.pairwise"].contains n = false) (hQ:Q () s):wpAny M A (letOwnedTupleGo tg (.ref it) u) Q E s:=by
  unfold letOwnedTupleGo
  cases tg <;> first
    | exact wpAny_pure hQ
    | (cases u <;> first
        | exact wpAny_pure hQ
        | (refine wpAny_bind (wpAny_load ho ?_)
           rw [hc,hd]
           show wpAny M A (if (["enumerate","zip","dict_itemiterator","dict_reverseitemiterator","odict_iterator","itertools.zip_longest","itertools.pairwise"].contains n && vs[0]? == some (rawInt _)) = true then _ else _) Q E s
           rw [if_neg (by intro h;rw [hn,Bool.false_and] at h;cases h)]
           exact wpAny_pure hQ))
def Itl (K:PySem.W.Frag) (a:Addr):It :=
 ⟨fun i H=>∃ xs x,SqL K H a xs ∧ xs[i]? = some x,fun i H x H'=>H' = H ∧ ∀ xs,SqL K H a xs → xs[i]? = some x,fun i H=>∃ xs,SqL K H a xs ∧ xs.length ≤ i⟩
def Itt (K:PySem.W.Frag) (a:Addr):It :=
 ⟨fun i H=>∃ xs x,SqT K H a xs ∧ xs[i]? = some x,fun i H x H'=>H' = H ∧ ∀ xs,SqT K H a xs → xs[i]? = some x,fun i H=>∃ xs,SqT K H a xs ∧ xs.length ≤ i⟩
def Itr (lo:Int) (n:Nat):It:=⟨fun i _=>i < n,fun i H x H'=>H' = H ∧ x = .int (lo + i),fun i _=>n ≤ i⟩
theorem yV {P:Program} {w:World} {K:PySem.W.Frag} {tg:Expr} (a it:Addr):Turn P w K tg (Itl K a) [it] it (fun i h=>h.IsListIter it a i) where
 mem:=by simp
 obj:=fun i h st b hb=>by
  have e:b = it:=by simpa using hb
  subst e
  obtain ⟨o,e,c,d⟩:=st
  exact ⟨o,e,fun v z=>by rw [d] at z;cases z⟩
 keep:=fun i h h' st k=>st.at fun o e=>k it (by simp) o e
 item:=by
  intro X hP hw hK hc i pins s σ H E I hf st hg
  subst hP hw hK
  obtain ⟨xs,x,hq,hx⟩:=hg
  obtain ⟨its,rv,p,hz⟩:=I.list hq
  obtain ⟨u,hu,ru⟩:=rv.get hx
  obtain ⟨f0,f1,f2,f3,f4,f5⟩:=hf it (by simp)
  refine wpAny_pyNext_list_item st p.isList (x:=u) (by simpa using hu) fun h' st' sb=>?_
  have I1:Inv X pins σ H { s with heap:=h' }:=I.turned (t':=s.toks) (fun b o hb e=>(sb.2 b hb).trans e) f0 f1 f3 f4 f5
  obtain ⟨o,e,c,d⟩:=id st'
  exact ⟨u,rfl,yM (s:={ s with heap:=h' }) e c d (by decide) ⟨x,H,I1,ru,⟨rfl,fun ys hy=>by rw [I.list_inj hy hq];exact hx⟩,st',fun b hb=>(hf b hb).1⟩⟩
 done:=by
  intro X hP hw hK hc i pins s σ H E I hf st hg
  subst hP hw hK
  obtain ⟨xs,hq,hx⟩:=hg
  obtain ⟨its,rv,p,hz⟩:=I.list hq
  obtain ⟨f0,f1,f2,f3,f4,f5⟩:=hf it (by simp)
  have hl:=rv.length
  exact wpAny_pyNext_list_end (I.ok.hd hc) st p.isList (by simp;omega) fun h' eb=>⟨rfl,I.turned (t':=s.toks) (fun b o hb e=>eb b o hb e) f0 f1 f3 f4 f5⟩
 self:=fun _ _ _ _ _ st h=>wpAny_pyIter_listiter st h
theorem wC {P:Program} {w:World} {K:PySem.W.Frag} {tg:Expr} (it:Addr) (lo:Int) (n:Nat):Turn P w K tg (Itr lo n) [it] it (fun i h=>IsRangeIter h it (lo + (i:Nat) * 1) ((n:Int) - (i:Nat)) 1) where
 mem:=by simp
 obj:=fun i h st b hb=>by
  have e:b = it:=by simpa using hb
  subst e
  exact ⟨_,st,fun v z=>by
   have z':Data.fields _ = Data.cell v:=z
   cases z'⟩
 keep:=fun i h h' st k=>k it (by simp) _ st
 item:=by
  intro X hP hw hK hc i pins s σ H E I hf st hg
  subst hP hw hK
  obtain ⟨f0,f1,f2,f3,f4,f5⟩:=hf it (by simp)
  have W:=Walks.range (prog:=X.prog) (w:=X.w) (I.ok.hd hc) it lo 1 n
  refine W.item i s _ _ hg st fun v h' tk hv st' kk=>?_
  obtain ⟨t,rfl⟩:=hv
  have I1:Inv X pins σ H { s with heap:=h',toks:=tk }:=I.turned (fun b o hb e=>kk b o (by simpa using hb) e) f0 f1 f3 f4 f5
  refine ⟨_,rfl,yM (s:={ s with heap:=h',toks:=tk }) (n:="range_iterator") st' rfl rfl (by decide) ⟨.int (lo + i),H,I1,⟨t,?_⟩,⟨rfl,rfl⟩,st',fun b hb=>(hf b hb).1⟩⟩
  rw [Int.mul_one]
 done:=by
  intro X hP hw hK hc i pins s σ H E I hf st hg
  subst hP hw hK
  obtain ⟨f0,f1,f2,f3,f4,f5⟩:=hf it (by simp)
  exact wpAny_pyNext_range_end (I.ok.hd hc) st (by have:n ≤ i:=hg;omega) fun h' eb=>⟨rfl,I.turned (t':=s.toks) (fun b o hb e=>eb b o hb e) f0 f1 f3 f4 f5⟩
 self:=fun _ _ _ _ _ st h=>wpAny_pyIter_rangeiter st h
end L2
namespace L2
open PySem PySem.Spec PyProof.Rows
section
variable {X:Cx} {tg:Expr}
def aHI (K:PySem.W.Frag) (tl:TE):TI:=fun σ H R=>tl σ H fun x H1=>∃ a,x = .ref a ∧ (∃ xs,SqL K H1 a xs) ∧ R (Itl K a) H1
theorem bU {l:Expr} {tl:TE} (hl:PE X l tl):PI X tg l (aHI X.K tl):=by
 intro pins s σ H R I h
 refine thn (hl pins s σ H _ I h) fun v s1 ⟨x,H1,I1,r1,q1⟩=>?_
 obtain ⟨a,e,⟨xs,hq⟩,q⟩:=q1
 subst e
 cases r1
 obtain ⟨its,rv,p,hz⟩:=I1.list hq
 refine wpAny_pyIter_list p.isList ?_
 refine ⟨s1.heap.objs.size,[s1.heap.objs.size],_,_,H1,rfl,I1.kept (t':=s1.toks) fun b o e=>Heap.get?_push_of_some _ e,yV a _,⟨_,Heap.get?_push_size _ rfl,rfl,rfl⟩,fun b hb=>?_,q⟩
 have e:b = s1.heap.objs.size:=by simpa using hb
 subst e
 exact I1.fpOk (Nat.le_refl _) (I1.hok.fresh (Nat.le_refl _))
theorem aBJ {pins:List (Addr × Obj)} {σ:St} {H:Hp} {s:Shared} {R:It → Hp → Prop} {E:Value → Shared → Prop} {lo hi:Int} {t u v:Tok} {tk:Nat} (I:Inv X pins σ H s) (h1:-(2 ^ 62) ≤ lo) (h2:lo < 2 ^ 62) (h3:-(2 ^ 62) ≤ hi) (h4:hi < 2 ^ 62)
  (q:R (Itr lo (hi - lo).toNat) H):wpAny (model X.prog X.w) X.A (pyIter (.ref s.heap.objs.size)) (PIE X pins σ tg R) E { s with heap:=s.heap.push { cls:=.type "range",data:=.fields #[.int lo t,.int hi u,.int 1 v] },toks:=tk }:=by
 refine wpAny_pyIter_range (IsRange.new ..) (small_one h1 h2 h3 h4) ?_
 have I1:Inv X pins σ H { s with heap:=s.heap.push { cls:=.type "range",data:=.fields #[.int lo t,.int hi u,.int 1 v] },toks:=tk }:=I.kept fun b o e=>Heap.get?_push_of_some _ e
 refine ⟨(s.heap.push { cls:=.type "range",data:=.fields #[.int lo t,.int hi u,.int 1 v] }).objs.size,[(s.heap.push { cls:=.type "range",data:=.fields #[.int lo t,.int hi u,.int 1 v] }).objs.size],_,_,H,rfl,
  I1.kept (t':=tk) fun b o e=>Heap.get?_push_of_some _ e,wC _ lo (hi - lo).toNat,?_,fun b hb=>?_,q⟩
 ·have e1:lo + ((0:Nat):Int) * 1 = lo:=by simp
  have e2:(((hi - lo).toNat:Nat):Int) - ((0:Nat):Int) = Builtin.Range.rangeSize lo hi 1:=by rw [rangeSize_one];split <;> omega
  show IsRangeIter _ _ (lo + ((0:Nat):Int) * 1) ((((hi - lo).toNat:Nat):Int) - ((0:Nat):Int)) 1
  rw [e1,e2]
  exact Heap.get?_push_size _ rfl
 ·have e:b = (s.heap.push { cls:=.type "range",data:=.fields #[.int lo t,.int hi u,.int 1 v] }).objs.size:=by simpa using hb
  subst e
  exact I1.fpOk (Nat.le_refl _) (I1.hok.fresh (Nat.le_refl _))
def aHH (ta:TA):TI:=fun σ H R=>ta σ H fun vs H1=>∃ j:Int,vs = [.int j] ∧ -(2 ^ 62) ≤ j ∧ j < 2 ^ 62 ∧ R (Itr 0 j.toNat) H1
theorem fG {a:Expr} {ta:TA} {p pos:Pos} (hg:Gl X "range") (hm:X.mg "range" = none) (ha:PA X [a] ta) (hs:starEach [a] X.env = [(false,eval a X.env)]:=by rfl):PI X tg (.Call (.Name "range" p) [a] [] pos) (aHH ta):=by
 intro pins s σ H R I h
 refine Call_ (mE I hg hm boot_range (PyProof.Rows.callWith_type1 (thn (ha pos pins s σ H _ I h) fun us s1 ⟨vs,H1,I1,r1,q1⟩=>?_) hs rfl))
 obtain ⟨j,e,q1,q2,q⟩:=q1
 subst e
 cases r1 with
 | cons r rr =>
  cases rr
  obtain ⟨t,rfl⟩:=r
  exact call_range_1 (aBJ I1 (by omega) (by omega) q1 q2 (by simpa using q))
def aHZ (wi:TI) (g:TG) (tb:TS):TS:=fun D σ H=>wi σ H fun J H1=>∃ W:Nat → Nat → St → Hp → Prop,(∃ m,W 0 m σ H1) ∧ ∀ i m σ H,W i m σ H →
 (J.stop i H ∧ D.nx σ H) ∨ (J.go i H ∧ ∃ N:St → Hp → Prop,(∀ σ' H',N σ' H' → ∃ m',m' < m ∧ W (i + 1) m' σ' H') ∧ ∀ x H',J.yld i H x H' → g x σ H' fun σ2 H2=>tb { D with nx:=N,ct:=N,bk:=D.nx } σ2 H2)
def jH (fp:List Addr) (h:Heap):List (Addr × Obj):=fp.filterMap fun b=>(h.get? b).map fun o=>(b,o)
theorem iQ {fp:List Addr} {h:Heap} {b:Addr} {o:Obj} (hb:b ∈ fp) (e:h.get? b = some o):(b,o) ∈ jH fp h:=List.mem_filterMap.mpr ⟨b,hb,by rw [e];rfl⟩
theorem rN {fp:List Addr} {h:Heap} {p:Addr × Obj} (hp:p ∈ jH fp h):p.1 ∈ fp ∧ h.get? p.1 = some p.2:=by
 obtain ⟨b,hb,e⟩:=List.mem_filterMap.mp hp
 cases q:h.get? b with
 | none=>rw [q] at e;cases e
 | some o =>
  rw [q] at e
  have e':(b,o) = p:=Option.some.inj e
  subst e'
  exact ⟨hb,q⟩
theorem Inv.pinned {pins:List (Addr × Obj)} {σ:St} {H:Hp} {s:Shared} {fp:List Addr} (I:Inv X pins σ H s) (hf:∀ b ∈ fp,uC X pins H b) (ho:∀ b ∈ fp,∃ o,s.heap.get? b = some o ∧ ∀ v,o.data ≠ .cell v):Inv X (pins ++ jH fp s.heap) σ H s :=
 I.pins_of fun p hp=>(List.mem_append.mp hp).elim (fun z=>I.pin p (List.mem_append_right _ z)) fun z=>by
  obtain ⟨hb,e⟩:=rN z
  obtain ⟨f0,f1,f2,_⟩:=hf p.1 hb
  obtain ⟨o,e',d⟩:=ho p.1 hb
  rw [e] at e';cases e'
  exact ⟨e,f0,f1,f2,d⟩
theorem Inv.unpinned {pins pl:List (Addr × Obj)} {σ:St} {H:Hp} {s:Shared} (I:Inv X (pins ++ pl) σ H s):Inv X pins σ H s:=I.pins_of fun p hp=>I.pin p (List.mem_append_right _ (List.mem_append_left _ hp))
theorem dZ {iter:Expr} {body:List Stmt} {wi:TI} {g:TG} {tb:TS} {pos:Pos} (hp:PassesOwn (model X.prog X.w) X.A X.env X.xe) (hc:X.calm = true) (hi:PI X tg iter wi) (hg:PG X tg g) (hb:PSs X body tb)
  (hs:∀ x,foldedSetIterable iter X.env x = pure x:=by intro _;rfl):PS X (.For tg iter body [] pos) (aHZ wi g tb):=by
 intro pins s σ H D I h
 refine wpAny_For (thn (hi pins s σ H _ I h) fun v s1 h1=>thn h1 fun itv s2 h2=>?_) hs
 obtain ⟨it,fp,tn,J,H2,e,I2,T,st2,f2,W,⟨m0,w0⟩,turn⟩:=h2
 subst e
 have stat:∀ {H':Hp},(∀ b ∈ fp,H' b = none) → ∀ b ∈ fp,uC X pins H' b:=fun hn b hb=>⟨hn b hb,(f2 b hb).2⟩
 refine codeAny_forLoop_any (fun n s'=>∃ i σ' H',Inv X pins σ' H' s' ∧ tn i s'.heap ∧ (∀ b ∈ fp,H' b = none) ∧ W i n σ' H') ?_ m0 ⟨0,σ,H2,I2,st2,fun b hb=>(f2 b hb).1,w0⟩
 rintro n s3 ⟨i,σ3,H3,I3,st3,fr3,w3⟩
 rcases turn i n σ3 H3 w3 with ⟨stop,qn⟩ | ⟨go,N,hN,step⟩
 ·refine wpAny_passesOwn hp (thn (T.done X rfl rfl rfl hc i pins s3 σ3 H3 X.xe I3 (stat fr3) st3 stop) fun r s4 ⟨hr,I4⟩=>?_)
  subst hr
  exact wpAny_execs_nil ⟨σ3,H3,I4,qn⟩
 ·refine wpAny_passesOwn hp (thn (T.item X rfl rfl rfl hc i pins s3 σ3 H3 X.xe I3 (stat fr3) st3 go) fun r s4 ⟨u,hr,h4⟩=>?_)
  subst hr
  refine wpAny_passesOwn hp (thn h4 fun _ s5 ⟨x,H5,I5,r5,y5,st5,fr5⟩=>?_)
  have I5':=I5.pinned (stat fr5) (T.obj _ _ st5)
  refine wpAny_passesOwn hp (thn (hg _ s5 σ3 H5 x u _ I5' r5 (step x H5 y5)) fun _ s6 ⟨σ6,H6,I6,q6⟩=>?_)
  refine wpAny_passesOwn hp (thn (hb _ s6 σ6 H6 _ I6 q6) fun f s7 q7=>?_)
  have again:∀ {σ7:St} {H7:Hp},Inv X (pins ++ jH fp s5.heap) σ7 H7 s7 → N σ7 H7 → ∃ m,m < n ∧ ∃ i σ' H',Inv X pins σ' H' s7 ∧ tn i s7.heap ∧ (∀ b ∈ fp,H' b = none) ∧ W i m σ' H':=fun {σ7 H7} I7 n7=>by
   obtain ⟨m',hm,w7⟩:=hN σ7 H7 n7
   refine ⟨m',hm,i + 1,σ7,H7,I7.unpinned,T.keep _ _ _ st5 fun b hb o e=>(I7.pin (b,o) (List.mem_append_right _ (List.mem_append_right _ (iQ hb e)))).1,fun b hb=>?_,w7⟩
   obtain ⟨o,e,d⟩:=T.obj _ _ st5 b hb
   exact (I7.pin (b,o) (List.mem_append_right _ (List.mem_append_right _ (iQ hb e)))).2.1
  cases f with
  | next=>obtain ⟨σ7,H7,I7,n7⟩:=q7;exact again I7 n7
  | cont=>obtain ⟨σ7,H7,I7,n7⟩:=q7;exact again I7 n7
  | brk=>obtain ⟨σ7,H7,I7,q7⟩:=q7;exact ⟨σ7,H7,I7.unpinned,q7⟩
  | ret v=>obtain ⟨x7,σ7,H7,I7,r7,q7⟩:=q7;exact ⟨x7,σ7,H7,I7.unpinned,r7,q7⟩
end
theorem eI {K:PySem.W.Frag} {a:Addr} {xs:List V} {g:TG} {tb:TS} {D:Ends} {σ:St} {H:Hp} (Pv:Nat → St → Hp → Prop) (h0:Pv 0 σ H) (hl:∀ i σ H,i ≤ xs.length → Pv i σ H → SqL K H a xs)
  (hs:∀ i x σ H,xs[i]? = some x → Pv i σ H → g x σ H fun σ2 H2=>tb { D with nx:=Pv (i + 1),ct:=Pv (i + 1),bk:=D.nx } σ2 H2) (hd:∀ σ H,Pv xs.length σ H → D.nx σ H) :
  ∃ W:Nat → Nat → St → Hp → Prop,(∃ m,W 0 m σ H) ∧ ∀ i m σ H,W i m σ H →
   ((Itl K a).stop i H ∧ D.nx σ H) ∨ ((Itl K a).go i H ∧ ∃ N:St → Hp → Prop,(∀ σ' H',N σ' H' → ∃ m',m' < m ∧ W (i + 1) m' σ' H') ∧ ∀ x H',(Itl K a).yld i H x H' → g x σ H' fun σ2 H2=>tb { D with nx:=N,ct:=N,bk:=D.nx } σ2 H2):=by
 refine ⟨fun i m σ H=>m = xs.length - i ∧ i ≤ xs.length ∧ Pv i σ H,⟨xs.length,by simp,Nat.zero_le _,h0⟩,?_⟩
 rintro i m σ H ⟨rfl,hi,p⟩
 have q:=hl i σ H hi p
 by_cases hlt:i < xs.length
 ·refine .inr ⟨⟨xs,xs[i],q,by simp [hlt]⟩,Pv (i + 1),fun σ' H' p'=>⟨xs.length - (i + 1),by omega,rfl,hlt,p'⟩,fun x H' y=>?_⟩
  obtain ⟨e,y⟩:=y
  subst e
  exact hs i x σ _ (y xs q) p
 ·have e:i = xs.length:=by omega
  subst e
  exact .inl ⟨⟨xs,q,Nat.le_refl _⟩,hd σ H p⟩
theorem iK {lo:Int} {n:Nat} {g:TG} {tb:TS} {D:Ends} {σ:St} {H:Hp} (Pv:Nat → St → Hp → Prop) (h0:Pv 0 σ H)
  (hs:∀ i σ H,i < n → Pv i σ H → g (.int (lo + i)) σ H fun σ2 H2=>tb { D with nx:=Pv (i + 1),ct:=Pv (i + 1),bk:=D.nx } σ2 H2) (hd:∀ σ H,Pv n σ H → D.nx σ H) :
  ∃ W:Nat → Nat → St → Hp → Prop,(∃ m,W 0 m σ H) ∧ ∀ i m σ H,W i m σ H →
   ((Itr lo n).stop i H ∧ D.nx σ H) ∨ ((Itr lo n).go i H ∧ ∃ N:St → Hp → Prop,(∀ σ' H',N σ' H' → ∃ m',m' < m ∧ W (i + 1) m' σ' H') ∧ ∀ x H',(Itr lo n).yld i H x H' → g x σ H' fun σ2 H2=>tb { D with nx:=N,ct:=N,bk:=D.nx } σ2 H2):=by
 refine ⟨fun i m σ H=>m = n - i ∧ i ≤ n ∧ Pv i σ H,⟨n,by simp,Nat.zero_le _,h0⟩,?_⟩
 rintro i m σ H ⟨rfl,hi,p⟩
 by_cases hlt:i < n
 ·refine .inr ⟨hlt,Pv (i + 1),fun σ' H' p'=>⟨n - (i + 1),by omega,rfl,hlt,p'⟩,fun x H' y=>?_⟩
  obtain ⟨e,y⟩:=y
  subst e y
  exact hs i σ _ hlt p
 ·have e:i = n:=by omega
  subst e
  exact .inl ⟨Nat.le_refl _,hd σ H p⟩
theorem aAM {c:TT} {tb:TS} {D:Ends} {σ:St} {H:Hp} (Pv:St → Hp → Prop) (μ:St → Hp → Nat) (h0:Pv σ H)
  (hs:∀ σ H,Pv σ H → c σ H fun b H1=>if b = true then tb { D with nx:=fun σ' H'=>Pv σ' H' ∧ μ σ' H' < μ σ H,ct:=fun σ' H'=>Pv σ' H' ∧ μ σ' H' < μ σ H,bk:=D.nx } σ H1 else D.nx σ H1)
  (mono:∀ σ H Q Q',(∀ b H1,Q b H1 → Q' b H1) → c σ H Q → c σ H Q'):aAS c tb D σ H:=by
 refine ⟨fun m σ H=>m = μ σ H ∧ Pv σ H,⟨_,rfl,h0⟩,?_⟩
 rintro m σ H ⟨rfl,p⟩
 refine mono σ H _ _ (fun b H1 q=>?_) (hs σ H p)
 cases b with
 | true=>exact ⟨_,fun σ' H' ⟨p',l⟩=>⟨_,l,rfl,p'⟩,q⟩
 | false=>exact q
end L2
namespace L2
open PySem PySem.Spec PyProof.Rows
abbrev R2:=V → V → Hp → VK → Prop
def OpR (X:Cx) (f:Value → Value → Sem Value) (r:R2):Prop :=
 ∀ (pins:List (Addr × Obj)) (s:Shared) (σ:St) (H:Hp) (x y:V) (v u:Value) (Q:VK),Inv X pins σ H s → aZ x v → aZ y u → r x y H Q →
  wpAny (model X.prog X.w) X.A (f v u) (EP X pins σ Q) X.xe s
def UnR (X:Cx) (f:Value → Sem Value) (r:V → Hp → VK → Prop):Prop :=
 ∀ (pins:List (Addr × Obj)) (s:Shared) (σ:St) (H:Hp) (x:V) (v:Value) (Q:VK),Inv X pins σ H s → aZ x v → r x H Q →
  wpAny (model X.prog X.w) X.A (f v) (EP X pins σ Q) X.xe s
def eJ (X:Cx) (f:Value) (r:List V → Hp → VK → Prop):Prop :=
 ∀ (pins:List (Addr × Obj)) (s:Shared) (σ:St) (H:Hp) (xs:List V) (us:List Value) (Q:VK),Inv X pins σ H s → bC xs us → r xs H Q →
  wpAny (model X.prog X.w) X.A (call f us) (EP X pins σ Q) X.xe s
def tOp (r:R2) (ta tb:TE):TE:=fun σ H Q=>ta σ H fun x H1=>tb σ H1 fun y H2=>r x y H2 Q
def tUn (r:V → Hp → VK → Prop) (ta:TE):TE:=fun σ H Q=>ta σ H fun x H1=>r x H1 Q
def rI (C:Int → Int → Prop) (g:Int → Int → V):R2:=fun x y H Q=>∃ i j,x = .int i ∧ y = .int j ∧ C i j ∧ Q (g i j) H
def rI0 (g:Int → Int → V):R2:=fun x y H Q=>∃ i j,x = .int i ∧ y = .int j ∧ Q (g i j) H
def rU (g:Int → V):V → Hp → VK → Prop:=fun x H Q=>∃ i,x = .int i ∧ Q (g i) H
section
variable {X:Cx} {a b c:Expr} {ta tb tc:TE} {pos:Pos}
theorem aFY (ha:PE X a ta) (hb:PE X b tb) {pins:List (Addr × Obj)} {s:Shared} {σ:St} {H:Hp} {R:V → V → Hp → Prop} (I:Inv X pins σ H s)
  (h:ta σ H fun x H1=>tb σ H1 fun y H2=>R x y H2) {Q:Value → Shared → Prop} {f:Value → Value → Sem Value}
  (hf:∀ v u s2 x y H2,Inv X pins σ H2 s2 → aZ x v → aZ y u → R x y H2 → wpAny (model X.prog X.w) X.A (f v u) Q X.xe s2) :
  wpAny (model X.prog X.w) X.A (eval a X.env) (fun v s₁=>wpAny (model X.prog X.w) X.A (eval b X.env) (fun u s₂=>wpAny (model X.prog X.w) X.A (f v u) Q X.xe s₂) X.xe s₁) X.xe s:=by
 refine thn (ha pins s σ H _ I h) fun v s1 ⟨x,H1,I1,r1,q1⟩=>?_
 refine thn (hb pins s1 σ H1 _ I1 q1) fun u s2 ⟨y,H2,I2,r2,q2⟩=>?_
 exact hf v u s2 x y H2 I2 r1 r2 q2
theorem aK {op:Operator} {r:R2} (ho:OpR X (binaryOp op) r) (ha:PE X a ta) (hb:PE X b tb):PE X (.BinOp a op b pos) (tOp r ta tb):=by
 intro pins s σ H Q I h
 exact wpAny_BinOp (aFY ha hb I h fun v u s2 x y H2 I2 rx ry q=>ho pins s2 σ H2 x y v u Q I2 rx ry q)
theorem aEU {op:UnaryOp} {r:V → Hp → VK → Prop} (ho:UnR X (unaryOp op) r) (ha:PE X a ta):PE X (.UnaryOp op a pos) (tUn r ta):=by
 intro pins s σ H Q I h
 exact UnaryOp_ (thn (ha pins s σ H _ I h) fun v s1 ⟨x,H1,I1,r1,q1⟩=>ho pins s1 σ H1 x v Q I1 r1 q1)
theorem opI {f:Value → Value → Sem Value} {C:Int → Int → Prop} {g:Int → Int → Int}
  (rule:∀ (i j:Int) (t u:Tok) (s:Shared) (Q:Value → Shared → Prop) (E:Value → Shared → Prop),C i j → Q (.int (g i j) s.toks) { s with toks:=s.toks + 1 } → wpAny (model X.prog X.w) X.A (f (.int i t) (.int j u)) Q E s) :
  OpR X f (rI C fun i j=>.int (g i j)):=by
 intro pins s σ H x y v u Q I rx ry h
 obtain ⟨i,j,rfl,rfl,hc,q⟩:=h
 obtain ⟨t,rfl⟩:=rx
 obtain ⟨t',rfl⟩:=ry
 exact rule i j t t' s _ _ hc ⟨.int (g i j),H,I.tok _,⟨_,rfl⟩,q⟩
theorem aGY {f:Value → Value → Sem Value} {g:Int → Int → Int}
  (rule:∀ (i j:Int) (t u:Tok) (s:Shared) (Q:Value → Shared → Prop) (E:Value → Shared → Prop),Q (.int (g i j) s.toks) { s with toks:=s.toks + 1 } → wpAny (model X.prog X.w) X.A (f (.int i t) (.int j u)) Q E s) :
  OpR X f (rI0 fun i j=>.int (g i j)):=by
 intro pins s σ H x y v u Q I rx ry h
 obtain ⟨i,j,rfl,rfl,q⟩:=h
 obtain ⟨t,rfl⟩:=rx
 obtain ⟨t',rfl⟩:=ry
 exact rule i j t t' s _ _ ⟨.int (g i j),H,I.tok _,⟨_,rfl⟩,q⟩
theorem aFK {f:Value → Value → Sem Value} {g:Int → Int → Bool}
  (rule:∀ (i j:Int) (t u:Tok) (s:Shared) (Q:Value → Shared → Prop) (E:Value → Shared → Prop),Q (.bool (g i j)) s → wpAny (model X.prog X.w) X.A (f (.int i t) (.int j u)) Q E s) :
  OpR X f (rI0 fun i j=>.bl (g i j)):=by
 intro pins s σ H x y v u Q I rx ry h
 obtain ⟨i,j,rfl,rfl,q⟩:=h
 obtain ⟨t,rfl⟩:=rx
 obtain ⟨t',rfl⟩:=ry
 exact rule i j t t' s _ _ ⟨.bl (g i j),H,I,rfl,q⟩
def aIS (i j:Int):Prop:=0 ≤ j ∧ j ≤ 1000000 ∧ i.natAbs < 2 ^ 64
def aGC (i j:Int):Prop:=(-(2 ^ 64) < i ∧ i < 2 ^ 64) ∨ (-(2 ^ 64) < j ∧ j < 2 ^ 64)
theorem aGC.ok {i j:Int} (h:aGC i j):IntMulOk i j:=by
 rcases h with ⟨h1,h2⟩ | ⟨h1,h2⟩
 ·exact .of_left (intBits_le_64 h1 h2)
 ·exact .of_right (intBits_le_64 h1 h2)
theorem cM:OpR X (binaryOp .Add) (rI0 fun i j=>.int (i + j)):=aGY fun _ _ _ _ _ _ _ q=>add_int q
theorem lZ:OpR X (binaryOp .Sub) (rI0 fun i j=>.int (i - j)):=aGY fun _ _ _ _ _ _ _ q=>sub_int q
theorem gU:OpR X (binaryOp .Mult) (rI aGC fun i j=>.int (i * j)):=opI fun _ _ _ _ _ _ _ hc q=>mul_int q hc.ok
theorem bM:OpR X (binaryOp .Mod) (rI (fun _ j=>0 < j) fun i j=>.int (i % j)):=opI fun i j _ _ _ _ _ hc q=>by
 have h1:(0:Int) < j:=hc
 exact mod_int' (by omega) (by rw [Int.fmod_eq_emod_of_nonneg i (by omega)];exact q)
theorem jJ:OpR X (binaryOp .Pow) (rI aIS fun i j=>.int (i ^ j.toNat)):=opI fun _ _ _ _ _ _ _ hc q=>pow_int_small hc.1 hc.2.1 hc.2.2 q
theorem unI {f:Value → Sem Value} {g:Int → Int}
  (rule:∀ (i:Int) (t:Tok) (s:Shared) (Q:Value → Shared → Prop) (E:Value → Shared → Prop),Q (.int (g i) s.toks) { s with toks:=s.toks + 1 } → wpAny (model X.prog X.w) X.A (f (.int i t)) Q E s) :
  UnR X f (rU fun i=>.int (g i)):=by
 intro pins s σ H x v Q I rx h
 obtain ⟨i,rfl,q⟩:=h
 obtain ⟨t,rfl⟩:=rx
 exact rule i t s _ _ ⟨.int (g i),H,I.tok _,⟨_,rfl⟩,q⟩
theorem aAO:UnR X (unaryOp .USub) (rU fun i=>.int (-i)):=unI fun _ _ _ _ _ q=>neg_int q
end
def aGP:V → V → Bool
 | .non,.non=>true | .non,.int _=>true | .int _,.non=>true | .non,.bl _=>true | .bl _,.non=>true | .non,.str _=>true | .str _,.non=>true
 | .int _,.int _=>true | .bl _,.bl _=>true | .str _,.str _=>true | .byt _,.byt _=>true
 | .int _,.str _=>true | .str _,.int _=>true | .bl _,.str _=>true | .str _,.bl _=>true
 | _,_=>false
def rEq:R2:=fun x y H Q=>aGP x y = true ∧ Q (.bl (decide (x = y))) H
def rNe:R2:=fun x y H Q=>aGP x y = true ∧ Q (.bl (!decide (x = y))) H
theorem nX {i j:Int}:decide (V.int i = V.int j) = (i == j):=by
 rw [Bool.eq_iff_iff]
 simp
theorem aCS {i j:Bool}:decide (V.bl i = V.bl j) = (i == j):=by
 rw [Bool.eq_iff_iff]
 simp
theorem tT {i j:Str}:decide (V.str i = V.str j) = (i == j):=by
 rw [Bool.eq_iff_iff]
 simp
theorem yP {i j:Array UInt8}:decide (V.byt i = V.byt j) = (i.toList == j.toList):=by
 rw [Bool.eq_iff_iff]
 cases i
 cases j
 simp
section
variable {X:Cx} {a b c:Expr} {ta tb tc:TE} {pos:Pos}
theorem bI {pins:List (Addr × Obj)} {σ:St} {H:Hp} {s:Shared} {Q:VK} {k k':Bool} (I:Inv X pins σ H s) (q:Q (.bl k) H) (e:k = k'):EP X pins σ Q (.bool k') s:=by
 subst e
 exact ⟨.bl k,H,I,rfl,q⟩
theorem pA:OpR X (compareOp .Eq) rEq:=by
 intro pins s σ H x y v u Q I rx ry h
 obtain ⟨hs,q⟩:=h
 cases x with
 | non =>
  cases rx
  cases y with
  | non=>cases ry;exact PySem.EqNone.eq_none_none (bI I q (by simp))
  | bl j=>cases ry;exact PySem.EqNone.eq_none_bool (bI I q (by simp))
  | int j=>obtain ⟨t',rfl⟩:=ry;exact PySem.EqNone.eq_none_int (bI I q (by simp))
  | str j=>obtain ⟨t',rfl⟩:=ry;exact PySem.EqNone.eq_none_str (bI I q (by simp))
  | _=>exact absurd (show false = true from hs) Bool.false_ne_true
 | bl i =>
  cases rx
  cases y with
  | non=>cases ry;exact PySem.EqNone.eq_bool_none (bI I q (by simp))
  | bl j=>cases ry;exact eq_bool (bI I q aCS)
  | str j=>obtain ⟨t',rfl⟩:=ry;exact PySem.EqMixed.eq_bool_str (bI I q (by simp))
  | _=>exact absurd (show false = true from hs) Bool.false_ne_true
 | int i =>
  obtain ⟨t,rfl⟩:=rx
  cases y with
  | non=>cases ry;exact PySem.EqNone.eq_int_none (bI I q (by simp))
  | int j=>obtain ⟨t',rfl⟩:=ry;exact eq_int (bI I q nX)
  | str j=>obtain ⟨t',rfl⟩:=ry;exact PySem.EqMixed.eq_int_str (bI I q (by simp))
  | _=>exact absurd (show false = true from hs) Bool.false_ne_true
 | str i =>
  obtain ⟨t,rfl⟩:=rx
  cases y with
  | non=>cases ry;exact PySem.EqNone.eq_str_none (bI I q (by simp))
  | bl j=>cases ry;exact PySem.EqMixed.eq_str_bool (bI I q (by simp))
  | int j=>obtain ⟨t',rfl⟩:=ry;exact PySem.EqMixed.eq_str_int (bI I q (by simp))
  | str j=>obtain ⟨t',rfl⟩:=ry;exact eq_str (bI I q tT)
  | _=>exact absurd (show false = true from hs) Bool.false_ne_true
 | byt i =>
  obtain ⟨t,rfl⟩:=rx
  cases y with
  | byt j=>obtain ⟨t',rfl⟩:=ry;exact PySem.W.eq_bytes (bI I q yP)
  | _=>exact absurd (show false = true from hs) Bool.false_ne_true
 | _=>cases y <;> exact absurd (show false = true from hs) Bool.false_ne_true
theorem vC:OpR X (compareOp .NotEq) rNe:=by
 intro pins s σ H x y v u Q I rx ry h
 obtain ⟨hs,q⟩:=h
 cases x with
 | non =>
  cases rx
  cases y with
  | non=>cases ry;exact PySem.EqNone.ne_none_none (bI I q (by simp))
  | bl j=>cases ry;exact PySem.EqNone.ne_none_bool (bI I q (by simp))
  | int j=>obtain ⟨t',rfl⟩:=ry;exact PySem.EqNone.ne_none_int (bI I q (by simp))
  | str j=>obtain ⟨t',rfl⟩:=ry;exact PySem.EqNone.ne_none_str (bI I q (by simp))
  | _=>exact absurd (show false = true from hs) Bool.false_ne_true
 | bl i =>
  cases rx
  cases y with
  | non=>cases ry;exact PySem.EqNone.ne_bool_none (bI I q (by simp))
  | bl j=>cases ry;exact ne_bool (bI I q (congrArg not aCS))
  | str j=>obtain ⟨t',rfl⟩:=ry;exact PySem.EqMixed.ne_bool_str (bI I q (by simp))
  | _=>exact absurd (show false = true from hs) Bool.false_ne_true
 | int i =>
  obtain ⟨t,rfl⟩:=rx
  cases y with
  | non=>cases ry;exact PySem.EqNone.ne_int_none (bI I q (by simp))
  | int j=>obtain ⟨t',rfl⟩:=ry;exact ne_int (bI I q (congrArg not nX))
  | str j=>obtain ⟨t',rfl⟩:=ry;exact PySem.EqMixed.ne_int_str (bI I q (by simp))
  | _=>exact absurd (show false = true from hs) Bool.false_ne_true
 | str i =>
  obtain ⟨t,rfl⟩:=rx
  cases y with
  | non=>cases ry;exact PySem.EqNone.ne_str_none (bI I q (by simp))
  | bl j=>cases ry;exact PySem.EqMixed.ne_str_bool (bI I q (by simp))
  | int j=>obtain ⟨t',rfl⟩:=ry;exact PySem.EqMixed.ne_str_int (bI I q (by simp))
  | str j=>obtain ⟨t',rfl⟩:=ry;exact ne_str (bI I q (congrArg not tT))
  | _=>exact absurd (show false = true from hs) Bool.false_ne_true
 | byt i =>
  obtain ⟨t,rfl⟩:=rx
  cases y with
  | byt j=>obtain ⟨t',rfl⟩:=ry;exact PySem.W.ne_bytes (bI I q (congrArg not yP))
  | _=>exact absurd (show false = true from hs) Bool.false_ne_true
 | _=>cases y <;> exact absurd (show false = true from hs) Bool.false_ne_true
theorem yH:OpR X (compareOp .Lt) (rI0 fun i j=>.bl (decide (i < j))):=aFK fun _ _ _ _ _ _ _ q=>lt_int q
theorem lM:OpR X (compareOp .LtE) (rI0 fun i j=>.bl (decide (i ≤ j))):=aFK fun _ _ _ _ _ _ _ q=>le_int q
theorem aBU:OpR X (compareOp .Gt) (rI0 fun i j=>.bl (decide (j < i))):=aFK fun _ _ _ _ _ _ _ q=>gt_int q
theorem zK:OpR X (compareOp .In) (fun x y H Q=>∃ i j,x = .str i ∧ y = .str j ∧ Q (.bl (!(Builtin.Str.occurrences j i 0 j.length 1).isEmpty)) H):=by
 intro pins s σ H x y v u Q I rx ry h
 obtain ⟨i,j,rfl,rfl,q⟩:=h
 obtain ⟨t,rfl⟩:=rx
 obtain ⟨t',rfl⟩:=ry
 exact in_str (bI I q rfl)
theorem wT:OpR X (compareOp .Is) (fun x y H Q=>y = .non ∧ Q (.bl (decide (x = .non))) H):=by
 intro pins s σ H x y v u Q I rx ry h
 obtain ⟨rfl,q⟩:=h
 cases ry
 refine is_none_gen (bI I q ?_)
 cases x <;> first
  | (cases rx;rfl)
  | (obtain ⟨t,rfl⟩:=rx;rfl)
theorem tD:OpR X (compareOp .IsNot) (fun x y H Q=>y = .non ∧ Q (.bl (!decide (x = .non))) H):=by
 intro pins s σ H x y v u Q I rx ry h
 obtain ⟨rfl,q⟩:=h
 cases ry
 refine isnot_none_gen (bI I q ?_)
 cases x <;> first
  | (cases rx;rfl)
  | (obtain ⟨t,rfl⟩:=rx;rfl)
theorem bV (b:Expr) {op:CmpOp} (h:op ≠ .In:=by decide) (h2:op ≠ .NotIn:=by decide):behindInMarks op b = false:=by
 have e1:(op == CmpOp.In) = false:=by cases op <;> first | rfl | exact absurd rfl h
 have e2:(op == CmpOp.NotIn) = false:=by cases op <;> first | rfl | exact absurd rfl h2
 cases b <;> simp [behindInMarks,e1,e2]
theorem fP {op:CmpOp} {r:R2} (ho:OpR X (compareOp op) r) (ha:PE X a ta) (hb:PE X b tb) (hm:behindInMarks op b = false):PE X (.Compare a [op] [b] pos) (tOp r ta tb):=by
 intro pins s σ H Q I h
 exact wpAny_Compare1 (aFY ha hb I h fun v u s2 x y H2 I2 rx ry q=>ho pins s2 σ H2 x y v u Q I2 rx ry q) hm
def aEO (t:TE):TT:=fun σ H Q=>t σ H fun x H'=>∃ k,x = .bl k ∧ Q k H'
theorem bT {op:CmpOp} {r:R2} (ho:OpR X (compareOp op) r) (ha:PE X a ta) (hb:PE X b tb) (hm:behindInMarks op b = false):PT X (.Compare a [op] [b] pos) (aEO (tOp r ta tb)):=by
 intro pins s σ H Q I h
 refine wpAny_isTrue_Compare1 (thn (ha pins s σ H _ I h) fun v s1 ⟨x,H1,I1,r1,q1⟩=>thn (hb pins s1 σ H1 _ I1 q1) fun u s2 ⟨y,H2,I2,r2,q2⟩ =>
  thn (ho pins s2 σ H2 x y v u _ I2 r1 r2 q2) fun c s3 ⟨z,H3,I3,r3,k,e,q3⟩=>?_) hm
 subst e
 cases r3
 exact wpAny_truthy_bool ⟨H3,I3,q3⟩
def aAT (r r':R2) (ta tb tc:TE):TE:=fun σ H Q=>ta σ H fun x H1=>tb σ H1 fun y H2=>r x y H2 fun z H3=>∃ k,z = .bl k ∧
 (if k = true then tc σ H3 fun w' H4=>r' y w' H4 Q else Q (.bl false) H3)
theorem oY {op op':CmpOp} {r r':R2} (ho:OpR X (compareOp op) r) (ho':OpR X (compareOp op') r') (ha:PE X a ta) (hb:PE X b tb) (hc:PE X c tc)
  (hm:lastMarks [op,op'] [b,c] = false:=by with_unfolding_all rfl):PE X (.Compare a [op,op'] [b,c] pos) (aAT r r' ta tb tc):=by
 intro pins s σ H Q I h
 refine Compare_chain (thn (ha pins s σ H _ I h) fun v s1 ⟨x,H1,I1,r1,q1⟩=>chain_link (thn (hb pins s1 σ H1 _ I1 q1) fun u s2 ⟨y,H2,I2,r2,q2⟩ =>
  thn (ho pins s2 σ H2 x y v u _ I2 r1 r2 q2) fun d s3 ⟨z,H3,I3,r3,k,e,q3⟩=>?_)) hm
 subst e
 cases r3
 refine wpAny_truthy_bool ?_
 cases k with
 | false=>exact ite_ff ⟨.bl false,H3,I3,rfl,q3⟩
 | true=>exact ite_tt (chain_last (thn (hc pins s3 σ H3 _ I3 q3) fun w' s4 ⟨z',H4,I4,r4,q4⟩=>ho' pins s4 σ H4 y z' u w' Q I4 r2 r4 q4))
theorem aBK {op op':CmpOp} {r r':R2} (ho:OpR X (compareOp op) r) (ho':OpR X (compareOp op') r') (ha:PE X a ta) (hb:PE X b tb) (hc:PE X c tc)
  (hm:lastMarks [op,op'] [b,c] = false:=by with_unfolding_all rfl):PT X (.Compare a [op,op'] [b,c] pos) (aEO (aAT r r' ta tb tc)):=by
 intro pins s σ H Q I h
 refine isTrue_chain (thn (ha pins s σ H _ I h) fun v s1 ⟨x,H1,I1,r1,q1⟩=>test_link (thn (hb pins s1 σ H1 _ I1 q1) fun u s2 ⟨y,H2,I2,r2,q2⟩ =>
  thn (ho pins s2 σ H2 x y v u _ I2 r1 r2 q2) fun d s3 ⟨z,H3,I3,r3,k,e,q3⟩=>?_)) hm
 subst e
 cases r3
 refine wpAny_truthy_bool ?_
 cases k with
 | false =>
  obtain ⟨k',e',q'⟩:=q3
  cases e'
  exact ite_ff ⟨H3,I3,q'⟩
 | true =>
  refine ite_tt (test_last (thn (hc pins s3 σ H3 _ I3 q3) fun w' s4 ⟨z',H4,I4,r4,q4⟩=>thn (ho' pins s4 σ H4 y z' u w' _ I4 r2 r4 q4) fun d' s5 ⟨z2,H5,I5,r5,k2,e2,q5⟩=>?_))
  subst e2
  cases r5
  exact wpAny_truthy_bool ⟨H5,I5,q5⟩
theorem pL:(sizeLine:Nat) < 2 ^ 63:=by rw [sizeLine_eq];decide
theorem kT:OpR X (binaryOp .Add) (fun x y H Q=>∃ i j,x = .str i ∧ y = .str j ∧ i.length + j.length ≤ sizeLine ∧ Q (.str (i ++ j)) H):=by
 intro pins s σ H x y v u Q I rx ry h
 obtain ⟨i,j,rfl,rfl,hz,q⟩:=h
 obtain ⟨t,rfl⟩:=rx
 obtain ⟨t',rfl⟩:=ry
 exact add_str (fun t' tk=>⟨.str (i ++ j),H,I.tok _,⟨_,rfl⟩,q⟩) hz
theorem qY {x:V} {us:List Value} (r:bC [x] us):∃ u,us = [u] ∧ aZ x u:=by
 cases r with
 | cons r1 r2=>cases r2;exact ⟨_,rfl,r1⟩
theorem aEN {x y:V} {us:List Value} (r:bC [x,y] us):∃ u w',us = [u,w'] ∧ aZ x u ∧ aZ y w':=by
 cases r with
 | cons r1 r2 =>
  cases r2 with
  | cons r3 r4=>cases r4;exact ⟨_,_,rfl,r1,r3⟩
theorem kH (hc:X.calm = true):eJ X (.builtin "max") (fun xs H Q=>∃ i j,xs = [.int i,.int j] ∧ Q (.int (if j > i then j else i)) H):=by
 intro pins s σ H xs us Q I r h
 obtain ⟨i,j,rfl,q⟩:=h
 obtain ⟨u,w',rfl,⟨t,rfl⟩,⟨t',rfl⟩⟩:=aEN r
 refine max_two_ints (I.ok.hd hc) fun h' tk k=>⟨_,H,I.kept k,?_,q⟩
 by_cases hj:j > i
 ·rw [if_pos hj,if_pos hj];exact ⟨_,rfl⟩
 ·rw [if_neg hj,if_neg hj];exact ⟨_,rfl⟩
theorem aAH (hc:X.calm = true):eJ X (.builtin "min") (fun xs H Q=>∃ i j,xs = [.int i,.int j] ∧ Q (.int (if j < i then j else i)) H):=by
 intro pins s σ H xs us Q I r h
 obtain ⟨i,j,rfl,q⟩:=h
 obtain ⟨u,w',rfl,⟨t,rfl⟩,⟨t',rfl⟩⟩:=aEN r
 refine min_two_ints (I.ok.hd hc) fun h' tk k=>⟨_,H,I.kept k,?_,q⟩
 by_cases hj:j < i
 ·rw [if_pos hj,if_pos hj];exact ⟨_,rfl⟩
 ·rw [if_neg hj,if_neg hj];exact ⟨_,rfl⟩
theorem aAI:eJ X (.type "int") (fun xs H Q=>(∃ i,xs = [.int i] ∧ Q (.int i) H) ∨ ∃ k,xs = [.bl k] ∧ Q (.int (if k then 1 else 0)) H):=by
 intro pins s σ H xs us Q I r h
 rcases h with ⟨i,rfl,q⟩ | ⟨k,rfl,q⟩
 ·obtain ⟨u,rfl,t,rfl⟩:=qY r
  exact call_int_int ⟨.int i,H,I,⟨_,rfl⟩,q⟩
 ·obtain ⟨u,rfl,r1⟩:=qY r
  cases r1
  exact call_int_bool ⟨.int (if k then 1 else 0),H,I.tok _,⟨_,rfl⟩,q⟩
end
end L2
namespace L2
open PySem PySem.Spec PyProof.Rows
structure ObjM (h:Heap) (x dx C:Addr) (mA:Str → Option Value):Prop where
 obj:h.get? x = some (PySem.W.instObj C dx)
 ns:h.Ns1 dx mA
 ne:dx ≠ x
theorem zO {h:Heap} {dx:Addr} {mA:Str → Option Value} (n:h.Ns1 dx mA):∃ od,h.get? dx = some od ∧ ∀ name,PySem.W.lookIn name od = some (mA name):=by
 obtain ⟨o,es,ep,ho,hd,hk,_,hm⟩:=n
 refine ⟨o,ho,fun name=>?_⟩
 have e:=hm name
 unfold nsFind findBy at e
 rw [← Array.find?_toList] at e
 unfold PySem.W.lookIn
 rw [hd]
 dsimp only
 split
 ·rename_i y q
  rw [q] at e
  exact congrArg some e
 ·rename_i q
  rw [q] at e
  have a:es.toList.any (·.refKey) = false:=by
   rw [List.any_eq_false]
   intro y hy
   obtain ⟨z,t,hkey⟩:=hk y (Array.mem_toList_iff.mp hy)
   simp [DictEntry.refKey,hkey]
  have a':¬ es.toList.any (·.refKey) = true:=by rw [a];exact Bool.false_ne_true
  rw [if_neg a']
  exact congrArg some e
theorem ObjM.look {h:Heap} {x dx C:Addr} {mA:Str → Option Value} (I:ObjM h x dx C mA):∃ od,PySem.W.InstAt h x (PySem.W.instObj C dx) C (some od) ∧ ∀ name,PySem.W.lookIn name od = some (mA name) :=
 let ⟨od,ho,hl⟩:=zO I.ns
 ⟨od,⟨I.obj,rfl,rfl,ho⟩,hl⟩
section
variable {prog:Program} {w:World} {A:Around} {E:Value → Shared → Prop} {s:Shared} {K:PySem.W.Frag} {x dx C f:Addr} {mA:Str → Option Value} {name:Str} {v:Value}
theorem aED {expr:Bool} {Q:Value → Shared → Prop} (X:K.In s.heap) (I:ObjM s.heap x dx C mA) (hg:PySem.W.plainGet K C name = true) (hh:PySem.W.hasDictIn K C = true)
  (ha:PySem.W.findIn K (.ref C) name = some none) (hv:mA name = some v) (hv':PySem.W.handedIn v = true) (h:Q v { s with toks:=s.toks + 1 }) :
  wpAny (model prog w) A (getAttr (.ref x) name expr) Q E s:=by
 obtain ⟨od,J,hl⟩:=I.look
 exact PySem.W.get_value X J (PySem.W.plainGet_of hg).1 (PySem.W.findObj_own hh ha rfl (by rw [hl,hv])) hv' h
theorem aCJ {pl:Sem Bool} {Q:Value × List Value → Shared → Prop} (X:K.In s.heap) (I:ObjM s.heap x dx C mA) (hg:PySem.W.plainGet K C name = true)
  (hf:PySem.W.findIn K (.ref C) name = some (some (.ref f))) (ht:PySem.W.isFn K (.ref f) = true) (hv:mA name = none) (h:Q (.ref f,[.ref x]) s) :
  wpAny (model prog w) A (getMethod (.ref x) name pl) Q E s:=by
 obtain ⟨od,J,hl⟩:=I.look
 exact PySem.W.method_fn X J (PySem.W.plainGet_of hg).1 (PySem.W.plainGet_of hg).2 hf (beq_iff_eq.mp ht) (by show (PySem.W.lookIn name od).map (·.isSome) = some false;rw [hl,hv];rfl) h
theorem aDG {ns:List Str} {Q:Unit → Shared → Prop} (X:K.In s.heap) (I:ObjM s.heap x dx C mA)
  (hs:PySem.W.findIn K (.ref C) "__setattr__" = some (some (.builtin "object.__setattr__"))) (hp:PySem.W.plainOver K C = true) (ht:PySem.W.takerIn K C name = some none) (hh:PySem.W.hasDictIn K C = true)
  (hw:PySem.Within mA ns) (hsz:ns.length ≤ sizeLine)
  (h:∀ h',ObjM h' x dx C (fun y=>if y = name then some v else mA y) → Heap.SameBut dx s.heap h' → Q () { s with heap:=h',toks:=s.toks + 2 }) :
  wpAny (model prog w) A (setAttr (.ref x) name v) Q E s:=by
 obtain ⟨od,J,hl⟩:=I.look
 refine PySem.W.set_plain X J hs (PySem.W.osa_open (s:={ s with toks:=s.toks + 1 }) (r:=none) X J hp ht fun b=>?_)
 obtain ⟨cd,hc,hd'⟩:=PySem.W.any_some hh
 have hx:s.heap.get? x = some ⟨.ref C,some dx,.plain,#[]⟩:=I.obj
 refine wpAny_bind (wpAny_pure (wpAny_bind (wpAny_bind (wpAny_loadPart hx (wpAny_bind (PySem.W.Looks.here (s:={ s with toks:=s.toks + 1 }) (PySem.W.looks_clsIn X hc) ?_))))))
 rw [hd']
 refine wpAny_pure (a:=some dx) (wpAny_bind (wpAny_pure (wpAny_bind ?_)))
 refine wpAny_nsSet1 (s:={ s with toks:=s.toks + 1 }) I.ns fun h' hn2 hs2=>?_
 obtain ⟨oD,esD,epD,hoD,hdD,hcD⟩:=hn2.count (PySem.Within.cons name v hw)
 refine wpAny_bind (wpAny_lookBehind hoD (by rw [hdD];exact pastItsLine_dict (Nat.le_trans hcD (by rw [List.length_cons];omega))) ?_)
 exact wpAny_pure (h _ ⟨(hs2.2 _ (Ne.symm I.ne)).trans I.obj,hn2,I.ne⟩ hs2)
theorem aBW {R:Result → Shared → Prop} {vs:List Value} {kw:List (Str × Value)} (X:K.In s.heap) (hm:PySem.W.makesIn K C = true)
  (hi:PySem.W.findIn K (.ref C) "__init__" = some (some (.ref f))) (hf:PySem.W.typeIn K (.ref f) = some (.type "function"))
  (h:codeAny (model prog w) (A.under (.builtin "type.__call__" ⟨.ref C :: vs,kw⟩)) (.call (.ref f) ⟨.ref (s.heap.objs.size + 1) :: vs,kw⟩) (PySem.W.InitBack (s.heap.objs.size + 1) R)
   { s with heap:=(s.heap.push PySem.W.emptyDict).push (PySem.W.instObj C s.heap.objs.size) }) :
  codeAny (model prog w) A (.call (.ref C) ⟨vs,kw⟩) R s:=by
 obtain ⟨hh,g,d,t,os⟩:=s
 exact PySem.W.make_core (PySem.W.makes_of X hm) (PySem.W.looks_findIn X hi) (fun self=>PySem.W.bind_fn X self hf) (.inl rfl) h
end
def gH (f:Str) (v:V):List (Str × V) → List (Str × V)
 | []=>[(f,v)]
 | (g,x) :: r=>if g = f then (g,v) :: r else (g,x) :: gH f v r
theorem dW (f g:Str) (v:V):∀ fs:List (Str × V),(gH f v fs).lookup g = if g = f then some v else fs.lookup g
 | []=>by
  show List.lookup g [(f,v)] = _
  by_cases h:g = f
  ·have hb:(g == f) = true:=beq_iff_eq.mpr h
   simp only [List.lookup,hb,if_pos h]
  ·have hb:(g == f) = false:=beq_eq_false_iff_ne.mpr h
   simp only [List.lookup,hb,if_neg h]
 | (k,x) :: r=>by
  have ih:=dW f g v r
  rw [show gH f v ((k,x) :: r) = (if k = f then (k,v) :: r else (k,x) :: gH f v r) from rfl]
  by_cases hk:k = f
  ·rw [if_pos hk]
   by_cases h:g = k
   ·have hb:(g == k) = true:=beq_iff_eq.mpr h
    simp only [List.lookup,hb,if_pos (h.trans hk)]
   ·have hb:(g == k) = false:=beq_eq_false_iff_ne.mpr h
    simp only [List.lookup,hb,if_neg (fun e:g = f=>h (e.trans hk.symm))]
  ·rw [if_neg hk]
   by_cases h:g = k
   ·have hb:(g == k) = true:=beq_iff_eq.mpr h
    simp only [List.lookup,hb,if_neg (fun e:g = f=>hk (h.symm.trans e))]
   ·have hb:(g == k) = false:=beq_eq_false_iff_ne.mpr h
    simp only [List.lookup,hb]
    exact ih
theorem mF (f:Str) (v:V):∀ fs:List (Str × V),f ∈ (gH f v fs).map (·.1) ∧ ∀ g,g ∈ fs.map (·.1) → g ∈ (gH f v fs).map (·.1)
 | []=>⟨by simp [gH],fun g h=>by simp at h⟩
 | (k,x) :: r=>by
  obtain ⟨i1,i2⟩:=mF f v r
  rw [show gH f v ((k,x) :: r) = (if k = f then (k,v) :: r else (k,x) :: gH f v r) from rfl]
  by_cases hk:k = f
  ·rw [if_pos hk]
   subst hk
   exact ⟨by simp,fun g h=>by simpa using h⟩
  ·rw [if_neg hk]
   refine ⟨?_,fun g h=>?_⟩
   ·rw [List.map_cons]
    exact List.mem_cons_of_mem _ i1
   ·rw [List.map_cons] at h ⊢
    rcases List.mem_cons.mp h with e | e
    ·exact List.mem_cons.mpr (.inl e)
    ·exact List.mem_cons_of_mem _ (i2 g e)
theorem mW (f:Str) (v:V):∀ fs:List (Str × V),(gH f v fs).length ≤ fs.length + 1
 | []=>by simp [gH]
 | (k,x) :: r=>by
  have ih:=mW f v r
  rw [show gH f v ((k,x) :: r) = (if k = f then (k,v) :: r else (k,x) :: gH f v r) from rfl]
  by_cases hk:k = f
  ·rw [if_pos hk,List.length_cons,List.length_cons];omega
  ·rw [if_neg hk,List.length_cons,List.length_cons];omega
theorem jB.some_of {v:V} {o:Option Value} (r:jB (some v) o):∃ u,o = some u ∧ aZ v u:=by
 cases o with
 | none=>exact (show False from r).elim
 | some u=>exact ⟨u,rfl,r⟩
theorem jB.none_of {o:Option Value} (r:jB none o):o = none:=by
 cases o with
 | none=>rfl
 | some u=>exact (show False from r).elim
theorem zS {v:V} {u:Value} (r:aZ v u):PySem.W.handedIn u = true:=by
 cases v with
 | non=>cases (show u = Value.none from r);rfl
 | bl b=>cases (show u = Value.bool b from r);rfl
 | int i=>obtain ⟨t,e⟩:=(show ∃ t,u = Value.int i t from r);cases e;rfl
 | str x=>obtain ⟨t,e⟩:=(show ∃ t,u = Value.str x t from r);cases e;rfl
 | byt b=>obtain ⟨t,e⟩:=(show ∃ t,u = Value.bytes b t from r);cases e;rfl
 | flt b=>obtain ⟨t,e⟩:=(show ∃ t,u = Value.float b t from r);cases e;rfl
 | ref a=>cases (show u = Value.ref a from r);rfl
 | ty n=>cases (show u = Value.type n from r);rfl
section
variable {P:Program} {w:World} {H H':Hp} {h h':Heap} {a C dx:Addr} {fs fs':List (Str × V)}
theorem nW (hok:HOk P w H h) (e:H a = some (.ins C dx fs)):∃ mA,ObjM h a dx C mA ∧ (∀ f,jB (fs.lookup f) (mA f)) ∧ PySem.Within mA (fs.map (·.1)) ∧ fs.length ≤ 1000 ∧ H dx = some (.own a):=by
 obtain ⟨d,z,ne,ob,mA,n,r,q⟩:=(show bX P w H h a (.ins C dx fs) from hok a _ e)
 exact ⟨mA,⟨ob,n,ne⟩,r,q,z,d⟩
end
structure Cls (K:PySem.W.Frag) (C:Addr):Prop where
 pg:PySem.W.plainGet K C Str.empty = true
 hd:PySem.W.hasDictIn K C = true
 po:PySem.W.plainOver K C = true
 sa:PySem.W.findIn K (.ref C) "__setattr__" = some (some (.builtin "object.__setattr__"))
theorem Cls.get {K:PySem.W.Frag} {C:Addr} (c:Cls K C) (f:Str):PySem.W.plainGet K C f = true:=c.pg
def jW (K:PySem.W.Frag) (C:Addr) (f:Str):Prop:=PySem.W.findIn K (.ref C) f = some none
theorem jW.taker {K:PySem.W.Frag} {C:Addr} {f:Str} (n:jW K C f):PySem.W.takerIn K C f = some none:=by
 unfold PySem.W.takerIn
 rw [show PySem.W.findIn K (.ref C) f = some none from n]
 rfl
structure Con (K:PySem.W.Frag) (C:Addr) (f:Str) (v:V) (u:Value):Prop where
 at_:PySem.W.findIn K (.ref C) f = some (some u)
 rel:aZ v u
 get:PySem.W.specialIn K u "__get__" = some none
 cp:PySem.W.copiedNames.contains f = false
structure Meth (K:PySem.W.Frag) (C:Addr) (m:Str) (f:Addr):Prop where
 at_:PySem.W.findIn K (.ref C) m = some (some (.ref f))
 fn:PySem.W.isFn K (.ref f) = true
 kp:PySem.W.keepIn K (.ref f) = true
section
variable {X:Cx} {pins:List (Addr × Obj)} {σ:St} {H:Hp} {s:Shared} {a C dx:Addr} {fs:List (Str × V)} {f:Str} {v:V} {A:Around} {E:Value → Shared → Prop}
theorem xG {b:Bool} {Q:Value → Shared → Prop} (I:Inv X pins σ H s) (e:H a = some (.ins C dx fs)) (c:Cls X.K C) (n:jW X.K C f) (l:fs.lookup f = some v)
  (h:∀ u s',Inv X pins σ H s' → aZ v u → Q u s'):wpAny (model X.prog X.w) A (getAttr (.ref a) f b) Q E s:=by
 obtain ⟨mA,O,r,_,_,_⟩:=nW I.hok e
 obtain ⟨u,hu,ru⟩:=jB.some_of (v:=v) (o:=mA f) (by rw [← l];exact r f)
 exact aED I.kIn O (c.get f) c.hd n hu (zS ru) (h u _ (I.tok _) ru)
theorem pQ {m:Str} {g:Addr} {pl:Sem Bool} {Q:Value × List Value → Shared → Prop} (I:Inv X pins σ H s) (e:H a = some (.ins C dx fs)) (c:Cls X.K C) (k:Meth X.K C m g) (l:fs.lookup m = none)
  (h:Q (.ref g,[.ref a]) s):wpAny (model X.prog X.w) A (getMethod (.ref a) m pl) Q E s:=by
 obtain ⟨mA,O,r,_,_,_⟩:=nW I.hok e
 have hn:mA m = none:=jB.none_of (by rw [← l];exact r m)
 exact aCJ I.kIn O (c.get m) k.at_ k.fn hn h
theorem wH {y:V} {u:Value} {Q:Unit → Shared → Prop} (I:Inv X pins σ H s) (e:H a = some (.ins C dx fs)) (c:Cls X.K C) (n:jW X.K C f) (hl:fs.length < 1000) (ry:aZ y u)
  (h:∀ s',Inv X pins σ (upd H a (.ins C dx (gH f y fs))) s' → Q () s'):wpAny (model X.prog X.w) A (setAttr (.ref a) f u) Q E s:=by
 obtain ⟨mA,O,r,wi,_,ho⟩:=nW I.hok e
 have hz:(fs.map (·.1)).length ≤ sizeLine:=by rw [List.length_map,sizeLine_eq];omega
 refine aDG I.kIn O c.sa c.po n.taker c.hd wi hz fun h' O' sb=>h _ ?_
 have hd:∃ o,h'.get? dx = some o:=let ⟨o,_,_,e',_⟩:=O'.ns;⟨o,e'⟩
 refine I.write (x:=a) (e:=dx) (by rw [e];exact True.intro) (.inr ho) (fun b q hb z=>(sb.2 b hb).trans z) hd ?_
 refine ⟨by rw [aO O.ne];exact ho,?_,O.ne,O'.obj,_,O'.ns,fun g=>?_,fun g hg=>?_⟩
 ·have:=mW f y fs;omega
 ·show jB ((gH f y fs).lookup g) (if g = f then some u else mA g)
  rw [dW]
  by_cases q:g = f
  ·rw [if_pos q,if_pos q];exact ry
  ·rw [if_neg q,if_neg q];exact r g
 ·by_cases q:g = f
  ·rw [q];exact (mF f y fs).1
  ·refine (mF f y fs).2 g (wi g fun z=>hg ?_)
   show (if g = f then some u else mA g) = none
   rw [if_neg q];exact z
theorem Inv.made (I:Inv X pins σ H s):Inv X pins σ (upd (upd H s.heap.objs.size (.own (s.heap.objs.size + 1))) (s.heap.objs.size + 1) (.ins C s.heap.objs.size []))
  { s with heap:=(s.heap.push PySem.W.emptyDict).push (PySem.W.instObj C s.heap.objs.size) }:=by
 have e1:(s.heap.push PySem.W.emptyDict).get? s.heap.objs.size = some PySem.W.emptyDict:=Heap.get?_push_size s.heap rfl
 have e2:((s.heap.push PySem.W.emptyDict).push (PySem.W.instObj C s.heap.objs.size)).get? (s.heap.objs.size + 1) = some (PySem.W.instObj C s.heap.objs.size):=by
  have:=Heap.get?_push_size (s.heap.push PySem.W.emptyDict) (o:=PySem.W.instObj C s.heap.objs.size) rfl
  rwa [Heap.size_push] at this
 have e3:(s.heap.push PySem.W.emptyDict).Ns s.heap.objs.size (fun _=>none):=⟨PySem.W.emptyDict,#[],_,e1,rfl,(fun e he=>absurd he (by simp)),fun _=>rfl⟩
 have I1:=I.laid (a:=s.heap.objs.size) (o:=.own (s.heap.objs.size + 1)) (h':=s.heap.push PySem.W.emptyDict) (t':=s.toks) (fun b u q=>Heap.get?_push_of_some _ q) (Nat.le_refl _) ⟨_,e1⟩
 refine I1.laid (a:=s.heap.objs.size + 1) (o:=.ins C s.heap.objs.size []) (t':=s.toks) (fun b u q=>Heap.get?_push_of_some _ q) (Nat.le_of_eq (Heap.size_push _ _)) ?_
 have ne:s.heap.objs.size ≠ s.heap.objs.size + 1:=Nat.ne_of_lt (Nat.lt_succ_self _)
 refine ⟨by rw [aO ne,aD],Nat.zero_le _,ne,e2,fun _=>none,(Heap.Ns1.of_empty e3).at fun o q=>Heap.get?_push_of_some _ q,fun _=>True.intro,fun y hy=>absurd rfl hy⟩
theorem aEH {prog:Program} {w:World} {env:Env} {e:Expr} {f:Str} {pos:Pos} {s:Shared} {Q:Value → Shared → Prop} (hb:attributeBase e f env (eval e env) = eval e env)
  (h:wpAny (model prog w) A (eval e env) (fun o s₁=>wpAny (model prog w) A (getAttr o f true) Q E s₁) E s):wpAny (model prog w) A (eval (.Attribute e f pos) env) Q E s :=
 Attribute_any_ h (by rw [arm_eval_Attribute,hb])
end
def aIA (K:PySem.W.Frag) (ta:TE) (f:Str):TE:=fun σ H Q=>ta σ H fun x H1=>∃ a C dx fs v,x = .ref a ∧ H1 a = some (.ins C dx fs) ∧ Cls K C ∧ jW K C f ∧ fs.lookup f = some v ∧ Q v H1
def aIF (K:PySem.W.Frag) (ta tv:TE) (f:Str):TS:=fun D σ H=>tv σ H fun y H1=>ta σ H1 fun x H2=>∃ a C dx fs,x = .ref a ∧ H2 a = some (.ins C dx fs) ∧ Cls K C ∧ jW K C f ∧ fs.length < 1000 ∧
 D.nx σ (upd H2 a (.ins C dx (gH f y fs)))
section
variable {X:Cx} {o e value:Expr} {f:Str} {pos pos' tpos:Pos} {ta tv:TE}
theorem wQ (he:PE X e ta) (hb:attributeBase e f X.env (eval e X.env) = eval e X.env):PE X (.Attribute e f pos) (aIA X.K ta f):=by
 intro pins s σ H Q I h
 refine aEH hb (thn (he pins s σ H _ I h) fun u s1 ⟨x,H1,I1,rx,a,C,dx,fs,v,ex,ea,c,n,l,q⟩=>?_)
 subst ex
 obtain rfl:u = Value.ref a:=rx
 exact xG I1 ea c n l fun u' s2 I2 ru=>⟨v,H1,I2,ru,q⟩
theorem aBM (ha:PE X o ta) (hv:PE X value tv) (hs:swapsWith value (some (.Attribute o f pos')) pos.line X.env = pure false):PS X (.Assign [.Attribute o f pos'] value pos) (aIF X.K ta tv f):=by
 intro pins s σ H D I h
 refine plainObj_wpAny_Assign_Attribute (thn (hv pins s σ H _ I h) fun u s1 ⟨y,H1,I1,ry,q⟩=>thn (ha pins s1 σ H1 _ I1 q) fun ov s2 ⟨x,H2,I2,rx,a,C,dx,fs,ex,ea,c,n,l,q2⟩=>?_) hs
 subst ex
 obtain rfl:ov = Value.ref a:=rx
 exact wH I2 ea c n l ry fun s3 I3=>⟨σ,_,I3,q2⟩
end
section
variable {X:Cx} {pins:List (Addr × Obj)} {σ:St} {H:Hp} {s:Shared} {A:Around} {E:Value → Shared → Prop} {Q:Value → Shared → Prop} {c:Value} {b:Bool}
inductive TyOf (K:PySem.W.Frag) (H:Hp):V → Value → Prop where
 | non:TyOf K H .non (.type "NoneType")
 | bl (x:Bool):TyOf K H (.bl x) (.type "bool")
 | int (i:Int):TyOf K H (.int i) (.type "int")
 | str (x:Str):TyOf K H (.str x) (.type "str")
 | flt (x:UInt64):TyOf K H (.flt x) (.type "float")
 | lst {a:Addr} {xs:List V} (e:H a = some (.lst xs)):TyOf K H (.ref a) (.type "list")
 | frz {a:Addr} {o:Obj} {xs:List V} (e:H a = some (.frz o (.lst xs))):TyOf K H (.ref a) (.type "list")
 | tup {a:Addr} {xs:List V} (e:H a = some (.tup xs)):TyOf K H (.ref a) (.type "tuple")
 | dK {a:Addr} {kvs:List (Key × V)} (e:H a = some (.dK kvs)):TyOf K H (.ref a) (.type "dict")
 | dT {a:Addr} {kvs:List (List Key × V)} (e:H a = some (.dT kvs)):TyOf K H (.ref a) (.type "dict")
 | ins {a C dx:Addr} {fs:List (Str × V)} (e:H a = some (.ins C dx fs)) (cl:Cls K C) (ha:PySem.W.findIn K (.ref C) "__class__" = some (some (.builtin "object.__class__")))
   (hn:PySem.W.specialIn K (.builtin "object.__class__") "__get__" = some (some (.builtin "getset_descriptor.__get__"))) (htk:PySem.W.takesIn K (.builtin "object.__class__") = some true)
   (hm:PySem.W.mroIn K C (.type "object") = some true):TyOf K H (.ref a) (.ref C)
theorem zP {x:V} {u t:Value} (I:Inv X pins σ H s) (rx:aZ x u) (ty:TyOf X.K H x t) (e:PySem.W.kitOne X.K t c = some b) (h:∀ tk,Q (.bool b) { s with toks:=tk }) :
  wpAny (model X.prog X.w) A (call (.builtin "isinstance") [u,c]) Q E s:=by
 cases ty with
 | non=>cases (show u = Value.none from rx);exact PySem.W.kia_one PySem.W.kitx_none I.kIn True.intro e (fun z=>nomatch z) h
 | bl y=>cases (show u = Value.bool y from rx);exact PySem.W.kia_one PySem.W.kitx_bool I.kIn True.intro e (fun z=>nomatch z) h
 | int i=>obtain ⟨t,q⟩:=(show ∃ t,u = Value.int i t from rx);cases q;exact PySem.W.kia_one PySem.W.kitx_int I.kIn True.intro e (fun z=>nomatch z) h
 | str y=>obtain ⟨t,q⟩:=(show ∃ t,u = Value.str y t from rx);cases q;exact PySem.W.kia_one PySem.W.kitx_str I.kIn True.intro e (fun z=>nomatch z) h
 | flt y=>obtain ⟨t,q⟩:=(show ∃ t,u = Value.float y t from rx);cases q;exact PySem.W.kia_one PySem.W.kitx_float I.kIn True.intro e (fun z=>nomatch z) h
 | @lst a xs ea =>
  cases (show u = Value.ref a from rx)
  obtain ⟨_,_,n,_,h1⟩:=(show bX X.prog X.w H s.heap a (.lst xs) from I.hok a _ ea)
  exact PySem.W.kia_one PySem.W.kitx_list I.kIn ⟨_,h1,rfl⟩ e (fun z=>nomatch z) h
 | @frz a ob xs ea =>
  cases (show u = Value.ref a from rx)
  obtain ⟨_,_,_,n,_,h1⟩:=(show bX X.prog X.w H s.heap a (.frz ob (.lst xs)) from I.hok a _ ea)
  exact PySem.W.kia_one PySem.W.kitx_list I.kIn ⟨_,h1,rfl⟩ e (fun z=>nomatch z) h
 | @tup a xs ea =>
  cases (show u = Value.ref a from rx)
  obtain ⟨_,_,_,p⟩:=(show bX X.prog X.w H s.heap a (.tup xs) from I.hok a _ ea)
  obtain ⟨o,h1,h2,_⟩:=p
  exact PySem.W.kia_one PySem.W.kitx_tuple I.kIn ⟨o,h1,h2⟩ e (fun z=>nomatch z) h
 | @dK a kvs ea =>
  cases (show u = Value.ref a from rx)
  obtain ⟨_,_,vs,_,p⟩:=(show bX X.prog X.w H s.heap a (.dK kvs) from I.hok a _ ea)
  obtain ⟨o,es,ep,h1,h2,_⟩:=p
  exact PySem.W.kia_one PySem.W.kitx_dict I.kIn ⟨o,h1,h2.1⟩ e (fun z=>nomatch z) h
 | @dT a kvs ea =>
  cases (show u = Value.ref a from rx)
  obtain ⟨_,_,xs,_,o,es,ep,h1,h2,_⟩:=(show bX X.prog X.w H s.heap a (.dT kvs) from I.hok a _ ea)
  exact PySem.W.kia_one PySem.W.kitx_dict I.kIn ⟨o,h1,h2.1⟩ e (fun z=>nomatch z) h
 | @ins a C dx fs ea cl ha hn htk hm =>
  cases (show u = Value.ref a from rx)
  obtain ⟨mA,O,_⟩:=nW I.hok ea
  obtain ⟨od,J,_⟩:=O.look
  exact PySem.W.kia_one (PySem.W.kitx_own (cl.get _) cl.hd ha hn htk hm) I.kIn J e (fun z=>nomatch z) h
end
end L2
namespace L2
open PySem PySem.Spec PyProof.Rows
structure Room (k:Nat) (A:Around):Prop where
 hd:A.handled = none
 dp:A.depth + 3 * k + 5 < recursionLimit
 un:A.units + 16 * k + 200 < cLine
theorem Room.mono {j k:Nat} {A:Around} (r:Room k A) (h:j ≤ k):Room j A:=⟨r.hd,by have:=r.dp;omega,by have:=r.un;omega⟩
theorem Room.deeper {k:Nat} {A:Around} (r:Room (k + 1) A) (env:Env):Room k (A.deeper env) :=
 ⟨r.hd,by have:=r.dp;show A.depth + 1 + 3 * k + 5 < _;omega,by have:=r.un;show A.units + 3 + 16 * k + 200 < _;omega⟩
theorem wZ {A:Around} {C:Addr} {us:List Value} {kw:List (Str × Value)}:(A.under (.builtin "type.__call__" ⟨.ref C :: us,kw⟩)).depth = A.depth + 1:=by
 first | rfl | simp [Around.under,Code.weight,Code.isCreation,Code.isGuard,Code.isCaller,Code.frames,Code.isFrame,guardIds]
theorem wY {A:Around} {C:Addr} {us:List Value} {kw:List (Str × Value)}:(A.under (.builtin "type.__call__" ⟨.ref C :: us,kw⟩)).units = A.units + 1:=by
 first | rfl | simp [Around.under,Code.cUnits,Code.frames,Code.isFrame]
theorem Room.make {k:Nat} {A:Around} (r:Room (k + 1) A) (C:Addr) (us:List Value) (kw:List (Str × Value)):Room k (A.under (.builtin "type.__call__" ⟨.ref C :: us,kw⟩)) :=
 ⟨r.hd,by have:=r.dp;rw [wZ];omega,by have:=r.un;rw [wY];omega⟩
theorem Room.depth {k:Nat} {A:Around} (r:Room k A):A.depth < recursionLimit:=by have:=r.dp;omega
theorem Room.units {k:Nat} {A:Around} (r:Room k A):A.units + 64 < cLine:=by have:=r.un;omega
def aEY:TA:=fun _ H Q=>Q [] H
def aGM (ta:TE) (tr:TA):TA:=fun σ H Q=>ta σ H fun x H1=>tr σ H1 fun xs H2=>Q (x :: xs) H2
section
variable {X:Cx} {e:Expr} {es:List Expr} {te:TE} {t:TA} {pos:Pos}
theorem aF:PA X [] aEY:=fun _ _ _ _ H Q I h=>Calls.spliced_nil ⟨[],H,I,.nil,h⟩
theorem aA (ha:PE X e te) (hr:PA X es t) (hs:starEach (e :: es) X.env = (false,eval e X.env) :: starEach es X.env:=by rfl):PA X (e :: es) (aGM te t):=by
 intro pos pins s σ H Q I h
 rw [hs]
 show wpAny _ _ (spliced ((false,eval e X.env) :: backTo pos (starEach es X.env))) _ _ s
 refine Calls.spliced_cons (thn (ha pins s σ H _ I h) fun u s1 ⟨x,H1,I1,r1,q1⟩=>?_)
 exact thn (hr pos pins s1 σ H1 _ I1 q1) fun us s2 ⟨xs,H2,I2,r2,q2⟩=>⟨x :: xs,H2,I2,.cons r1 r2,q2⟩
def aHS (t:TA):TE:=fun σ H Q=>t σ H fun xs H1=>xs.length ≤ sizeLine ∧ ∀ p,H1 p = none → Q (.ref p) (upd H1 p (.tup xs))
def aHX (t:TA):TE:=fun σ H Q=>t σ H fun xs H1=>xs.length ≤ sizeLine ∧ ∀ p,H1 p = none → Q (.ref p) (upd H1 p (.lst xs))
theorem dU {x1} (h:PA X es t):PE X (.Tuple es x1 pos) (aHS t):=by
 intro pins s σ H Q I hq
 refine wpAny_Tuple_spliced (thn (h pos pins s σ H _ I hq) fun us s1 ⟨xs,H1,I1,r,z,q⟩=>⟨by rw [← r.length];exact z,?_⟩)
 have hf:H1 s1.heap.objs.size = none:=I1.hok.fresh (Nat.le_refl _)
 refine ⟨.ref s1.heap.objs.size,upd H1 s1.heap.objs.size (.tup xs),I1.laid (t':=s1.toks) (fun b u e=>Heap.get?_push_of_some _ e) (Nat.le_refl _) ?_,rfl,q _ hf⟩
 exact ⟨z,us,r,⟨_,Heap.get?_push_size _ rfl,rfl,_,rfl,rfl⟩⟩
theorem fA (h:PA X es t):PE X (.List es pos) (aHX t):=by
 intro pins s σ H Q I hq
 refine wpAny_List_spliced (thn (h pos pins s σ H _ I hq) fun us s1 ⟨xs,H1,I1,r,z,q⟩=>⟨by rw [← r.length];exact z,?_⟩)
 have hf:H1 s1.heap.objs.size = none:=I1.hok.fresh (Nat.le_refl _)
 refine ⟨.ref s1.heap.objs.size,upd H1 s1.heap.objs.size (.lst xs),I1.laid (t':=s1.toks) (fun b u e=>Heap.get?_push_of_some _ e) (Nat.le_refl _) ?_,rfl,q _ hf⟩
 exact ⟨z,us,0,r,Heap.get?_push_size _ rfl⟩
end
abbrev Sp:=List V → Hp → VK → XK → Prop
abbrev CXT:=List Env → Hp → Shared → XK → Value → Shared → Prop
structure Env0 (P:Program) (w:World) (K:PySem.W.Frag) (mg:Str → Option Value) (base:Heap) (A:Around) (outer:List Env) (s:Shared) (H:Hp):Prop where
 frames:A.frames = some outer
 mod:Mod K mg base
 bs:∀ b o,base.get? b = some o → s.heap.get? b = some o ∧ H b = none
 bsz:base.objs.size ≤ s.heap.objs.size
 funs:s.heap.FunFrames base outer
 frf:∀ b ∈ frs outer,H b = none
 hok:HOk P w H s.heap
 bare:AllBare s.gens
def CE (outer:List Env) (P:Program) (w:World) (H:Hp) (s:Shared) (Q:VK) (u:Value) (s':Shared):Prop :=
 ∃ v H',s'.os = s.os ∧ AllBare s'.gens ∧ Un (frs outer) [] H H' s.heap s'.heap ∧ HOk P w H' s'.heap ∧ aZ v u ∧ Q v H'
def CR (CX:CXT) (outer:List Env) (P:Program) (w:World) (H:Hp) (s:Shared) (Q:VK) (E:XK) (r:Result) (s':Shared):Prop :=
 match r with
 | .ok (.ret u)=>CE outer P w H s Q u s'
 | .ok _=>False
 | .error e=>CX outer H s E e s'
structure FnOk (P:Program) (w:World) (K:PySem.W.Frag) (mg:Str → Option Value) (base:Heap) (CX:CXT) (k:Nat) (f:Addr) (fd:FuncData) (ps:List Str) (sp:Sp):Prop where
 len:∀ vs H Q E,sp vs H Q E → vs.length = ps.length
 run:∀ (A:Around) (outer:List Env) (s:Shared) (H:Hp) (args:Args) (us:List Value) (vs:List V) (Q:VK) (E:XK),Room k A → Env0 P w K mg base A outer s H → BindsTo s fd args (ps.zip us) → bC vs us → sp vs H Q E →
  codeAny (model P w) A (.call (.ref f) args) (CR CX outer P w H s Q E) s
theorem FnOk.imp {P:Program} {w:World} {K:PySem.W.Frag} {mg:Str → Option Value} {base:Heap} {CX:CXT} {k:Nat} {f:Addr} {fd:FuncData} {ps:List Str} {sp sp':Sp} (F:FnOk P w K mg base CX k f fd ps sp)
  (h:∀ vs H Q E,sp' vs H Q E → sp vs H Q E):FnOk P w K mg base CX k f fd ps sp' :=
 ⟨fun vs H Q E q=>F.len vs H Q E (h _ _ _ _ q),fun A outer s H args us vs Q E hr he hb hv hs=>F.run A outer s H args us vs Q E hr he hb hv (h _ _ _ _ hs)⟩
theorem Env0.make {P:Program} {w:World} {K:PySem.W.Frag} {mg:Str → Option Value} {base:Heap} {A:Around} {outer:List Env} {s:Shared} {H:Hp} (e:Env0 P w K mg base A outer s H) (C:Addr) (us:List Value) (kw:List (Str × Value)) :
  Env0 P w K mg base (A.under (.builtin "type.__call__" ⟨.ref C :: us,kw⟩)) outer s H:=⟨by first | exact e.frames | (simpa [Around.under,Code.envs,Code.isFrame,pushEnvs] using e.frames),e.mod,e.bs,e.bsz,e.funs,e.frf,e.hok,e.bare⟩
section
variable {X:Cx} {pins:List (Addr × Obj)} {σ:St} {H:Hp} {s s':Shared}
theorem Inv.env0 (I:Inv X pins σ H s):Env0 X.prog X.w X.K X.mg X.base X.A X.stack s H :=
 ⟨I.ok.frames,I.ok.mod,I.bs,Nat.le_trans I.ok.bsz I.sz,I.stack,I.stkFree,I.hok,I.bare⟩
theorem Inv.after {Q:VK} {u:Value} (I:Inv X pins σ H s) (h:CE X.stack X.prog X.w H s Q u s'):EP X pins σ Q u s':=by
 obtain ⟨v,H',os,bare,un,hok,r,q⟩:=h
 obtain ⟨hh,g,d,t,os'⟩:=s'
 obtain rfl:os' = s.os:=os
 exact ⟨v,H',I.call (h':=hh) (g':=g) (d':=d) (t':=t) (ch:=[]) un hok bare (fun b z=>absurd z (by simp)),r,q⟩
end
def aER (sp:Sp) (dvs:List V) (E:XK) (t:TA):TE:=fun σ H Q=>t σ H fun vs H1=>sp (vs ++ dvs) H1 Q E
def xR (C:Addr) (m:Str) (sp:Sp) (dvs:List V) (E:XK) (ta:TE) (t:TA):TE:=fun σ H Q=>ta σ H fun x H1=>∃ a dx fs,x = .ref a ∧ H1 a = some (.ins C dx fs) ∧ fs.lookup m = none ∧
 t σ H1 fun vs H2=>sp (x :: (vs ++ dvs)) H2 Q E
def aEP (C:Addr) (sp:Sp) (dvs:List V) (E:XK) (t:TA):TE:=fun σ H Q=>t σ H fun vs H1=>∀ x dx,H1 x = none → H1 dx = none → dx ≠ x →
 sp (.ref x :: (vs ++ dvs)) (upd (upd H1 dx (.own x)) x (.ins C dx [])) (fun v H2=>v = .non ∧ Q (.ref x) H2) E
def fE (K:PySem.W.Frag) (fd:FuncData) (ps:List Str) (ds:List Value):Prop :=
 ∀ (s:Shared) (us:List Value),K.In s.heap → (us ++ ds).length = ps.length → BindsTo s fd ⟨us,[]⟩ (ps.zip (us ++ ds))
theorem fE.all {K:PySem.W.Frag} {fd:FuncData} {ps:List Str} (h:∀ us:List Value,us.length = ps.length → bindArgs fd ⟨us,[]⟩ = pure (ps.zip us)):fE K fd ps []:=fun s us _ hl=>by
 rw [List.append_nil] at hl ⊢
 exact .of_eq (h us hl)
def lC (CX:CXT) (X:Cx) (E:XK):Prop:=∀ (pins:List (Addr × Obj)) (σ:St) (H:Hp) (s:Shared) (e:Value) (s':Shared),Inv X pins σ H s → CX X.stack H s E e s' → X.xe e s'
section
variable {X:Cx} {CX:CXT} {k:Nat} {f C:Addr} {fd:FuncData} {ps:List Str} {sp:Sp} {dvs:List V} {ds:List Value} {E:XK} {x m:Str} {p pos apos:Pos} {e o:Expr} {es:List Expr} {ta:TE} {t:TA}
theorem wK {pins:List (Addr × Obj)} {σ:St} {H:Hp} {s:Shared} {Q:VK} {us:List Value} {vs:List V} (F:FnOk X.prog X.w X.K X.mg X.base CX k f fd ps sp) (hr:Room k X.A) (hb:fE X.K fd ps ds) (hd:bC dvs ds) (hx:lC CX X E)
  (I:Inv X pins σ H s) (r:bC vs us) (h:sp (vs ++ dvs) H Q E):wpAny (model X.prog X.w) X.A (call (.ref f) us) (EP X pins σ Q) X.xe s:=by
 have r2:bC (vs ++ dvs) (us ++ ds):=r.append hd
 have hl:(us ++ ds).length = ps.length:=by rw [← r2.length];exact F.len _ _ _ _ h
 refine wpAny_call (codeAny_mono (F.run X.A X.stack s H ⟨us,[]⟩ (us ++ ds) (vs ++ dvs) Q E hr I.env0 (hb s us I.kIn hl) r2 h) fun r s' hq=>?_)
 cases r with
 | error e=>exact hx pins σ H s e s' I hq
 | ok fl =>
  cases fl with
  | ret u=>exact I.after hq
  | next=>exact False.elim hq
  | brk=>exact False.elim hq
  | cont=>exact False.elim hq
theorem aDQ (F:FnOk X.prog X.w X.K X.mg X.base CX k f fd ps sp) (hr:Room k X.A) (hg:Gl X x) (hm:X.mg x = some (.ref f)) (hk:PySem.W.keepIn X.K (.ref f) = true) (hb:fE X.K fd ps ds) (hd:bC dvs ds) (hx:lC CX X E)
  (ha:PA X (e :: es) t) (hdb:(x == ("__debug__":Str)) = false:=by decide) (he:starEach (e :: es) X.env = (false,eval e X.env) :: starEach es X.env:=by rfl) (hpl:(backTo pos (starEach es X.env)).any (·.1) = false:=by rfl) :
  PE X (.Call (.Name x p) (e :: es) [] pos) (aER sp dvs E t):=by
 intro pins s σ H Q I h
 refine wpAny_Call_Name_kw (tK I hg hm ?_ hdb)
 refine PySem.W.callWith_K (h₀:=X.base) I.ok.mod.kin hk (thn (ha pos pins s σ H _ I h) fun us s1 ⟨vs,H1,I1,r,q⟩=>⟨I1.kIn,?_⟩) he hpl
 exact wK F hr hb hd hx I1 r q
theorem aDN {pl:Sem Bool} (he:PE X o ta) (c:Cls X.K C) (hm:Meth X.K C m f) (F:FnOk X.prog X.w X.K X.mg X.base CX k f fd ps sp) (hr:Room k X.A) (hb:fE X.K fd ps ds) (hd:bC dvs ds) (hx:lC CX X E) (ha:PA X (e :: es) t)
  (hst:starEach (e :: es) X.env = (false,eval e X.env) :: starEach es X.env:=by rfl) (hpl:(backTo pos (starEach es X.env)).any (·.1) = false:=by rfl)
  (ht:eval (.Call (.Attribute o m apos) (e :: es) [] pos) X.env = (do
   let ov ← eval o X.env
   standAt apos.atName
   let (f,first) ← holding [ov] (getMethod ov m pl)
   callWith pos f first (backTo pos (starEach (e :: es) X.env)) (backToKw pos (keywordEach [] X.env))):=by rfl) :
  PE X (.Call (.Attribute o m apos) (e :: es) [] pos) (xR C m sp dvs E ta t):=by
 intro pins s σ H Q I h
 refine PySem.W.methodCall_KW (pl:=pl) (thn (he pins s σ H _ I h) fun u s1 ⟨x,H1,I1,rx,a,dx,fs,ex,ea,l,q⟩=>?_) ht
 subst ex
 obtain rfl:u = Value.ref a:=rx
 refine pQ I1 ea c hm l ?_
 refine PySem.W.callWith_K (first:=[.ref a]) (h₀:=X.base) I.ok.mod.kin hm.kp (thn (ha pos pins s1 σ H1 _ I1 q) fun us s2 ⟨vs,H2,I2,r,q2⟩=>⟨I2.kIn,?_⟩) hst hpl
 exact wK (us:=.ref a :: us) (vs:=.ref a :: vs) F hr hb hd hx I2 (.cons rfl r) q2
theorem aBO {pl:Sem Bool} (he:PE X o ta) (c:Cls X.K C) (hm:Meth X.K C m f) (F:FnOk X.prog X.w X.K X.mg X.base CX k f fd ps sp) (hr:Room k X.A) (hb:fE X.K fd ps ds) (hd:bC dvs ds) (hx:lC CX X E)
  (ht:eval (.Call (.Attribute o m apos) [] [] pos) X.env = (do
   let ov ← eval o X.env
   standAt apos.atName
   let (f,first) ← holding [ov] (getMethod ov m pl)
   callWith pos f first (backTo pos (starEach [] X.env)) (backToKw pos (keywordEach [] X.env))):=by rfl) :
  PE X (.Call (.Attribute o m apos) [] [] pos) (xR C m sp dvs E ta aEY):=by
 intro pins s σ H Q I h
 refine PySem.W.methodCall_KW (pl:=pl) (thn (he pins s σ H _ I h) fun u s1 ⟨x,H1,I1,rx,a,dx,fs,ex,ea,l,q⟩=>?_) ht
 subst ex
 obtain rfl:u = Value.ref a:=rx
 refine pQ I1 ea c hm l ?_
 exact PySem.W.callWith_K0 (first:=[.ref a]) I1.kIn hm.kp (wK (us:=[.ref a]) (vs:=[.ref a]) F hr hb hd hx I1 (.cons rfl .nil) q)
structure Mk (K:PySem.W.Frag) (C f:Addr):Prop where
 makes:PySem.W.makesIn K C = true
 init:PySem.W.findIn K (.ref C) "__init__" = some (some (.ref f))
 fn:PySem.W.isFn K (.ref f) = true
 kp:PySem.W.keepIn K (.ref C) = true
theorem aBH {pins:List (Addr × Obj)} {σ:St} {H:Hp} {s:Shared} {Q:VK} {us:List Value} {vs:List V} (M:Mk X.K C f) (F:FnOk X.prog X.w X.K X.mg X.base CX k f fd ps sp) (hr:Room (k + 1) X.A) (hb:fE X.K fd ps ds) (hd:bC dvs ds)
  (hx:lC CX X E) (I:Inv X pins σ H s) (r:bC vs us)
  (h:∀ x dx,H x = none → H dx = none → dx ≠ x → sp (.ref x :: (vs ++ dvs)) (upd (upd H dx (.own x)) x (.ins C dx [])) (fun v H2=>v = .non ∧ Q (.ref x) H2) E) :
  wpAny (model X.prog X.w) X.A (call (.ref C) us) (EP X pins σ Q) X.xe s:=by
 have hq:=h (s.heap.objs.size + 1) s.heap.objs.size (I.hok.fresh (Nat.le_succ _)) (I.hok.fresh (Nat.le_refl _)) (Nat.ne_of_lt (Nat.lt_succ_self _))
 have I2:=Inv.made (C:=C) I
 have r2:bC (V.ref (s.heap.objs.size + 1) :: (vs ++ dvs)) (Value.ref (s.heap.objs.size + 1) :: (us ++ ds)):=.cons rfl (r.append hd)
 have hl:(Value.ref (s.heap.objs.size + 1) :: us ++ ds).length = ps.length:=by
  have e:=r2.length
  rw [F.len _ _ _ _ hq] at e
  exact e.symm
 refine wpAny_call (aBW (f:=f) I.kIn M.makes M.init (beq_iff_eq.mp M.fn) (codeAny_mono (F.run _ X.stack _ _ ⟨Value.ref (s.heap.objs.size + 1) :: us,[]⟩ (Value.ref (s.heap.objs.size + 1) :: (us ++ ds)) _ _ E (hr.make C us [])
  (I2.env0.make C us []) (hb _ (Value.ref (s.heap.objs.size + 1) :: us) I2.kIn hl) r2 hq) fun r s' hq'=>?_))
 cases r with
 | error e=>exact hx pins σ _ _ e s' I2 hq'
 | ok fl =>
  cases fl with
  | ret u =>
   obtain ⟨v,H',I3,rv,ev,q3⟩:=I2.after hq'
   subst ev
   exact ⟨rv,⟨V.ref (s.heap.objs.size + 1),H',I3,rfl,q3⟩⟩
  | next=>exact False.elim hq'
  | brk=>exact False.elim hq'
  | cont=>exact False.elim hq'
theorem aDO (M:Mk X.K C f) (F:FnOk X.prog X.w X.K X.mg X.base CX k f fd ps sp) (hr:Room (k + 1) X.A) (hg:Gl X x) (hm:X.mg x = some (.ref C)) (hb:fE X.K fd ps ds) (hd:bC dvs ds) (hx:lC CX X E)
  (ha:PA X (e :: es) t) (hdb:(x == ("__debug__":Str)) = false:=by decide) (he:starEach (e :: es) X.env = (false,eval e X.env) :: starEach es X.env:=by rfl) (hpl:(backTo pos (starEach es X.env)).any (·.1) = false:=by rfl) :
  PE X (.Call (.Name x p) (e :: es) [] pos) (aEP C sp dvs E t):=by
 intro pins s σ H Q I h
 refine wpAny_Call_Name_kw (tK I hg hm ?_ hdb)
 refine PySem.W.callWith_K (h₀:=X.base) I.ok.mod.kin M.kp (thn (ha pos pins s σ H _ I h) fun us s1 ⟨vs,H1,I1,r,q⟩=>⟨I1.kIn,?_⟩) he hpl
 exact aBH M F hr hb hd hx I1 r q
end
section
variable {X:Cx} {CX:CXT} {k:Nat} {f C:Addr} {fd:FuncData} {ps ks:List Str} {sp:Sp} {E:XK} {x m:Str} {p pos apos kpos:Pos} {e o:Expr} {es:List Expr} {kws:List Keyword} {te ta:TE} {t tk:TA} {nm:Option Str}
structure KBinds (K:PySem.W.Frag) (fd:FuncData) (ps ks:List Str) (g:List Value → List Value → List Value) (gV:List V → List V → List V):Prop where
 to:∀ (s:Shared) (us ws:List Value),K.In s.heap → (g us ws).length = ps.length → BindsTo s fd ⟨us,ks.zip ws⟩ (ps.zip (g us ws))
 rel:∀ {vs:List V} {us:List Value} {zs:List V} {ws:List Value},bC vs us → bC zs ws → bC (gV vs zs) (g us ws)
variable {g:List Value → List Value → List Value} {gV:List V → List V → List V}
end
structure FnScope (N P:List Str) (sc:Scope):Prop where
 kind:sc.kind = .function
 co:sc.isCoroutine = false
 gen:sc.isGenerator = false
 nd:N.Nodup
 pre:N.take P.length = P
 par:∀ x ∈ P,sc.names.lookup x = some .local ∨ sc.names.lookup x = some .cell
 nofree:∀ y ∈ sc.names,y.2 ≠ .free
theorem sH {kindOf:Str → Option NameKind} {x:Str}:∀ {binds:List (Str × Value)} {m:Str → Option Value},(∀ v,(x,v) ∉ binds) → bindL kindOf binds m x = m x
 | [],_,_=>rfl
 | (n,v) :: r,m,h=>by
  unfold bindL
  rw [sH fun w hw=>h w (List.mem_cons_of_mem _ hw)]
  split
  ·have:x ≠ n:=by rintro rfl;exact h v List.mem_cons_self
   simp [this]
  ·rfl
theorem sJ {kindOf:Str → Option NameKind} {x:Str}:∀ {binds:List (Str × Value)} {m:Str → Option Value},(∀ v,(x,v) ∉ binds) → bindC kindOf binds m x = m x
 | [],_,_=>rfl
 | (n,v) :: r,m,h=>by
  unfold bindC
  rw [sJ fun w hw=>h w (List.mem_cons_of_mem _ hw)]
  split
  ·rfl
  ·have:x ≠ n:=by rintro rfl;exact h v List.mem_cons_self
   simp [this]
theorem sI {kindOf:Str → Option NameKind} {x:Str} {v:Value}:∀ {P:List Str} {vs:List Value} {i:Nat} {m:Str → Option Value},P.Nodup → P[i]? = some x → vs[i]? = some v → kindOf x = some .local →
  bindL kindOf (P.zip vs) m x = some v
 | [],_,_,_,_,h,_,_=>by simp at h
 | _ :: _,[],_,_,_,_,h,_=>by simp at h
 | p :: P,w :: vs,0,m,nd,h1,h2,hk=>by
  simp at h1 h2;subst h1;subst h2
  show bindL kindOf ((p,w) :: P.zip vs) m p = _
  unfold bindL
  rw [sH fun v hv=>(List.nodup_cons.mp nd).1 (List.of_mem_zip hv).1,if_pos hk]
  simp
 | p :: P,w :: vs,i + 1,m,nd,h1,h2,hk=>by
  show bindL kindOf ((p,w) :: P.zip vs) m x = _
  unfold bindL
  exact sI (i:=i) (List.nodup_cons.mp nd).2 (by simpa using h1) (by simpa using h2) hk
theorem sK {kindOf:Str → Option NameKind} {x:Str} {v:Value}:∀ {P:List Str} {vs:List Value} {i:Nat} {m:Str → Option Value},P.Nodup → P[i]? = some x → vs[i]? = some v → kindOf x ≠ some .local →
  bindC kindOf (P.zip vs) m x = some v
 | [],_,_,_,_,h,_,_=>by simp at h
 | _ :: _,[],_,_,_,_,h,_=>by simp at h
 | p :: P,w :: vs,0,m,nd,h1,h2,hk=>by
  simp at h1 h2;subst h1;subst h2
  show bindC kindOf ((p,w) :: P.zip vs) m p = _
  unfold bindC
  rw [sJ fun v hv=>(List.nodup_cons.mp nd).1 (List.of_mem_zip hv).1,if_neg hk]
  simp
 | p :: P,w :: vs,i + 1,m,nd,h1,h2,hk=>by
  show bindC kindOf ((p,w) :: P.zip vs) m x = _
  unfold bindC
  exact sK (i:=i) (List.nodup_cons.mp nd).2 (by simpa using h1) (by simpa using h2) hk
def iD (N:List Str) (vs:List V):St:=vs.map some ++ List.replicate (N.length - vs.length) none
def nP (CX:CXT) (P:Program) (w:World) (K:PySem.W.Frag) (mg:Str → Option Value) (base:Heap) (N:List Str) (qual:Str) (scope:Scope) (f:Addr) (cd:Value) (A:Around) (outer:List Env) (s:Shared) (H:Hp) (E:XK):Cx where
 prog:=P
 w:=w
 K:=K
 mg:=mg
 base:=base
 A:=A.deeper (envOfC qual scope s.heap.objs.size f cd)
 N:=N
 s₀:=s
 H₀:=H
 env:=envOfC qual scope s.heap.objs.size f cd
 outer:=outer
 stack:=envOfC qual scope s.heap.objs.size f cd :: outer
 ex:=[]
 calm:=true
 fn:=fun _=>true
 pn:=[]
 xe:=fun e s'=>wpAny (model P w) (A.deeper (envOfC qual scope s.heap.objs.size f cd)) (leaving (envOfC qual scope s.heap.objs.size f cd) e) (fun _ s''=>CX outer H s E e s'') (fun e' s''=>CX outer H s E e' s'') s'
theorem vU {sc:Scope} {n:Nat} {x:Str} (h:sc.names.lookup x = some .cell):∃ c,(cellsFrom n sc.names []).lookup x = some c:=by
 have q:=PySem.W.cellsFrom_some sc.names n [] (.inl h)
 exact Option.isSome_iff_exists.mp q
theorem zQ {CX:CXT} {P:Program} {w:World} {K:PySem.W.Frag} {mg:Str → Option Value} {base:Heap} {N ps:List Str} {qual:Str} {scope:Scope} {f:Addr} {cd:Value} {A:Around} {outer:List Env} {s s1:Shared} {H:Hp} {E:XK} {us:List Value} {vs:List V}
  (S:FnScope N ps scope) (hd:A.handled = none) (e0:Env0 P w K mg base A outer s H) (hl:vs.length = ps.length) (r:bC vs us)
  (x:InCallC s s.heap.objs.size (bindL (envOfC qual scope s.heap.objs.size f cd).kindOf (ps.zip us) fun _=>none) (cellsFrom (s.heap.objs.size + 1) scope.names []) (bindC (envOfC qual scope s.heap.objs.size f cd).kindOf (ps.zip us) fun _=>none) s1) :
  Inv (nP CX P w K mg base N qual scope f cd A outer s H E) [] (iD N vs) H s1:=by
 have hpl:ps.length ≤ N.length:=by have:=congrArg List.length S.pre;rw [List.length_take] at this;omega
 obtain ⟨h1,tk,rfl,hk⟩:=x.done
 have noA:∀ b:Addr,b ∉ (nP CX P w K mg base N qual scope f cd A outer s H E).ex:=fun b z=>absurd (show b ∈ ([]:List Addr) from z) (by simp)
 refine ⟨⟨e0.mod,S.kind,rfl,rfl,Nat.le_refl _,fun y z c h1 h2=>?_,fun y hy=>?_,fun y c _ h=>?_,fun _=>hd,Around.frames_deeper e0.frames,.inr ⟨rfl,rfl⟩,fun b z=>absurd z (noA b),e0.bs,e0.bsz,fun b _ _=>noA b,fun b z=>absurd z (noA b),e0.funs,e0.frf⟩,
  rfl,e0.bare,Un.kept hk,⟨_,x.toInCall.ns,fun i y v h1 h2 h3=>?_⟩,fun y c h=>⟨_,x.cell y c h⟩,e0.hok.fresh (Nat.le_refl _),fun y c h=>?_,fun p hp=>absurd (show p ∈ ([]:List (Addr × Obj)) from hp) (by simp),e0.hok.kept hk,?_⟩
 ·exact name_of_addr x.apart (PySem.mem_of_lookup h1) (PySem.mem_of_lookup h2)
 ·have hy:scope.names.lookup y = some .cell ∨ scope.names.lookup y = some .free:=hy
  rcases hy with hy | hy
  ·exact vU hy
  ·exact absurd rfl (S.nofree _ (PySem.mem_of_lookup hy))
 ·exact Nat.le_of_lt (x.above y c (PySem.mem_of_lookup h))
 ·have hi:i < vs.length:=by
   unfold iD at h2
   by_cases hi:i < vs.length
   ·exact hi
   ·rw [List.getElem?_append_right (by simpa using hi)] at h2
    rw [List.getElem?_replicate] at h2
    split at h2 <;> cases h2
  have ha:vs[i]? = some v:=by
   unfold iD at h2
   rw [List.getElem?_append_left (by simpa using hi),List.getElem?_map] at h2
   cases e:vs[i]? with
   | none=>rw [e] at h2;cases h2
   | some a=>rw [e] at h2;cases h2;rfl
  obtain ⟨u,hu,rv⟩:=r.get ha
  have hp:ps[i]? = some y:=by
   rw [← S.pre,List.getElem?_take_of_lt (by omega)];exact h1
  have ndP:ps.Nodup:=by rw [← S.pre];exact S.nd.sublist (List.take_sublist _ _)
  refine ⟨u,rv,?_⟩
  rcases S.par y (List.mem_of_getElem? hp) with k | k
  ·exact .inl ⟨k,sI ndP hp hu k⟩
  ·obtain ⟨c,e⟩:=vU (n:=s.heap.objs.size + 1) k
   refine .inr ⟨.inl k,c,e,?_⟩
   have q:=x.cell y c e
   rw [sK ndP hp hu (by show scope.names.lookup y ≠ _;rw [k];decide)] at q
   exact q
 ·exact e0.hok.fresh (Nat.le_of_lt (x.above y c (PySem.mem_of_lookup h)))
 ·unfold iD
  show _ = N.length
  rw [List.length_append,List.length_map,List.length_replicate]
  omega
theorem aHL {CX:CXT} {P:Program} {w:World} {K:PySem.W.Frag} {mg:Str → Option Value} {base:Heap} {k:Nat} {f:Addr} {name qual:Str} {params:Arguments} {body:List Stmt} {scope:Scope} {dV kV doc pm cdv ct oc:Value} {an od:Option Addr}
  {osl:Array (Option Value)} {N ps:List Str} {sp:Sp} (lk:K.lookup f = some ⟨oc,od,.func (PySem.W.fnOf name qual params body scope dV kV doc pm an cdv ct),osl⟩) (hcd:PySem.W.codeIn K cdv qual = true) (S:FnScope N ps scope)
  (len:∀ vs H Q E,sp vs H Q E → vs.length = ps.length)
  (hbody:∀ (A:Around) (outer:List Env) (s:Shared) (H:Hp) (vs:List V) (Q:VK) (E:XK),Room k (A.deeper (envOfC qual scope s.heap.objs.size f cdv)) → sp vs H Q E →
   ∃ t,PSs (nP CX P w K mg base N qual scope f cdv A outer s H E) body t ∧ t { nx:=fun _ H'=>Q .non H',rt:=Q } (iD N vs) H) :
  FnOk P w K mg base CX (k + 1) f (PySem.W.fnOf name qual params body scope dV kV doc pm an cdv ct) ps sp:=by
 refine ⟨len,fun A outer s H args us vs Q E hr e0 hb r hsp=>?_⟩
 have hl:=len _ _ _ _ hsp
 have KX:K.In s.heap:=e0.mod.kin.keeps fun b o e=>(e0.bs b o e).1
 have lim:s.heap.NoLimit:=e0.mod.nolimit.keeps fun b o e=>(e0.bs b o e).1
 have hkind:∀ y ∈ ps.zip us,scope.names.lookup y.1 = some .local ∨ (scope.names.lookup y.1 = some .cell ∧ ((cellsFrom (s.heap.objs.size + 1) scope.names []).lookup y.1).isSome = true):=fun ⟨n,v⟩ hy=>by
  rcases S.par n (List.of_mem_zip hy).1 with q | q
  ·exact .inl q
  ·exact .inr ⟨q,PySem.W.cellsFrom_some _ _ _ (.inl q)⟩
 refine codeAny_call_function hr.depth (KX _ _ lk) rfl S.co S.gen rfl (PySem.W.codeRec_of KX hcd) (hb _ _ _ _ ?_)
 refine wpAny_newFunctionEnv_cells S.kind hkind fun env he s1 x=>?_
 subst he
 refine ⟨lim.keeps x.toInCall.keep,codeAny_func ?_⟩
 obtain ⟨t,ht,hq⟩:=hbody A outer s H vs Q E (hr.deeper _) hsp
 have I:Inv (nP CX P w K mg base N qual scope f cdv A outer s H E) [] (iD N vs) H s1:=zQ S hr.hd e0 hl r x
 refine wpAny_mono (ht [] s1 (iD N vs) H _ I hq) (fun fl s' hs=>?_) fun e s' hs=>hs
 have fin:∀ {σ':St} {H':Hp} {v:V} {u:Value},Inv (nP CX P w K mg base N qual scope f cdv A outer s H E) [] σ' H' s' → aZ v u → Q v H' → CE outer P w H s Q u s' :=
  fun {σ' H' v u} J rv q=>⟨v,H',J.os,J.bare,J.base,J.hok,rv,q⟩
 cases fl with
 | ret u =>
  obtain ⟨v,σ',H',J,rv,q⟩:=hs
  exact fin J rv q
 | next =>
  obtain ⟨σ',H',J,q⟩:=hs
  exact fin (v:=V.non) (u:=Value.none) J rfl q
 | brk =>
  obtain ⟨_,_,_,q⟩:=hs
  exact False.elim q
 | cont =>
  obtain ⟨_,_,_,q⟩:=hs
  exact False.elim q
end L2
namespace L2
open PySem PySem.Spec PyProof.Rows
section
variable {X:Cx} {x:Str} {p pos:Pos} {e:Expr} {es:List Expr} {t:TA} {id T:String} {r:List V → Hp → VK → Prop}
def tCB (r:List V → Hp → VK → Prop) (t:TA):TE:=fun σ H Q=>t σ H fun vs H1=>r vs H1 Q
theorem aV (hc:eJ X (.builtin id) r) (hg:Gl X x) (hm:X.mg x = none) (hv:bootBuiltins x = some (.builtin id)) (ha:PA X (e :: es) t) (hn:x ≠ "__name__":=by decide) (hdb:(x == ("__debug__":Str)) = false:=by decide)
  (he:starEach (e :: es) X.env = (false,eval e X.env) :: starEach es X.env:=by rfl) (hpl:(backTo pos (starEach es X.env)).any (·.1) = false:=by rfl):PE X (.Call (.Name x p) (e :: es) [] pos) (tCB r t):=by
 intro pins s σ H Q I h
 refine wpAny_Call_Name_kw (mE I hg hm hv ?_ hn hdb)
 exact PyProof.Rows.callWith_builtin1 (thn (ha pos pins s σ H _ I h) fun us s1 ⟨vs,H1,I1,r1,q1⟩=>hc pins s1 σ H1 vs us Q I1 r1 q1) he hpl
theorem cG (hc:eJ X (.type T) r) (hg:Gl X x) (hm:X.mg x = none) (hv:bootBuiltins x = some (.type T)) (ha:PA X (e :: es) t) (hn:x ≠ "__name__":=by decide) (hdb:(x == ("__debug__":Str)) = false:=by decide)
  (he:starEach (e :: es) X.env = (false,eval e X.env) :: starEach es X.env:=by rfl) (hpl:(backTo pos (starEach es X.env)).any (·.1) = false:=by rfl):PE X (.Call (.Name x p) (e :: es) [] pos) (tCB r t):=by
 intro pins s σ H Q I h
 refine wpAny_Call_Name_kw (mE I hg hm hv ?_ hn hdb)
 exact PyProof.Rows.callWith_type1 (thn (ha pos pins s σ H _ I h) fun us s1 ⟨vs,H1,I1,r1,q1⟩=>hc pins s1 σ H1 vs us Q I1 r1 q1) he hpl
end
end L2
namespace L2
open PySem PySem.Spec PyProof.Rows
section
variable {κ:Type} [DecidableEq κ]
def dC (kvs:List (κ × V)) (k:κ):Option V:=(kvs.find? fun kv=>decide (kv.1 = k)).map (·.2)
def gT (kvs:List (κ × V)) (k:κ) (v:V):List (κ × V) :=
 if (kvs.any fun kv=>decide (kv.1 = k)) = true then kvs.map (fun kv=>if kv.1 = k then (kv.1,v) else kv) else kvs ++ [(k,v)]
def dropK (kvs:List (κ × V)) (k:κ):List (κ × V):=kvs.filter fun kv=>decide (kv.1 ≠ k)
theorem cS {p:κ × V} {r:List (κ × V)} {k:κ} (e:p.1 = k):dC (p :: r) k = some p.2:=by simp [dC,List.find?_cons,e]
theorem cT {p:κ × V} {r:List (κ × V)} {k:κ} (e:¬ p.1 = k):dC (p :: r) k = dC r k:=by simp [dC,List.find?_cons,e]
theorem fR (k:κ):∀ kvs:List (κ × V),(kvs.any fun kv=>decide (kv.1 = k)) = (dC kvs k).isSome
 | []=>rfl
 | p :: r=>by
  rw [List.any_cons]
  by_cases e:p.1 = k
  ·simp only [cS e,decide_eq_true e,Bool.true_or,Option.isSome_some]
  ·rw [cT e,decide_eq_false e,Bool.false_or];exact fR k r
theorem uF (k j:κ) (y:V):∀ kvs:List (κ × V),dC (kvs.map fun kv=>if kv.1 = k then (kv.1,y) else kv) j = (dC kvs j).map fun x=>if j = k then y else x
 | []=>rfl
 | p :: r=>by
  have ih:=uF k j y r
  rw [List.map_cons]
  by_cases h:p.1 = k
  ·rw [if_pos h]
   by_cases e:p.1 = j
   ·rw [cS (p:=(p.1,y)) e,cS e,Option.map_some,if_pos (e.symm.trans h)]
   ·rw [cT (p:=(p.1,y)) e,cT e,ih]
  ·rw [if_neg h]
   by_cases e:p.1 = j
   ·rw [cS (p:=p) e,cS e,Option.map_some,if_neg (fun z=>h (e.trans z))]
   ·rw [cT (p:=p) e,cT e,ih]
theorem qZ (k j:κ) (y:V):∀ kvs:List (κ × V),dC kvs k = none → dC (kvs ++ [(k,y)]) j = if j = k then some y else dC kvs j
 | [],_=>by
  by_cases e:k = j
  ·rw [if_pos e.symm];exact cS (p:=(k,y)) e
  ·rw [if_neg (fun z=>e z.symm)];exact cT (p:=(k,y)) e
 | p :: r,hn=>by
  rw [List.cons_append]
  have hk:¬ p.1 = k:=fun z=>by rw [cS z] at hn;cases hn
  rw [cT hk] at hn
  have ih:=qZ k j y r hn
  by_cases e:p.1 = j
  ·rw [cS e,cS e,if_neg (fun z=>hk (e.trans z))]
  ·rw [cT e,cT e,ih]
theorem aAN (kvs:List (κ × V)) (k j:κ) (y:V):dC (gT kvs k y) j = if j = k then some y else dC kvs j:=by
 unfold gT
 by_cases a:(kvs.any fun kv=>decide (kv.1 = k)) = true
 ·rw [if_pos a,uF]
  rw [fR] at a
  by_cases e:j = k
  ·obtain ⟨x,hx⟩:=Option.isSome_iff_exists.mp a
   rw [if_pos e,e,hx,Option.map_some,if_pos rfl]
  ·rw [if_neg e]
   cases dC kvs j with
   | none=>rfl
   | some x=>rw [Option.map_some,if_neg e]
 ·rw [if_neg a]
  refine qZ k j y kvs ?_
  rw [fR] at a
  cases q:dC kvs k with
  | none=>rfl
  | some x=>rw [q] at a;exact (a rfl).elim
theorem hW (kvs:List (κ × V)) (k:κ) (v:V):(gT kvs k v).length ≤ kvs.length + 1:=by
 unfold gT
 split
 ·rw [List.length_map];omega
 ·rw [List.length_append,List.length_cons,List.length_nil];omega
theorem lJ {kvs:List (κ × V)} {k:κ} (v:V) (h:dC kvs k = none):gT kvs k v = kvs ++ [(k,v)]:=by
 unfold gT
 rw [fR,h]
 exact if_neg (by decide)
theorem jB.isSome_eq {o:Option V} {u:Option Value} (r:jB o u):o.isSome = u.isSome:=by
 cases o with
 | none=>cases u with
  | none=>rfl
  | some _=>exact (show False from r).elim
 | some _=>cases u with
  | none=>exact (show False from r).elim
  | some _=>rfl
theorem jB.getD {o:Option V} {u:Option Value} {d:V} {d':Value} (r:jB o u) (rd:aZ d d'):aZ (o.getD d) (u.getD d'):=by
 cases o with
 | none=>cases u with
  | none=>exact rd
  | some _=>exact (show False from r).elim
 | some _=>cases u with
  | none=>exact (show False from r).elim
  | some _=>exact r
theorem KV.val {kvs:List (κ × V)} {vs:List (κ × Value)} (r:KV kvs vs) (k:κ):jB (dC kvs k) (valueAt vs k):=by
 unfold KV at r
 induction r with
 | nil=>exact True.intro
 | @cons p q ps qs h t ih =>
  obtain ⟨h1,h2⟩:=h
  by_cases e:p.1 = k
  ·have e':q.1 = k:=h1.symm.trans e
   have b:valueAt (q :: qs) k = some q.2:=by simp [valueAt,List.find?_cons,e']
   rw [cS e,b];exact h2
  ·have e':¬ q.1 = k:=fun z=>e (h1.trans z)
   have b:valueAt (q :: qs) k = valueAt qs k:=by simp [valueAt,List.find?_cons,e']
   rw [cT e,b];exact ih
theorem KV.any {kvs:List (κ × V)} {vs:List (κ × Value)} (r:KV kvs vs) (k:κ):(kvs.any fun kv=>decide (kv.1 = k)) = vs.any fun kv=>decide (kv.1 = k):=by
 unfold KV at r
 induction r with
 | nil=>rfl
 | cons h t ih=>rw [List.any_cons,List.any_cons,ih,h.1]
theorem KV.repl {kvs:List (κ × V)} {vs:List (κ × Value)} (r:KV kvs vs) (k:κ) {y:V} {u:Value} (ry:aZ y u) :
  KV (kvs.map fun kv=>if kv.1 = k then (kv.1,y) else kv) (vs.map fun kv=>if kv.1 = k then (kv.1,u) else kv):=by
 unfold KV at r ⊢
 induction r with
 | nil=>exact .nil
 | @cons p q ps qs h t ih =>
  rw [List.map_cons,List.map_cons]
  refine .cons ?_ ih
  obtain ⟨h1,h2⟩:=h
  by_cases e:p.1 = k
  ·rw [if_pos e,if_pos (h1.symm.trans e)];exact ⟨h1,ry⟩
  ·rw [if_neg e,if_neg (fun z=>e (h1.trans z))];exact ⟨h1,h2⟩
theorem KV.put {kvs:List (κ × V)} {vs:List (κ × Value)} (r:KV kvs vs) (k:κ) {y:V} {u:Value} (ry:aZ y u):KV (gT kvs k y) (stored vs k u):=by
 unfold gT stored
 rw [r.any k]
 by_cases e:(vs.any fun kv=>decide (kv.1 = k)) = true
 ·rw [if_pos e,if_pos e];exact r.repl k ry
 ·rw [if_neg e,if_neg e];exact Paired.snoc r ⟨rfl,ry⟩
theorem KV.keys {kvs:List (κ × V)} {vs:List (κ × Value)} (r:KV kvs vs):kvs.map (·.1) = vs.map (·.1):=by
 unfold KV at r
 induction r with
 | nil=>rfl
 | cons h t ih=>rw [List.map_cons,List.map_cons,ih,h.1]
theorem KV.length {kvs:List (κ × V)} {vs:List (κ × Value)} (r:KV kvs vs):kvs.length = vs.length:=Paired.length r
end
theorem pN {P:Program} {w:World} {k:Key} {u:Value} (r:aZ (kV k) u):(aI P w).is k u = true:=by
 cases k with
 | inl i=>obtain ⟨t,e⟩:=(show ∃ t,u = Value.int i t from r);subst e;exact vL P w i t
 | inr x=>obtain ⟨t,e⟩:=(show ∃ t,u = Value.str x t from r);subst e;exact vK P w x t
theorem rV {P:Program} {w:World}:∀ {ks:List Key} {us:List Value},bC (ks.map kV) us → ItemsAre (aI P w) ks us
 | [],_,r=>by rw [List.map_nil] at r;cases r;exact .nil
 | k :: ks,_,r=>by
  rw [List.map_cons] at r
  cases r with
  | cons h t=>exact .cons (pN h) (rV t)
abbrev KT (H:Hp):List (List Key × V) → List (List Key × Addr × Value) → Prop:=Paired fun p q=>p.1 = q.1 ∧ H q.2.1 = some (.tup (p.1.map kV)) ∧ aZ p.2 q.2.2
theorem KT.val {H:Hp} {kvs:List (List Key × V)} {xs:List (List Key × Addr × Value)} (r:KT H kvs xs) (k:List Key):jB (dC kvs k) ((atKey xs k).map (·.2)):=by
 induction r with
 | nil=>exact True.intro
 | @cons p q ps qs h t ih =>
  obtain ⟨h1,_,h2⟩:=h
  by_cases e:p.1 = k
  ·have e':q.1 = k:=h1.symm.trans e
   have b:atKey (q :: qs) k = some q.2:=by simp [atKey,List.find?_cons,e']
   rw [cS e,b];exact h2
  ·have e':¬ q.1 = k:=fun z=>e (h1.trans z)
   have b:atKey (q :: qs) k = atKey qs k:=by simp [atKey,List.find?_cons,e']
   rw [cT e,b];exact ih
theorem KT.repl {H:Hp} {kvs:List (List Key × V)} {xs:List (List Key × Addr × Value)} (r:KT H kvs xs) (k:List Key) {y:V} {u:Value} (ry:aZ y u) :
  KT H (kvs.map fun kv=>if kv.1 = k then (kv.1,y) else kv) (xs.map (putAt k u)):=by
 induction r with
 | nil=>exact .nil
 | @cons p q ps qs h t ih =>
  rw [List.map_cons,List.map_cons]
  refine .cons ?_ ih
  obtain ⟨h1,h2,h3⟩:=h
  unfold putAt
  by_cases e:p.1 = k
  ·rw [if_pos e,if_pos (h1.symm.trans e)];exact ⟨h1,h2,ry⟩
  ·rw [if_neg e,if_neg (fun z=>e (h1.trans z))];exact ⟨h1,h2,h3⟩
theorem KT.put {H:Hp} {kvs:List (List Key × V)} {xs:List (List Key × Addr × Value)} (r:KT H kvs xs) (k:List Key) {b:Addr} {y:V} {u:Value} (hb:H b = some (.tup (k.map kV))) (ry:aZ y u) :
  KT H (gT kvs k y) (storedH xs k b u):=by
 have e:(kvs.any fun kv=>decide (kv.1 = k)) = (atKey xs k).isSome:=by
  rw [fR,(r.val k).isSome_eq,Option.isSome_map]
 unfold gT storedH
 rw [e]
 by_cases q:(atKey xs k).isSome = true
 ·rw [if_pos q,if_pos q];exact r.repl k ry
 ·rw [if_neg q,if_neg q];exact Paired.snoc r ⟨rfl,hb,ry⟩
theorem KT.keeps {H H':Hp} {kvs:List (List Key × V)} {xs:List (List Key × Addr × Value)} (r:KT H kvs xs) (ht:∀ b ys,H b = some (.tup ys) → H' b = some (.tup ys)):KT H' kvs xs :=
 Paired.mapP r fun _ _ z=>⟨z.1,ht _ _ z.2.1,z.2.2⟩
section
variable {P:Program} {w:World} {H:Hp} {h:Heap} {a:Addr}
theorem aES {u:HO} (ok:HOk P w H h) (e:Rd H a u):bX P w H h a u:=e.ok ok
theorem nB {kvs:List (Key × V)} (ok:HOk P w H h) (e:Rd H a (.dK kvs)):kvs.length ≤ sizeLine ∧ (a == sysModules) = false ∧ ∃ vs,KV kvs vs ∧ h.DictOf (aI P w) a vs :=
 show bX P w H h a (.dK kvs) from aES ok e
theorem aEW {kvs:List (Key × V)} (ok:HOk P w H h) (e:H a = some (.dK kvs)):kvs.length ≤ sizeLine ∧ (a == sysModules) = false ∧ ∃ vs,KV kvs vs ∧ h.DictOf (aI P w) a vs:=nB ok (.inl e)
theorem mG {ks:List Key} (ok:HOk P w H h) (e:H a = some (.tup (ks.map kV))):(tupleKind (aI P w)).is h ks a:=by
 obtain ⟨_,its,r,o,h1,h2,n,h3,_⟩:=(show bX P w H h a (.tup (ks.map kV)) from ok a _ e)
 exact ⟨o,its.toArray,n,h1,h2,h3,by simpa using rV r⟩
theorem pW {kvs:List (List Key × V)} (ok:HOk P w H h) (e:Rd H a (.dT kvs)):kvs.length ≤ sizeLine ∧ (a == sysModules) = false ∧
  ∃ xs,KT H kvs xs ∧ h.DictOfH (tupleKind (aI P w)) a xs:=by
 obtain ⟨z,y,xs,r,o,es,ep,h1,h2,h3,h4,h5⟩:=(show bX P w H h a (.dT kvs) from aES ok e)
 refine ⟨z,y,xs,r,o,es,ep,h1,h2,h3,h4,fun x hx=>?_,h5⟩
 have all:∀ {l:List (List Key × V)} {m:List (List Key × Addr × Value)},KT H l m → ∀ x ∈ m,(tupleKind (aI P w)).is h x.1 x.2.1:=by
  intro l m q
  induction q with
  | nil=>intro x hx;exact nomatch hx
  | @cons p q ps qs hq t ih =>
   intro x hx
   rcases List.mem_cons.mp hx with e | hx
   ·subst e
    exact mG ok (by rw [← hq.1];exact hq.2.1)
   ·exact ih x hx
 exact all r x hx
theorem aHN {kvs:List (List Key × V)} (ok:HOk P w H h) (e:H a = some (.dT kvs)):kvs.length ≤ sizeLine ∧ (a == sysModules) = false ∧
  ∃ xs,KT H kvs xs ∧ h.DictOfH (tupleKind (aI P w)) a xs:=pW ok (.inl e)
end
def lV (H:Hp) (a:Addr) (y:V) (r:Option V):Prop :=
 (∃ kvs k,Rd H a (.dK kvs) ∧ y = kV k ∧ r = dC kvs k) ∨ ∃ kvs k b,Rd H a (.dT kvs) ∧ y = .ref b ∧ H b = some (.tup (k.map kV)) ∧ r = dC kvs k
def aHR (H:Hp) (a:Addr) (y v:V) (H':Hp):Prop :=
 (∃ kvs k,H a = some (.dK kvs) ∧ y = kV k ∧ kvs.length < sizeLine ∧ H' = upd H a (.dK (gT kvs k v))) ∨
 ∃ kvs k b,H a = some (.dT kvs) ∧ y = .ref b ∧ H b = some (.tup (k.map kV)) ∧ kvs.length < sizeLine ∧ H' = upd H a (.dT (gT kvs k v))
theorem lV.k {H:Hp} {a:Addr} {kvs:List (Key × V)} {k:Key} (e:H a = some (.dK kvs)):lV H a (kV k) (dC kvs k):=.inl ⟨kvs,k,.inl e,rfl,rfl⟩
section
variable {X:Cx} {pins:List (Addr × Obj)} {σ:St} {H:Hp} {s:Shared} {a:Addr} {y v:V} {u r:Value} {o:Option V} {A:Around} {E:Value → Shared → Prop}
theorem Inv.big (I:Inv X pins σ H s):sysModules < s.heap.objs.size:=by
 have h:mainGlobals < s.heap.objs.size:=(I.mod.glob.keeps I.bk).lt
 exact Nat.lt_trans (by decide) h
theorem aAG {Q:Value → Shared → Prop} (hu:A.units + 1 < cLine) (I:Inv X pins σ H s) (g:lV H a y (some v)) (ry:aZ y u) (h:∀ w' s',Inv X pins σ H s' → aZ v w' → Q w' s') :
  wpAny (model X.prog X.w) A (getItem (.ref a) u) Q E s:=by
 rcases g with ⟨kvs,k,e,ey,l⟩ | ⟨kvs,k,b,e,ey,eb,l⟩
 ·subst ey
  obtain ⟨z,hd,vs,rel,dd⟩:=nB I.hok e
  obtain ⟨w',hw,rw'⟩:=jB.some_of (v:=v) (o:=valueAt vs k) (by rw [l];exact rel.val k)
  exact wpAny_getItem_of (pN ry) dd.mapOf hw (h w' _ (I.tok _) rw')
 ·subst ey
  cases (show u = Value.ref b from ry)
  obtain ⟨z,hd,xs,rel,dd⟩:=pW I.hok e
  obtain ⟨w',hw,rw'⟩:=jB.some_of (v:=v) (o:=(atKey xs k).map (·.2)) (by rw [l];exact rel.val k)
  obtain ⟨p,hp,hp2⟩:=Option.map_eq_some_iff.mp hw
  refine wpAny_getItem_heap (tupleKind_room_in1 hu) (mG I.hok eb) dd hp ?_
  rw [hp2]
  exact h w' _ (I.tok _) rw'
theorem aIO {Q:Value → Shared → Prop} (hu:A.units + 1 < cLine) (I:Inv X pins σ H s) (g:lV H a y o) (ry:aZ y u) (h:∀ s',Inv X pins σ H s' → Q (.bool o.isSome) s') :
  wpAny (model X.prog X.w) A (compareOp .In u (.ref a)) Q E s:=by
 rcases g with ⟨kvs,k,e,ey,l⟩ | ⟨kvs,k,b,e,ey,eb,l⟩
 ·subst ey
  obtain ⟨z,hd,vs,rel,dd⟩:=nB I.hok e
  refine wpAny_in_of (pN ry) hd dd.mapOf ?_
  rw [← (rel.val k).isSome_eq,← l]
  exact h _ (I.tok _)
 ·subst ey
  cases (show u = Value.ref b from ry)
  obtain ⟨z,hd,xs,rel,dd⟩:=pW I.hok e
  refine wpAny_in_heap (tupleKind_room_in1 hu) (mG I.hok eb) hd dd ?_
  have q:=(rel.val k).isSome_eq
  rw [Option.isSome_map] at q
  rw [← q,← l]
  exact h _ (I.tok _)
theorem tU {h':Heap} {t':Nat} {ob:HO} (I:Inv X pins σ H s) (mu:Mut (H a)) (hs:Heap.SameBut a s.heap h') (he:∃ q,h'.get? a = some q) (new:bX X.prog X.w (upd H a ob) h' a ob) :
  Inv X pins σ (upd H a ob) { s with heap:=h',toks:=t' } :=
 I.write (x:=a) (e:=a) mu (.inl rfl) (fun b q hb z=>(hs.2 b hb).trans z) he new
theorem aCR {P:Program} {w:World} {H':Hp} {h':Heap} {kvs:List (Key × V)} {vs:List (Key × Value)} (z:kvs.length ≤ sizeLine) (hd:(a == sysModules) = false) (rel:KV kvs vs) (dd:h'.DictOf (aI P w) a vs) :
  bX P w H' h' a (.dK kvs):=⟨z,hd,vs,rel,dd⟩
theorem aAF {H':Hp} {Q:Unit → Shared → Prop} (hu:A.units + 1 < cLine) (I:Inv X pins σ H s) (g:aHR H a y v H') (ry:aZ y u) (rv:aZ v r) (h:∀ s',Inv X pins σ H' s' → Q () s') :
  wpAny (model X.prog X.w) A (setItem (.ref a) u r) Q E s:=by
 rcases g with ⟨kvs,k,e,ey,l,eH⟩ | ⟨kvs,k,b,e,ey,eb,l,eH⟩
 ·subst ey eH
  obtain ⟨z,hd,vs,rel,dd⟩:=aEW I.hok e
  have hz:vs.length ≤ sizeLine:=by rw [← rel.length];exact z
  have hl:(gT kvs k v).length ≤ sizeLine:=by have:=hW kvs k v;omega
  refine wpAny_setItem_pairs (hsz:=hz) (pN ry) dd fun h' dd' hs=>h _ ?_
  have he:∃ q,h'.get? a = some q:=let ⟨q,_,_,hq,_⟩:=dd';⟨q,hq⟩
  exact tU I (by rw [e];exact True.intro) hs he (aCR hl hd (rel.put k rv) dd')
 ·subst ey eH
  cases (show u = Value.ref b from ry)
  obtain ⟨z,hd,xs,rel,dd⟩:=aHN I.hok e
  have hz:xs.length ≤ sizeLine:=by rw [← Paired.length rel];exact z
  have hl:(gT kvs k v).length ≤ sizeLine:=by have:=hW kvs k v;omega
  refine wpAny_setItem_heap (hsz:=hz) (tupleKind_room_in1 hu) (mG I.hok eb) dd fun h' dd' hs=>h _ ?_
  obtain ⟨q,es,ep,hq,h2,h3,h4,_,h5⟩:=dd'
  refine tU I (by rw [e];exact True.intro) hs ⟨q,hq⟩ ⟨hl,hd,_,(rel.put k eb rv).keeps fun c ys ec=>?_,q,es,ep,hq,h2,h3,h4,h5⟩
  rw [aO (yI ec e (fun z=>nomatch z))]
  exact ec
end
section
variable {X:Cx} {pins:List (Addr × Obj)} {σ:St} {H:Hp} {s:Shared} {a:Addr} {kvs:List (Key × V)} {k:Key} {u:Value} {A:Around} {E:Value → Shared → Prop}
theorem aHO {Q:Value → Shared → Prop} (I:Inv X pins σ H s) (e:Rd H a (.dK kvs)) (h:∀ t s',Inv X pins σ H s' → Q (.int kvs.length t) s'):wpAny (model X.prog X.w) A (call (.builtin "len") [.ref a]) Q E s:=by
 obtain ⟨z,hd,vs,rel,dd⟩:=nB I.hok e
 refine call_len_dict hd dd (by rw [← rel.length];rw [sizeLine_eq] at z;omega) ?_
 rw [← rel.length]
 exact h _ _ (I.tok _)
end
def aHQ (i:Expr):Prop:=∀ ov iv,subscripted i false ov iv = operate [ov,iv] (getItem ov iv)
theorem aDE {prog:Program} {w:World} {A:Around} {E:Value → Shared → Prop} {s:Shared} {env:Env} {value slice:Expr} {pos:Pos} {T id:String} {Q:Value → Shared → Prop}
  (hl:typeLookup (.type T) "__getitem__" = pure (some (.builtin id))) (hs:aHQ slice)
  (h:wpAny (model prog w) A (eval value env) (fun o s₁=>wpAny (model prog w) A (eval slice env) (fun i s₂=>s₂.TypeIs o T ∧ wpAny (model prog w) A (getItem o i) Q E s₂) E s₁) E s) :
  wpAny (model prog w) A (eval (.Subscript value slice pos) env) Q E s:=by
 refine Subscript_ (wpAny_mono h (fun o s₁ h₁=>wpAny_mono h₁ (fun i s₂ h₂=>?_) fun _ _ x=>x) fun _ _ x=>x)
 obtain ⟨hT,h₂⟩:=h₂
 unfold subscriptTail
 refine wpAny_bind ?_
 rw [getitemInPython_of_ne hT.not_modules]
 refine wpAny_bind (wpAny_specialOf hT hl ?_)
 have fin:wpAny (model prog w) A (subscripted slice false o i) (fun r s₃=>wpAny (model prog w) A (letTemporaryGo value o r >>= fun _=>pure r) Q E s₃) E s₂:=by
  rw [hs o i]
  exact wpAny_operating (wpAny_mono h₂ (fun r s₃ h₃=>wpAny_bind (wpAny_letTemporaryGo (wpAny_pure h₃))) fun _ _ x=>x)
 first
  | exact wpAny_pure (wpAny_bind fin)
  | exact wpAny_bind (wpAny_pure (wpAny_bind fin))
  | exact wpAny_bind fin
theorem vT {X:Cx} {pins:List (Addr × Obj)} {σ:St} {H:Hp} {s:Shared} {a:Addr} {y:V} {o:Option V} (I:Inv X pins σ H s) (g:lV H a y o):s.TypeIs (.ref a) "dict":=by
 rcases g with ⟨kvs,k,e,_,_⟩ | ⟨kvs,k,b,e,_,_,_⟩
 ·obtain ⟨_,_,vs,_,dd⟩:=nB I.hok e
  exact dd.typeIs
 ·obtain ⟨_,_,xs,_,dd⟩:=pW I.hok e
  exact dd.typeIs
def aGL (td ty:TE):TE:=fun σ H Q=>td σ H fun x H1=>ty σ H1 fun y H2=>∃ a v,x = .ref a ∧ lV H2 a y (some v) ∧ Q v H2
def aIB (ty td:TE):TE:=fun σ H Q=>ty σ H fun y H1=>td σ H1 fun x H2=>∃ a o,x = .ref a ∧ lV H2 a y o ∧ Q (.bl o.isSome) H2
def aGQ (td ty tv:TE):TS:=fun D σ H=>tv σ H fun v H1=>td σ H1 fun x H2=>ty σ H2 fun y H3=>∃ a H4,x = .ref a ∧ aHR H3 a y v H4 ∧ D.nx σ H4
section
variable {X:Cx} {o i e value:Expr} {pos pos' tpos:Pos} {td ty tv:TE}
theorem eN (hu:X.A.units + 1 < cLine) (ho:PE X o td) (hi:PE X i ty) (hs:aHQ i):PE X (.Subscript o i pos) (aGL td ty):=by
 intro pins s σ H Q I h
 refine aDE PySem.F.slot_dict_getitem.lookup hs (thn (ho pins s σ H _ I h) fun u s1 ⟨x,H1,I1,rx,q1⟩=>thn (hi pins s1 σ H1 _ I1 q1) fun iv s2 ⟨y,H2,I2,ry,a,v,ex,g,q2⟩=>?_)
 subst ex
 obtain rfl:u = Value.ref a:=rx
 exact ⟨vT I2 g,aAG hu I2 g ry fun w' s3 I3 rw'=>⟨v,H2,I3,rw',q2⟩⟩
theorem wR (hu:X.A.units + 1 < cLine) (hi:PE X i ty) (ho:PE X o td):PC X .In i o (aIB ty td):=by
 intro pins s σ H Q I h
 refine thn (hi pins s σ H _ I h) fun iv s1 ⟨y,H1,I1,ry,q1⟩=>thn (ho pins s1 σ H1 _ I1 q1) fun u s2 ⟨x,H2,I2,rx,a,ov,ex,g,q2⟩=>?_
 subst ex
 obtain rfl:u = Value.ref a:=rx
 exact aIO hu I2 g ry fun s3 I3=>⟨.bl ov.isSome,H2,I3,rfl,q2⟩
theorem kA (hu:X.A.units + 1 < cLine) (ho:PE X o td) (hi:PE X i ty) (hv:PE X value tv) (hs:swapsWith value (some (.Subscript o i pos')) pos.line X.env = pure false) :
  PS X (.Assign [.Subscript o i pos'] value pos) (aGQ td ty tv):=by
 intro pins s σ H D I h
 refine wpAny_Assign_Subscript (thn (hv pins s σ H _ I h) fun r s1 ⟨v,H1,I1,rv,q1⟩=>thn (ho pins s1 σ H1 _ I1 q1) fun u s2 ⟨x,H2,I2,rx,q2⟩=>thn (hi pins s2 σ H2 _ I2 q2) fun iv s3 ⟨y,H3,I3,ry,a,H4,ex,g,q3⟩=>?_) hs
 subst ex
 obtain rfl:u = Value.ref a:=rx
 exact aAF hu I3 g ry rv fun s4 I4=>⟨σ,H4,I4,q3⟩
end
theorem vS {P:Program} {w:World} {H:Hp} (h:Heap) (hb:sysModules < h.objs.size):bX P w H (h.push { cls:=.type "dict",data:=.dict #[] }) h.objs.size (.dK []) :=
 ⟨Nat.zero_le _,beq_eq_false_iff_ne.mpr (Ne.symm (Nat.ne_of_lt hb)),[],.nil,Heap.DictOf.new h⟩
def aFA:TE:=fun _ H Q=>∀ p,H p = none → Q (.ref p) (upd H p (.dK []))
section
variable {X:Cx} {pos:Pos}
theorem oX:PE X (.Dict [] [] pos) aFA:=fun pins s σ H Q I h =>
 wpAny_Dict_empty ⟨.ref s.heap.objs.size,_,I.laid (a:=s.heap.objs.size) (o:=.dK []) (t':=s.toks) (fun _ _ q=>Heap.get?_push_of_some _ q) (Nat.le_refl _) (vS s.heap I.big),rfl,h _ (I.hok.fresh (Nat.le_refl _))⟩
end
def wD:List (TE × TE) → St → Hp → (List (V × V) → Hp → Prop) → Prop
 | [],_,H,Q=>Q [] H
 | (tk,tv) :: r,σ,H,Q=>tk σ H fun x H1=>tv σ H1 fun y H2=>wD r σ H2 fun ps H3=>Q ((x,y) :: ps) H3
abbrev VV:List (V × V) → List (Value × Value) → Prop:=Paired fun p q=>aZ p.1 q.1 ∧ aZ p.2 q.2
def PPs (X:Cx) (pos:Pos) (keys:List (Option Expr)) (values:List Expr) (trs:List (TE × TE)):Prop :=
 ∀ (pins:List (Addr × Obj)) (s:Shared) (σ:St) (H:Hp) (Q:List (V × V) → Hp → Prop),Inv X pins σ H s → wD trs σ H Q →
  wpAny (model X.prog X.w) X.A (evalPairs (pairTrees keys values X.env pos)) (fun vs s'=>∃ ps H',Inv X pins σ H' s' ∧ VV ps vs ∧ Q ps H') X.xe s
theorem yC {X:Cx} {pos:Pos}:PPs X pos [] [] []:=fun pins s σ H Q I h=>pairTrees_nil_walk ⟨[],H,I,.nil,h⟩
theorem uX {X:Cx} {pos:Pos} {k v:Expr} {ks:List (Option Expr)} {vs:List Expr} {tk tv:TE} {trs:List (TE × TE)} (hk:PE X k tk) (hv:PE X v tv) (hr:PPs X pos ks vs trs) :
  PPs X pos (some k :: ks) (v :: vs) ((tk,tv) :: trs):=fun pins s σ H Q I h =>
 pairTrees_cons_walk (thn (hk pins s σ H _ I h) fun u s1 ⟨x,H1,I1,rx,q1⟩=>thn (hv pins s1 σ H1 _ I1 q1) fun w2 s2 ⟨y,H2,I2,ry,q2⟩ =>
  thn (hr pins s2 σ H2 _ I2 q2) fun ws s3 ⟨ps,H3,I3,rel,q3⟩=>⟨(x,y) :: ps,H3,I3,.cons ⟨rx,ry⟩ rel,q3⟩)
def gY (kvs more:List (Key × V)):List (Key × V):=more.foldl (fun acc kv=>gT acc kv.1 kv.2) kvs
theorem KV.merge:∀ {more:List (Key × V)} {rs:List (Key × Value)} {kvs:List (Key × V)} {vs:List (Key × Value)},KV more rs → KV kvs vs → KV (gY kvs more) (merged vs rs):=by
 intro more rs kvs vs r
 unfold KV at r
 induction r generalizing kvs vs with
 | nil=>intro q;exact q
 | @cons p q ps qs h t ih =>
  intro r0
  have e:KV (gT kvs p.1 p.2) (stored vs q.1 q.2):=by
   have:=r0.put p.1 h.2
   rw [← h.1];exact this
  exact ih e
theorem kO:∀ (more kvs:List (Key × V)),(gY kvs more).length ≤ kvs.length + more.length
 | [],kvs=>by show kvs.length ≤ kvs.length + 0;omega
 | p :: r,kvs=>by
  have h1:=kO r (gT kvs p.1 p.2)
  have h2:=hW kvs p.1 p.2
  show (gY (gT kvs p.1 p.2) r).length ≤ _
  rw [List.length_cons];omega
theorem qE {P:Program} {w:World}:∀ {kvs:List (Key × V)} {ws:List (Value × Value)},VV (kvs.map fun kv=>(kV kv.1,kv.2)) ws → ∃ rs,Carries (aI P w) ws rs ∧ KV kvs rs
 | [],_,r=>by rw [List.map_nil] at r;cases r;exact ⟨[],True.intro,.nil⟩
 | p :: kvs,_,r=>by
  rw [List.map_cons] at r
  cases r with
  | @cons a b as bs h t =>
   obtain ⟨rs,c,q⟩:=qE (P:=P) (w:=w) t
   obtain ⟨b1,b2⟩:=b
   exact ⟨(p.1,b2) :: rs,⟨pN h.1,rfl,c⟩,.cons ⟨rfl,h.2⟩ q⟩
def aGK (trs:List (TE × TE)):TE:=fun σ H Q=>∀ p,H p = none → wD trs σ (upd H p (.dK [])) fun ps H2=>H2 p = some (.dK []) ∧ ∃ kvs:List (Key × V),ps = kvs.map (fun kv=>(kV kv.1,kv.2)) ∧ kvs.length ≤ 15 ∧ Q (.ref p) (upd H2 p (.dK (gY [] kvs)))
theorem yF {X:Cx} {pos:Pos} {keys:List (Option Expr)} {values:List Expr} {trs:List (TE × TE)} (h:PPs X pos keys values trs) (hall:keys.all (·.isSome) = true) (hl:keys.length = values.length) (h0:keys ≠ [])
  (h15:keys.length ≤ 15):PE X (.Dict keys values pos) (aGK trs):=by
 intro pins s σ H Q I q
 have hn:=I.hok.fresh (Nat.le_refl s.heap.objs.size)
 have I1:=I.laid (a:=s.heap.objs.size) (o:=.dK []) (h':=s.heap.push { cls:=.type "dict",data:=.dict #[] }) (t':=s.toks) (fun _ _ q=>Heap.get?_push_of_some _ q) (Nat.le_refl _) (vS s.heap I.big)
 refine wpAny_Dict_walk (knd:=aI X.prog X.w) hall hl h0 h15 (thn (h pins _ σ _ _ I1 (q _ hn)) fun ws s2 ⟨ps,H2,I2,rel,e,kvs,ep,lk,q2⟩=>?_)
 subst ep
 obtain ⟨rs,c,rk⟩:=qE (P:=X.prog) (w:=X.w) rel
 obtain ⟨z,hd,vs0,r0,dd⟩:=aEW I2.hok e
 cases r0
 refine ⟨rs,c,dd,fun h' dd' hs=>⟨.ref s.heap.objs.size,_,?_,rfl,q2⟩⟩
 have hz:(gY [] kvs).length ≤ sizeLine:=by
  have h1:=kO kvs []
  rw [List.length_nil] at h1
  rw [sizeLine_eq];omega
 have he:∃ q,h'.get? s.heap.objs.size = some q:=let ⟨q,_,_,hq,_⟩:=dd';⟨q,hq⟩
 exact tU I2 (by rw [e];exact True.intro) hs he (aCR hz hd (rk.merge .nil) dd')
structure M1 (X:Cx) (o:Expr) (m:Str) (apos:Pos) (e:Expr) (cpos:Pos):Prop where
 base:attributeBase o m X.env (eval o X.env) = eval o X.env
 few:((backTo cpos (starEach [e] X.env)).all (fun x=>!x.1) && (backToKw cpos (keywordEach [] X.env)).all (fun x=>x.1.isSome)
  && decide (([e]:List Expr).length + ([]:List Keyword).length + (if ([]:List Keyword).isEmpty then 0 else 1) < 30)) = true
 line:(apos.endLine == cpos.line) = true
 trees:backTo cpos (starEach [e] X.env) = [(false,eval e X.env)]
structure M2 (X:Cx) (o:Expr) (m:Str) (apos:Pos) (e f:Expr) (cpos:Pos):Prop where
 base:attributeBase o m X.env (eval o X.env) = eval o X.env
 few:((backTo cpos (starEach [e,f] X.env)).all (fun x=>!x.1) && (backToKw cpos (keywordEach [] X.env)).all (fun x=>x.1.isSome)
  && decide (([e,f]:List Expr).length + ([]:List Keyword).length + (if ([]:List Keyword).isEmpty then 0 else 1) < 30)) = true
 line:(apos.endLine == cpos.line) = true
 trees:backTo cpos (starEach [e,f] X.env) = [(false,eval e X.env),(false,eval f X.env)]
def IsD (H:Hp) (a:Addr):Prop:=(∃ kvs,Rd H a (.dK kvs)) ∨ ∃ kvs,Rd H a (.dT kvs)
theorem aCA {X:Cx} {pins:List (Addr × Obj)} {σ:St} {H:Hp} {s:Shared} {a:Addr} (I:Inv X pins σ H s) (d:IsD H a) :
  s.TypeIs (.ref a) "dict" ∧ (∀ b,Value.ref a = .ref b → ∃ ob,s.heap.get? b = some ob ∧ ob.dict = none) ∧ (a == sysModules) = false:=by
 rcases d with ⟨kvs,e⟩ | ⟨kvs,e⟩
 ·obtain ⟨_,hd,vs,_,dd⟩:=nB I.hok e
  refine ⟨dd.typeIs,fun b q=>?_,hd⟩
  cases q
  obtain ⟨ob,_,_,h1,h2,_⟩:=dd
  exact ⟨ob,h1,h2.2.1⟩
 ·obtain ⟨_,hd,xs,_,dd⟩:=pW I.hok e
  refine ⟨dd.typeIs,fun b q=>?_,hd⟩
  cases q
  obtain ⟨ob,_,_,h1,h2,_⟩:=dd
  exact ⟨ob,h1,h2.2.1⟩
section
variable {X:Cx} {pins:List (Addr × Obj)} {σ:St} {H:Hp} {s:Shared} {a:Addr} {y d:V} {u r:Value} {o:Option V} {A:Around} {E:Value → Shared → Prop}
theorem aFV {Q:Value → Shared → Prop} (hu:A.units + 1 < cLine) (I:Inv X pins σ H s) (g:lV H a y o) (ry:aZ y u) (h:∀ w' s',Inv X pins σ H s' → aZ (o.getD .non) w' → Q w' s') :
  wpAny (model X.prog X.w) A (call (.builtin "dict.get") [.ref a,u]) Q E s:=by
 rcases g with ⟨kvs,k,e,ey,l⟩ | ⟨kvs,k,b,e,ey,eb,l⟩
 ·subst ey
  obtain ⟨z,hd,vs,rel,dd⟩:=nB I.hok e
  refine call_meetsIn PySem.F.slot_dict_get dd.typeIs PySem.F.entry_dict_get (PySem.F.args_dict_get_2 _ _) (meets_dict_get (aI X.prog X.w) a (pN ry) hd) ⟨_,dd.mapOf,h _ _ (I.tok _) ?_⟩
  rw [l]
  exact (rel.val k).getD rfl
 ·subst ey
  cases (show u = Value.ref b from ry)
  obtain ⟨z,hd,xs,rel,dd⟩:=pW I.hok e
  refine call_meetsIn PySem.F.slot_dict_get dd.typeIs PySem.F.entry_dict_get (PySem.F.args_dict_get_2 _ _) (meetsH_dict_get (tupleKind (aI X.prog X.w)) a b hd) ⟨tupleKind_room_in1 hu,k,xs,mG I.hok eb,dd,h _ _ (I.tok _) ?_⟩
  rw [l]
  exact (rel.val k).getD rfl
theorem aFU {Q:Value → Shared → Prop} (hu:A.units + 1 < cLine) (I:Inv X pins σ H s) (g:lV H a y o) (ry:aZ y u) (rd:aZ d r) (h:∀ w' s',Inv X pins σ H s' → aZ (o.getD d) w' → Q w' s') :
  wpAny (model X.prog X.w) A (call (.builtin "dict.get") [.ref a,u,r]) Q E s:=by
 rcases g with ⟨kvs,k,e,ey,l⟩ | ⟨kvs,k,b,e,ey,eb,l⟩
 ·subst ey
  obtain ⟨z,hd,vs,rel,dd⟩:=nB I.hok e
  refine call_meetsIn PySem.F.slot_dict_get dd.typeIs PySem.F.entry_dict_get (PySem.F.args_dict_get_3 _ _ _) (meets_dict_get_default (aI X.prog X.w) a (pN ry) hd r) ⟨_,dd.mapOf,h _ _ (I.tok _) ?_⟩
  rw [l]
  exact (rel.val k).getD rd
 ·subst ey
  cases (show u = Value.ref b from ry)
  obtain ⟨z,hd,xs,rel,dd⟩:=pW I.hok e
  refine call_meetsIn PySem.F.slot_dict_get dd.typeIs PySem.F.entry_dict_get (PySem.F.args_dict_get_3 _ _ _) (meetsH_dict_get_default (tupleKind (aI X.prog X.w)) a b hd r) ⟨tupleKind_room_in1 hu,k,xs,mG I.hok eb,dd,h _ _ (I.tok _) ?_⟩
  rw [l]
  exact (rel.val k).getD rd
end
def aFC (td ty:TE):TE:=fun σ H Q=>td σ H fun x H1=>∃ a,x = .ref a ∧ IsD H1 a ∧ ty σ H1 fun y H2=>∃ o,lV H2 a y o ∧ Q (o.getD .non) H2
def aFB (td ty tx:TE):TE:=fun σ H Q=>td σ H fun x H1=>∃ a,x = .ref a ∧ IsD H1 a ∧ ty σ H1 fun y H2=>tx σ H2 fun z H3=>∃ o,lV H3 a y o ∧ Q (o.getD z) H3
section
variable {X:Cx} {o e f:Expr} {apos cpos:Pos} {td ty tx:TE}
theorem aBR (hu:X.A.units + 1 < cLine) (ho:PE X o td) (he:PE X e ty) (m:M1 X o "get" apos e cpos):PE X (.Call (.Attribute o "get" apos) [e] [] cpos) (aFC td ty):=by
 intro pins s σ H Q I h
 refine wpAny_Call_method m.base m.few m.line PySem.F.plainAttrs_dict PySem.F.slot_dict_get PySem.F.type_dict_get (thn (ho pins s σ H _ I h) fun u s1 ⟨x,H1,I1,rx,a,ex,d,q1⟩=>?_)
 subst ex
 obtain rfl:u = Value.ref a:=rx
 obtain ⟨t1,t2,_⟩:=aCA I1 d
 refine ⟨t1,t2,?_⟩
 rw [m.trees]
 refine Calls.callWith_builtin rfl (Calls.evalArgs_plain (Calls.spliced_cons (thn (he pins s1 σ H1 _ I1 q1) fun iv s2 ⟨y,H2,I2,ry,ov,g,q2⟩=>Calls.spliced_nil ?_)))
 exact aFV hu I2 g ry fun w' s3 I3 rw'=>⟨_,H2,I3,rw',q2⟩
theorem aBQ (hu:X.A.units + 1 < cLine) (ho:PE X o td) (he:PE X e ty) (hf:PE X f tx) (m:M2 X o "get" apos e f cpos):PE X (.Call (.Attribute o "get" apos) [e,f] [] cpos) (aFB td ty tx):=by
 intro pins s σ H Q I h
 refine wpAny_Call_method m.base m.few m.line PySem.F.plainAttrs_dict PySem.F.slot_dict_get PySem.F.type_dict_get (thn (ho pins s σ H _ I h) fun u s1 ⟨x,H1,I1,rx,a,ex,d,q1⟩=>?_)
 subst ex
 obtain rfl:u = Value.ref a:=rx
 obtain ⟨t1,t2,_⟩:=aCA I1 d
 refine ⟨t1,t2,?_⟩
 rw [m.trees]
 refine Calls.callWith_builtin rfl (Calls.evalArgs_plain (Calls.spliced_cons (thn (he pins s1 σ H1 _ I1 q1) fun iv s2 ⟨y,H2,I2,ry,q2⟩ =>
  Calls.spliced_cons (thn (hf pins s2 σ H2 _ I2 q2) fun fv s3 ⟨z,H3,I3,rz,ov,g,q3⟩=>Calls.spliced_nil ?_))))
 exact aFU hu I3 g ry rz fun w' s4 I4 rw'=>⟨_,H3,I4,rw',q3⟩
end
section
variable {X:Cx} {pins:List (Addr × Obj)} {σ:St} {H:Hp} {s:Shared} {a:Addr} {kvs:List (Key × V)} {A:Around} {E:Value → Shared → Prop}
end
section
variable {X:Cx} {pins:List (Addr × Obj)} {σ:St} {H:Hp} {s:Shared} {a:Addr} {y:V} {u:Value} {A:Around} {E:Value → Shared → Prop}
end
end L2
namespace HT
open PySem PyProof.Rows
def aHB:List Int → List Int → Bool
 | [],[]=>false
 | [],_ :: _=>true
 | _ :: _,[]=>false
 | x :: xs,y :: ys=>if x = y then aHB xs ys else decide (x < y)
section
open PySem.SeqAt
open PySem.AutoSeq1 (wpAny_loadPart')
open PySem.MeetsSeq PySem.MeetsSeq2 PySem.MeetsSeq3
end
section
variable {prog:Program} {w:World} {A:Around} {E:Value → Shared → Prop} {s:Shared}
def sIx (n d:Nat):Option Int → Nat
 | none=>d
 | some v=>if v < 0 then (v + (n:Int)).toNat else min v.toNat n
end
end HT
namespace L2
open PySem PySem.Spec PyProof.Rows
abbrev TO:=St → Hp → (Option Int → Hp → Prop) → Prop
def PO (X:Cx) (e:Option Expr) (t:TO):Prop :=
 ∀ (pins:List (Addr × Obj)) (s:Shared) (σ:St) (H:Hp) (Q:Option Int → Hp → Prop),Inv X pins σ H s → t σ H Q →
  wpAny (model X.prog X.w) X.A (evalPart e X.env) (fun u s'=>∃ o H',Inv X pins σ H' s' ∧ IsPart u o ∧ Q o H') X.xe s
def aDD:TO:=fun _ H Q=>Q none H
def aGG (t:TE):TO:=fun σ H Q=>t σ H fun x H1=>∃ i,x = .int i ∧ Q (some i) H1
section
variable {X:Cx} {e:Expr} {te:TE} {lo hi:Option Expr} {tl th:TO} {pos p2:Pos}
theorem yE:PO X none aDD:=by
 intro pins s σ H Q I h
 rw [evalPart_none]
 exact wpAny_pure ⟨none,H,I,.none,h⟩
theorem yD (h:PE X e te):PO X (some e) (aGG te):=by
 intro pins s σ H Q I hw
 rw [evalPart_some]
 refine thn (h pins s σ H _ I hw) fun u s1 ⟨x,H1,I1,r1,q1⟩=>?_
 obtain ⟨i,rfl,q⟩:=q1
 obtain ⟨t,rfl⟩:=r1
 exact ⟨some i,H1,I1,.int i t,q⟩
def SlR (X:Cx) (r:V → Option Int → Option Int → Hp → VK → Prop):Prop :=
 ∀ (pins:List (Addr × Obj)) (s:Shared) (σ:St) (H:Hp) (x:V) (v vl vu:Value) (lo hi:Option Int) (sl:Addr) (Q:VK),Inv X pins σ H s → aZ x v → s.heap.IsSliceOf sl vl vu .none → IsPart vl lo → IsPart vu hi → r x lo hi H Q →
  ∃ T id,typeLookup (.type T) "__getitem__" = pure (some (.builtin id)) ∧ s.TypeIs v T ∧ wpAny (model X.prog X.w) X.A (getItem v (.ref sl)) (EP X pins σ Q) X.xe s
def tSl (r:V → Option Int → Option Int → Hp → VK → Prop) (te:TE) (tl th:TO):TE:=fun σ H Q=>te σ H fun x H1=>tl σ H1 fun l H2=>th σ H2 fun u H3=>r x l u H3 Q
theorem uZ {r:V → Option Int → Option Int → Hp → VK → Prop} (hr:SlR X r) (he:PE X e te) (hl:PO X lo tl) (hu:PO X hi th):PE X (.Subscript e (.Slice lo hi none p2) pos) (tSl r te tl th):=by
 intro pins s σ H Q I h
 refine Subscript_ (thn (he pins s σ H _ I h) fun v s1 ⟨x,H1,I1,r1,q1⟩=>?_)
 refine wpAny_Slice (thn (hl pins s1 σ H1 _ I1 q1) fun vl s2 ⟨l,H2,I2,pl,q2⟩=>thn (hu pins s2 σ H2 _ I2 q2) fun vu s3 ⟨u,H3,I3,pu,q3⟩=>?_)
 rw [evalPart_none]
 refine wpAny_pure ?_
 have I4:Inv X pins σ H3 { s3 with heap:=s3.heap.push { cls:=.type "slice",data:=.fields #[vl,vu,.none] } }:=I3.kept (t':=s3.toks) fun b ob q=>Heap.get?_push_of_some _ q
 obtain ⟨T,id,hT,ht,hg⟩:=hr pins { s3 with heap:=s3.heap.push { cls:=.type "slice",data:=.fields #[vl,vu,.none] } } σ H3 x v vl vu l u s3.heap.objs.size Q I4 r1 (Heap.IsSliceOf.new ..) pl pu q3
 show wpAny (model X.prog X.w) X.A (subscriptTail e (.Slice lo hi none p2) v (.ref s3.heap.objs.size)) (EP X pins σ Q) X.xe { s3 with heap:=s3.heap.push { cls:=.type "slice",data:=.fields #[vl,vu,.none] } }
 exact tail_any (ops:=[.ref s3.heap.objs.size,v]) ht hT hg (by with_unfolding_all rfl)
def cutV (xs:List V) (lo hi:Option Int):List V:=(xs.drop (HT.sIx xs.length 0 lo)).take (HT.sIx xs.length xs.length hi - HT.sIx xs.length 0 lo)
end
end L2
namespace L2
open PySem PySem.Spec PyProof.Rows
def ixN (n:Nat) (i:Int):Option Nat:=if 0 ≤ i then (if i < n then some i.toNat else none) else if -(n:Int) ≤ i then some (i + n).toNat else none
def atI {α:Type} (xs:List α) (i:Int):Option α:=(ixN xs.length i).bind fun j=>xs[j]?
theorem aEB {n:Nat} {i:Int} {j:Nat} (h:ixN n i = some j):seqIndex? i n = some j ∧ j < n ∧ -(n:Int) ≤ i ∧ i < n:=by
 unfold ixN at h
 by_cases h0:0 ≤ i
 ·rw [if_pos h0] at h
  by_cases h1:i < n
  ·rw [if_pos h1] at h
   have e:i.toNat = j:=Option.some.inj h
   exact ⟨by rw [seqIndex_of h0 h1,e],by omega,by omega,h1⟩
  ·rw [if_neg h1] at h;cases h
 ·rw [if_neg h0] at h
  by_cases h1:-(n:Int) ≤ i
  ·rw [if_pos h1] at h
   have e:(i + n).toNat = j:=Option.some.inj h
   exact ⟨by rw [seqIndex_neg (by omega) h1,e],by omega,h1,by omega⟩
  ·rw [if_neg h1] at h;cases h
theorem tZ {α:Type} {xs:List α} {i:Int} {v:α} (h:atI xs i = some v):∃ j,seqIndex? i xs.length = some j ∧ xs[j]? = some v ∧ j < xs.length ∧ -(xs.length:Int) ≤ i ∧ i < xs.length:=by
 unfold atI at h
 cases e:ixN xs.length i with
 | none=>rw [e] at h;cases h
 | some j =>
  rw [e] at h
  obtain ⟨h1,h2,h3,h4⟩:=aEB e
  exact ⟨j,h1,h,h2,h3,h4⟩
theorem aU {α:Type} {xs:List α} {j:Nat} {v:α} (h:xs[j]? = some v):atI xs (j:Int) = some v:=by
 have hj:j < xs.length:=(List.getElem?_eq_some_iff.mp h).1
 have e:ixN xs.length (j:Int) = some j:=by
  unfold ixN
  rw [if_pos (by omega),if_pos (by omega)];simp
 unfold atI;rw [e];exact h
def aEK (b:Expr):Prop:=∀ o i,subscripted b false o i = operate [o,i] (getItem o i)
def IxR (X:Cx) (r:R2):Prop :=
 ∀ (value slice:Expr) (pins:List (Addr × Obj)) (s:Shared) (σ:St) (H:Hp) (x y:V) (v u:Value) (Q:VK),Inv X pins σ H s → aZ x v → aZ y u → r x y H Q →
  subscripted slice false v u = operate [v,u] (getItem v u) → wpAny (model X.prog X.w) X.A (subscriptTail value slice v u) (EP X pins σ Q) X.xe s
def MtR (X:Cx) (id:String) (r:V → List V → Hp → VK → Prop):Prop :=
 ∀ (pins:List (Addr × Obj)) (s:Shared) (σ:St) (H:Hp) (x:V) (xs:List V) (v:Value) (us:List Value) (Q:VK),Inv X pins σ H s → aZ x v → bC xs us → r x xs H Q →
  wpAny (model X.prog X.w) X.A (call (.builtin id) (v :: us)) (EP X pins σ Q) X.xe s
section
variable {X:Cx} {a b:Expr} {ta tb:TE} {pos:Pos}
theorem bH {r:R2} (hr:IxR X r) (ha:PE X a ta) (hb:PE X b tb) (hs:aEK b):PE X (.Subscript a b pos) (tOp r ta tb):=by
 intro pins s σ H Q I h
 exact Subscript_ (aFY ha hb I h fun v u s2 x y H2 I2 rx ry q=>hr a b pins s2 σ H2 x y v u Q I2 rx ry q (hs _ _))
def aGU (K:PySem.W.Frag):R2:=fun x y H Q=>∃ p xs i v,x = .ref p ∧ y = .int i ∧ SqL K H p xs ∧ atI xs i = some v ∧ Q v H
def aGT (K:PySem.W.Frag):R2:=fun x y H Q=>∃ p xs i v,x = .ref p ∧ y = .int i ∧ SqT K H p xs ∧ atI xs i = some v ∧ Q v H
def aIH:R2:=fun x y H Q=>∃ z i c,x = .str z ∧ y = .int i ∧ z.length ≤ sizeLine ∧ atI z.cps.toList i = some c ∧ Q (.str ⟨#[c]⟩) H
theorem aEA:IxR X (aGU X.K):=by
 intro value slice pins s σ H x y v u Q I rx ry h hs
 obtain ⟨p,xs,i,z,rfl,rfl,hq,he,q⟩:=h
 cases rx
 obtain ⟨t,rfl⟩:=ry
 obtain ⟨its,r,pl,hz⟩:=I.list hq
 obtain ⟨j,h1,h2,h3,h4,h5⟩:=tZ he
 obtain ⟨w,ew,rw'⟩:=r.get h2
 have hl:=r.length
 have hn:=pL
 have fin:EP X pins σ Q w s:=⟨z,H,I,rw',q⟩
 by_cases h0:0 ≤ i
 ·have hj:i.toNat = j:=by
   rw [seqIndex_of h0 h5] at h1
   exact Option.some.inj h1
  exact item_listR pl.isList h0 (by omega) (by rw [hj];simpa using ew) fin hs
 ·have hj:(i + (its.toArray.size:Int)).toNat = j:=by
   rw [seqIndex_neg (by omega) h4] at h1
   rw [List.size_toArray,← hl]
   exact Option.some.inj h1
  exact subscriptTail_builtinR (x:=w) pl.isList.typeIs slot_list_getitem.lookup
   (wpAny_getItem_list_neg (Q:=fun r s'=>r = w ∧ EP X pins σ Q r s') pl.isList (by omega) (by rw [List.size_toArray] <;> omega) (by omega) (by rw [hj];simpa using ew) ⟨rfl,fin⟩) hs
theorem aFQ:IxR X (aGT X.K):=by
 intro value slice pins s σ H x y v u Q I rx ry h hs
 obtain ⟨p,xs,i,z,rfl,rfl,hq,he,q⟩:=h
 cases rx
 obtain ⟨t,rfl⟩:=ry
 obtain ⟨its,r,pl,hz⟩:=I.tuple hq
 obtain ⟨j,h1,h2,h3,h4,h5⟩:=tZ he
 obtain ⟨w,ew,rw'⟩:=r.get h2
 have hl:=r.length
 have hn:=pL
 have fin:EP X pins σ Q w s:=⟨z,H,I,rw',q⟩
 exact subscriptTail_builtinR (x:=w) pl.typeIs slot_tuple_getitem.lookup
  (getItem_tuple (j:=j) (Q:=fun r s'=>r = w ∧ EP X pins σ Q r s') pl (by omega) (by omega) (by rw [List.size_toArray,← hl];exact h1) (by simpa using ew) ⟨rfl,fin⟩) hs
theorem tM:IxR X aIH:=by
 intro value slice pins s σ H x y v u Q I rx ry h hs
 obtain ⟨z,i,c,rfl,rfl,hz,he,q⟩:=h
 obtain ⟨t,rfl⟩:=rx
 obtain ⟨t',rfl⟩:=ry
 obtain ⟨j,h1,h2,h3,h4,h5⟩:=tZ he
 have hl:z.cps.toList.length = z.length:=by simp [Str.length]
 rw [hl] at h1 h4 h5
 have hn:=pL
 exact tail_any (typeIs_str s z t) slot_str_getitem.lookup (getItem_str (c:=c) (by
  have e1:decide (i < -(2 ^ 63:Int)) = false:=decide_eq_false (by omega)
  have e2:decide (i ≥ 2 ^ 63) = false:=decide_eq_false (by omega)
  rw [e1,e2,Bool.or_false]) (by rw [h1];simpa using h2) ⟨.str ⟨#[c]⟩,H,I.tok _,⟨_,rfl⟩,q⟩) hs
def lT:V → Bool
 | .non=>true
 | .bl _=>true
 | .int _=>true
 | .str _=>true
 | _=>false
def eqV:V → V → Bool
 | .non,.non=>true
 | .bl a,.bl b=>a == b
 | .bl a,.int b=>(if a then 1 else 0) == b
 | .int a,.bl b=>a == (if b then 1 else 0)
 | .int a,.int b=>a == b
 | .str a,.str b=>a == b
 | _,_=>false
theorem iU {A:Around} {s:Shared} {y x:V} {u v:Value} (ry:aZ y u) (rx:aZ x v) (fy:lT y = true) (fx:lT x = true):SeqAt.EqAt A s u v (eqV y x):=by
 cases y with
 | non =>
  cases ry
  cases x with
  | non=>cases rx;exact SeqAt.EqAt.same _
  | bl b=>cases rx;exact SeqAt.EqAt.none_bool b
  | int b=>obtain ⟨t,rfl⟩:=rx;exact SeqAt.EqAt.none_int b t
  | str b=>obtain ⟨t,rfl⟩:=rx;exact SeqAt.EqAt.none_str b t
  | _=>exact absurd (show false = true from fx) Bool.false_ne_true
 | bl a =>
  cases ry
  cases x with
  | non=>cases rx;exact SeqAt.EqAt.bool_none a
  | bl b=>cases rx;exact SeqAt.EqAt.bool_bool a b
  | int b=>obtain ⟨t,rfl⟩:=rx;exact SeqAt.EqAt.bool_int a b t
  | str b=>obtain ⟨t,rfl⟩:=rx;exact SeqAt.EqAt.bool_str a b t
  | _=>exact absurd (show false = true from fx) Bool.false_ne_true
 | int a =>
  obtain ⟨t',rfl⟩:=ry
  cases x with
  | non=>cases rx;exact SeqAt.EqAt.int_none a t'
  | bl b=>cases rx;exact SeqAt.EqAt.int_bool a t' b
  | int b=>obtain ⟨t,rfl⟩:=rx;exact SeqAt.EqAt.int_int a t' b t
  | str b=>obtain ⟨t,rfl⟩:=rx;exact SeqAt.EqAt.int_str a t' b t
  | _=>exact absurd (show false = true from fx) Bool.false_ne_true
 | str a =>
  obtain ⟨t',rfl⟩:=ry
  cases x with
  | non=>cases rx;exact SeqAt.EqAt.str_none a t'
  | bl b=>cases rx;exact SeqAt.EqAt.str_bool a t' b
  | int b=>obtain ⟨t,rfl⟩:=rx;exact SeqAt.EqAt.str_int a t' b t
  | str b=>obtain ⟨t,rfl⟩:=rx;exact SeqAt.EqAt.str_str a t' b t
  | _=>exact absurd (show false = true from fx) Bool.false_ne_true
 | _=>exact absurd (show false = true from fy) Bool.false_ne_true
def eqU (x:V) (u:Value):Bool:=match u with
 | .none=>eqV .non x
 | .bool b=>eqV (.bl b) x
 | .int i _=>eqV (.int i) x
 | .str z _=>eqV (.str z) x
 | _=>false
theorem aCO {x y:V} {u:Value} (r:aZ y u) (f:lT y = true):eqU x u = eqV y x:=by
 cases y with
 | non=>cases r;rfl
 | bl b=>cases r;rfl
 | int i=>obtain ⟨t,rfl⟩:=r;rfl
 | str z=>obtain ⟨t,rfl⟩:=r;rfl
 | _=>exact absurd (show false = true from f) Bool.false_ne_true
theorem uA {x:V}:∀ {xs:List V} {us:List Value},bC xs us → xs.all lT = true → us.any (eqU x) = xs.any fun y=>eqV y x
 | _,_,.nil,_=>rfl
 | y :: xs,u :: us,.cons r t,f=>by
  rw [List.all_cons,Bool.and_eq_true] at f
  rw [List.any_cons,List.any_cons,aCO r f.1,uA t f.2]
theorem pI {A:Around} {s:Shared} {x:V} {v:Value} (rx:aZ x v) (fx:lT x = true):∀ {xs:List V} {us:List Value},bC xs us → xs.all lT = true → ∀ u ∈ us,SeqAt.EqAt A s u v (eqU x u)
 | _,_,.nil,_=>fun u hu=>by cases hu
 | y :: xs,u :: us,.cons r t,f=>fun u' hu=>by
  rw [List.all_cons,Bool.and_eq_true] at f
  rcases List.mem_cons.mp hu with rfl | hu
  ·rw [aCO r f.1];exact iU r rx f.1 fx
  ·exact pI rx fx t f.2 u' hu
def inV (x:V) (xs:List V):Bool:=xs.any fun y=>eqV y x
def rIn (K:PySem.W.Frag) (neg:Bool):R2:=fun x y H Q=>∃ p xs,y = .ref p ∧ (SqL K H p xs ∨ SqT K H p xs) ∧ lT x = true ∧ xs.all lT = true ∧ Q (.bl (if neg then !inV x xs else inV x xs)) H
theorem zL:OpR X (compareOp .In) (rIn X.K false):=by
 intro pins s σ H x y v u Q I rx ry h
 obtain ⟨p,xs,rfl,hq,fx,fs,q⟩:=h
 cases ry
 rcases hq with hq | hq
 ·obtain ⟨its,r,pl,hz⟩:=I.list hq
  refine SeqAt.in_listAt (eqU x) pl.isList (fun w hw=>pI rx fx r fs w (by simpa using hw)) ⟨.bl _,H,I,rfl,?_⟩
  rw [show its.toArray.any (eqU x) = its.any (eqU x) by simp,uA r fs]
  exact q
 ·obtain ⟨its,r,pl,hz⟩:=I.tuple hq
  refine SeqAt.in_tupleAt (eqU x) pl (fun w hw=>pI rx fx r fs w (by simpa using hw)) ⟨.bl _,H,I,rfl,?_⟩
  rw [show its.toArray.any (eqU x) = its.any (eqU x) by simp,uA r fs]
  exact q
theorem tX:eJ X (.builtin "len") (fun xs H Q=>∃ p ys,xs = [.ref p] ∧ (SqL X.K H p ys ∨ SqT X.K H p ys) ∧ Q (.int ys.length) H):=by
 intro pins s σ H xs us Q I r h
 obtain ⟨p,ys,rfl,hq,q⟩:=h
 obtain ⟨u,rfl,rx⟩:=qY r
 cases rx
 have hn:=pL
 rcases hq with hq | hq
 ·obtain ⟨its,r',pl,hz⟩:=I.list hq
  have hlen:=r'.length
  exact Calls.call_len_list pl.isList (by simp only [List.size_toArray] <;> omega) ⟨.int ys.length,H,I.tok _,⟨s.toks + 1,by rw [List.size_toArray,hlen]⟩,q⟩
 ·obtain ⟨its,r',pl,hz⟩:=I.tuple hq
  have hlen:=r'.length
  exact len_tuple pl (by simp only [List.size_toArray] <;> omega) ⟨.int ys.length,H,I.tok _,⟨s.toks + 1,by rw [List.size_toArray,hlen]⟩,q⟩
theorem tW:eJ X (.builtin "len") (fun xs H Q=>∃ z,xs = [.str z] ∧ z.length ≤ sizeLine ∧ Q (.int z.length) H):=by
 intro pins s σ H xs us Q I r h
 obtain ⟨z,rfl,hz,q⟩:=h
 obtain ⟨u,rfl,t,rfl⟩:=qY r
 have hn:=pL
 exact len_str (by omega) ⟨.int z.length,H,I.tok _,⟨_,rfl⟩,q⟩
theorem tV:eJ X (.type "list") (fun xs H Q=>∃ p ys,xs = [.ref p] ∧ (SqL X.K H p ys ∨ SqT X.K H p ys) ∧ ∀ l,H l = none → Q (.ref l) (upd H l (.lst ys))):=by
 intro pins s σ H xs us Q I r h
 obtain ⟨p,ys,rfl,hq,q⟩:=h
 obtain ⟨u,rfl,rx⟩:=qY r
 cases rx
 have fin:∀ (its:List Value),bC ys its → ys.length ≤ sizeLine → ∀ (h':Heap) (c':Nat),(∀ b o',s.heap.get? b = some o' → h'.get? b = some o') →
   h'.get? s.heap.objs.size = some { cls:=.type "list",dict:=none,data:=.seq its.toArray c',slots:=#[] } → EP X pins σ Q (.ref s.heap.objs.size) { s with heap:=h' }:=fun its r' hz h' c' kp e =>
  ⟨.ref s.heap.objs.size,_,I.laid (t':=s.toks) kp (Nat.le_refl _) (show bX X.prog X.w _ h' _ (.lst ys) from ⟨hz,its,c',r',e⟩),rfl,q _ (I.hok.fresh (Nat.le_refl _))⟩
 rcases hq with hq | hq
 ·obtain ⟨its,r',pl,hz⟩:=I.list hq
  have hlen:=r'.length
  obtain ⟨o,ho,hc,n,hd⟩:=pl.isList
  exact call_list_seq p (.inl rfl) ho hc hd (fun h' c' kp e=>fin its r' hz h' c' kp e) (by simp only [List.size_toArray] <;> omega)
 ·obtain ⟨its,r',pl,hz⟩:=I.tuple hq
  have hlen:=r'.length
  obtain ⟨o,ho,hc,n,hd⟩:=pl
  exact call_list_seq p (.inr rfl) ho hc hd (fun h' c' kp e=>fin its r' hz h' c' kp e) (by simp only [List.size_toArray] <;> omega)
def tyV (K:PySem.W.Frag) (T:String) (x:V) (H:Hp):Prop:=match x with
 | .str _=>T = "str"
 | .int _=>T = "int"
 | .ref p=>(T = "list" ∧ ∃ xs,SqL K H p xs) ∨ (T = "tuple" ∧ ∃ o,K.lookup p = some o ∧ o.cls = .type "tuple" ∧ o.dict = none) ∨
   (T = "dict" ∧ ((∃ kvs,H p = some (.dK kvs)) ∨ ∃ kvs,H p = some (.dT kvs))) ∨ (T = "set" ∧ ∃ S n,H p = some (.set S n)) ∨ (T = "tuple" ∧ ∃ xs,H p = some (.tup xs))
 | _=>False
theorem aAP {pins:List (Addr × Obj)} {σ:St} {H:Hp} {s:Shared} {T:String} {x:V} {v:Value} (I:Inv X pins σ H s) (r:aZ x v) (ty:tyV X.K T x H) :
  s.TypeIs v T ∧ ∀ a,v = .ref a → ∃ ob,s.heap.get? a = some ob ∧ ob.dict = none:=by
 cases x with
 | str z =>
  obtain ⟨t,rfl⟩:=r
  cases (show T = "str" from ty)
  exact ⟨typeIs_str s z t,fun _ e=>nomatch e⟩
 | int i =>
  obtain ⟨t,rfl⟩:=r
  cases (show T = "int" from ty)
  exact ⟨typeIs_int s i t,fun _ e=>nomatch e⟩
 | ref p =>
  cases r
  rcases ty with ⟨rfl,xs,hq⟩ | ⟨rfl,o,hk,hc,hd⟩ | ⟨rfl,hk⟩ | ⟨rfl,S,n,hk⟩ | ⟨rfl,xs,hk⟩
  ·obtain ⟨its,_,pl,_⟩:=I.list hq
   refine ⟨pl.isList.typeIs,fun a e=>?_⟩
   cases e
   obtain ⟨o,n,e,c,hd,_⟩:=pl
   exact ⟨o,e,hd⟩
  ·refine ⟨⟨o,I.kIn p o hk,hc⟩,fun a e=>?_⟩
   cases e
   exact ⟨o,I.kIn _ o hk,hd⟩
  ·have z:∃ o,s.heap.get? p = some o ∧ o.ExactDict:=by
    rcases hk with ⟨kvs,hk⟩ | ⟨kvs,hk⟩
    ·obtain ⟨_,_,_,_,o,_,_,e,ex,_⟩:=I.hok p _ hk
     exact ⟨o,e,ex⟩
    ·obtain ⟨_,_,_,_,o,_,_,e,ex,_⟩:=I.hok p _ hk
     exact ⟨o,e,ex⟩
   obtain ⟨o,e,ex⟩:=z
   refine ⟨⟨o,e,ex.1⟩,fun a e2=>?_⟩
   cases e2
   exact ⟨o,e,ex.2.1⟩
  ·obtain ⟨o,_,_,_,e,ex,_⟩:=I.hok p _ hk
   refine ⟨⟨o,e,ex.1⟩,fun a e2=>?_⟩
   cases e2
   exact ⟨o,e,ex.2.1⟩
  ·obtain ⟨_,_,_,o,e,hc,_,_,hd⟩:=(show bX X.prog X.w H s.heap p (.tup xs) from I.hok p _ hk)
   refine ⟨⟨o,e,hc⟩,fun a e2=>?_⟩
   cases e2
   exact ⟨o,e,hd⟩
 | _=>exact False.elim ty
def aIC (K:PySem.W.Frag) (T:String) (r:V → List V → Hp → VK → Prop) (to:TE):TE:=fun σ H Q=>to σ H fun x H1=>tyV K T x H1 ∧ r x [] H1 Q
def tBM (K:PySem.W.Frag) (T:String) (r:V → List V → Hp → VK → Prop) (to:TE) (t:TA):TE:=fun σ H Q=>to σ H fun x H1=>tyV K T x H1 ∧ t σ H1 fun xs H2=>r x xs H2 Q
variable {o e:Expr} {es:List Expr} {to:TE} {t:TA} {name:Str} {apos cpos:Pos} {T id:String} {r:V → List V → Hp → VK → Prop}
theorem aBS (pa:PlainAttrs T) (slot:Slot T name id) (hty:typeOf (.builtin id) = pure (.type "method_descriptor")) (hm:MtR X id r) (ho:PE X o to)
  (hbase:attributeBase o name X.env (eval o X.env) = eval o X.env:=by rfl) (hline:(apos.endLine == cpos.line) = true:=by rfl):PE X (.Call (.Attribute o name apos) [] [] cpos) (aIC X.K T r to):=by
 intro pins s σ H Q I h
 refine wpAny_Call_method0_late hbase hline (thn (ho pins s σ H _ I h) fun v s1 ⟨x,H1,I1,r1,ty,q1⟩=>?_)
 obtain ⟨h1,h2⟩:=aAP I1 r1 ty
 exact ⟨T,id,pa,slot,hty,h1,h2,Calls.callWith_builtin rfl (PySem.evalArgs_none (hm pins s1 σ H1 x [] v [] Q I1 r1 .nil q1))⟩
theorem vA (pa:PlainAttrs T) (slot:Slot T name id) (hty:typeOf (.builtin id) = pure (.type "method_descriptor")) (hm:MtR X id r) (ho:PE X o to) (ha:PA X (e :: es) t)
  (hbase:attributeBase o name X.env (eval o X.env) = eval o X.env:=by rfl)
  (hfew:((backTo cpos (starEach (e :: es) X.env)).all (fun x=>!x.1) && (backToKw cpos (keywordEach [] X.env)).all (fun x=>x.1.isSome)
   && decide ((e :: es).length + ([]:List Keyword).length + (if ([]:List Keyword).isEmpty then 0 else 1) < 30)) = true:=by rfl)
  (hline:(apos.endLine == cpos.line) = true:=by rfl) (hs:starEach (e :: es) X.env = (false,eval e X.env) :: starEach es X.env:=by rfl) (hplain:(backTo cpos (starEach es X.env)).any (·.1) = false:=by rfl) :
  PE X (.Call (.Attribute o name apos) (e :: es) [] cpos) (tBM X.K T r to t):=by
 intro pins s σ H Q I h
 refine wpAny_Call_method_late hbase hfew hline rfl (thn (ho pins s σ H _ I h) fun v s1 ⟨x,H1,I1,r1,ty,q1⟩=>?_)
 obtain ⟨h1,h2⟩:=aAP I1 r1 ty
 refine ⟨T,id,pa,slot,hty,h1,h2,?_⟩
 have hA:=ha cpos pins s1 σ H1 _ I1 q1
 rw [hs] at hA ⊢
 refine Calls.callWith_builtin (by show (false || (backTo cpos (starEach es X.env)).any (·.1)) = false;rw [hplain] <;> rfl) (Calls.evalArgs_plain ?_)
 exact thn hA fun us s2 ⟨vs,H2,I2,r2,q2⟩=>hm pins s2 σ H2 x vs v us Q I2 r1 r2 q2
end
end L2
namespace L2
open PySem PySem.Spec PyProof.Rows
def MtM (X:Cx) (id:String) (r:V → List V → Hp → VK → Prop):Prop :=
 ∀ (pins:List (Addr × Obj)) (s:Shared) (σ:St) (H:Hp) (x:V) (xs:List V) (v:Value) (us:List Value) (Q:VK),Inv X pins σ H s → aZ x v → bC xs us → r x xs H Q →
  wpAny (model X.prog X.w) X.A (call (.builtin id) (v :: us)) (EP X pins σ Q) X.xe s
theorem bC.one:∀ {x:V} {us:List Value},bC [x] us → ∃ u,us = [u] ∧ aZ x u
 | _,_,.cons r .nil=>⟨_,rfl,r⟩
theorem bC.two:∀ {x y:V} {us:List Value},bC [x,y] us → ∃ u v,us = [u,v] ∧ aZ x u ∧ aZ y v
 | _,_,_,.cons r (.cons q .nil)=>⟨_,_,rfl,r,q⟩
theorem bC.zero:∀ {us:List Value},bC [] us → us = []
 | _,.nil=>rfl
theorem bC.rep {xs:List V} {us:List Value} (h:bC xs us):∀ k:Nat,bC (List.replicate k xs).flatten (List.replicate k us).flatten
 | 0=>.nil
 | k + 1=>by
  rw [List.replicate_succ,List.replicate_succ,List.flatten_cons,List.flatten_cons]
  exact bC.append h (bC.rep h k)
theorem rY (its:List Value):∀ (k:Nat) (acc:List Value),
  List.foldl (fun x1 x2=>x1 ++ x2) acc.toArray (List.replicate k its.toArray) = (acc ++ (List.replicate k its).flatten).toArray
 | 0,acc=>by simp
 | k + 1,acc=>by
  have e:acc.toArray ++ its.toArray = (acc ++ its).toArray:=by simp
  have e2:(acc ++ its) ++ (List.replicate k its).flatten = acc ++ (List.replicate (k + 1) its).flatten:=by
   rw [List.replicate_succ,List.flatten_cons,List.append_assoc]
  rw [← e2,← rY its k (acc ++ its),← e,List.replicate_succ,List.foldl_cons]
section
variable {X:Cx} {pins:List (Addr × Obj)} {σ:St} {H:Hp} {s:Shared} {l b:Addr} {xs ys zs:List V}
theorem Inv.lset {its its':List Value} {n:Nat} {f:Array Value → Array Value} {t':Nat} (I:Inv X pins σ H s) (hH:H l = some (.lst xs))
  (e:s.heap.get? l = some { cls:=.type "list",data:=.seq its.toArray n }) (hf:f its.toArray = its'.toArray) (hv:bC ys its') (hz:ys.length ≤ sizeLine) :
  Inv X pins σ (upd H l (.lst ys)) { s with heap:=s.heap.update l (Obj.mapSeq f),toks:=t' }:=by
 have q:=PySem.IsL.update e f
 rw [hf] at q
 refine I.write (x:=l) (e:=l) (by rw [hH];exact trivial) (.inl rfl) (fun b' u hb hu=>(Heap.get?_update_other s.heap (Obj.mapSeq f) (Ne.symm hb)).trans hu) ⟨_,q⟩ ?_
 exact ⟨hz,its',_,hv,q⟩
theorem Inv.lnew {its:List Value} {t':Nat} (I:Inv X pins σ H s) (hv:bC ys its) (hz:ys.length ≤ sizeLine) :
  Inv X pins σ (upd H s.heap.objs.size (.lst ys)) { s with heap:=s.heap.push { cls:=.type "list",data:=.seq its.toArray },toks:=t' } :=
 I.laid (fun _ _ q=>Heap.get?_push_of_some _ q) (Nat.le_refl _) ⟨hz,its,0,hv,Heap.get?_push_size _ rfl⟩
theorem Inv.fresh (I:Inv X pins σ H s):H s.heap.objs.size = none:=I.hok.fresh (Nat.le_refl _)
theorem Inv.lstM (I:Inv X pins σ H s) (hH:H l = some (.lst xs)):xs.length ≤ sizeLine ∧ ∃ (its:List Value) (n:Nat),bC xs its ∧ xs.length = its.length ∧ s.heap.get? l = some { cls:=.type "list",data:=.seq its.toArray n }:=by
 obtain ⟨z,its,n,r,e⟩:=I.hok l _ hH
 exact ⟨z,its,n,r,r.length,e⟩
theorem aBV {n:Nat} (h:n ≤ sizeLine):Builtin.List.listTooLong n = false:=by
 unfold Builtin.List.listTooLong
 exact decide_eq_false (by omega)
end
section
variable {X:Cx}
def aDJ:V → List V → Hp → VK → Prop:=fun x vs H Q=>∃ l xs y,x = .ref l ∧ vs = [y] ∧ H l = some (.lst xs) ∧ xs.length < sizeLine ∧ Q .non (upd H l (.lst (xs ++ [y])))
theorem kC:MtM X "list.append" aDJ:=by
 intro pins s σ H x vs v us Q I rx rv h
 obtain ⟨l,xs,y,rfl,rfl,hH,hz,q⟩:=h
 cases rx
 obtain ⟨u,rfl,ru⟩:=rv.one
 obtain ⟨z,its,n,r,hl,e⟩:=I.lstM hH
 refine call_meets F.slot_list_append ⟨_,e,rfl⟩ F.entry_list_append (F.args_list_append_2 _ _) (PySem.list_append l its.toArray n u (by rw [List.size_toArray];omega)) ⟨e,?_⟩
 refine ⟨.non,_,I.lset (its':=its ++ [u]) hH e (by simp) (r.append (.cons ru .nil)) ?_,rfl,q⟩
 rw [List.length_append,List.length_singleton]
 omega
def aII:R2:=fun x y H Q=>∃ l b xs zs,x = .ref l ∧ y = .ref b ∧ H l = some (.lst xs) ∧ H b = some (.lst zs) ∧ xs.length + zs.length ≤ sizeLine ∧ ∀ p,H p = none → Q (.ref p) (upd H p (.lst (xs ++ zs)))
theorem tE:OpR X (binaryOp .Add) aII:=by
 intro pins s σ H x y v u Q I rx ry h
 obtain ⟨l,b,xs,zs,rfl,rfl,hH,hB,hz,q⟩:=h
 cases rx
 cases ry
 obtain ⟨z,its,n,r,hl,e⟩:=I.lstM hH
 obtain ⟨z2,its2,n2,r2,hl2,e2⟩:=I.lstM hB
 refine PySem.P.add_list e e2 ?_ (by rw [List.size_toArray,List.size_toArray];omega)
 have ea:its.toArray ++ its2.toArray = (its ++ its2).toArray:=by simp
 rw [ea]
 exact ⟨.ref _,_,I.lnew (t':=s.toks) (r.append r2) (by rw [List.length_append];omega),rfl,q _ I.fresh⟩
def aIG:R2:=fun x y H Q=>∃ l k xs,x = .ref l ∧ y = .int k ∧ H l = some (.lst xs) ∧ -(2 ^ 63) ≤ k ∧ k < 2 ^ 63 ∧ xs.length * k.toNat ≤ sizeLine ∧
 ∀ p,H p = none → Q (.ref p) (upd H p (.lst (List.replicate k.toNat xs).flatten))
theorem aDX {α:Type} (xs:List α) (k:Nat):(List.replicate k xs).flatten.length = k * xs.length:=by
 induction k with
 | zero=>simp
 | succ k ih=>rw [List.replicate_succ,List.flatten_cons,List.length_append,ih,Nat.succ_mul,Nat.add_comm]
theorem aFI:OpR X (binaryOp .Mult) aIG:=by
 intro pins s σ H x y v u Q I rx ry h
 obtain ⟨l,k,xs,rfl,rfl,hH,h1,h2,hz,q⟩:=h
 cases rx
 obtain ⟨t,rfl⟩:=ry
 obtain ⟨z,its,n,r,hl,e⟩:=I.lstM hH
 have hlen:its.toArray.size * k.toNat ≤ sizeLine:=by rw [List.size_toArray,← hl];exact hz
 have hcap:¬ its.toArray.size * k.toNat > (2 ^ 63 - 1) / 8:=by
  have:(sizeLine:Nat) ≤ (2 ^ 63 - 1) / 8:=by decide
  omega
 have hfit:¬ (!Builtin.List.listFitsIndex k) = true:=by
  rw [fitsIndex_both h1 h2]
  exact Bool.false_ne_true
 have hlong:¬ Builtin.List.listTooLong (its.toArray.size * k.toNat) = true:=by
  rw [aBV hlen]
  exact Bool.false_ne_true
 have hnew:List.foldl (fun x1 x2=>x1 ++ x2) #[] (List.replicate (if its.toArray.isEmpty = true then 0 else k.toNat) its.toArray) = (List.replicate k.toNat its).flatten.toArray:=by
  have f0:∀ m:Nat,List.foldl (fun x1 x2=>x1 ++ x2) #[] (List.replicate m its.toArray) = (List.replicate m its).flatten.toArray:=fun m=>by
   have:=rY its m []
   rw [List.nil_append] at this
   exact this
  rw [f0]
  cases its with
  | nil=>simp
  | cons a r'=>rw [if_neg (by simp)]
 refine wpAny_binaryOp_repeat_ref (T:="list") (U:="int") (by decide) ⟨_,e,rfl⟩ (fun s'=>typeIs_int s' k t) noFill_list_mul F.fills_int_mul F.slot_int_rmul repeat_list F.slot_int_index.lookup
  (call_meets F.slot_int_rmul (typeIs_int s k t) F.entry_int_rmul (F.args_int_rmul_2 _ _) (int___rmul___int_list k t l its.toArray n)
   ⟨e,rfl,⟨_,e,rfl⟩,call_meets F.slot_list_mul ⟨_,e,rfl⟩ F.entry_list_mul (F.args_list_mul_2 _ _) (AutoListH.list___mul___list_int_3 l its.toArray n k t hfit hcap hlong) ⟨e,?_⟩⟩)
 rw [hnew]
 exact ⟨.ref _,_,I.lnew (t':=s.toks) (r.rep k.toNat) (by rw [aDX,Nat.mul_comm];exact hz),rfl,q _ I.fresh⟩
end
section
variable {prog:Program} {w:World} {A:Around} {E:Value → Shared → Prop} {s:Shared}
end
section
variable {X:Cx}
end
end L2
namespace Att
open PySem PySem.W PySem.Calls PyProof.Rows
theorem nO {P:Params} {h:Heap}:∀ (ns:List Int) (vs:List Value),WellAll P h vs (ns.map WData.int) → IntsAre vs ns:=by
 intro ns
 induction ns with
 | nil =>
  intro vs w
  rw [List.map_nil] at w
  cases w
  exact .nil
 | cons n ns ih =>
  intro vs w
  rw [List.map_cons] at w
  cases w with
  | cons a b =>
   cases a
   exact .cons _ _ (ih _ b)
theorem zC {l:OpenLaw} {n:Nat} (hn:l.most = some n) {P:Params} {h:Heap} {args:List WData} {vals:List Value}
  (hpre:l.row.toRowW.claim.pre args = true) (hwl:WellAll P h vals args) :
  ∃ a vs ns,vals = [Value.ref a] ∧ args = [WData.list (ns.map WData.int)] ∧ h.get? a = some { cls:=.type "list",data:=.seq vs.toArray } ∧ IntsAre vs ns ∧ ns.length ≤ n:=by
 have hsh:WShape.hasAll [] args [.list .int] = true:=(pre_splitW hpre).1
 have hc:l.pre.holds [] { args:=args } = true:=(pre_splitW hpre).2
 obtain ⟨d,r,rfl,h1,h2⟩:=hasAllW_cons hsh
 obtain rfl:=hasAllW_nil h2
 obtain ⟨xs,rfl,h3⟩:=hasW_list h1
 obtain ⟨ns,rfl⟩:=items_int h3
 have hlen:ns.length ≤ n:=by
  unfold OpenLaw.pre at hc
  have h4:(WTm.not (.lt (.lit (.int (n:Int))) (.len (.arg 0)))).holds [] { args:=[.list (ns.map .int)] } = true:=by
   have h4:=(holds_andW hc).1
   rw [hn] at h4
   exact h4
  have h5:=condW_of h4 (w_not (w_lt w_lit (w_len_list (w_arg rfl))))
  rw [List.length_map] at h5
  refine Nat.le_of_not_lt fun q=>?_
  have q':(n:Int) < ((ns.length:Nat):Int):=by omega
  first
   | (rw [decide_eq_true q'] at h5;exact absurd h5 (by decide))
   | (simp at h5;omega)
 cases hwl with
 | cons w1 w2 =>
  cases w2
  cases w1 with
  | list ho hall=>exact ⟨_,_,ns,rfl,rfl,ho,nO ns _ hall,hlen⟩
theorem zI (l:OpenLaw) (args:List WData):l.row.toRowW.claim.post args (.bool true) args = true :=
 postW_of (r:=l.row.toRowW) (X:=(true == true))
  (show WShape.has [] (.bool true) .bool = true by first | rfl | decide | simp [WShape.has,WShape.arms,WShape.armsAll])
  (show (WTm.eq .res (.lit (.bool true))).value [] { args:=args,res:=some (.bool true),after:=args } = some (.bool (true == true)) from w_eq_bool (w_res rfl) w_lit) rfl
theorem attach_call {l:OpenLaw} {n:Nat} {q:Program} {loose:List Str} {XP:(Str → Option Value) → Heap → Prop} {YP:World → Heap → Prop} {d:DefRec}
  (hn:l.most = some n) (hdf:d.params.defaults = [])
  (call:∀ (w:World) (s₀ s₁:Shared) (mg mb:Str → Option Value) (fa:Addr) (o:Obj) (pm cd doc:Value) (a:Addr) (vs:List Value) (ns:List Int),
   Ground q loose [] XP w s₀ mg mb s₁.heap → YP w s₁.heap →
   s₁.heap.get? fa = some o → o.data = .func (docDef d.name d.params d.body d.scope pm cd doc) → s₁.heap.CodeRec cd d.name → mg d.name = some (.ref fa) →
   s₁.heap.get? a = some { cls:=.type "list",data:=.seq vs.toArray } → IntsAre vs ns → ns.length ≤ n → s₁.gens = #[] →
   codeAny (model l.prog w) callerA (.call (.ref fa) ⟨[.ref a],[]⟩) (fun r s'=>r = .ok (.ret (.bool true)) ∧ OldK s₁.heap s'.heap ∧ s'.os = s₁.os ∧ AllBare s'.gens) s₁) :
  WalkO q loose XP YP l.row.toRowW d [] (fun f vs=>PySem.call f vs):=by
 intro w s₀ s₁ mg mb G Y fa o pm cd doc dV kV ho hd hcd hD hmg hg args vals as hpre hlay hrd hwl hlo
 obtain rfl:dV = .none:=Dflts.none hD hdf
 obtain rfl:kV = .none:=Dflts.noKw hD
 obtain ⟨a,vs,ns,rfl,rfl,hobj,hints,hlen⟩:=zC hn hpre hwl
 refine enter_call (codeAny_mono (call w s₀ s₁ mg mb fa o pm cd doc a vs ns G Y ho (fd_plain hd) hcd hmg hobj hints hlen hg) fun r s' hq=>?_)
 obtain ⟨rfl,h2,h3,h4⟩:=hq
 exact ⟨.inl ⟨.bool true,.bool true,[],rfl,fun _=>rfl,.bool true,zI l _,fun _=>⟨List.Pairwise.nil,fun _ hm=>(nomatch hm)⟩⟩,h2,h3,h4⟩
section
variable {prog:Program} {w:World} {A:Around} {E:Value → Shared → Prop} {s:Shared} {K:Frag}
def noObjs (h:Heap):Heap:={ h with objs:=#[] }
def ledger (h:Heap) (L d:Addr):List (Addr × Obj):=(List.range h.objs.size).filterMap fun a=>if a = L ∨ a = d then none else (h.get? a).map fun o=>(a,o)
end
end Att
namespace L2
open PySem PySem.Spec PyProof.Rows
theorem qX:∀ {vs:List Value} {ns:List Int},IntsAre vs ns → bC (ns.map V.int) vs
 | _,_,.nil=>.nil
 | _,_,.cons n t h=>.cons ⟨t,rfl⟩ (qX h)
def aGB (H:Hp):Prop:=∀ b,H b = none ∨ ∃ o xs,H b = some (.frz o (.lst xs))
theorem aBY {P:Program} {w:World} {K:PySem.W.Frag} {mg mb:Str → Option Value} {CX:CXT} {k:Nat} {fa a:Addr} {fd:FuncData} {x:Str} {sp:Sp} {s₁:Shared} {vs:List Value} {ns:List Int}
  (KX:K.In s₁.heap) (hns:s₁.heap.Ns mainGlobals mg) (hb:s₁.heap.Ns builtinsNs mb) (hbb:∀ x:Str,x ≠ "__name__" → mb x = bootBuiltins x) (hlim:s₁.heap.NoLimit) (hg:s₁.gens = #[])
  (ha:s₁.heap.get? a = some { cls:=.type "list",data:=.seq vs.toArray }) (hi:IntsAre vs ns) (hl:ns.length ≤ sizeLine) (hr:Room k callerA)
  (F:∀ base:Heap,K.In base → base.Ns mainGlobals mg → FnOk P w K mg base CX k fa fd [x] sp) (hbind:∀ (s:Shared) (u:Value),BindsTo s fd ⟨[u],[]⟩ [(x,u)])
  (hsp:∀ H:Hp,aGB H → SqL K H a (ns.map V.int) → sp [.ref a] H (fun v _=>v = .bl true) fun _ _ _=>False)
  (hCX:∀ H e s',CX [] H s₁ (fun _ _ _=>False) e s' → False) :
  codeAny (model P w) callerA (.call (.ref fa) ⟨[.ref a],[]⟩) (fun r s'=>r = .ok (.ret (.bool true)) ∧ OldK s₁.heap s'.heap ∧ s'.os = s₁.os ∧ AllBare s'.gens) s₁:=by
 have rv:=qX hi
 have lenV:=hi.length
 have core:∀ H:Hp,aGB H → SqL K H a (ns.map V.int) → HOk P w H s₁.heap → (∀ b,H b ≠ none → b = a) → (H a ≠ none → K.lookup a = none) →
   codeAny (model P w) callerA (.call (.ref fa) ⟨[.ref a],[]⟩) (fun r s'=>r = .ok (.ret (.bool true)) ∧ OldK s₁.heap s'.heap ∧ s'.os = s₁.os ∧ AllBare s'.gens) s₁:=by
  intro H hO hS hok hA hK
  have base_of:∀ {b:Addr} {o:Obj},s₁.heap.get? b = some o → H b = none → (tP s₁.heap H).get? b = some o:=fun e n=>aCG e n
  have noA:∀ {b:Addr} {o:Obj} {es:Array DictEntry} {ep:Nat},s₁.heap.get? b = some o → o.data = .dict es ep → H b = none:=fun {b o es ep} e d=>by
   cases q:H b with
   | none=>rfl
   | some u =>
    have e':b = a:=hA b (by rw [q];simp)
    subst e'
    rw [ha] at e;cases e
    have d':Data.seq vs.toArray _ = Data.dict es ep:=d
    cases d'
  have nsK:∀ {b:Addr} {m:Str → Option Value},s₁.heap.Ns b m → (tP s₁.heap H).Ns b m:=fun {b m} ⟨o,es,ep,e,d,r⟩=>⟨o,es,ep,base_of e (noA e d),d,r⟩
  have hKb:K.In (tP s₁.heap H):=fun b o e=>base_of (KX b o e) (by
   cases q:H b with
   | none=>rfl
   | some u =>
    have e':b = a:=hA b (by rw [q];simp)
    subst e'
    rw [hK (by rw [q];simp)] at e;cases e)
  have hM:Mod K mg (tP s₁.heap H):=⟨hKb,nsK hns,⟨mb,nsK hb,hbb⟩,let ⟨mc,h1,h2⟩:=hlim;⟨mc,nsK h1,h2⟩⟩
  have e0:Env0 P w K mg (tP s₁.heap H) callerA [] s₁ H:=⟨rfl,hM,fun b o e=>aDT e,Nat.le_of_eq (zR _ _),trivial,fun b hb=>absurd (show b ∈ ([]:List Addr) from hb) (by simp),hok,.of_eq hg⟩
  refine codeAny_mono ((F _ hKb (nsK hns)).run callerA [] s₁ H ⟨[.ref a],[]⟩ [.ref a] [.ref a] _ _ hr e0 (hbind s₁ (.ref a)) (.cons rfl .nil) (hsp H hO hS)) fun r s' h=>?_
  cases r with
  | error e=>exact (hCX H e s' h).elim
  | ok fl =>
   cases fl with
   | next=>exact False.elim h
   | brk=>exact False.elim h
   | cont=>exact False.elim h
   | ret u =>
    obtain ⟨v,H',os,bare,un,hok',r',q⟩:=h
    have q':v = .bl true:=q
    subst q'
    obtain rfl:u = Value.bool true:=r'
    refine ⟨rfl,OldK.of_keep fun b o e=>?_,os,bare⟩
    cases q:H b with
    | none=>exact un.keep b o e q (by intro z;exact absurd (show b ∈ ([]:List Addr) from z) (by simp)) (by simp)
    | some u =>
     rcases hO b with z | ⟨ob,xs,z⟩
     ·rw [q] at z;cases z
     ·have z2:=un.frzs b ob _ z
      obtain ⟨e1,_⟩:=hok b _ z
      obtain ⟨e2,_⟩:=hok' b _ z2
      rw [e] at e1;cases e1
      exact e2
 cases hk:K.lookup a with
 | some o =>
  have e:=KX a o hk
  rw [ha] at e
  cases e
  refine core (fun _=>none) (fun _=>.inl rfl) (.inr ⟨_,vs.toArray,_,hk,rfl,rfl,rfl,by rw [List.size_toArray,lenV];exact hl,by simpa using rv⟩) (fun b u z=>by have z':(none:Option HO) = some u:=z;cases z') (fun b z=>absurd rfl z) fun z=>absurd rfl z
 | none =>
  refine core (fun b=>if b = a then some (.frz { cls:=.type "list",data:=.seq vs.toArray } (.lst (ns.map V.int))) else none) (fun b=>?_) (.inl (.inr ⟨{ cls:=.type "list",data:=.seq vs.toArray },if_pos rfl⟩)) (fun b u z=>?_) (fun b z=>?_) fun _=>hk
  ·by_cases hb:b = a
   ·exact .inr ⟨_,_,if_pos hb⟩
   ·exact .inl (if_neg hb)
  ·by_cases hb:b = a
   ·have z':=(if_pos hb).symm.trans z
    cases z'
    subst hb
    exact ⟨ha,by rw [List.length_map];exact hl,vs,_,rv,ha⟩
   ·have z':=(if_neg hb).symm.trans z
    cases z'
  ·by_cases hb:b = a
   ·exact hb
   ·exact absurd (if_neg hb) z
end L2
namespace L2
open PySem PySem.Spec PyProof.Rows
theorem walk_of {l:PySem.W.OpenLaw} {n k:Nat} {q:Program} {loose:List Str} {XP:(Str → Option Value) → Heap → Prop} {YP:World → Heap → Prop} {d:DefRec} {K:Params → PySem.W.Frag} {CX:World → CXT} {sp:World → Sp} {x:Str}
  (hn:l.most = some n) (hn2:n ≤ sizeLine) (hdf:d.params.defaults = []) (hr:Room k callerA)
  (hY:∀ (w:World) (h:Heap),YP w h → (K w.params).In h)
  (F:∀ (w:World) (mg:Str → Option Value) (fa:Addr) (h:Heap),(K w.params).In h → h.Ns mainGlobals mg → mg d.name = some (.ref fa) →
   ∃ fd:FuncData,(∀ (s:Shared) (u:Value),BindsTo s fd ⟨[u],[]⟩ [(x,u)]) ∧
    ∀ base:Heap,(K w.params).In base → base.Ns mainGlobals mg → FnOk l.prog w (K w.params) mg base (CX w) k fa fd [x] (sp w))
  (hsp:∀ (w:World) (H:Hp) (a:Addr) (ns:List Int),ns.length ≤ n → aGB H → SqL (K w.params) H a (ns.map V.int) → sp w [.ref a] H (fun v _=>v = .bl true) fun _ _ _=>False)
  (hCX:∀ (w:World) (H:Hp) (s:Shared) (e:Value) (s':Shared),CX w [] H s (fun _ _ _=>False) e s' → False) :
  PySem.W.WalkO q loose XP YP l.row.toRowW d [] (fun f vs=>PySem.call f vs):=by
 refine Att.attach_call hn hdf fun w s₀ s₁ mg mb fa o pm cd doc a vs ns G Y ho hd hcd hmg hobj hints hlen hg=>?_
 have KX:=hY w _ Y
 obtain ⟨fd,hb,hF⟩:=F w mg fa _ KX G.T.g hmg
 exact aBY KX G.T.g G.T.b G.T.builtins G.T.nolimit hg hobj hints (Nat.le_trans hlen hn2) hr hF hb (fun H hO hS=>hsp w H a ns hlen hO hS) fun H e s'=>hCX w H s₁ e s'
end L2
namespace L2
open PySem PySem.Spec PyProof.Rows
def fQ (s:Stmt) (j:Nat):Stmt:=match s with
 | .ClassDef _ _ _ body _ _ _ _ _ _ _=>body.getD j (.Pass ⟨0,0,0,0⟩)
 | _=>.Pass ⟨0,0,0,0⟩
def aP (s:Stmt):Arguments:=match s with
 | .FunctionDef _ a _ _ _ _ _ _ _ _=>a
 | _=>{ posonlyargs:=[],args:=[],vararg:=none,kwonlyargs:=[],kw_defaults:=[],kwarg:=none,defaults:=[] }
def aN (s:Stmt):List Stmt:=match s with
 | .FunctionDef _ _ b _ _ _ _ _ _ _=>b
 | _=>[]
def aB (s:Stmt):Scope:=match s with
 | .FunctionDef _ _ _ _ _ _ sc _ _ _=>sc
 | _=>{ kind:=.function,names:=[],isGenerator:=false,isCoroutine:=false }
abbrev CX0:CXT:=fun _ _ _ _ _ _=>False
abbrev E0:XK:=fun _ _ _=>False
theorem yG {X:Cx}:lC CX0 X E0:=fun _ _ _ _ _ _ _ h=>h.elim
structure Fun (K:PySem.W.Frag) (x qual:Str) (st:Stmt) (f:Addr) (fd:FuncData):Prop where
 ex:∃ (oc:Value) (od:Option Addr) (kV doc pm:Value) (an:Option Addr) (cdv ct:Value) (osl:Array (Option Value)),
  fd = PySem.W.fnOf x qual (aP st) (aN st) (aB st) .none kV doc pm an cdv ct ∧ K.lookup f = some ⟨oc,od,.func fd,osl⟩ ∧ PySem.W.codeIn K cdv qual = true
 kp:PySem.W.keepIn K (.ref f) = true
section
variable {P:Program} {w:World} {K:PySem.W.Frag} {mg:Str → Option Value} {base:Heap}
theorem Fun.ok {x qual:Str} {st:Stmt} {f:Addr} {fd:FuncData} {N ps:List Str} {k:Nat} {sp:Sp} (F:Fun K x qual st f fd) (S:FnScope N ps (aB st)) (len:∀ vs H Q E,sp vs H Q E → vs.length = ps.length)
  (hbody:∀ (cdv:Value) (A:Around) (outer:List Env) (s:Shared) (H:Hp) (vs:List V) (Q:VK) (E:XK),Room k (A.deeper (envOfC qual (aB st) s.heap.objs.size f cdv)) → sp vs H Q E →
   ∃ t,PSs (nP CX0 P w K mg base N qual (aB st) f cdv A outer s H E).nox (aN st) t ∧ t { nx:=fun _ H'=>Q .non H',rt:=Q } (iD N vs) H):FnOk P w K mg base CX0 (k + 1) f fd ps sp:=by
 obtain ⟨oc,od,kV,doc,pm,an,cdv,ct,osl,rfl,lk,hcd⟩:=F.ex
 refine aHL lk hcd S len fun A outer s H vs Q E hr hsp=>?_
 obtain ⟨t,h,q⟩:=hbody cdv A outer s H vs Q E hr hsp
 exact ⟨t,h.nox,q⟩
theorem Fun.binds {x qual:Str} {st:Stmt} {f:Addr} {fd:FuncData} {ps:List Str} (F:Fun K x qual st f fd)
  (h:∀ (kV doc pm:Value) (an:Option Addr) (cdv ct:Value) (us:List Value),us.length = ps.length → bindArgs (PySem.W.fnOf x qual (aP st) (aN st) (aB st) .none kV doc pm an cdv ct) ⟨us,[]⟩ = pure (ps.zip us)):fE K fd ps []:=by
 obtain ⟨oc,od,kV,doc,pm,an,cdv,ct,osl,rfl,lk,hcd⟩:=F.ex
 exact .all (h kV doc pm an cdv ct)
theorem mK {x qual:Str} {st:Stmt} {f:Addr} {oc:Value} {od an:Option Addr} {osl:Array (Option Value)} {kV doc pm cdv ct:Value} (l:K.lookup f = some ⟨oc,od,.func (PySem.W.fnOf x qual (aP st) (aN st) (aB st) .none kV doc pm an cdv ct),osl⟩)
  (c:PySem.W.codeIn K cdv qual = true) (k:PySem.W.keepIn K (.ref f) = true):Fun K x qual st f (PySem.W.fnOf x qual (aP st) (aN st) (aB st) .none kV doc pm an cdv ct):=⟨⟨oc,od,kV,doc,pm,an,cdv,ct,osl,rfl,l,c⟩,k⟩
end
theorem pP {A:Around} {k:Nat} (hr:Room k A):A.units + 1 < cLine:=Nat.lt_of_le_of_lt (Nat.add_le_add_left (by decide:1 ≤ 64) _) hr.units
section
variable {X:Cx}
theorem pv (i:Nat) {x:Str} {pos:Pos} (hN:X.N[i]? = some x:=by rfl) (hv:Vis X.env.scope x:=by first | exact Or.inl rfl | exact Or.inr (Or.inl rfl) | exact Or.inr (Or.inr rfl)) (hd:(x == ("__debug__":Str)) = false:=by decide)
  (hcd:(x == ("__classdict__":Str)) = false:=by decide):PE X (.Name x pos) (aGE i):=aFF hN hv hd hcd
end
theorem cN {A B:Prop} (h:B):if false = true then A else B:=by
 rw [if_neg Bool.false_ne_true]
 exact h
theorem gK {A B:Prop} (h:A):if true = true then A else B:=by
 rw [if_pos rfl]
 exact h
theorem fZ {c A B:Prop} [Decidable c] (h1:c → A) (h2:¬ c → B):if c then A else B:=by
 by_cases h:c
 ·rw [if_pos h]
  exact h1 h
 ·rw [if_neg h]
  exact h2 h
def aM (H H':Hp):Prop:=∀ b o,H b = some o → H' b = some o
theorem aM.refl (H:Hp):aM H H:=fun _ _ h=>h
theorem aM.trans {H H1 H2:Hp} (a:aM H H1) (b:aM H1 H2):aM H H2:=fun c o h=>b c o (a c o h)
theorem aM.free {H H':Hp} (e:aM H H') {l:Addr} (h:H' l = Option.none):H l = Option.none:=by
 cases q:H l with
 | none=>rfl
 | some o =>
  rw [e l o q] at h
  cases h
theorem aM.seq {K:PySem.W.Frag} {H H':Hp} {a:Addr} {xs:List V} (e:aM H H') (h:SqL K H a xs):SqL K H' a xs:=by
 rcases h with (h | ⟨o,h⟩) | h
 ·exact .inl (.inl (e _ _ h))
 ·exact .inl (.inr ⟨o,e _ _ h⟩)
 ·exact .inr h
end L2
namespace L2
open PySem PySem.Spec PyProof.Rows
section
variable {X:Cx}
theorem sD:eJ X (.builtin "len") (fun xs H Q=>∃ a kvs,xs = [V.ref a] ∧ H a = some (.dK kvs) ∧ Q (.int kvs.length) H):=by
 intro pins s σ H xs us Q I r h
 obtain ⟨a,kvs,rfl,ha,q⟩:=h
 obtain ⟨u,rfl,ru⟩:=qY r
 cases ru
 exact aHO I (.inl ha) fun t s' I'=>⟨.int kvs.length,H,I',⟨t,rfl⟩,q⟩
end
section
variable {κ:Type} [DecidableEq κ]
theorem sM {kvs:List (κ × V)} {k:κ} {v:V} (h:dC kvs k = some v):k ∈ kvs.map (·.1):=by
 have q:(kvs.any fun kv=>decide (kv.1 = k)) = true:=by
  rw [fR,h]
  all_goals rfl
 obtain ⟨p,hp,e⟩:=List.any_eq_true.mp q
 exact List.mem_map.mpr ⟨p,hp,of_decide_eq_true e⟩
end
end L2
namespace Tx
open PySem PySem.Builtin PySem.Builtin.Str
def cl (n d:Nat):Option Int → Nat
 | none=>d
 | some i=>(max 0 (min (if i < 0 then i + n else i) n)).toNat
theorem cl_nat (n d k:Nat):cl n d (some (k:Int)) = min k n:=by
 show (max 0 (min (if (k:Int) < 0 then (k:Int) + n else (k:Int)) n)).toNat = min k n
 rw [if_neg (by omega)]
 omega
theorem aEX (n d:Nat) (hd:d ≤ n):∀ o,cl n d o ≤ n
 | none=>hd
 | some i=>by
  show (max 0 (min (if i < 0 then i + n else i) n)).toNat ≤ n
  omega
theorem xD (lo hi:Option Int) (n:Nat):strSliceIndices lo hi 1 n = (List.range (cl n n hi - cl n 0 lo)).map (cl n 0 lo + ·):=by
 have h1:∀ (v:Option Int) (d:Nat),d ≤ n → (match v with | none=>(d:Int) | some i=>if (1:Int) > 0 then max 0 (min (if i < 0 then i + n else i) n) else max (-1) (min (if i < 0 then i + n else i) (n - 1))) = ((cl n d v:Nat):Int):=by
  intro v d hd
  cases v with
  | none=>rfl
  | some i =>
   show (if (1:Int) > 0 then max 0 (min (if i < 0 then i + n else i) n) else max (-1) (min (if i < 0 then i + n else i) (n - 1))) = (((max 0 (min (if i < 0 then i + n else i) n)).toNat:Nat):Int)
   rw [if_pos (by decide)]
   omega
 rw [← sliceRange_one]
 unfold strSliceIndices
 have a:=h1 lo 0 (Nat.zero_le _)
 have b:=h1 hi n (Nat.le_refl _)
 simp only [show (1:Int) > 0 by decide,if_true] at a b ⊢
 congr 1
theorem slice_codes (x:Str) (lo hi:Option Int):(Txt.slice x lo hi).cps.toList = (x.cps.toList.drop (cl x.length 0 lo)).take (cl x.length x.length hi - cl x.length 0 lo):=by
 unfold Txt.slice
 rw [xD]
 split
 ·rename_i h
  have h':cl x.length x.length hi - cl x.length 0 lo = x.length:=by
   have:=(Bool.and_eq_true_iff.mp h).2
   have:=beq_iff_eq.mp this
   simpa using this
  have h2:=aEX x.length x.length (Nat.le_refl _) hi
  have h4:=aEX x.length 0 (Nat.zero_le _) lo
  have h3:cl x.length 0 lo = 0:=by omega
  rw [h',h3,List.drop_zero,List.take_of_length_le]
  show x.cps.toList.length ≤ x.cps.size
  simp
 ·rw [pick_run]
theorem app_codes (a b:Str):(a ++ b).cps.toList = a.cps.toList ++ b.cps.toList:=by
 simp [Str.cps_append]
theorem app_len (a b:Str):(a ++ b).length = a.length + b.length:=Str.length_append a b
end Tx
set_option maxHeartbeats 4000000
namespace L2
open PySem PySem.Spec PyProof.Rows
theorem jP {env:Env} {f:(Str × NameKind) → List (Str × Addr) → Sem (ForInStep (List (Str × Addr)))}
  (hf:∀ n k cs,f (n,k) cs = if (k == NameKind.free) = true then (cellOf env n >>= fun c=>pure (ForInStep.yield ((n,c) :: cs))) else pure (ForInStep.yield cs)) :
  ∀ (names:List (Str × NameKind)) (acc:List (Str × Addr)),
  (∀ y ∈ names,y.2 = .free → ∃ c,env.cells.lookup y.1 = some c) →
  (∀ x c,acc.lookup x = some c → env.cells.lookup x = some c) →
  ∃ cl,forIn names acc f = (pure cl:Sem _) ∧ (∀ x c,cl.lookup x = some c → env.cells.lookup x = some c) ∧ (∀ x c,acc.lookup x = some c → ∃ d,cl.lookup x = some d) ∧
   ∀ x,(x,NameKind.free) ∈ names → ∃ c,cl.lookup x = some c
 | [],acc,_,ha=>⟨acc,rfl,ha,fun x c e=>⟨c,e⟩,fun x m=>absurd m (by simp)⟩
 | (n,k) :: r,acc,hn,ha=>by
  have hr:∀ y ∈ r,y.2 = .free → ∃ c,env.cells.lookup y.1 = some c:=fun y hy=>hn y (List.mem_cons_of_mem _ hy)
  by_cases hk:k = .free
  ·subst hk
   obtain ⟨c,hc⟩:=hn (n,.free) List.mem_cons_self rfl
   have hcell:cellOf env n = pure c:=by
    have hc':env.cells.lookup n = some c:=hc
    unfold cellOf
    rw [hc']
   have ha':∀ x d,List.lookup x ((n,c) :: acc) = some d → env.cells.lookup x = some d:=fun x d e=>by
    by_cases hx:(x == n) = true
    ·rw [List.lookup_cons,hx] at e
     obtain rfl:=beq_iff_eq.mp hx
     cases e
     exact hc
    ·have hx':(x == n) = false:=by simpa using hx
     rw [List.lookup_cons,hx'] at e
     exact ha x d e
   obtain ⟨cl,e1,e2,e3,e4⟩:=jP hf r ((n,c) :: acc) hr ha'
   refine ⟨cl,?_,e2,fun x d e=>?_,fun x m=>?_⟩
   ·rw [List.forIn_cons,hf,if_pos (beq_self_eq_true _),hcell,pure_bind,pure_bind]
    exact e1
   ·by_cases hx:(x == n) = true
    ·exact e3 x c (by rw [List.lookup_cons,hx])
    ·have hx':(x == n) = false:=by simpa using hx
     exact e3 x d (by rw [List.lookup_cons,hx'];exact e)
   ·rcases List.mem_cons.mp m with q | q
    ·have q':x = n:=congrArg Prod.fst q
     subst q'
     exact e3 x c (by rw [List.lookup_cons,beq_self_eq_true])
    ·exact e4 x q
  ·have hk':(k == NameKind.free) = false:=by simpa using hk
   obtain ⟨cl,e1,e2,e3,e4⟩:=jP hf r acc hr ha
   refine ⟨cl,?_,e2,e3,fun x m=>?_⟩
   ·rw [List.forIn_cons,hf,hk',if_neg Bool.false_ne_true,pure_bind]
    exact e1
   ·rcases List.mem_cons.mp m with q | q
    ·exact absurd (congrArg Prod.snd q).symm hk
    ·exact e4 x q
theorem qD {scope:Scope} {env:Env} (h:∀ y ∈ scope.names,y.2 = .free → ∃ c,env.cells.lookup y.1 = some c) :
  ∃ cl,closureFor scope env = pure cl ∧ (∀ x c,cl.lookup x = some c → env.cells.lookup x = some c) ∧ ∀ x,(x,NameKind.free) ∈ scope.names → ∃ c,cl.lookup x = some c:=by
 obtain ⟨cl,e1,e2,_,e4⟩:=jP (env:=env) (f:=fun (x:Str × NameKind) cs=>match x with | (name,kind)=>if (kind == NameKind.free) = true then (cellOf env name >>= fun c=>pure (ForInStep.yield ((name,c) :: cs))) else pure (ForInStep.yield cs)) (fun n k cs=>rfl) scope.names [] h (fun x c e=>by cases e)
 refine ⟨cl,?_,e2,e4⟩
 have:closureFor scope env = (forIn scope.names [] (fun (x:Str × NameKind) cs=>match x with | (name,kind)=>if (kind == NameKind.free) = true then (cellOf env name >>= fun c=>pure (ForInStep.yield ((name,c) :: cs))) else pure (ForInStep.yield cs)) >>= fun cs=>pure cs):=by
  first | rfl | (unfold closureFor;rfl) | (unfold closureFor;simp only [pure_bind,bind_pure])
 rw [this,e1,pure_bind]
theorem gF {env:Env}:∀ {names:List (Str × NameKind)} {x:Str},names.lookup x = some .free →
  (names.map fun (n,k)=>if (k == NameKind.free && env.scope.kind == .function && env.kindOf n == some .cell) then (n,NameKind.cell) else (n,k)).lookup x = some .cell ∨
  (names.map fun (n,k)=>if (k == NameKind.free && env.scope.kind == .function && env.kindOf n == some .cell) then (n,NameKind.cell) else (n,k)).lookup x = some .free
 | [],_,h=>by simp at h
 | (n,k) :: r,x,h=>by
  have ih:=@gF env r x
  show List.lookup x ((if (k == NameKind.free && env.scope.kind == .function && env.kindOf n == some .cell) = true then (n,NameKind.cell) else (n,k)) :: _) = _ ∨ List.lookup x ((if (k == NameKind.free && env.scope.kind == .function && env.kindOf n == some .cell) = true then (n,NameKind.cell) else (n,k)) :: _) = _
  cases hx:x == n with
  | true =>
   simp only [List.lookup_cons,hx] at h
   cases h
   by_cases hc:(NameKind.free == NameKind.free && env.scope.kind == .function && env.kindOf n == some .cell) = true
   ·rw [if_pos hc];left;simp only [List.lookup_cons,hx]
   ·rw [if_neg hc];right;simp only [List.lookup_cons,hx]
  | false =>
   simp only [List.lookup_cons,hx] at h
   by_cases hc:(k == NameKind.free && env.scope.kind == .function && env.kindOf n == some .cell) = true
   ·rw [if_pos hc];simp only [List.lookup_cons,hx];exact ih h
   ·rw [if_neg hc];simp only [List.lookup_cons,hx];exact ih h
theorem iH {env:Env}:∀ {names:List (Str × NameKind)} {x:Str},(∀ y ∈ names,y.2 ≠ .cell) →
  ((names.map fun (n,k)=>if (k == NameKind.free && env.scope.kind == .function && env.kindOf n == some .cell) then (n,NameKind.cell) else (n,k)).lookup x = some .cell ∨
  (names.map fun (n,k)=>if (k == NameKind.free && env.scope.kind == .function && env.kindOf n == some .cell) then (n,NameKind.cell) else (n,k)).lookup x = some .free) → (x,NameKind.free) ∈ names
 | [],_,_,h=>by rcases h with h | h <;> simp at h
 | (n,k) :: r,x,hn,h=>by
  have ih:=@iH env r x (fun y hy=>hn y (List.mem_cons_of_mem _ hy))
  have h':List.lookup x ((if (k == NameKind.free && env.scope.kind == .function && env.kindOf n == some .cell) = true then (n,NameKind.cell) else (n,k)) :: (r.map fun (n,k)=>if (k == NameKind.free && env.scope.kind == .function && env.kindOf n == some .cell) then (n,NameKind.cell) else (n,k))) = some .cell ∨
   List.lookup x ((if (k == NameKind.free && env.scope.kind == .function && env.kindOf n == some .cell) = true then (n,NameKind.cell) else (n,k)) :: (r.map fun (n,k)=>if (k == NameKind.free && env.scope.kind == .function && env.kindOf n == some .cell) then (n,NameKind.cell) else (n,k))) = some .free:=h
  cases hx:x == n with
  | true =>
   obtain rfl:=beq_iff_eq.mp hx
   have hk:k = .free:=by
    by_cases hc:(k == NameKind.free && env.scope.kind == .function && env.kindOf x == some .cell) = true
    ·have:=(Bool.and_eq_true_iff.mp (Bool.and_eq_true_iff.mp hc).1).1
     exact beq_iff_eq.mp this
    ·rw [if_neg hc] at h'
     simp only [List.lookup_cons,hx] at h'
     rcases h' with e | e
     ·cases e;exact absurd rfl (hn (x,.cell) List.mem_cons_self)
     ·cases e;rfl
   subst hk
   exact List.mem_cons_self
  | false =>
   refine List.mem_cons_of_mem _ (ih ?_)
   by_cases hc:(k == NameKind.free && env.scope.kind == .function && env.kindOf n == some .cell) = true
   ·rw [if_pos hc] at h';simp only [List.lookup_cons,hx] at h';exact h'
   ·rw [if_neg hc] at h';simp only [List.lookup_cons,hx] at h';exact h'
structure BlkR where
 cl:List (Str × Addr)
 C:Addr
 s₀:Shared
 H₀:Hp
 ex:List Addr
abbrev blk (X:Cx) (scope:Scope) (N':List Str) (R:BlkR):Cx :=
 { prog:=X.prog,w:=X.w,K:=X.K,mg:=X.mg,base:=X.base,A:=X.A,N:=N',s₀:=R.s₀,H₀:=R.H₀,env:=compEnvC scope R.cl R.C X.env,outer:=X.stack,stack:=X.stack,ex:=R.ex,fn:=fun _=>false,calm:=X.calm,pn:=[],xe:=fun _ _=>False }
def aCZ (X:Cx) (ifs:List Expr) (t:TT):Prop :=
 ∀ (pins:List (Addr × Obj)) (s:Shared) (σ:St) (H:Hp) (Q:Bool → Hp → Prop),Inv X pins σ H s → t σ H Q →
  wpAny (model X.prog X.w) X.A (forIn ifs true fun c r=>if r = true then do let ok ← isTrue c X.env (eval c X.env);pure (ForInStep.yield ok) else pure (ForInStep.yield r)) (TP X pins σ Q) X.xe s
def aGF:TT:=fun _ H Q=>Q true H
theorem cY {X:Cx}:aCZ X [] aGF:=fun pins s σ H Q I h=>wpAny_tests_nil ⟨H,I,h⟩
theorem uY {X:Cx} {c:Expr} {t:TT} (h:PT X c t):aCZ X [c] t:=fun pins s σ H Q I hw=>wpAny_tests_one (h pins s σ H Q I hw)
def wA (nt:Nat) (g:TG):Prop:=∀ x σ H Q,g x σ H Q → g x σ H fun σ2 H2=>Q σ2 H2 ∧ σ2.length = σ.length ∧ ∀ i,nt ≤ i → σ2[i]? = σ[i]?
theorem bN {nt i:Nat} (h:i < nt):wA nt (vP i):=fun x σ H Q q =>
 ⟨q,by simp,fun j hj=>List.getElem?_set_ne (by omega)⟩
def jT (nt:Nat) (cap:List Nat) (σ:St):St:=List.replicate nt none ++ cap.map fun j=>(σ[j]?).join
theorem aAK {nt:Nat} {cap:List Nat} {σ:St}:(jT nt cap σ).length = nt + cap.length:=by simp [jT]
theorem sG {nt:Nat} {cap:List Nat} {σ:St} {i:Nat} {v:V} (h:(jT nt cap σ)[i]? = some (some v)):∃ j,nt ≤ i ∧ cap[i - nt]? = some j ∧ σ[j]? = some (some v):=by
 unfold jT at h
 by_cases hi:i < nt
 ·rw [List.getElem?_append_left (by simpa using hi),List.getElem?_replicate] at h
  rw [if_pos hi] at h
  cases h
 ·rw [List.getElem?_append_right (by simp;omega),List.length_replicate,List.getElem?_map] at h
  cases e:cap[i - nt]? with
  | none=>rw [e] at h;cases h
  | some j =>
   rw [e] at h
   refine ⟨j,by omega,rfl,?_⟩
   have h':(σ[j]?).join = some v:=by simpa using h
   cases q:σ[j]? with
   | none=>rw [q] at h';cases h'
   | some o=>rw [q] at h';cases o with
    | none=>cases h'
    | some z=>cases h';rfl
theorem qB {prog:Program} {w:World} {A:Around} {R:Result → Shared → Prop} {s:Shared} {elt target iter:Expr} {ifs:List Expr} {scope:Scope} {pos:Pos} {it acc:Value} {env:Env} (I:Nat → Shared → Prop)
  (turn:∀ n s,I n s → wpAny (model prog w) A (pyNext it) (fun r s₁=>match r with
   | none=>R (.ok .next) s₁
   | some v=>wpAny (model prog w) A (letOwnedTupleGo target it v) (fun _ s₁=>wpAny (model prog w) A (assign target env v) (fun _ s₂ =>
     wpAny (model prog w) A (forIn ifs true fun c r=>if r = true then do let ok ← isTrue c env (eval c env);pure (ForInStep.yield ok) else pure (ForInStep.yield r)) (fun ok s₃ =>
      if ok = true then wpAny (model prog w) A (eval elt env) (fun x s₄ =>
       wpAny (model prog w) A (call (.builtin "list.append") [acc,x]) (fun _ s₅=>∃ m,m < n ∧ I m s₅) (notedBy (model prog w) A env fun e s'=>R (.error e) s') s₄) (notedBy (model prog w) A env fun e s'=>R (.error e) s') s₃
      else ∃ m,m < n ∧ I m s₃) (notedBy (model prog w) A env fun e s'=>R (.error e) s') s₂) (notedBy (model prog w) A env fun e s'=>R (.error e) s') s₁) (notedBy (model prog w) A env fun e s'=>R (.error e) s') s₁) (notedBy (model prog w) A env fun e s'=>R (.error e) s') s)
  (n:Nat) (h:I n s) :
  codeAny (model prog w) A (.compLoop (.ListComp elt [⟨target,iter,ifs,0⟩] scope pos) 0 it acc env) R s:=by
 refine codeAny_loop rfl I (fun n s hI=>?_) n h
 show wpAny _ A ((compTurn (.ListComp elt [⟨target,iter,ifs,0⟩] scope pos) 0 it acc env).onRaise (fun x=>do noteFrame x env;theTreesLotGoes x)) _ _ s
 refine wpAny_noted ?_
 rw [compTurn_list]
 refine wpAny_bind (wpAny_standAt (wpAny_bind (wpAny_mono (turn n s hI) (fun r s₁ h₁=>?_) fun _ _ h'=>h')))
 cases r with
 | none=>exact wpAny_pure h₁
 | some v =>
  refine wpAny_bind (wpAny_mono h₁ (fun _ s₁' h₁'=>?_) fun _ _ h'=>h')
  refine wpAny_bind (wpAny_mono h₁' (fun _ s₂ h₂=>wpAny_bind (wpAny_mono h₂ (fun ok s₃ h₃=>?_) fun _ _ h'=>h')) fun _ _ h'=>h')
  cases ok with
  | false=>exact wpAny_pure ⟨rfl,h₃⟩
  | true =>
   exact wpAny_bind (wpAny_bind (wpAny_mono h₃ (fun x s₄ h₄=>wpAny_bind (wpAny_mono h₄ (fun _ s₅ h₅=>wpAny_pure (wpAny_pure ⟨rfl,h₅⟩)) fun _ _ h'=>h')) fun _ _ h'=>h'))
abbrev CW:=Nat → Nat → List V → Hp → Prop
def uH (σb:St) (J:It) (g:TG) (tt:TT) (te:TE) (W:CW) (fin:List V → Hp → Prop) (i m:Nat) (ys:List V) (H:Hp):Prop :=
 (J.stop i H ∧ fin ys H) ∨
 (J.go i H ∧ ys.length < sizeLine ∧ ∀ x H',J.yld i H x H' → g x σb H' fun σ2 H2=>tt σ2 H2 fun b H3 =>
  if b = true then te σ2 H3 fun y H4=>∃ m',m' < m ∧ W (i + 1) m' (ys ++ [y]) H4 else ∃ m',m' < m ∧ W (i + 1) m' ys H3)
structure BlkEnd (X:Cx) (pins:List (Addr × Obj)) (H:Hp) (C:Addr) (s:Shared):Prop where
 ns:∃ m,s.heap.Ns C m
 fr:H C = none
 ne:C ≠ X.env.locals
 ab:X.s₀.heap.objs.size ≤ C
 cl:∀ x c,X.env.cells.lookup x = some c → c ≠ C
 pn:∀ p ∈ X.pn ++ pins,p.1 ≠ C
theorem qA {X:Cx} {pins:List (Addr × Obj)} {σ:St} {s₂:Shared} {H₂:Hp} {elt iter tg:Expr} {ifs:List Expr} {scope:Scope} {pos:Pos} {N':List Str} {nt:Nat} {cap:List Nat} {g:TG} {tt:TT} {te:TE} {cl:List (Str × Addr)}
  {it:Addr} {fp:List Addr} {tn:Nat → Heap → Prop} {J:It} {Q:List V → Hp → Prop} {E:Value → Shared → Prop}
  (hc:X.calm = true) (I₂:Inv X pins σ H₂ s₂) (T:Turn X.prog X.w X.K tg J fp it tn) (st:tn 0 s₂.heap) (hf:∀ b ∈ fp,uC X pins H₂ b)
  (hclk:∀ x c,cl.lookup x = some c → X.env.cells.lookup x = some c) (hclh:∀ x,(x,NameKind.free) ∈ scope.names → ∃ c,cl.lookup x = some c)
  (hcell:∀ y ∈ scope.names,y.2 ≠ .cell) (hkind:scope.kind = .function)
  (hfr:∀ y ∈ scope.names,y.2 = .free → (X.env.kindOf y.1 = some .cell ∨ X.env.kindOf y.1 = some .free))
  (hN:N'.length = nt + cap.length) (hcapN:∀ (k j:Nat),cap[k]? = some j → N'[nt + k]? = X.N[j]?) (hcapF:∀ x ∈ N'.drop nt,scope.names.lookup x = some .free)
  (hg:∀ R,PG (blk X scope N' R) tg g) (hgk:wA nt g) (ht:∀ R,aCZ (blk X scope N' R) ifs tt) (he:∀ R,PE (blk X scope N' R) elt te)
  (h:∃ W:CW,(∃ m,W 0 m [] H₂) ∧ ∀ i m ys H,W i m ys H → uH (jT nt cap σ) J g tt te W Q i m ys H)
  {RR:Value → Addr → Result → Shared → Prop}
  (hRR:∀ D C s' H' ys,H' D = none → Q ys H' → Inv X pins σ (upd H' D (.lst ys)) s' → BlkEnd X pins (upd H' D (.lst ys)) C s' → RR (.ref D) C (.ok .next) s') :
  wpAny (model X.prog X.w) X.A (newList []) (fun acc s₃=>wpAny (model X.prog X.w) X.A (newFunctionEnv scope X.env.globals cl [] X.env.qual none .none (some X.env)) (fun cenv s₄ =>
   codeAny (model X.prog X.w) X.A (.compStart (.ListComp elt [⟨tg,iter,ifs,0⟩] scope pos) 0 (.ref it) acc { cenv with scope:=relabel scope X.env }) (RR acc cenv.locals) s₄) E s₃) E s₂:=by
 obtain ⟨W,⟨m0,w0⟩,turn⟩:=h
 refine wpAny_newObj_type (wpAny_newFunctionEnv hcell (by intro y hy;simp at hy) (fun h₁ hns₁ hsb₁=>?_) hkind)
 dsimp only at hns₁ hsb₁ ⊢
 generalize hH2:s₂.heap.push { cls:=.type "list",dict:=none,data:=.seq ([]:List Value).toArray } = Hx at hns₁ hsb₁ ⊢
 have hC:Hx.objs.size = s₂.heap.objs.size + 1:=by rw [← hH2,Heap.size_push]
 generalize hD:s₂.heap.objs.size = D at hC ⊢
 generalize hCC:Hx.objs.size = C at hns₁ hsb₁ hC ⊢
 have hDC:D ≠ C:=by omega
 have below:∀ b,b < s₂.heap.objs.size → b ≠ C ∧ b ≠ D:=fun b hb=>by omega
 have old:∀ b o,s₂.heap.get? b = some o → h₁.get? b = some o:=fun b o e=>hsb₁.extBut b o (below b (Heap.lt_size e)).1 (Heap.get?_push_of_some _ (hH2 ▸ Heap.get?_push_of_some _ e))
 have hacc:h₁.get? D = some { cls:=.type "list",data:=.seq ([]:List Value).toArray }:=hsb₁.extBut _ _ hDC (Heap.get?_push_of_some _ (by rw [← hH2,← hD];exact Heap.get?_push_size _ rfl))
 have freshD:H₂ D = none:=I₂.hok.fresh (by omega)
 have freshC:H₂ C = none:=I₂.hok.fresh (by omega)
 have fpo:∀ b ∈ fp,∃ o,s₂.heap.get? b = some o ∧ ∀ v,o.data ≠ .cell v:=T.obj 0 _ st
 have fplt:∀ b ∈ fp,b < s₂.heap.objs.size:=fun b hb=>let ⟨o,e,_⟩:=fpo b hb;Heap.lt_size e
 have celllt:∀ x c,X.env.cells.lookup x = some c → c < s₂.heap.objs.size:=fun x c e=>let ⟨v,z⟩:=I₂.cell x c e;z.lt
 have pinlt:∀ p ∈ X.pn ++ pins,p.1 < s₂.heap.objs.size:=fun p hp=>Heap.lt_size (I₂.pin p hp).1
 let R:BlkR:=⟨cl,C,s₂,H₂,fp⟩
 have okb:(blk X scope N' R).Ok:={
  mod:=I₂.mod
  kind:=hkind
  glob:=I₂.ok.glob
  blt:=I₂.ok.blt
  above:=(by show s₂.heap.objs.size ≤ C;omega)
  inj:=fun x y c e1 e2=>I₂.ok.inj x y c (hclk x c e1) (hclk y c e2)
  has:=fun x hx=>hclh x (iH hcell hx)
  cab:=fun x c hx _=>by cases hx
  hd:=I₂.ok.hd
  frames:=I₂.ok.frames
  stk:=.inl rfl
  exf:=fun b hb=>⟨(below b (fplt b hb)).1,fun x c e=>(hf b hb).2.2.2.2.1 x c (hclk x c e)⟩
  bs:=I₂.bs
  bsz:=Nat.le_trans I₂.ok.bsz I₂.sz
  noex:=fun b o e hb=>by
   rcases (hf b hb).2.2.2.1 with z | z
   ·exact I₂.ok.noex b o e z
   ·exact absurd (Nat.lt_of_lt_of_le (Heap.lt_size e) (Nat.le_trans I₂.ok.bsz z)) (Nat.lt_irrefl _)
  exfs:=fun b hb z=>by
   rcases List.mem_cons.mp (I₂.stkSub b z) with q | q
   ·exact (hf b hb).2.1 q
   ·exact (hf b hb).2.2.1 q
  funs:=I₂.stack
  frf:=I₂.stkFree }
 have nofs:∀ a,s₂.heap.objs.size ≤ a → a ∉ frs X.stack:=fun a ha z=>by
  rcases List.mem_cons.mp (I₂.stkSub a z) with q | q
  ·exact absurd (Nat.lt_of_lt_of_le I₂.lt ha) (by rw [q];exact Nat.lt_irrefl _)
  ·exact I₂.nofs ha q
 have hDle:s₂.heap.objs.size ≤ D:=by omega
 have hCle:s₂.heap.objs.size ≤ C:=by omega
 have stat:∀ {H':Hp} {ob:Obj},(∀ b ∈ fp,H' b = none) → ∀ b ∈ fp,uC (blk X scope N' R) [(D,ob)] H' b:=fun {H' ob} hn b hb =>
  ⟨hn b hb,(below b (fplt b hb)).1,okb.exfs b hb,.inl hb,fun x c e=>(hf b hb).2.2.2.2.1 x c (hclk x c e),fun p hp=>by
   have e:p = (D,ob):=by simpa using hp
   rw [e]
   exact Ne.symm (below b (fplt b hb)).2⟩
 have entry:∀ tk,Inv (blk X scope N' R) [(D,{ cls:=.type "list",data:=.seq ([]:List Value).toArray })] (jT nt cap σ) H₂ { s₂ with heap:=h₁,toks:=tk }:=fun tk=>{
  ok:=okb
  os:=rfl
  bare:=I₂.bare
  base:=Un.kept old
  loc:=by
   refine ⟨_,hns₁,fun i x v e1 e2 e3=>?_⟩
   obtain ⟨j,hi,hj,hv⟩:=sG e2
   have hx:X.N[j]? = some x:=by
    rw [← hcapN _ _ hj,show nt + (i - nt) = i by omega]
    exact e1
   have hxm:x ∈ N'.drop nt:=by
    refine List.mem_of_getElem? (i:=i - nt) ?_
    rw [List.getElem?_drop,show nt + (i - nt) = i by omega]
    exact e1
   have hfree:=hcapF x hxm
   have hmem:(x,NameKind.free) ∈ scope.names:=by
    have:∀ (l:List (Str × NameKind)),l.lookup x = some .free → (x,NameKind.free) ∈ l:=by
     intro l
     induction l with
     | nil=>intro q;cases q
     | cons a r ih =>
      intro q
      obtain ⟨n,k⟩:=a
      cases hxn:x == n with
      | true =>
       rw [List.lookup_cons,hxn] at q
       obtain rfl:=beq_iff_eq.mp hxn
       cases q
       exact List.mem_cons_self
      | false =>
       rw [List.lookup_cons,hxn] at q
       exact List.mem_cons_of_mem _ (ih q)
    exact this _ hfree
   have hk:=hfr (x,.free) hmem rfl
   obtain ⟨m,hn,hl⟩:=I₂.loc
   have vis:Vis X.env.scope x:=by
    rcases hk with k | k
    ·exact .inr (.inl k)
    ·exact .inr (.inr k)
   obtain ⟨u,ru,lk⟩:=hl j x v hx hv vis
   refine ⟨u,ru,?_⟩
   rcases lk with ⟨k,_⟩ | ⟨k,c,hc1,hc2⟩
   ·exfalso
    rcases hk with z | z
    ·rw [z] at k;cases k
    ·rw [z] at k;cases k
   ·obtain ⟨d,hd⟩:=hclh x hmem
    have hd':=hclk x d hd
    rw [hc1] at hd'
    cases hd'
    refine .inr ⟨gF hfree,c,hd,?_⟩
    obtain ⟨o,ho,hdat⟩:=hc2
    exact ⟨o,old c o ho,hdat⟩
  cell:=fun x c e=>by
   obtain ⟨v,o,ho,hdat⟩:=I₂.cell x c (hclk x c e)
   exact ⟨v,o,old c o ho,hdat⟩
  free:=freshC
  freeC:=fun x c e=>I₂.freeC x c (hclk x c e)
  pin:=fun p hp=>by
   have e:p = (D,{ cls:=.type "list",data:=.seq ([]:List Value).toArray }):=by simpa using hp
   subst e
   exact ⟨hacc,freshD,hDC,nofs D hDle,fun v z=>by cases z⟩
  hok:=I₂.hok.kept old
  len:=by rw [aAK,hN] }
 have loop:∀ tk,codeAny (model X.prog X.w) X.A (.compLoop (.ListComp elt [⟨tg,iter,ifs,0⟩] scope pos) 0 (.ref it) (.ref D) (compEnvC scope cl C X.env)) (RR (.ref D) C) { s₂ with heap:=h₁,toks:=tk }:=by
  intro tk
  refine qB (fun n s'=>∃ i ys H' its k,Inv (blk X scope N' R) [(D,{ cls:=.type "list",data:=.seq its.toArray k })] (jT nt cap σ) H' s' ∧ tn i s'.heap ∧ (∀ b ∈ fp,H' b = none) ∧ bC ys its ∧ ys.length ≤ sizeLine ∧ W i n ys H') ?_ m0
   ⟨0,[],H₂,[],0,entry tk,T.keep _ _ _ st fun b hb o e=>old b o e,fun b hb=>(hf b hb).1,.nil,Nat.zero_le _,w0⟩
  rintro n s3 ⟨i,ys,H3,its,k,I3,st3,fr3,rv,hz,w3⟩
  have pD:=I3.pin (D,{ cls:=.type "list",data:=.seq its.toArray k }) (by simp)
  rcases turn i n ys H3 w3 with ⟨stop,qn⟩ | ⟨go,hlt,step⟩
  ·-- the end
   refine wpAny_mono (T.done (blk X scope N' R) rfl rfl rfl hc i _ s3 _ H3 (fun _ _=>False) I3 (stat fr3) st3 stop) (fun r s4 ⟨hr,I4⟩=>?_) fun _ _ z=>z.elim
   subst hr
   have pD4:=I4.pin (D,{ cls:=.type "list",data:=.seq its.toArray k }) (by simp)
   have b4:Un (frs X.stack) fp H₂ H3 s₂.heap s4.heap:=I4.base
   have u4:Un (frs X.stack) fp H₂ (upd H3 D (.lst ys)) s₂.heap s4.heap:={
    keep:=b4.keep
    slot:=b4.slot
    free:=fun b o e n hx=>by
     rw [aO (below b (Heap.lt_size e)).2]
     exact b4.free b o e n hx
    there:=b4.there
    tups:=fun b xs e=>by
     have z:=b4.tups b xs e
     rw [aO (aS z pD4.2.1)]
     exact z
    frzs:=fun b o u e=>by
     have z:=b4.frzs b o u e
     rw [aO (aS z pD4.2.1)]
     exact z
    tbls:=fun b ps e=>by
     obtain ⟨more,z⟩:=b4.tbls b ps e
     exact ⟨more,by rw [aO (aS z pD4.2.1)];exact z⟩ }
   have hok4:HOk X.prog X.w (upd H3 D (.lst ys)) s4.heap:=fun b u e=>by
    by_cases hb:b = D
    ·subst hb
     rw [aD] at e
     cases e
     exact ⟨hz,its,k,rv,pD4.1⟩
    ·rw [aO hb] at e
     exact (I4.hok b u e).stay (fun c v _ q=>q) (fun c q=>by rw [aO (aS q pD4.2.1)];exact q) fun c xs q=>by rw [aO (aS q pD4.2.1)];exact q
   have I5:Inv X pins σ (upd H3 D (.lst ys)) s4:=I₂.call' I4.os u4 hok4 I4.bare fun b hb=>⟨(hf b hb).2.2.2.1,(hf b hb).2.1,(hf b hb).2.2.2.2.1,(hf b hb).2.2.2.2.2⟩
   refine hRR D C s4 H3 ys pD4.2.1 qn I5 ?_
   obtain ⟨m,hn,_⟩:=I4.loc
   exact ⟨⟨m,hn⟩,by rw [aO (Ne.symm hDC)];exact I4.free,fun z=>absurd I₂.lt (by rw [← z];exact Nat.not_lt.mpr hCle),Nat.le_trans I₂.sz hCle,fun x c e=>Nat.ne_of_lt (Nat.lt_of_lt_of_le (celllt x c e) hCle),fun p hp=>Nat.ne_of_lt (Nat.lt_of_lt_of_le (pinlt p hp) hCle)⟩
  ·-- a turn
   refine wpAny_mono (T.item (blk X scope N' R) rfl rfl rfl hc i _ s3 _ H3 (fun _ _=>False) I3 (stat fr3) st3 go) (fun r s4 ⟨u,hr,h4⟩=>?_) fun _ _ z=>z.elim
   subst hr
   refine wpAny_mono h4 (fun _ s5 ⟨x,H5,I5,r5,y5,st5,fr5⟩=>?_) fun _ _ z=>z.elim
   have I5':=I5.pinned (stat fr5) (T.obj _ _ st5)
   refine wpAny_mono (hg R _ s5 _ H5 x u _ I5' r5 (hgk _ _ _ _ (step x H5 y5))) (fun _ s6 ⟨σ6,H6,I6,q6,l6,k6⟩=>?_) fun _ _ z=>z.elim
   refine wpAny_mono (ht R _ s6 σ6 H6 _ I6 q6) (fun ok s7 ⟨H7,I7,q7⟩=>?_) fun _ _ z=>z.elim
   have weak:∀ {H8:Hp} {s8:Shared} {ps:List (Addr × Obj)},Inv (blk X scope N' R) ps σ6 H8 s8 → Inv (blk X scope N' R) ps (jT nt cap σ) H8 s8:=fun I8=>I8.weak (by rw [l6]) fun j v e=>by
    obtain ⟨_,hj,_,_⟩:=sG e
    rw [k6 j hj]
    exact e
   have tnK:∀ {H8:Hp} {s8:Shared} {σ8:St},Inv (blk X scope N' R) ([(D,{ cls:=.type "list",data:=.seq its.toArray k })] ++ jH fp s5.heap) σ8 H8 s8 → tn (i + 1) s8.heap ∧ ∀ b ∈ fp,H8 b = none:=fun {H8 s8 σ8} I8 =>
    ⟨T.keep _ _ _ st5 fun b hb o e=>(I8.pin (b,o) (List.mem_append_right _ (List.mem_append_right _ (iQ hb e)))).1,fun b hb=>by
     obtain ⟨o,e,_⟩:=T.obj _ _ st5 b hb
     exact (I8.pin (b,o) (List.mem_append_right _ (List.mem_append_right _ (iQ hb e)))).2.1⟩
   cases ok with
   | false =>
    rw [if_neg Bool.false_ne_true] at q7 ⊢
    obtain ⟨m',hm,w7⟩:=q7
    exact ⟨m',hm,i + 1,ys,H7,its,k,weak I7.unpinned,(tnK I7).1,(tnK I7).2,rv,hz,w7⟩
   | true =>
    rw [if_pos rfl] at q7 ⊢
    refine wpAny_mono (he R _ s7 σ6 H7 _ I7 q7) (fun xv s8 ⟨y,H8,I8,ry,q8⟩=>?_) fun _ _ z=>z.elim
    obtain ⟨m',hm,w8⟩:=q8
    have pD8:=I8.pin (D,{ cls:=.type "list",data:=.seq its.toArray k }) (by simp)
    have hsz:its.toArray.size ≤ sizeLine:=by rw [List.size_toArray,← rv.length];omega
    refine wpAny_list_append_plain (hsz:=hsz) ⟨k,pD8.1⟩ fun h9 hl9 hs9=>?_
    obtain ⟨k9,hl9⟩:=hl9
    have tn8:=tnK I8
    have I8':Inv (blk X scope N' R) (jH fp s5.heap) (jT nt cap σ) H8 s8:=(weak I8).pins_of fun p hp=>I8.pin p (List.mem_append_right _ (List.mem_append_right _ hp))
    have I9:Inv (blk X scope N' R) (jH fp s5.heap) (jT nt cap σ) H8 { s8 with heap:=h9 }:=I8'.turned (it:=D) (t':=s8.toks) (fun b o hb e=>hs9.extBut b o hb e) pD8.2.1 pD8.2.2.1 (.inr hDle)
     (fun x c e=>Nat.ne_of_lt (Nat.lt_of_lt_of_le (celllt x c (hclk x c e)) hDle)) fun p hp=>by
      have hp':p ∈ jH fp s5.heap:=by simpa using hp
      exact Nat.ne_of_lt (Nat.lt_of_lt_of_le (fplt p.1 (rN hp').1) hDle)
    have e9:h9.get? D = some { cls:=.type "list",data:=.seq (its ++ [xv]).toArray k9 }:=by
     rw [hl9]
     simp
    refine ⟨m',hm,i + 1,ys ++ [y],H8,its ++ [xv],k9,I9.pins_of fun p hp=>?_,T.keep _ _ _ tn8.1 fun b hb o e=>hs9.extBut b o (Nat.ne_of_lt (Nat.lt_of_lt_of_le (fplt b hb) hDle)) e,tn8.2,rv.append (.cons ry .nil),by rw [List.length_append];exact hlt,w8⟩
    have e:p = (D,{ cls:=.type "list",data:=.seq (its ++ [xv]).toArray k9 }):=by simpa using hp
    subst e
    exact ⟨e9,pD8.2.1,pD8.2.2.1,pD8.2.2.2.1,fun v z=>by cases z⟩
 exact codeAny_compStart_list (loop _) (T.self _ 0 _ _ _ (T.keep _ _ _ st fun b hb o e=>old b o e) (loop _))
def aEQ (nt:Nat) (cap:List Nat) (wi:TI) (g:TG) (tt:TT) (te:TE):TE:=fun σ H Q=>wi σ H fun J H1=>∃ W:CW,(∃ m,W 0 m [] H1) ∧ ∀ i m ys H,W i m ys H → uH (jT nt cap σ) J g tt te W (fun ys H'=>∀ p,H' p = none → Q (.ref p) (upd H' p (.lst ys))) i m ys H
theorem hZ {α:Type} {l:List α} {p:α → Bool} (h:l.all p = true):∀ x ∈ l,p x = true:=fun x hx=>List.all_eq_true.mp h x hx
theorem dI {X:Cx} {elt iter tg:Expr} {ifs:List Expr} {scope:Scope} {pos:Pos} {wi:TI} {g:TG} {tt:TT} {te:TE} (N':List Str) (nt:Nat) (cap:List Nat)
  (hc:X.calm = true) (hi:PI X tg iter wi) (hg:∀ R,PG (blk X scope N' R) tg g) (hgk:wA nt g) (ht:∀ R,aCZ (blk X scope N' R) ifs tt) (he:∀ R,PE (blk X scope N' R) elt te)
  (hcell:(scope.names.all fun y=>!(y.2 == .cell)) = true:=by rfl) (hkind:scope.kind = .function:=by rfl)
  (hnames:(scope.names.all fun y=>!(y.2 == .local) || (scope.names.lookup y.1 == some .local)) = true:=by rfl)
  (hfr:(scope.names.all fun y=>!(y.2 == .free) || (X.env.kindOf y.1 == some .cell || X.env.kindOf y.1 == some .free)) = true:=by rfl)
  (hN:N'.length = nt + cap.length:=by rfl) (hcapN:(cap.map fun j=>X.N[j]?) = (N'.drop nt).map some:=by rfl) (hcapF:((N'.drop nt).all fun x=>scope.names.lookup x == some .free) = true:=by rfl)
  (hs:∀ x,foldedSetIterable iter X.env x = pure x:=by intro _;rfl) :
  PE X (.ListComp elt [⟨tg,iter,ifs,0⟩] scope pos) (aEQ nt cap wi g tt te):=by
 intro pins s σ H Q I h
 have hfr':∀ y ∈ scope.names,y.2 = .free → (X.env.kindOf y.1 = some .cell ∨ X.env.kindOf y.1 = some .free):=fun y hy e=>by
  have z:=hZ hfr y hy
  rw [e] at z
  have z':(X.env.kindOf y.1 == some .cell || X.env.kindOf y.1 == some .free) = true:=z
  rcases Bool.or_eq_true_iff.mp z' with q | q
  ·exact .inl (beq_iff_eq.mp q)
  ·exact .inr (beq_iff_eq.mp q)
 have hcell':∀ y ∈ scope.names,y.2 ≠ .cell:=fun y hy e=>by
  have z:=hZ hcell y hy
  rw [e] at z
  cases z
 obtain ⟨cl,hcl,hclk,hclh⟩:=qD (scope:=scope) (env:=X.env) fun y hy e=>I.ok.has y.1 (hfr' y hy e)
 have hnames':∀ y ∈ scope.names,y.2 = .local → scope.names.lookup y.1 = some .local:=fun y hy e=>by
  have z:=hZ hnames y hy
  rw [e] at z
  exact beq_iff_eq.mp z
 have hcapN':∀ (k j:Nat),cap[k]? = some j → N'[nt + k]? = X.N[j]?:=fun k j e=>by
  have z:=congrArg (fun l:List (Option Str)=>l[k]?) hcapN
  simp only [List.getElem?_map,e,Option.map_some,List.getElem?_drop] at z
  cases q:N'[nt + k]? with
  | none=>rw [q] at z;cases z
  | some x=>rw [q] at z;exact (Option.some.inj z).symm
 rw [eval_ListComp]
 refine wpAny_comprehension_free (use:=none) rfl hs hcl hkind hnames' (thn (hi pins s σ H _ I h) fun v s1 h1=>thn h1 fun itv s2 h2=>?_)
 obtain ⟨it,fp,tn,J,H2,e,I2,T,st2,f2,hw⟩:=h2
 subst e
 refine qA (RR:=fun acc C=>compPost (model X.prog X.w) X.A X.xe none (EP X pins σ Q) acc C) hc I2 T st2 f2 hclk hclh hcell' hkind hfr' hN hcapN' (fun x hx=>beq_iff_eq.mp (hZ hcapF x hx)) hg hgk ht he hw ?_
 intro D C s' H' ys hD q I' B
 obtain ⟨m,hn⟩:=B.ns
 refine ⟨m,hn,fun h' hs'=>⟨.ref D,_,I'.turned (it:=C) (t':=s'.toks) (fun b o hb e=>hs'.extBut b o hb e) B.fr B.ne (.inr B.ab) B.cl B.pn,rfl,q D hD⟩⟩
end L2
namespace L2
open PySem PySem.Spec PyProof.Rows
section
variable {X:Cx}
def aFX:V → Option Value
 | .ty n=>some (.type n)
 | .ref a=>some (.ref a)
 | _=>none
theorem aCW {y:V} {c u:Value} (h:aFX y = some c) (r:aZ y u):u = c:=by
 cases y with
 | ty n=>cases h;exact r
 | ref a=>cases h;exact r
 | non=>cases h
 | bl b=>cases h
 | int i=>cases h
 | str x=>cases h
 | byt b=>cases h
 | flt b=>cases h
theorem vV:eJ X (.builtin "isinstance") (fun xs H Q=>∃ x y c t b,xs = [x,y] ∧ aFX y = some c ∧ TyOf X.K H x t ∧ PySem.W.kitOne X.K t c = some b ∧ Q (.bl b) H):=by
 intro pins s σ H xs us Q I r h
 obtain ⟨x,y,c,t,b,rfl,hc,ty,e,q⟩:=h
 obtain ⟨u,v,rfl,ru,rv⟩:=bC.two r
 obtain rfl:=aCW hc rv
 exact zP I ru ty e fun tk=>⟨.bl b,H,I.tok tk,rfl,q⟩
theorem nC:∀ {bs:List Bool} {us:List Value},bC (bs.map V.bl) us → LSm.BoolsAre us bs
 | [],us,r=>by
  rw [List.map_nil] at r
  cases r
  exact .nil
 | b :: bs,us,r=>by
  rw [List.map_cons] at r
  cases r with
  | cons r1 r2 =>
   cases r1
   exact .cons b (nC r2)
theorem lU (hc:X.calm = true):eJ X (.builtin "all") (fun xs H Q=>∃ (p:Addr) (bs:List Bool),xs = [.ref p] ∧ SqL X.K H p (bs.map V.bl) ∧ Q (.bl (bs.all id)) H):=by
 intro pins s σ H xs us Q I r h
 obtain ⟨p,bs,rfl,hq,q⟩:=h
 obtain ⟨u,rfl,ru⟩:=bC.one r
 cases ru
 obtain ⟨its,rv,pl,hz⟩:=I.list hq
 obtain ⟨m,F⟩:=I.fr
 have hb:=nC rv
 have hl:=pl.isList
 have hlt:p < s.heap.objs.size:=by obtain ⟨_,e,_⟩:=hl;exact Heap.lt_size e
 refine call_all_walk (wpAny_pyIter_list hl ?_)
 refine ⟨s.heap.objs.size,[s.heap.objs.size,p],[s.heap.objs.size],its.toArray.size,_,_,fun i=>(bs[i]?).getD true,rfl,Walks.list (A:=X.A.in1) (I.ok.hd hc) _ p (Nat.ne_of_lt hlt) its.toArray,
  ⟨⟨_,Heap.get?_push_size _ rfl,rfl,rfl⟩,hl.push _⟩,fun i v s' Q' E' hP hQ=>?_,fun h' tk hk=>?_⟩
 ·obtain ⟨b,e,rfl⟩:=hb.get i v (by simpa using hP)
  simp only [e,Option.getD_some] at hQ
  exact wpAny_truthy_bool hQ
 ·have e:((List.range its.toArray.size).all fun i=>(bs[i]?).getD true) = bs.all id:=by
   rw [List.size_toArray,hb.length];exact LSm.range_all bs
  rw [e]
  exact ⟨.bl _,H,I.kept (LSm.kept_iter hk),rfl,q⟩
theorem aAY:SlR X (fun x lo hi H Q=>∃ z,x = .str z ∧ z.length ≤ sizeLine ∧ Q (.str (Txt.slice z lo hi)) H):=by
 intro pins s σ H x v vl vu lo hi sl Q I rx hs pl pu h
 obtain ⟨z,rfl,hz,q⟩:=h
 obtain ⟨t,rfl⟩:=rx
 refine ⟨"str",_,F.slot_str_getitem.lookup,typeIs_str _ _ _,?_⟩
 have fin:∀ (t':Tok) (k:Nat),EP X pins σ Q (.str (Txt.slice z lo hi) t') { s with toks:=k }:=fun t' k=>⟨.str _,H,I.tok k,⟨t',rfl⟩,q⟩
 cases pl with
 | none =>
  cases pu with
  | none=>exact wpAny_getItem_str_slice (l:=none) (u:=none) (st:=none) hs rfl (post_val_or_str ⟨Nat.le_trans (Txt.slice_le z _ _) hz,fun t' k=>fin t' k⟩)
  | int j uj=>exact wpAny_getItem_str_slice (l:=none) (u:=some (j,uj)) (st:=none) hs rfl (post_val_or_str ⟨Nat.le_trans (Txt.slice_le z _ _) hz,fun t' k=>fin t' k⟩)
 | int i ui =>
  cases pu with
  | none=>exact wpAny_getItem_str_slice (l:=some (i,ui)) (u:=none) (st:=none) hs rfl (post_val_or_str ⟨Nat.le_trans (Txt.slice_le z _ _) hz,fun t' k=>fin t' k⟩)
  | int j uj=>exact wpAny_getItem_str_slice (l:=some (i,ui)) (u:=some (j,uj)) (st:=none) hs rfl (post_val_or_str ⟨Nat.le_trans (Txt.slice_le z _ _) hz,fun t' k=>fin t' k⟩)
theorem bA:OpR X (binaryOp .FloorDiv) (rI (fun _ j=>0 < j ∧ j.natAbs.log2 < 9000) fun i j=>.int (i / j)):=opI fun i j _ _ _ _ _ hc q=>by
 have h1:(0:Int) < j:=hc.1
 exact floordiv_int (by omega) (by rw [Int.fdiv_eq_ediv_of_nonneg i (by omega)];exact q) (.inl (PyProof.noPylong_of_log2 hc.2))
def Its (x:Str):It where
 go:=fun i _=>i < x.cps.size
 yld:=fun i H v H'=>H' = H ∧ ∃ c,x.cps[i]? = some c ∧ v = .str ⟨#[c]⟩
 stop:=fun i _=>i = x.cps.size
theorem uG {P:Program} {w:World} {K:PySem.W.Frag} {tg:Expr} (it:Addr) (x:Str) (t:Tok) (ty:String)
  (W:∀ A:Around,A.handled = none → Walks P w A it [it] [it] x.cps.size (SignAt x) (fun i h=>h.IsStrIter it ty x t i))
  (hn:["enumerate","zip","dict_itemiterator","dict_reverseitemiterator","odict_iterator","itertools.zip_longest","itertools.pairwise"].contains ty = false)
  (self:∀ (A:Around) (i:Nat) (s:Shared) (Q:Value → Shared → Prop) (E:Value → Shared → Prop),s.heap.IsStrIter it ty x t i → Q (.ref it) s → wpAny (model P w) A (pyIter (.ref it)) Q E s) :
  Turn P w K tg (Its x) [it] it (fun i h=>h.IsStrIter it ty x t i) where
 mem:=by simp
 obj:=fun i h st b hb=>by
  have e:b = it:=by simpa using hb
  subst e
  obtain ⟨o,e,c,d⟩:=st
  exact ⟨o,e,fun v z=>by rw [d] at z;cases z⟩
 keep:=fun i h h' st k=>let ⟨o,ho,r⟩:=st;⟨o,k it (by simp) o ho,r⟩
 item:=by
  intro X hP hw hK hc i pins s σ H E I hf st hg
  subst hP hw hK
  obtain ⟨f0,f1,f2,f3,f4,f5⟩:=hf it (by simp)
  refine (W X.A (I.ok.hd hc)).item i s _ _ hg st fun v h' tk hv st' kk=>?_
  obtain ⟨c,u,hx,rfl⟩:=hv
  have I1:Inv X pins σ H { s with heap:=h',toks:=tk }:=I.turned (fun b o hb e=>kk b o (by simpa using hb) e) f0 f1 f3 f4 f5
  obtain ⟨o,e,cc,d⟩:=id st'
  exact ⟨_,rfl,yM (s:={ s with heap:=h',toks:=tk }) e cc d hn ⟨.str ⟨#[c]⟩,H,I1,⟨u,rfl⟩,⟨rfl,c,hx,rfl⟩,st',fun b hb=>(hf b hb).1⟩⟩
 done:=by
  intro X hP hw hK hc i pins s σ H E I hf st hg
  subst hP hw hK
  obtain ⟨f0,f1,f2,f3,f4,f5⟩:=hf it (by simp)
  have hg':i = x.cps.size:=hg
  subst hg'
  exact (W X.A (I.ok.hd hc)).done s _ _ st fun h' tk kk=>⟨rfl,I.turned (fun b o hb e=>kk b o (by simpa using hb) e) f0 f1 f3 f4 f5⟩
 self:=self
def aIM (tl:TE):TI:=fun σ H R=>tl σ H fun x H1=>∃ z,x = .str z ∧ R (Its z) H1
theorem aFE {tg l:Expr} {tl:TE} (hl:PE X l tl):PI X tg l (aIM tl):=by
 intro pins s σ H R I h
 refine thn (hl pins s σ H _ I h) fun v s1 ⟨x,H1,I1,r1,q1⟩=>?_
 obtain ⟨z,e,q⟩:=q1
 subst e
 obtain ⟨t,rfl⟩:=r1
 have fp:∀ b ∈ [s1.heap.objs.size],uC X pins H1 b:=fun b hb=>by
  have e:b = s1.heap.objs.size:=by simpa using hb
  subst e
  exact I1.fpOk (Nat.le_refl _) (I1.hok.fresh (Nat.le_refl _))
 cases ha:z.cps.all (· < 128)
 ·refine wpAny_pyIter_wide ha ?_
  exact ⟨s1.heap.objs.size,[s1.heap.objs.size],_,_,H1,rfl,I1.kept (t':=s1.toks) fun b o e=>Heap.get?_push_of_some _ e,uG _ z t "str_iterator" (fun A hA=>Walks.strWide hA _ z t) (by decide) (fun A i s Q E st h=>wpAny_pyIter_striter_wide st h),
   ⟨_,Heap.get?_push_size _ rfl,rfl,rfl⟩,fp,q⟩
 ·refine wpAny_pyIter_ascii ha ?_
  exact ⟨s1.heap.objs.size,[s1.heap.objs.size],_,_,H1,rfl,I1.kept (t':=s1.toks) fun b o e=>Heap.get?_push_of_some _ e,uG _ z t "str_ascii_iterator" (fun A hA=>Walks.strAscii hA _ z t) (by decide) (fun A i s Q E st h=>wpAny_pyIter_striter_ascii st h),
   ⟨_,Heap.get?_push_size _ rfl,rfl,rfl⟩,fp,q⟩
end
theorem aCU {σb:St} {x:Str} {g:TG} {tt:TT} {te:TE} {fin:List V → Hp → Prop} {H:Hp} (hz:x.cps.size ≤ sizeLine) (Pv:Nat → List V → Hp → Prop) (h0:Pv 0 [] H) (hl:∀ i ys H,Pv i ys H → ys.length ≤ i)
  (hs:∀ i c ys H (K:VK) (K':Hp → Prop),x.cps[i]? = some c → Pv i ys H → (∀ y H4,Pv (i + 1) (ys ++ [y]) H4 → K y H4) → (∀ H3,Pv (i + 1) ys H3 → K' H3) →
   g (.str ⟨#[c]⟩) σb H fun σ2 H2=>tt σ2 H2 fun b H3=>if b = true then te σ2 H3 K else K' H3)
  (hd:∀ ys H,Pv x.cps.size ys H → fin ys H):∃ W:CW,(∃ m,W 0 m [] H) ∧ ∀ i m ys H,W i m ys H → uH σb (Its x) g tt te W fin i m ys H:=by
 refine ⟨fun i m ys H=>m = x.cps.size - i ∧ i ≤ x.cps.size ∧ Pv i ys H,⟨x.cps.size,by simp,Nat.zero_le _,h0⟩,?_⟩
 rintro i m ys H ⟨rfl,hi,p⟩
 by_cases hlt:i < x.cps.size
 ·refine .inr ⟨hlt,?_,fun v H' y=>?_⟩
  ·have:=hl i ys H p;omega
  ·obtain ⟨e,c,hx,rfl⟩:=y
   subst e
   exact hs i c ys _ _ _ hx p (fun y H4 q=>⟨x.cps.size - (i + 1),by omega,rfl,hlt,q⟩) fun H3 q=>⟨x.cps.size - (i + 1),by omega,rfl,hlt,q⟩
 ·have e:i = x.cps.size:=by omega
  subst e
  exact .inl ⟨rfl,hd ys H p⟩
theorem cO {F:PySem.W.Frag} {a:Addr} {xs:List V} {σb:St} {g:TG} {tt:TT} {te:TE} {fin:List V → Hp → Prop} {H:Hp} (hz:xs.length ≤ sizeLine) (Pv:Nat → List V → Hp → Prop) (h0:Pv 0 [] H)
  (hl:∀ i ys H,i ≤ xs.length → Pv i ys H → SqL F H a xs ∧ ys.length ≤ i)
  (hs:∀ i x ys H (K:VK) (K':Hp → Prop),xs[i]? = some x → Pv i ys H → (∀ y H4,Pv (i + 1) (ys ++ [y]) H4 → K y H4) → (∀ H3,Pv (i + 1) ys H3 → K' H3) →
   g x σb H fun σ2 H2=>tt σ2 H2 fun b H3=>if b = true then te σ2 H3 K else K' H3)
  (hd:∀ ys H,Pv xs.length ys H → fin ys H):∃ W:CW,(∃ m,W 0 m [] H) ∧ ∀ i m ys H,W i m ys H → uH σb (Itl F a) g tt te W fin i m ys H:=by
 refine ⟨fun i m ys H=>m = xs.length - i ∧ i ≤ xs.length ∧ Pv i ys H,⟨xs.length,by simp,Nat.zero_le _,h0⟩,?_⟩
 rintro i m ys H ⟨rfl,hi,p⟩
 obtain ⟨q,ql⟩:=hl i ys H hi p
 by_cases hlt:i < xs.length
 ·refine .inr ⟨⟨xs,xs[i],q,by simp [hlt]⟩,by omega,fun x H' y=>?_⟩
  obtain ⟨e,y⟩:=y
  subst e
  exact hs i x ys _ _ _ (y xs q) p (fun y H4 q=>⟨xs.length - (i + 1),by omega,rfl,hlt,q⟩) fun H3 q=>⟨xs.length - (i + 1),by omega,rfl,hlt,q⟩
 ·have e:i = xs.length:=by omega
  subst e
  exact .inl ⟨⟨xs,q,Nat.le_refl _⟩,hd ys H p⟩
theorem pZ {lo:Int} {n:Nat} {σb:St} {g:TG} {tt:TT} {te:TE} {fin:List V → Hp → Prop} {H:Hp} (hz:n ≤ sizeLine) (Pv:Nat → List V → Hp → Prop) (h0:Pv 0 [] H) (hl:∀ i ys H,Pv i ys H → ys.length ≤ i)
  (hs:∀ i ys H (K:VK) (K':Hp → Prop),i < n → Pv i ys H → (∀ y H4,Pv (i + 1) (ys ++ [y]) H4 → K y H4) → (∀ H3,Pv (i + 1) ys H3 → K' H3) →
   g (.int (lo + i)) σb H fun σ2 H2=>tt σ2 H2 fun b H3=>if b = true then te σ2 H3 K else K' H3)
  (hd:∀ ys H,Pv n ys H → fin ys H):∃ W:CW,(∃ m,W 0 m [] H) ∧ ∀ i m ys H,W i m ys H → uH σb (Itr lo n) g tt te W fin i m ys H:=by
 refine ⟨fun i m ys H=>m = n - i ∧ i ≤ n ∧ Pv i ys H,⟨n,by simp,Nat.zero_le _,h0⟩,?_⟩
 rintro i m ys H ⟨rfl,hi,p⟩
 by_cases hlt:i < n
 ·refine .inr ⟨hlt,?_,fun v H' y=>?_⟩
  ·have:=hl i ys H p;omega
  ·obtain ⟨e,y⟩:=y
   subst e y
   exact hs i ys _ _ _ hlt p (fun y H4 q=>⟨n - (i + 1),by omega,rfl,hlt,q⟩) fun H3 q=>⟨n - (i + 1),by omega,rfl,hlt,q⟩
 ·have e:i = n:=by omega
  subst e
  exact .inl ⟨Nat.le_refl _,hd ys H p⟩
end L2
namespace L2
open PySem PySem.Spec PyProof.Rows
structure DefAt (K:PySem.W.Frag) (mg:Str → Option Value) (x:Str) (st:Stmt) (ps:List Str):Prop where
 ex:∃ (f:Addr) (fd:FuncData),Fun K x x st f fd ∧ fE K fd ps [] ∧ mg x = some (.ref f)
structure Fc (P:Program) (w:World) (K:PySem.W.Frag) (mg:Str → Option Value) (base:Heap) (k:Nat) (x:Str) (ps:List Str) (sp:Sp):Prop where
 ex:∃ (f:Addr) (fd:FuncData),FnOk P w K mg base CX0 k f fd ps sp ∧ fE K fd ps [] ∧ mg x = some (.ref f) ∧ PySem.W.keepIn K (.ref f) = true
section
variable {P:Program} {w:World} {K:PySem.W.Frag} {mg:Str → Option Value} {base:Heap}
theorem DefAt.fc {x:Str} {st:Stmt} {N ps:List Str} {k:Nat} {sp:Sp} (D:DefAt K mg x st ps) (S:FnScope N ps (aB st)) (len:∀ vs H Q E,sp vs H Q E → vs.length = ps.length)
  (hbody:∀ (f:Addr) (cdv:Value) (A:Around) (outer:List Env) (s:Shared) (H:Hp) (vs:List V) (Q:VK) (E:XK),Room k (A.deeper (envOfC x (aB st) s.heap.objs.size f cdv)) → sp vs H Q E →
   ∃ t,PSs (nP CX0 P w K mg base N x (aB st) f cdv A outer s H E).nox (aN st) t ∧ t { nx:=fun _ H'=>Q .non H',rt:=Q } (iD N vs) H):Fc P w K mg base (k + 1) x ps sp:=by
 obtain ⟨f,fd,F,b,m⟩:=D.ex
 exact ⟨f,fd,F.ok S len fun cdv A outer s H vs Q E hr h=>hbody f cdv A outer s H vs Q E hr h,b,m,F.kp⟩
theorem bJ {h:Heap} {x:Str} {st:Stmt} {ps:List Str} {f:Addr} {oc:Value} {od an:Option Addr} {osl:Array (Option Value)} {kV doc pm cdv ct:Value} (X:K.In h) (G:h.Ns mainGlobals mg)
  (a:PySem.W.nsIn K mainGlobals x = some (some (.ref f))) (l:K.lookup f = some ⟨oc,od,.func (PySem.W.fnOf x x (aP st) (aN st) (aB st) .none kV doc pm an cdv ct),osl⟩)
  (c:PySem.W.codeIn K cdv x = true) (k:PySem.W.keepIn K (.ref f) = true)
  (hb:∀ (kV doc pm:Value) (an:Option Addr) (cdv ct:Value) (us:List Value),us.length = ps.length → bindArgs (PySem.W.fnOf x x (aP st) (aN st) (aB st) .none kV doc pm an cdv ct) ⟨us,[]⟩ = pure (ps.zip us)):DefAt K mg x st ps :=
 ⟨f,_,mK l c k,(mK l c k).binds hb,PySem.W.mg_of X G a⟩
end
section
variable {X:Cx} {k:Nat} {ps:List Str} {sp:Sp} {x:Str} {p pos:Pos} {e:Expr} {es:List Expr} {t:TA}
theorem cF (F:Fc X.prog X.w X.K X.mg X.base k x ps sp) (hr:Room k X.A) (ha:PA X (e :: es) t) (hg:Gl X x:=by rfl) (hdb:(x == ("__debug__":Str)) = false:=by decide)
  (he:starEach (e :: es) X.env = (false,eval e X.env) :: starEach es X.env:=by rfl) (hpl:(backTo pos (starEach es X.env)).any (·.1) = false:=by rfl) :
  PE X (.Call (.Name x p) (e :: es) [] pos) (aER sp [] E0 t):=by
 obtain ⟨f,fd,G,b,m,kp⟩:=F.ex
 exact aDQ G hr hg m kp b .nil yG ha hdb he hpl
end
def sp1 (f:V → Hp → VK → Prop):Sp:=fun vs H Q _=>∃ x,vs = [x] ∧ f x H Q
def sp2 (f:V → V → Hp → VK → Prop):Sp:=fun vs H Q _=>∃ x y,vs = [x,y] ∧ f x y H Q
def sp3 (f:V → V → V → Hp → VK → Prop):Sp:=fun vs H Q _=>∃ x y z,vs = [x,y,z] ∧ f x y z H Q
theorem kZ {f:V → Hp → VK → Prop}:∀ vs H Q E,sp1 f vs H Q E → vs.length = 1:=fun vs H Q E ⟨x,e,_⟩=>by rw [e];rfl
theorem jM {f:V → V → Hp → VK → Prop}:∀ vs H Q E,sp2 f vs H Q E → vs.length = 2:=fun vs H Q E ⟨x,y,e,_⟩=>by rw [e];rfl
theorem aDY {f:V → V → V → Hp → VK → Prop}:∀ vs H Q E,sp3 f vs H Q E → vs.length = 3:=fun vs H Q E ⟨x,y,z,e,_⟩=>by rw [e];rfl
theorem bG:bootBuiltins "isinstance" = some (.builtin "isinstance"):=by decide +kernel
theorem kJ:bootBuiltins "all" = some (.builtin "all"):=by decide +kernel
theorem cI:bootBuiltins "len" = some (.builtin "len"):=by decide +kernel
theorem kI:bootBuiltins "max" = some (.builtin "max"):=by decide +kernel
theorem aAJ:bootBuiltins "min" = some (.builtin "min"):=by decide +kernel
theorem sE:bootBuiltins "str" = some (.type "str"):=by decide +kernel
theorem mP:bootBuiltins "int" = some (.type "int"):=by decide +kernel
theorem qH:bootBuiltins "bool" = some (.type "bool"):=by decide +kernel
theorem dA:bootBuiltins "list" = some (.type "list"):=by decide +kernel
theorem vW:bootBuiltins "tuple" = some (.type "tuple"):=by decide +kernel
theorem hU:bootBuiltins "dict" = some (.type "dict"):=by decide +kernel
theorem sF:bootBuiltins "set" = some (.type "set"):=by decide +kernel
inductive Pl (K:PySem.W.Frag) (H:Hp):V → Prop where
 | non:Pl K H .non
 | bl (b:Bool):Pl K H (.bl b)
 | int (i:Int):Pl K H (.int i)
 | str (x:Str):Pl K H (.str x)
 | lst {a:Addr} {xs:List V} (e:H a = some (.lst xs)):Pl K H (.ref a)
 | frz {a:Addr} {o:Obj} {xs:List V} (e:H a = some (.frz o (.lst xs))):Pl K H (.ref a)
 | tup {a:Addr} {xs:List V} (e:H a = some (.tup xs)):Pl K H (.ref a)
 | dK {a:Addr} {kvs:List (Key × V)} (e:H a = some (.dK kvs)):Pl K H (.ref a)
theorem hE (K:PySem.W.Frag) (n:String):PySem.W.kitOne K (.type n) (.type n) = some true:=by
 unfold PySem.W.kitOne
 rw [if_pos (by simp)]
end L2
namespace L2
open PySem PySem.Spec PyProof.Rows
def iW (mg:Str → Option Value) (x:Str) (v:V):Prop:=∃ u,mg x = some u ∧ aZ v u
theorem nM {X:Cx} {x:Str} {v:V} {pos:Pos} (h:iW X.mg x v) (hg:Gl X x:=by rfl) (hd:(x == ("__debug__":Str)) = false:=by decide):PE X (.Name x pos) (tC v):=by
 obtain ⟨u,hm,r⟩:=h
 exact aDP hg hm r hd
theorem iT {K:PySem.W.Frag} {mg:Str → Option Value} {h:Heap} {x:Str} {v:V} {u:Value} (X:K.In h) (G:h.Ns mainGlobals mg) (a:PySem.W.nsIn K mainGlobals x = some (some u)) (r:aZ v u):iW mg x v:=⟨u,PySem.W.mg_of X G a,r⟩
end L2
namespace L2
open PySem PySem.Spec PyProof.Rows
def mN:HO → Bool
 | .lst _=>true
 | .dK _=>true
 | .set _ _=>true
 | .ext _=>true
 | .rng _ _=>true
 | _=>false
def gE (H' H'':Hp):Prop:=∀ b,H'' b = H' b ∨ (H'' b = none ∧ ∃ o,H' b = some o ∧ mN o = true)
theorem gE.refl (H:Hp):gE H H:=fun _=>.inl rfl
theorem gE.trans {H1 H2 H3:Hp} (a:gE H1 H2) (b:gE H2 H3):gE H1 H3:=fun c=>by
 rcases b c with e | ⟨e,o,q,d⟩
 ·rcases a c with e' | ⟨e',o,q,d⟩
  ·exact .inl (e.trans e')
  ·exact .inr ⟨e.trans e',o,q,d⟩
 ·rcases a c with e' | ⟨e',_⟩
  ·exact .inr ⟨e,o,e' ▸ q,d⟩
  ·rw [e'] at q;cases q
theorem gE.new {H:Hp} {p:Addr} {o:HO} (h:H p = none) (d:mN o = true):gE (upd H p o) H:=fun b=>by
 by_cases hb:b = p
 ·subst hb
  exact .inr ⟨h,o,aD,d⟩
 ·exact .inl (aO hb).symm
theorem gE.lst {H:Hp} {p:Addr} {xs:List V} (h:H p = none):gE (upd H p (.lst xs)) H:=gE.new h rfl
def dG (Q:VK):VK:=fun v H'=>∃ H'',gE H' H'' ∧ Q v H''
theorem dG.of {Q:VK} {v:V} {H H':Hp} (d:gE H' H) (q:Q v H):dG Q v H':=⟨H,d,q⟩
theorem HOk.drop {P:Program} {w:World} {H' H'':Hp} {h:Heap} (d:gE H' H'') (ok:HOk P w H' h):HOk P w H'' h:=fun b o e=>by
 have e':H' b = some o:=by
  rcases d b with z | ⟨z,_⟩
  ·exact z.symm.trans e
  ·rw [z] at e;cases e
 refine (ok b o e').stay (fun _ _ _ q=>q) (fun c q=>?_) fun c xs q=>?_
 ·rcases d c with z | ⟨_,o',z',dr⟩
  ·exact z.trans q
  ·rw [q] at z';cases z';cases dr
 ·rcases d c with z | ⟨_,o',z',dr⟩
  ·exact z.trans q
  ·rw [q] at z';cases z';cases dr
theorem Un.drop {fs ex:List Addr} {H H' H'':Hp} {h h':Heap} (d:gE H' H'') (u:Un fs ex H H' h h'):Un fs ex H H'' h h' where
 keep:=u.keep
 slot:=u.slot
 free:=fun b o e n hx=>by
  rcases d b with z | ⟨z,_⟩
  ·exact z.trans (u.free b o e n hx)
  ·exact z
 there:=u.there
 tups:=fun b xs e=>by
  have q:=u.tups b xs e
  rcases d b with z | ⟨_,o',z',dr⟩
  ·exact z.trans q
  ·rw [q] at z';cases z';cases dr
 frzs:=fun b o v e=>by
  have q:=u.frzs b o v e
  rcases d b with z | ⟨_,o',z',dr⟩
  ·exact z.trans q
  ·rw [q] at z';cases z';cases dr
 tbls:=fun b ps e=>by
  obtain ⟨m,q⟩:=u.tbls b ps e
  rcases d b with z | ⟨_,o',z',dr⟩
  ·exact ⟨m,z.trans q⟩
  ·rw [q] at z';cases z';cases dr
theorem FnOk.drop {P:Program} {w:World} {K:PySem.W.Frag} {mg:Str → Option Value} {base:Heap} {k:Nat} {f:Addr} {fd:FuncData} {ps:List Str} {sp:Sp} (len:∀ vs H Q E,sp vs H Q E → vs.length = ps.length)
  (F:FnOk P w K mg base CX0 k f fd ps (fun vs H Qd E=>∃ Q,sp vs H Q E ∧ Qd = dG Q)):FnOk P w K mg base CX0 k f fd ps sp:=by
 refine ⟨len,fun A outer s H args us vs Q E hr he hb hv hs=>codeAny_mono (F.run A outer s H args us vs (dG Q) E hr he hb hv ⟨Q,hs,rfl⟩) fun r s' h=>?_⟩
 cases r with
 | error e=>exact h
 | ok fl =>
  cases fl with
  | ret u =>
   obtain ⟨v,H',os,bare,un,hok,rv,H'',d,q⟩:=h
   exact ⟨v,H'',os,bare,un.drop d,hok.drop d,rv,q⟩
  | next=>exact h
  | brk=>exact h
  | cont=>exact h
theorem DefAt.fcD {P:Program} {w:World} {K:PySem.W.Frag} {mg:Str → Option Value} {base:Heap} {x:Str} {st:Stmt} {N ps:List Str} {k:Nat} {sp:Sp} (D:DefAt K mg x st ps) (S:FnScope N ps (aB st)) (len:∀ vs H Q E,sp vs H Q E → vs.length = ps.length)
  (hbody:∀ (f:Addr) (cdv:Value) (A:Around) (outer:List Env) (s:Shared) (H:Hp) (vs:List V) (Q:VK) (E:XK),Room k (A.deeper (envOfC x (aB st) s.heap.objs.size f cdv)) → sp vs H Q E →
   ∃ t,PSs (nP CX0 P w K mg base N x (aB st) f cdv A outer s H E).nox (aN st) t ∧ t { nx:=fun _ H'=>dG Q .non H',rt:=dG Q } (iD N vs) H):Fc P w K mg base (k + 1) x ps sp:=by
 obtain ⟨f,fd,F,b,m⟩:=D.ex
 refine ⟨f,fd,FnOk.drop len (F.ok S (fun vs H Q E ⟨Q',h,_⟩=>len vs H Q' E h) fun cdv A outer s H vs Q E hr ⟨Q',h,e⟩=>?_),b,m,F.kp⟩
 subst e
 exact hbody f cdv A outer s H vs Q' E hr h
end L2
namespace L2
open PySem PySem.Spec PyProof.Rows
theorem aM.upd {H:Hp} {p:Addr} {o:HO} (h:H p = none):aM H (upd H p o):=fun b u e=>by
 rw [aO (aS e h)]
 exact e
def xW (K:PySem.W.Frag):Sp:=sp1 fun x H Q=>∃ (a:Addr) (ns:List Int),x = .ref a ∧ SqL K H a (ns.map V.int) ∧ ns.length ≤ 63 ∧ ∀ H',Q (.bl true) H'
theorem walk_law {l:PySem.W.OpenLaw} {q:Program} {loose:List Str} {XP:(Str → Option Value) → Heap → Prop} {YP:World → Heap → Prop} {d:DefRec} {K:Params → PySem.W.Frag} (k:Nat) (hr:Room k callerA) (hn:l.most = some 63) (hdf:d.params.defaults = [])
  (hY:∀ (w:World) (h:Heap),YP w h → (K w.params).In h)
  (F:∀ (w:World) (mg:Str → Option Value) (fa:Addr) (h:Heap),(K w.params).In h → h.Ns mainGlobals mg → mg d.name = some (.ref fa) →
   ∃ fd:FuncData,(∀ (s:Shared) (u:Value),BindsTo s fd ⟨[u],[]⟩ [("_law_script",u)]) ∧ ∀ base:Heap,(K w.params).In base → base.Ns mainGlobals mg → FnOk l.prog w (K w.params) mg base CX0 k fa fd ["_law_script"] (xW (K w.params))) :
  PySem.W.WalkO q loose XP YP l.row.toRowW d [] (fun f vs=>PySem.call f vs) :=
 L2.walk_of (n:=63) (k:=k) (x:="_law_script") (CX:=fun _=>CX0) (sp:=fun w=>xW (K w.params)) hn (by decide) hdf hr hY F (fun _ _ a ns hl _ hS=>⟨_,rfl,a,ns,rfl,hS,hl,fun _=>rfl⟩) fun _ _ _ _ _ z=>z
end L2
namespace L2
open PySem PySem.Spec PyProof.Rows
theorem kM {X:Cx} {x:Str} {n:String} {pos:Pos} (hm:X.mg x = none) (hv:bootBuiltins x = some (.type n)) (hg:Gl X x:=by rfl) (hn:x ≠ "__name__":=by decide) (hd:(x == ("__debug__":Str)) = false:=by decide):PE X (.Name x pos) (tC (.ty n)) :=
 aDR hg hm hv rfl hn hd
end L2
namespace L2
theorem aT {n:Nat} (h:Nat.ble n 1000 = true):n ≤ PySem.sizeLine:=Nat.le_trans (Nat.le_of_ble_eq_true h) (by decide)
end L2
namespace L2
open PySem PySem.Spec PyProof.Rows
def Ite (K:PySem.W.Frag) (a:Addr):It where
 go:=fun i H=>∃ xs x,SqL K H a xs ∧ xs[i]? = some x
 yld:=fun i H v H'=>∃ p x,H p = none ∧ v = .ref p ∧ H' = upd H p (.tup [.int i,x]) ∧ ∀ ys,SqL K H a ys → ys[i]? = some x
 stop:=fun i H=>∃ xs,SqL K H a xs ∧ xs.length ≤ i
end L2
namespace L2
open PySem PySem.Spec PyProof.Rows
inductive Dv where
 | non | bl (b:Bool) | int (i:Int) | str (x:Str) | lst (ds:List Dv) | tup (ds:List Dv) | dct (ks:List Key) (ds:List Dv)
mutual
def Is (H:Hp):Dv → V → Prop
 | .non,v=>v = .non
 | .bl b,v=>v = .bl b
 | .int i,v=>v = .int i
 | .str x,v=>v = .str x
 | .lst ds,v=>∃ a vs,v = .ref a ∧ H a = some (.lst vs) ∧ IsL H ds vs
 | .tup ds,v=>∃ a vs,v = .ref a ∧ H a = some (.tup vs) ∧ IsL H ds vs
 | .dct ks ds,v=>∃ a vs,v = .ref a ∧ H a = some (.dK (ks.zip vs)) ∧ vs.length = ks.length ∧ IsL H ds vs
def IsL (H:Hp):List Dv → List V → Prop
 | [],vs=>vs = []
 | d :: ds,vs=>∃ v r,vs = v :: r ∧ Is H d v ∧ IsL H ds r
end
def aFR:HO → Bool
 | .lst _=>true
 | .tup _=>true
 | .dK _=>true
 | _=>false
def yS (H H':Hp):Prop:=∀ b o,H b = some o → aFR o = true → H' b = some o
mutual
theorem Is.sameD {H H':Hp} (S:yS H H'):∀ (d:Dv) (v:V),Is H d v → Is H' d v
 | .non,_,h=>h
 | .bl _,_,h=>h
 | .int _,_,h=>h
 | .str _,_,h=>h
 | .lst ds,_,⟨a,vs,e,o,h⟩=>⟨a,vs,e,S _ _ o rfl,IsL.sameD S ds vs h⟩
 | .tup ds,_,⟨a,vs,e,o,h⟩=>⟨a,vs,e,S _ _ o rfl,IsL.sameD S ds vs h⟩
 | .dct ks ds,_,⟨a,vs,e,o,l,h⟩=>⟨a,vs,e,S _ _ o rfl,l,IsL.sameD S ds vs h⟩
theorem IsL.sameD {H H':Hp} (S:yS H H'):∀ (ds:List Dv) (vs:List V),IsL H ds vs → IsL H' ds vs
 | [],_,h=>h
 | d :: ds,_,⟨v,r,e,h,t⟩=>⟨v,r,e,Is.sameD S d v h,IsL.sameD S ds r t⟩
end
theorem Is.same {H H':Hp} (S:aM H H') (d:Dv) (v:V) (h:Is H d v):Is H' d v:=Is.sameD (fun b o e _=>S b o e) d v h
theorem IsL.same {H H':Hp} (S:aM H H') (ds:List Dv) (vs:List V) (h:IsL H ds vs):IsL H' ds vs:=IsL.sameD (fun b o e _=>S b o e) ds vs h
mutual
def tQ:Dv → Bool
 | .lst _=>false
 | .dct _ _=>false
 | .tup ds=>rX ds
 | _=>true
def rX:List Dv → Bool
 | []=>true
 | d :: ds=>tQ d && rX ds
end
def qJ (H H':Hp):Prop:=∀ a xs,H a = some (.tup xs) → H' a = some (.tup xs)
mutual
theorem Is.keep {H H':Hp} (S:qJ H H'):∀ (d:Dv) (v:V),tQ d = true → Is H d v → Is H' d v
 | .non,_,_,h=>h
 | .bl _,_,_,h=>h
 | .int _,_,_,h=>h
 | .str _,_,_,h=>h
 | .lst ds,_,f,_=>by cases f
 | .tup ds,_,f,⟨a,vs,e,o,h⟩=>⟨a,vs,e,S _ _ o,IsL.keep S ds vs f h⟩
 | .dct ks ds,_,f,_=>by cases f
theorem IsL.keep {H H':Hp} (S:qJ H H'):∀ (ds:List Dv) (vs:List V),rX ds = true → IsL H ds vs → IsL H' ds vs
 | [],_,_,h=>h
 | d :: ds,_,f,⟨v,r,e,h,t⟩=>⟨v,r,e,Is.keep S d v (Bool.and_eq_true_iff.mp f).1 h,IsL.keep S ds r (Bool.and_eq_true_iff.mp f).2 t⟩
end
mutual
def deq:Dv → Dv → Bool
 | .non,.non=>true
 | .bl a,.bl b=>a == b
 | .bl a,.int b=>(if a then 1 else 0) == b
 | .int a,.bl b=>a == (if b then 1 else 0)
 | .int a,.int b=>a == b
 | .str a,.str b=>a == b
 | .lst a,.lst b=>qT a b
 | .tup a,.tup b=>qT a b
 | _,_=>false
def qT:List Dv → List Dv → Bool
 | [],[]=>true
 | a :: r,b :: q=>deq a b && qT r q
 | _,_=>false
end
mutual
def aR:Nat → Dv → Bool
 | _,.dct _ _=>false
 | 0,.lst _=>false
 | 0,.tup _=>false
 | n + 1,.lst ds=>cH n ds
 | n + 1,.tup ds=>cH n ds
 | _,_=>true
def cH:Nat → List Dv → Bool
 | _,[]=>true
 | n,d :: ds=>aR n d && cH n ds
end
mutual
theorem jR:∀ (n:Nat) (d:Dv),aR n d = true → deq d d = true
 | _,.non,_=>rfl
 | _,.bl b,_=>beq_self_eq_true b
 | _,.int i,_=>beq_self_eq_true i
 | _,.str x,_=>beq_self_eq_true x
 | 0,.lst ds,f=>by simp [aR] at f
 | 0,.tup ds,f=>by simp [aR] at f
 | n + 1,.lst ds,f=>mO n ds (by simpa [aR] using f)
 | n + 1,.tup ds,f=>mO n ds (by simpa [aR] using f)
 | n,.dct ks ds,f=>by simp [aR] at f
theorem mO:∀ (n:Nat) (ds:List Dv),cH n ds = true → qT ds ds = true
 | _,[],_=>rfl
 | n,d :: ds,f=>by
  rw [cH,Bool.and_eq_true] at f
  show (deq d d && qT ds ds) = true
  rw [jR n d f.1,mO n ds f.2];rfl
end
theorem IsL.length {H:Hp}:∀ {ds:List Dv} {vs:List V},IsL H ds vs → vs.length = ds.length
 | [],_,h=>by rw [show _ = [] from h];rfl
 | d :: ds,_,⟨v,r,e,_,t⟩=>by rw [e,List.length_cons,List.length_cons,IsL.length t]
mutual
theorem Is.inj {H:Hp}:∀ (d e:Dv) (v:V),Is H d v → Is H e v → (∃ n,aR n d = true) → (∃ n,aR n e = true) → d = e
 | .non,e,v,h,h',_,_=>by
  cases e <;> simp_all [Is]
 | .bl b,e,v,h,h',_,_=>by
  cases e <;> simp_all [Is]
 | .int b,e,v,h,h',_,_=>by
  cases e <;> simp_all [Is]
 | .str b,e,v,h,h',_,_=>by
  cases e <;> simp_all [Is]
 | .lst ds,e,v,⟨a,vs,q,o,h⟩,h',⟨n,f⟩,⟨m,g⟩=>by
  subst q
  cases e with
  | lst es =>
   obtain ⟨a',vs',q',o',h'⟩:=h'
   cases q'
   rw [o] at o'
   cases o'
   cases n with
   | zero=>simp [aR] at f
   | succ n =>
    cases m with
    | zero=>simp [aR] at g
    | succ m=>rw [IsL.inj ds es vs h h' ⟨n,by simpa [aR] using f⟩ ⟨m,by simpa [aR] using g⟩]
  | tup es =>
   obtain ⟨a',vs',q',o',h'⟩:=h'
   cases q'
   rw [o] at o'
   cases o'
  | dct ks es=>simp [aR] at g
  | _=>simp_all [Is]
 | .tup ds,e,v,⟨a,vs,q,o,h⟩,h',⟨n,f⟩,⟨m,g⟩=>by
  subst q
  cases e with
  | tup es =>
   obtain ⟨a',vs',q',o',h'⟩:=h'
   cases q'
   rw [o] at o'
   cases o'
   cases n with
   | zero=>simp [aR] at f
   | succ n =>
    cases m with
    | zero=>simp [aR] at g
    | succ m=>rw [IsL.inj ds es vs h h' ⟨n,by simpa [aR] using f⟩ ⟨m,by simpa [aR] using g⟩]
  | lst es =>
   obtain ⟨a',vs',q',o',h'⟩:=h'
   cases q'
   rw [o] at o'
   cases o'
  | dct ks es=>simp [aR] at g
  | _=>simp_all [Is]
 | .dct ks ds,e,v,_,h',⟨n,f⟩,_=>by simp [aR] at f
theorem IsL.inj {H:Hp}:∀ (ds es:List Dv) (vs:List V),IsL H ds vs → IsL H es vs → (∃ n,cH n ds = true) → (∃ n,cH n es = true) → ds = es
 | [],es,vs,h,h',_,_=>by
  rw [show vs = [] from h] at h'
  cases es with
  | nil=>rfl
  | cons e es=>obtain ⟨v,r,q,_⟩:=h';cases q
 | d :: ds,es,vs,⟨v,r,q,h,t⟩,h',⟨n,f⟩,⟨m,g⟩=>by
  subst q
  cases es with
  | nil=>cases (show v :: r = [] from h')
  | cons e es =>
   obtain ⟨v',r',q',h',t'⟩:=h'
   cases q'
   rw [cH,Bool.and_eq_true] at f g
   rw [Is.inj d e v h h' ⟨n,f.1⟩ ⟨m,g.1⟩,IsL.inj ds es r t t' ⟨n,f.2⟩ ⟨m,g.2⟩]
end
theorem IsL.get {H:Hp}:∀ {ds:List Dv} {vs:List V} {i:Nat} {d:Dv},IsL H ds vs → ds[i]? = some d → ∃ v,vs[i]? = some v ∧ Is H d v
 | [],_,_,_,_,e=>by simp at e
 | d :: ds,_,0,d',⟨v,r,e,h,t⟩,q=>by
  simp at q
  subst q e
  exact ⟨v,rfl,h⟩
 | d :: ds,_,i + 1,d',⟨v,r,e,h,t⟩,q=>by
  subst e
  obtain ⟨u,h1,h2⟩:=IsL.get (i:=i) t (by simpa using q)
  exact ⟨u,by simpa using h1,h2⟩
theorem lB:∀ (ds es:List Dv),ds.length = es.length → (List.range ds.length).all (fun j=>deq (ds.getD j .non) (es.getD j .non)) = qT ds es
 | [],[],_=>rfl
 | d :: ds,e :: es,h=>by
  have ih:=lB ds es (by simpa using h)
  rw [List.length_cons,List.range_succ_eq_map,List.all_cons,List.all_map]
  show (deq d e && (List.range ds.length).all (fun j=>deq (ds.getD j .non) (es.getD j .non))) = (deq d e && qT ds es)
  rw [ih]
 | [],_ :: _,h=>by simp at h
 | _ :: _,[],h=>by simp at h
theorem pY:∀ (ds es:List Dv),ds.length ≠ es.length → qT ds es = false
 | [],[],h=>absurd rfl h
 | d :: ds,e :: es,h=>by
  show (deq d e && qT ds es) = false
  rw [pY ds es (fun q=>h (by simp [q]))]
  simp
 | [],_ :: _,_=>rfl
 | _ :: _,[],_=>rfl
theorem jQ:∀ {n:Nat} {ds:List Dv} {i:Nat} {d:Dv},cH n ds = true → ds[i]? = some d → aR n d = true
 | n,[],_,_,_,e=>by simp at e
 | n,d :: ds,0,d',f,e=>by
  simp at e
  subst e
  rw [cH,Bool.and_eq_true] at f
  exact f.1
 | n,d :: ds,i + 1,d',f,e=>by
  rw [cH,Bool.and_eq_true] at f
  exact jQ (i:=i) f.2 (by simpa using e)
theorem IsL.snoc {H:Hp} {d:Dv} {v:V} (h:Is H d v):∀ {ds:List Dv} {vs:List V},IsL H ds vs → IsL H (ds ++ [d]) (vs ++ [v])
 | [],_,e=>by
  rw [show _ = [] from e]
  exact ⟨v,[],rfl,h,rfl⟩
 | d' :: ds,_,⟨v',r,e,h',t⟩=>by
  subst e
  exact ⟨v',r ++ [v],rfl,h',IsL.snoc h t⟩
theorem IsL.strs (H:Hp):∀ zs:List Str,IsL H (zs.map Dv.str) (zs.map V.str)
 | []=>rfl
 | z :: zs=>⟨.str z,zs.map V.str,rfl,rfl,IsL.strs H zs⟩
theorem jN:∀ {ds:List Dv},(∀ d ∈ ds,tQ d = true) → rX ds = true
 | [],_=>rfl
 | d :: ds,h=>by
  rw [rX,h d List.mem_cons_self,jN fun e m=>h e (List.mem_cons_of_mem _ m)]
  rfl
theorem qJ.lst {H:Hp} {l:Addr} {xs:List V} {o:HO} (h:H l = some (.lst xs)):qJ H (upd H l o):=fun a ys e=>by
 have:a ≠ l:=yI e h (by intro z;cases z)
 rw [aO this]
 exact e
theorem aM.over {H H':Hp} {l:Addr} {o:HO} (S:aM H H') (hl:H l = none):aM H (L2.upd H' l o):=fun b u e=>by
 rw [aO (aS e hl)]
 exact S b u e
theorem pT {n:Nat}:∀ {ds:List Dv},(∀ d ∈ ds,aR n d = true) → cH n ds = true
 | [],_=>by rw [cH]
 | d :: ds,h=>by
  rw [cH,h d List.mem_cons_self,pT fun e m=>h e (List.mem_cons_of_mem _ m)]
  rfl
inductive View (s:Shared) (H:Hp):Dv → Value → Prop where
 | non:View s H .non .none
 | bl (b:Bool):View s H (.bl b) (.bool b)
 | int (i:Int) (t:Tok):View s H (.int i) (.int i t)
 | str (x:Str) (t:Tok):View s H (.str x) (.str x t)
 | lst {ds:List Dv} {l:Addr} {its:List Value} {vs:List V} (hl:s.heap.IsList l its.toArray) (r:bC vs its) (h:IsL H ds vs):View s H (.lst ds) (.ref l)
 | tup {ds:List Dv} {l:Addr} {its:List Value} {vs:List V} (hl:s.heap.IsTuple l its.toArray) (r:bC vs its) (h:IsL H ds vs):View s H (.tup ds) (.ref l)
section
variable {X:Cx} {pins:List (Addr × Obj)} {σ:St} {H:Hp} {s:Shared}
theorem Is.view (I:Inv X pins σ H s) {n:Nat} {d:Dv} {v:V} {u:Value} (f:aR n d = true) (h:Is H d v) (r:aZ v u):View s H d u:=by
 cases d with
 | non=>cases (show v = .non from h);cases r;exact .non
 | bl b=>cases (show v = .bl b from h);cases r;exact .bl b
 | int b=>cases (show v = .int b from h);obtain ⟨t,rfl⟩:=r;exact .int b t
 | str b=>cases (show v = .str b from h);obtain ⟨t,rfl⟩:=r;exact .str b t
 | lst ds =>
  obtain ⟨a,vs,rfl,o,h⟩:=h
  cases r
  obtain ⟨its,rv,pl,hz⟩:=I.list (SqL.of o)
  exact .lst pl.isList rv h
 | tup ds =>
  obtain ⟨a,vs,rfl,o,h⟩:=h
  cases r
  obtain ⟨its,rv,pl,hz⟩:=I.tuple (SqT.of o)
  exact .tup pl rv h
 | dct ks ds=>simp [aR] at f
open PySem.SeqAt in
theorem iR {n:Nat} {A:Around} (hu:A.units + n < cLine)
  (ih:∀ (d e:Dv) (v v':V) (u u':Value) (A:Around),A.units + n < cLine → aR n d = true → aR n e = true → Is H d v → Is H e v' → aZ v u → aZ v' u' → EqAt A s u u' (deq d e))
  {ds es:List Dv} {vs vs':List V} {its its':List Value} (f:cH n ds = true) (g:cH n es = true) (h:IsL H ds vs) (h':IsL H es vs') (r:bC vs its) (r':bC vs' its')
  (j:Nat) (h1:j < its.toArray.size) (h2:j < its'.toArray.size):EqAt A s its.toArray[j] its'.toArray[j] (deq (ds.getD j .non) (es.getD j .non)):=by
 have l1:=r.length
 have l2:=r'.length
 have l3:=h.length
 have l4:=h'.length
 rw [List.size_toArray] at h1 h2
 have e1:ds[j]? = some (ds.getD j .non):=by
  rw [List.getD_eq_getElem?_getD,List.getElem?_eq_getElem (by omega)];rfl
 have e2:es[j]? = some (es.getD j .non):=by
  rw [List.getD_eq_getElem?_getD,List.getElem?_eq_getElem (by omega)];rfl
 obtain ⟨v,q1,i1⟩:=h.get e1
 obtain ⟨v',q2,i2⟩:=h'.get e2
 obtain ⟨u,p1,k1⟩:=r.get q1
 obtain ⟨u',p2,k2⟩:=r'.get q2
 have z1:its.toArray[j] = u:=by
  have:=List.getElem?_eq_some_iff.mp p1
  obtain ⟨_,e⟩:=this
  simpa using e
 have z2:its'.toArray[j] = u':=by
  have:=List.getElem?_eq_some_iff.mp p2
  obtain ⟨_,e⟩:=this
  simpa using e
 rw [z1,z2]
 exact ih _ _ v v' u u' A hu (jQ f e1) (jQ g e2) i1 i2 k1 k2
open PySem.SeqAt in
theorem aET (I:Inv X pins σ H s) {n:Nat}
  (ih:∀ (d e:Dv) (v v':V) (u u':Value) (A:Around),A.units + n < cLine → aR n d = true → aR n e = true → Is H d v → Is H e v' → aZ v u → aZ v' u' → EqAt A s u u' (deq d e))
  (d e:Dv) (v v':V) (u u':Value) (A:Around) (hu:A.units + (n + 1) < cLine) (f:aR (n + 1) d = true) (g:aR (n + 1) e = true) (h:Is H d v) (h':Is H e v') (r:aZ v u) (r':aZ v' u') :
  RcAt A s u u' (deq d e) ∧ RcNeAt A s u u' (!deq d e):=by
 have hu0:A.units < cLine:=by omega
 have hu1:A.in1.units + n < cLine:=by show A.units + 1 + n < cLine;omega
 have w:=Is.view I f h r
 have w':=Is.view I g h' r'
 cases w with
 | non =>
  cases w' with
  | non=>exact ⟨RcAt.none_none,RcNeAt.none_none⟩
  | bl b=>exact ⟨RcAt.none_bool _,RcNeAt.none_bool _⟩
  | int b t=>exact ⟨RcAt.none_int _ _,RcNeAt.none_int _ _⟩
  | str b t=>exact ⟨RcAt.none_str _ _,RcNeAt.none_str _ _⟩
  | lst hl _ _=>exact ⟨RcAt.none_list hl hu0,RcNeAt.none_list hl hu0⟩
  | tup hl _ _=>exact ⟨RcAt.none_tuple hl hu0,RcNeAt.none_tuple hl hu0⟩
 | bl a =>
  cases w' with
  | non=>exact ⟨RcAt.bool_none _,RcNeAt.bool_none _⟩
  | bl b=>exact ⟨RcAt.bool_bool _ _,RcNeAt.bool_bool _ _⟩
  | int b t=>exact ⟨RcAt.bool_int _ _ _,RcNeAt.bool_int _ _ _⟩
  | str b t=>exact ⟨RcAt.bool_str _ _ _,RcNeAt.bool_str _ _ _⟩
  | lst hl _ _=>exact ⟨RcAt.bool_list _ hl hu0,RcNeAt.bool_list _ hl hu0⟩
  | tup hl _ _=>exact ⟨RcAt.bool_tuple _ hl hu0,RcNeAt.bool_tuple _ hl hu0⟩
 | int a t =>
  cases w' with
  | non=>exact ⟨RcAt.int_none _ _,RcNeAt.int_none _ _⟩
  | bl b=>exact ⟨RcAt.int_bool _ _ _,RcNeAt.int_bool _ _ _⟩
  | int b t=>exact ⟨RcAt.int_int _ _ _ _,RcNeAt.int_int _ _ _ _⟩
  | str b t=>exact ⟨RcAt.int_str _ _ _ _,RcNeAt.int_str _ _ _ _⟩
  | lst hl _ _=>exact ⟨RcAt.int_list _ _ hl hu0,RcNeAt.int_list _ _ hl hu0⟩
  | tup hl _ _=>exact ⟨RcAt.int_tuple _ _ hl hu0,RcNeAt.int_tuple _ _ hl hu0⟩
 | str a t =>
  cases w' with
  | non=>exact ⟨RcAt.str_none _ _,RcNeAt.str_none _ _⟩
  | bl b=>exact ⟨RcAt.str_bool _ _ _,RcNeAt.str_bool _ _ _⟩
  | int b t=>exact ⟨RcAt.str_int _ _ _ _,RcNeAt.str_int _ _ _ _⟩
  | str b t=>exact ⟨RcAt.str_str _ _ _ _,RcNeAt.str_str _ _ _ _⟩
  | lst hl _ _=>exact ⟨RcAt.str_list _ _ hl hu0,RcNeAt.str_list _ _ hl hu0⟩
  | tup hl _ _=>exact ⟨RcAt.str_tuple _ _ hl hu0,RcNeAt.str_tuple _ _ hl hu0⟩
 | @lst ds l its vs hl rv hi =>
  cases w' with
  | non=>exact ⟨RcAt.list_none hl hu0,RcNeAt.list_none hl hu0⟩
  | bl b=>exact ⟨RcAt.list_bool _ hl hu0,RcNeAt.list_bool _ hl hu0⟩
  | int b t=>exact ⟨RcAt.list_int _ _ hl hu0,RcNeAt.list_int _ _ hl hu0⟩
  | str b t=>exact ⟨RcAt.list_str _ _ hl hu0,RcNeAt.list_str _ _ hl hu0⟩
  | @lst es l' its' vs' hl' rv' hi' =>
   have f':cH n ds = true:=by simpa [aR] using f
   have g':cH n es = true:=by simpa [aR] using g
   have l1:=rv.length
   have l2:=rv'.length
   have l3:=hi.length
   have l4:=hi'.length
   by_cases hq:ds.length = es.length
   ·have hsz:its.toArray.size = its'.toArray.size:=by rw [List.size_toArray,List.size_toArray];omega
    have key:(List.range its.toArray.size).all (fun j=>deq (ds.getD j .non) (es.getD j .non)) = deq (.lst ds) (.lst es):=by
     rw [List.size_toArray,show its.length = ds.length by omega]
     exact lB ds es hq
    rw [← key]
    exact ⟨RcAt.lists hl hl' hsz hu0 (iR hu1 ih f' g' hi hi' rv rv'),RcNeAt.lists hl hl' hsz hu0 (iR hu1 ih f' g' hi hi' rv rv')⟩
   ·have key:deq (.lst ds) (.lst es) = false:=pY ds es hq
    have hsz:(its.toArray.size != its'.toArray.size) = true:=by
     rw [List.size_toArray,List.size_toArray,bne_iff_ne];omega
    rw [key]
    exact ⟨RcAt.lists_lengths hl hl' hsz hu0,RcNeAt.lists_lengths hl hl' hsz hu0⟩
  | tup hl' _ _=>exact ⟨RcAt.list_tuple hl hl' hu0,RcNeAt.list_tuple hl hl' hu0⟩
 | @tup ds l its vs hl rv hi =>
  cases w' with
  | non=>exact ⟨RcAt.tuple_none hl hu0,RcNeAt.tuple_none hl hu0⟩
  | bl b=>exact ⟨RcAt.tuple_bool _ hl hu0,RcNeAt.tuple_bool _ hl hu0⟩
  | int b t=>exact ⟨RcAt.tuple_int _ _ hl hu0,RcNeAt.tuple_int _ _ hl hu0⟩
  | str b t=>exact ⟨RcAt.tuple_str _ _ hl hu0,RcNeAt.tuple_str _ _ hl hu0⟩
  | lst hl' _ _=>exact ⟨RcAt.tuple_list hl hl' hu0,RcNeAt.tuple_list hl hl' hu0⟩
  | @tup es l' its' vs' hl' rv' hi' =>
   have f':cH n ds = true:=by simpa [aR] using f
   have g':cH n es = true:=by simpa [aR] using g
   have l1:=rv.length
   have l2:=rv'.length
   have l3:=hi.length
   have l4:=hi'.length
   have key:((List.range (min its.toArray.size its'.toArray.size)).all (fun j=>deq (ds.getD j .non) (es.getD j .non)) && its.toArray.size == its'.toArray.size) = deq (.tup ds) (.tup es):=by
    rw [List.size_toArray,List.size_toArray,show its.length = ds.length by omega,show its'.length = es.length by omega]
    show _ = qT ds es
    by_cases hq:ds.length = es.length
    ·rw [← hq,Nat.min_self,lB ds es hq]
     simp
    ·rw [pY ds es hq,beq_eq_false_iff_ne.mpr hq]
     simp
   rw [← key]
   exact ⟨RcAt.tuples hl hl' hu0 (iR hu1 ih f' g' hi hi' rv rv'),RcNeAt.tuples hl hl' hu0 (iR hu1 ih f' g' hi hi' rv rv')⟩
open PySem.SeqAt in
theorem Is.eqAt (I:Inv X pins σ H s):∀ (n:Nat) (d e:Dv) (v v':V) (u u':Value) (A:Around),A.units + n < cLine → aR n d = true → aR n e = true → Is H d v → Is H e v' → aZ v u → aZ v' u' → EqAt A s u u' (deq d e):=by
 intro n
 induction n with
 | zero =>
  intro d e v v' u u' A hu f g h h' r r'
  cases d with
  | lst _=>simp [aR] at f
  | tup _=>simp [aR] at f
  | dct _ _=>simp [aR] at f
  | non =>
   cases e with
   | lst _=>simp [aR] at g
   | tup _=>simp [aR] at g
   | dct _ _=>simp [aR] at g
   | _=>cases h;cases h';exact iU r r' rfl rfl
  | bl b =>
   cases e with
   | lst _=>simp [aR] at g
   | tup _=>simp [aR] at g
   | dct _ _=>simp [aR] at g
   | _=>cases h;cases h';exact iU r r' rfl rfl
  | int b =>
   cases e with
   | lst _=>simp [aR] at g
   | tup _=>simp [aR] at g
   | dct _ _=>simp [aR] at g
   | _=>cases h;cases h';exact iU r r' rfl rfl
  | str b =>
   cases e with
   | lst _=>simp [aR] at g
   | tup _=>simp [aR] at g
   | dct _ _=>simp [aR] at g
   | _=>cases h;cases h';exact iU r r' rfl rfl
 | succ n ih =>
  intro d e v v' u u' A hu f g h h' r r'
  have rc:=(aET I ih d e v v' u u' A hu f g h h' r r').1
  have w:=Is.view I f h r
  have w':=Is.view I g h' r'
  have fin:∀ (l l':Addr),u = .ref l → u' = .ref l' → EqAt A s u u' (deq d e):=by
   rintro l l' rfl rfl
   by_cases hq:l = l'
   ·subst hq
    have e1:v = .ref l:=r.inj (show aZ (.ref l) (.ref l) from rfl)
    have e2:v' = .ref l:=r'.inj (show aZ (.ref l) (.ref l) from rfl)
    subst e1 e2
    have e3:=Is.inj d e _ h h' ⟨_,f⟩ ⟨_,g⟩
    subst e3
    rw [jR _ d f]
    exact EqAt.same _
   ·exact EqAt.of_refs hq rc
  cases w with
  | lst hl _ _ =>
   cases w' with
   | lst hl' _ _=>exact fin _ _ rfl rfl
   | tup hl' _ _=>exact fin _ _ rfl rfl
   | non=>exact EqAt.list_none hl (by omega)
   | bl b=>exact EqAt.list_bool _ hl (by omega)
   | int b t=>exact EqAt.list_int _ _ hl (by omega)
   | str b t=>exact EqAt.list_str _ _ hl (by omega)
  | tup hl _ _ =>
   cases w' with
   | lst hl' _ _=>exact fin _ _ rfl rfl
   | tup hl' _ _=>exact fin _ _ rfl rfl
   | non=>exact EqAt.tuple_none hl (by omega)
   | bl b=>exact EqAt.tuple_bool _ hl (by omega)
   | int b t=>exact EqAt.tuple_int _ _ hl (by omega)
   | str b t=>exact EqAt.tuple_str _ _ hl (by omega)
  | non =>
   cases w' with
   | lst hl' _ _=>exact EqAt.none_list hl' (by omega)
   | tup hl' _ _=>exact EqAt.none_tuple hl' (by omega)
   | _=>cases h;cases h';exact iU r r' rfl rfl
  | bl b =>
   cases w' with
   | lst hl' _ _=>exact EqAt.bool_list _ hl' (by omega)
   | tup hl' _ _=>exact EqAt.bool_tuple _ hl' (by omega)
   | _=>cases h;cases h';exact iU r r' rfl rfl
  | int b t =>
   cases w' with
   | lst hl' _ _=>exact EqAt.int_list _ _ hl' (by omega)
   | tup hl' _ _=>exact EqAt.int_tuple _ _ hl' (by omega)
   | _=>cases h;cases h';exact iU r r' rfl rfl
  | str b t =>
   cases w' with
   | lst hl' _ _=>exact EqAt.str_list _ _ hl' (by omega)
   | tup hl' _ _=>exact EqAt.str_tuple _ _ hl' (by omega)
   | _=>cases h;cases h';exact iU r r' rfl rfl
end
def aGV (neg:Bool):R2:=fun x y H Q=>∃ d e,Is H d x ∧ Is H e y ∧ aR 30 d = true ∧ aR 30 e = true ∧ Q (.bl (if neg then !deq d e else deq d e)) H
theorem aBT {X:Cx} (hu:X.A.units + 64 < cLine):OpR X (compareOp .NotEq) (aGV true):=by
 intro pins s σ H x y v u Q I rx ry h
 obtain ⟨d,e,h,h',f,g,q⟩:=h
 exact (aET (n:=29) I (Is.eqAt I 29) d e x y v u X.A (by omega) f g h h' rx ry).2 _ _ _ _ ⟨.bl _,H,I,rfl,q⟩
end L2
namespace L2
open PySem PySem.Spec PyProof.Rows
instance keyMem (k:Key) (l:List Key):Decidable (k ∈ l):=decidable_of_iff (l.any (fun x=>decide (x = k)) = true) (by simp)
def cZ (key:Nat → Key):Nat → List Key
 | 0=>[]
 | i + 1=>if key i ∈ cZ key i then cZ key i else cZ key i ++ [key i]
theorem lQ (key:Nat → Key):∀ i,(cZ key i).length ≤ i
 | 0=>Nat.le_refl _
 | i + 1=>by
  have ih:=lQ key i
  show (if key i ∈ cZ key i then cZ key i else cZ key i ++ [key i]).length ≤ i + 1
  split
  ·omega
  ·rw [List.length_append,List.length_singleton];omega
theorem pH (key:Nat → Key) (k:Key):∀ i,k ∈ cZ key i ↔ ∃ j,j < i ∧ key j = k
 | 0=>by
  constructor
  ·intro h;cases h
  ·rintro ⟨j,h,_⟩;omega
 | i + 1=>by
  have ih:=pH key k i
  show k ∈ (if key i ∈ cZ key i then cZ key i else cZ key i ++ [key i]) ↔ _
  have step:(k ∈ cZ key i ∨ k = key i) ↔ ∃ j,j < i + 1 ∧ key j = k:=by
   rw [ih]
   constructor
   ·rintro (⟨j,h,e⟩ | e)
    ·exact ⟨j,by omega,e⟩
    ·exact ⟨i,by omega,e.symm⟩
   ·rintro ⟨j,h,e⟩
    by_cases hj:j = i
    ·subst hj;exact .inr e.symm
    ·exact .inl ⟨j,by omega,e⟩
  rw [← step]
  split
  ·rename_i h
   constructor
   ·exact .inl
   ·rintro (h' | rfl)
    ·exact h'
    ·exact h
  ·rw [List.mem_append,List.mem_singleton]
theorem rR (key:Nat → Key):∀ n,(cZ key n).length = n ↔ ∀ i j,i < j → j < n → key i ≠ key j
 | 0=>⟨fun _ i j _ h=>absurd h (Nat.not_lt_zero _),fun _=>rfl⟩
 | n + 1=>by
  have ih:=rR key n
  have le:=lQ key n
  have mm:=pH key (key n) n
  show (if key n ∈ cZ key n then cZ key n else cZ key n ++ [key n]).length = n + 1 ↔ _
  split
  ·rename_i h
   constructor
   ·intro e;omega
   ·intro e
    obtain ⟨j,hj,q⟩:=mm.mp h
    exact absurd q (e j n hj (Nat.lt_succ_self n))
  ·rename_i h
   rw [List.length_append,List.length_singleton,Nat.add_right_cancel_iff,ih]
   constructor
   ·intro e i j hi hj
    by_cases q:j = n
    ·subst q
     exact fun z=>h (mm.mpr ⟨i,hi,z⟩)
    ·exact e i j hi (by omega)
   ·intro e i j hi hj
    exact e i j hi (by omega)
def jS (ks:List Key):List Key:=cZ (fun i=>ks.getD i (.inl 0)) ks.length
theorem aAE (ks:List Key):(jS ks).length = ks.length ↔ ks.Nodup:=by
 unfold jS
 rw [rR,List.nodup_iff_pairwise_ne,List.pairwise_iff_getElem]
 constructor
 ·intro h i j hi hj hij
  have:=h i j hij hj
  simpa [List.getD_eq_getElem?_getD,hi,hj] using this
 ·intro h i j hij hj
  have hi:i < ks.length:=by omega
  have:=h i j hi hj hij
  simpa [List.getD_eq_getElem?_getD,hi,hj] using this
theorem yN (ks:List Key):(jS ks).length ≤ ks.length:=lQ _ _
def aAL (P:Program) (w:World) (a:Addr) (S:Key → Bool) (n:Nat):HO:=.ext fun h=>h.SetOf (aI P w) a S n
theorem aAL.ok {P:Program} {w:World} {H:Hp} {h:Heap} {a:Addr} {S:Key → Bool} {n:Nat} (x:h.SetOf (aI P w) a S n):bX P w H h a (aAL P w a S n) :=
 ⟨x,let ⟨o,_,_,_,ho,_⟩:=x;⟨o,ho⟩,fun _ _ ⟨o,es,ep,t,ho,r⟩ k=>⟨o,es,ep,t,k o ho,r⟩⟩
theorem vN {P:Program} {w:World} {k:Key} {v:Value} (h:(aI P w).is k v = true):v.scannable = true:=by
 rcases bO h with ⟨i,t,rfl,rfl⟩ | ⟨x,t,rfl,rfl⟩ <;> rfl
section
variable {P:Program} {w:World} {A:Around} {R:Result → Shared → Prop} {I:Addr} {fp wr:List Addr} {G:Array GenState → Array GenState → Prop} {n:Nat} {Pv:Nat → Value → Prop} {Stt:Nat → Shared → Prop}
theorem wJ {h:Heap} {a:Addr} {S S':Key → Bool} {n n':Nat} (x:h.SetOf (aI P w) a S n) (e:∀ k,S k = S' k) (q:n = n'):h.SetOf (aI P w) a S' n':=by
 obtain rfl:S = S':=funext e
 subst q
 exact x
theorem aBD (W:WalksS P w A.in1 I fp wr G n Pv Stt) (D:Addr) (hD:D ∉ fp) (key:Nat → Key) (hv:∀ i v,Pv i v → (aI P w).is (key i) v = true) (hb:n + 1 < scanBound) (fin:∀ s s',Moved (D :: wr) G s s' → s'.heap.SetOf (aI P w) D (fun k=>decide (k ∈ cZ key n)) (cZ key n).length → True) :
  ∀ (m i:Nat) (s:Shared),n - i = m → i ≤ n → Stt i s → s.heap.SetOf (aI P w) D (fun k=>decide (k ∈ cZ key i)) (cZ key i).length →
   (∀ s',Moved (D :: wr) G s s' → s'.heap.SetOf (aI P w) D (fun k=>decide (k ∈ cZ key n)) (cZ key n).length → R (.ok (.ret .none)) s') →
   codeAny (model P w) A (.builtin "set.update.loop" ⟨[.ref D,.ref I],[]⟩) R s:=by
 have hDw:D ∉ wr:=fun z=>hD (W.sub _ z)
 have sub:∀ b ∈ wr,b ∈ D :: wr:=fun b z=>List.mem_cons_of_mem _ z
 have moved:∀ {s s':Shared} {S:Key → Bool} {c:Nat},Moved wr G s s' → s.heap.SetOf (aI P w) D S c → s'.heap.SetOf (aI P w) D S c:=fun mv ⟨o,es,ep,t,ho,r⟩=>⟨o,es,ep,t,mv.heap D _ hDw ho,r⟩
 intro m
 induction m with
 | zero =>
  intro i s e1 e2 st hS hR
  obtain rfl:i = n:=by omega
  refine codeAny_builtin PyProof.Rows.F.entry_set_update_loop ?_
  rw [Around.under_plainId PyProof.Rows.F.plain_set_update_loop _]
  show wpAny _ A.in1 (pyNext (.ref I) >>= _) _ _ s
  refine wpAny_bind (W.done s _ _ st fun s' mv=>?_)
  exact wpAny_pure (hR s' (mv.mono sub) (moved mv hS))
 | succ m ih =>
  intro i s e1 e2 st hS hR
  have lt:i < n:=by omega
  refine codeAny_builtin PyProof.Rows.F.entry_set_update_loop ?_
  rw [Around.under_plainId PyProof.Rows.F.plain_set_update_loop _]
  show wpAny _ A.in1 (pyNext (.ref I) >>= _) _ _ s
  refine wpAny_bind (W.item i s _ _ lt st fun v s' pv st' mv=>?_)
  have hk:=hv i v pv
  have hS1:=moved mv hS
  show wpAny _ A.in1 (holding [v] (setAdd D v) >>= _) _ _ s'
  refine wpAny_bind (wpAny_holding ?_)
  unfold setAdd
  refine wpAny_holding (wpAny_bind ((aI P w).pyHash (k:=key i) hk ?_))
  have room:(cZ key i).length + 1 < scanBound:=by have:=lQ key i;omega
  refine wpAny_setAddHashed_of (knd:=aI P w) (s:={ s' with toks:=s'.toks + 1 }) hk (vN hk) hS1 room fun h' sb hS2=>?_
  have hS3:h'.SetOf (aI P w) D (fun k=>decide (k ∈ cZ key (i + 1))) (cZ key (i + 1)).length:=by
   refine wJ hS2 (fun k=>?_) ?_
   ·show (decide (k ∈ cZ key i) || decide (k = key i)) = decide (k ∈ if key i ∈ cZ key i then cZ key i else cZ key i ++ [key i])
    by_cases z:key i ∈ cZ key i
    ·rw [if_pos z]
     by_cases y:k = key i
     ·subst y;simp [z]
     ·simp [y]
    ·rw [if_neg z]
     simp
   ·show (if decide (key i ∈ cZ key i) = true then (cZ key i).length else (cZ key i).length + 1) = (if key i ∈ cZ key i then cZ key i else cZ key i ++ [key i]).length
    by_cases z:key i ∈ cZ key i
    ·rw [if_pos z,if_pos (decide_eq_true z)]
    ·rw [if_neg z,if_neg (by simpa using z)]
     simp
  refine wpAny_pure ⟨plainId_quiet PyProof.Rows.F.plain_set_update_loop _,ih (i + 1) _ (by omega) lt (W.frame _ s' _ _ st' (Nat.le_succ _) fun b hb o e=>?_) hS3 fun s2 mv2 hS4=>?_⟩
  ·rw [sb.2 b (fun z:b = D=>hD (by rw [← z];exact hb))]
   exact e
  ·refine hR s2 (Moved.trans W.gtrans ((mv.mono sub).then_heap (Nat.le_succ _) fun b o hb e=>?_) mv2) hS4
   rw [sb.2 b (fun z:b = D=>hb (by rw [z];exact List.mem_cons_self))]
   exact e
end
section
variable {P:Program} {w:World} {A:Around} {E:Value → Shared → Prop} {s:Shared}
abbrev gX (led:Bool):Obj:={ cls:=.type "set",dict:=none,data:=.set #[] 0 (.fresh 0 0 led) }
set_option maxHeartbeats 8000000 in
theorem uT {l:Addr} {its:List Value} {ks:List Key} {Q:Value → Shared → Prop} (hh:A.handled = none) (hl:s.heap.IsList l its.toArray) (hk:∀ i v,its[i]? = some v → (aI P w).is (ks.getD i (.inl 0)) v = true) (hn:its.length = ks.length) (hb:its.length + 1 < scanBound)
  (h:∀ (h':Heap) (tk:Nat),h'.SetOf (aI P w) s.heap.objs.size (fun k=>decide (k ∈ jS ks)) (jS ks).length → (∀ b o,s.heap.get? b = some o → h'.get? b = some o) → Q (.ref s.heap.objs.size) { s with heap:=h',toks:=tk }) :
  wpAny (model P w) A (call (.type "set") [.ref l]) Q E s:=by
 obtain ⟨c,tl,hmro⟩:=PySem.F.called_set.mro
 have m1:=PySem.F.called_set.made
 have m2:=PySem.F.called_set.sub
 refine wpAny_call (codeAny_of_tree ?_)
 show wpAny _ _ (callAny (.type "set") _) _ _ _
 refine wpAny_pure ⟨Code.quiet_builtin _ (by decide +kernel),codeAny_builtin PySem.F.entry_type_call ?_⟩
 rw [Around.under_plain (weight_type_call_type "set" [.ref l] []) rfl]
 have m3:=PySem.F.called_set.notType
 have m4:=PySem.F.called_set.canCreate
 have m5:=PySem.F.typeCall_set_1 (.ref l)
 repeat (any_goals (first | assumption | wp_step))
 refine codeAny_mono (code_set_new_1 (.ref l) (E:=E) (Q₁:=fun ob s1=>∃ led:Bool,ob = .ref s.heap.objs.size ∧ s1 = { s with heap:=s.heap.push (gX led) }) fun led=>⟨led,rfl,rfl⟩) fun r s1 hr=>?_
 cases r with
 | error e=>exact hr
 | ok fl =>
  cases fl with
  | ret ob =>
   obtain ⟨led,rfl,rfl⟩:=hr
   have hS:(s.heap.push (gX led)).get? s.heap.objs.size = some (gX led):=Heap.get?_push_size _ rfl
   have hT:Shared.TypeIs { s with heap:=s.heap.push (gX led) } (.ref s.heap.objs.size) "set":=⟨_,hS,rfl⟩
   have m6:=PySem.F.called_set.init.lookup
   have m7:=PySem.F.called_set.init.bind (.ref s.heap.objs.size)
   repeat (any_goals (first | assumption | wp_step))
   refine codeAny_mono (codeAny_call_builtin (R:=wants (fun r s2=>r = .none ∧ ∃ h' tk,s2 = { s with heap:=h',toks:=tk } ∧ h'.SetOf (aI P w) s.heap.objs.size (fun k=>decide (k ∈ jS ks)) (jS ks).length ∧ (∀ b o,s.heap.get? b = some o → h'.get? b = some o)) E)
    PySem.F.called_set.init.plain PySem.F.entry_set_init (check_set_init_1 hT ?_)) fun r2 s2 hr2=>?_
   ·obtain ⟨⟨oc,od,oda,osl⟩,hol,hcl,nl,hdl⟩:=hl
    simp only at hcl hdl
    subst hcl hdl
    have hol1:(s.heap.push (gX led)).get? l = some { cls:=.type "list",dict:=od,data:=.seq its.toArray nl,slots:=osl }:=Heap.get?_push_of_some _ hol
    have m8:=PySem.F.sub_list_set
    have m9:=PySem.F.sub_list_frozenset
    have m10:(Value.type "list" == Value.type "dict") = false:=by decide
    have hl1:(s.heap.push (gX led)).IsList l its.toArray:=⟨_,hol1,rfl,nl,rfl⟩
    have lS:l < s.heap.objs.size:=Heap.lt_size hol
    unfold Builtin.«set.__init__» noKeywords Builtin.Frozenset.updateFrom
    generalize hPI:pyIter = PI
    wp_walk
    subst hPI
    refine wpAny_pyIter_list hl1 (wpAny_bind (wpAny_runValue ?_))
    have hh3:A.in1.in1.in1.handled = none:=by simp [hh]
    have nI:l ≠ (s.heap.push (gX led)).objs.size:=by rw [Heap.size_push];exact Nat.ne_of_lt (Nat.lt_succ_of_lt lS)
    have nS:s.heap.objs.size ∉ [(s.heap.push (gX led)).objs.size,l]:=by
     rw [Heap.size_push]
     simp only [List.mem_cons,List.mem_singleton,List.not_mem_nil,or_false,not_or]
     exact ⟨Nat.ne_of_lt (Nat.lt_succ_self _),Nat.ne_of_gt lS⟩
    have sz:its.toArray.size = ks.length:=by rw [List.size_toArray,hn]
    refine aBD ((Walks.list hh3 _ l nI its.toArray).toS) s.heap.objs.size nS (fun i=>ks.getD i (.inl 0)) (fun i v pv=>hk i v (by simpa using pv)) (by rw [List.size_toArray];exact hb) (fun _ _ _ _=>trivial) (its.toArray.size - 0) 0 _ (by omega) (Nat.zero_le _)
     ⟨⟨_,Heap.get?_push_size _ rfl,rfl,rfl⟩,(hl1.push _)⟩ ?_ ?_
    ·have g:((s.heap.push (gX led)).push { cls:=.type "list_iterator",data:=.fields #[.ref l,.int 0 0] }).get? s.heap.objs.size = some (gX led):=Heap.get?_push_of_some _ hS
     exact ⟨_,#[],0,_,g,⟨rfl,rfl,rfl⟩,rfl,fun e he=>by simp at he,fun k=>by simp [cZ],by decide,by rfl,rfl⟩
    ·intro s3 mv hS3
     obtain ⟨h3,g3,d3,t3,o3⟩:=s3
     have e1:g3 = s.gens:=mv.gens
     have e2:d3 = s.drawn:=mv.drawn
     have e3:o3 = s.os:=mv.os
     subst e1 e2 e3
     rw [sz] at hS3
     show wpAny _ _ _ _ _ _
     refine wpAny_pure ?_
     show wpAny _ _ (ret Value.none) _ _ _
     refine wpAny_pure ⟨rfl,h3,t3,rfl,hS3,fun b o e=>?_⟩
     have lb:=Heap.lt_size e
     have b1:b ≠ s.heap.objs.size:=Nat.ne_of_lt lb
     have b2:b ≠ (s.heap.push (gX led)).objs.size:=by rw [Heap.size_push];exact Nat.ne_of_lt (Nat.lt_succ_of_lt lb)
     exact mv.heap b o (by simp only [List.mem_cons,List.mem_singleton,List.not_mem_nil,or_false,not_or];exact ⟨b1,b2⟩) (Heap.get?_push_of_some _ (Heap.get?_push_of_some _ e))
   ·cases r2 with
    | error e=>exact hr2
    | ok f2 =>
     cases f2 with
     | ret r =>
      obtain ⟨rfl,h',tk,rfl,hS2,hk2⟩:=hr2
      repeat (any_goals (first | assumption | wp_step))
      exact h _ _ hS2 hk2
     | _=>exact hr2.elim
  | _=>exact hr.elim
end
section
variable {X:Cx}
theorem tL {P:Program} {w:World}:∀ {ks:List Key} {us:List Value},bC (ks.map kV) us → ∀ i v,us[i]? = some v → (aI P w).is (ks.getD i (.inl 0)) v = true
 | [],us,r,i,v,e=>by
  rw [List.map_nil] at r
  cases r
  simp at e
 | k :: ks,us,r,i,v,e=>by
  rw [List.map_cons] at r
  cases r with
  | cons r1 r2 =>
   cases i with
   | zero =>
    simp at e
    subst e
    cases k with
    | inl z=>obtain ⟨t,rfl⟩:=r1;exact mI z t
    | inr z=>obtain ⟨t,rfl⟩:=r1;exact mH z t
   | succ i =>
    have:=tL (P:=P) (w:=w) r2 i v (by simpa using e)
    simpa using this
theorem qV (hc:X.calm = true):eJ X (.type "set") (fun xs H Q=>∃ (p:Addr) (ks:List Key),xs = [.ref p] ∧ SqL X.K H p (ks.map kV) ∧ ks.length ≤ 1000 ∧
  ∀ l,H l = none → Q (.ref l) (upd H l (aAL X.prog X.w l (fun k=>decide (k ∈ jS ks)) (jS ks).length))):=by
 intro pins s σ H xs us Q I r h
 obtain ⟨p,ks,rfl,hq,hn,q⟩:=h
 obtain ⟨u,rfl,ru⟩:=bC.one r
 cases ru
 obtain ⟨its,rv,pl,hz⟩:=I.list hq
 have hlen:=rv.length
 rw [List.length_map] at hlen
 refine uT (ks:=ks) (I.ok.hd hc) pl.isList (tL rv) hlen.symm (by unfold scanBound;omega) fun h' tk hS hk=>?_
 exact ⟨.ref s.heap.objs.size,_,I.laid (t':=tk) hk (Nat.le_refl _) (aAL.ok hS),rfl,q _ (I.hok.fresh (Nat.le_refl _))⟩
theorem call_len_set:eJ X (.builtin "len") (fun xs H Q=>∃ l S n,xs = [.ref l] ∧ H l = some (aAL X.prog X.w l S n) ∧ n ≤ 1000 ∧ Q (.int n) H):=by
 intro pins s σ H xs us Q I r h
 obtain ⟨l,S,n,rfl,e,hn,q⟩:=h
 obtain ⟨u,rfl,ru⟩:=bC.one r
 cases ru
 obtain ⟨⟨o,es,ep,t,ho,hex,hd,hel,hmem,hb,hf,hes⟩,_⟩:=I.hok l _ e
 refine PySem.call_len_set ho hex hd hf (by rw [hes];omega) ⟨.int n,H,I.tok _,⟨s.toks + 1,by rw [hes]⟩,q⟩
end
end L2
namespace L2
open PySem PySem.Spec PyProof.Rows
section
variable {X:Cx}
theorem rT {k:Key} {v:Value} (h:mX k v = true):aZ (kV k) v:=by
 rcases bO h with ⟨i,t,rfl,rfl⟩ | ⟨x,t,rfl,rfl⟩
 ·exact ⟨t,rfl⟩
 ·exact ⟨t,rfl⟩
theorem nT:∀ {xs:List V} {us:List Value},us.length = xs.length → (∀ (j:Nat) (u:Value) (x:V),us[j]? = some u → xs[j]? = some x → aZ x u) → bC xs us
 | [],[],_,_=>.nil
 | x :: xs,u :: us,hl,h=>.cons (h 0 u x rfl rfl) (nT (by simpa using hl) fun j v y e1 e2=>h (j + 1) v y (by simpa using e1) (by simpa using e2))
 | [],_ :: _,hl,_=>by simp at hl
 | _ :: _,[],hl,_=>by simp at hl
theorem KV.get:∀ {kvs:List (Key × V)} {vs:List (Key × Value)} {i:Nat} {p:Key × Value},KV kvs vs → vs[i]? = some p → ∃ q,kvs[i]? = some q ∧ q.1 = p.1 ∧ aZ q.2 p.2
 | _,_,_,_,.nil,e=>by simp at e
 | _,_,0,_,.cons r _,e=>by simp at e;subst e;exact ⟨_,rfl,r.1,r.2⟩
 | _,_,i + 1,p,.cons _ t,e=>by
  obtain ⟨q,h1,h2⟩:=KV.get (i:=i) (p:=p) t (by simpa using e)
  exact ⟨q,by simpa using h1,h2⟩
theorem fB (hc:X.calm = true):eJ X (.type "list") (fun xs H Q=>∃ p kvs,xs = [.ref p] ∧ Rd H p (.dK kvs) ∧ ∀ l,H l = none → Q (.ref l) (upd H l (.lst (kvs.map fun kv=>kV kv.1)))):=by
 intro pins s σ H xs us Q I r h
 obtain ⟨p,kvs,rfl,hq,q⟩:=h
 obtain ⟨u,rfl,ru⟩:=bC.one r
 cases ru
 obtain ⟨hz,lo,vs,kv,hD⟩:=hq.ok I.hok
 obtain ⟨ep,hat⟩:=hD.dictAt
 have hl:=KV.length kv
 refine PySem.W.kdl_call (PySem.W.kdl_dict (knd:=aI X.prog X.w) (kvs:=vs) (ep:=ep) lo) (I.ok.hd hc) hat (by omega) fun h' tk acc c hk hg hi=>?_
 refine ⟨.ref s.heap.objs.size,_,I.laid (t':=tk) hk (Nat.le_refl _) (show bX X.prog X.w _ h' _ (.lst (kvs.map fun kv=>kV kv.1)) from ⟨by rw [List.length_map];exact hz,acc.toList,c,?_,by simpa using hg⟩),rfl,q _ (I.hok.fresh (Nat.le_refl _))⟩
 refine nT (by rw [List.length_map,Array.length_toList,hi.1,hl]) fun j u x e1 e2=>?_
 obtain ⟨k,y,e3,e4⟩:=hi.2 j u (by rw [← Array.getElem?_toList];exact e1)
 obtain ⟨z,e5,e6,_⟩:=KV.get kv e3
 rw [List.getElem?_map,e5] at e2
 have e2':kV z.1 = x:=by simpa using e2
 subst e2'
 rw [show z.1 = k from e6]
 exact rT e4
def nF (v d:Addr):HO:=.ext fun h=>h.IsValuesView v d
theorem nF.ok {P:Program} {w:World} {H:Hp} {h:Heap} {v d:Addr} (x:h.IsValuesView v d):bX P w H h v (nF v d) :=
 ⟨x,let ⟨o,ho,_⟩:=x;⟨o,ho⟩,fun _ _ ⟨o,ho,r⟩ k=>⟨o,k o ho,r⟩⟩
theorem rQ:MtR X "dict.values" (fun x vs H Q=>∃ d kvs,x = .ref d ∧ vs = [] ∧ Rd H d (.dK kvs) ∧ ∀ v,H v = none → Q (.ref v) (upd H v (nF v d))):=by
 intro pins s σ H x vs v us Q I rx rv h
 obtain ⟨d,kvs,rfl,rfl,hq,q⟩:=h
 cases rx
 have hus:=rv.zero
 subst hus
 obtain ⟨hz,lo,ws,kv,hD⟩:=hq.ok I.hok
 refine call_meetsIn PySem.F.slot_dict_values hD.typeIs PySem.F.entry_dict_values (PySem.F.args_dict_values_1 _) (meets_dict_values (aI X.prog X.w) d lo) ⟨⟨ws,hD⟩,?_⟩
 exact ⟨.ref s.heap.objs.size,_,I.laid (t':=s.toks) (fun b ob e=>Heap.get?_push_of_some _ e) (Nat.le_refl _) (nF.ok ⟨_,Heap.get?_push_size _ rfl,rfl,rfl⟩),rfl,q _ (I.hok.fresh (Nat.le_refl _))⟩
theorem iM (hc:X.calm = true):eJ X (.type "list") (fun xs H Q=>∃ v d kvs,xs = [.ref v] ∧ H v = some (nF v d) ∧ Rd H d (.dK kvs) ∧ ∀ l,H l = none → Q (.ref l) (upd H l (.lst (kvs.map (·.2))))):=by
 intro pins s σ H xs us Q I r h
 obtain ⟨v,d,kvs,rfl,ev,hq,q⟩:=h
 obtain ⟨u,rfl,ru⟩:=bC.one r
 cases ru
 obtain ⟨hz,lo,vs,kv,hD⟩:=hq.ok I.hok
 obtain ⟨hv,_⟩:=I.hok v _ ev
 obtain ⟨ep,hat⟩:=hD.dictAt
 have hl:=KV.length kv
 refine PySem.W.kdl_call (PySem.W.kdl_values (knd:=aI X.prog X.w) (kvs:=vs) (ep:=ep)) (I.ok.hd hc) ⟨hv,hat⟩ (by omega) fun h' tk acc c hk hg hi=>?_
 refine ⟨.ref s.heap.objs.size,_,I.laid (t':=tk) hk (Nat.le_refl _) (show bX X.prog X.w _ h' _ (.lst (kvs.map (·.2))) from ⟨by rw [List.length_map];exact hz,acc.toList,c,?_,by simpa using hg⟩),rfl,q _ (I.hok.fresh (Nat.le_refl _))⟩
 refine nT (by rw [List.length_map,Array.length_toList,hi.1,hl]) fun j u x e1 e2=>?_
 obtain ⟨k,e3⟩:=hi.2 j u (by rw [← Array.getElem?_toList];exact e1)
 obtain ⟨z,e5,_,e6⟩:=KV.get kv e3
 rw [List.getElem?_map,e5] at e2
 have e2':z.2 = x:=by simpa using e2
 subst e2'
 exact e6
end
section
variable {X:Cx} {e se:Expr} {te ts:TE} {p2 pos:Pos}
end
end L2
namespace L2
open PySem PySem.Spec PyProof.Rows
theorem pK:typeLookup (.type "list") "keys" = pure none:=by rw [typeLookup_type,builtinLookup_eq_fast];kernel_rfl
section
variable {P:Program} {w:World} {A:Around} {E:Value → Shared → Prop} {s:Shared}
theorem tI {a:Addr} {xs:Array Value} {k:Nat} {sl:Array (Option Value)} {Q:Option Value → Shared → Prop} (hA:A.handled = none) (hx:s.heap.get? a = some { cls:=.type "list",dict:=none,data:=.seq xs k,slots:=sl })
  (h:∀ h' tk,(∀ b o,s.heap.get? b = some o → h'.get? b = some o) → Q none { s with heap:=h',toks:=tk }):wpAny (model P w) A (getAttr? (.ref a) "keys") Q E s:=by
 obtain ⟨hp,g,d,tk,os⟩:=s
 have hT:∀ tk',(⟨hp,g,d,tk',os⟩:Shared).TypeIs (.ref a) "list":=fun _=>⟨_,hx,rfl⟩
 have f1:=sub_AttributeError
 have f3:=F.slot_list_getattribute.lookup
 have f4:=F.slot_list_getattribute.bind (.ref a)
 have f5:=am_list_getattr_none
 unfold getAttr? getAttrBy? getAttrBy
 repeat (any_goals (first | assumption | exact hT _ | ((with_reducible show wpAny _ _ (call (Value.builtin "list.__getattribute__") _ _) _ _ _);refine call_meets F.slot_list_getattribute (hT _) am_entry_list_getattribute (F.args_list_getattribute_2 _ _) (meets_getattribute_miss_list a xs k sl "keys" _ pK (by decide +kernel)) ⟨hx,hA,fun h' tk' e hx'=>?_⟩) | wp_step))
 obtain ⟨t',u',he⟩:=hx'.there
 show wpAny _ _ (getattributeRaised _ _ _ _ _ _ _) _ _ _
 unfold getattributeRaised
 repeat (any_goals (first | assumption | wp_step))
 exact h _ _ hx'.keeps
end
theorem jC:entryFor table "dict.update.loop" = some Builtin.«dict.update.loop»:=entryFor_of_tree (by kernel_rfl)
theorem eU:plainId "dict.update.loop" = true:=by decide +kernel
section
variable {P:Program} {w:World} {A:Around} {R:Result → Shared → Prop} {I:Addr} {fp wr:List Addr} {G:Array GenState → Array GenState → Prop} {n:Nat} {Pv:Nat → Value → Prop} {Stt:Nat → Shared → Prop}
theorem aAD (W:WalksS P w A.in1 I fp wr G n Pv Stt) (D:Addr) (hD:D ∉ fp) (res:Value) (kvs:List (Key × Value)) (hn:kvs.length = n) (hz:n ≤ sizeLine) (s₀:Shared)
  (hv:∀ (i:Nat) (v:Value),Pv i v → ∃ (a:Addr) (k:Key) (kv x:Value) (ob:Obj) (c:Nat),v = .ref a ∧ a ∉ D :: wr ∧ s₀.heap.get? a = some ob ∧ ob.cls = .type "tuple" ∧ ob.data = .seq #[kv,x] c ∧ kvs[i]? = some (k,x) ∧ (aI P w).is k kv = true) :
  ∀ (m i:Nat) (s:Shared),n - i = m → i ≤ n → Stt i s → (∀ b o,b ∉ D :: wr → s₀.heap.get? b = some o → s.heap.get? b = some o) → s.heap.DictOf (aI P w) D (merged [] (kvs.take i)) →
   (∀ s',Moved (D :: wr) G s s' → s'.heap.DictOf (aI P w) D (merged [] kvs) → R (.ok (.ret res)) s') →
   codeAny (model P w) A (.builtin "dict.update.loop" ⟨[.ref D,.ref I,rawInt i,res],[]⟩) R s:=by
 have hDw:D ∉ wr:=fun z=>hD (W.sub _ z)
 have sub:∀ b ∈ wr,b ∈ D :: wr:=fun b z=>List.mem_cons_of_mem _ z
 have moved:∀ {s s':Shared} {l:List (Key × Value)},Moved wr G s s' → s.heap.DictOf (aI P w) D l → s'.heap.DictOf (aI P w) D l:=fun mv ⟨o,es,ep,ho,r⟩=>⟨o,es,ep,mv.heap D _ hDw ho,r⟩
 intro m
 induction m with
 | zero =>
  intro i s e1 e2 st kp hS hR
  obtain rfl:i = n:=by omega
  rw [List.take_of_length_le (by omega)] at hS
  refine codeAny_builtin jC ?_
  rw [Around.under_plainId eU _]
  show wpAny _ A.in1 (pyNext (.ref I) >>= _) _ _ s
  refine wpAny_bind (W.done s _ _ st fun s' mv=>?_)
  show wpAny _ A.in1 (Builtin.Dict.addKeywords D [] >>= _) _ _ s'
  refine wpAny_bind (wpAny_pure ?_)
  exact wpAny_pure (hR s' (mv.mono sub) (moved mv hS))
 | succ m ih =>
  intro i s e1 e2 st kp hS hR
  have lt:i < n:=by omega
  refine codeAny_builtin jC ?_
  rw [Around.under_plainId eU _]
  show wpAny _ A.in1 (pyNext (.ref I) >>= _) _ _ s
  refine wpAny_bind (W.item i s _ _ lt st fun v s' pv st' mv=>?_)
  obtain ⟨a,k,kv,x,ob,c,rfl,ha,hg,hc,hd,hi,hk⟩:=hv i v pv
  have hS1:=moved mv hS
  have hg1:s'.heap.get? a = some ob:=mv.heap a ob (fun z=>ha (sub a z)) (kp a ob ha hg)
  have hT:s'.TypeIs (.ref a) "tuple":=⟨ob,hg1,hc⟩
  refine wpAny_bind (wpAny_holding (wpAny_bind (wpAny_tryCatch ?_)))
  unfold Builtin.Dict.pairItems
  refine wpAny_bind (wpAny_typeOf hT ?_)
  rw [if_pos (by decide)]
  refine wpAny_bind (wpAny_seqItems hg1 hd (wpAny_pure ?_))
  show wpAny _ _ (holding [kv,x] (dictSet D kv x)) _ _ s'
  refine wpAny_holding (wpAny_dictSet_pairs hk hS1 (fun h' hS2 sb=>?_) ?_)
  ·have e:merged [] (kvs.take (i + 1)) = stored (merged [] (kvs.take i)) k x:=merged_take_succ [] kvs i (k,x) hi
   rw [← e] at hS2
   refine wpAny_pure ⟨plainId_quiet eU _,ih (i + 1) _ (by omega) lt (W.frame _ s' _ _ st' (Nat.le_succ _) fun b hb o e=>?_) (fun b o hb e=>?_) hS2 fun s2 mv2 hS4=>?_⟩
   ·rw [sb.2 b (fun z:b = D=>hD (by rw [← z];exact hb))]
    exact e
   ·rw [sb.2 b (fun z:b = D=>hb (by rw [z];exact List.mem_cons_self))]
    exact mv.heap b o (fun z=>hb (sub b z)) (kp b o hb e)
   ·refine hR s2 (Moved.trans W.gtrans ((mv.mono sub).then_heap (Nat.le_succ _) fun b o hb e=>?_) mv2) hS4
    rw [sb.2 b (fun z:b = D=>hb (by rw [z];exact List.mem_cons_self))]
    exact e
  ·have:=merged_length_le ([]:List (Key × Value)) (kvs.take i)
   rw [List.length_take] at this
   simp only [List.length_nil] at this
   omega
end
section
variable {P:Program} {w:World} {A:Around} {E:Value → Shared → Prop} {s:Shared}
theorem qS {l:Addr} {its:List Value} {kvs:List (Key × Value)} {Q:Value → Shared → Prop} (hh:A.handled = none) (hl:PlainL s.heap l its.toArray) (hn:its.length = kvs.length) (hz:its.length ≤ sizeLine)
  (hv:∀ (i:Nat) (v:Value),its[i]? = some v → ∃ (a:Addr) (k:Key) (kv x:Value) (ob:Obj) (c:Nat),v = .ref a ∧ s.heap.get? a = some ob ∧ ob.cls = .type "tuple" ∧ ob.data = .seq #[kv,x] c ∧ kvs[i]? = some (k,x) ∧ (aI P w).is k kv = true)
  (h:∀ (h':Heap) (tk:Nat),h'.DictOf (aI P w) s.heap.objs.size (merged [] kvs) → (∀ b o,s.heap.get? b = some o → h'.get? b = some o) → Q (.ref s.heap.objs.size) { s with heap:=h',toks:=tk }) :
  wpAny (model P w) A (call (.type "dict") [.ref l]) Q E s:=by
 refine callType_codes (Q₁:=fun (obj:Value) (s₁:Shared)=>obj = Value.ref s.heap.objs.size ∧ s₁ = { s with heap:=s.heap.push { cls:=.type "dict",data:=.dict #[] } }) F.kt_called_dict (F.kt_typeCall_dict_1 _) F.entry_dict_init (kt_code_dict_new _ ⟨rfl,rfl⟩) ?_
 rintro obj s₁ ⟨rfl,rfl⟩
 have hnew:(s.heap.push { cls:=.type "dict",data:=.dict #[] }).DictOf (aI P w) s.heap.objs.size []:=Heap.DictOf.new s.heap
 obtain ⟨⟨oc,od,oda,osl⟩,nl,hol,hcl,hod,hdl⟩:=id hl
 simp only at hcl hod hdl
 subst hcl hod hdl
 have lS:l < s.heap.objs.size:=Heap.lt_size hol
 have hol1:=Heap.get?_push_of_some (h:=s.heap) { cls:=.type "dict",data:=.dict #[] } hol
 refine ⟨hnew.typeIs,F.args_dict_init_2 _ _,?_⟩
 unfold Builtin.«dict.__init__»
 refine wpAny_bind ?_
 unfold Builtin.Dict.selfAndRest
 refine wpAny_bind (wpAny_notOrdered_dict hnew.typeIs ?_)
 show wpAny _ _ (pure (s.heap.objs.size,[Value.ref l])) _ _ _
 refine wpAny_pure ?_
 show wpAny _ _ (Builtin.Dict.updateFrom "dict.__init__" s.heap.objs.size (.ref l) [] .none) _ _ _
 unfold Builtin.Dict.updateFrom
 refine wpAny_bind (wpAny_typeOf (T:="list") ⟨_,hol1,rfl⟩ ?_)
 rw [if_pos (by decide)]
 refine wpAny_bind (tI (by simp [hh]) hol1 fun h1 t1 k1=>?_)
 show wpAny _ _ (rule _ >>= _) _ _ _
 refine wpAny_bind (wpAny_rule ?_)
 have hol2:=k1 _ _ hol1
 have hl2:h1.IsList l its.toArray:=⟨_,hol2,rfl,nl,rfl⟩
 refine wpAny_bind (wpAny_pyIter_list (s:={ s with heap:=h1,toks:=t1 }) hl2 ?_)
 have sz1:s.heap.objs.size < h1.objs.size:=by
  obtain ⟨o,es,ep,ho,_⟩:=hnew
  exact Heap.lt_size (k1 _ _ ho)
 have nI:l ≠ h1.objs.size:=Nat.ne_of_lt (Heap.lt_size hol2)
 have nD:s.heap.objs.size ∉ [h1.objs.size,l]:=by
  simp only [List.mem_cons,List.mem_singleton,List.not_mem_nil,or_false,not_or]
  exact ⟨Nat.ne_of_lt sz1,Nat.ne_of_gt lS⟩
 refine wpAny_pure ⟨plainId_quiet eU _,?_⟩
 have hh2:A.in1.in1.handled = none:=by simp [hh]
 refine aAD ((Walks.list hh2 _ l nI its.toArray).toS) s.heap.objs.size nD .none kvs (by rw [List.size_toArray,hn]) (by rw [List.size_toArray];exact hz) { s with heap:=h1.push { cls:=.type "list_iterator",data:=.fields #[.ref l,.int 0 0] },toks:=t1 } (fun i v pv=>?_) (its.toArray.size - 0) 0 _ (by omega) (Nat.zero_le _)
  ⟨⟨_,Heap.get?_push_size _ rfl,rfl,rfl⟩,(hl2.push _)⟩ (fun _ _ _ e=>e) ?_ ?_
 ·obtain ⟨a,k,kv,x,ob,c,rfl,hg,hc,hd,hi,hk⟩:=hv i v (by simpa using pv)
  have la:=Heap.lt_size hg
  refine ⟨a,k,kv,x,ob,c,rfl,?_,Heap.get?_push_of_some _ (k1 _ _ (Heap.get?_push_of_some _ hg)),hc,hd,hi,hk⟩
  simp only [List.mem_cons,List.mem_singleton,List.not_mem_nil,or_false,not_or]
  exact ⟨Nat.ne_of_lt la,Nat.ne_of_lt (Nat.lt_trans la sz1)⟩
 ·obtain ⟨o,es,ep,ho,r⟩:=hnew
  exact ⟨o,es,ep,Heap.get?_push_of_some _ (k1 _ _ ho),r⟩
 ·intro s3 mv hS3
  obtain ⟨h3,g3,d3,t3,o3⟩:=s3
  have e1:g3 = s.gens:=mv.gens
  have e2:d3 = s.drawn:=mv.drawn
  have e3:o3 = s.os:=mv.os
  subst e1 e2 e3
  refine ⟨rfl,h h3 t3 hS3 fun b o e=>?_⟩
  have lb:=Heap.lt_size e
  refine mv.heap b o ?_ (Heap.get?_push_of_some _ (k1 _ _ (Heap.get?_push_of_some _ e)))
  simp only [List.mem_cons,List.mem_singleton,List.not_mem_nil,or_false,not_or]
  exact ⟨Nat.ne_of_lt lb,Nat.ne_of_lt (Nat.lt_trans lb sz1)⟩
end
def bW (H:Hp) (ys:List V) (kvs:List (Key × V)):Prop:=Paired (fun (y:V) (kv:Key × V)=>∃ a,y = .ref a ∧ H a = some (.tup [kV kv.1,kv.2])) ys kvs
theorem bW.nil (H:Hp):bW H [] []:=Paired.nil
theorem bW.len {H:Hp} {ys:List V} {kvs:List (Key × V)} (h:bW H ys kvs):ys.length = kvs.length:=Paired.length h
theorem bW.same {H H':Hp} (S:aM H H'):∀ {ys:List V} {kvs:List (Key × V)},bW H ys kvs → bW H' ys kvs
 | _,_,Paired.nil=>Paired.nil
 | _,_,Paired.cons ⟨a,e,o⟩ t=>Paired.cons ⟨a,e,S _ _ o⟩ (bW.same S t)
theorem bW.snoc {H:Hp} {ys:List V} {kvs:List (Key × V)} {p:Addr} {k:Key} {v:V} (h:bW H ys kvs) (hp:H p = none):bW (upd H p (.tup [kV k,v])) (ys ++ [.ref p]) (kvs ++ [(k,v)]) :=
 Paired.snoc (h.same (aM.upd hp)) ⟨p,rfl,aD⟩
section
variable {X:Cx}
theorem aDI {P:Program} {w:World} {k:Key} {u:Value} (r:aZ (kV k) u):(aI P w).is k u = true:=by
 cases k with
 | inl z=>obtain ⟨t,rfl⟩:=r;exact mI z t
 | inr z=>obtain ⟨t,rfl⟩:=r;exact mH z t
theorem lK {pins:List (Addr × Obj)} {σ:St} {H:Hp} {s:Shared} (I:Inv X pins σ H s):∀ {ys:List V} {kvs:List (Key × V)} {its:List Value},bW H ys kvs → bC ys its →
  ∃ vk:List (Key × Value),KV kvs vk ∧ its.length = vk.length ∧ ∀ (i:Nat) (v:Value),its[i]? = some v → ∃ (a:Addr) (k:Key) (kv x:Value) (ob:Obj) (c:Nat),v = .ref a ∧ s.heap.get? a = some ob ∧ ob.cls = .type "tuple" ∧ ob.data = .seq #[kv,x] c ∧ vk[i]? = some (k,x) ∧ (aI X.prog X.w).is k kv = true
 | _,_,_,Paired.nil,Paired.nil=>⟨[],Paired.nil,rfl,fun i v e=>by simp at e⟩
 | _,(k,v0) :: kvs,u :: its,Paired.cons ⟨a,e,o⟩ t,Paired.cons r rs=>by
  obtain ⟨vk,h1,h2,h3⟩:=lK I t rs
  subst e
  cases r
  obtain ⟨tis,rt,⟨ob,g,hc,c,hd⟩,_⟩:=I.tuple (SqT.of o)
  obtain ⟨ku,xu,rfl,rk,rx⟩:=bC.two rt
  refine ⟨(k,xu) :: vk,Paired.cons ⟨rfl,rx⟩ h1,by simp [h2],fun i v e=>?_⟩
  cases i with
  | zero =>
   simp at e
   subst e
   exact ⟨a,k,ku,xu,ob,c,rfl,g,hc,hd,rfl,aDI rk⟩
  | succ i =>
   obtain ⟨a',k',kv',x',ob',c',q⟩:=h3 i v (by simpa using e)
   exact ⟨a',k',kv',x',ob',c',by simpa using q⟩
theorem eO (hc:X.calm = true):eJ X (.type "dict") (fun xs H Q=>∃ (p:Addr) (ys:List V) (kvs:List (Key × V)),xs = [.ref p] ∧ SqL X.K H p ys ∧ bW H ys kvs ∧ kvs.length ≤ 1000 ∧ (kvs.map (·.1)).Nodup ∧ ∀ l,H l = none → Q (.ref l) (upd H l (.dK kvs))):=by
 intro pins s σ H xs us Q I r h
 obtain ⟨p,ys,kvs,rfl,hq,hp,hn,nd,q⟩:=h
 obtain ⟨u,rfl,ru⟩:=bC.one r
 cases ru
 obtain ⟨its,rv,pl,hz⟩:=I.list hq
 obtain ⟨vk,kv,el,hv⟩:=lK I hp rv
 have big:(1000:Nat) ≤ sizeLine:=by decide
 have l1:=KV.length kv
 have ek:vk.map (·.1) = kvs.map (·.1):=(KV.keys kv).symm
 refine qS (kvs:=vk) (I.ok.hd hc) pl el (by omega) hv fun h' tk hD hk=>?_
 rw [merged_nil_of_nodup vk (by rw [ek];exact nd)] at hD
 refine ⟨.ref s.heap.objs.size,_,I.laid (t':=tk) hk (Nat.le_refl _) (show bX X.prog X.w _ h' _ (.dK kvs) from ⟨by omega,?_,vk,kv,hD⟩),rfl,q _ (I.hok.fresh (Nat.le_refl _))⟩
 have b:=I.big
 exact beq_eq_false_iff_ne.mpr (Nat.ne_of_gt b)
end
end L2
namespace L2
open PySem PySem.Spec PyProof.Rows
structure MethAt (K:PySem.W.Frag) (C:Addr) (m qual:Str) (st:Stmt) (ps:List Str):Prop where
 ex:∃ (f:Addr) (fd:FuncData),Fun K m qual st f fd ∧ fE K fd ps [] ∧ Meth K C m f
structure InitAt (K:PySem.W.Frag) (C:Addr) (qual:Str) (st:Stmt) (ps:List Str):Prop where
 ex:∃ (f:Addr) (fd:FuncData),Fun K "__init__" qual st f fd ∧ fE K fd ps [] ∧ Mk K C f
structure Mc (P:Program) (w:World) (K:PySem.W.Frag) (mg:Str → Option Value) (base:Heap) (k:Nat) (C:Addr) (m:Str) (ps:List Str) (sp:Sp):Prop where
 ex:∃ (f:Addr) (fd:FuncData),FnOk P w K mg base CX0 k f fd ps sp ∧ fE K fd ps [] ∧ Meth K C m f
structure Ic (P:Program) (w:World) (K:PySem.W.Frag) (mg:Str → Option Value) (base:Heap) (k:Nat) (C:Addr) (ps:List Str) (sp:Sp):Prop where
 ex:∃ (f:Addr) (fd:FuncData),FnOk P w K mg base CX0 k f fd ps sp ∧ fE K fd ps [] ∧ Mk K C f
section
variable {P:Program} {w:World} {K:PySem.W.Frag} {mg:Str → Option Value} {base:Heap} {C:Addr} {m qual:Str} {st:Stmt} {N ps:List Str} {k:Nat} {sp:Sp}
theorem MethAt.mc (D:MethAt K C m qual st ps) (S:FnScope N ps (aB st)) (len:∀ vs H Q E,sp vs H Q E → vs.length = ps.length)
  (hbody:∀ (f:Addr) (cdv:Value) (A:Around) (outer:List Env) (s:Shared) (H:Hp) (vs:List V) (Q:VK) (E:XK),Room k (A.deeper (envOfC qual (aB st) s.heap.objs.size f cdv)) → sp vs H Q E →
   ∃ t,PSs (nP CX0 P w K mg base N qual (aB st) f cdv A outer s H E).nox (aN st) t ∧ t { nx:=fun _ H'=>Q .non H',rt:=Q } (iD N vs) H):Mc P w K mg base (k + 1) C m ps sp:=by
 obtain ⟨f,fd,F,b,mm⟩:=D.ex
 exact ⟨f,fd,F.ok S len fun cdv A outer s H vs Q E hr h=>hbody f cdv A outer s H vs Q E hr h,b,mm⟩
theorem InitAt.ic (D:InitAt K C qual st ps) (S:FnScope N ps (aB st)) (len:∀ vs H Q E,sp vs H Q E → vs.length = ps.length)
  (hbody:∀ (f:Addr) (cdv:Value) (A:Around) (outer:List Env) (s:Shared) (H:Hp) (vs:List V) (Q:VK) (E:XK),Room k (A.deeper (envOfC qual (aB st) s.heap.objs.size f cdv)) → sp vs H Q E →
   ∃ t,PSs (nP CX0 P w K mg base N qual (aB st) f cdv A outer s H E).nox (aN st) t ∧ t { nx:=fun _ H'=>Q .non H',rt:=Q } (iD N vs) H):Ic P w K mg base (k + 1) C ps sp:=by
 obtain ⟨f,fd,F,b,mm⟩:=D.ex
 exact ⟨f,fd,F.ok S len fun cdv A outer s H vs Q E hr h=>hbody f cdv A outer s H vs Q E hr h,b,mm⟩
theorem Mc.imp {sp':Sp} (F:Mc P w K mg base k C m ps sp) (h:∀ vs H Q E,sp' vs H Q E → sp vs H Q E):Mc P w K mg base k C m ps sp':=by
 obtain ⟨f,fd,G,b,mm⟩:=F.ex
 exact ⟨f,fd,G.imp h,b,mm⟩
theorem gJ {f:Addr} {oc:Value} {od an:Option Addr} {osl:Array (Option Value)} {kV doc pm cdv ct:Value} (a:PySem.W.findIn K (.ref C) m = some (some (.ref f))) (i:PySem.W.isFn K (.ref f) = true)
  (l:K.lookup f = some ⟨oc,od,.func (PySem.W.fnOf m qual (aP st) (aN st) (aB st) .none kV doc pm an cdv ct),osl⟩) (c:PySem.W.codeIn K cdv qual = true) (kp:PySem.W.keepIn K (.ref f) = true)
  (hb:∀ (kV doc pm:Value) (an:Option Addr) (cdv ct:Value) (us:List Value),us.length = ps.length → bindArgs (PySem.W.fnOf m qual (aP st) (aN st) (aB st) .none kV doc pm an cdv ct) ⟨us,[]⟩ = pure (ps.zip us)):MethAt K C m qual st ps :=
 ⟨f,_,mK l c kp,(mK l c kp).binds hb,⟨a,i,kp⟩⟩
theorem aEC {f:Addr} {oc:Value} {od an:Option Addr} {osl:Array (Option Value)} {kV doc pm cdv ct:Value} (a:PySem.W.findIn K (.ref C) "__init__" = some (some (.ref f))) (i:PySem.W.isFn K (.ref f) = true)
  (l:K.lookup f = some ⟨oc,od,.func (PySem.W.fnOf "__init__" qual (aP st) (aN st) (aB st) .none kV doc pm an cdv ct),osl⟩) (c:PySem.W.codeIn K cdv qual = true) (kp:PySem.W.keepIn K (.ref f) = true)
  (mk:PySem.W.makesIn K C = true) (kc:PySem.W.keepIn K (.ref C) = true)
  (hb:∀ (kV doc pm:Value) (an:Option Addr) (cdv ct:Value) (us:List Value),us.length = ps.length → bindArgs (PySem.W.fnOf "__init__" qual (aP st) (aN st) (aB st) .none kV doc pm an cdv ct) ⟨us,[]⟩ = pure (ps.zip us)):InitAt K C qual st ps :=
 ⟨f,_,mK l c kp,(mK l c kp).binds hb,⟨mk,a,i,kc⟩⟩
end
section
variable {X:Cx} {k:Nat} {ps:List Str} {sp:Sp} {x m:Str} {p pos apos:Pos} {o e:Expr} {es:List Expr} {ta:TE} {t:TA} {C:Addr}
theorem aIJ {pl:Sem Bool} (c:Cls X.K C) (F:Mc X.prog X.w X.K X.mg X.base k C m ps sp) (hr:Room k X.A) (ho:PE X o ta) (ha:PA X (e :: es) t)
  (hst:starEach (e :: es) X.env = (false,eval e X.env) :: starEach es X.env:=by rfl) (hpl:(backTo pos (starEach es X.env)).any (·.1) = false:=by rfl)
  (ht:eval (.Call (.Attribute o m apos) (e :: es) [] pos) X.env = (do
   let ov ← eval o X.env
   standAt apos.atName
   let (f,first) ← holding [ov] (getMethod ov m pl)
   callWith pos f first (backTo pos (starEach (e :: es) X.env)) (backToKw pos (keywordEach [] X.env))):=by rfl) :
  PE X (.Call (.Attribute o m apos) (e :: es) [] pos) (xR C m sp [] E0 ta t):=by
 obtain ⟨f,fd,G,b,mm⟩:=F.ex
 exact aDN (pl:=pl) ho c mm G hr b .nil yG ha hst hpl ht
theorem rK {pl:Sem Bool} (c:Cls X.K C) (F:Mc X.prog X.w X.K X.mg X.base k C m ps sp) (hr:Room k X.A) (ho:PE X o ta)
  (ht:eval (.Call (.Attribute o m apos) [] [] pos) X.env = (do
   let ov ← eval o X.env
   standAt apos.atName
   let (f,first) ← holding [ov] (getMethod ov m pl)
   callWith pos f first (backTo pos (starEach [] X.env)) (backToKw pos (keywordEach [] X.env))):=by rfl) :
  PE X (.Call (.Attribute o m apos) [] [] pos) (xR C m sp [] E0 ta aEY):=by
 obtain ⟨f,fd,G,b,mm⟩:=F.ex
 exact aBO (pl:=pl) ho c mm G hr b .nil yG ht
theorem aGX (hm:X.mg x = some (.ref C)) (F:Ic X.prog X.w X.K X.mg X.base k C ps sp) (hr:Room (k + 1) X.A) (ha:PA X (e :: es) t) (hg:Gl X x:=by rfl) (hdb:(x == ("__debug__":Str)) = false:=by decide)
  (he:starEach (e :: es) X.env = (false,eval e X.env) :: starEach es X.env:=by rfl) (hpl:(backTo pos (starEach es X.env)).any (·.1) = false:=by rfl) :
  PE X (.Call (.Name x p) (e :: es) [] pos) (aEP C sp [] E0 t):=by
 obtain ⟨f,fd,G,b,mm⟩:=F.ex
 exact aDO mm G hr hg hm b .nil yG ha hdb he hpl
end
section
variable {X:Cx} {K:PySem.W.Frag}
theorem bE (e:X.K = K):IxR X (aGT K):=by subst e;exact aFQ
theorem eG (e:X.K = K):IxR X (aGU K):=by subst e;exact aEA
theorem kS (e:X.K = K):OpR X (compareOp .In) (rIn K false):=by subst e;exact zL
theorem bQ (e:X.K = K):eJ X (.builtin "len") (fun xs H Q=>∃ p ys,xs = [.ref p] ∧ (SqL K H p ys ∨ SqT K H p ys) ∧ Q (.int ys.length) H):=by subst e;exact tX
theorem cB (e:X.K = K):eJ X (.builtin "isinstance") (fun xs H Q=>∃ x y c t b,xs = [x,y] ∧ aFX y = some c ∧ TyOf K H x t ∧ PySem.W.kitOne K t c = some b ∧ Q (.bl b) H):=by subst e;exact vV
theorem qW (e:X.K = K):eJ X (.type "list") (fun xs H Q=>∃ p ys,xs = [.ref p] ∧ (SqL K H p ys ∨ SqT K H p ys) ∧ ∀ l,H l = none → Q (.ref l) (upd H l (.lst ys))):=by subst e;exact tV
end
theorem fC {j:Int} (h:decide (0 < j) = true):0 < j:=of_decide_eq_true h
end L2
namespace L2
open PySem PySem.Spec PyProof.Rows
theorem wN {X:Cx} {i:Nat} {x:Str} {elt iter tg:Expr} {ifs:List Expr} {scope:Scope} {pos pos' cpos:Pos} {wi:TI} {g:TG} {tt:TT} {te:TE} (hXN:X.N.Nodup) (hix:X.N[i]? = some x) (N':List Str) (nt:Nat) (cap:List Nat)
  (hc:X.calm = true) (hi:PI X tg iter wi) (hg:∀ R,PG (blk X scope N' R) tg g) (hgk:wA nt g) (ht:∀ R,aCZ (blk X scope N' R) ifs tt) (he:∀ R,PE (blk X scope N' R) elt te)
  (hx:Loc X.env.scope x:=by exact Or.inl rfl) (hfn:X.fn x = true ∨ X.env.scope.names.lookup x = some .local:=by first | exact .inl rfl | exact .inr rfl | assumption)
  (hsw:swapsWith (.ListComp elt [⟨tg,iter,ifs,0⟩] scope cpos) (some (.Name x pos')) pos.line X.env = pure true:=by rfl)
  (hcell:(scope.names.all fun y=>!(y.2 == .cell)) = true:=by rfl) (hkind:scope.kind = .function:=by rfl)
  (hnames:(scope.names.all fun y=>!(y.2 == .local) || (scope.names.lookup y.1 == some .local)) = true:=by rfl)
  (hfr:(scope.names.all fun y=>!(y.2 == .free) || (X.env.kindOf y.1 == some .cell || X.env.kindOf y.1 == some .free)) = true:=by rfl)
  (hN:N'.length = nt + cap.length:=by rfl) (hcapN:(cap.map fun j=>X.N[j]?) = (N'.drop nt).map some:=by rfl) (hcapF:((N'.drop nt).all fun x=>scope.names.lookup x == some .free) = true:=by rfl)
  (hs:∀ x,foldedSetIterable iter X.env x = pure x:=by intro _;rfl) :
  PS X (.Assign [.Name x pos'] (.ListComp elt [⟨tg,iter,ifs,0⟩] scope cpos) pos) (aFD (aEQ nt cap wi g tt te) (vP i)):=by
 intro pins s σ H Ds I h
 have hfr':∀ y ∈ scope.names,y.2 = .free → (X.env.kindOf y.1 = some .cell ∨ X.env.kindOf y.1 = some .free):=fun y hy e=>by
  have z:=hZ hfr y hy
  rw [e] at z
  have z':(X.env.kindOf y.1 == some .cell || X.env.kindOf y.1 == some .free) = true:=z
  rcases Bool.or_eq_true_iff.mp z' with q | q
  ·exact .inl (beq_iff_eq.mp q)
  ·exact .inr (beq_iff_eq.mp q)
 have hcell':∀ y ∈ scope.names,y.2 ≠ .cell:=fun y hy e=>by
  have z:=hZ hcell y hy
  rw [e] at z
  cases z
 obtain ⟨cl,hcl,hclk,hclh⟩:=qD (scope:=scope) (env:=X.env) fun y hy e=>I.ok.has y.1 (hfr' y hy e)
 have hnames':∀ y ∈ scope.names,y.2 = .local → scope.names.lookup y.1 = some .local:=fun y hy e=>by
  have z:=hZ hnames y hy
  rw [e] at z
  exact beq_iff_eq.mp z
 have hcapN':∀ (k j:Nat),cap[k]? = some j → N'[nt + k]? = X.N[j]?:=fun k j e=>by
  have z:=congrArg (fun l:List (Option Str)=>l[k]?) hcapN
  simp only [List.getElem?_map,e,Option.map_some,List.getElem?_drop] at z
  cases q:N'[nt + k]? with
  | none=>rw [q] at z;cases z
  | some x=>rw [q] at z;exact (Option.some.inj z).symm
 rw [exec_Assign_Name_used _ _ _ _ hsw]
 refine wpAny_bind (wpAny_standAt (wpAny_bind ?_))
 show wpAny _ X.A (do let _ ← comprehension (.ListComp elt [⟨tg,iter,ifs,0⟩] scope cpos) scope X.env _ (newList []) false (eval iter X.env) (some (assign (.Name x pos') X.env))) _ _ s
 refine wpAny_bind (wpAny_mono (wpAny_comprehension_free (use:=some (assign (.Name x pos') X.env)) (Q:=fun _ s'=>SP X pins Ds .next s') rfl hs hcl hkind hnames'
  (thn (hi pins s σ H _ I h) fun v s1 h1=>thn h1 fun itv s2 h2=>?_)) (fun _ s' hq=>wpAny_pure (wpAny_pure hq)) fun _ _ e=>e)
 obtain ⟨it,fp,tn,J,H2,e,I2,T,st2,f2,hw⟩:=h2
 subst e
 refine qA (RR:=fun acc C=>compPost (model X.prog X.w) X.A X.xe (some (assign (.Name x pos') X.env)) (fun _ s'=>SP X pins Ds .next s') acc C) hc I2 T st2 f2 hclk hclh hcell' hkind hfr' hN hcapN' (fun x hx=>beq_iff_eq.mp (hZ hcapF x hx)) hg hgk ht he hw ?_
 intro D C s' H' ys hD q I' B
 obtain ⟨m,hn⟩:=B.ns
 obtain ⟨oC,es,ep,hoC,hdC,hrest⟩:=id hn
 have nofs:C ∉ X.fs:=fun hb=>by
  obtain ⟨_,o,ho,_⟩:=I'.ok.funs.mem hb
  exact absurd (Nat.lt_of_lt_of_le (Heap.lt_size ho) B.ab) (Nat.lt_irrefl _)
 have IC:Inv X ((C,oC) :: pins) σ (upd H' D (.lst ys)) s':=I'.pins_of fun p hp=>by
  rcases List.mem_cons.mp hp with rfl | hp
  ·exact ⟨hoC,B.fr,B.ne,nofs,fun v z=>by rw [hdC] at z;cases z⟩
  ·exact I'.pin p (List.mem_append_right _ hp)
 show wpAny _ X.A (assign (.Name x pos') X.env (.ref D)) _ _ _
 refine thn (aL hXN hix hx hfn ((C,oC) :: pins) s' σ (upd H' D (.lst ys)) (.ref D) (.ref D) Ds.nx IC rfl (q D hD)) fun _ s'' h''=>?_
 obtain ⟨σ2,H3,I3,q3⟩:=h''
 have pC:=I3.pin (C,oC) (List.mem_append_right _ List.mem_cons_self)
 refine ⟨m,hn.at' (fun o e=>?_),fun h4 hs4=>⟨σ2,H3,?_,q3⟩⟩
 ·rw [hoC] at e
  cases e
  exact pC.1
 ·have I4:Inv X pins σ2 H3 s'':=I3.pins_of fun p hp=>I3.pin p (List.mem_append_right _ (List.mem_cons_of_mem _ hp))
  exact I4.turned (it:=C) (t':=s''.toks) (fun b o hb e=>hs4.extBut b o hb e) pC.2.1 B.ne (.inr B.ab) B.cl B.pn
end L2
namespace L2
open PySem PySem.Spec PyProof.Rows
section
variable {X:Cx}
end
structure InstC (K:PySem.W.Frag) (C:Addr):Prop where
 ha:PySem.W.findIn K (.ref C) "__class__" = some (some (.builtin "object.__class__"))
 hn:PySem.W.specialIn K (.builtin "object.__class__") "__get__" = some (some (.builtin "getset_descriptor.__get__"))
 htk:PySem.W.takesIn K (.builtin "object.__class__") = some true
 hm:PySem.W.mroIn K C (.type "object") = some true
theorem MethAt.mcD {P:Program} {w:World} {K:PySem.W.Frag} {mg:Str → Option Value} {base:Heap} {C:Addr} {m qual:Str} {st:Stmt} {N ps:List Str} {k:Nat} {sp:Sp} (D:MethAt K C m qual st ps) (S:FnScope N ps (aB st)) (len:∀ vs H Q E,sp vs H Q E → vs.length = ps.length)
  (hbody:∀ (f:Addr) (cdv:Value) (A:Around) (outer:List Env) (s:Shared) (H:Hp) (vs:List V) (Q:VK) (E:XK),Room k (A.deeper (envOfC qual (aB st) s.heap.objs.size f cdv)) → sp vs H Q E →
   ∃ t,PSs (nP CX0 P w K mg base N qual (aB st) f cdv A outer s H E).nox (aN st) t ∧ t { nx:=fun _ H'=>dG Q .non H',rt:=dG Q } (iD N vs) H):Mc P w K mg base (k + 1) C m ps sp:=by
 obtain ⟨f,fd,F,b,mm⟩:=D.ex
 refine ⟨f,fd,FnOk.drop len (F.ok S (fun vs H Q E ⟨Q',h,_⟩=>len vs H Q' E h) fun cdv A outer s H vs Q E hr ⟨Q',h,e⟩=>?_),b,mm⟩
 subst e
 exact hbody f cdv A outer s H vs Q' E hr h
theorem gE.under {H:Hp} {p q:Addr} {o u:HO} (hp:H p = none) (d:mN o = true) (hq:L2.upd H p o q = none):gE (L2.upd (L2.upd H p o) q u) (L2.upd H q u):=fun b=>by
 by_cases hb:b = q
 ·subst hb
  left
  rw [aD,aD]
 ·rw [aO hb,aO hb]
  by_cases hc:b = p
  ·subst hc
   right
   exact ⟨hp,o,aD,d⟩
  ·left
   rw [aO hc]
end L2
namespace L2
open PySem PySem.Spec PyProof.Rows
section
variable {X:Cx}
end
def uB (nt:Nat) (u:TGs):Prop:=∀ vs σ H Q,u vs σ H Q → u vs σ H fun σ2 H2=>Q σ2 H2 ∧ σ2.length = σ.length ∧ ∀ i,nt ≤ i → σ2[i]? = σ[i]?
theorem xF {nt:Nat}:uB nt aHK:=fun vs σ H Q ⟨e,q⟩=>⟨e,q,rfl,fun _ _=>rfl⟩
theorem jO {nt i:Nat} {u:TGs} (h:i < nt) (hu:uB nt u):uB nt (aEV (vP i) u):=fun vs σ H Q ⟨v,r,e,q⟩=>by
 have q':=hu r (σ.set i (some v)) H Q q
 have ef:(fun (σ2:St) (H2:Hp)=>Q σ2 H2 ∧ σ2.length = (σ.set i (some v)).length ∧ ∀ j,nt ≤ j → σ2[j]? = (σ.set i (some v))[j]?) = (fun (σ2:St) (H2:Hp)=>Q σ2 H2 ∧ σ2.length = σ.length ∧ ∀ j,nt ≤ j → σ2[j]? = σ[j]?):=by
  funext σ2 H2
  rw [List.length_set]
  have:(∀ j,nt ≤ j → σ2[j]? = (σ.set i (some v))[j]?) = (∀ j,nt ≤ j → σ2[j]? = σ[j]?):=by
   refine propext ⟨fun h1 j hj=>?_,fun h1 j hj=>?_⟩
   ·rw [h1 j hj,List.getElem?_set_ne (by omega)]
   ·rw [h1 j hj,List.getElem?_set_ne (by omega)]
  rw [this]
 rw [ef] at q'
 exact ⟨v,r,e,q'⟩
theorem zV {nt n:Nat} {K:PySem.W.Frag} {u:TGs} (hu:uB nt u):wA nt (aFS K n u):=fun x σ H Q ⟨a,xs,e,hq,hl,q⟩=>⟨a,xs,e,hq,hl,hu xs σ H Q q⟩
theorem aDM {X:Cx} {pos:Pos} {es:List Expr} {k:Nat} {t:TGs} {n:Nat} {K:PySem.W.Frag} (e:X.K = K) (hc:X.calm = true) (h:PGs X es t)
  (hn:(assignEach es X.env).length = n:=by rfl) (hst:(assignEach es X.env).findIdx? (·.1) = none:=by rfl):PG X (.Tuple es k pos) (aFS K n t):=by subst e;exact fH hc h hn hst
end L2
namespace L2
open PySem PySem.Spec PyProof.Rows
section
variable {X:Cx}
end
end L2
namespace L2
open PySem PySem.Spec PyProof.Rows
theorem aCF {prog:Program} {w:World} {A:Around} {E:Value → Shared → Prop} {s:Shared} {r:Addr} {Q:Bool → Shared → Prop} (hT:s.TypeIs (.ref r) "list_reverseiterator") (h:Q false s) :
  wpAny (model prog w) A (Builtin.List.listLengthHint (.ref r)) Q E s:=by
 unfold Builtin.List.listLengthHint
 refine wpAny_bind (wpAny_specialOf hT (r:=none) (by rfl) ?_)
 dsimp only
 rw [if_neg (by decide),if_neg (by decide)]
 refine wpAny_bind (wpAny_specialOf hT (r:=some (.builtin "list_reverseiterator.__length_hint__")) (by rfl) ?_)
 dsimp only
 rw [show splitId "list_reverseiterator.__length_hint__" = some ("list_reverseiterator","__length_hint__") from by decide +kernel]
 dsimp only
 refine wpAny_bind (wpAny_isInstance hT (b:=true) (by rfl) ?_)
 rw [if_neg (by decide),if_pos (by decide +kernel),if_neg (by decide +kernel)]
 exact wpAny_pure h
theorem xJ {prog:Program} {w:World} {A:Around} {s:Shared} {R:Result → Shared → Prop} {I l:Addr} {items:Array Value} (hh:A.handled = none) (hI:s.heap.IsRevIter I l ((items.size:Int) - 1)) (hl:s.heap.IsList l items) (hne:l ≠ I) (hn:items.size ≤ sizeLine)
  (S:Addr) (hSI:S ≠ I) (hSl:S ≠ l) (res:Value) (c₀:Nat) (hS:s.heap.get? S = some { cls:=.type "list",data:=.seq #[] c₀ })
  (hR:∀ (h':Heap) (tk:Nat) (acc':Array Value) (c':Nat),(∀ (b:Addr) (o:Obj),b ≠ S → b ≠ I → s.heap.get? b = some o → h'.get? b = some o) → h'.get? S = some { cls:=.type "list",data:=.seq acc' c' } → ItemsOf (fun i v=>items[items.size - 1 - i]? = some v) acc' items.size → R (.ok (.ret res)) { s with heap:=h',toks:=tk }) :
  wpAny (model prog w) A.in1 (Builtin.List.listExtendWith (.ref S) (.ref I) res) (fun fin s'=>match fin with | .done f=>R (.ok f) s' | .again c'=>c'.quiet = true ∧ codeAny (model prog w) A c' R s') (fun e s'=>R (.error e) s') s:=by
 have hT:s.TypeIs (.ref I) "list_reverseiterator":=hI.typeIs
 have hSf:¬ S ∈ [I,l]:=by simp [hSI,hSl]
 have W:=Walks.listRev (prog:=prog) (w:=w) (A:=A.in1) hh I l hne items
 have key:∀ (h:Heap) (c₁:Nat) (tk:Nat),(∀ (b:Addr) (o:Obj),b ≠ S → s.heap.get? b = some o → h.get? b = some o) → h.get? S = some { cls:=.type "list",data:=.seq #[] c₁ } →
   codeAny (model prog w) A (.builtin "list.extend.loop" { pos:=[.ref S,.ref I,res] }) R { s with heap:=h,toks:=tk }:=fun h c₁ tk hk hS₁=>by
  refine codeAny_extend_loopS W.toS hn S hSf res items.size 0 { s with heap:=h,toks:=tk } #[] c₁ rfl (Nat.zero_le _) ?_ hS₁ (ItemsOf.nil _) fun s' acc' c' hm hS' hacc=>?_
  ·refine ⟨Nat.zero_le _,?_,?_⟩
   ·have:((items.size:Int) - 1 - ((0:Nat):Int)) = (items.size:Int) - 1:=by omega
    rw [this]
    obtain ⟨o,ho,r⟩:=hI
    exact ⟨o,hk _ _ (Ne.symm hSI) ho,r⟩
   ·obtain ⟨o,ho,r⟩:=hl
    exact ⟨o,hk _ _ (Ne.symm hSl) ho,r⟩
  ·rw [Moved.eq_with hm]
   refine hR s'.heap s'.toks acc' c' (fun b o h1 h2 e=>hm.heap b o (fun hmem=>?_) (hk b o h1 e)) hS' hacc
   rcases List.mem_cons.mp hmem with e' | hmem
   ·exact h1 e'
   ·exact h2 (List.mem_singleton.mp hmem)
 unfold Builtin.List.listExtendWith
 refine wpAny_bind (wpAny_typeOf hT ?_)
 have e0:Builtin.List.listSameRef (.ref S) (.ref I) = false:=by
  show (S == I) = false
  exact beq_eq_false_iff_ne.mpr hSI
 rw [e0,if_neg (by decide +kernel)]
 refine wpAny_bind (wpAny_pyIter_revIter hI ?_)
 refine wpAny_bind (wpAny_holding (aCF hT ?_))
 have e0:s = { s with heap:=s.heap,toks:=s.toks }:=rfl
 refine wpAny_ite_split (fun _=>?_) (fun _=>?_)
 ·refine wpAny_bind (wpAny_rule (wpAny_bind ?_))
  unfold Builtin.List.listTouch
  refine wpAny_bind (wpAny_updateSeq hS rfl ?_)
  have hS₂:=Heap.get?_update_self (Obj.mapSeq fun x=>x.push Value.none) hS rfl
  refine wpAny_updateSeq hS₂ rfl ?_
  have hS₃:=Heap.get?_update_self (Obj.mapSeq fun x=>x.pop) hS₂ rfl
  refine wpAny_pure ⟨plainId_quiet F.plain_extend_loop _,key _ _ _ (fun b o hb e=>?_) hS₃⟩
  rw [Heap.get?_update_other _ _ (Ne.symm hb),Heap.get?_update_other _ _ (Ne.symm hb)]
  exact e
 ·exact wpAny_pure ⟨plainId_quiet F.plain_extend_loop _,key s.heap c₀ s.toks (fun b o _ e=>e) hS⟩
theorem aCE {prog:Program} {w:World} {A:Around} {s:Shared} {R:Result → Shared → Prop} {I l:Addr} {items:Array Value} (hh:A.handled = none) (hI:s.heap.IsRevIter I l ((items.size:Int) - 1)) (hl:s.heap.IsList l items) (hne:l ≠ I) (hn:items.size ≤ sizeLine)
  (S:Addr) (hSI:S ≠ I) (hSl:S ≠ l) (hS:s.heap.get? S = some { cls:=.type "list",data:=.seq #[] })
  (hR:∀ (h':Heap) (tk:Nat) (acc':Array Value) (c':Nat),(∀ (b:Addr) (o:Obj),b ≠ S → b ≠ I → s.heap.get? b = some o → h'.get? b = some o) → h'.get? S = some { cls:=.type "list",data:=.seq acc' c' } → ItemsOf (fun i v=>items[items.size - 1 - i]? = some v) acc' items.size → R (.ok (.ret .none)) { s with heap:=h',toks:=tk }) :
  wpAny (model prog w) A.in1 (Builtin.«list.__init__» { pos:=[.ref S,.ref I] }) (fun fin s'=>match fin with | .done f=>R (.ok f) s' | .again c'=>c'.quiet = true ∧ codeAny (model prog w) A c' R s') (fun e s'=>R (.error e) s') s:=by
 refine wpAny_bind (wpAny_bind (wpAny_seqItems hS rfl (wpAny_pure ?_)))
 refine wpAny_bind (wpAny_updateSeq hS rfl ?_)
 have hS₂:=Heap.get?_update_self (Obj.mapSeq fun x=>#[]) hS rfl
 have oth:∀ (b:Addr) (o:Obj),b ≠ S → s.heap.get? b = some o → (s.heap.update S (Obj.mapSeq fun x=>#[])).get? b = some o:=fun b o hb e=>(Heap.get?_update_other s.heap (Obj.mapSeq fun x=>#[]) (Ne.symm hb)).trans e
 refine wpAny_bind (wpAny_letGo ?_)
 refine xJ hh ?_ ?_ hne hn S hSI hSl .none _ hS₂ fun h' tk acc' c' hk hS' hacc=>hR h' tk acc' c' (fun b o h1 h2 e=>hk b o h1 h2 (oth b o h1 e)) hS' hacc
 ·obtain ⟨o,ho,r⟩:=hI
  exact ⟨o,oth _ _ (Ne.symm hSI) ho,r⟩
 ·obtain ⟨o,ho,r⟩:=hl
  exact ⟨o,oth _ _ (Ne.symm hSl) ho,r⟩
theorem vM {prog:Program} {w:World} {A:Around} {E:Value → Shared → Prop} {s:Shared} {Q:Value → Shared → Prop} {I l:Addr} {items:Array Value} (hh:A.handled = none) (hI:s.heap.IsRevIter I l ((items.size:Int) - 1)) (hl:s.heap.IsList l items) (hne:l ≠ I) (hn:items.size ≤ sizeLine)
  (hQ:∀ (h':Heap) (tk:Nat) (acc':Array Value) (c':Nat),(∀ (b:Addr) (o:Obj),b ≠ I → s.heap.get? b = some o → h'.get? b = some o) → h'.get? s.heap.objs.size = some { cls:=.type "list",data:=.seq acc' c' } → ItemsOf (fun i v=>items[items.size - 1 - i]? = some v) acc' items.size → Q (.ref s.heap.objs.size) { s with heap:=h',toks:=tk }) :
  wpAny (model prog w) A (call (.type "list") [.ref I]) Q E s:=by
 have lI:I < s.heap.objs.size:=by obtain ⟨_,e,_⟩:=hI;exact Heap.lt_size e
 have ll:l < s.heap.objs.size:=by obtain ⟨_,e,_⟩:=hl;exact Heap.lt_size e
 refine callType_codes F.called_list (F.typeCall_list_1 (.ref I)) F.entry_list_init (code_list_new (.ref I) (Q₁:=fun o s₁=>o = .ref s.heap.objs.size ∧ s₁ = { s with heap:=s.heap.push { cls:=.type "list",data:=.seq #[] } }) ⟨rfl,rfl⟩) fun obj s₁ h₁=>?_
 obtain ⟨rfl,rfl⟩:=h₁
 have hS:=Heap.get?_push_size (o:={ cls:=Value.type "list",data:=Data.seq #[] }) s.heap rfl
 refine ⟨⟨_,hS,rfl⟩,F.args_list_init_2 _ _,?_⟩
 refine aCE (A:=A.in1) hh ?_ ?_ hne hn s.heap.objs.size (Ne.symm (Nat.ne_of_lt lI)) (Ne.symm (Nat.ne_of_lt ll)) hS fun h' tk acc' c' hk hS' hacc=>⟨rfl,?_⟩
 ·obtain ⟨o,ho,r⟩:=hI
  exact ⟨o,Heap.get?_push_of_some _ ho,r⟩
 ·obtain ⟨o,ho,r⟩:=hl
  exact ⟨o,Heap.get?_push_of_some _ ho,r⟩
 ·exact hQ h' tk acc' c' (fun b o h1 e=>hk b o (Nat.ne_of_lt (Heap.lt_size e)) h1 (Heap.get?_push_of_some _ e)) hS' hacc
theorem qG:bootBuiltins "reversed" = some (.type "reversed"):=by decide +kernel
section
variable {X:Cx} {e:Expr} {t:TA} {p1 p2:Pos} {pos1 pos2:Pos}
def aGS (K:PySem.W.Frag):List V → Hp → VK → Prop:=fun xs H Q=>∃ p ys,xs = [.ref p] ∧ SqL K H p ys ∧ ∀ l,H l = none → Q (.ref l) (upd H l (.lst ys.reverse))
theorem wP (hc:X.calm = true) (hg1:Gl X "list") (hm1:X.mg "list" = none) (hg2:Gl X "reversed") (hm2:X.mg "reversed" = none) (ha:PA X [e] t)
  (he1:starEach [e] X.env = (false,eval e X.env) :: starEach [] X.env:=by rfl)
  (he2:starEach [.Call (.Name "reversed" p2) [e] [] pos2] X.env = (false,eval (.Call (.Name "reversed" p2) [e] [] pos2) X.env) :: starEach [] X.env:=by rfl) :
  PE X (.Call (.Name "list" p1) [.Call (.Name "reversed" p2) [e] [] pos2] [] pos1) (tCB (aGS X.K) t):=by
 intro pins s σ H Q I h
 refine wpAny_Call_Name_kw (mE I hg1 hm1 dA ?_ (by decide) (by decide))
 refine PyProof.Rows.callWith_type1 ?_ he2 rfl
 rw [he2]
 show wpAny _ _ (spliced ((false,eval _ X.env) :: backTo pos1 (starEach [] X.env))) _ _ s
 refine Calls.spliced_cons ?_
 refine wpAny_Call_Name_kw (mE I hg2 hm2 qG ?_ (by decide) (by decide))
 refine PyProof.Rows.callWith_type1 (thn (ha pos2 pins s σ H _ I h) fun us s1 ⟨vs,H1,I1,r1,q1⟩=>?_) he1 rfl
 obtain ⟨p,ys,rfl,hq,q⟩:=q1
 obtain ⟨u,rfl,ru⟩:=bC.one r1
 cases ru
 obtain ⟨its,rv,pl,hz⟩:=I1.list hq
 have hl:=pl.isList
 have hlt:p < s1.heap.objs.size:=by obtain ⟨_,e,_⟩:=hl;exact Heap.lt_size e
 refine call_reversed_list hl ?_
 refine Calls.spliced_nil ?_
 refine vM (l:=p) (items:=its.toArray) (I.ok.hd hc) ⟨_,Heap.get?_push_size _ rfl,rfl,rfl⟩ ?_ (Nat.ne_of_lt hlt) (by rw [List.size_toArray,← rv.length];exact hz) fun h' tk acc c hk hg hi=>?_
 ·obtain ⟨o,ho,r⟩:=hl
  exact ⟨o,Heap.get?_push_of_some _ ho,r⟩
 have hk':∀ (b:Addr) (o:Obj),s1.heap.get? b = some o → h'.get? b = some o:=fun b o e=>hk b o (Nat.ne_of_lt (Heap.lt_size e)) (Heap.get?_push_of_some _ e)
 have hge:s1.heap.objs.size ≤ (s1.heap.push (revObj p ((its.toArray.size:Int) - 1))).objs.size:=by
  rw [show (s1.heap.push (revObj p ((its.toArray.size:Int) - 1))).objs.size = s1.heap.objs.size + 1 from Array.size_push ..]
  exact Nat.le_succ _
 refine ⟨.ref _,_,I1.laid (t':=tk) hk' hge (show bX X.prog X.w _ h' _ (.lst ys.reverse) from ⟨by rw [List.length_reverse];exact hz,acc.toList,c,?_,by simpa using hg⟩),rfl,q _ (I1.hok.fresh hge)⟩
 have hlen:=rv.length
 have e0:acc.size = its.length:=by rw [hi.1,List.size_toArray]
 refine nT (by rw [List.length_reverse,Array.length_toList,e0,hlen]) fun j u x e1 e2=>?_
 have e3:=hi.2 j u (by rw [← Array.getElem?_toList];exact e1)
 have hj:j < ys.length:=by
  have:=(List.getElem?_eq_some_iff.mp e2).1
  rw [List.length_reverse] at this
  exact this
 rw [List.getElem?_reverse hj] at e2
 have e4:its[ys.length - 1 - j]? = some u:=by
  have:its.toArray[its.toArray.size - 1 - j]? = some u:=e3
  rw [List.size_toArray] at this
  rw [hlen]
  simpa using this
 obtain ⟨u',e5,r5⟩:=rv.get e2
 rw [e4] at e5
 cases e5
 exact r5
end
end L2
namespace L2
open PySem PySem.Spec PyProof.Rows
theorem nZ:∀ {ys:List Str} {us:List Value},bC (ys.map V.str) us → StrsAre us ys
 | [],us,r=>by
  rw [List.map_nil] at r
  cases r
  exact .nil
 | b :: bs,us,r=>by
  rw [List.map_cons] at r
  cases r with
  | cons r1 r2 =>
   obtain ⟨t,rfl⟩:=r1
   exact .cons b t (nZ r2)
section
variable {X:Cx}
theorem aDU:MtR X "str.join" (fun x vs H Q=>∃ z p ys,x = .str z ∧ vs = [.ref p] ∧ SqL X.K H p (ys.map V.str) ∧ (ys.map fun y=>y.length).sum + ys.length * z.length ≤ 16777216 ∧ Q (.str (Txt.join z ys)) H):=by
 intro pins s σ H x xs v us Q I rx r h
 obtain ⟨z,p,ys,rfl,rfl,hq,hz,q⟩:=h
 obtain ⟨t,rfl⟩:=rx
 obtain ⟨u,rfl,ru⟩:=bC.one r
 cases ru
 obtain ⟨its,rv,pl,hl⟩:=I.list hq
 exact join_list pl.isList (nZ rv) hz fun t' k=>⟨.str _,H,I.tok k,⟨_,rfl⟩,q⟩
end
end L2
namespace L2
open PySem PySem.Spec PyProof.Rows
section
variable {X:Cx}
end
end L2
namespace L2
open PySem PySem.Spec PyProof.Rows
section
variable {prog:Program} {w:World} {A:Around} {R:Result → Shared → Prop} {I S:Addr} {fp wr:List Addr} {n:Nat} {P:Nat → Value → Prop} {St:Nat → Heap → Prop}
end
section
variable {prog:Program} {w:World} {A:Around} {E:Value → Shared → Prop} {s:Shared}
end
section
variable {X:Cx}
end
end L2
namespace L2
open PySem PySem.Spec PyProof.Rows
def Itd (d:Addr) (o:Obj) (kvs:List (Key × V)):It :=
 ⟨fun i H=>H d = some (.frz o (.dK kvs)) ∧ i < kvs.length,fun i H x H'=>H' = H ∧ ∃ kv,kvs[i]? = some kv ∧ x = kV kv.1,fun i H=>H d = some (.frz o (.dK kvs)) ∧ kvs.length ≤ i⟩
theorem yW {P:Program} {w:World} {K:PySem.W.Frag} {tg:Expr} {d it:Addr} {o:Obj} {kvs:List (Key × V)} {vs:List (Key × Value)} {ep:Nat} {h0:Heap} (kv:KV kvs vs) (hd0:h0.get? d = some o) (hat:h0.DictAt (aI P w) d vs ep) :
  Turn P w K tg (Itd d o kvs) [it] it (fun i h=>h.IsKeyIter it d i vs.length ep) where
 mem:=by simp
 obj:=fun i h st b hb=>by
  have e:b = it:=by simpa using hb
  subst e
  obtain ⟨ob,e,c,dd⟩:=st
  exact ⟨ob,e,fun v z=>by rw [dd] at z;cases z⟩
 keep:=fun i h h' st k=>st.at fun ob e=>k it (by simp) ob e
 item:=by
  intro X hP hw hK hc i pins s σ H E I hf st hg
  subst hP hw hK
  obtain ⟨hH,hi⟩:=hg
  obtain ⟨f0,f1,f2,f3,f4,f5⟩:=hf it (by simp)
  have hget:s.heap.get? d = some o:=(show bX X.prog X.w H s.heap d (.frz o (.dK kvs)) from I.hok d _ hH).1
  have hat':=hat.at' (h':=s.heap) fun ob e=>by rw [hd0] at e;cases e;exact hget
  have hl:=KV.length kv
  obtain ⟨⟨k,v⟩,hx⟩:∃ p,vs[i]? = some p:=⟨_,List.getElem?_eq_getElem (by omega)⟩
  obtain ⟨q,eq,e1,e2⟩:=KV.get kv hx
  refine wpAny_pyNext_dict_item st hat' hx fun key h' hkey st' sb=>?_
  have I1:Inv X pins σ H { s with heap:=h' }:=I.turned (t':=s.toks) (fun b ob hb e=>(sb.2 b hb).trans e) f0 f1 f3 f4 f5
  obtain ⟨ob,e,c,dd⟩:=id st'
  refine ⟨key,rfl,yM (s:={ s with heap:=h' }) e c dd (by decide) ⟨kV q.1,H,I1,?_,⟨rfl,q,eq,rfl⟩,st',fun b hb=>(hf b hb).1⟩⟩
  rw [show q.1 = k from e1]
  exact rT hkey
 done:=by
  intro X hP hw hK hc i pins s σ H E I hf st hg
  subst hP hw hK
  obtain ⟨hH,hi⟩:=hg
  obtain ⟨f0,f1,f2,f3,f4,f5⟩:=hf it (by simp)
  have hget:s.heap.get? d = some o:=(show bX X.prog X.w H s.heap d (.frz o (.dK kvs)) from I.hok d _ hH).1
  have hat':=hat.at' (h':=s.heap) fun ob e=>by rw [hd0] at e;cases e;exact hget
  have hl:=KV.length kv
  exact wpAny_pyNext_dict_end (I.ok.hd hc) st hat' (List.getElem?_eq_none (by omega)) fun h' eb=>⟨rfl,I.turned (t':=s.toks) (fun b ob hb e=>eb b ob hb e) f0 f1 f3 f4 f5⟩
 self:=fun _ _ _ _ _ st h=>wpAny_pyIter_keyiter st h
section
variable {X:Cx} {tg:Expr}
def aHJ (td:TE):TI:=fun σ H R=>td σ H fun x H1=>∃ d kvs,x = .ref d ∧ H1 d = some (.dK kvs) ∧ ∀ o,R (Itd d o kvs) (upd H1 d (.frz o (.dK kvs)))
theorem aDL {l:Expr} {tl:TE} (hl:PE X l tl):PI X tg l (aHJ tl):=by
 intro pins s σ H R I h
 refine thn (hl pins s σ H _ I h) fun v s1 ⟨x,H1,I1,r1,q1⟩=>?_
 obtain ⟨d,kvs,e,hH,q⟩:=q1
 subst e
 cases r1
 have hok:=I1.hok d _ hH
 obtain ⟨hz,lo,vs,kv,hD⟩:=id hok
 obtain ⟨ep,hat⟩:=hD.dictAt
 obtain ⟨o,es,ho,_⟩:=id hat
 refine wpAny_pyIter_dict lo hat ?_
 have I2:Inv X pins σ (upd H1 d (.frz o (.dK kvs))) s1:=I1.write (x:=d) (e:=d) (o:=.frz o (.dK kvs)) (h':=s1.heap) (t':=s1.toks) (by rw [hH];exact trivial) (.inl rfl) (fun _ _ _ q=>q) ⟨o,ho⟩ ⟨ho,hz,lo,vs,kv,hD⟩
 refine ⟨s1.heap.objs.size,[s1.heap.objs.size],_,_,upd H1 d (.frz o (.dK kvs)),rfl,I2.kept (t':=s1.toks) fun b ob e=>Heap.get?_push_of_some _ e,yW kv ho hat,⟨_,Heap.get?_push_size _ rfl,rfl,rfl⟩,fun b hb=>?_,q o⟩
 have e:b = s1.heap.objs.size:=by simpa using hb
 subst e
 exact I2.fpOk (Nat.le_refl _) (I2.hok.fresh (Nat.le_refl _))
end
end L2
namespace L2
open PySem PySem.Spec PyProof.Rows
section
variable {X:Cx}
theorem aCK {d:Addr} {o:Obj} {kvs:List (Key × V)} {g:TG} {tb:TS} {D:Ends} {σ:St} {H:Hp} (Pv:Nat → St → Hp → Prop) (h0:Pv 0 σ H) (hl:∀ i σ H,i ≤ kvs.length → Pv i σ H → H d = some (.frz o (.dK kvs)))
  (hs:∀ i kv σ H,kvs[i]? = some kv → Pv i σ H → g (kV kv.1) σ H fun σ2 H2=>tb { D with nx:=Pv (i + 1),ct:=Pv (i + 1),bk:=D.nx } σ2 H2) (hd:∀ σ H,Pv kvs.length σ H → D.nx σ H) :
  ∃ W:Nat → Nat → St → Hp → Prop,(∃ m,W 0 m σ H) ∧ ∀ i m σ H,W i m σ H →
   ((Itd d o kvs).stop i H ∧ D.nx σ H) ∨ ((Itd d o kvs).go i H ∧ ∃ N:St → Hp → Prop,(∀ σ' H',N σ' H' → ∃ m',m' < m ∧ W (i + 1) m' σ' H') ∧ ∀ x H',(Itd d o kvs).yld i H x H' → g x σ H' fun σ2 H2=>tb { D with nx:=N,ct:=N,bk:=D.nx } σ2 H2):=by
 refine ⟨fun i m σ H=>m + i = kvs.length ∧ Pv i σ H,⟨kvs.length,rfl,h0⟩,?_⟩
 intro i m σ H hw
 obtain ⟨hm,pv⟩:=hw
 have at_:=hl i σ H (by omega) pv
 rcases Nat.lt_or_ge i kvs.length with lt | ge
 ·refine .inr ⟨⟨at_,lt⟩,Pv (i + 1),(fun σ' H' p'=>⟨kvs.length - (i + 1),by omega,by omega,p'⟩),fun x H' y=>?_⟩
  obtain ⟨eH,kv,ek,ex⟩:=y
  subst eH ex
  exact hs i kv σ _ ek pv
 ·have ei:i = kvs.length:=by omega
  subst ei
  exact .inl ⟨⟨at_,Nat.le_refl _⟩,hd σ H pv⟩
end
end L2
namespace L2
open PySem PySem.Spec PyProof.Rows
def CX2 (P:Program) (w:World):CXT:=fun outer H s E e s'=>∃ (ea:Addr) (cls a0:Value) (B:Heap) (H':Hp),e = .ref ea ∧ s'.os = s.os ∧ AllBare s'.gens ∧ Un (frs outer) [] H H' s.heap s'.heap ∧ HOk P w H' s'.heap ∧
 Heap.FlyingW B outer ea cls a0 s'.heap ∧ (∀ b o o',s.heap.get? b = some o → s'.heap.get? b = some o' → b ∉ frs outer → B.get? b = some o') ∧ (∀ b o',H' b ≠ none → s'.heap.get? b = some o' → B.get? b = some o') ∧ E cls none H'
section
variable {X:Cx} {pins:List (Addr × Obj)} {σ:St} {H H':Hp} {s s':Shared} {B h2:Heap} {ea:Addr} {cls a0:Value}
end
section
variable {P:Program} {w:World} {K:PySem.W.Frag} {mg:Str → Option Value} {base:Heap} {N:List Str} {qual:Str} {scope:Scope} {f:Addr} {cd:Value} {A:Around} {outer:List Env} {s:Shared} {H:Hp} {E:XK}
end
end L2
namespace L2
open PySem PySem.Spec PyProof.Rows
abbrev aGD:List Value:=[.type "ValueError",.type "Exception",.type "BaseException",.type "object"]
structure ExcC (K:PySem.W.Frag) (C:Addr):Prop where
 q:PySem.W.excIn K C aGD "ValueError.__new__" = true
section
variable {X:Cx} {C:Addr} {x:Str} {E:XK} {np cpos pos:Pos} {e:Expr} {es:List Expr} {t:TA}
end
def CAt (X:Cx) (pins:List (Addr × Obj)) (σ:St) (E:XK) (e:Value) (s':Shared):Prop:=∃ s1 H1,Inv X pins σ H1 s1 ∧ CX2 X.prog X.w X.stack H1 s1 E e s'
abbrev TX:=XK → TE
section
variable {X:Cx} {k:Nat} {f C:Addr} {fd:FuncData} {ps:List Str} {sp:Sp} {E:XK} {x m:Str} {p pos apos:Pos} {e o:Expr} {es:List Expr} {ta:TE} {t:TA}
end
end L2
namespace L2
open PySem PySem.Spec PyProof.Rows
structure FcX (P:Program) (w:World) (K:PySem.W.Frag) (mg:Str → Option Value) (base:Heap) (k:Nat) (x:Str) (ps:List Str) (sp:Sp):Prop where
 ex:∃ (f:Addr) (fd:FuncData),FnOk P w K mg base (CX2 P w) k f fd ps sp ∧ fE K fd ps [] ∧ mg x = some (.ref f) ∧ PySem.W.keepIn K (.ref f) = true
structure McX (P:Program) (w:World) (K:PySem.W.Frag) (mg:Str → Option Value) (base:Heap) (k:Nat) (C:Addr) (m:Str) (ps:List Str) (sp:Sp):Prop where
 ex:∃ (f:Addr) (fd:FuncData),FnOk P w K mg base (CX2 P w) k f fd ps sp ∧ fE K fd ps [] ∧ Meth K C m f
structure IcX (P:Program) (w:World) (K:PySem.W.Frag) (mg:Str → Option Value) (base:Heap) (k:Nat) (C:Addr) (ps:List Str) (sp:Sp):Prop where
 ex:∃ (f:Addr) (fd:FuncData),FnOk P w K mg base (CX2 P w) k f fd ps sp ∧ fE K fd ps [] ∧ Mk K C f
section
variable {P:Program} {w:World} {K:PySem.W.Frag} {mg:Str → Option Value} {base:Heap} {C:Addr} {x m qual:Str} {st:Stmt} {N ps:List Str} {k:Nat} {sp sp':Sp}
end
section
variable {X:Cx} {k:Nat} {C:Addr} {ps:List Str} {sp:Sp} {E:XK} {x m:Str} {p pos apos:Pos} {e o:Expr} {es:List Expr} {ta:TE} {t:TA}
abbrev TB:=XK → TS
end
end L2
namespace L2
open PySem PySem.Spec PyProof.Rows
abbrev Cx.held (X:Cx) (ea:Addr):Cx:={ X with A:=X.A.mark (some (.ref ea)),calm:=false,xe:=fun _ _=>False }
section
variable {X:Cx} {pins:List (Addr × Obj)} {σ:St} {H H':Hp} {s s':Shared} {ea:Addr}
end
section
variable {X:Cx} {C:Addr} {x:Str} {np hpos pos:Pos} {body suite:List Stmt} {b₀:Stmt} {tb:TB} {ts:TS}
end
end L2
namespace L2
open PySem PySem.Spec PyProof.Rows
def aIN (a:Addr) (cls:Value) (h:Heap):Prop:=∃ o vs,h.get? a = some o ∧ o.cls = cls ∧ o.data = .fields vs
def excO (a:Addr) (cls:Value):HO:=.ext (aIN a cls)
section
variable {X:Cx} {pins:List (Addr × Obj)} {σ:St} {H H':Hp} {s s':Shared} {B h2:Heap} {ea:Addr} {cls a0:Value}
end
section
variable {X:Cx} {C:Addr} {x n:Str} {np hpos pos:Pos} {body suite:List Stmt} {b₀:Stmt} {tb:TB} {ts:TS} {i:Nat}
def Ends.gone (D:Ends) (i:Nat):Ends:={ nx:=fun σ H=>D.nx (σ.set i none) H,rt:=D.rt,bk:=fun σ H=>D.bk (σ.set i none) H,ct:=fun σ H=>D.ct (σ.set i none) H }
end
end L2
namespace L2
open PySem PySem.Spec PyProof.Rows
section
open PySem.W PySem.Calls PySem.Builtin PySem.Builtin.ObjectAttr PySem.Builtin.Getset_descriptor
variable {prog:Program} {w:World} {A:Around} {E:Value → Shared → Prop} {s:Shared} {K:PySem.W.Frag} {x C:Addr}
end
structure ExA (K:PySem.W.Frag) (C:Addr):Prop where
 ex:ExcC K C
 em:PySem.W.exmOne K (.ref C) (.ref C) = some true
structure ExI (K:PySem.W.Frag) (C:Addr):Prop extends ExA K C where
 pg:PySem.W.plainGet K C "__class__" = true
 ic:InstC K C
end L2
namespace L2
open PySem PySem.Spec PyProof.Rows
section
open PySem.W PySem.Calls PySem.Builtin PySem.Builtin.ObjectAttr PySem.Builtin.Getset_descriptor
variable {prog:Program} {w:World} {A:Around} {E:Value → Shared → Prop} {s:Shared} {K:PySem.W.Frag} {x C:Addr}
end
structure ExJ (K:PySem.W.Frag) (C:Addr):Prop extends ExA K C where
 ga:PySem.W.findIn K (.ref C) "__getattribute__" = some (some (.builtin "BaseException.__getattribute__"))
 gt:PySem.W.findIn K (.ref C) "__getattr__" = some none
 mb:PySem.W.mroIn K C (.type "BaseException") = some true
 ic:InstC K C
end L2
namespace L2
open PySem PySem.Spec PyProof.Rows
section
variable {X:Cx} {k:Nat} {ps:List Str} {sp:Sp} {x:Str} {p pos:Pos} {e:Expr} {es:List Expr} {t:TA} {E:XK}
end
end L2
namespace L2
open PySem PySem.Spec PyProof.Rows
section
variable {X:Cx} {tg:Expr}
end
end L2
namespace L2
open PySem PySem.Spec PyProof.Rows
def Itw (d:Addr) (o:Obj) (kvs:List (Key × V)):It :=
 ⟨fun i H=>H d = some (.frz o (.dK kvs)) ∧ i < kvs.length,fun i H x H'=>H' = H ∧ ∃ kv,kvs[i]? = some kv ∧ x = kv.2,fun i H=>H d = some (.frz o (.dK kvs)) ∧ kvs.length ≤ i⟩
section
variable {X:Cx} {tg:Expr}
end
end L2
namespace L2
open PySem PySem.Spec PyProof.Rows
def aEL (H:Hp):List Addr → List (Key × V) → Prop
 | [],kvs=>kvs = []
 | a :: as,kvs=>∃ k v r,kvs = (k,v) :: r ∧ H a = some (.tup [kV k,v]) ∧ aEL H as r
section
variable {P:Program} {w:World} {fs:List Addr} {H0 H:Hp} {h h':Heap}
end
section
variable {X:Cx}
theorem Inv.thaw {pins:List (Addr × Obj)} {σ:List (Option V)} {H:Hp} {s:Shared} {d:Addr} {o:Obj} {kvs:List (Key × V)} (I:Inv X pins σ H s) (hd:H d = some (.frz o (.dK kvs))) (h0:X.H₀ d = none):Inv X pins σ (upd H d (.dK kvs)) s:=by
 have nn:∀ b,H b = none → b ≠ d:=fun b e c=>by rw [c,hd] at e;cases e
 refine ⟨I.ok,I.os,I.bare,⟨I.base.keep,I.base.slot,fun b u q n hx=>?_,I.base.there,fun b xs q=>?_,fun b u x q=>?_,fun b ps q=>?_⟩,I.loc,I.cell,?_,fun x c e=>?_,fun p hp=>?_,fun b u e=>?_,I.len⟩
 ·have:=I.base.free b u q n hx
  rw [aO (nn b this)]
  exact this
 ·rw [aO (aS q h0)]
  exact I.base.tups b xs q
 ·rw [aO (aS q h0)]
  exact I.base.frzs b u x q
 ·rw [aO (aS q h0)]
  exact I.base.tbls b ps q
 ·rw [aO (nn _ I.free)]
  exact I.free
 ·rw [aO (nn _ (I.freeC x c e))]
  exact I.freeC x c e
 ·obtain ⟨a,b,c⟩:=I.pin p hp
  exact ⟨a,by rw [aO (nn _ b)];exact b,c⟩
 ·by_cases hb:b = d
  ·subst hb
   rw [aD] at e
   cases e
   obtain ⟨_,x⟩:=(show bX X.prog X.w H s.heap b (.frz o (.dK kvs)) from I.hok b _ hd)
   exact x
  ·rw [aO hb] at e
   refine (I.hok b u e).stay (fun c v _ q=>q) (fun c q=>?_) fun c xs q=>?_
   ·rw [aO (fun z=>by rw [z,hd] at q;cases q)];exact q
   ·rw [aO (fun z=>by rw [z,hd] at q;cases q)];exact q
theorem zN:MtR X "dict.clear" (fun x vs H Q=>∃ d kvs,x = .ref d ∧ vs = [] ∧ (H d = some (.dK kvs) ∨ ∃ o,H d = some (.frz o (.dK kvs)) ∧ X.H₀ d = none) ∧ Q .non (upd H d (.dK []))):=by
 intro pins s σ H x vs v us Q I rx rv h
 obtain ⟨d,kvs,rfl,rfl,hq,q⟩:=h
 cases rx
 have hus:=rv.zero
 subst hus
 have key:∀ H1:Hp,Inv X pins σ H1 s → H1 d = some (.dK kvs) → upd H1 d (.dK []) = upd H d (.dK []) → wpAny (model X.prog X.w) X.A (call (.builtin "dict.clear") [.ref d]) (EP X pins σ Q) X.xe s:=fun H1 I1 e1 e2=>by
  obtain ⟨hz,lo,ws,kv,hD⟩:=(show bX X.prog X.w H1 s.heap d (.dK kvs) from I1.hok d _ e1)
  have l1:=KV.length kv
  refine call_meetsIn PySem.F.slot_dict_clear hD.typeIs PySem.F.entry_dict_clear (PySem.F.args_dict_clear_1 _) (meets_dict_clear (knd:=aI X.prog X.w) (d:=d)) ⟨ws,hD,by omega,fun h' hd' hs=>?_⟩
  have hg:∃ z,h'.get? d = some z:=by
   obtain ⟨ob,_,_,e,_⟩:=hd'
   exact ⟨ob,e⟩
  refine ⟨.non,_,I1.write (t':=s.toks) (x:=d) (e:=d) (o:=.dK []) (by rw [e1];trivial) (.inl rfl) (fun b z nb e=>(hs.2 b nb).trans e) hg ⟨Nat.zero_le _,lo,[],.nil,hd'⟩,rfl,?_⟩
  rw [e2]
  exact q
 rcases hq with e | ⟨o,e,h0⟩
 ·exact key H I e rfl
 ·exact key _ (I.thaw e h0) aD aDC
def wO:V → Bool
 | .int _=>true
 | .non=>true
 | _=>false
theorem aBN {v:V} (h:wO v = true) {H:Hp}:∃ d,Is H d v ∧ aR 30 d = true ∧ deq d d = true:=by
 cases v with
 | int i=>exact ⟨.int i,rfl,rfl,jR 30 _ rfl⟩
 | non=>exact ⟨.non,rfl,rfl,jR 30 _ rfl⟩
 | _=>cases h
theorem aFJ (hu:X.A.units + 64 < cLine):OpR X (compareOp .Eq) (fun x y H Q=>∃ (a b:Addr) (kvs:List (Key × V)),x = .ref a ∧ y = .ref b ∧ Rd H a (.dK kvs) ∧ Rd H b (.dK kvs) ∧ (∀ p ∈ kvs,wO p.2 = true) ∧ Q (.bl true) H):=by
 intro pins s σ H x y v u Q I rx ry h
 obtain ⟨a,b,kvs,rfl,rfl,ha,hb,hp,q⟩:=h
 cases rx
 cases ry
 obtain ⟨hz,lo,ws,kv,hD⟩:=ha.ok I.hok
 obtain ⟨hz2,lo2,ws2,kv2,hD2⟩:=hb.ok I.hok
 have nd:(ws2.map (·.1)).Nodup:=by
  obtain ⟨_,_,_,_,_,_,_,_,hn⟩:=hD2
  exact hn
 have l1:=KV.length kv
 have l2:=KV.length kv2
 have hits:∀ (n:Nat),n ≤ ws.length → PySem.W.KeqHits X.A.in1 s ws2 (ws.drop (ws.length - n)) true:=fun n=>by
  induction n with
  | zero=>intro _;rw [Nat.sub_zero,List.drop_length];exact .nil
  | succ n ih =>
   intro hn
   have hi:ws.length - (n + 1) < ws.length:=by omega
   rw [List.drop_eq_getElem_cons hi]
   have e1:ws.length - (n + 1) + 1 = ws.length - n:=by omega
   rw [e1]
   obtain ⟨⟨k1,v1⟩,f1⟩:∃ p,ws[ws.length - (n + 1)]? = some p:=⟨_,List.getElem?_eq_getElem hi⟩
   obtain ⟨⟨k2,v2⟩,f2⟩:∃ p,ws2[ws.length - (n + 1)]? = some p:=⟨_,List.getElem?_eq_getElem (by omega)⟩
   obtain ⟨p1,g1,c1,r1⟩:=KV.get kv f1
   obtain ⟨p2,g2,c2,r2⟩:=KV.get kv2 f2
   rw [g1] at g2
   cases g2
   have ek:k1 = k2:=c1.symm.trans c2
   subst ek
   have eg:ws[ws.length - (n + 1)] = (k1,v1):=by
    rw [List.getElem?_eq_getElem hi] at f1
    exact Option.some.inj f1
   rw [eg]
   obtain ⟨d,i1,fd,dd⟩:=aBN (hp p1 (List.mem_of_getElem? g1)) (H:=H)
   have at1:=Is.eqAt I 30 d d p1.2 p1.2 v1 v2 X.A.in1 (by have:X.A.in1.units = X.A.units + 1:=rfl;omega) fd fd i1 i1 r1 r2
   rw [dd] at at1
   exact .hit (e:=true) (b:=true) (valueAt_of_get nd f2) at1 (ih (by omega))
 refine PySem.W.keq_eq (r:=true) lo lo2 hD hD2 (by omega) (fun _=>by have:=hits ws.length (Nat.le_refl _);rwa [Nat.sub_self,List.drop_zero] at this) ?_
 rw [show (ws.length == ws2.length) = true from beq_iff_eq.mpr (by omega)]
 exact ⟨.bl true,H,I,rfl,q⟩
end
end L2
namespace L2
open PySem PySem.Spec PyProof.Rows
def aID (r:V → List V → Hp → VK → Prop) (to:TE):TE:=fun σ H Q=>to σ H fun x H1=>(∃ p kvs,x = .ref p ∧ Rd H1 p (.dK kvs)) ∧ r x [] H1 Q
section
variable {X:Cx} {o:Expr} {to:TE} {name:Str} {apos cpos:Pos} {id:String} {r:V → List V → Hp → VK → Prop}
theorem aFH (slot:Slot "dict" name id) (hty:typeOf (.builtin id) = pure (.type "method_descriptor")) (hm:MtR X id r) (ho:PE X o to)
  (hbase:attributeBase o name X.env (eval o X.env) = eval o X.env:=by rfl) (hline:(apos.endLine == cpos.line) = true:=by rfl):PE X (.Call (.Attribute o name apos) [] [] cpos) (aID r to):=by
 intro pins s σ H Q I h
 refine wpAny_Call_method0_late hbase hline (thn (ho pins s σ H _ I h) fun v s1 ⟨x,H1,I1,r1,⟨p,kvs,e,hq⟩,q1⟩=>?_)
 subst e
 cases r1
 obtain ⟨_,_,_,_,ob,_,_,e,ex,_⟩:=hq.ok I1.hok
 have h2:∀ a,Value.ref p = .ref a → ∃ ob,s1.heap.get? a = some ob ∧ ob.dict = none:=fun a e2=>by
  cases e2
  exact ⟨ob,e,ex.2.1⟩
 exact ⟨"dict",id,PySem.F.plainAttrs_dict,slot,hty,⟨ob,e,ex.1⟩,h2,Calls.callWith_builtin rfl (PySem.evalArgs_none (hm pins s1 σ H1 (.ref p) [] _ [] Q I1 rfl .nil q1))⟩
end
end L2
namespace L2
open PySem PySem.Spec PyProof.Rows
def nR (l:List Nat):Prop:=∀ i k,i < k → k < l.length → l.getD i 0 < l.getD k 0
theorem nR.pw {l:List Nat}:nR l ↔ l.Pairwise (· < ·):=by
 unfold nR
 rw [List.pairwise_iff_getElem]
 constructor
 ·intro h i j hi hj hij
  have:=h i j hij hj
  simpa [List.getD_eq_getElem?_getD,hi,hj] using this
 ·intro h i j hij hj
  have hi:i < l.length:=by omega
  have:=h i j hi hj hij
  simpa [List.getD_eq_getElem?_getD,hi,hj] using this
theorem aCX (xs:Array Nat) (j:Nat) (hp:nR xs.toList):∀ (fuel lo hi:Nat),hi - lo ≤ fuel → hi ≤ xs.size → lo ≤ hi → (∀ i,i < lo → xs.toList.getD i 0 < j) → (∀ i,hi ≤ i → i < xs.size → j ≤ xs.toList.getD i 0) →
  SetTable.below.go xs j fuel lo hi ≤ xs.size ∧ (∀ i,i < SetTable.below.go xs j fuel lo hi → xs.toList.getD i 0 < j) ∧ (∀ i,SetTable.below.go xs j fuel lo hi ≤ i → i < xs.size → j ≤ xs.toList.getD i 0):=by
 intro fuel
 induction fuel with
 | zero =>
  intro lo hi h1 h2 h3 h4 h5
  obtain rfl:lo = hi:=by omega
  exact ⟨h2,h4,h5⟩
 | succ fuel ih =>
  intro lo hi h1 h2 h3 h4 h5
  unfold SetTable.below.go
  split
  ·rename_i hlt
   dsimp only
   have hm:(lo + hi) / 2 < xs.size:=by omega
   have eq:xs.getD ((lo + hi) / 2) j = xs.toList.getD ((lo + hi) / 2) 0:=by
    simp [Array.getD,hm,List.getD_eq_getElem?_getD]
   rw [eq]
   split
   ·rename_i hlt2
    refine ih _ _ (by omega) h2 (by omega) (fun i hi2=>?_) h5
    rcases Nat.lt_or_ge i ((lo + hi) / 2) with q | q
    ·exact Nat.lt_trans (hp i _ q (by simpa using hm)) hlt2
    ·obtain rfl:i = (lo + hi) / 2:=by omega
     exact hlt2
   ·rename_i hge
    refine ih _ _ (by omega) (by omega) (by omega) h4 (fun i hi1 hi2=>?_)
    rcases Nat.lt_or_ge ((lo + hi) / 2) i with q | q
    ·have:=hp _ i q (by simpa using hi2);omega
    ·obtain rfl:i = (lo + hi) / 2:=by omega
     omega
  ·obtain rfl:lo = hi:=by omega
   exact ⟨h2,h4,h5⟩
theorem vX {xs:Array Nat} (hp:nR xs.toList) (j:Nat) :
  SetTable.below xs j ≤ xs.size ∧ (∀ i,i < SetTable.below xs j → xs.toList.getD i 0 < j) ∧ (∀ i,SetTable.below xs j ≤ i → i < xs.size → j ≤ xs.toList.getD i 0) :=
 aCX xs j hp xs.size 0 xs.size (by omega) (Nat.le_refl _) (Nat.zero_le _) (fun i h=>by omega) (fun i h1 h2=>by omega)
theorem xM {xs:Array Nat} (hp:nR xs.toList) {i:Nat} (hi:i ≤ xs.size) {sl:Nat} (hs:∀ k,k < i → xs.toList.getD k 0 < sl) (hs2:∀ k,i ≤ k → k < xs.size → sl ≤ xs.toList.getD k 0):SetTable.below xs sl = i:=by
 obtain ⟨a,b,c⟩:=vX hp sl
 rcases Nat.lt_trichotomy (SetTable.below xs sl) i with q | q | q
 ·have:=c _ (Nat.le_refl _) (by omega);have:=hs _ q;omega
 ·exact q
 ·have:=b i q;have:=hs2 i (Nat.le_refl _) (by omega);omega
structure Ris (t:SetTable):Prop where
 no:t.dummies = #[]
 up:nR t.place.toList
theorem Ris.slot {t:SetTable} (r:Ris t) {j:Nat}:t.slot j ≠ .dummy:=by
 unfold SetTable.slot SetTable.has
 rw [r.no]
 dsimp only
 split
 ·intro h;cases h
 ·simp
theorem Ris.probe {t:SetTable} (r:Ris t) (f:Nat → Int) (h:Int):∀ (fuel:Nat) (p:SetTable.Probe),p.dummy = none → ∀ j d,SetTable.probe.go t f h fuel p = some (.empty j d) → t.slot j = .empty ∧ d = none:=by
 intro fuel
 induction fuel with
 | zero=>intro p _ j d e;simp [SetTable.probe.go] at e
 | succ n ih =>
  intro p hp j d e
  unfold SetTable.probe.go at e
  have adv:(t.advance p).dummy = none:=by
   unfold SetTable.advance
   split
   ·exact hp
   ·exact hp
  cases hs:t.slot p.j with
  | empty =>
   rw [hs] at e
   cases e
   exact ⟨hs,hp⟩
  | dummy=>exact absurd hs r.slot
  | live i =>
   rw [hs] at e
   dsimp only at e
   split at e
   ·cases e
   ·exact ih _ adv j d e
theorem Ris.put {t:SetTable} (r:Ris t) {j:Nat} (e:t.slot j = .empty):Ris (t.put j).1:=by
 obtain ⟨a,b,c⟩:=vX r.up j
 have hne:t.place[SetTable.below t.place j]? ≠ some j:=by
  intro h
  unfold SetTable.slot at e
  dsimp only at e
  rw [h] at e
  simp at e
 refine ⟨?_,?_⟩
 ·show (if SetTable.has t.dummies j then _ else t.dummies) = #[]
  rw [r.no]
  simp [SetTable.has]
 ·show nR (SetTable.insertAt t.place (SetTable.below t.place j) j).toList
  rw [SetTable.toList_insertAt,nR.pw]
  have pw:=nR.pw.mp r.up
  generalize hp:SetTable.below t.place j = p at *
  have lt:∀ x ∈ t.place.toList.take p,x < j:=by
   intro x hx
   obtain ⟨i,hi,rfl⟩:=List.getElem_of_mem hx
   have hi':i < p ∧ i < t.place.toList.length:=by rw [List.length_take] at hi;omega
   have:=b i hi'.1
   rw [List.getElem_take]
   rw [List.getD_eq_getElem?_getD,List.getElem?_eq_getElem hi'.2] at this
   exact this
  have gt:∀ x ∈ t.place.toList.drop p,j < x:=by
   intro x hx
   obtain ⟨i,hi,rfl⟩:=List.getElem_of_mem hx
   rw [List.length_drop] at hi
   have hl:p + i < t.place.toList.length:=by omega
   rw [List.getElem_drop]
   have ge:j ≤ t.place.toList[p + i]:=by
    have:=c (p + i) (by omega) (by simpa using hl)
    have e2:t.place.toList.getD (p + i) 0 = t.place.toList[p + i]:=by rw [List.getD_eq_getElem?_getD,List.getElem?_eq_getElem hl];rfl
    omega
   rcases Nat.eq_zero_or_pos i with q | q
   ·subst q
    have ne:t.place.toList[p + 0] ≠ j:=by
     intro h
     apply hne
     have hp2:p < t.place.size:=by simpa using hl
     rw [Array.getElem?_eq_getElem hp2]
     simpa using h
    omega
   ·have:=r.up p (p + i) (by omega) hl
    have hsz:t.place.toList.length = t.place.size:=by simp
    have h0:=c p (Nat.le_refl _) (by omega)
    have e2:t.place.toList.getD (p + i) 0 = t.place.toList[p + i]:=by rw [List.getD_eq_getElem?_getD,List.getElem?_eq_getElem hl];rfl
    omega
  rw [List.pairwise_append]
  simp only [List.pairwise_cons]
  refine ⟨pw.sublist (List.take_sublist _ _),⟨gt,pw.sublist (List.drop_sublist _ _)⟩,fun x hx y hy=>?_⟩
  rcases List.mem_cons.mp hy with rfl | hy
  ·exact lt x hx
  ·exact Nat.lt_trans (lt x hx) (gt y hy)
theorem Ris.standIn (t:SetTable) (n:Nat):Ris (t.standIn n) :=
 ⟨rfl,nR.pw.mpr (by show (Array.range n).toList.Pairwise (· < ·);rw [Array.toList_range];exact List.pairwise_lt_range)⟩
theorem Ris.orStandIn {t:SetTable} (r:Ris t) (n:Nat):Ris (t.orStandIn n):=by
 unfold SetTable.orStandIn
 split
 ·exact r
 ·exact Ris.standIn t n
theorem qQ (t:SetTable) (n:Nat):(t.orStandIn n).led = t.led:=by
 unfold SetTable.orStandIn
 split <;> rfl
theorem Ris.layNew {t:SetTable} (r:Ris t) (es:Array (Int × Value)) (h:Int) (x:Value):Ris (layNew t es h x).2.1 ∧ (layNew t es h x).2.1.led = t.led:=by
 unfold PySem.layNew
 cases e:t.freeSlot h with
 | none=>exact ⟨Ris.standIn _ _,rfl⟩
 | some p =>
  obtain ⟨sl,wd⟩:=p
  have e2:t.slot sl = .empty:=by
   unfold SetTable.freeSlot SetTable.probe at e
   cases q:SetTable.probe.go t (fun _=>h + 1) h (10 * SetTable.turns t.mask) (t.probeStart h) with
   | none=>rw [q] at e;cases e
   | some m =>
    rw [q] at e
    cases m with
    | empty j d =>
     obtain ⟨s1,rfl⟩:=r.probe _ _ _ _ rfl j d q
     simp at e
     obtain ⟨rfl,_⟩:=e
     exact s1
    | candidate _ _ _=>cases e
  dsimp only
  refine ⟨(r.put e2).orStandIn _,?_⟩
  rw [qQ]
  rfl
theorem Ris.relayAll {t:SetTable} (es:Array (Int × Value)) (k:Nat):Ris (relayAll t es k).2.1 ∧ (relayAll t es k).2.1.led = t.led:=by
 unfold PySem.relayAll
 cases e:t.relaid (es.map (·.1)) k with
 | none=>exact ⟨Ris.standIn _ _,rfl⟩
 | some p =>
  obtain ⟨t',order⟩:=p
  dsimp only
  split
  ·unfold SetTable.relaid SetTable.laid at e
   cases q:SetTable.layClean (SetTable.sizeAbove k - 1) (es.map (·.1)) with
   | none=>rw [q] at e;cases e
   | some owner =>
    rw [q] at e
    simp only [Option.bind_eq_bind,Option.bind_some,Option.pure_def,Option.some.injEq,Prod.mk.injEq] at e
    obtain ⟨rfl,_⟩:=e
    refine ⟨⟨rfl,nR.pw.mpr ?_⟩,rfl⟩
    show List.Pairwise (· < ·) (List.toArray _).toList
    rw [List.toList_toArray,List.map_filterMap]
    refine List.Pairwise.sublist (?_:List.Sublist _ (List.range (SetTable.sizeAbove k - 1 + 1))) List.pairwise_lt_range
    generalize List.range (SetTable.sizeAbove k - 1 + 1) = rg
    induction rg with
    | nil=>exact List.Sublist.refl _
    | cons a r ih =>
     rw [List.filterMap_cons]
     cases (owner.getD a none) with
     | none=>exact ih.trans (List.sublist_cons_self _ _)
     | some b=>exact List.Sublist.cons₂ _ ih
  ·exact ⟨Ris.standIn _ _,rfl⟩
theorem Ris.plain {t:SetTable} (r:Ris t):Ris { t with plain:=false }:=⟨r.no,r.up⟩
end L2
namespace L2
open PySem PySem.Spec PyProof.Rows
def eQ:Value → Key
 | .int z _=>.inl z
 | .str x _=>.inr x
 | _=>.inl 0
theorem kE {P:Program} {w:World} {k:Key} {v:Value} (h:(aI P w).is k v = true):eQ v = k:=by
 rcases bO h with ⟨i,t,rfl,rfl⟩ | ⟨x,t,rfl,rfl⟩ <;> rfl
def dD (w:World):Bool:=w.params.followText "set-order"
def fD (P:Program) (w:World) (h:Heap) (a:Addr) (ks:List Key):Prop :=
 ∃ o es ep t,h.get? a = some o ∧ o.ExactSet ∧ o.data = .set es ep t ∧ ElemsOf (aI P w) es.toList ∧ (es.toList.map fun e=>eQ e.2).Perm ks ∧ es.size < scanBound ∧ t.fits es.size = true ∧ Ris t ∧ (dD w = true ∨ t.led = true)
theorem fD.len {P:Program} {w:World} {h:Heap} {a:Addr} {ks:List Key} {es:Array (Int × Value)} (hp:(es.toList.map fun e=>eQ e.2).Perm ks):es.size = ks.length:=by
 have:=hp.length_eq
 rw [List.length_map,Array.length_toList] at this
 exact this
section
variable {P:Program} {w:World} {A:Around} {E:Value → Shared → Prop} {s:Shared}
theorem qI {h:Heap} {a:Addr} {o:Obj} {es:Array (Int × Value)} {ep:Nat} {t:SetTable} (ho:h.get? a = some o) (hex:o.ExactSet) (hd:o.data = .set es ep t)
  {es':Array (Int × Value)} {t':SetTable} {ks:List Key} (hel:ElemsOf (aI P w) es'.toList) (hp:(es'.toList.map fun e=>eQ e.2).Perm ks) (hb:es'.size < scanBound) (hf:t'.fits es'.size = true) (hr:Ris t') (hl:dD w = true ∨ t'.led = true) :
  (h.update a (Obj.putSet es' t')).get? a = some { o with data:=.set es' (ep + 1) t' } ∧ fD P w (h.update a (Obj.putSet es' t')) a ks:=by
 have hg:(h.update a (Obj.putSet es' t')).get? a = some { o with data:=.set es' (ep + 1) t' }:=by
  have:=Heap.get?_update_self (Obj.putSet es' t') ho (by rw [putSet_of es' t' hd];rfl)
  rw [putSet_of es' t' hd] at this;exact this
 exact ⟨hg,_,es',ep + 1,t',hg,hex,rfl,hel,hp,hb,hf,hr,hl⟩
theorem vY {g:Bool → Sem Unit} (hg:∀ (b:Bool) (s₁:Shared) (Q':Unit → Shared → Prop),Q' () s₁ → wpAny (model P w) A (g b) Q' E s₁)
  {a:Addr} {o:Obj} {es:Array (Int × Value)} {ep:Nat} {t:SetTable} (ho:s.heap.get? a = some o) (hex:o.ExactSet) (hd:o.data = .set es ep t)
  {es1:Array (Int × Value)} {t2:SetTable} {ks:List Key} (hel1:ElemsOf (aI P w) es1.toList) (hp1:(es1.toList.map fun e=>eQ e.2).Perm ks)
  (hb1:es1.size < scanBound) (hf2:t2.fits es1.size = true) (hr2:Ris t2) (hl2:dD w = true ∨ t2.led = true) {wasDummy:Bool} {R:Option Bool → Shared → Prop}
  (h:∀ h',Heap.SameBut a s.heap h' → fD P w h' a ks → R (some true) { s with heap:=h' }) :
  wpAny (model P w) A (do
    storeSet a es1 t2
    if (!wasDummy && t2.tooFull) = true then do
      g (relayAll t2 es1 (SetTable.grown es1.size)).2.2
      storeSet a (relayAll t2 es1 (SetTable.grown es1.size)).1 (relayAll t2 es1 (SetTable.grown es1.size)).2.1
      pure (some true)
     else pure (some true)) R E s:=by
 refine wpAny_bind (wpAny_storeSet_of ho hd ?_ (fits_of_scanBound hb1))
 obtain ⟨ho1,hS1⟩:=qI (P:=P) (w:=w) ho hex hd hel1 hp1 hb1 hf2 hr2 hl2
 have hsb1:=Heap.SameBut.update s.heap a (Obj.putSet es1 t2)
 split
 ·have hp:=relayAll_perm t2 es1 (SetTable.grown es1.size)
  have hfr:=relayAll_fits t2 es1 (SetTable.grown es1.size)
  have hrr:=Ris.relayAll (t:=t2) es1 (SetTable.grown es1.size)
  generalize hRl:relayAll t2 es1 (SetTable.grown es1.size) = Rl at hp hfr hrr ⊢
  obtain ⟨es2,t3,gave2⟩:=Rl
  dsimp only at hp hfr hrr ⊢
  have hel2:ElemsOf (aI P w) es2.toList:=hel1.perm hp
  have hsz:es2.size = es1.size:=by rw [← Array.length_toList,hp.length_eq,Array.length_toList]
  have hb2:es2.size < scanBound:=by rw [hsz];exact hb1
  refine wpAny_bind (hg _ _ _ ?_)
  refine wpAny_bind (wpAny_storeSet_of ho1 rfl ?_ (fits_of_scanBound hb2))
  obtain ⟨_,hS2⟩:=qI (P:=P) (w:=w) ho1 hex rfl hel2 ((hp.map _).trans hp1) hb2 hfr hrr.1 (by rw [hrr.2];exact hl2)
  exact wpAny_pure (h _ (hsb1.trans (Heap.SameBut.update _ a _)) hS2)
 ·exact wpAny_pure (h _ hsb1 hS1)
theorem aBG {a:Addr} {ks:List Key} {k:Key} {x:Value} {Q:Bool → Shared → Prop} (hkey:(aI P w).is k x = true) (hS:fD P w s.heap a ks) (hroom:ks.length + 1 < scanBound)
  (h:∀ (b:Bool) h',Heap.SameBut a s.heap h' → fD P w h' a (if k ∈ ks then ks else ks ++ [k]) → Q b { s with heap:=h' }) :
  wpAny (model P w) A (setAddHashed a x ((aI P w).hash k)) Q E s:=by
 obtain ⟨o,es,ep,t,ho,hex,hd,hel,hp,hb,hf,hr,hl⟩:=hS
 have hsc:=vN hkey
 have hn:es.size = ks.length:=fD.len (P:=P) (w:=w) (h:=s.heap) (a:=a) hp
 have hb1:es.size + 1 < scanBound:=by rw [hn];exact hroom
 unfold setAddHashed setAddHashedIn
 refine wpAny_holding (wpAny_bind (wpAny_setState_of ho hd hf ?_))
 dsimp only
 rw [byScan_of hsc hb hel]
 simp only [↓reduceIte]
 unfold setAddByScan
 refine wpAny_bind ?_
 refine wpAny_bind (wpAny_rule ?_)
 refine wpAny_bind (wpAny_setScan_of hkey ho hd hf hel ?_)
 cases hfi:List.findIdx? (fun e=>(aI P w).is k e.2) es.toList with
 | some j =>
  dsimp only
  obtain ⟨hj,hpj,_⟩:=List.findIdx?_eq_some_iff_getElem.mp hfi
  have hSk:k ∈ ks:=by
   refine hp.mem_iff.mp (List.mem_map.mpr ⟨es.toList[j],List.getElem_mem hj,kE hpj⟩)
  refine wpAny_pure (wpAny_pure ?_)
  have e:s = { s with heap:=s.heap }:=by cases s;rfl
  have:=h false s.heap (Heap.SameBut.refl a s.heap) ⟨o,es,ep,t,ho,hex,hd,hel,by rw [if_pos hSk];exact hp,hb,hf,hr,hl⟩
  rw [e];exact this
 | none =>
  dsimp only
  have hSk:k ∉ ks:=by
   intro hk
   obtain ⟨e,he,hq⟩:=List.mem_map.mp (hp.mem_iff.mpr hk)
   obtain ⟨⟨k',hk',_⟩,_⟩:=hel e he
   have:=kE hk'
   rw [hq] at this
   subst this
   have:=List.findIdx?_eq_none_iff.mp hfi e he
   rw [hk'] at this
   exact Bool.noConfusion this
  rw [if_neg hSk] at h
  have hgw:∀ (b:Bool) {s₁:Shared} {Q':Unit → Shared → Prop},Q' () s₁ → wpAny (model P w) A (match b with | true=>rule "set.scan.the-table-gave-way" | false=>pure ()) Q' E s₁ :=
   fun b s₁ Q' hq=>by cases b <;> first | exact wpAny_pure hq | exact wpAny_rule hq
  have hperm:=layNew_perm t es ((aI P w).hash k) x
  have hfits:=layNew_fits t es ((aI P w).hash k) x
  have hris:=hr.layNew es ((aI P w).hash k) x
  generalize hL:layNew t es ((aI P w).hash k) x = L at hperm hfits hris ⊢
  obtain ⟨es1,t1,wasDummy,gave⟩:=L
  dsimp only at hperm hfits hris ⊢
  rw [Array.toList_push] at hperm
  have hel1:ElemsOf (aI P w) es1.toList:=(hel.push hkey hsc).perm hperm
  have hp1:(es1.toList.map fun e=>eQ e.2).Perm (ks ++ [k]):=by
   refine (hperm.map _).trans ?_
   rw [List.map_append]
   refine List.Perm.append hp ?_
   rw [List.map_cons,List.map_nil,kE hkey]
  have hb1':es1.size < scanBound:=by rw [← Array.length_toList,hperm.length_eq,List.length_append,Array.length_toList];simpa using hb1
  refine wpAny_bind (hgw _ ?_)
  have hl1:dD w = true ∨ t1.led = true:=by rw [hris.2];exact hl
  split
  ·refine wpAny_bind ?_
   rw [hashByValue_scannable 8 hsc]
   refine wpAny_pure ?_
   refine vY ?_ ho hex hd hel1 hp1 hb1' ?_ ?_ ?_ ?_
   ·intro b s₁ Q' hq;cases b <;> first | exact wpAny_pure hq | exact wpAny_rule hq
   ·split
    ·exact hfits
    ·exact SetTable.fits_plain_off hfits
   ·split
    ·exact hris.1
    ·exact hris.1.plain
   ·split
    ·exact hl1
    ·exact hl1
   ·intro h' hsb hS';dsimp only;exact wpAny_pure (h _ h' hsb hS')
  ·refine wpAny_bind (wpAny_pure ?_)
   simp only [↓reduceIte]
   refine vY ?_ ho hex hd hel1 hp1 hb1' hfits hris.1 hl1 ?_
   ·intro b s₁ Q' hq;cases b <;> first | exact wpAny_pure hq | exact wpAny_rule hq
   ·intro h' hsb hS';dsimp only;exact wpAny_pure (h _ h' hsb hS')
end
end L2
namespace L2
open PySem PySem.Spec PyProof.Rows
section
variable {P:Program} {w:World} {A:Around} {E:Value → Shared → Prop} {s:Shared}
theorem qU (a:Value) {Q₁:Value → Shared → Prop}
  (h:∀ led:Bool,(dD w = true ∨ led = true) → Q₁ (.ref s.heap.objs.size) { s with heap:=s.heap.push (gX led) }) :
  codeAny (model P w) A (.call (.builtin "set.__new__") ⟨[.type "set",a],[]⟩) (wants Q₁ E) s:=by
 refine codeAny_of_tree ?_
 show wpAny _ A.in1 (do checkBuiltinCall "set.__new__" ⟨[.type "set",a],[]⟩;again (.builtin "set.__new__" ⟨[.type "set",a],[]⟩)) _ _ s
 refine wpAny_bind (wpAny_of_eq (PySem.F.newCall_set_1 a) (wpAny_pure ⟨plainId_quiet PySem.F.plain_set_new _,codeAny_builtin PySem.F.entry_set_new ?_⟩))
 rw [Around.under_plainId PySem.F.plain_set_new _]
 unfold Builtin.«set.__new__» Builtin.Frozenset.newClass
 have hsub:=sub_set_self
 obtain ⟨hp,g,d,tk,os⟩:=s
 dsimp only
 wp_walk
 refine wpAny_askSetting (wpAny_pure ?_)
 dsimp only
 simp only [newObj]
 refine wpAny_bind (wpAny_alloc (wpAny_pure ?_))
 exact wpAny_pure (h _ (by
  show dD w = true ∨ (!(dD w)) = true
  cases dD w
  ·exact .inr rfl
  ·exact .inl rfl))
end
section
variable {P:Program} {w:World} {A:Around} {R:Result → Shared → Prop} {I:Addr} {fp wr:List Addr} {G:Array GenState → Array GenState → Prop} {n:Nat} {Pv:Nat → Value → Prop} {Stt:Nat → Shared → Prop}
theorem zA (W:WalksS P w A.in1 I fp wr G n Pv Stt) (D:Addr) (hD:D ∉ fp) (key:Nat → Key) (hv:∀ i v,Pv i v → (aI P w).is (key i) v = true) (hb:n + 1 < scanBound) (fin:∀ s s',Moved (D :: wr) G s s' → fD P w s'.heap D (cZ key n) → True) :
  ∀ (m i:Nat) (s:Shared),n - i = m → i ≤ n → Stt i s → fD P w s.heap D (cZ key i) →
   (∀ s',Moved (D :: wr) G s s' → fD P w s'.heap D (cZ key n) → R (.ok (.ret .none)) s') →
   codeAny (model P w) A (.builtin "set.update.loop" ⟨[.ref D,.ref I],[]⟩) R s:=by
 have hDw:D ∉ wr:=fun z=>hD (W.sub _ z)
 have sub:∀ b ∈ wr,b ∈ D :: wr:=fun b z=>List.mem_cons_of_mem _ z
 have moved:∀ {s s':Shared} {c:List Key},Moved wr G s s' → fD P w s.heap D c → fD P w s'.heap D c:=fun mv ⟨o,es,ep,t,ho,r⟩=>⟨o,es,ep,t,mv.heap D _ hDw ho,r⟩
 intro m
 induction m with
 | zero =>
  intro i s e1 e2 st hS hR
  obtain rfl:i = n:=by omega
  refine codeAny_builtin PyProof.Rows.F.entry_set_update_loop ?_
  rw [Around.under_plainId PyProof.Rows.F.plain_set_update_loop _]
  show wpAny _ A.in1 (pyNext (.ref I) >>= _) _ _ s
  refine wpAny_bind (W.done s _ _ st fun s' mv=>?_)
  exact wpAny_pure (hR s' (mv.mono sub) (moved mv hS))
 | succ m ih =>
  intro i s e1 e2 st hS hR
  have lt:i < n:=by omega
  refine codeAny_builtin PyProof.Rows.F.entry_set_update_loop ?_
  rw [Around.under_plainId PyProof.Rows.F.plain_set_update_loop _]
  show wpAny _ A.in1 (pyNext (.ref I) >>= _) _ _ s
  refine wpAny_bind (W.item i s _ _ lt st fun v s' pv st' mv=>?_)
  have hk:=hv i v pv
  have hS1:=moved mv hS
  show wpAny _ A.in1 (holding [v] (setAdd D v) >>= _) _ _ s'
  refine wpAny_bind (wpAny_holding ?_)
  unfold setAdd
  refine wpAny_holding (wpAny_bind ((aI P w).pyHash (k:=key i) hk ?_))
  have room:(cZ key i).length + 1 < scanBound:=by have:=lQ key i;omega
  refine aBG (s:={ s' with toks:=s'.toks + 1 }) hk hS1 room fun bb h' sb hS3=>?_
  refine wpAny_pure ⟨plainId_quiet PyProof.Rows.F.plain_set_update_loop _,ih (i + 1) _ (by omega) lt (W.frame _ s' _ _ st' (Nat.le_succ _) fun b hb o e=>?_) hS3 fun s2 mv2 hS4=>?_⟩
  ·rw [sb.2 b (fun z:b = D=>hD (by rw [← z];exact hb))]
   exact e
  ·refine hR s2 (Moved.trans W.gtrans ((mv.mono sub).then_heap (Nat.le_succ _) fun b o hb e=>?_) mv2) hS4
   rw [sb.2 b (fun z:b = D=>hb (by rw [z];exact List.mem_cons_self))]
   exact e
end
section
variable {P:Program} {w:World} {A:Around} {E:Value → Shared → Prop} {s:Shared}
set_option maxHeartbeats 8000000 in
theorem sU {l:Addr} {its:List Value} {ks:List Key} {Q:Value → Shared → Prop} (hh:A.handled = none) (hl:s.heap.IsList l its.toArray) (hk:∀ i v,its[i]? = some v → (aI P w).is (ks.getD i (.inl 0)) v = true) (hn:its.length = ks.length) (hb:its.length + 1 < scanBound)
  (h:∀ (h':Heap) (tk:Nat),fD P w h' s.heap.objs.size (jS ks) → (∀ b o,s.heap.get? b = some o → h'.get? b = some o) → Q (.ref s.heap.objs.size) { s with heap:=h',toks:=tk }) :
  wpAny (model P w) A (call (.type "set") [.ref l]) Q E s:=by
 obtain ⟨c,tl,hmro⟩:=PySem.F.called_set.mro
 have m1:=PySem.F.called_set.made
 have m2:=PySem.F.called_set.sub
 refine wpAny_call (codeAny_of_tree ?_)
 show wpAny _ _ (callAny (.type "set") _) _ _ _
 refine wpAny_pure ⟨Code.quiet_builtin _ (by decide +kernel),codeAny_builtin PySem.F.entry_type_call ?_⟩
 rw [Around.under_plain (weight_type_call_type "set" [.ref l] []) rfl]
 have m3:=PySem.F.called_set.notType
 have m4:=PySem.F.called_set.canCreate
 have m5:=PySem.F.typeCall_set_1 (.ref l)
 repeat (any_goals (first | assumption | wp_step))
 refine codeAny_mono (qU (.ref l) (E:=E) (Q₁:=fun ob s1=>∃ led:Bool,(dD w = true ∨ led = true) ∧ ob = .ref s.heap.objs.size ∧ s1 = { s with heap:=s.heap.push (gX led) }) fun led hld=>⟨led,hld,rfl,rfl⟩) fun r s1 hr=>?_
 cases r with
 | error e=>exact hr
 | ok fl =>
  cases fl with
  | ret ob =>
   obtain ⟨led,hld,rfl,rfl⟩:=hr
   have hS:(s.heap.push (gX led)).get? s.heap.objs.size = some (gX led):=Heap.get?_push_size _ rfl
   have hT:Shared.TypeIs { s with heap:=s.heap.push (gX led) } (.ref s.heap.objs.size) "set":=⟨_,hS,rfl⟩
   have m6:=PySem.F.called_set.init.lookup
   have m7:=PySem.F.called_set.init.bind (.ref s.heap.objs.size)
   repeat (any_goals (first | assumption | wp_step))
   refine codeAny_mono (codeAny_call_builtin (R:=wants (fun r s2=>r = .none ∧ ∃ h' tk,s2 = { s with heap:=h',toks:=tk } ∧ fD P w h' s.heap.objs.size (jS ks) ∧ (∀ b o,s.heap.get? b = some o → h'.get? b = some o)) E)
    PySem.F.called_set.init.plain PySem.F.entry_set_init (check_set_init_1 hT ?_)) fun r2 s2 hr2=>?_
   ·obtain ⟨⟨oc,od,oda,osl⟩,hol,hcl,nl,hdl⟩:=hl
    simp only at hcl hdl
    subst hcl hdl
    have hol1:(s.heap.push (gX led)).get? l = some { cls:=.type "list",dict:=od,data:=.seq its.toArray nl,slots:=osl }:=Heap.get?_push_of_some _ hol
    have m8:=PySem.F.sub_list_set
    have m9:=PySem.F.sub_list_frozenset
    have m10:(Value.type "list" == Value.type "dict") = false:=by decide
    have hl1:(s.heap.push (gX led)).IsList l its.toArray:=⟨_,hol1,rfl,nl,rfl⟩
    have lS:l < s.heap.objs.size:=Heap.lt_size hol
    unfold Builtin.«set.__init__» noKeywords Builtin.Frozenset.updateFrom
    generalize hPI:pyIter = PI
    wp_walk
    subst hPI
    refine wpAny_pyIter_list hl1 (wpAny_bind (wpAny_runValue ?_))
    have hh3:A.in1.in1.in1.handled = none:=by simp [hh]
    have nI:l ≠ (s.heap.push (gX led)).objs.size:=by rw [Heap.size_push];exact Nat.ne_of_lt (Nat.lt_succ_of_lt lS)
    have nS:s.heap.objs.size ∉ [(s.heap.push (gX led)).objs.size,l]:=by
     rw [Heap.size_push]
     simp only [List.mem_cons,List.mem_singleton,List.not_mem_nil,or_false,not_or]
     exact ⟨Nat.ne_of_lt (Nat.lt_succ_self _),Nat.ne_of_gt lS⟩
    have sz:its.toArray.size = ks.length:=by rw [List.size_toArray,hn]
    refine zA ((Walks.list hh3 _ l nI its.toArray).toS) s.heap.objs.size nS (fun i=>ks.getD i (.inl 0)) (fun i v pv=>hk i v (by simpa using pv)) (by rw [List.size_toArray];exact hb) (fun _ _ _ _=>trivial) (its.toArray.size - 0) 0 _ (by omega) (Nat.zero_le _)
     ⟨⟨_,Heap.get?_push_size _ rfl,rfl,rfl⟩,(hl1.push _)⟩ ?_ ?_
    ·have g:((s.heap.push (gX led)).push { cls:=.type "list_iterator",data:=.fields #[.ref l,.int 0 0] }).get? s.heap.objs.size = some (gX led):=Heap.get?_push_of_some _ hS
     exact ⟨_,#[],0,_,g,⟨rfl,rfl,rfl⟩,rfl,fun e he=>by simp at he,List.Perm.refl _,by decide,by rfl,⟨rfl,fun i k _ h=>by simp [SetTable.fresh] at h⟩,hld⟩
    ·intro s3 mv hS3
     obtain ⟨h3,g3,d3,t3,o3⟩:=s3
     have e1:g3 = s.gens:=mv.gens
     have e2:d3 = s.drawn:=mv.drawn
     have e3:o3 = s.os:=mv.os
     subst e1 e2 e3
     rw [sz] at hS3
     show wpAny _ _ _ _ _ _
     refine wpAny_pure ?_
     show wpAny _ _ (ret Value.none) _ _ _
     refine wpAny_pure ⟨rfl,h3,t3,rfl,hS3,fun b o e=>?_⟩
     have lb:=Heap.lt_size e
     have b1:b ≠ s.heap.objs.size:=Nat.ne_of_lt lb
     have b2:b ≠ (s.heap.push (gX led)).objs.size:=by rw [Heap.size_push];exact Nat.ne_of_lt (Nat.lt_succ_of_lt lb)
     exact mv.heap b o (by simp only [List.mem_cons,List.mem_singleton,List.not_mem_nil,or_false,not_or];exact ⟨b1,b2⟩) (Heap.get?_push_of_some _ (Heap.get?_push_of_some _ e))
   ·cases r2 with
    | error e=>exact hr2
    | ok f2 =>
     cases f2 with
     | ret r =>
      obtain ⟨rfl,h',tk,rfl,hS2,hk2⟩:=hr2
      repeat (any_goals (first | assumption | wp_step))
      exact h _ _ hS2 hk2
     | _=>exact hr2.elim
  | _=>exact hr.elim
end
end L2
namespace L2
open PySem PySem.Spec PyProof.Rows
theorem bR:Slot "set_iterator" "__next__" "set_iterator.__next__" :=
 .of (owner:="set_iterator") (n:="__next__") (by rw [typeLookup_type,builtinLookup_eq_fast];kernel_rfl) (by decide +kernel) (by decide +kernel) (by decide +kernel)
  (by first | exact .inl (by decide +kernel) | exact .inr (by decide +kernel)) (by rw [isSubtype_type];kernel_rfl)
theorem lF:Slot "set_iterator" "__iter__" "set_iterator.__iter__" :=
 .of (owner:="set_iterator") (n:="__iter__") (by rw [typeLookup_type,builtinLookup_eq_fast];kernel_rfl) (by decide +kernel) (by decide +kernel) (by decide +kernel)
  (by first | exact .inl (by decide +kernel) | exact .inr (by decide +kernel)) (by rw [isSubtype_type];kernel_rfl)
theorem fM:entryFor table "set_iterator.__next__" = some Builtin.«set_iterator.__next__»:=entryFor_of_tree (by kernel_rfl)
theorem qK:entryFor table "set_iterator.__iter__" = some Builtin.«dict_keyiterator.__iter__» :=
 entryFor_alias (id':="dict_keyiterator.__iter__") (by kernel_rfl) rfl (by decide +kernel) (by kernel_rfl)
theorem sS:entryFor table "set.__iter__" = some Builtin.«frozenset.__iter__» :=
 entryFor_alias (id':="frozenset.__iter__") (by kernel_rfl) rfl (by decide +kernel) (by kernel_rfl)
theorem uS:Manifest.owners.lookup (String.ofList ['r','o','t','a','r','e','t','i','_','t','e','s'].reverse) = some Manifest.sig_set_iterator:=by kernel_rfl
theorem gG (a:Value):argsOk "set_iterator.__next__" ⟨[a],[]⟩:=by
 unfold argsOk;rw [signature?_of (id:="set_iterator.__next__") (n:=['_','_','t','x','e','n','_','_']) (o:=['r','o','t','a','r','e','t','i','_','t','e','s']) (by kernel_rfl) uS];kernel_rfl
theorem sT (a:Value):argsOk "set_iterator.__iter__" ⟨[a],[]⟩:=by
 unfold argsOk;rw [signature?_of (id:="set_iterator.__iter__") (n:=['_','_','r','e','t','i','_','_']) (o:=['r','o','t','a','r','e','t','i','_','t','e','s']) (by kernel_rfl) uS];kernel_rfl
def eT (h:Heap) (it:Addr) (f:Value) (i:Nat) (a:Addr) (n ep:Nat):Prop:=∃ o,h.get? it = some o ∧ o.cls = .type "set_iterator" ∧ o.data = .fields #[f,.int i 0,.ref a,.int n 0,.int ep 0]
theorem eT.typeIs {s:Shared} {it:Addr} {f:Value} {i:Nat} {a:Addr} {n ep:Nat} (x:eT s.heap it f i a n ep):s.TypeIs (.ref it) "set_iterator":=let ⟨o,ho,hc,_⟩:=x;⟨o,ho,hc⟩
theorem eT.at {h h':Heap} {it:Addr} {f:Value} {i:Nat} {a:Addr} {n ep:Nat} (x:eT h it f i a n ep) (e:∀ o,h.get? it = some o → h'.get? it = some o):eT h' it f i a n ep:=let ⟨o,ho,r⟩:=x;⟨o,e _ ho,r⟩
section
variable {P:Program} {w:World} {A:Around} {E:Value → Shared → Prop} {s:Shared} {it a:Addr} {o:Obj} {es:Array (Int × Value)} {ep:Nat} {t:SetTable}
theorem rP {sl i:Nat} {Q:Option (Value × Nat) → Shared → Prop} (hb:dD w = true) (ho:s.heap.get? a = some o) (hd:o.data = .set es ep t) (hf:t.fits es.size = true)
  (h:Q (((pickOrder (w.params.setOrder a ep) es)[i]?).map fun e=>(e.2,sl)) s):wpAny (model P w) A (setNext a sl i ep) Q E s:=by
 unfold setNext setsByText
 refine wpAny_bind (wpAny_setState_of ho hd hf ?_)
 refine wpAny_bind (wpAny_bind (wpAny_askSetting (wpAny_pure ?_)))
 show wpAny _ _ (if dD w = true then _ else _) _ _ s
 rw [if_pos hb]
 simp only [bne_self_eq_false,Bool.false_eq_true,if_false]
 refine wpAny_bind ?_
 unfold setWalk setsByText
 refine wpAny_bind (wpAny_setState_of ho hd hf ?_)
 refine wpAny_bind (wpAny_bind (wpAny_askSetting (wpAny_pure ?_)))
 show wpAny _ _ (if dD w = true then _ else _) _ _ s
 rw [if_pos hb]
 refine wpAny_bind (wpAny_askSetting ?_)
 refine wpAny_pure ?_
 exact wpAny_pure h
theorem pG {sl i:Nat} {Q:Option (Value × Nat) → Shared → Prop} (hb:dD w = false) (ho:s.heap.get? a = some o) (hd:o.data = .set es ep t) (hf:t.fits es.size = true)
  (hp:(!t.plain && decide (es.size > 1)) = false) (hl:t.led = true)
  (h:Q (match es[SetTable.below t.place sl]?,t.place[SetTable.below t.place sl]? with | some (_,x),some j=>some (x,j + 1) | _,_=>none) s):wpAny (model P w) A (setNext a sl i ep) Q E s:=by
 unfold setNext setsByText
 refine wpAny_bind (wpAny_setState_of ho hd hf ?_)
 refine wpAny_bind (wpAny_bind (wpAny_askSetting (wpAny_pure ?_)))
 show wpAny _ _ (if dD w = true then _ else _) _ _ s
 rw [if_neg (by rw [hb];exact Bool.false_ne_true)]
 show wpAny _ _ (if (!t.plain && decide (es.size > 1)) = true then _ else _) _ _ s
 rw [if_neg (by rw [hp];exact Bool.false_ne_true)]
 refine wpAny_bind (m:=if (!t.led && !es.isEmpty) = true then unsupported "set:maker-not-led" else pure ()) ?_
 rw [if_neg (by rw [hl];exact Bool.false_ne_true)]
 exact wpAny_pure (wpAny_pure h)
theorem yB {sl nx i:Nat} {x:Value} {Q:Option Value → Shared → Prop} (hit:eT s.heap it (.int sl 0) i a es.size ep) (ho:s.heap.get? a = some o) (hd:o.data = .set es ep t) (hf:t.fits es.size = true)
  (hn:∀ (A:Around) (Q':Option (Value × Nat) → Shared → Prop) (E:Value → Shared → Prop),Q' (some (x,nx)) s → wpAny (model P w) A (setNext a sl i ep) Q' E s)
  (hQ:∀ h',eT h' it (.int nx 0) (i + 1) a es.size ep → Heap.SameBut it s.heap h' → Q (some x) { s with heap:=h' }) :
  wpAny (model P w) A (pyNext (.ref it)) Q E s:=by
 obtain ⟨oi,hoi,hci,hdi⟩:=id hit
 unfold pyNext
 refine wpAny_bind (wpAny_attempt (wpAny_callSpecial?_slot (name:=Str.ofString "__next__") hit.typeIs bR
  (wpAny_call_entry bR hit.typeIs fM ?_ (gG _))))
 unfold Builtin.«set_iterator.__next__»
 refine wpAny_bind (wpAny_pure ?_)
 refine wpAny_bind (wpAny_fieldsOf hoi hdi ?_)
 show wpAny _ _ (setEntries a >>= _) _ _ s
 refine wpAny_bind (wpAny_setEntries_of ho hd hf ?_)
 simp only [bne_self_eq_false,Bool.false_eq_true,if_false]
 show wpAny _ _ (setNext a sl i ep >>= _) _ _ s
 refine wpAny_bind (hn _ _ _ ?_)
 show wpAny _ _ (setField (.ref it) 0 (rawInt nx) >>= _) _ _ s
 refine wpAny_bind (wpAny_setField hoi hdi (by simp) ?_)
 have h1:=Heap.get?_update_self (h:=s.heap) (Obj.mapFields (·.setIfInBounds 0 (rawInt nx))) hoi (Obj.isFreed_of_fields (Obj.data_mapFields hdi _))
 have d1:=Obj.data_mapFields hdi (·.setIfInBounds 0 (rawInt nx))
 refine wpAny_bind (wpAny_setField (s:={ s with heap:=s.heap.update it (Obj.mapFields (·.setIfInBounds 0 (rawInt nx))) }) h1 d1 (by simp) ?_)
 refine wpAny_pure ⟨_,rfl,wpAny_pure (hQ _ ⟨_,Heap.get?_update_self _ h1 (Obj.isFreed_of_fields (Obj.data_mapFields d1 _)),?_,?_⟩ ((Heap.SameBut.update ..).trans (Heap.SameBut.update ..)))⟩
 ·exact (Obj.cls_mapFields ..).trans ((Obj.cls_mapFields ..).trans hci)
 ·rw [Obj.data_mapFields d1];simp [rawInt]
theorem aBC {sl i:Nat} {Q:Option Value → Shared → Prop} (hh:A.handled = none) (hit:eT s.heap it (.int sl 0) i a es.size ep) (ho:s.heap.get? a = some o) (hd:o.data = .set es ep t) (hf:t.fits es.size = true)
  (hn:∀ (A:Around) (Q':Option (Value × Nat) → Shared → Prop) (E:Value → Shared → Prop),Q' none s → wpAny (model P w) A (setNext a sl i ep) Q' E s)
  (hQ:∀ h',Heap.ExtBut it s.heap h' → Q none { s with heap:=h' }) :
  wpAny (model P w) A (pyNext (.ref it)) Q E s:=by
 obtain ⟨oi,hoi,hci,hdi⟩:=id hit
 unfold pyNext
 refine wpAny_bind (wpAny_attempt (wpAny_callSpecial?_slot (name:=Str.ofString "__next__") hit.typeIs bR
  (wpAny_call_entry bR hit.typeIs fM ?_ (gG _))))
 unfold Builtin.«set_iterator.__next__»
 refine wpAny_bind (wpAny_pure ?_)
 refine wpAny_bind (wpAny_fieldsOf hoi hdi ?_)
 show wpAny _ _ (setEntries a >>= _) _ _ s
 refine wpAny_bind (wpAny_setEntries_of ho hd hf ?_)
 simp only [bne_self_eq_false,Bool.false_eq_true,if_false]
 show wpAny _ _ (setNext a sl i ep >>= _) _ _ s
 refine wpAny_bind (hn _ _ _ ?_)
 show wpAny _ _ (setField (.ref it) 2 .none >>= _) _ _ s
 refine wpAny_bind (wpAny_setField hoi hdi (by simp) ?_)
 refine wpAny_bind ?_
 simp only [newExc,newTuple]
 refine wpAny_bind (wpAny_newObj_type ?_ (by size_fits))
 refine wpAny_bind (m:=firstArgMember _ _) (wpAny_of_eq (a:=Value.none) (by first | rfl | (simp only [firstArgMember];rfl)) ?_)
 refine wpAny_newObj_type ?_ (by size_fits)
 simp only [raiseNew]
 refine wpAny_bind (wpAny_handled ?_)
 rw [show A.in1.handled = none from hh]
 refine wpAny_bind (wpAny_pure (wpAny_throw ?_))
 refine wpAny_bind (wpAny_isInstance (T:="StopIteration") (b:=true) ⟨_,Heap.get?_push_size _ rfl,rfl⟩ isSubtype_stop ?_)
 exact wpAny_pure (hQ _ (((Heap.SameBut.update ..).extBut.push _).push _))
end
end L2
namespace L2
open PySem PySem.Spec PyProof.Rows
theorem kQ {α:Type}:∀ {l:List α} {i:Nat} (h:i < l.length),(l[i] :: l.eraseIdx i).Perm l
 | [],i,h=>absurd h (Nat.not_lt_zero _)
 | x :: l,0,h=>List.Perm.refl _
 | x :: l,i + 1,h=>by
  have h':i < l.length:=by simpa using h
  have ih:=kQ (l:=l) (i:=i) h'
  show (l[i] :: x :: l.eraseIdx i).Perm (x :: l)
  exact (List.Perm.swap _ _ _).trans (List.Perm.cons _ ih)
theorem aDK {α:Type} (nx:Nat → Nat):∀ (fuel k:Nat) (left:List α) (out:Array α),left.length ≤ fuel → (pickOrder.go nx fuel k left out).toList.Perm (out.toList ++ left):=by
 intro fuel
 induction fuel with
 | zero =>
  intro k left out h
  obtain rfl:left = []:=by cases left <;> simp_all
  simp [pickOrder.go]
 | succ n ih =>
  intro k left out h
  unfold pickOrder.go
  cases e:left[nx k % left.length]? with
  | none =>
   have:left = []:=by
    cases left with
    | nil=>rfl
    | cons b r =>
     have:=List.getElem?_eq_none_iff.mp e
     have:=Nat.mod_lt (nx k) (show 0 < (b :: r).length by simp)
     omega
   subst this
   simp
  | some x =>
   dsimp only
   obtain ⟨hlt,rfl⟩:=List.getElem?_eq_some_iff.mp e
   refine (ih _ _ _ (by rw [List.length_eraseIdx];split <;> omega)).trans ?_
   rw [Array.toList_push,List.append_assoc]
   refine List.Perm.append_left _ ?_
   rw [List.singleton_append]
   exact kQ hlt
theorem lY {α:Type} (nx:Nat → Nat) (xs:Array α):(pickOrder nx xs).toList.Perm xs.toList:=by
 have:=aDK nx xs.size 0 xs.toList #[] (by simp)
 simpa [pickOrder] using this
section
variable {P:Program} {w:World} {A:Around} {E:Value → Shared → Prop} {s:Shared} {it a:Addr} {o:Obj} {es:Array (Int × Value)} {ep:Nat} {t:SetTable}
theorem sL {M:Model} {src:Source} {n:Nat} {Q:Nat → Shared → Prop} (hn:n ≠ 0) (h:∀ i d,i < n → Q i { s with drawn:=d }):wpAny M A (choose src n) Q E s :=
 fun Γ p _=>⟨hn,h _ _ (Nat.mod_lt _ (Nat.pos_of_ne_zero hn))⟩
theorem sC {M:Model} {α:Type}:∀ (n:Nat) (xs:List α) (s:Shared) {Q:List α → Shared → Prop},n = xs.length → (∀ ys d,ys.Perm xs → Q ys { s with drawn:=d }) → wpAny M A (drawOrder n xs) Q E s
 | 0,xs,s,Q,e,h=>by
  obtain rfl:xs = []:=by cases xs <;> simp_all
  exact wpAny_pure (by have:=h [] s.drawn (List.Perm.refl _);cases s;exact this)
 | n + 1,[],s,Q,e,h=>by simp at e
 | n + 1,y :: ys,s,Q,e,h=>by
  unfold drawOrder
  refine wpAny_bind (sL (by simp) fun i d hi=>?_)
  have ei:(y :: ys)[i]? = some (y :: ys)[i]:=List.getElem?_eq_getElem hi
  rw [ei]
  dsimp only
  refine wpAny_bind (sC n ((y :: ys).eraseIdx i) _ (by rw [List.length_eraseIdx,if_pos hi];simp at e ⊢;omega) fun zs d2 hp=>?_)
  refine wpAny_pure (h _ d2 ?_)
  exact (List.Perm.cons _ hp).trans (kQ hi)
theorem aBB {i pl:Nat} {tp:Addr} {ot:Obj} {ps:Array Value} {np:Nat} {x:Value} {hx:Int} {Q:Option Value → Shared → Prop} (hit:eT s.heap it (.ref tp) i a es.size ep) (ho:s.heap.get? a = some o) (hd:o.data = .set es ep t) (hf:t.fits es.size = true)
  (hot:s.heap.get? tp = some ot) (hdt:ot.data = .seq ps np) (hp:ps[i]? = some (.int pl 0)) (hx:es[pl]? = some (hx,x))
  (hQ:∀ h',eT h' it (.ref tp) (i + 1) a es.size ep → Heap.SameBut it s.heap h' → Q (some x) { s with heap:=h' }) :
  wpAny (model P w) A (pyNext (.ref it)) Q E s:=by
 obtain ⟨oi,hoi,hci,hdi⟩:=id hit
 unfold pyNext
 refine wpAny_bind (wpAny_attempt (wpAny_callSpecial?_slot (name:=Str.ofString "__next__") hit.typeIs bR
  (wpAny_call_entry bR hit.typeIs fM ?_ (gG _))))
 unfold Builtin.«set_iterator.__next__»
 refine wpAny_bind (wpAny_pure ?_)
 refine wpAny_bind (wpAny_fieldsOf hoi hdi ?_)
 show wpAny _ _ (setEntries a >>= _) _ _ s
 refine wpAny_bind (wpAny_setEntries_of ho hd hf ?_)
 simp only [bne_self_eq_false,Bool.false_eq_true,if_false]
 show wpAny _ _ (seqItems? (.ref tp) >>= _) _ _ s
 refine wpAny_bind (wpAny_seqItems hot hdt ?_)
 dsimp only
 rw [show (Int.toNat (i:Int)) = i from Int.toNat_natCast i,hp]
 show wpAny _ _ (setNextDrawn a pl ep >>= _) _ _ s
 refine wpAny_bind ?_
 unfold setNextDrawn
 refine wpAny_bind (wpAny_setState_of ho hd hf ?_)
 simp only [bne_self_eq_false,Bool.false_eq_true,if_false]
 rw [hx]
 refine wpAny_pure ?_
 refine wpAny_bind (wpAny_setField hoi hdi (by simp) ?_)
 refine wpAny_pure ⟨_,rfl,wpAny_pure (hQ _ ⟨_,Heap.get?_update_self _ hoi (Obj.isFreed_of_fields (Obj.data_mapFields hdi _)),?_,?_⟩ (Heap.SameBut.update ..))⟩
 ·exact (Obj.cls_mapFields ..).trans hci
 ·rw [Obj.data_mapFields hdi];simp [rawInt]
theorem aDF {i:Nat} {tp:Addr} {ot:Obj} {ps:Array Value} {np:Nat} {Q:Option Value → Shared → Prop} (hh:A.handled = none) (hit:eT s.heap it (.ref tp) i a es.size ep) (ho:s.heap.get? a = some o) (hd:o.data = .set es ep t) (hf:t.fits es.size = true)
  (hot:s.heap.get? tp = some ot) (hdt:ot.data = .seq ps np) (hp:ps[i]? = none)
  (hQ:∀ h',Heap.ExtBut it s.heap h' → Q none { s with heap:=h' }) :
  wpAny (model P w) A (pyNext (.ref it)) Q E s:=by
 obtain ⟨oi,hoi,hci,hdi⟩:=id hit
 unfold pyNext
 refine wpAny_bind (wpAny_attempt (wpAny_callSpecial?_slot (name:=Str.ofString "__next__") hit.typeIs bR
  (wpAny_call_entry bR hit.typeIs fM ?_ (gG _))))
 unfold Builtin.«set_iterator.__next__»
 refine wpAny_bind (wpAny_pure ?_)
 refine wpAny_bind (wpAny_fieldsOf hoi hdi ?_)
 show wpAny _ _ (setEntries a >>= _) _ _ s
 refine wpAny_bind (wpAny_setEntries_of ho hd hf ?_)
 simp only [bne_self_eq_false,Bool.false_eq_true,if_false]
 show wpAny _ _ (seqItems? (.ref tp) >>= _) _ _ s
 refine wpAny_bind (wpAny_seqItems hot hdt ?_)
 dsimp only
 rw [show (Int.toNat (i:Int)) = i from Int.toNat_natCast i,hp]
 dsimp only
 refine wpAny_bind (wpAny_setField hoi hdi (by simp) ?_)
 have h1:=Heap.get?_update_self (h:=s.heap) (Obj.mapFields (·.setIfInBounds 0 (rawInt 0))) hoi (Obj.isFreed_of_fields (Obj.data_mapFields hdi _))
 have d1:=Obj.data_mapFields hdi (·.setIfInBounds 0 (rawInt 0))
 refine wpAny_bind (wpAny_setField (s:={ s with heap:=s.heap.update it (Obj.mapFields (·.setIfInBounds 0 (rawInt 0))) }) h1 d1 (by simp) ?_)
 refine wpAny_bind ?_
 simp only [newExc,newTuple]
 refine wpAny_bind (wpAny_newObj_type ?_ (by size_fits))
 refine wpAny_bind (m:=firstArgMember _ _) (wpAny_of_eq (a:=Value.none) (by first | rfl | (simp only [firstArgMember];rfl)) ?_)
 refine wpAny_newObj_type ?_ (by size_fits)
 simp only [raiseNew]
 refine wpAny_bind (wpAny_handled ?_)
 rw [show A.in1.handled = none from hh]
 refine wpAny_bind (wpAny_pure (wpAny_throw ?_))
 refine wpAny_bind (wpAny_isInstance (T:="StopIteration") (b:=true) ⟨_,Heap.get?_push_size _ rfl,rfl⟩ isSubtype_stop ?_)
 exact wpAny_pure (hQ _ ((((Heap.SameBut.update ..).trans (Heap.SameBut.update ..)).extBut.push _).push _))
theorem sR {f:Value} {i n:Nat} {Q:Value → Shared → Prop} (hit:eT s.heap it f i a n ep) (h:Q (.ref it) s):wpAny (model P w) A (pyIter (.ref it)) Q E s:=by
 refine wpAny_pyIter_slot hit.typeIs lF (wpAny_call_entry lF hit.typeIs qK ?_ (sT _))
 show wpAny _ _ (ret (.ref it)) _ _ s
 exact wpAny_pure ⟨_,rfl,"set_iterator",_,hit.typeIs,bR.lookup,h⟩
theorem wB (hb:dD w = true) (hh:A.handled = none) (hne:a ≠ it) (hd:o.data = .set es ep t) (hf:t.fits es.size = true) :
  Walks P w A it [it,a] [it] es.size (fun i v=>((pickOrder (w.params.setOrder a ep) es).toList.map (·.2))[i]? = some v) (fun i h=>eT h it (.int 0 0) i a es.size ep ∧ h.get? a = some o) where
 sub:=fun b hb=>by simp at hb;simp [hb]
 frame:=fun _ _ _ st hk=>⟨st.1.at fun o e=>hk it (by simp) o e,hk a (by simp) _ st.2⟩
 item:=fun i s Q E hi st hQ=>by
  have hsz:(pickOrder (w.params.setOrder a ep) es).size = es.size:=by
   have:=(lY (w.params.setOrder a ep) es).length_eq;simpa using this
  have hlt:i < (pickOrder (w.params.setOrder a ep) es).size:=by omega
  have st1:eT s.heap it (.int (0:Nat) 0) i a es.size ep:=st.1
  refine yB (x:=(pickOrder (w.params.setOrder a ep) es)[i].2) (nx:=0) st1 st.2 hd hf (fun A' Q' E' h=>rP hb st.2 hd hf (by rw [Array.getElem?_eq_getElem hlt];exact h)) fun h' hit' hs'=>?_
  exact hQ _ h' s.toks (by simp [hlt]) ⟨hit',hs'.extBut _ _ hne st.2⟩ fun b o hb e=>hs'.extBut b o (fun h=>hb (by simp [h])) e
 done:=fun s Q E st hQ=>by
  have hsz:(pickOrder (w.params.setOrder a ep) es).size = es.size:=by
   have:=(lY (w.params.setOrder a ep) es).length_eq;simpa using this
  have st1:eT s.heap it (.int (0:Nat) 0) es.size a es.size ep:=st.1
  refine aBC hh st1 st.2 hd hf (fun A' Q' E' h=>rP hb st.2 hd hf (by rw [Array.getElem?_eq_none (by omega)];exact h)) fun h' he'=>?_
  exact hQ h' s.toks fun b o hb e=>he' b o (fun h=>hb (by simp [h])) e
 self:=fun _ _ _ _ st hQ=>sR st.1 hQ
def mR (t:SetTable) (i:Nat):Nat:=if i = 0 then 0 else t.place.toList.getD (i - 1) 0 + 1
theorem nE (r:Ris t) {i:Nat} (hi:i ≤ t.place.size):SetTable.below t.place (mR t i) = i:=by
 refine xM r.up hi (fun k hk=>?_) (fun k h1 h2=>?_)
 ·unfold mR
  rw [if_neg (by omega)]
  rcases Nat.lt_or_ge k (i - 1) with q | q
  ·have:=r.up k (i - 1) q (by simp;omega);omega
  ·obtain rfl:k = i - 1:=by omega
   omega
 ·unfold mR
  split
  ·omega
  ·have:=r.up (i - 1) k (by omega) (by simpa using h2);omega
theorem sB (hf:t.fits es.size = true):t.place.size = es.size:=by
 unfold SetTable.fits at hf
 simp at hf
 exact hf.1
theorem uD (hb:dD w = false) (hh:A.handled = none) (hne:a ≠ it) (hd:o.data = .set es ep t) (hf:t.fits es.size = true) (hp:(!t.plain && decide (es.size > 1)) = false) (hl:t.led = true) (r:Ris t) :
  Walks P w A it [it,a] [it] es.size (fun i v=>(es.toList.map (·.2))[i]? = some v) (fun i h=>eT h it (.int (mR t i) 0) i a es.size ep ∧ h.get? a = some o) where
 sub:=fun b hb=>by simp at hb;simp [hb]
 frame:=fun _ _ _ st hk=>⟨st.1.at fun o e=>hk it (by simp) o e,hk a (by simp) _ st.2⟩
 item:=fun i s Q E hi st hQ=>by
  have hsz:=sB hf
  have hlt:i < t.place.size:=by omega
  refine yB (x:=es[i].2) (nx:=mR t (i + 1)) st.1 st.2 hd hf (fun A' Q' E' h=>pG hb st.2 hd hf hp hl (by
   rw [nE r (by omega),Array.getElem?_eq_getElem hi,Array.getElem?_eq_getElem hlt]
   have e:mR t (i + 1) = t.place[i] + 1:=by
    unfold mR
    rw [if_neg (by omega)]
    simp [List.getD_eq_getElem?_getD,hlt]
   rw [e] at h
   exact h)) fun h' hit' hs'=>?_
  exact hQ _ h' s.toks (by simp [hi]) ⟨hit',hs'.extBut _ _ hne st.2⟩ fun b o hb e=>hs'.extBut b o (fun h=>hb (by simp [h])) e
 done:=fun s Q E st hQ=>by
  have hsz:=sB hf
  refine aBC hh st.1 st.2 hd hf (fun A' Q' E' h=>pG hb st.2 hd hf hp hl (by
   rw [nE r (by omega),Array.getElem?_eq_none (Nat.le_refl _)]
   exact h)) fun h' he'=>?_
  exact hQ h' s.toks fun b o hb e=>he' b o (fun h=>hb (by simp [h])) e
 self:=fun _ _ _ _ st hQ=>sR st.1 hQ
theorem uE {tp:Addr} {ot:Obj} {np:Nat} {ps:List Nat} (hh:A.handled = none) (hne:a ≠ it) (hnt:tp ≠ it) (hd:o.data = .set es ep t) (hf:t.fits es.size = true) (hdt:ot.data = .seq (ps.map fun (i:Nat)=>rawInt i).toArray np) (hps:ps.Perm (List.range es.size)) :
  Walks P w A it [it,a,tp] [it] es.size (fun i v=>(ps.map fun i=>(es.getD i (0,.none)).2)[i]? = some v) (fun i h=>eT h it (.ref tp) i a es.size ep ∧ h.get? a = some o ∧ h.get? tp = some ot) where
 sub:=fun b hb=>by simp at hb;simp [hb]
 frame:=fun _ _ _ st hk=>⟨st.1.at fun o e=>hk it (by simp) o e,hk a (by simp) _ st.2.1,hk tp (by simp) _ st.2.2⟩
 item:=fun i s Q E hi st hQ=>by
  have hl:ps.length = es.size:=by have:=hps.length_eq;simpa using this
  have hi2:i < ps.length:=by omega
  have hm:ps[i] < es.size:=by have:=hps.mem_iff.mp (List.getElem_mem hi2);simpa using this
  refine aBB (pl:=ps[i]) (x:=es[ps[i]].2) (hx:=es[ps[i]].1) st.1 st.2.1 hd hf st.2.2 hdt (by simp [hi2,rawInt]) (by rw [Array.getElem?_eq_getElem hm]) fun h' hit' hs'=>?_
  exact hQ _ h' s.toks (by simp [hi2,hm]) ⟨hit',hs'.extBut _ _ hne st.2.1,hs'.extBut _ _ hnt st.2.2⟩ fun b o hb e=>hs'.extBut b o (fun h=>hb (by simp [h])) e
 done:=fun s Q E st hQ=>by
  have hl:ps.length = es.size:=by have:=hps.length_eq;simpa using this
  refine aDF hh st.1 st.2.1 hd hf st.2.2 hdt (by simp [hl]) fun h' he'=>?_
  exact hQ h' s.toks fun b o hb e=>he' b o (fun h=>hb (by simp [h])) e
 self:=fun _ _ _ _ st hQ=>sR st.1 hQ
end
end L2
namespace L2
open PySem PySem.Spec PyProof.Rows
theorem pJ {α β:Type} (xs:Array α) (d:α) (f:α → β):((List.range xs.size).map fun i=>f (xs.getD i d)) = xs.toList.map f:=by
 apply List.ext_getElem
 ·simp
 ·intro i h1 h2
  have:i < xs.size:=by simpa using h1
  simp [this]
section
variable {P:Program} {w:World} {A:Around} {E:Value → Shared → Prop} {s:Shared} {a:Addr} {ks:List Key}
theorem aCQ {o:Obj} {es:Array (Int × Value)} {ep:Nat} {t:SetTable} {Q:Bool → Shared → Prop} (ho:s.heap.get? a = some o) (hd:o.data = .set es ep t) (hf:t.fits es.size = true)
  (h:Q (!(dD w) && (!t.plain && decide (es.size > 1))) s):wpAny (model P w) A (setDrawn a) Q E s:=by
 unfold setDrawn setsByText
 refine wpAny_bind (wpAny_setState_of ho hd hf ?_)
 refine wpAny_bind (wpAny_bind (wpAny_askSetting (wpAny_pure ?_)))
 exact wpAny_pure h
theorem vR {o:Obj} {es:Array (Int × Value)} {ep:Nat} {t:SetTable} {Q:Nat → Shared → Prop} (ho:s.heap.get? a = some o) (hd:o.data = .set es ep t) (hf:t.fits es.size = true)
  (h:Q ep s):wpAny (model P w) A (setEpoch a) Q E s:=by
 unfold setEpoch
 exact wpAny_bind (wpAny_setState_of ho hd hf (wpAny_pure h))
theorem aBE {Q:Value → Shared → Prop} (hS:fD P w s.heap a ks)
  (hQ:∀ (h1:Heap) (d1:Drawn) (I:Addr) (fp:List Addr) (St:Nat → Heap → Prop) (ord:List Value),s.heap.objs.size ≤ I → (∀ b o,s.heap.get? b = some o → h1.get? b = some o) → (∀ b ∈ fp,b = a ∨ s.heap.objs.size ≤ b) →
   (∀ A:Around,A.handled = none → Walks P w A I fp [I] ks.length (fun i v=>ord[i]? = some v) St) → St 0 h1 → (ord.map eQ).Perm ks → (∀ v ∈ ord,∃ k,(aI P w).is k v = true) → Q (.ref I) { s with heap:=h1,drawn:=d1 }) :
  wpAny (model P w) A (pyIter (.ref a)) Q E s:=by
 obtain ⟨o,es,ep,t,ho,hex,hd,hel,hp,hb,hf,hr,hl⟩:=hS
 have hT:s.TypeIs (.ref a) "set":=⟨o,ho,hex.1⟩
 have hlt:a < s.heap.objs.size:=Heap.lt_size ho
 have hn:es.size = ks.length:=fD.len (P:=P) (w:=w) (h:=s.heap) (a:=a) hp
 have keys:∀ (ord:List Value),ord.Perm (es.toList.map (·.2)) → (ord.map eQ).Perm ks ∧ ∀ v ∈ ord,∃ k,(aI P w).is k v = true:=by
  intro ord ho
  refine ⟨(ho.map eQ).trans (by rw [List.map_map];exact hp),fun v hv=>?_⟩
  obtain ⟨e,he,rfl⟩:=List.mem_map.mp (ho.mem_iff.mp hv)
  obtain ⟨⟨k,hk,_⟩,_⟩:=hel e he
  exact ⟨k,hk⟩
 refine wpAny_pyIter_slot hT PySem.F.slot_set_iter (wpAny_call_entry PySem.F.slot_set_iter hT sS ?_ (PySem.F.args_set_iter_1 _))
 unfold Builtin.«frozenset.__iter__» Builtin.Frozenset.slot0 slotArgs
 simp only [List.isEmpty_nil,Bool.not_true,Bool.false_eq_true,↓reduceIte,bind_assoc,List.length_nil,bne_self_eq_false]
 unfold Builtin.Frozenset.addrOf Builtin.Frozenset.sizeOf
 refine wpAny_bind (wpAny_pure ?_)
 try dsimp only
 refine wpAny_bind (wpAny_pure ?_)
 refine wpAny_bind (wpAny_bind (wpAny_setEntries_of ho hd hf (wpAny_pure ?_)))
 refine wpAny_bind (aCQ ho hd hf ?_)
 by_cases hdr:(!(dD w) && (!t.plain && decide (es.size > 1))) = true
 ·rw [if_pos hdr]
  refine wpAny_bind (sC es.size (List.range es.size) s (by simp) fun ps d hps=>?_)
  refine wpAny_bind (wpAny_newTuple ?_ (by rw [List.length_map,hps.length_eq,List.length_range];unfold scanBound at hb;rw [sizeLine_eq];omega))
  have ho1:(s.heap.push (seqObj "tuple" (ps.map fun (i:Nat)=>rawInt i).toArray 0)).get? a = some o:=Heap.get?_push_of_some _ ho
  refine wpAny_bind (vR (s:={ s with drawn:=d,heap:=s.heap.push (seqObj "tuple" (ps.map fun (i:Nat)=>rawInt i).toArray 0) }) ho1 hd hf ?_)
  refine wpAny_bind (wpAny_newObj_type (wpAny_pure ⟨_,rfl,"set_iterator",_,⟨_,Heap.get?_push_size _ rfl,rfl⟩,bR.lookup,?_⟩))
  have hord:(ps.map fun i=>(es.getD i (0,.none)).2).Perm (es.toList.map (·.2)):=by
   rw [← pJ es (0,Value.none) (·.2)]
   exact hps.map _
  obtain ⟨q1,q2⟩:=keys _ hord
  have sz:(s.heap.push (seqObj "tuple" (ps.map fun (i:Nat)=>rawInt i).toArray 0)).objs.size = s.heap.objs.size + 1:=by rw [Heap.size_push]
  refine hQ _ d (s.heap.push (seqObj "tuple" (ps.map fun (i:Nat)=>rawInt i).toArray 0)).objs.size [(s.heap.push (seqObj "tuple" (ps.map fun (i:Nat)=>rawInt i).toArray 0)).objs.size,a,s.heap.objs.size] (fun i h=>eT h (s.heap.push (seqObj "tuple" (ps.map fun (i:Nat)=>rawInt i).toArray 0)).objs.size (.ref s.heap.objs.size) i a es.size ep ∧ h.get? a = some o ∧ h.get? s.heap.objs.size = some (seqObj "tuple" (ps.map fun (i:Nat)=>rawInt i).toArray 0)) _ ?_ (fun b o e=>Heap.get?_push_of_some _ (Heap.get?_push_of_some _ e)) (fun b hb=>?_)
   (fun A' hA'=>by rw [← hn];exact uE hA' (Nat.ne_of_lt (by rw [sz];exact Nat.lt_succ_of_lt hlt)) (Nat.ne_of_lt (by rw [sz];exact Nat.lt_succ_self _)) hd hf rfl hps) ⟨⟨_,Heap.get?_push_size _ rfl,rfl,rfl⟩,Heap.get?_push_of_some _ ho1,Heap.get?_push_of_some _ (Heap.get?_push_size _ rfl)⟩ q1 q2
  ·rw [sz];omega
  ·simp only [List.mem_cons,List.not_mem_nil,or_false] at hb
   rcases hb with rfl | rfl | rfl
   ·right;rw [sz];omega
   ·exact .inl rfl
   ·right;omega
 ·rw [if_neg hdr]
  refine wpAny_bind (wpAny_pure ?_)
  refine wpAny_bind (vR ho hd hf ?_)
  refine wpAny_bind (wpAny_newObj_type (wpAny_pure ⟨_,rfl,"set_iterator",_,⟨_,Heap.get?_push_size _ rfl,rfl⟩,bR.lookup,?_⟩))
  have es0:s = { s with drawn:=s.drawn }:=by cases s;rfl
  by_cases htx:dD w = true
  ·obtain ⟨q1,q2⟩:=keys _ ((lY (w.params.setOrder a ep) es).map (·.2))
   refine hQ _ s.drawn s.heap.objs.size [s.heap.objs.size,a] (fun i h=>eT h s.heap.objs.size (.int 0 0) i a es.size ep ∧ h.get? a = some o) _ (Nat.le_refl _) (fun b o e=>Heap.get?_push_of_some _ e) (fun b hb=>?_)
    (fun A' hA'=>by rw [← hn];exact wB htx hA' (Nat.ne_of_lt hlt) hd hf) ⟨⟨_,Heap.get?_push_size _ rfl,rfl,rfl⟩,Heap.get?_push_of_some _ ho⟩ q1 q2
   simp only [List.mem_cons,List.not_mem_nil,or_false] at hb
   rcases hb with rfl | rfl
   ·right;omega
   ·exact .inl rfl
  ·have htx':dD w = false:=by simpa using htx
   obtain ⟨q1,q2⟩:=keys _ (List.Perm.refl _)
   refine hQ _ s.drawn s.heap.objs.size [s.heap.objs.size,a] (fun i h=>eT h s.heap.objs.size (.int (mR t i) 0) i a es.size ep ∧ h.get? a = some o) _ (Nat.le_refl _) (fun b o e=>Heap.get?_push_of_some _ e) (fun b hb=>?_)
    (fun A' hA'=>by rw [← hn];exact uD htx' hA' (Nat.ne_of_lt hlt) hd hf (by rw [htx'] at hdr;simpa using hdr) (hl.resolve_left htx) hr) ⟨⟨_,Heap.get?_push_size _ rfl,rfl,rfl⟩,Heap.get?_push_of_some _ ho⟩ q1 q2
   simp only [List.mem_cons,List.not_mem_nil,or_false] at hb
   rcases hb with rfl | rfl
   ·right;omega
   ·exact .inl rfl
theorem aBF {Q:Bool → Shared → Prop} (hT:s.TypeIs (.ref a) "set") (h:Q false s):wpAny (model P w) A (Builtin.List.listLengthHint (.ref a)) Q E s:=by
 unfold Builtin.List.listLengthHint
 refine wpAny_bind (wpAny_specialOf hT PySem.F.slot_set_len.lookup ?_)
 generalize hid:("set.__len__":String) = id0
 wp_delta
 rw [show splitId id0 = some ("set","__len__") from by subst hid;decide +kernel]
 subst hid
 refine wpAny_bind (wpAny_isInstance (T:="set") (b:=true) hT (by rw [isSubtype_type];kernel_rfl) ?_)
 refine wpAny_ite_split (fun hab=>absurd hab (by decide)) (fun _=>?_)
 refine wpAny_ite_split (fun _=>?_) (fun hab=>absurd (by decide +kernel) hab)
 refine wpAny_bind (wpAny_typeOf hT ?_)
 exact wpAny_pure h
theorem fD.at {h h':Heap} (x:fD P w h a ks) (e:∀ o,h.get? a = some o → h'.get? a = some o):fD P w h' a ks:=let ⟨o,es,ep,t,ho,r⟩:=x;⟨o,es,ep,t,e _ ho,r⟩
theorem fD.typeIs (x:fD P w s.heap a ks):s.TypeIs (.ref a) "set":=let ⟨o,es,ep,t,ho,hex,r⟩:=x;⟨o,ho,hex.1⟩
theorem fD.small (x:fD P w s.heap a ks):ks.length < scanBound:=let ⟨o,es,ep,t,ho,hex,hd,hel,hp,hb,r⟩:=x;by rw [← fD.len (P:=P) (w:=w) (h:=s.heap) (a:=a) hp];exact hb
theorem xC {ord:List Value} {acc:Array Value} {n:Nat} (hn:ord.length = n) (x:ItemsOf (fun i v=>ord[i]? = some v) acc n):acc.toList = ord:=by
 apply List.ext_getElem
 ·rw [Array.length_toList,x.1,hn]
 ·intro i h1 h2
  have h3:i < acc.size:=by simpa using h1
  have:=x.2 i acc[i] (by simp [h3])
  dsimp only at this
  rw [List.getElem?_eq_getElem h2] at this
  simpa using (Option.some.inj this).symm
theorem wI {R:Result → Shared → Prop} (hh:A.handled = none) (hS:fD P w s.heap a ks) (S:Addr) (hSa:S ≠ a) (res:Value) (c₀:Nat) (hL:s.heap.get? S = some { cls:=.type "list",data:=.seq #[] c₀ })
  (hR:∀ h' tk d acc' c',(∀ b o,b ≠ S → s.heap.get? b = some o → h'.get? b = some o) → h'.get? S = some { cls:=.type "list",dict:=none,data:=.seq acc' c',slots:=#[] } → (acc'.toList.map eQ).Perm ks → (∀ v ∈ acc'.toList,∃ k,(aI P w).is k v = true) → R (.ok (.ret res)) { s with heap:=h',toks:=tk,drawn:=d }) :
  wpAny (model P w) A.in1 (Builtin.List.listExtendWith (.ref S) (.ref a) res)
   (fun fin s'=>match fin with | .done f=>R (.ok f) s' | .again c'=>c'.quiet = true ∧ codeAny (model P w) A c' R s') (fun e s'=>R (.error e) s') s:=by
 have hlt:S < s.heap.objs.size:=Heap.lt_size hL
 have hn:ks.length ≤ sizeLine:=by have:=hS.small;unfold scanBound at this;rw [sizeLine_eq];omega
 unfold Builtin.List.listExtendWith
 refine wpAny_bind (wpAny_typeOf (T:="set") hS.typeIs ?_)
 have h1:Builtin.List.listSameRef (.ref S) (.ref a) = false:=by simp [Builtin.List.listSameRef,hSa]
 have h2:(Value.type "set" == Value.type "list") = false:=by decide
 have h3:(Value.type "set" == Value.type "tuple") = false:=by decide
 simp only [h1,h2,h3,Bool.or_false,Bool.false_eq_true,if_false]
 refine wpAny_bind (aBE hS fun h1 d1 I fp St ord hI hk hfp W st q1 q2=>?_)
 have hSf:S ∉ fp:=fun h=>by
  rcases hfp _ h with e | e
  ·exact hSa e
  ·exact absurd hlt (Nat.not_lt.mpr e)
 have hord:ord.length = ks.length:=by have:=q1.length_eq;rwa [List.length_map] at this
 have key:∀ (h:Heap) (c₁ tk:Nat),St 0 h → (∀ b o,b ≠ S → s.heap.get? b = some o → h.get? b = some o) →
   h.get? S = some { cls:=.type "list",data:=.seq #[] c₁ } → codeAny (model P w) A (.builtin "list.extend.loop" ⟨[.ref S,.ref I,res],[]⟩) R { s with heap:=h,toks:=tk,drawn:=d1 }:=by
  intro h c₁ tk hst hk hS₁
  refine codeAny_extend_loopS (W A.in1 hh).toS hn S hSf res ks.length 0 _ #[] c₁ rfl (Nat.zero_le _) hst hS₁ (ItemsOf.nil _) fun s' acc' c' hm hS' hacc=>?_
  rw [Moved.eq_with hm]
  have e:=xC hord hacc
  refine hR s'.heap s'.toks d1 acc' c' (fun b o hb e=>hm.heap b o (fun hmem=>?_) (hk b o hb e)) hS' (by rw [e];exact q1) (by rw [e];exact q2)
  rcases List.mem_cons.mp hmem with e' | hmem
  ·exact hb e'
  ·have:=Heap.lt_size e
   rw [List.mem_singleton.mp hmem] at this
   exact absurd this (Nat.not_lt.mpr hI)
 have hS₁:=hk _ _ hL
 refine wpAny_bind (wpAny_holding (aBF (s:={ s with heap:=h1,drawn:=d1 }) (fD.typeIs (s:={ s with heap:=h1,drawn:=d1 }) (hS.at fun o e=>hk _ _ e)) ?_))
 refine wpAny_ite_split (fun _=>?_) (fun _=>wpAny_pure ⟨plainId_quiet PySem.F.plain_extend_loop _,key _ c₀ _ st (fun b o _ e=>hk b o e) hS₁⟩)
 refine wpAny_bind (wpAny_rule ?_)
 refine wpAny_bind ?_
 show wpAny _ _ (updateSeq S (·.push .none) >>= fun _=>updateSeq S (·.pop)) _ _ _
 refine wpAny_bind (wpAny_updateSeq hS₁ rfl ?_)
 have hS₂:=Heap.get?_update_self (Obj.mapSeq (·.push Value.none)) hS₁ rfl
 refine wpAny_updateSeq (hz:=by seq_fits) hS₂ rfl ?_
 have hS₃:=Heap.get?_update_self (Obj.mapSeq (·.pop)) hS₂ rfl
 refine wpAny_pure ⟨plainId_quiet PySem.F.plain_extend_loop _,key _ _ _ ?_ (fun b o hb e=>?_) hS₃⟩
 ·refine (W A.in1 hh).frame 0 _ _ st fun b hb o e=>?_
  have hbS:b ≠ S:=fun h=>hSf (h ▸ hb)
  exact (Heap.get?_update_other _ _ (Ne.symm hbS)).trans ((Heap.get?_update_other _ _ (Ne.symm hbS)).trans e)
 ·exact (Heap.get?_update_other _ _ (Ne.symm hb)).trans ((Heap.get?_update_other _ _ (Ne.symm hb)).trans (hk _ _ e))
theorem uU {R:List Value → Shared → Prop} (hh:A.handled = none) (hS:fD P w s.heap a ks)
  (h:∀ (h':Heap) (tk:Nat) (d:Drawn) (acc:List Value),s.heap.objs.size ≤ h'.objs.size → (∀ b o,s.heap.get? b = some o → h'.get? b = some o) → (acc.map eQ).Perm ks → (∀ v ∈ acc,∃ k,(aI P w).is k v = true) → R acc { s with heap:=h',toks:=tk,drawn:=d }) :
  wpAny (model P w) A (collect (.ref a)) R E s:=by
 have hlt:a < s.heap.objs.size:=let ⟨o,_,_,_,ho,_⟩:=hS;Heap.lt_size ho
 unfold collect
 refine wpAny_bind (wpAny_runValue (codeAny_builtin entry_proto_collect' ?_))
 rw [Around.under_plainId PySem.F.plain_proto_collect _]
 show wpAny _ A.in1 (newList [] >>= fun l=>again (.builtin "list.__iadd__" ⟨[l,.ref a],[]⟩)) _ _ s
 refine wpAny_bind (wpAny_newObj_type ?_)
 refine wpAny_pure ⟨plainId_quiet PySem.F.plain_list_iadd _,codeAny_builtin entry_list_iadd' ?_⟩
 rw [Around.under_plainId PySem.F.plain_list_iadd _]
 have hS₁:(s.heap.push { cls:=.type "list",data:=.seq ([]:List Value).toArray }).get? s.heap.objs.size = some { cls:=.type "list",data:=.seq #[] }:=Heap.get?_push_size _ rfl
 show wpAny _ A.in1 (Builtin.List.listExtendWith (.ref s.heap.objs.size) (.ref a) (.ref s.heap.objs.size)) _ _ _
 have key:=wI (A:=A) (s:={ s with heap:=s.heap.push { cls:=.type "list",data:=.seq ([]:List Value).toArray } })
  (R:=fun (q:Result) (s':Shared)=>∃ (h':Heap) (tk:Nat) (d:Drawn) (acc':Array Value) (c':Nat),q = .ok (.ret (.ref s.heap.objs.size)) ∧ s' = { s with heap:=h',toks:=tk,drawn:=d } ∧
   (∀ b o,s.heap.get? b = some o → h'.get? b = some o) ∧ h'.get? s.heap.objs.size = some { cls:=.type "list",dict:=none,data:=.seq acc' c',slots:=#[] } ∧ (acc'.toList.map eQ).Perm ks ∧ (∀ v ∈ acc'.toList,∃ k,(aI P w).is k v = true))
  hh (hS.at fun o e=>Heap.get?_push_of_some _ e) s.heap.objs.size (Nat.ne_of_gt hlt) (.ref s.heap.objs.size) 0 hS₁
  (fun h' tk d acc' c' hk hS' q1 q2=>⟨h',tk,d,acc',c',rfl,rfl,fun b o e=>hk b o (Nat.ne_of_lt (Heap.lt_size e)) (Heap.get?_push_of_some _ e),hS',q1,q2⟩)
 refine wpAny_mono key (fun fin s' x=>?_) fun e s' x=>?_
 ·cases fin with
  | done f =>
   obtain ⟨h',tk,d,acc',c',e,rfl,hk,hS',q1,q2⟩:=x
   cases e
   show wpAny _ A (load s.heap.objs.size >>= _) _ _ _
   refine wpAny_bind (wpAny_load hS' ?_)
   exact wpAny_pure (h h' tk d acc'.toList (Nat.le_of_lt (Heap.lt_size hS')) hk q1 q2)
  | again c₁ =>
   refine ⟨x.1,codeAny_mono x.2 fun q s₂ y=>?_⟩
   obtain ⟨h',tk,d,acc',c',rfl,rfl,hk,hS',q1,q2⟩:=y
   show wpAny _ A (load s.heap.objs.size >>= _) _ _ _
   refine wpAny_bind (wpAny_load hS' ?_)
   exact wpAny_pure (h h' tk d acc'.toList (Nat.le_of_lt (Heap.lt_size hS')) hk q1 q2)
 ·obtain ⟨_,_,_,_,_,e',_⟩:=x
  cases e'
end
end L2
namespace L2
open PySem PySem.Spec PyProof.Rows
def aCY (P:Program) (w:World) (a:Addr) (ks:List Key):HO:=.ext fun h=>fD P w h a ks
theorem aCY.ok {P:Program} {w:World} {H:Hp} {h:Heap} {a:Addr} {ks:List Key} (x:fD P w h a ks):bX P w H h a (aCY P w a ks) :=
 ⟨x,let ⟨o,_,_,_,ho,_⟩:=x;⟨o,ho⟩,fun _ _ ⟨o,es,ep,t,ho,r⟩ k=>⟨o,es,ep,t,k o ho,r⟩⟩
theorem tY:bootBuiltins "sorted" = some (.builtin "sorted"):=by decide +kernel
theorem aDB {us:List Value} {ns:List Int} (h:IntsAre us ns):bC (ns.map V.int) us:=by
 induction h with
 | nil=>exact .nil
 | cons n t _ ih=>exact .cons ⟨t,rfl⟩ ih
section
variable {X:Cx} {pins:List (Addr × Obj)} {σ:List (Option V)} {H:Hp} {s:Shared}
theorem Inv.drawn (I:Inv X pins σ H s) (d:Drawn):Inv X pins σ H { s with drawn:=d }:=⟨I.ok,I.os,I.bare,I.base,I.loc,I.cell,I.free,I.freeC,I.pin,I.hok,I.len⟩
theorem qF (hc:X.calm = true):eJ X (.type "set") (fun xs H Q=>∃ (p:Addr) (ks:List Key),xs = [.ref p] ∧ SqL X.K H p (ks.map kV) ∧ ks.length ≤ 1000 ∧
  ∀ l,H l = none → Q (.ref l) (upd H l (aCY X.prog X.w l (jS ks)))):=by
 intro pins s σ H xs us Q I r h
 obtain ⟨p,ks,rfl,hq,hn,q⟩:=h
 obtain ⟨u,rfl,ru⟩:=bC.one r
 cases ru
 obtain ⟨its,rv,pl,hz⟩:=I.list hq
 have hlen:=rv.length
 rw [List.length_map] at hlen
 refine sU (ks:=ks) (I.ok.hd hc) pl.isList (tL rv) hlen.symm (by unfold scanBound;omega) fun h' tk hS hk=>?_
 exact ⟨.ref s.heap.objs.size,_,I.laid (t':=tk) hk (Nat.le_refl _) (aCY.ok hS),rfl,q _ (I.hok.fresh (Nat.le_refl _))⟩
theorem yL {P:Program} {w:World}:∀ (acc:List Value),(∀ v ∈ acc,∃ k,(aI P w).is k v = true) → (∀ k ∈ acc.map eQ,∃ n,k = Sum.inl n) → ∃ ns:List Int,IntsAre acc ns ∧ acc.map eQ = ns.map Sum.inl
 | [],_,_=>⟨[],.nil,rfl⟩
 | v :: acc,h1,h2=>by
  obtain ⟨ns,a,b⟩:=yL acc (fun v hv=>h1 v (List.mem_cons_of_mem _ hv)) (fun k hk=>h2 k (by rw [List.map_cons];exact List.mem_cons_of_mem _ hk))
  obtain ⟨k,hk⟩:=h1 v List.mem_cons_self
  obtain ⟨n,hn⟩:=h2 (eQ v) (by rw [List.map_cons];exact List.mem_cons_self)
  have e:=kE hk
  rw [hn] at e
  subst e
  have hk':mX (.inl n) v = true:=hk
  rcases bO hk' with ⟨i,t,e1,rfl⟩ | ⟨x,t,e1,rfl⟩
  ·cases e1
   exact ⟨n :: ns,IntsAre.cons _ t a,by rw [List.map_cons,List.map_cons,b];rfl⟩
  ·cases e1
theorem aCD {a b:List Int} (h:(a.map (Sum.inl:Int → Key)).Perm (b.map Sum.inl)):a.Perm b:=by
 have:=h.map (fun k:Key=>match k with | .inl n=>n | .inr _=>0)
 simpa [List.map_map,Function.comp_def] using this
theorem nQ (hc:X.calm = true):eJ X (.builtin "sorted") (fun xs H Q=>∃ (l:Addr) (ns:List Int),xs = [.ref l] ∧ H l = some (aCY X.prog X.w l (ns.map Sum.inl)) ∧ ns.length < 64 ∧
  ∀ (r:Addr) (ns':List Int),ns'.Perm ns → ns'.Pairwise (· ≤ ·) → H r = none → Q (.ref r) (upd H r (.lst (ns'.map V.int)))):=by
 intro pins s σ H xs us Q I r h
 obtain ⟨l,ns,rfl,hq,hn,q⟩:=h
 obtain ⟨u,rfl,ru⟩:=bC.one r
 cases ru
 obtain ⟨hS,_⟩:=I.hok l _ hq
 refine Calls.call_function_entry kind_sorted plain_sorted entry_sorted (args_sorted1 _) ?_
 unfold Builtin.«sorted»
 refine wpAny_bind (m:=checkCount "sorted" 1 1 _) (wpAny_pure ?_)
 refine wpAny_bind (uU (by simp [I.ok.hd hc]) hS fun h' tk d acc hge hk q1 q2=>?_)
 obtain ⟨ms,im,em⟩:=yL acc q2 (fun k hk=>by
  obtain ⟨n,_,rfl⟩:=List.mem_map.mp (q1.mem_iff.mp hk)
  exact ⟨n,rfl⟩)
 rw [em] at q1
 have pm:=aCD q1
 have hlen:acc.length = ns.length:=by
  have:=congrArg List.length em
  rw [List.length_map,List.length_map] at this
  rw [this,pm.length_eq]
 refine wpAny_bind (wpAny_newList ?_ (by rw [hlen,sizeLine_eq];omega))
 have hoL:(h'.push (seqObj "list" acc.toArray 0)).get? h'.objs.size = some (seqObj "list" acc.toArray 0):=Heap.get?_push_size _ rfl
 refine wpAny_bind (wpAny_holding (wpAny_call_entry slot_list_sort ⟨_,hoL,rfl⟩ entry_list_sort (list_sort_tree hoL im (by omega) fun out ns' a1 a2 a3=>⟨_,rfl,?_⟩) (args_list_sort _)))
 refine wpAny_pure ⟨_,rfl,?_⟩
 have g1:=get?_update_seq hoL (fun _=>#[])
 have g2:=get?_update_seq (Heap.get?_push_of_some (seqObj "list" #[] 0) (Heap.get?_push_of_some (seqObj "tuple" acc.toArray 0) g1)) (fun _=>out)
 refine ⟨.ref h'.objs.size,_,(I.drawn d).laid (t':=tk) (h':=sortedHeap (h'.push (seqObj "list" acc.toArray 0)) h'.objs.size acc out) (fun b o e=>?_) hge (show bX X.prog X.w _ _ _ (.lst (ns'.map V.int)) from ⟨?_,out.toList,_,aDB a1,g2⟩),rfl,q _ ns' (a2.trans pm) a3 (I.hok.fresh hge)⟩
 ·have lt:=Heap.lt_size e
  have n1:b ≠ h'.objs.size:=Nat.ne_of_lt (Nat.lt_of_lt_of_le lt hge)
  unfold sortedHeap
  rw [Heap.get?_update_other _ _ (Ne.symm n1)]
  refine Heap.get?_push_of_some _ (Heap.get?_push_of_some _ ?_)
  rw [Heap.get?_update_other _ _ (Ne.symm n1)]
  exact Heap.get?_push_of_some _ (hk _ _ e)
 ·rw [List.length_map,a2.length_eq,pm.length_eq,sizeLine_eq];omega
end
end L2
namespace Ld
open PySem L2
def eA (c:Nat):Bool:=decide (97 ≤ c) && decide (c ≤ 122)
def dN (z:Str):Bool:=decide (1 ≤ z.length) && decide (z.length ≤ 8) && !decide (z = "sea") && z.cps.toList.all eA
def isInt:Dv → Bool
 | .int _=>true
 | _=>false
def aCB:Dv → Bool
 | .bl _=>true
 | _=>false
def aHF:Dv → Bool
 | .str _=>true
 | _=>false
def aHG:Dv → Bool
 | .lst _=>true
 | _=>false
def aHE:Dv → Bool
 | .tup _=>true
 | _=>false
def aAR (n:Int):Dv → Bool
 | .tup ds=>decide ((ds.length:Int) = n)
 | _=>false
def aHA (n:Int):Dv → Bool
 | .lst ds=>decide (1 ≤ ds.length) && decide ((ds.length:Int) ≤ n)
 | _=>false
def lA:Dv → Bool
 | .str z=>dN z
 | _=>false
def hgt (i:Int):Bool:=decide (-1000000 ≤ i) && decide (i ≤ 1000000)
def amt (i:Int):Bool:=decide (0 ≤ i) && decide (i ≤ 1000000)
def hG:Dv → Bool
 | .int i=>hgt i
 | _=>false
def iJ:Dv → Bool
 | .int i=>amt i
 | _=>false
def mU (zs:List Str):Dv → Bool
 | .str z=>decide (z ∈ zs)
 | _=>false
def cK:Dv → Option Str
 | .tup (.str z :: _)=>some z
 | _=>none
def bL:Dv → Bool
 | .tup [a,b,c]=>lA a && (hG b && iJ c)
 | _=>false
def iN:Dv → Bool
 | .lst ds=>(decide (1 ≤ ds.length) && decide (ds.length ≤ 12)) && (ds.all bL && decide ((ds.map cK).Nodup))
 | _=>false
def jU (zs:List Str) (a b:Dv):Bool:=mU zs a && (mU zs b && !deq a b)
def iS (c:Dv):Dv → Bool
 | .non=>true
 | .int i=>hgt i && (match c with | .int j=>decide (i < j) | _=>false)
 | _=>false
def cJ (zs:List Str):Dv → Bool
 | .tup [n,a,b,c,r,s]=>lA n && jU zs a b && (hG c && (iJ r && iS c s))
 | _=>false
def jV (zs:List Str):Dv → Bool
 | .lst ds=>(decide (1 ≤ ds.length) && decide (ds.length ≤ 40)) && (ds.all (cJ zs) && decide ((ds.map cK).Nodup))
 | _=>false
mutual
def small:Dv → Bool
 | .str z=>decide (z.length ≤ 1000)
 | .lst ds=>decide (ds.length ≤ 1000) && gA ds
 | .tup ds=>decide (ds.length ≤ 1000) && gA ds
 | _=>true
def gA:List Dv → Bool
 | []=>true
 | d :: ds=>small d && gA ds
end
theorem gM:∀ {ds:List Dv} {d:Dv},gA ds = true → d ∈ ds → small d = true
 | [],_,_,m=>by cases m
 | e :: ds,d,f,m=>by
  rw [gA,Bool.and_eq_true] at f
  rcases List.mem_cons.mp m with rfl | m
  ·exact f.1
  ·exact gM f.2 m
theorem rF {ds:List Dv} (h:small (.tup ds) = true):gA ds = true:=(Bool.and_eq_true_iff.mp (show (decide (ds.length ≤ 1000) && gA ds) = true from h)).2
theorem mQ (K:PySem.W.Frag) {H:Hp} {d:Dv} {x:V} (h:Is H d x):∃ t,TyOf K H x t ∧ PySem.W.kitOne K t (.type "int") = some (isInt d || aCB d) ∧ PySem.W.kitOne K t (.type "bool") = some (aCB d) ∧
  PySem.W.kitOne K t (.type "str") = some (aHF d) ∧ PySem.W.kitOne K t (.type "list") = some (aHG d) ∧ PySem.W.kitOne K t (.type "tuple") = some (aHE d):=by
 cases d with
 | non=>cases (show x = .non from h);exact ⟨_,.non,rfl,rfl,rfl,rfl,rfl⟩
 | bl b=>cases (show x = .bl b from h);exact ⟨_,.bl b,rfl,hE _ _,rfl,rfl,rfl⟩
 | int i=>cases (show x = .int i from h);exact ⟨_,.int i,hE _ _,rfl,rfl,rfl,rfl⟩
 | str z=>cases (show x = .str z from h);exact ⟨_,.str z,rfl,rfl,hE _ _,rfl,rfl⟩
 | lst ds=>obtain ⟨a,vs,rfl,e,_⟩:=h;exact ⟨_,.lst e,rfl,rfl,rfl,hE _ _,rfl⟩
 | tup ds=>obtain ⟨a,vs,rfl,e,_⟩:=h;exact ⟨_,.tup e,rfl,rfl,rfl,rfl,hE _ _⟩
 | dct ks ds=>obtain ⟨a,vs,rfl,e,_⟩:=h;exact ⟨_,.dK e,rfl,rfl,rfl,rfl,rfl⟩
theorem tJ:("abcdefghijklmnopqrstuvwxyz":Str).cps.toList = [97,98,99,100,101,102,103,104,105,106,107,108,109,110,111,112,113,114,115,116,117,118,119,120,121,122]:=by decide +kernel
theorem xE (c:Nat):(!(Builtin.Str.occurrences ("abcdefghijklmnopqrstuvwxyz":Str) ⟨#[c]⟩ 0 ("abcdefghijklmnopqrstuvwxyz":Str).length 1).isEmpty) = eA c:=by
 rw [PySem.StrLaws.found_one,tJ]
 have h1:∀ d,d ∈ ([97,98,99,100,101,102,103,104,105,106,107,108,109,110,111,112,113,114,115,116,117,118,119,120,121,122]:List Nat) → 97 ≤ d ∧ d ≤ 122:=by decide
 have h2:∀ k,k < 26 → (97 + k) ∈ ([97,98,99,100,101,102,103,104,105,106,107,108,109,110,111,112,113,114,115,116,117,118,119,120,121,122]:List Nat):=by decide
 unfold eA
 by_cases h:97 ≤ c ∧ c ≤ 122
 ·have e:=h2 (c - 97) (by omega)
  rw [show 97 + (c - 97) = c by omega] at e
  rw [decide_eq_true e,decide_eq_true h.1,decide_eq_true h.2]
  rfl
 ·have e:¬ c ∈ ([97,98,99,100,101,102,103,104,105,106,107,108,109,110,111,112,113,114,115,116,117,118,119,120,121,122]:List Nat):=fun m=>h (h1 c m)
  rw [decide_eq_false e]
  by_cases h':97 ≤ c
  ·rw [decide_eq_true h',decide_eq_false (fun z=>h ⟨h',z⟩)]
   rfl
  ·rw [decide_eq_false h']
   rfl
def aJ (d:Dv):Str:=(cK d).getD ""
def hX (d:Dv):Key:=.inr (aJ d)
theorem aCM {d:Dv} {z:Str} (h:cK d = some z):aJ d = z:=by unfold aJ;rw [h];rfl
def lR (d1 d2:Addr):List (Str × V):=gH "dyke_rows" (.ref d2) (gH "field_rows" (.ref d1) [])
theorem aHM:¬ (("field_rows":Str) = "dyke_rows"):=by decide +kernel
theorem yK (d1 d2:Addr):(lR d1 d2).lookup ("field_rows":Str) = some (.ref d1):=by
 unfold lR
 rw [dW,if_neg aHM,dW,if_pos rfl]
theorem aDZ (d1 d2:Addr):(lR d1 d2).lookup ("dyke_rows":Str) = some (.ref d2):=by
 unfold lR
 rw [dW,if_pos rfl]
theorem gZ (d1 d2:Addr) {m:Str} (h1:¬ m = "dyke_rows") (h2:¬ m = "field_rows"):(lR d1 d2).lookup m = none:=by
 unfold lR
 rw [dW,if_neg h1,dW,if_neg h2]
 all_goals rfl
def vZ (H:Hp) (a:Addr) (ds:List Dv):Prop:=∃ kvs,H a = some (.dK kvs) ∧ kvs.map (·.1) = ds.map hX ∧ IsL H ds (kvs.map (·.2))
theorem vZ.same {H H':Hp} (S:aM H H') {a:Addr} {ds:List Dv} (h:vZ H a ds):vZ H' a ds:=by
 obtain ⟨kvs,e,k,i⟩:=h
 exact ⟨kvs,S _ _ e,k,IsL.same S _ _ i⟩
structure LandAt (C:Addr) (H:Hp) (x:Addr) (fs ds:List Dv):Prop where
 ex:∃ dx d1 d2,H x = some (.ins C dx (lR d1 d2)) ∧ vZ H d1 fs ∧ vZ H d2 ds
 okf:iN (.lst fs) = true
 okd:jV ("sea" :: fs.map aJ) (.lst ds) = true
theorem LandAt.same {C:Addr} {H H':Hp} (S:aM H H') {x:Addr} {fs ds:List Dv} (h:LandAt C H x fs ds):LandAt C H' x fs ds:=by
 obtain ⟨⟨dx,d1,d2,e,t1,t2⟩,a,b⟩:=h
 exact ⟨⟨dx,d1,d2,S _ _ e,t1.same S,t2.same S⟩,a,b⟩
theorem xQ:∀ {kvs:List (Key × V)} {H:Hp} {ds:List Dv} {d:Dv},kvs.map (·.1) = ds.map hX → IsL H ds (kvs.map (·.2)) → (ds.map aJ).Nodup → d ∈ ds → ∃ v,dC kvs (.inr (aJ d)) = some v ∧ Is H d v
 | [],_,[],_,_,_,_,m=>by cases m
 | [],_,_ :: _,_,e,_,_,_=>by simp at e
 | _ :: _,_,[],_,_,_,_,m=>by cases m
 | (k,v) :: kvs,H,d0 :: ds,d,e,i,n,m=>by
  obtain ⟨v',r,e1,h0,t⟩:=i
  rw [List.map_cons] at e1
  cases e1
  rw [List.map_cons,List.map_cons,List.cons.injEq] at e
  have ek:k = hX d0:=e.1
  rw [List.map_cons,List.nodup_cons] at n
  by_cases q:aJ d = aJ d0
  ·have:d = d0:=by
    rcases List.mem_cons.mp m with rfl | m
    ·rfl
    ·exact absurd (List.mem_map.mpr ⟨d,m,q⟩) n.1
   subst this
   refine ⟨v,?_,h0⟩
   unfold dC
   rw [List.find?_cons,ek]
   simp [hX]
  ·have m':d ∈ ds:=by
    rcases List.mem_cons.mp m with rfl | m
    ·exact absurd rfl q
    ·exact m
   obtain ⟨u,e2,h2⟩:=xQ (kvs:=kvs) e.2 t n.2 m'
   refine ⟨u,?_,h2⟩
   unfold dC at e2 ⊢
   have hk:¬ k = Sum.inr (aJ d):=by
    rw [ek]
    intro z
    exact q (Sum.inr.inj z).symm
   rw [List.find?_cons,decide_eq_false (show ¬ (k,v).1 = Sum.inr (aJ d) from hk)]
   exact e2
theorem iL:∀ {ds:List Dv} {p:Dv → Bool},(∀ d,p d = true → ∃ z,cK d = some z) → ds.all p = true → ds.map cK = (ds.map aJ).map some
 | [],_,_,_=>rfl
 | d :: ds,p,hp,h=>by
  rw [List.all_cons,Bool.and_eq_true] at h
  obtain ⟨z,e⟩:=hp d h.1
  rw [List.map_cons,List.map_cons,List.map_cons,iL hp h.2,aCM e,e]
theorem fI (zs:List Str):(zs.map some).Nodup ↔ zs.Nodup:=by
 induction zs with
 | nil=>simp
 | cons z zs ih =>
  rw [List.map_cons,List.nodup_cons,List.nodup_cons,ih]
  simp
theorem bK {d:Dv} (h:bL d = true):∃ z g e,d = .tup [.str z,.int g,.int e] ∧ dN z = true ∧ hgt g = true ∧ amt e = true:=by
 unfold bL at h
 split at h
 ·rename_i a b c
  rw [Bool.and_eq_true,Bool.and_eq_true] at h
  obtain ⟨h1,h2,h3⟩:=h
  cases a with
  | str z =>
   cases b with
   | int g =>
    cases c with
    | int e=>exact ⟨z,g,e,rfl,h1,h2,h3⟩
    | _=>cases h3
   | _=>cases h2
  | _=>cases h1
 ·cases h
theorem nA (d:Dv) (h:bL d = true):∃ z,cK d = some z:=by
 obtain ⟨z,_,_,rfl,_⟩:=bK h
 exact ⟨z,rfl⟩
theorem bZ {zs:List Str} {d:Dv} (h:cJ zs d = true):∃ n a b c r s,d = .tup [.str n,.str a,.str b,.int c,.int r,s] ∧ dN n = true ∧ a ∈ zs ∧ b ∈ zs ∧ a ≠ b ∧ hgt c = true ∧ amt r = true ∧ iS (.int c) s = true:=by
 unfold cJ at h
 split at h
 ·rename_i n a b c r s
  rw [Bool.and_eq_true,Bool.and_eq_true,Bool.and_eq_true,Bool.and_eq_true] at h
  obtain ⟨⟨h1,h2⟩,h3,h4,h5⟩:=h
  unfold jU at h2
  rw [Bool.and_eq_true,Bool.and_eq_true] at h2
  obtain ⟨h6,h7,h8⟩:=h2
  cases n with
  | str n =>
   cases a with
   | str a =>
    cases b with
    | str b =>
     cases c with
     | int c =>
      cases r with
      | int r =>
       refine ⟨n,a,b,c,r,s,rfl,h1,of_decide_eq_true h6,of_decide_eq_true h7,?_,h3,h4,h5⟩
       intro z
       subst z
       have:(!(a == a)) = true:=h8
       rw [beq_self_eq_true] at this
       cases this
      | _=>cases h4
     | _=>cases h3
    | _=>cases h7
   | _=>cases h6
  | _=>cases h1
 ·cases h
theorem pV {zs:List Str} (d:Dv) (h:cJ zs d = true):∃ z,cK d = some z:=by
 obtain ⟨z,_,_,_,_,_,rfl,_⟩:=bZ h
 exact ⟨z,rfl⟩
structure GoodF (fs:List Dv):Prop where
 l1:1 ≤ fs.length
 l2:fs.length ≤ 12
 all:∀ d ∈ fs,bL d = true
 nd:(fs.map aJ).Nodup
structure GoodD (zs:List Str) (ds:List Dv):Prop where
 l1:1 ≤ ds.length
 l2:ds.length ≤ 40
 all:∀ d ∈ ds,cJ zs d = true
 nd:(ds.map aJ).Nodup
theorem mJ (fs:List Dv):iN (.lst fs) = true ↔ GoodF fs:=by
 show ((decide (1 ≤ fs.length) && decide (fs.length ≤ 12)) && (fs.all bL && decide ((fs.map cK).Nodup))) = true ↔ _
 rw [Bool.and_eq_true,Bool.and_eq_true,Bool.and_eq_true,decide_eq_true_iff,decide_eq_true_iff,decide_eq_true_iff]
 constructor
 ·rintro ⟨⟨a,b⟩,c,d⟩
  rw [iL nA c,fI] at d
  exact ⟨a,b,List.all_eq_true.mp c,d⟩
 ·rintro ⟨a,b,c,d⟩
  have c':=List.all_eq_true.mpr c
  refine ⟨⟨a,b⟩,c',?_⟩
  rw [iL nA c',fI]
  exact d
theorem kG (zs:List Str) (ds:List Dv):jV zs (.lst ds) = true ↔ GoodD zs ds:=by
 show ((decide (1 ≤ ds.length) && decide (ds.length ≤ 40)) && (ds.all (cJ zs) && decide ((ds.map cK).Nodup))) = true ↔ _
 rw [Bool.and_eq_true,Bool.and_eq_true,Bool.and_eq_true,decide_eq_true_iff,decide_eq_true_iff,decide_eq_true_iff]
 constructor
 ·rintro ⟨⟨a,b⟩,c,d⟩
  rw [iL pV c,fI] at d
  exact ⟨a,b,List.all_eq_true.mp c,d⟩
 ·rintro ⟨a,b,c,d⟩
  have c':=List.all_eq_true.mpr c
  refine ⟨⟨a,b⟩,c',?_⟩
  rw [iL pV c',fI]
  exact d
def rW:Dv → Bool
 | .non=>true
 | _=>false
def cQ:Dv → Bool
 | .tup [_,_,_,_,_,s]=>!rW s
 | _=>false
theorem vO {H:Hp} {d:Dv} {v:V} (h:Is H d v):decide (v = .non) = rW d:=by
 cases d with
 | non=>cases (show v = .non from h);rfl
 | bl b=>cases (show v = .bl b from h);exact decide_eq_false (by intro z;cases z)
 | int b=>cases (show v = .int b from h);exact decide_eq_false (by intro z;cases z)
 | str b=>cases (show v = .str b from h);exact decide_eq_false (by intro z;cases z)
 | lst b=>obtain ⟨a,vs,rfl,_⟩:=h;exact decide_eq_false (by intro z;cases z)
 | tup b=>obtain ⟨a,vs,rfl,_⟩:=h;exact decide_eq_false (by intro z;cases z)
 | dct b c=>obtain ⟨a,vs,rfl,_⟩:=h;exact decide_eq_false (by intro z;cases z)
theorem rG:∀ {ds:List Dv},(∀ d ∈ ds,small d = true) → gA ds = true
 | [],_=>rfl
 | d :: ds,h=>by
  rw [gA,h d List.mem_cons_self,rG fun e m=>h e (List.mem_cons_of_mem _ m)]
  rfl
end Ld
namespace Mt02
open PySem L2 Ld
def aIP (i:Nat):Nat:=if i < 18 then 97 + i else 98 + i
def rst (c:Int):Nat → Int
 | 0=>c / 3
 | j + 1=>rst c j / 25
def num (o:Nat → Int) (c p b:Int) (k j:Nat):Int:=if (j:Int) = b then c / 17 + ((k:Int) / 25) else if (j:Int) = p then c / 11 + (k:Int) else o j
def aHP (o:Nat → Int) (c p b:Int) (k j:Nat):Nat:=aIP (num o c p b k j % 25).toNat
def nm (o:Nat → Int) (c p b:Int) (n k:Nat):Str:=⟨((List.range n).map (aHP o c p b k)).toArray⟩
structure Names (zs:List Str) (n:Nat):Prop where
 len:zs.length = n
 nd:zs.Nodup
 good:∀ z ∈ zs,dN z = true
end Mt02
namespace Mt04
open PySem L2 Ld
def aCT:Dv → Int
 | .tup [_,_,_,.int c,_,_]=>c
 | _=>0
def hOf:Dv → Int
 | .tup [_,.int h]=>h
 | _=>0
def aEG (ds:List Dv) (z:Str):Int:=(ds.find? fun d=>decide (aJ d = z)).elim 0 aCT
def aBZ (ds:List Dv):Dv → Bool
 | .tup [.str z,.int h]=>decide (z ∈ ds.map aJ) && (hgt h && decide (aEG ds z ≤ h))
 | _=>false
def areWorks (ds:List Dv):Dv → Bool
 | .lst ws=>ws.all (aBZ ds) && decide ((ws.map cK).Nodup)
 | _=>false
structure GoodW (ds ws:List Dv):Prop where
 all:∀ d ∈ ws,aBZ ds d = true
 nd:(ws.map aJ).Nodup
def wAt (ws:List Dv) (z:Str):Option Int:=(ws.find? fun d=>decide (aJ d = z)).map hOf
def aIK (ws:List Dv):Dv → Dv
 | .tup [.str n,a,b,.int c,r,s]=>.tup [.str n,a,b,.int ((wAt ws n).getD c),r,s]
 | d=>d
def raisedD (ds ws:List Dv):List Dv:=ds.map (aIK ws)
def kvOf (d:Dv):Key × V:=(hX d,.int (hOf d))
end Mt04
namespace Mt22
open PySem L2 Ld
structure St where
 nm:Str
 near:Str
 far:Str
 h:Int
abbrev Lo:=Str → Option Int
def sea:Str:="sea"
def lo0:Lo:=fun z=>if z = sea then some (-1000000) else none
def eS (lo:Lo) (s:St):Lo:=match lo s.near with
 | none=>lo
 | some a=>fun z=>if z = s.far then some (match lo s.far with | none=>max a s.h | some b=>min (max a s.h) b) else lo z
def aGR (S:List St) (lo:Lo):Lo:=S.foldl eS lo
def eP (S:List St):Nat → Lo
 | 0=>lo0
 | n + 1=>aGR S (eP S n)
inductive Walk (S:List St):Nat → Str → Int → Prop
 | sea:Walk S 0 Mt22.sea (-1000000)
 | step {k:Nat} {a:Int} {s:St} (w:Walk S k s.near a) (m:s ∈ S):Walk S (k + 1) s.far (max a s.h)
def Le (lo lo':Lo):Prop:=∀ z c,lo' z = some c → ∃ d,lo z = some d ∧ d ≤ c
theorem Le.refl (lo:Lo):Le lo lo:=fun z c e=>⟨c,e,Int.le_refl _⟩
theorem Le.trans {a b c:Lo} (h1:Le a b) (h2:Le b c):Le a c:=fun z x e=>by
 obtain ⟨d,e1,l1⟩:=h2 z x e
 obtain ⟨f,e2,l2⟩:=h1 z d e1
 exact ⟨f,e2,Int.le_trans l2 l1⟩
theorem uW (lo:Lo) (s:St):Le (eS lo s) lo:=fun z c e=>by
 unfold eS
 cases hn:lo s.near with
 | none=>exact ⟨c,e,Int.le_refl _⟩
 | some a =>
  dsimp only
  by_cases hz:z = s.far
  ·subst hz
   rw [if_pos rfl,e]
   exact ⟨_,rfl,Int.min_le_right _ _⟩
  ·rw [if_neg hz]
   exact ⟨c,e,Int.le_refl _⟩
theorem zF {lo:Lo} {s:St} {a:Int} (h:lo s.near = some a):∃ d,eS lo s s.far = some d ∧ d ≤ max a s.h:=by
 unfold eS
 rw [h]
 dsimp only
 rw [if_pos rfl]
 cases lo s.far with
 | none=>exact ⟨_,rfl,Int.le_refl _⟩
 | some b=>exact ⟨_,rfl,Int.min_le_left _ _⟩
theorem pR:∀ (S:List St) (lo:Lo),Le (S.foldl eS lo) lo
 | [],lo=>Le.refl lo
 | s :: S,lo=>(pR S _).trans (uW lo s)
theorem rZ:∀ {S:List St} {lo:Lo} {s:St} {a:Int},s ∈ S → lo s.near = some a → ∃ d,S.foldl eS lo s.far = some d ∧ d ≤ max a s.h
 | t :: S,lo,s,a,m,h=>by
  rcases List.mem_cons.mp m with rfl | m
  ·obtain ⟨d,e,l⟩:=zF h
   obtain ⟨f,e2,l2⟩:=pR S (eS lo s) _ _ e
   exact ⟨f,e2,Int.le_trans l2 l⟩
  ·obtain ⟨a',e,l⟩:=uW lo t _ _ h
   obtain ⟨d,e2,l2⟩:=rZ (S:=S) (lo:=eS lo t) m e
   exact ⟨d,e2,by omega⟩
theorem zE (S:List St) (n:Nat):Le (eP S (n + 1)) (eP S n):=pR S _
theorem rJ (S:List St):∀ n,Le (eP S n) lo0
 | 0=>Le.refl _
 | n + 1=>(zE S n).trans (rJ S n)
theorem yT {S:List St} {k:Nat} {v:Str} {b:Int} (w:Walk S k v b):∀ n,k ≤ n → ∃ c,eP S n v = some c ∧ c ≤ b:=by
 induction w with
 | sea=>exact fun n _=>rJ S n _ _ (by unfold lo0;rw [if_pos rfl])
 | step w m ih =>
  intro n hn
  cases n with
  | zero=>omega
  | succ n =>
   obtain ⟨c,e,l⟩:=ih n (by omega)
   obtain ⟨d,e2,l2⟩:=rZ (S:=S) (lo:=eP S n) m e
   exact ⟨d,e2,by omega⟩
def Att (S:List St) (lo:Lo):Prop:=∀ z c,lo z = some c → ∃ k,Walk S k z c
theorem zG {S:List St} {lo:Lo} {s:St} (m:s ∈ S) (h:Att S lo):Att S (eS lo s):=fun z c e=>by
 unfold eS at e
 cases hn:lo s.near with
 | none=>rw [hn] at e;exact h z c e
 | some a =>
  rw [hn] at e
  dsimp only at e
  by_cases hz:z = s.far
  ·subst hz
   rw [if_pos rfl] at e
   obtain ⟨k,w⟩:=h _ _ hn
   have w':=Walk.step w m
   cases hf:lo s.far with
   | none =>
    rw [hf] at e
    cases e
    exact ⟨_,w'⟩
   | some b =>
    rw [hf] at e
    cases e
    show ∃ k,Walk S k s.far (min (max a s.h) b)
    rcases Int.le_total (max a s.h) b with l | l
    ·rw [Int.min_eq_left l];exact ⟨_,w'⟩
    ·rw [Int.min_eq_right l];exact h _ _ hf
  ·rw [if_neg hz] at e
   exact h z c e
theorem sA {S:List St}:∀ {R:List St} {lo:Lo},(∀ s ∈ R,s ∈ S) → Att S lo → Att S (R.foldl eS lo)
 | [],_,_,h=>h
 | s :: R,lo,m,h=>sA (R:=R) (fun t mt=>m t (List.mem_cons_of_mem _ mt)) (zG (m s List.mem_cons_self) h)
theorem oR (S:List St):∀ n,Att S (eP S n)
 | 0=>fun z c e=>by
  unfold eP lo0 at e
  by_cases hz:z = sea
  ·subst hz
   rw [if_pos rfl] at e
   cases e
   exact ⟨0,.sea⟩
  ·rw [if_neg hz] at e
   cases e
 | n + 1=>sA (fun _ m=>m) (oR S n)
inductive Path (S:List St):List Str → Str → Int → Prop
 | sea:Path S [] Mt22.sea (-1000000)
 | step {p:List Str} {a:Int} {s:St} (w:Path S p s.near a) (m:s ∈ S) (n:s.far ∉ p):Path S (s.far :: p) s.far (max a s.h)
theorem aDS {S:List St} {p:List Str} {u:Str} {a:Int} (w:Path S p u a):∀ v ∈ p,∃ q b,Path S q v b ∧ b ≤ a:=by
 induction w with
 | sea=>exact fun v m=>by cases m
 | step w m n ih =>
  intro v hv
  rcases List.mem_cons.mp hv with rfl | hv
  ·exact ⟨_,_,.step w m n,Int.le_refl _⟩
  ·obtain ⟨q,b,h,l⟩:=ih v hv
   exact ⟨q,b,h,by omega⟩
theorem yU {S:List St} {k:Nat} {v:Str} {b:Int} (w:Walk S k v b):∃ p c,Path S p v c ∧ c ≤ b:=by
 induction w with
 | sea=>exact ⟨_,_,.sea,Int.le_refl _⟩
 | @step k a s w m ih =>
  obtain ⟨p,c,h,l⟩:=ih
  by_cases hv:s.far ∈ p
  ·obtain ⟨q,d,h2,l2⟩:=aDS h _ hv
   exact ⟨q,d,h2,by omega⟩
  ·exact ⟨_,_,.step h m hv,by omega⟩
theorem zJ {S:List St} {p:List Str} {v:Str} {b:Int} (w:Path S p v b):Walk S p.length v b:=by
 induction w with
 | sea=>exact .sea
 | step w m n ih=>exact .step ih m
theorem wS {S:List St} {p:List Str} {v:Str} {b:Int} (w:Path S p v b):p.Nodup ∧ ∀ z ∈ p,∃ s ∈ S,s.far = z:=by
 induction w with
 | sea=>exact ⟨by simp,fun z m=>by cases m⟩
 | step w m n ih =>
  refine ⟨List.nodup_cons.mpr ⟨n,ih.1⟩,fun z hz=>?_⟩
  rcases List.mem_cons.mp hz with rfl | hz
  ·exact ⟨_,m,rfl⟩
  ·exact ih.2 z hz
theorem pM {α:Type} [DecidableEq α]:∀ {P N:List α},P.Nodup → (∀ x ∈ P,x ∈ N) → P.length ≤ N.length
 | [],N,_,_=>Nat.zero_le _
 | x :: P,N,nd,sub=>by
  have hx:=sub x List.mem_cons_self
  rw [List.nodup_cons] at nd
  have:=pM (P:=P) (N:=N.erase x) nd.2 fun y m=>(List.mem_erase_of_ne (a:=y) (b:=x) (fun e=>nd.1 (by rw [← e];exact m))).mpr (sub y (List.mem_cons_of_mem _ m))
  rw [List.length_erase_of_mem hx] at this
  have hp:=List.length_pos_of_mem hx
  rw [List.length_cons]
  omega
structure Flood (S:List St) (lo:Lo):Prop where
 att:Att S lo
 low:∀ k v b,Walk S k v b → ∃ c,lo v = some c ∧ c ≤ b
theorem sZ {S:List St} {N:List Str} (far:∀ s ∈ S,s.far ∈ N):Flood S (eP S N.length) where
 att:=oR S _
 low k v b w:=by
  obtain ⟨p,c,h,l⟩:=yU w
  obtain ⟨nd,sub⟩:=wS h
  have hl:p.length ≤ N.length:=pM nd fun z m=>by
   obtain ⟨s,ms,rfl⟩:=sub z m
   exact far s ms
  obtain ⟨d,e,l2⟩:=yT (zJ h) N.length hl
  exact ⟨d,e,Int.le_trans l2 l⟩
inductive Come (S:List St) (L:Int):Str → Prop
 | sea:Come S L Mt22.sea
 | step {s:St} (w:Come S L s.near) (m:s ∈ S) (h:s.h < L):Come S L s.far
theorem aCV {S:List St} {lo:Lo} (f:Flood S lo) (hl:∀ s ∈ S,-1000000 ≤ s.h) {L:Int} {z:Str} (hz:z ≠ Mt22.sea):Come S L z ↔ ∃ c,lo z = some c ∧ c < L:=by
 constructor
 ·intro h
  have:z = Mt22.sea ∨ ∃ k b,Walk S k z b ∧ b < L:=by
   clear hz
   induction h with
   | sea=>exact .inl rfl
   | @step s w m h ih =>
    have h0:=hl s m
    rcases ih with e | ⟨k,b,w',l⟩
    ·refine .inr ⟨1,max (-1000000) s.h,.step ?_ m,by omega⟩
     rw [e]
     exact .sea
    ·exact .inr ⟨_,_,.step w' m,by omega⟩
  rcases this with e | ⟨k,b,w,l⟩
  ·exact absurd e hz
  ·obtain ⟨c,e,l2⟩:=f.low _ _ _ w
   exact ⟨c,e,by omega⟩
 ·rintro ⟨c,e,l⟩
  obtain ⟨k,w⟩:=f.att _ _ e
  clear e hz
  induction w with
  | sea=>exact .sea
  | step w m ih=>exact .step (ih (by omega)) m (by omega)
end Mt22
namespace MtF
open PySem L2 Ld Mt04 Mt22
def aAZ:Dv → Dv
 | .tup [_,_,_,_,_,s]=>s
 | _=>.non
def aCC:Dv → Int
 | .int i=>i
 | _=>0
def wV:Dv → Str
 | .tup [_,.str a,_,_,_,_]=>a
 | _=>""
def kR:Dv → Str
 | .tup [_,_,.str b,_,_,_]=>b
 | _=>""
def bF (op:List Str) (d:Dv):Int:=if aJ d ∈ op then aCC (aAZ d) else aCT d
def bP:Dv → Int
 | .tup [_,.int g,_]=>g
 | _=>0
def bY (fs:List Dv) (z:Str):Int:=(fs.find? fun d=>decide (aJ d = z)).elim 0 bP
theorem tR {ds:List Dv} (nd:(ds.map aJ).Nodup) {d:Dv} (m:d ∈ ds):(ds.find? fun e=>decide (aJ e = aJ d)) = some d:=by
 induction ds with
 | nil=>cases m
 | cons e ds ih =>
  rw [List.map_cons,List.nodup_cons] at nd
  rw [List.find?_cons]
  rcases List.mem_cons.mp m with rfl | m
  ·rw [decide_eq_true rfl]
  ·have hne:aJ e ≠ aJ d:=fun c=>nd.1 (c ▸ List.mem_map.mpr ⟨d,m,rfl⟩)
   rw [decide_eq_false hne]
   exact ih nd.2 m
theorem kF {fs:List Dv} (nd:(fs.map aJ).Nodup) {d:Dv} (m:d ∈ fs):bY fs (aJ d) = bP d:=by
 show (fs.find? fun e=>decide (aJ e = aJ d)).elim 0 bP = _
 rw [tR nd m]
 rfl
def cC (fs:List Dv) (op:List Str) (d:Dv) (near far:Str):List Mt22.St:=if far = "sea" then [] else [⟨aJ d,near,far,max (bF op d) (bY fs far)⟩]
def hV (fs:List Dv) (op:List Str) (d:Dv):List Mt22.St:=cC fs op d (wV d) (kR d) ++ cC fs op d (kR d) (wV d)
def aW (fs ds:List Dv) (op:List Str):List Mt22.St:=ds.flatMap (hV fs op)
def jD (s:Mt22.St):Dv:=.tup [.str s.nm,.str s.near,.str s.far,.int s.h]
def flo (fs ds:List Dv) (op:List Str):Mt22.Lo:=eP (aW fs ds op) fs.length
def lL:Option Int → V
 | some i=>.int i
 | none=>.non
theorem uJ (fs:List Dv) (op:List Str) (d:Dv):(hV fs op d).length ≤ 2:=by
 unfold hV cC
 rw [List.length_append]
 split <;> split <;> simp
theorem kP (fs:List Dv) (op:List Str):∀ ds:List Dv,(aW fs ds op).length ≤ 2 * ds.length
 | []=>Nat.le_refl _
 | d :: ds=>by
  have h1:=uJ fs op d
  have h2:=kP fs op ds
  unfold aW at h2 ⊢
  rw [List.flatMap_cons,List.length_append,List.length_cons]
  omega
theorem fJ {fs:List Dv} {op:List Str} {d:Dv} {near far:Str} {s:Mt22.St}:s ∈ cC fs op d near far ↔ far ≠ "sea" ∧ s = ⟨aJ d,near,far,max (bF op d) (bY fs far)⟩:=by
 unfold cC
 split
 ·rename_i h
  simp [h]
 ·rename_i h
  simp [h]
theorem mD {fs ds:List Dv} {op:List Str} {s:Mt22.St}:s ∈ aW fs ds op ↔ ∃ d ∈ ds,(kR d ≠ "sea" ∧ s = ⟨aJ d,wV d,kR d,max (bF op d) (bY fs (kR d))⟩) ∨ (wV d ≠ "sea" ∧ s = ⟨aJ d,kR d,wV d,max (bF op d) (bY fs (wV d))⟩):=by
 unfold aW hV
 simp only [List.mem_flatMap,List.mem_append,fJ]
theorem tS {fs ds:List Dv} {op:List Str} (gd:GoodD ("sea" :: fs.map aJ) ds) {s:Mt22.St} (h:s ∈ aW fs ds op):s.far ∈ fs.map aJ:=by
 obtain ⟨d,m,h⟩:=mD.mp h
 obtain ⟨n,a,b,c,r,sl,rfl,_,ha,hb,_⟩:=bZ (gd.all d m)
 rcases h with ⟨hn,rfl⟩ | ⟨hn,rfl⟩
 ·rcases List.mem_cons.mp hb with e | m
  ·exact absurd e hn
  ·exact m
 ·rcases List.mem_cons.mp ha with e | m
  ·exact absurd e hn
  ·exact m
theorem zY {fs ds:List Dv} {op:List Str} (gd:GoodD ("sea" :: fs.map aJ) ds):Flood (aW fs ds op) (flo fs ds op):=by
 have:=sZ (S:=aW fs ds op) (N:=fs.map aJ) fun s m=>tS gd m
 rw [List.length_map] at this
 exact this
end MtF
namespace Mt21
open PySem L2 Ld Mt02
def ab (i:Int):Nat:=97 + (i % 26).toNat
theorem kK (i:Int):eA (ab i) = true:=by
 have h0:=Int.emod_nonneg i (show (26:Int) ≠ 0 by decide)
 have h1:=Int.emod_lt_of_pos i (show (0:Int) < 26 by decide)
 unfold ab eA
 rw [decide_eq_true (by omega),decide_eq_true (by omega)]
 rfl
theorem aEJ:("abcdefghijklmnopqrstuvwxyz":Str).cps.toList = (List.range 26).map fun i=>97 + i:=by decide +kernel
theorem yR (i:Int):atI ("abcdefghijklmnopqrstuvwxyz":Str).cps.toList (i % 26) = some (ab i):=by
 have h0:=Int.emod_nonneg i (show (26:Int) ≠ 0 by decide)
 have h1:=Int.emod_lt_of_pos i (show (0:Int) < 26 by decide)
 obtain ⟨k,hk⟩:=Int.eq_ofNat_of_zero_le h0
 unfold ab
 rw [hk,aEJ]
 refine aU ?_
 rw [List.getElem?_map,List.getElem?_range (by omega)]
 rfl
def iC (i:Int):Str:=⟨#[ab i]⟩
theorem pO:∀ (ys:List Str) (acc:Array Nat),(ys.foldl (fun acc p=>acc ++ ("":Str).cps ++ p.cps) acc).toList = acc.toList ++ (ys.map fun y=>y.cps.toList).flatten
 | [],acc=>by simp
 | y :: ys,acc=>by
  rw [List.foldl_cons,pO ys]
  have:("":Str).cps = #[]:=by decide +kernel
  rw [this]
  simp
theorem xB (ys:List Str):(Txt.join "" ys).cps.toList = (ys.map fun y=>y.cps.toList).flatten:=by
 cases ys with
 | nil =>
  show (Str.empty.cps).toList = []
  decide +kernel
 | cons y ys =>
  show (List.foldl (fun acc p=>acc ++ ("":Str).cps ++ p.cps) y.cps ys).toList = _
  rw [pO]
  simp
theorem nY (z:Str) (k:Nat) (h:k ≤ z.length):(Txt.slice z none (some (k:Int))).cps.toList = z.cps.toList.take k:=by
 rw [Tx.slice_codes,Tx.cl_nat]
 show (z.cps.toList.drop 0).take (min k z.length - 0) = _
 rw [List.drop_zero,Nat.sub_zero,Nat.min_eq_left h]
theorem pX (z:Str) (k:Nat) (h:k ≤ z.length):(Txt.slice z (some (k:Int)) none).cps.toList = z.cps.toList.drop k:=by
 rw [Tx.slice_codes,Tx.cl_nat,Nat.min_eq_left h]
 show (z.cps.toList.drop k).take (z.length - k) = _
 rw [List.take_of_length_le]
 rw [List.length_drop]
 show z.cps.toList.length - k ≤ z.length - k
 simp [Str.length]
theorem fK (z:Str):z.length = z.cps.toList.length:=by simp [Str.length]
theorem yJ {z:Str} (h:z.cps.toList.all eA = true) (h1:1 ≤ z.length) (h2:z.length ≤ 8) (h3:z.length ≠ 3):dN z = true:=by
 have e:¬ z = "sea":=fun e=>by
  rw [e] at h3
  exact h3 (by decide +kernel)
 unfold dN
 rw [h,decide_eq_true h1,decide_eq_true h2,decide_eq_false e]
 rfl
theorem mV {f:Nat → Str} {n:Nat} (h:∀ k l,k < n → l < n → f k = f l → k = l):((List.range n).map f).Nodup:=by
 rw [List.nodup_iff_pairwise_ne,List.pairwise_map]
 refine List.Pairwise.imp_of_mem ?_ (List.pairwise_lt_range (n:=n))
 intro k l hk hl hkl he
 have:=h k l (List.mem_range.mp hk) (List.mem_range.mp hl) he
 omega
theorem wU {a:Int} {n:Nat} (hn:n ≤ 26):Names ((List.range n).map fun (k:Nat)=>iC (a + 5 * (k:Int))) n where
 len:=by simp
 nd:=mV fun k l hk hl e=>by
  have e':[ab (a + 5 * (k:Int))] = [ab (a + 5 * (l:Int))]:=congrArg (fun z:Str=>z.cps.toList) e
  have e2:ab (a + 5 * (k:Int)) = ab (a + 5 * (l:Int)):=by simpa using e'
  unfold ab at e2
  omega
 good z m:=by
  obtain ⟨k,_,rfl⟩:=List.mem_map.mp m
  refine yJ ?_ (show 1 ≤ 1 by decide) (show 1 ≤ 8 by decide) (show (1:Nat) ≠ 3 by decide)
  show (eA (ab _) && true) = true
  rw [kK]
  rfl
structure Put (z b:Str) (at':Nat) (x y:Int):Prop where
 codes:z.cps.toList = b.cps.toList.take at' ++ [ab x,ab y] ++ b.cps.toList.drop at'
theorem zH {b:Str} {sz at' n:Nat} {p q:Int} {f:Nat → Str} (hb:b.cps.toList.all eA = true) (hl:b.length = sz) (h2:2 ≤ sz) (h6:sz ≤ 6) (ha:at' ≤ sz) (hn:n ≤ 52) (hf:∀ k,k < n → Put (f k) b at' ((k:Int) + p) ((k:Int) / 26 + q)) :
  Names ((List.range n).map f) n where
 len:=by simp
 nd:=mV fun k l hk hl' e=>by
  have h1:=(hf k hk).codes
  have h2:=(hf l hl').codes
  rw [e,h2] at h1
  have hlt:(b.cps.toList.take at').length = at':=by
   rw [List.length_take,← fK,hl]
   omega
  rw [List.append_assoc,List.append_assoc] at h1
  have h3:=List.append_cancel_left h1
  have e1:ab ((l:Int) + p) = ab ((k:Int) + p) ∧ ab ((l:Int) / 26 + q) = ab ((k:Int) / 26 + q):=by
   simpa using h3
  unfold ab at e1
  omega
 good z m:=by
  obtain ⟨k,mk,rfl⟩:=List.mem_map.mp m
  have h:=(hf k (List.mem_range.mp mk)).codes
  have hlen:(f k).length = sz + 2:=by
   rw [fK,h,List.length_append,List.length_append,List.length_take,List.length_drop,← fK,hl]
   show min at' sz + 2 + (sz - at') = _
   omega
  refine yJ ?_ (by omega) (by omega) (by omega)
  rw [h,List.all_append,List.all_append]
  have t1:(b.cps.toList.take at').all eA = true:=List.all_eq_true.mpr fun x m=>List.all_eq_true.mp hb x (List.mem_of_mem_take m)
  have t2:(b.cps.toList.drop at').all eA = true:=List.all_eq_true.mpr fun x m=>List.all_eq_true.mp hb x (List.mem_of_mem_drop m)
  rw [t1,t2]
  show (true && (eA (ab _) && (eA (ab _) && true)) && true) = true
  rw [kK,kK]
  rfl
end Mt21
namespace K22
open PySem L2
local macro_rules | `(tactic| trivial)=>`(tactic| first | exact .inl rfl | exact .inr rfl | assumption)
def top (i:Nat):Stmt:=PySem.Challenge.pw_dykemoot_k22_flood_heights.main.body.getD i (.Pass ⟨0,0,0,0⟩)
abbrev lH:Stmt:=top 0
abbrev eW:Stmt:=top 13
theorem qL:FnScope ["thing"] ["thing"] (aB eW):=⟨rfl,rfl,rfl,by decide +kernel,rfl,by decide +kernel,by decide +kernel⟩
abbrev fU:Stmt:=top 14
theorem sW:FnScope ["thing"] ["thing"] (aB fU):=⟨rfl,rfl,rfl,by decide +kernel,rfl,by decide +kernel,by decide +kernel⟩
abbrev eC:Stmt:=top 15
theorem oK:FnScope ["thing"] ["thing"] (aB eC):=⟨rfl,rfl,rfl,by decide +kernel,rfl,by decide +kernel,by decide +kernel⟩
abbrev eD:Stmt:=top 16
theorem oM:FnScope ["thing"] ["thing"] (aB eD):=⟨rfl,rfl,rfl,by decide +kernel,rfl,by decide +kernel,by decide +kernel⟩
abbrev eB:Stmt:=top 17
theorem oJ:FnScope ["thing","names"] ["thing","names"] (aB eB):=⟨rfl,rfl,rfl,by decide +kernel,rfl,by decide +kernel,by decide +kernel⟩
abbrev dQ:Stmt:=top 18
theorem nH:FnScope ["thing","most"] ["thing","most"] (aB dQ):=⟨rfl,rfl,rfl,by decide +kernel,rfl,by decide +kernel,by decide +kernel⟩
abbrev dJ:Stmt:=top 19
theorem lW:FnScope ["thing","length"] ["thing","length"] (aB dJ):=⟨rfl,rfl,rfl,by decide +kernel,rfl,by decide +kernel,by decide +kernel⟩
abbrev dP:Stmt:=top 20
theorem nG:FnScope ["rows"] ["rows"] (aB dP):=⟨rfl,rfl,rfl,by decide +kernel,rfl,by decide +kernel,by decide +kernel⟩
abbrev eX:Stmt:=top 21
theorem qM:FnScope ["thing"] ["thing"] (aB eX):=⟨rfl,rfl,rfl,by decide +kernel,rfl,by decide +kernel,by decide +kernel⟩
abbrev dR:Stmt:=top 22
theorem nJ:FnScope ["thing"] ["thing"] (aB dR):=⟨rfl,rfl,rfl,by decide +kernel,rfl,by decide +kernel,by decide +kernel⟩
abbrev eE:Stmt:=top 23
theorem oN:FnScope ["one","other","sides"] ["one","other","sides"] (aB eE):=⟨rfl,rfl,rfl,by decide +kernel,rfl,by decide +kernel,by decide +kernel⟩
abbrev fT:Stmt:=top 24
theorem sV:FnScope ["thing","crown"] ["thing","crown"] (aB fT):=⟨rfl,rfl,rfl,by decide +kernel,rfl,by decide +kernel,by decide +kernel⟩
abbrev fV:Stmt:=top 25
theorem sX:FnScope ["thing","sides"] ["thing","sides"] (aB fV):=⟨rfl,rfl,rfl,by decide +kernel,rfl,by decide +kernel,by decide +kernel⟩
abbrev eF:Stmt:=top 26
theorem oO:FnScope ["thing","sides"] ["thing","sides"] (aB eF):=⟨rfl,rfl,rfl,by decide +kernel,rfl,by decide +kernel,by decide +kernel⟩
abbrev eY:Stmt:=fQ (top 27) 0
theorem qN:FnScope ["self","fields","dykes"] ["self","fields","dykes"] (aB eY):=⟨rfl,rfl,rfl,by decide +kernel,rfl,by decide +kernel,by decide +kernel⟩
abbrev eM:Stmt:=fQ (top 27) 1
abbrev dS:Stmt:=fQ (top 27) 2
theorem nK:FnScope ["self"] ["self"] (aB dS):=⟨rfl,rfl,rfl,by decide +kernel,rfl,by decide +kernel,by decide +kernel⟩
abbrev cE:Stmt:=fQ (top 27) 3
theorem iZ:FnScope ["self"] ["self"] (aB cE):=⟨rfl,rfl,rfl,by decide +kernel,rfl,by decide +kernel,by decide +kernel⟩
abbrev dB:Stmt:=fQ (top 27) 4
abbrev dF:Stmt:=fQ (top 27) 5
theorem lG:FnScope ["self"] ["self"] (aB dF):=⟨rfl,rfl,rfl,by decide +kernel,rfl,by decide +kernel,by decide +kernel⟩
abbrev dL:Stmt:=fQ (top 27) 6
theorem lX:FnScope ["self","field"] ["self","field"] (aB dL):=⟨rfl,rfl,rfl,by decide +kernel,rfl,by decide +kernel,by decide +kernel⟩
abbrev fO:Stmt:=fQ (top 27) 7
abbrev fN:Stmt:=fQ (top 27) 8
abbrev eK:Stmt:=fQ (top 27) 9
abbrev cX:Stmt:=top 29
theorem gN:FnScope ["land","thing","sluices"] ["land","thing"] (aB cX):=⟨rfl,rfl,rfl,by decide +kernel,rfl,by decide +kernel,by decide +kernel⟩
abbrev gO:Stmt:=top 30
theorem uV:FnScope ["land","opened"] ["land","opened"] (aB gO):=⟨rfl,rfl,rfl,by decide +kernel,rfl,by decide +kernel,by decide +kernel⟩
abbrev dE:Stmt:=top 31
theorem cU:FnScope ["land","stand_of","steps","dyke","near","far"] ["land","stand_of"] (aB dE):=⟨rfl,rfl,rfl,by decide +kernel,rfl,by decide +kernel,by decide +kernel⟩
abbrev cW:Stmt:=top 32
theorem bD:FnScope ["land","opened","steps","lowest","turn","name","near","far","height","reached"] ["land","opened"] (aB cW):=⟨rfl,rfl,rfl,by decide +kernel,rfl,by decide +kernel,by decide +kernel⟩
abbrev fX:Stmt:=top 34
theorem sY:FnScope ["_law_script","_law_k"] ["_law_script","_law_k"] (aB fX):=⟨rfl,rfl,rfl,by decide +kernel,rfl,by decide +kernel,by decide +kernel⟩
abbrev iF:Stmt:=top 35
theorem oQ:FnScope ["_law_cell","_law_k","_law_number"] ["_law_cell","_law_k"] (aB iF):=⟨rfl,rfl,rfl,by decide +kernel,rfl,by decide +kernel,by decide +kernel⟩
abbrev fF:Stmt:=top 36
theorem dO:FnScope ["_law_cell","_law_many","_law_letters","_law_size","_law_base","_law_at","_law_words_here","_law_k","_law_inner"] ["_law_cell","_law_many"] (aB fF):=⟨rfl,rfl,rfl,by decide +kernel,rfl,by decide +kernel,by decide +kernel⟩
abbrev jG:Stmt:=top 37
theorem zD:FnScope ["_law_number"] ["_law_number"] (aB jG):=⟨rfl,rfl,rfl,by decide +kernel,rfl,by decide +kernel,by decide +kernel⟩
abbrev jE:Stmt:=top 38
theorem rH:FnScope ["_law_number","_law_most_here"] ["_law_number"] (aB jE):=⟨rfl,rfl,rfl,by decide +kernel,rfl,by decide +kernel,by decide +kernel⟩
abbrev gS:Stmt:=top 39
theorem eR:FnScope ["_law_script","_law_many","_law_names","_law_found","_law_k","_law_number","_law_ground"] ["_law_script","_law_many"] (aB gS):=⟨rfl,rfl,rfl,by decide +kernel,rfl,by decide +kernel,by decide +kernel⟩
abbrev iG:Stmt:=top 40
theorem bS:FnScope ["_law_script","_law_fields_here","_law_many","_law_names","_law_sides","_law_found","_law_k","_law_number","_law_one","_law_other","_law_crown","_law_rate","_law_sill"] ["_law_script","_law_fields_here","_law_many"] (aB iG):=⟨rfl,rfl,rfl,by decide +kernel,rfl,by decide +kernel,by decide +kernel⟩
abbrev iE:Stmt:=top 41
theorem oP:FnScope ["_law_script","_law_size"] ["_law_script"] (aB iE):=⟨rfl,rfl,rfl,by decide +kernel,rfl,by decide +kernel,by decide +kernel⟩
abbrev jF:Stmt:=top 42
theorem jX:FnScope ["_law_script","_law_many","_law_dykes_here","_law_fields_here"] ["_law_script"] (aB jF):=⟨rfl,rfl,rfl,by decide +kernel,rfl,by decide +kernel,by decide +kernel⟩
abbrev gQ:Stmt:=top 43
theorem cD:FnScope ["_law_script","_law_dykes_here","_law_cell","_law_sluices","_law_found","_law_left","_law_k","_law_times"] ["_law_script","_law_dykes_here"] (aB gQ):=⟨rfl,rfl,rfl,by decide +kernel,rfl,by decide +kernel,by decide +kernel⟩
abbrev gP:Stmt:=top 44
theorem dH:FnScope ["_law_dykes_here","_law_opened_here","_law_found","_law_name","_law_one","_law_other","_law_crown","_law_rate","_law_sill"] ["_law_dykes_here","_law_opened_here"] (aB gP):=⟨rfl,rfl,rfl,by decide +kernel,rfl,by decide +kernel,by decide +kernel⟩
abbrev fW:Stmt:=top 45
theorem bB:FnScope ["_law_fields_here","_law_dykes_here","_law_stands_now","_law_level","_law_ground","_law_name","_law_height","_law_dues","_law_come","_law_many","_law_one","_law_other","_law_crown","_law_rate","_law_sill","_law_here","_law_there"] ["_law_fields_here","_law_dykes_here","_law_stands_now","_law_level"] (aB fW):=⟨rfl,rfl,rfl,by decide +kernel,rfl,by decide +kernel,by decide +kernel⟩
abbrev gR:Stmt:=top 46
theorem cV:FnScope ["_law_fields_here","_law_dykes_here","_law_stands_now","_law_found","_law_name","_law_height","_law_dues","_law_levels","_law_level","_law_come"] ["_law_fields_here","_law_dykes_here","_law_stands_now"] (aB gR):=⟨rfl,rfl,rfl,by decide +kernel,rfl,by decide +kernel,by decide +kernel⟩
abbrev jY:Stmt:=top 47
theorem eV:FnScope ["_law_script","_law_fields_here","_law_dykes_here","_law_land_here","_law_opened_here","_law_due","_law_handed","_law_found","_law_name"] ["_law_script"] (aB jY):=⟨rfl,rfl,rfl,by decide +kernel,rfl,by decide +kernel,by decide +kernel⟩
structure Txt (K:PySem.W.Frag) (mg:Str → Option Value) (C:Addr):Prop where
 cl_Land:Cls K C
 mg_Land:mg "Land" = some (.ref C)
 a_field_rows:jW K C "field_rows"
 a_dyke_rows:jW K C "dyke_rows"
 ci_Land:InstC K C
 i_Land:InitAt K C "Land.__init__" eY ["self","fields","dykes"]
 m_land_p_fields:MethAt K C "fields" "Land.fields" eM ["self"]
 m_land_p_dykes:MethAt K C "dykes" "Land.dykes" dS ["self"]
 m_land_p_field_names:MethAt K C "field_names" "Land.field_names" cE ["self"]
 m_land_p_dyke_names:MethAt K C "dyke_names" "Land.dyke_names" dB ["self"]
 m_land_p_sluices:MethAt K C "sluices" "Land.sluices" dF ["self"]
 m_land_p_ground:MethAt K C "ground" "Land.ground" dL ["self","field"]
 m_land_p_dues:MethAt K C "dues" "Land.dues" fO ["self","field"]
 m_land_p_dyke:MethAt K C "dyke" "Land.dyke" fN ["self","name"]
 m_land_p_raised:MethAt K C "raised" "Land.raised" eK ["self","works"]
 d_p_wall:DefAt K mg "_wall" lH ["k"]
 d_p_is_whole:DefAt K mg "is_whole" eW ["thing"]
 d_p_is_name:DefAt K mg "is_name" fU ["thing"]
 d_p_is_height:DefAt K mg "is_height" eC ["thing"]
 d_p_is_amount:DefAt K mg "is_amount" eD ["thing"]
 d_p_is_one_of:DefAt K mg "is_one_of" eB ["thing","names"]
 d_p_is_list_of:DefAt K mg "is_list_of" dQ ["thing","most"]
 d_p_is_tuple_of:DefAt K mg "is_tuple_of" dJ ["thing","length"]
 d_p_none_twice:DefAt K mg "none_twice" dP ["rows"]
 d_p_is_field:DefAt K mg "is_field" eX ["thing"]
 d_p_are_fields:DefAt K mg "are_fields" dR ["thing"]
 d_p_are_sides:DefAt K mg "are_sides" eE ["one","other","sides"]
 d_p_is_sill:DefAt K mg "is_sill" fT ["thing","crown"]
 d_p_is_dyke:DefAt K mg "is_dyke" fV ["thing","sides"]
 d_p_are_dykes:DefAt K mg "are_dykes" eF ["thing","sides"]
 d_p_check_sluices:DefAt K mg "check_sluices" cX ["land","thing"]
 d_p_stands:DefAt K mg "stands" gO ["land","opened"]
 d_p_steps_inland:DefAt K mg "steps_inland" dE ["land","stand_of"]
 d_p_flood_heights:DefAt K mg "flood_heights" cW ["land","opened"]
 d_l_cell_at:DefAt K mg "_law_cell_at" fX ["_law_script","_law_k"]
 d_l_mixed:DefAt K mg "_law_mixed" iF ["_law_cell","_law_k"]
 d_l_words:DefAt K mg "_law_words" fF ["_law_cell","_law_many"]
 d_l_high:DefAt K mg "_law_high" jG ["_law_number"]
 d_l_most:DefAt K mg "_law_most" jE ["_law_number"]
 d_l_fields:DefAt K mg "_law_fields" gS ["_law_script","_law_many"]
 d_l_dykes:DefAt K mg "_law_dykes" iG ["_law_script","_law_fields_here","_law_many"]
 d_l_sizes:DefAt K mg "_law_sizes" iE ["_law_script"]
 d_l_land:DefAt K mg "_law_land" jF ["_law_script"]
 d_l_opened:DefAt K mg "_law_opened" gQ ["_law_script","_law_dykes_here"]
 d_l_stands:DefAt K mg "_law_stands" gP ["_law_dykes_here","_law_opened_here"]
 d_l_come_to:DefAt K mg "_law_come_to" fW ["_law_fields_here","_law_dykes_here","_law_stands_now","_law_level"]
 d_l_floods:DefAt K mg "_law_floods" gR ["_law_fields_here","_law_dykes_here","_law_stands_now"]
 d_p_law:DefAt K mg "law" jY ["_law_script"]
 g_SEA:iW mg "SEA" (.str "sea")
 g_LETTERS:iW mg "LETTERS" (.str "abcdefghijklmnopqrstuvwxyz")
 g_MOST_LETTERS:iW mg "MOST_LETTERS" (.int 8)
 g_MOST_HEIGHT:iW mg "MOST_HEIGHT" (.int 1000000)
 g_MOST_AMOUNT:iW mg "MOST_AMOUNT" (.int 1000000)
 g_MOST_FIELDS:iW mg "MOST_FIELDS" (.int 12)
 g_MOST_DYKES:iW mg "MOST_DYKES" (.int 40)
 n_all:mg "all" = none
 n_bool:mg "bool" = none
 n_dict:mg "dict" = none
 n_int:mg "int" = none
 n_isinstance:mg "isinstance" = none
 n_len:mg "len" = none
 n_list:mg "list" = none
 n_max:mg "max" = none
 n_min:mg "min" = none
 n_range:mg "range" = none
 n_reversed:mg "reversed" = none
 n_set:mg "set" = none
 n_sorted:mg "sorted" = none
 n_str:mg "str" = none
 n_tuple:mg "tuple" = none
section
variable {P:Program} {w:World} {K:PySem.W.Frag} {mg:Str → Option Value} {base:Heap} {C:Addr}
open Ld
theorem cR:(1000:Nat) ≤ sizeLine:=by decide
def sN:Sp:=sp1 fun x H Q=>∃ d,Is H d x ∧ Q (.bl (isInt d)) H
theorem kN (T:Txt K mg C):Fc P w K mg base 1 "is_whole" ["thing"] sN:=by
 refine T.d_p_is_whole.fc qL kZ (fun f cdv A outer s H vs Q E hr h=>?_)
 obtain ⟨x,rfl,d,hd,q⟩:=h
 obtain ⟨t,ty,e1,e2,_⟩:=mQ K hd
 refine ⟨_,(@aH _ _ _ (@aY _ _ _ _ (@dM _ _ _ _ _ _ _ (@aV _ _ _ _ _ _ _ _ _ (@cB _ (K) rfl) rfl T.n_isinstance bG (@aA _ _ _ _ _ (pv 0) (@aA _ _ _ _ _ (@kM _ _ _ _ T.n_int mP (by rfl) (by decide) (by decide)) aF (by rfl)) (by rfl)) (by decide) (by decide) (by rfl) (by rfl)) (@eZ _ _ _ _ _ (@aFG _ _ _ _ (@aV _ _ _ _ _ _ _ _ _ (@cB _ (K) rfl) rfl T.n_isinstance bG (@aA _ _ _ _ _ (pv 0) (@aA _ _ _ _ _ (@kM _ _ _ _ T.n_bool qH (by rfl) (by decide) (by decide)) aF (by rfl)) (by rfl)) (by decide) (by decide) (by rfl) (by rfl))))))),?_⟩
 refine ⟨_,rfl,_,_,_,t,_,rfl,rfl,ty,e1,_,rfl,?_⟩
 refine fZ (fun h=>?_) (fun h=>?_)
 ·refine ⟨_,rfl,_,_,_,t,_,rfl,rfl,ty,e2,_,rfl,?_⟩
  have e:(!aCB d) = isInt d:=by cases d <;> simp_all [isInt,aCB]
  rw [e]
  exact q
 ·have e:isInt d = false:=by cases d <;> simp_all [isInt,aCB]
  rw [e] at q
  exact q
def wE:Sp:=sp1 fun x H Q=>∃ d,Is H d x ∧ small d = true ∧ Q (.bl (lA d)) H
theorem lO (T:Txt K mg C):Fc P w K mg base 1 "is_name" ["thing"] wE:=by
 refine T.d_p_is_name.fcD sW kZ (fun f cdv A outer s H vs Q E hr h=>?_)
 obtain ⟨x,rfl,d,hd,hz,q⟩:=h
 obtain ⟨t,ty,e1,e2,e3,_⟩:=mQ K hd
 have big:=cR
 refine ⟨_,(@aG _ _ _ _ _ (@dY _ _ _ _ _ _ _ _ (@PW.pt _ _ _ (@mS _ _ _ _ _ _ _ (@gC _ _ _ _ (@gB _ _ _ (@aV _ _ _ _ _ _ _ _ _ (@cB _ (K) rfl) rfl T.n_isinstance bG (@aA _ _ _ _ _ (pv 0) (@aA _ _ _ _ _ (@kM _ _ _ _ T.n_str sE (by rfl) (by decide) (by decide)) aF (by rfl)) (by rfl)) (by decide) (by decide) (by rfl) (by rfl)) (by intro _;rfl))) (@oS _ _ _ _ (@gC _ _ _ _ (@aBK _ _ _ _ _ _ _ _ _ _ _ _ lM lM aE (@aV _ _ _ _ _ _ _ _ _ tW rfl T.n_len cI (@aA _ _ _ _ _ (pv 0) aF (by rfl)) (by decide) (by decide) (by rfl) (by rfl)) (@nM _ _ _ _ T.g_MOST_LETTERS (by rfl) (by decide)) (by with_unfolding_all rfl)))))) (@aH _ _ _ (@aY _ _ _ _ mT)) cA) (@aH _ _ _ (@aY _ _ _ _ (@dM _ _ _ _ _ _ _ (@fP _ _ _ _ _ _ _ _ vC (pv 0) (@nM _ _ _ _ T.g_SEA (by rfl) (by decide)) (@bV _ _ (by decide) (by decide))) (@eZ _ _ _ _ _ (@aV _ _ _ _ _ _ _ _ _ (@lU _ rfl) rfl T.n_all kJ (@aA _ _ _ _ _ (@dI _ _ _ _ _ _ _ _ _ _ _ ["sign"] 1 [] rfl (@aFE _ _ _ _ (pv 0)) (fun R=>@aL _ _ (0) _ (show List.Nodup (["sign"]:List Str) by decide +kernel) rfl (Or.inl rfl) (by trivial)) (@bN _ _ (by decide)) (fun R=>cY) (fun R=>(@fP _ _ _ _ _ _ _ _ zK (pv 0) (@nM _ _ _ _ T.g_LETTERS (by rfl) (by decide)) (by with_unfolding_all rfl))) (by rfl) (by rfl) (by rfl) (by rfl) (by rfl) (by rfl) (by rfl) (by intro _;rfl)) aF (by rfl)) (by decide) (by decide) (by rfl) (by rfl))))))),?_⟩
 refine ⟨_,rfl,_,_,_,t,_,rfl,rfl,ty,e3,_,rfl,?_⟩
 cases d with
 | str z =>
  cases (show x = .str z from hd)
  have hz:z.length ≤ 1000:=of_decide_eq_true hz
  have q:Q (.bl (dN z)) H:=q
  have hzs:z.length ≤ sizeLine:=by omega
  refine cN ?_
  refine ⟨_,rfl,z,rfl,hzs,_,_,rfl,rfl,_,rfl,?_⟩
  refine fZ (fun h1=>?_) (fun h1=>?_)
  ·refine ⟨_,_,rfl,rfl,_,rfl,?_⟩
   have h1':1 ≤ z.length:=by
    have:=of_decide_eq_true h1
    omega
   refine fZ (fun h2=>?_) (fun h2=>?_)
   ·have e:dN z = false:=by
     have h2':¬ z.length ≤ 8:=by
      intro h3
      have:((z.length:Nat):Int) ≤ 8:=by omega
      simp [this] at h2
     simp [dN,h2']
    rw [e] at q
    exact dG.of (.refl _) q
   ·have h2':z.length ≤ 8:=by
     have h3:decide (((z.length:Nat):Int) ≤ 8) = true:=by
      cases h4:decide (((z.length:Nat):Int) ≤ 8) with
      | true=>rfl
      | false=>exact absurd (by rw [h4];rfl) h2
     have:=of_decide_eq_true h3
     omega
    refine ⟨_,rfl,rfl,_,rfl,?_⟩
    refine fZ (fun h3=>?_) (fun h3=>?_)
    ·have h3':¬ z = "sea":=by
      intro h4
      subst h4
      simp at h3
     refine ⟨_,rfl,z,rfl,?_⟩
     refine aCU (Nat.le_trans hz (by decide)) (fun i ys H'=>H' = H ∧ ys = (z.cps.toList.take i).map fun c=>V.bl (eA c)) ⟨rfl,rfl⟩ ?_ ?_ ?_
     ·rintro i ys H' ⟨_,rfl⟩
      rw [List.length_map,List.length_take]
      omega
     ·rintro i c ys H' K1 K2 hc ⟨rfl,rfl⟩ k1 k2
      refine ⟨_,rfl,_,_,rfl,rfl,k1 _ _ ⟨rfl,?_⟩⟩
      have hc':z.cps.toList[i]? = some c:=by simpa using hc
      rw [List.take_add_one,hc',xE]
      simp
     ·rintro ys H' ⟨rfl,rfl⟩
      intro p hp'
      refine ⟨p,z.cps.toList.map eA,rfl,SqL.of ?_,?_⟩
      ·rw [aD,List.take_of_length_le (by simp),List.map_map]
       rfl
      ·refine ⟨H',gE.lst hp',?_⟩
       have e:dN z = (z.cps.toList.map eA).all id:=by
        rw [List.all_map]
        simp [dN,h1',h2',h3']
       rw [← e]
       exact q
    ·have e:dN z = false:=by
      have h4:z = "sea":=by
       apply Classical.byContradiction
       intro h5
       exact h3 (by simp [h5])
      subst h4
      simp [dN]
     rw [e] at q
     exact dG.of (.refl _) q
  ·have e:dN z = false:=by
    have h1':¬ 1 ≤ z.length:=by
     intro h3
     exact h1 (decide_eq_true (by omega))
    simp [dN,h1']
   rw [e] at q
   exact ⟨_,rfl,dG.of (.refl _) q⟩
 | non=>exact dG.of (.refl _) q
 | bl b=>exact dG.of (.refl _) q
 | int i=>exact dG.of (.refl _) q
 | lst a=>exact dG.of (.refl _) q
 | tup a=>exact dG.of (.refl _) q
 | dct a b=>exact dG.of (.refl _) q
def lE:Sp:=sp1 fun x H Q=>∃ d,Is H d x ∧ Q (.bl (hG d)) H
theorem gW (T:Txt K mg C):Fc P w K mg base 2 "is_height" ["thing"] lE:=by
 have G_p_is_whole:Fc P w K mg base 1 "is_whole" ["thing"] sN:=kN T
 refine T.d_p_is_height.fc oK kZ (fun f cdv A outer s H vs Q E hr h=>?_)
 obtain ⟨x,rfl,d,hd,q⟩:=h
 refine ⟨_,(@aH _ _ _ (@aY _ _ _ _ (@dM _ _ _ _ _ _ _ (@cF _ _ _ _ _ _ _ _ _ _ G_p_is_whole (hr.mono (by decide)) (@aA _ _ _ _ _ (pv 0) aF (by rfl)) (by rfl) (by decide) (by rfl) (by rfl)) (@eZ _ _ _ _ _ (@oY _ _ _ _ _ _ _ _ _ _ _ _ lM lM (@aEU _ _ _ _ _ _ aAO (@nM _ _ _ _ T.g_MOST_HEIGHT (by rfl) (by decide))) (pv 0) (@nM _ _ _ _ T.g_MOST_HEIGHT (by rfl) (by decide)) (by with_unfolding_all rfl)))))),?_⟩
 refine ⟨_,rfl,_,rfl,d,hd,_,rfl,?_⟩
 cases d with
 | int i =>
  cases (show x = .int i from hd)
  refine gK ?_
  have q:Q (.bl (decide (-1000000 ≤ i) && decide (i ≤ 1000000))) H:=q
  refine ⟨_,rfl,_,rfl,_,_,rfl,rfl,_,rfl,?_⟩
  refine fZ (fun h1=>?_) (fun h1=>?_)
  ·refine ⟨_,_,rfl,rfl,?_⟩
   rw [decide_eq_true (show -1000000 ≤ i from of_decide_eq_true h1),Bool.true_and] at q
   exact q
  ·rw [show decide (-1000000 ≤ i) = false from by simpa using h1,Bool.false_and] at q
   exact q
 | _=>exact cN q
def oH:Sp:=sp1 fun x H Q=>∃ d,Is H d x ∧ Q (.bl (iJ d)) H
theorem jL (T:Txt K mg C):Fc P w K mg base 2 "is_amount" ["thing"] oH:=by
 have G_p_is_whole:Fc P w K mg base 1 "is_whole" ["thing"] sN:=kN T
 refine T.d_p_is_amount.fc oM kZ (fun f cdv A outer s H vs Q E hr h=>?_)
 obtain ⟨x,rfl,d,hd,q⟩:=h
 refine ⟨_,(@aH _ _ _ (@aY _ _ _ _ (@dM _ _ _ _ _ _ _ (@cF _ _ _ _ _ _ _ _ _ _ G_p_is_whole (hr.mono (by decide)) (@aA _ _ _ _ _ (pv 0) aF (by rfl)) (by rfl) (by decide) (by rfl) (by rfl)) (@eZ _ _ _ _ _ (@oY _ _ _ _ _ _ _ _ _ _ _ _ lM lM aE (pv 0) (@nM _ _ _ _ T.g_MOST_AMOUNT (by rfl) (by decide)) (by with_unfolding_all rfl)))))),?_⟩
 refine ⟨_,rfl,_,rfl,d,hd,_,rfl,?_⟩
 cases d with
 | int i =>
  cases (show x = .int i from hd)
  refine gK ?_
  have q:Q (.bl (decide (0 ≤ i) && decide (i ≤ 1000000))) H:=q
  refine ⟨_,rfl,_,_,rfl,rfl,_,rfl,?_⟩
  refine fZ (fun h1=>?_) (fun h1=>?_)
  ·refine ⟨_,_,rfl,rfl,?_⟩
   rw [decide_eq_true (show 0 ≤ i from of_decide_eq_true h1),Bool.true_and] at q
   exact q
  ·rw [show decide (0 ≤ i) = false from by simpa using h1,Bool.false_and] at q
   exact q
 | _=>exact cN q
def sQ (K:PySem.W.Frag):Sp:=sp2 fun x y H Q=>∃ (d:Dv) (p:Addr) (zs:List Str),Is H d x ∧ y = .ref p ∧ SqL K H p (zs.map V.str) ∧ Q (.bl (mU zs d)) H
theorem tO (z:Str) (zs:List Str):inV (.str z) (zs.map V.str) = decide (z ∈ zs):=by
 unfold inV
 rw [Bool.eq_iff_iff,List.any_eq_true,decide_eq_true_iff]
 constructor
 ·rintro ⟨y,hy,e⟩
  obtain ⟨u,hu,rfl⟩:=List.mem_map.mp hy
  have e':(u == z) = true:=e
  rw [← beq_iff_eq.mp e']
  exact hu
 ·intro h
  exact ⟨_,List.mem_map.mpr ⟨z,h,rfl⟩,beq_self_eq_true z⟩
theorem mL (zs:List Str):(zs.map V.str).all lT = true:=by
 rw [List.all_eq_true]
 intro y hy
 obtain ⟨u,_,rfl⟩:=List.mem_map.mp hy
 rfl
theorem jK (T:Txt K mg C):Fc P w K mg base 1 "is_one_of" ["thing","names"] (sQ K):=by
 refine T.d_p_is_one_of.fc oJ jM (fun f cdv A outer s H vs Q E hr h=>?_)
 obtain ⟨x,y,rfl,d,p,zs,hd,rfl,hp,q⟩:=h
 obtain ⟨t,ty,e1,e2,e3,_⟩:=mQ K hd
 refine ⟨_,(@aH _ _ _ (@aY _ _ _ _ (@dM _ _ _ _ _ _ _ (@aV _ _ _ _ _ _ _ _ _ (@cB _ (K) rfl) rfl T.n_isinstance bG (@aA _ _ _ _ _ (pv 0) (@aA _ _ _ _ _ (@kM _ _ _ _ T.n_str sE (by rfl) (by decide) (by decide)) aF (by rfl)) (by rfl)) (by decide) (by decide) (by rfl) (by rfl)) (@eZ _ _ _ _ _ (@fP _ _ _ _ _ _ _ _ (@kS _ (K) rfl) (pv 0) (pv 1) (by with_unfolding_all rfl)))))),?_⟩
 refine ⟨_,rfl,_,_,_,t,_,rfl,rfl,ty,e3,_,rfl,?_⟩
 cases d with
 | str z =>
  cases (show x = .str z from hd)
  refine gK ⟨_,rfl,_,rfl,p,_,rfl,.inl hp,rfl,mL zs,?_⟩
  show Q (.bl (inV (.str z) (zs.map V.str))) H
  rw [tO]
  exact q
 | _=>exact cN q
def oF:Sp:=sp2 fun x y H Q=>∃ (d:Dv) (n:Int),Is H d x ∧ y = .int n ∧ Q (.bl (aHA n d)) H
theorem iY (T:Txt K mg C):Fc P w K mg base 1 "is_list_of" ["thing","most"] oF:=by
 refine T.d_p_is_list_of.fc nH jM (fun f cdv A outer s H vs Q E hr h=>?_)
 obtain ⟨x,y,rfl,d,n,hd,rfl,q⟩:=h
 obtain ⟨t,ty,e1,e2,e3,e4,_⟩:=mQ K hd
 refine ⟨_,(@aH _ _ _ (@aY _ _ _ _ (@dM _ _ _ _ _ _ _ (@aV _ _ _ _ _ _ _ _ _ (@cB _ (K) rfl) rfl T.n_isinstance bG (@aA _ _ _ _ _ (pv 0) (@aA _ _ _ _ _ (@kM _ _ _ _ T.n_list dA (by rfl) (by decide) (by decide)) aF (by rfl)) (by rfl)) (by decide) (by decide) (by rfl) (by rfl)) (@eZ _ _ _ _ _ (@oY _ _ _ _ _ _ _ _ _ _ _ _ lM lM aE (@aV _ _ _ _ _ _ _ _ _ (@bQ _ (K) rfl) rfl T.n_len cI (@aA _ _ _ _ _ (pv 0) aF (by rfl)) (by decide) (by decide) (by rfl) (by rfl)) (pv 1) (by with_unfolding_all rfl)))))),?_⟩
 refine ⟨_,rfl,_,_,_,t,_,rfl,rfl,ty,e4,_,rfl,?_⟩
 cases d with
 | lst ds =>
  obtain ⟨a,vs,rfl,o,hl⟩:=hd
  have hlen:=hl.length
  have q:Q (.bl (decide (1 ≤ ds.length) && decide ((ds.length:Int) ≤ n))) H:=q
  refine gK ⟨_,rfl,a,vs,rfl,.inl (SqL.of o),_,_,rfl,rfl,_,rfl,?_⟩
  rw [hlen]
  refine fZ (fun h1=>?_) (fun h1=>?_)
  ·refine ⟨_,rfl,_,_,rfl,rfl,?_⟩
   have h1':1 ≤ ds.length:=by have:=of_decide_eq_true h1;omega
   rw [decide_eq_true h1',Bool.true_and] at q
   exact q
  ·have h1':¬ 1 ≤ ds.length:=fun c=>h1 (decide_eq_true (by omega))
   rw [decide_eq_false h1',Bool.false_and] at q
   exact q
 | _=>exact cN q
def sP:Sp:=sp2 fun x y H Q=>∃ (d:Dv) (n:Int),Is H d x ∧ y = .int n ∧ Q (.bl (aAR n d)) H
theorem iI (T:Txt K mg C):Fc P w K mg base 1 "is_tuple_of" ["thing","length"] sP:=by
 refine T.d_p_is_tuple_of.fc lW jM (fun f cdv A outer s H vs Q E hr h=>?_)
 obtain ⟨x,y,rfl,d,n,hd,rfl,q⟩:=h
 obtain ⟨t,ty,e1,e2,e3,e4,e5⟩:=mQ K hd
 refine ⟨_,(@aH _ _ _ (@aY _ _ _ _ (@dM _ _ _ _ _ _ _ (@aV _ _ _ _ _ _ _ _ _ (@cB _ (K) rfl) rfl T.n_isinstance bG (@aA _ _ _ _ _ (pv 0) (@aA _ _ _ _ _ (@kM _ _ _ _ T.n_tuple vW (by rfl) (by decide) (by decide)) aF (by rfl)) (by rfl)) (by decide) (by decide) (by rfl) (by rfl)) (@eZ _ _ _ _ _ (@fP _ _ _ _ _ _ _ _ pA (@aV _ _ _ _ _ _ _ _ _ (@bQ _ (K) rfl) rfl T.n_len cI (@aA _ _ _ _ _ (pv 0) aF (by rfl)) (by decide) (by decide) (by rfl) (by rfl)) (pv 1) (@bV _ _ (by decide) (by decide))))))),?_⟩
 refine ⟨_,rfl,_,_,_,t,_,rfl,rfl,ty,e5,_,rfl,?_⟩
 cases d with
 | tup ds =>
  obtain ⟨a,vs,rfl,o,hl⟩:=hd
  have hlen:=hl.length
  have q:Q (.bl (decide ((ds.length:Int) = n))) H:=q
  refine gK ⟨_,rfl,a,vs,rfl,.inr (SqT.of o),_,rfl,rfl,?_⟩
  rw [hlen]
  have e:decide (V.int (ds.length:Int) = V.int n) = decide ((ds.length:Int) = n):=by rw [nX,Bool.eq_iff_iff];simp
  rw [e]
  exact q
 | _=>exact cN q
def sO:Sp:=sp1 fun x H Q=>∃ (p:Addr) (vs:List V) (ds:List Dv) (zs:List Str),x = .ref p ∧ H p = some (.lst vs) ∧ IsL H ds vs ∧ ds.map cK = zs.map some ∧ zs.length ≤ 1000 ∧ Q (.bl (decide zs.Nodup)) H
theorem zZ {H:Hp} {d:Dv} {v:V} {z:Str} (h:Is H d v) (e:cK d = some z):∃ a r,v = .ref a ∧ H a = some (.tup (.str z :: r)):=by
 cases d with
 | tup ds =>
  cases ds with
  | nil=>cases e
  | cons d0 ds =>
   cases d0 with
   | str y =>
    cases e
    obtain ⟨a,vs,rfl,o,v0,r,rfl,h0,_⟩:=h
    cases (show v0 = .str z from h0)
    exact ⟨a,r,rfl,o⟩
   | _=>cases e
 | _=>cases e
theorem rO (zs:List Str):(zs.map (Sum.inr:Str → Key)).Nodup ↔ zs.Nodup:=by
 induction zs with
 | nil=>simp
 | cons z zs ih =>
  rw [List.map_cons,List.nodup_cons,List.nodup_cons,ih]
  simp
theorem aDV (zs:List Str):(zs.map (Sum.inr:Str → Key)).map kV = zs.map V.str:=by
 rw [List.map_map];rfl
theorem iX (T:Txt K mg C):Fc P w K mg base 1 "none_twice" ["rows"] sO:=by
 refine T.d_p_none_twice.fcD nG kZ (fun f cdv A outer s H vs Q E hr h=>?_)
 obtain ⟨x,rfl,p,us,ds,zs,rfl,hp,hi,hz,hn,q⟩:=h
 have big:=cR
 have l1:=hi.length
 have l2:ds.length = zs.length:=by have:=congrArg List.length hz;simpa using this
 refine ⟨_,(@aH _ _ _ (@aY _ _ _ _ (@fP _ _ _ _ _ _ _ _ pA (@aV _ _ _ _ _ _ _ _ _ call_len_set rfl T.n_len cI (@aA _ _ _ _ _ (@cG _ _ _ _ _ _ _ _ _ (@qV _ rfl) rfl T.n_set sF (@aA _ _ _ _ _ (@dI _ _ _ _ _ _ _ _ _ _ _ ["row"] 1 [] rfl (@bU _ _ _ _ (pv 0)) (fun R=>@aL _ _ (0) _ (show List.Nodup (["row"]:List Str) by decide +kernel) rfl (Or.inl rfl) (by trivial)) (@bN _ _ (by decide)) (fun R=>cY) (fun R=>(@bH _ _ _ _ _ _ _ (@bE _ (K) rfl) (pv 0) aE (fun _ _=>rfl))) (by rfl) (by rfl) (by rfl) (by rfl) (by rfl) (by rfl) (by rfl) (by intro _;rfl)) aF (by rfl)) (by decide) (by decide) (by rfl) (by rfl)) aF (by rfl)) (by decide) (by decide) (by rfl) (by rfl)) (@aV _ _ _ _ _ _ _ _ _ (@bQ _ (K) rfl) rfl T.n_len cI (@aA _ _ _ _ _ (pv 0) aF (by rfl)) (by decide) (by decide) (by rfl) (by rfl)) (@bV _ _ (by decide) (by decide))))),?_⟩
 refine ⟨_,rfl,p,rfl,⟨_,SqL.of hp⟩,?_⟩
 refine cO (F:=K) (xs:=us) (by omega) (fun i ys H'=>H' = H ∧ ys = (zs.take i).map V.str) ⟨rfl,rfl⟩ ?_ ?_ ?_
 ·rintro i ys H' hi' ⟨rfl,rfl⟩
  exact ⟨SqL.of hp,by rw [List.length_map,List.length_take];omega⟩
 ·rintro i x ys H' K1 K2 hx ⟨rfl,rfl⟩ k1 k2
  have hil:i < us.length:=(List.getElem?_eq_some_iff.mp hx).1
  obtain ⟨d,ed⟩:∃ d,ds[i]? = some d:=⟨_,List.getElem?_eq_getElem (by omega)⟩
  obtain ⟨z,ez⟩:∃ z,zs[i]? = some z:=⟨_,List.getElem?_eq_getElem (by omega)⟩
  obtain ⟨v,ev,iv⟩:=hi.get ed
  rw [hx] at ev
  cases ev
  have ef:cK d = some z:=by
   have:=congrArg (fun l=>l[i]?) hz
   simpa [ed,ez] using this
  obtain ⟨a,r,rfl,o⟩:=zZ iv ef
  refine ⟨_,rfl,a,_,0,.str z,rfl,rfl,SqT.of o,aU (j:=0) rfl,k1 _ _ ⟨rfl,?_⟩⟩
  rw [List.take_add_one,ez]
  simp
 ·rintro ys H' ⟨rfl,rfl⟩
  intro p1 hp1
  have hys:(zs.take us.length).map V.str = (zs.map (Sum.inr:Str → Key)).map kV:=by
   rw [List.take_of_length_le (by omega),aDV]
  refine ⟨p1,zs.map Sum.inr,rfl,SqL.of (by rw [aD,hys]),by rw [List.length_map];exact hn,fun p2 hp2=>?_⟩
  have hle:=yN (zs.map (Sum.inr:Str → Key))
  rw [List.length_map] at hle
  have np:p ≠ p1:=aS hp hp1
  have np2:p ≠ p2:=aS (show upd H' p1 _ p = _ from (aO np).trans hp) hp2
  refine ⟨p2,_,_,rfl,aD,by omega,_,rfl,p,us,rfl,.inl (SqL.of (by rw [aO np2,aO np];exact hp)),rfl,?_⟩
  have e:decide (V.int ((jS (zs.map (Sum.inr:Str → Key))).length:Int) = V.int (us.length:Int)) = decide zs.Nodup:=by
   rw [nX,Bool.eq_iff_iff,decide_eq_true_iff,← rO,← aAE,List.length_map,beq_iff_eq]
   omega
  rw [e]
  exact dG.of ((gE.new hp2 rfl).trans (gE.lst hp1)) q
def xZ:Sp:=sp1 fun x H Q=>∃ d,Is H d x ∧ small d = true ∧ Q (.bl (bL d)) H
theorem qO (T:Txt K mg C):Fc P w K mg base 3 "is_field" ["thing"] xZ:=by
 have G_p_is_tuple_of:Fc P w K mg base 1 "is_tuple_of" ["thing","length"] sP:=iI T
 have G_p_is_name:Fc P w K mg base 1 "is_name" ["thing"] wE:=lO T
 have G_p_is_height:Fc P w K mg base 2 "is_height" ["thing"] lE:=gW T
 have G_p_is_amount:Fc P w K mg base 2 "is_amount" ["thing"] oH:=jL T
 refine T.d_p_is_field.fc qM kZ (fun f cdv A outer s H vs Q E hr h=>?_)
 obtain ⟨x,rfl,d,hd,hs,q⟩:=h
 refine ⟨_,(@aG _ _ _ _ _ (@dY _ _ _ _ _ _ _ _ (@gC _ _ _ _ (@gB _ _ _ (@cF _ _ _ _ _ _ _ _ _ _ G_p_is_tuple_of (hr.mono (by decide)) (@aA _ _ _ _ _ (pv 0) (@aA _ _ _ _ _ aE aF (by rfl)) (by rfl)) (by rfl) (by decide) (by rfl) (by rfl)) (by intro _;rfl))) (@aH _ _ _ (@aY _ _ _ _ mT)) cA) (@aH _ _ _ (@aY _ _ _ _ (@dM _ _ _ _ _ _ _ (@cF _ _ _ _ _ _ _ _ _ _ G_p_is_name (hr.mono (by decide)) (@aA _ _ _ _ _ (@bH _ _ _ _ _ _ _ (@bE _ (K) rfl) (pv 0) aE (fun _ _=>rfl)) aF (by rfl)) (by rfl) (by decide) (by rfl) (by rfl)) (@dM _ _ _ _ _ _ _ (@cF _ _ _ _ _ _ _ _ _ _ G_p_is_height (hr.mono (by decide)) (@aA _ _ _ _ _ (@bH _ _ _ _ _ _ _ (@bE _ (K) rfl) (pv 0) aE (fun _ _=>rfl)) aF (by rfl)) (by rfl) (by decide) (by rfl) (by rfl)) (@eZ _ _ _ _ _ (@cF _ _ _ _ _ _ _ _ _ _ G_p_is_amount (hr.mono (by decide)) (@aA _ _ _ _ _ (@bH _ _ _ _ _ _ _ (@bE _ (K) rfl) (pv 0) aE (fun _ _=>rfl)) aF (by rfl)) (by rfl) (by decide) (by rfl) (by rfl)))))))),?_⟩
 refine ⟨_,rfl,_,_,rfl,d,3,hd,rfl,_,rfl,?_⟩
 by_cases h3:∃ a b c,d = .tup [a,b,c]
 ·obtain ⟨a,b,c,rfl⟩:=h3
  obtain ⟨t,us,rfl,o,va,r1,rfl,ha,vb,r2,rfl,hb,vc,r3,rfl,hc,h0⟩:=hd
  cases (show r3 = [] from h0)
  have sa:small a = true:=by
   exact gM (rF hs) List.mem_cons_self
  have q:Q (.bl (lA a && (hG b && iJ c))) H:=q
  refine cN ⟨_,rfl,t,_,0,va,rfl,rfl,SqT.of o,aU (j:=0) rfl,_,rfl,a,ha,sa,_,rfl,?_⟩
  cases ea:lA a with
  | false=>rw [ea] at q;exact cN q
  | true =>
   rw [ea,Bool.true_and] at q
   refine gK ⟨_,rfl,t,_,1,vb,rfl,rfl,SqT.of o,aU (j:=1) rfl,_,rfl,b,hb,_,rfl,?_⟩
   cases eb:hG b with
   | false=>rw [eb] at q;exact cN q
   | true =>
    rw [eb,Bool.true_and] at q
    exact gK ⟨_,rfl,t,_,2,vc,rfl,rfl,SqT.of o,aU (j:=2) rfl,_,rfl,c,hc,q⟩
 ·have e1:bL d = false:=by
   unfold bL
   split
   ·rename_i a b c
    exact absurd ⟨a,b,c,rfl⟩ h3
   ·rfl
  have e2:aAR 3 d = false:=by
   cases d with
   | tup ds =>
    refine decide_eq_false (fun e=>?_)
    have e':ds.length = 3:=by omega
    match ds,e',h3 with
    | [a,b,c],_,h3=>exact h3 ⟨a,b,c,rfl⟩
   | _=>rfl
  dsimp only
  rw [e2]
  rw [e1] at q
  exact gK q
theorem mM {p:Dv → Bool} (hp:∀ d,p d = true → ∃ z,cK d = some z):∀ {ds:List Dv},ds.all p = true → ∃ zs:List Str,ds.map cK = zs.map some
 | [],_=>⟨[],rfl⟩
 | d :: ds,h=>by
  rw [List.all_cons,Bool.and_eq_true] at h
  obtain ⟨z,e⟩:=hp d h.1
  obtain ⟨zs,e2⟩:=mM hp h.2
  exact ⟨z :: zs,by rw [List.map_cons,List.map_cons,e,e2]⟩
theorem qR (d:Dv) (h:bL d = true):∃ z,cK d = some z:=by
 unfold bL at h
 split at h
 ·rename_i a b c
  rw [Bool.and_eq_true] at h
  cases a with
  | str z=>exact ⟨z,rfl⟩
  | _=>cases h.1
 ·cases h
def uN:Sp:=sp1 fun x H Q=>∃ d,Is H d x ∧ small d = true ∧ Q (.bl (iN d)) H
theorem nN (T:Txt K mg C):Fc P w K mg base 4 "are_fields" ["thing"] uN:=by
 have G_p_is_list_of:Fc P w K mg base 1 "is_list_of" ["thing","most"] oF:=iY T
 have G_p_is_field:Fc P w K mg base 3 "is_field" ["thing"] xZ:=qO T
 have G_p_none_twice:Fc P w K mg base 1 "none_twice" ["rows"] sO:=iX T
 refine T.d_p_are_fields.fcD nJ kZ (fun f cdv A outer s H vs Q E hr h=>?_)
 obtain ⟨x,rfl,d,hd,hs,q⟩:=h
 have big:=cR
 refine ⟨_,(@aH _ _ _ (@aY _ _ _ _ (@dM _ _ _ _ _ _ _ (@cF _ _ _ _ _ _ _ _ _ _ G_p_is_list_of (hr.mono (by decide)) (@aA _ _ _ _ _ (pv 0) (@aA _ _ _ _ _ (@nM _ _ _ _ T.g_MOST_FIELDS (by rfl) (by decide)) aF (by rfl)) (by rfl)) (by rfl) (by decide) (by rfl) (by rfl)) (@dM _ _ _ _ _ _ _ (@aV _ _ _ _ _ _ _ _ _ (@lU _ rfl) rfl T.n_all kJ (@aA _ _ _ _ _ (@dI _ _ _ _ _ _ _ _ _ _ _ ["row"] 1 [] rfl (@bU _ _ _ _ (pv 0)) (fun R=>@aL _ _ (0) _ (show List.Nodup (["row"]:List Str) by decide +kernel) rfl (Or.inl rfl) (by trivial)) (@bN _ _ (by decide)) (fun R=>cY) (fun R=>(@cF _ _ _ _ _ _ _ _ _ _ G_p_is_field (hr.mono (by decide)) (@aA _ _ _ _ _ (pv 0) aF (by rfl)) (by rfl) (by decide) (by rfl) (by rfl))) (by rfl) (by rfl) (by rfl) (by rfl) (by rfl) (by rfl) (by rfl) (by intro _;rfl)) aF (by rfl)) (by decide) (by decide) (by rfl) (by rfl)) (@eZ _ _ _ _ _ (@cF _ _ _ _ _ _ _ _ _ _ G_p_none_twice (hr.mono (by decide)) (@aA _ _ _ _ _ (pv 0) aF (by rfl)) (by rfl) (by decide) (by rfl) (by rfl))))))),?_⟩
 refine ⟨_,rfl,_,_,rfl,d,12,hd,rfl,_,rfl,?_⟩
 cases d with
 | lst ds =>
  obtain ⟨p,us,rfl,o,hi⟩:=hd
  have l1:=hi.length
  have hs':=Bool.and_eq_true_iff.mp (show (decide (ds.length ≤ 1000) && gA ds) = true from hs)
  have l2:ds.length ≤ 1000:=of_decide_eq_true hs'.1
  have q:Q (.bl ((decide (1 ≤ ds.length) && decide (ds.length ≤ 12)) && (ds.all bL && decide ((ds.map cK).Nodup)))) H:=q
  have e0:(decide (1 ≤ ds.length) && decide ((ds.length:Int) ≤ 12)) = (decide (1 ≤ ds.length) && decide (ds.length ≤ 12)):=by
   congr 1
   rw [Bool.eq_iff_iff,decide_eq_true_iff,decide_eq_true_iff]
   omega
  show if (decide (1 ≤ ds.length) && decide ((ds.length:Int) ≤ 12)) = true then _ else _
  rw [e0]
  refine fZ (fun h1=>?_) (fun h1=>?_)
  ·rw [h1,Bool.true_and] at q
   refine ⟨_,rfl,p,rfl,⟨_,SqL.of o⟩,?_⟩
   refine cO (F:=K) (xs:=us) (by omega) (fun i ys H'=>H' = H ∧ ys = (ds.take i).map fun d=>V.bl (bL d)) ⟨rfl,rfl⟩ ?_ ?_ ?_
   ·rintro i ys H' hi' ⟨rfl,rfl⟩
    exact ⟨SqL.of o,by rw [List.length_map,List.length_take];omega⟩
   ·rintro i x ys H' K1 K2 hx ⟨rfl,rfl⟩ k1 k2
    have hil:i < us.length:=(List.getElem?_eq_some_iff.mp hx).1
    obtain ⟨d,ed⟩:∃ d,ds[i]? = some d:=⟨_,List.getElem?_eq_getElem (by omega)⟩
    obtain ⟨v,ev,iv⟩:=hi.get ed
    rw [hx] at ev
    cases ev
    refine ⟨_,rfl,_,rfl,d,iv,gM hs'.2 (List.mem_of_getElem? ed),k1 _ _ ⟨rfl,?_⟩⟩
    rw [List.take_add_one,ed]
    simp
   ·rintro ys H' ⟨rfl,rfl⟩
    intro p1 hp1
    have np:p ≠ p1:=aS o hp1
    refine ⟨p1,ds.map bL,rfl,SqL.of ?_,_,rfl,?_⟩
    ·rw [aD,List.take_of_length_le (by omega),List.map_map]
     rfl
    have e1:(ds.map bL).all id = ds.all bL:=by rw [List.all_map];rfl
    rw [e1]
    refine fZ (fun h2=>?_) (fun h2=>?_)
    ·rw [h2,Bool.true_and] at q
     obtain ⟨zs,ez⟩:=mM qR h2
     have l3:zs.length = ds.length:=by have:=congrArg List.length ez;simpa using this.symm
     refine ⟨_,rfl,_,rfl,p,us,ds,zs,rfl,by rw [aO np];exact o,IsL.same (aM.upd hp1) _ _ hi,ez,by omega,?_⟩
     have e2:decide zs.Nodup = decide (ds.map cK).Nodup:=by rw [ez,Bool.eq_iff_iff,decide_eq_true_iff,decide_eq_true_iff,fI]
     rw [e2]
     exact dG.of (gE.lst hp1) q
    ·have h2':ds.all bL = false:=by simpa using h2
     rw [h2'] at q
     exact dG.of (gE.lst hp1) q
  ·have h1':(decide (1 ≤ ds.length) && decide (ds.length ≤ 12)) = false:=by simpa using h1
   rw [h1'] at q
   exact dG.of (.refl _) q
 | _=>exact cN (dG.of (.refl _) q)
def xU (K:PySem.W.Frag):Sp:=sp3 fun x y u H Q=>∃ (a b:Dv) (p:Addr) (zs:List Str),Is H a x ∧ Is H b y ∧ u = .ref p ∧ SqL K H p (zs.map V.str) ∧ Q (.bl (jU zs a b)) H
theorem pB (T:Txt K mg C):Fc P w K mg base 2 "are_sides" ["one","other","sides"] (xU K):=by
 have G_p_is_one_of:Fc P w K mg base 1 "is_one_of" ["thing","names"] (sQ K):=jK T
 refine T.d_p_are_sides.fc oN aDY (fun f cdv A outer s H vs Q E hr h=>?_)
 obtain ⟨x,y,u,rfl,a,b,p,zs,ha,hb,rfl,hp,q⟩:=h
 refine ⟨_,(@aH _ _ _ (@aY _ _ _ _ (@dM _ _ _ _ _ _ _ (@cF _ _ _ _ _ _ _ _ _ _ G_p_is_one_of (hr.mono (by decide)) (@aA _ _ _ _ _ (pv 0) (@aA _ _ _ _ _ (pv 2) aF (by rfl)) (by rfl)) (by rfl) (by decide) (by rfl) (by rfl)) (@dM _ _ _ _ _ _ _ (@cF _ _ _ _ _ _ _ _ _ _ G_p_is_one_of (hr.mono (by decide)) (@aA _ _ _ _ _ (pv 1) (@aA _ _ _ _ _ (pv 2) aF (by rfl)) (by rfl)) (by rfl) (by decide) (by rfl) (by rfl)) (@eZ _ _ _ _ _ (@fP _ _ _ _ _ _ _ _ vC (pv 0) (pv 1) (@bV _ _ (by decide) (by decide)))))))),?_⟩
 have q:Q (.bl (mU zs a && (mU zs b && !deq a b))) H:=q
 refine ⟨_,rfl,_,rfl,_,_,rfl,a,p,zs,ha,rfl,hp,_,rfl,?_⟩
 cases ea:mU zs a with
 | false=>rw [ea] at q;exact cN q
 | true =>
  rw [ea,Bool.true_and] at q
  refine gK ⟨_,rfl,_,rfl,_,_,rfl,b,p,zs,hb,rfl,hp,_,rfl,?_⟩
  cases eb:mU zs b with
  | false=>rw [eb] at q;exact cN q
  | true =>
   rw [eb,Bool.true_and] at q
   cases a with
   | str z =>
    cases b with
    | str z' =>
     cases (show x = .str z from ha)
     cases (show y = .str z' from hb)
     refine gK ⟨_,rfl,_,rfl,rfl,?_⟩
     have e:(!decide (V.str z = V.str z')) = !deq (.str z) (.str z'):=by rw [tT];rfl
     rw [e]
     exact q
    | _=>cases eb
   | _=>cases ea
def aAV:Sp:=sp2 fun x y H Q=>∃ (d:Dv) (j:Int),Is H d x ∧ y = .int j ∧ Q (.bl (iS (.int j) d)) H
theorem tF (T:Txt K mg C):Fc P w K mg base 3 "is_sill" ["thing","crown"] aAV:=by
 have G_p_is_height:Fc P w K mg base 2 "is_height" ["thing"] lE:=gW T
 refine T.d_p_is_sill.fc sV jM (fun f cdv A outer s H vs Q E hr h=>?_)
 obtain ⟨x,y,rfl,d,j,hd,rfl,q⟩:=h
 refine ⟨_,(@aH _ _ _ (@aY _ _ _ _ (@aGW _ _ _ _ _ _ _ (@fP _ _ _ _ _ _ _ _ wT (pv 0) jI (@bV _ _ (by decide) (by decide))) (@eZ _ _ _ _ _ (@dM _ _ _ _ _ _ _ (@cF _ _ _ _ _ _ _ _ _ _ G_p_is_height (hr.mono (by decide)) (@aA _ _ _ _ _ (pv 0) aF (by rfl)) (by rfl) (by decide) (by rfl) (by rfl)) (@eZ _ _ _ _ _ (@fP _ _ _ _ _ _ _ _ yH (pv 0) (pv 1) (@bV _ _ (by decide) (by decide))))))))),?_⟩
 refine ⟨_,rfl,rfl,_,rfl,?_⟩
 cases d with
 | non =>
  cases (show x = .non from hd)
  rw [decide_eq_true rfl]
  exact gK q
 | int i =>
  cases (show x = .int i from hd)
  rw [decide_eq_false (show ¬ V.int i = V.non by intro z;cases z)]
  refine cN ⟨_,rfl,_,rfl,.int i,rfl,_,rfl,?_⟩
  have q:Q (.bl (hgt i && decide (i < j))) H:=q
  show if hgt i = true then _ else _
  cases e:hgt i with
  | false=>rw [e] at q;exact cN q
  | true=>rw [e,Bool.true_and] at q;exact gK ⟨_,rfl,_,rfl,_,_,rfl,rfl,q⟩
 | bl b =>
  cases (show x = .bl b from hd)
  rw [decide_eq_false (show ¬ V.bl b = V.non by intro z;cases z)]
  exact cN ⟨_,rfl,_,rfl,.bl b,rfl,_,rfl,cN q⟩
 | str b =>
  cases (show x = .str b from hd)
  rw [decide_eq_false (show ¬ V.str b = V.non by intro z;cases z)]
  exact cN ⟨_,rfl,_,rfl,.str b,rfl,_,rfl,cN q⟩
 | lst b =>
  obtain ⟨a,us,rfl,o⟩:=id hd
  rw [decide_eq_false (show ¬ V.ref a = V.non by intro z;cases z)]
  exact cN ⟨_,rfl,_,rfl,.lst b,hd,_,rfl,cN q⟩
 | tup b =>
  obtain ⟨a,us,rfl,o⟩:=id hd
  rw [decide_eq_false (show ¬ V.ref a = V.non by intro z;cases z)]
  exact cN ⟨_,rfl,_,rfl,.tup b,hd,_,rfl,cN q⟩
 | dct b c =>
  obtain ⟨a,us,rfl,o⟩:=id hd
  rw [decide_eq_false (show ¬ V.ref a = V.non by intro z;cases z)]
  exact cN ⟨_,rfl,_,rfl,.dct b c,hd,_,rfl,cN q⟩
def aAX (K:PySem.W.Frag):Sp:=sp2 fun x y H Q=>∃ (d:Dv) (p:Addr) (zs:List Str),Is H d x ∧ small d = true ∧ y = .ref p ∧ SqL K H p (zs.map V.str) ∧ Q (.bl (cJ zs d)) H
theorem tG (T:Txt K mg C):Fc P w K mg base 4 "is_dyke" ["thing","sides"] (aAX K):=by
 have G_p_is_tuple_of:Fc P w K mg base 1 "is_tuple_of" ["thing","length"] sP:=iI T
 have G_p_is_name:Fc P w K mg base 1 "is_name" ["thing"] wE:=lO T
 have G_p_are_sides:Fc P w K mg base 2 "are_sides" ["one","other","sides"] (xU K):=pB T
 have G_p_is_height:Fc P w K mg base 2 "is_height" ["thing"] lE:=gW T
 have G_p_is_amount:Fc P w K mg base 2 "is_amount" ["thing"] oH:=jL T
 have G_p_is_sill:Fc P w K mg base 3 "is_sill" ["thing","crown"] aAV:=tF T
 refine T.d_p_is_dyke.fc sX jM (fun f cdv A outer s H vs Q E hr h=>?_)
 obtain ⟨x,y,rfl,d,p,zs,hd,hs,rfl,hp,q⟩:=h
 refine ⟨_,(@aG _ _ _ _ _ (@dY _ _ _ _ _ _ _ _ (@PW.pt _ _ _ (@mS _ _ _ _ _ _ _ (@gC _ _ _ _ (@gB _ _ _ (@cF _ _ _ _ _ _ _ _ _ _ G_p_is_tuple_of (hr.mono (by decide)) (@aA _ _ _ _ _ (pv 0) (@aA _ _ _ _ _ aE aF (by rfl)) (by rfl)) (by rfl) (by decide) (by rfl) (by rfl)) (by intro _;rfl))) (@mS _ _ _ _ _ _ _ (@gC _ _ _ _ (@gB _ _ _ (@cF _ _ _ _ _ _ _ _ _ _ G_p_is_name (hr.mono (by decide)) (@aA _ _ _ _ _ (@bH _ _ _ _ _ _ _ (@bE _ (K) rfl) (pv 0) aE (fun _ _=>rfl)) aF (by rfl)) (by rfl) (by decide) (by rfl) (by rfl)) (by intro _;rfl))) (@oS _ _ _ _ (@gC _ _ _ _ (@gB _ _ _ (@cF _ _ _ _ _ _ _ _ _ _ G_p_are_sides (hr.mono (by decide)) (@aA _ _ _ _ _ (@bH _ _ _ _ _ _ _ (@bE _ (K) rfl) (pv 0) aE (fun _ _=>rfl)) (@aA _ _ _ _ _ (@bH _ _ _ _ _ _ _ (@bE _ (K) rfl) (pv 0) aE (fun _ _=>rfl)) (@aA _ _ _ _ _ (pv 1) aF (by rfl)) (by rfl)) (by rfl)) (by rfl) (by decide) (by rfl) (by rfl)) (by intro _;rfl))))))) (@aH _ _ _ (@aY _ _ _ _ mT)) cA) (@aH _ _ _ (@aY _ _ _ _ (@dM _ _ _ _ _ _ _ (@cF _ _ _ _ _ _ _ _ _ _ G_p_is_height (hr.mono (by decide)) (@aA _ _ _ _ _ (@bH _ _ _ _ _ _ _ (@bE _ (K) rfl) (pv 0) aE (fun _ _=>rfl)) aF (by rfl)) (by rfl) (by decide) (by rfl) (by rfl)) (@dM _ _ _ _ _ _ _ (@cF _ _ _ _ _ _ _ _ _ _ G_p_is_amount (hr.mono (by decide)) (@aA _ _ _ _ _ (@bH _ _ _ _ _ _ _ (@bE _ (K) rfl) (pv 0) aE (fun _ _=>rfl)) aF (by rfl)) (by rfl) (by decide) (by rfl) (by rfl)) (@eZ _ _ _ _ _ (@cF _ _ _ _ _ _ _ _ _ _ G_p_is_sill (hr.mono (by decide)) (@aA _ _ _ _ _ (@bH _ _ _ _ _ _ _ (@bE _ (K) rfl) (pv 0) aE (fun _ _=>rfl)) (@aA _ _ _ _ _ (@bH _ _ _ _ _ _ _ (@bE _ (K) rfl) (pv 0) aE (fun _ _=>rfl)) aF (by rfl)) (by rfl)) (by rfl) (by decide) (by rfl) (by rfl)))))))),?_⟩
 refine ⟨_,rfl,_,_,rfl,d,6,hd,rfl,_,rfl,?_⟩
 by_cases h6:∃ n a b c r l,d = .tup [n,a,b,c,r,l]
 ·obtain ⟨n,a,b,c,r,l,rfl⟩:=h6
  obtain ⟨t,us,rfl,o,v0,r0,rfl,i0,v1,r1,rfl,i1,v2,r2,rfl,i2,v3,r3,rfl,i3,v4,r4,rfl,i4,v5,r5,rfl,i5,h0⟩:=hd
  cases (show r5 = [] from h0)
  have sn:small n = true:=by
   exact gM (rF hs) List.mem_cons_self
  have q:Q (.bl (lA n && jU zs a b && (hG c && (iJ r && iS c l)))) H:=q
  have at_:∀ (j:Nat) (v:V),([v0,v1,v2,v3,v4,v5]:List V)[j]? = some v → atI [v0,v1,v2,v3,v4,v5] (j:Int) = some v:=fun j v e=>aU e
  refine cN ⟨_,rfl,t,_,0,v0,rfl,rfl,SqT.of o,at_ 0 _ rfl,_,rfl,n,i0,sn,_,rfl,?_⟩
  cases en:lA n with
  | false=>rw [en] at q;exact gK q
  | true =>
   rw [en,Bool.true_and] at q
   refine cN ⟨_,rfl,t,_,1,v1,rfl,rfl,SqT.of o,at_ 1 _ rfl,_,rfl,t,_,2,v2,rfl,rfl,SqT.of o,at_ 2 _ rfl,_,rfl,_,_,_,rfl,a,b,p,zs,i1,i2,rfl,hp,_,rfl,?_⟩
   cases es:jU zs a b with
   | false=>rw [es] at q;exact gK q
   | true =>
    rw [es,Bool.true_and] at q
    refine cN ⟨_,rfl,t,_,3,v3,rfl,rfl,SqT.of o,at_ 3 _ rfl,_,rfl,c,i3,_,rfl,?_⟩
    cases ec:hG c with
    | false=>rw [ec] at q;exact cN q
    | true =>
     rw [ec,Bool.true_and] at q
     refine gK ⟨_,rfl,t,_,4,v4,rfl,rfl,SqT.of o,at_ 4 _ rfl,_,rfl,r,i4,_,rfl,?_⟩
     cases er:iJ r with
     | false=>rw [er] at q;exact cN q
     | true =>
      rw [er,Bool.true_and] at q
      cases c with
      | int j =>
       cases (show v3 = .int j from i3)
       exact gK ⟨_,rfl,t,_,5,v5,rfl,rfl,SqT.of o,at_ 5 _ rfl,_,rfl,t,_,3,_,rfl,rfl,SqT.of o,at_ 3 _ rfl,_,_,rfl,l,j,i5,rfl,q⟩
      | _=>cases ec
 ·have e1:cJ zs d = false:=by
   unfold cJ
   split
   ·rename_i n a b c r l
    exact absurd ⟨n,a,b,c,r,l,rfl⟩ h6
   ·rfl
  have e2:aAR 6 d = false:=by
   cases d with
   | tup ds =>
    refine decide_eq_false (fun e=>?_)
    have e':ds.length = 6:=by omega
    match ds,e',h6 with
    | [n,a,b,c,r,l],_,h6=>exact h6 ⟨n,a,b,c,r,l,rfl⟩
   | _=>rfl
  dsimp only
  rw [e2]
  rw [e1] at q
  exact gK q
theorem tN {zs:List Str} (d:Dv) (h:cJ zs d = true):∃ z,cK d = some z:=by
 unfold cJ at h
 split at h
 ·rename_i n a b c r l
  rw [Bool.and_eq_true,Bool.and_eq_true] at h
  cases n with
  | str z=>exact ⟨z,rfl⟩
  | _=>cases h.1.1
 ·cases h
def yA (K:PySem.W.Frag):Sp:=sp2 fun x y H Q=>∃ (d:Dv) (p:Addr) (zs:List Str),Is H d x ∧ small d = true ∧ y = .ref p ∧ H p = some (.lst (zs.map V.str)) ∧ Q (.bl (jV zs d)) H
theorem pE (T:Txt K mg C):Fc P w K mg base 5 "are_dykes" ["thing","sides"] (yA K):=by
 have G_p_is_list_of:Fc P w K mg base 1 "is_list_of" ["thing","most"] oF:=iY T
 have G_p_is_dyke:Fc P w K mg base 4 "is_dyke" ["thing","sides"] (aAX K):=tG T
 have G_p_none_twice:Fc P w K mg base 1 "none_twice" ["rows"] sO:=iX T
 refine T.d_p_are_dykes.fcD oO jM (fun f cdv A outer s H vs Q E hr h=>?_)
 obtain ⟨x,y,rfl,d,p0,zs0,hd,hs,rfl,hp0,q⟩:=h
 have big:=cR
 refine ⟨_,(@aH _ _ _ (@aY _ _ _ _ (@dM _ _ _ _ _ _ _ (@cF _ _ _ _ _ _ _ _ _ _ G_p_is_list_of (hr.mono (by decide)) (@aA _ _ _ _ _ (pv 0) (@aA _ _ _ _ _ (@nM _ _ _ _ T.g_MOST_DYKES (by rfl) (by decide)) aF (by rfl)) (by rfl)) (by rfl) (by decide) (by rfl) (by rfl)) (@dM _ _ _ _ _ _ _ (@aV _ _ _ _ _ _ _ _ _ (@lU _ rfl) rfl T.n_all kJ (@aA _ _ _ _ _ (@dI _ _ _ _ _ _ _ _ _ _ _ ["row","sides"] 1 [1] rfl (@bU _ _ _ _ (pv 0)) (fun R=>@aL _ _ (0) _ (show List.Nodup (["row","sides"]:List Str) by decide +kernel) rfl (Or.inl rfl) (by trivial)) (@bN _ _ (by decide)) (fun R=>cY) (fun R=>(@cF _ _ _ _ _ _ _ _ _ _ G_p_is_dyke (hr.mono (by decide)) (@aA _ _ _ _ _ (pv 0) (@aA _ _ _ _ _ (pv 1) aF (by rfl)) (by rfl)) (by rfl) (by decide) (by rfl) (by rfl))) (by rfl) (by rfl) (by rfl) (by rfl) (by rfl) (by rfl) (by rfl) (by intro _;rfl)) aF (by rfl)) (by decide) (by decide) (by rfl) (by rfl)) (@eZ _ _ _ _ _ (@cF _ _ _ _ _ _ _ _ _ _ G_p_none_twice (hr.mono (by decide)) (@aA _ _ _ _ _ (pv 0) aF (by rfl)) (by rfl) (by decide) (by rfl) (by rfl))))))),?_⟩
 refine ⟨_,rfl,_,_,rfl,d,40,hd,rfl,_,rfl,?_⟩
 cases d with
 | lst ds =>
  obtain ⟨p,us,rfl,o,hi⟩:=hd
  have l1:=hi.length
  have hs':=Bool.and_eq_true_iff.mp (show (decide (ds.length ≤ 1000) && gA ds) = true from hs)
  have l2:ds.length ≤ 1000:=of_decide_eq_true hs'.1
  have q:Q (.bl ((decide (1 ≤ ds.length) && decide (ds.length ≤ 40)) && (ds.all (cJ zs0) && decide ((ds.map cK).Nodup)))) H:=q
  have e0:(decide (1 ≤ ds.length) && decide ((ds.length:Int) ≤ 40)) = (decide (1 ≤ ds.length) && decide (ds.length ≤ 40)):=by
   congr 1
   rw [Bool.eq_iff_iff,decide_eq_true_iff,decide_eq_true_iff]
   omega
  show if (decide (1 ≤ ds.length) && decide ((ds.length:Int) ≤ 40)) = true then _ else _
  rw [e0]
  refine fZ (fun h1=>?_) (fun h1=>?_)
  ·rw [h1,Bool.true_and] at q
   refine ⟨_,rfl,p,rfl,⟨_,SqL.of o⟩,?_⟩
   refine cO (F:=K) (xs:=us) (by omega) (fun i ys H'=>H' = H ∧ ys = (ds.take i).map fun d=>V.bl (cJ zs0 d)) ⟨rfl,rfl⟩ ?_ ?_ ?_
   ·rintro i ys H' hi' ⟨rfl,rfl⟩
    exact ⟨SqL.of o,by rw [List.length_map,List.length_take];omega⟩
   ·rintro i x ys H' K1 K2 hx ⟨rfl,rfl⟩ k1 k2
    have hil:i < us.length:=(List.getElem?_eq_some_iff.mp hx).1
    obtain ⟨d,ed⟩:∃ d,ds[i]? = some d:=⟨_,List.getElem?_eq_getElem (by omega)⟩
    obtain ⟨v,ev,iv⟩:=hi.get ed
    rw [hx] at ev
    cases ev
    refine ⟨_,rfl,_,rfl,_,_,rfl,d,p0,zs0,iv,gM hs'.2 (List.mem_of_getElem? ed),rfl,SqL.of hp0,k1 _ _ ⟨rfl,?_⟩⟩
    rw [List.take_add_one,ed]
    simp
   ·rintro ys H' ⟨rfl,rfl⟩
    intro p1 hp1
    have np:p ≠ p1:=aS o hp1
    refine ⟨p1,ds.map (cJ zs0),rfl,SqL.of ?_,_,rfl,?_⟩
    ·rw [aD,List.take_of_length_le (by omega),List.map_map]
     rfl
    have e1:(ds.map (cJ zs0)).all id = ds.all (cJ zs0):=by rw [List.all_map];rfl
    rw [e1]
    refine fZ (fun h2=>?_) (fun h2=>?_)
    ·rw [h2,Bool.true_and] at q
     obtain ⟨zs,ez⟩:=mM tN h2
     have l3:zs.length = ds.length:=by have:=congrArg List.length ez;simpa using this.symm
     refine ⟨_,rfl,_,rfl,p,us,ds,zs,rfl,by rw [aO np];exact o,IsL.same (aM.upd hp1) _ _ hi,ez,by omega,?_⟩
     have e2:decide zs.Nodup = decide (ds.map cK).Nodup:=by rw [ez,Bool.eq_iff_iff,decide_eq_true_iff,decide_eq_true_iff,fI]
     rw [e2]
     exact dG.of (gE.lst hp1) q
    ·have h2':ds.all (cJ zs0) = false:=by simpa using h2
     rw [h2'] at q
     exact dG.of (gE.lst hp1) q
  ·have h1':(decide (1 ≤ ds.length) && decide (ds.length ≤ 40)) = false:=by simpa using h1
   rw [h1'] at q
   exact dG.of (.refl _) q
 | _=>exact cN (dG.of (.refl _) q)
def aAW (C:Addr):Sp:=sp3 fun x v1 v2 H Q=>∃ (p dx:Addr) (fs ds:List Dv),x = .ref p ∧ H p = some (.ins C dx []) ∧ Is H (.lst fs) v1 ∧ Is H (.lst ds) v2 ∧ small (.lst fs) = true ∧ small (.lst ds) = true ∧
 iN (.lst fs) = true ∧ jV ("sea" :: fs.map aJ) (.lst ds) = true ∧ ∀ H',LandAt C H' p fs ds → (∀ b o,H b = some o → b ≠ p → H' b = some o) → Q .non H'
def oE (C:Addr) (sel:List Dv → List Dv → List Dv):Sp:=sp1 fun x H Q=>∃ (p:Addr) (fs ds:List Dv),x = .ref p ∧ LandAt C H p fs ds ∧ ∀ (l:Addr) (vs:List V) (H':Hp),aM H H' → H l = none → H' l = some (.lst vs) → IsL H' (sel fs ds) vs → Q (.ref l) H'
def oB (C:Addr) (sel:List Dv → List Dv → List Str):Sp:=sp1 fun x H Q=>∃ (p:Addr) (fs ds:List Dv),x = .ref p ∧ LandAt C H p fs ds ∧ ∀ (l:Addr) (H':Hp),aM H H' → H l = none → H' l = some (.lst ((sel fs ds).map V.str)) → Q (.ref l) H'
def xV (C:Addr) (sel:List Dv → List Dv → List Dv):Sp:=sp1 fun x H Q=>∃ (p:Addr) (fs ds:List Dv),x = .ref p ∧ LandAt C H p fs ds ∧ ∀ (l:Addr) (vs:List V),H l = none → IsL H (sel fs ds) vs → Q (.ref l) (upd H l (.lst vs))
def xS (C:Addr) (sel:List Dv → List Dv → List Str):Sp:=sp1 fun x H Q=>∃ (p:Addr) (fs ds:List Dv),x = .ref p ∧ LandAt C H p fs ds ∧ ∀ (l:Addr),H l = none → Q (.ref l) (upd H l (.lst ((sel fs ds).map V.str)))
theorem aBI {C:Addr} {sel:List Dv → List Dv → List Dv}:∀ vs H Q E,oE C sel vs H Q E → xV C sel vs H Q E:=by
 rintro vs H Q E ⟨x,rfl,p,fs,ds,rfl,L,q⟩
 exact ⟨_,rfl,p,fs,ds,rfl,L,fun l us hl hi=>q l us _ (aM.upd hl) hl aD (IsL.same (aM.upd hl) _ _ hi)⟩
theorem aAU {C:Addr} {sel:List Dv → List Dv → List Str}:∀ vs H Q E,oB C sel vs H Q E → xS C sel vs H Q E:=by
 rintro vs H Q E ⟨x,rfl,p,fs,ds,rfl,L,q⟩
 exact ⟨_,rfl,p,fs,ds,rfl,L,fun l hl=>q l _ (aM.upd hl) hl aD⟩
theorem mC (T:Txt K mg C):Mc P w K mg base 1 C "dykes" ["self"] (xV C fun _ ds=>ds):=by
 refine T.m_land_p_dykes.mcD nK kZ (fun f cdv A outer s H vs Q E hr h=>?_)
 obtain ⟨x,rfl,p,fs,ds,rfl,L,q⟩:=h
 obtain ⟨dx,d1,d2,hx,t1,⟨k1,h1,e1,i1⟩⟩:=L.ex
 refine ⟨_,(@aH _ _ _ (@aY _ _ _ _ (@cG _ _ _ _ _ _ _ _ _ (@iM _ rfl) rfl T.n_list dA (@aA _ _ _ _ _ (@aBS _ _ _ _ _ _ _ _ _ PySem.F.plainAttrs_dict PySem.F.slot_dict_values PySem.F.type_dict_values rQ (@wQ _ _ _ _ _ (pv 0) rfl) (by rfl) (by rfl)) aF (by rfl)) (by decide) (by decide) (by rfl) (by rfl)))),?_⟩
 refine ⟨_,rfl,p,C,dx,_,_,rfl,hx,T.cl_Land,T.a_dyke_rows,aDZ _ _,.inr (.inr (.inl ⟨rfl,.inl ⟨_,h1⟩⟩)),d2,k1,rfl,rfl,.inl h1,fun v hv=>?_⟩
 have nv:d2 ≠ v:=aS h1 hv
 refine ⟨v,d2,k1,rfl,aD,.inl (by rw [aO nv];exact h1),fun l hl=>?_⟩
 exact dG.of (gE.under hv rfl hl) (q l _ ((aM.upd hv).free hl) i1)
theorem gD (T:Txt K mg C):Mc P w K mg base 1 C "dykes" ["self"] (oE C fun _ ds=>ds):=(mC T).imp aBI
theorem xA {kvs:List (Key × V)} {ds:List Dv} (e:kvs.map (·.1) = ds.map hX):(kvs.map fun kv=>kV kv.1) = (ds.map aJ).map V.str:=by
 have h:(kvs.map fun kv=>kV kv.1) = (kvs.map (·.1)).map kV:=by rw [List.map_map];rfl
 rw [h,e,List.map_map,List.map_map]
 rfl
theorem iP (T:Txt K mg C):Mc P w K mg base 1 C "field_names" ["self"] (xS C fun fs _=>fs.map aJ):=by
 refine T.m_land_p_field_names.mc iZ kZ (fun f cdv A outer s H vs Q E hr h=>?_)
 obtain ⟨x,rfl,p,fs,ds,rfl,L,q⟩:=h
 obtain ⟨dx,d1,d2,hx,⟨k1,h1,e1,i1⟩,t2⟩:=L.ex
 refine ⟨_,(@aH _ _ _ (@aY _ _ _ _ (@cG _ _ _ _ _ _ _ _ _ (@fB _ rfl) rfl T.n_list dA (@aA _ _ _ _ _ (@wQ _ _ _ _ _ (pv 0) rfl) aF (by rfl)) (by decide) (by decide) (by rfl) (by rfl)))),?_⟩
 refine ⟨_,rfl,p,C,dx,_,_,rfl,hx,T.cl_Land,T.a_field_rows,yK _ _,d1,k1,rfl,.inl h1,fun l hl=>?_⟩
 have:=q l hl
 rw [xA e1]
 exact this
theorem jA (T:Txt K mg C):Mc P w K mg base 1 C "field_names" ["self"] (oB C fun fs _=>fs.map aJ):=(iP T).imp aAU
theorem hJ {H:Hp} {n a b:Str} {c r:Int} {s:Dv} {v:V} (h:Is H (.tup [.str n,.str a,.str b,.int c,.int r,s]) v):∃ t vs,v = .ref t ∧ H t = some (.tup [.str n,.str a,.str b,.int c,.int r,vs]) ∧ Is H s vs:=by
 obtain ⟨t,us,rfl,o,v0,r0,rfl,i0,v1,r1,rfl,i1,v2,r2,rfl,i2,v3,r3,rfl,i3,v4,r4,rfl,i4,v5,r5,rfl,i5,h0⟩:=h
 cases (show r5 = [] from h0)
 cases (show v0 = _ from i0)
 cases (show v1 = _ from i1)
 cases (show v2 = _ from i2)
 cases (show v3 = _ from i3)
 cases (show v4 = _ from i4)
 exact ⟨t,v5,rfl,o,i5⟩
theorem fL {H:Hp} {n:Str} {g e:Int} {v:V} (h:Is H (.tup [.str n,.int g,.int e]) v):∃ t,v = .ref t ∧ H t = some (.tup [.str n,.int g,.int e]):=by
 obtain ⟨t,us,rfl,o,v0,r0,rfl,i0,v1,r1,rfl,i1,v2,r2,rfl,i2,h0⟩:=h
 cases (show r2 = [] from h0)
 cases (show v0 = _ from i0)
 cases (show v1 = _ from i1)
 cases (show v2 = _ from i2)
 exact ⟨t,rfl,o⟩
theorem lP (T:Txt K mg C):Mc P w K mg base 2 C "sluices" ["self"] (oB C fun _ ds=>(ds.filter cQ).map aJ):=by
 have G_land_p_dykes:Mc P w K mg base 1 C "dykes" ["self"] (oE C fun _ ds=>ds):=gD T
 refine T.m_land_p_sluices.mc lG kZ (fun f cdv A outer s H vs Q E hr h=>?_)
 obtain ⟨x,rfl,p,fs,ds,rfl,L,q⟩:=h
 have big:=cR
 obtain ⟨dx,d1,d2,hx,_⟩:=L.ex
 have gd:=(kG _ _).mp L.okd
 refine ⟨_,(@aH _ _ _ (@aY _ _ _ _ (@dI _ _ _ _ _ _ _ _ _ _ _ ["dyke"] 1 [] rfl (@bU _ _ _ _ (@rK _ _ _ _ _ _ _ _ _ _ _ T.cl_Land G_land_p_dykes (hr.mono (by decide)) (pv 0) (by rfl))) (fun R=>@aL _ _ (0) _ (show List.Nodup (["dyke"]:List Str) by decide +kernel) rfl (Or.inl rfl) (by trivial)) (@bN _ _ (by decide)) (fun R=>@uY _ _ _ (@bT _ _ _ _ _ _ _ _ tD (@bH _ _ _ _ _ _ _ (@bE _ (K) rfl) (pv 0) aE (fun _ _=>rfl)) jI (@bV _ _ (by decide) (by decide)))) (fun R=>(@bH _ _ _ _ _ _ _ (@bE _ (K) rfl) (pv 0) aE (fun _ _=>rfl))) (by rfl) (by rfl) (by rfl) (by rfl) (by rfl) (by rfl) (by rfl) (by intro _;rfl)))),?_⟩
 refine ⟨_,rfl,p,dx,_,rfl,hx,gZ _ _ (by decide +kernel) (by decide +kernel),_,rfl,p,fs,ds,rfl,L,fun l us H1 S1 fl hl hi=>?_⟩
 have hi:IsL H1 ds us:=hi
 have l1:=hi.length
 have l2:=gd.l2
 refine ⟨l,rfl,⟨_,SqL.of hl⟩,?_⟩
 refine cO (F:=K) (xs:=us) (by omega) (fun i ys H'=>H' = H1 ∧ ys = (((ds.take i).filter cQ).map aJ).map V.str ∧ ys.length ≤ i) ⟨rfl,rfl,Nat.le_refl _⟩ ?_ ?_ ?_
 ·rintro i ys H' hi' ⟨rfl,rfl,hy⟩
  exact ⟨SqL.of hl,hy⟩
 ·rintro i x ys H' K1 K2 hx ⟨rfl,rfl,hy⟩ k1 k2
  have hil:i < us.length:=(List.getElem?_eq_some_iff.mp hx).1
  obtain ⟨d,ed⟩:∃ d,ds[i]? = some d:=⟨_,List.getElem?_eq_getElem (by omega)⟩
  obtain ⟨v,ev,iv⟩:=hi.get ed
  rw [hx] at ev
  cases ev
  obtain ⟨n,a,b,c,r,sl,rfl,_⟩:=bZ (gd.all d (List.mem_of_getElem? ed))
  obtain ⟨t,vs,rfl,o,iss⟩:=hJ iv
  refine ⟨_,rfl,t,_,5,vs,rfl,rfl,SqT.of o,aU (j:=5) rfl,rfl,_,rfl,?_⟩
  rw [vO iss]
  have e0:cQ (.tup [.str n,.str a,.str b,.int c,.int r,sl]) = !rW sl:=rfl
  cases e:rW sl with
  | true =>
   refine cN (k2 _ ⟨rfl,?_,by omega⟩)
   rw [List.take_add_one,ed]
   simp [e0,e]
  | false =>
   refine gK ⟨_,rfl,t,_,0,.str n,rfl,rfl,SqT.of o,aU (j:=0) rfl,k1 _ _ ⟨rfl,?_,by rw [List.length_append,List.length_singleton];omega⟩⟩
   rw [List.take_add_one,ed]
   simp [e0,e,aJ,cK]
 ·rintro ys H' ⟨rfl,rfl,hy⟩
  intro l2 hl2
  refine q l2 _ (S1.trans (aM.upd hl2)) (S1.free hl2) ?_
  rw [aD,List.take_of_length_le (by omega)]
theorem fY {C:Addr} {H:Hp} {p:Addr} {fs ds:List Dv} (L:LandAt C H p fs ds):GoodF fs ∧ GoodD ("sea" :: fs.map aJ) ds:=⟨(mJ _).mp L.okf,(kG _ _).mp L.okd⟩
def uM (C:Addr):Sp:=sp2 fun x y H Q=>∃ (p:Addr) (fs ds:List Dv) (z:Str) (g e:Int),x = .ref p ∧ y = .str z ∧ LandAt C H p fs ds ∧ Dv.tup [.str z,.int g,.int e] ∈ fs ∧ Q (.int g) H
theorem mB (T:Txt K mg C):Mc P w K mg base 1 C "ground" ["self","field"] (uM C):=by
 refine T.m_land_p_ground.mc lX jM (fun f cdv A outer s H vs Q E hr h=>?_)
 obtain ⟨x,y,rfl,p,fs,ds,z,g,e,rfl,rfl,L,m,q⟩:=h
 have hu:=pP hr
 obtain ⟨dx,d1,d2,hx,⟨k1,h1,e1,i1⟩,t2⟩:=L.ex
 obtain ⟨v,ev,iv⟩:=xQ e1 i1 (fY L).1.nd m
 obtain ⟨t,rfl,o⟩:=fL iv
 refine ⟨_,(@aH _ _ _ (@aY _ _ _ _ (@bH _ _ _ _ _ _ _ (@bE _ (K) rfl) (@eN _ _ _ _ _ _ hu (@wQ _ _ _ _ _ (pv 0) rfl) (pv 1) (fun _ _=>rfl)) aE (fun _ _=>rfl)))),?_⟩
 refine ⟨_,rfl,p,C,dx,_,_,rfl,hx,T.cl_Land,T.a_field_rows,yK _ _,_,rfl,d1,.ref t,rfl,?_,t,_,1,.int g,rfl,rfl,SqT.of o,aU (j:=1) rfl,q⟩
 rw [← ev]
 exact lV.k (k:=Sum.inr z) h1
theorem xP {α β:Type}:∀ {xs:List α} {ys:List β},xs.length = ys.length → (xs.zip ys).map (·.1) = xs
 | [],[],_=>rfl
 | x :: xs,y :: ys,h=>by rw [List.zip_cons_cons,List.map_cons,xP (by simpa using h)]
 | [],_ :: _,h=>by simp at h
 | _ :: _,[],h=>by simp at h
theorem xO {α β:Type}:∀ {xs:List α} {ys:List β},xs.length = ys.length → (xs.zip ys).map (·.2) = ys
 | [],[],_=>rfl
 | x :: xs,y :: ys,h=>by rw [List.zip_cons_cons,List.map_cons,xO (by simpa using h)]
 | [],_ :: _,h=>by simp at h
 | _ :: _,[],h=>by simp at h
def cL (ds:List Dv) (us:List V):List (Key × V):=(ds.map hX).zip us
theorem iO {ds:List Dv} {us:List V} (h:us.length = ds.length):(cL ds us).map (·.1) = ds.map hX:=xP (by rw [List.length_map];exact h.symm)
theorem oZ {ds:List Dv} {us:List V} (h:us.length = ds.length):(cL ds us).map (·.2) = us:=xO (by rw [List.length_map];exact h.symm)
theorem kB {ds:List Dv} {us:List V} (h:us.length = ds.length):(cL ds us).length = us.length:=by
 unfold cL
 rw [List.length_zip,List.length_map]
 omega
theorem vB {ds:List Dv} {us:List V} {i:Nat} {d:Dv} {v:V} (e1:ds[i]? = some d) (e2:us[i]? = some v):(cL ds us)[i]? = some (hX d,v):=by
 unfold cL
 rw [List.getElem?_zip_eq_some]
 exact ⟨by rw [List.getElem?_map,e1];rfl,e2⟩
theorem kD {ds:List Dv} (h:(ds.map aJ).Nodup):(ds.map hX).Nodup:=by
 have e:ds.map hX = (ds.map aJ).map Sum.inr:=by rw [List.map_map];rfl
 rw [e,rO]
 exact h
theorem qP (T:Txt K mg C):Ic P w K mg base 6 C ["self","fields","dykes"] (aAW C):=by
 have G_p_are_fields:Fc P w K mg base 4 "are_fields" ["thing"] uN:=nN T
 have G_p_are_dykes:Fc P w K mg base 5 "are_dykes" ["thing","sides"] (yA K):=pE T
 refine T.i_Land.ic qN aDY (fun f cdv A outer s H vs Q E hr h=>?_)
 obtain ⟨x,v1,v2,rfl,p,dx,fs,ds,rfl,hx,hf,hd,sf,sd,okf,okd,q⟩:=h
 have big:=cR
 have gf:=(mJ _).mp okf
 have gd:=(kG _ _).mp okd
 have lf:=gf.l2
 have ld:=gd.l2
 obtain ⟨a1,us,rfl,o1,i1⟩:=id hf
 obtain ⟨a2,ws,rfl,o2,i2⟩:=id hd
 have l1:=i1.length
 have l2:=i2.length
 refine ⟨_,(@aG _ _ _ _ _ (@dY _ _ _ _ _ _ _ _ (@gC _ _ _ _ (@gB _ _ _ (@cF _ _ _ _ _ _ _ _ _ _ G_p_are_fields (hr.mono (by decide)) (@aA _ _ _ _ _ (pv 1) aF (by rfl)) (by rfl) (by decide) (by rfl) (by rfl)) (by intro _;rfl))) (@aH _ _ _ oU) cA) (@aG _ _ _ _ _ (@dY _ _ _ _ _ _ _ _ (@gC _ _ _ _ (@gB _ _ _ (@cF _ _ _ _ _ _ _ _ _ _ G_p_are_dykes (hr.mono (by decide)) (@aA _ _ _ _ _ (pv 2) (@aA _ _ _ _ _ (@aK _ _ _ _ _ _ _ _ tE (@fA _ _ _ _ (@aA _ _ _ _ _ (@nM _ _ _ _ T.g_SEA (by rfl) (by decide)) aF (by rfl))) (@dI _ _ _ _ _ _ _ _ _ _ _ ["field"] 1 [] rfl (@bU _ _ _ _ (pv 1)) (fun R=>@aL _ _ (0) _ (show List.Nodup (["field"]:List Str) by decide +kernel) rfl (Or.inl rfl) (by trivial)) (@bN _ _ (by decide)) (fun R=>cY) (fun R=>(@bH _ _ _ _ _ _ _ (@bE _ (K) rfl) (pv 0) aE (fun _ _=>rfl))) (by rfl) (by rfl) (by rfl) (by rfl) (by rfl) (by rfl) (by rfl) (by intro _;rfl))) aF (by rfl)) (by rfl)) (by rfl) (by decide) (by rfl) (by rfl)) (by intro _;rfl))) (@aH _ _ _ oU) cA) (@aG _ _ _ _ _ (@aBM _ _ _ _ _ _ _ _ (pv 0) (@cG _ _ _ _ _ _ _ _ _ (@eO _ rfl) rfl T.n_dict hU (@aA _ _ _ _ _ (@dI _ _ _ _ _ _ _ _ _ _ _ ["field"] 1 [] rfl (@bU _ _ _ _ (pv 1)) (fun R=>@aL _ _ (0) _ (show List.Nodup (["field"]:List Str) by decide +kernel) rfl (Or.inl rfl) (by trivial)) (@bN _ _ (by decide)) (fun R=>cY) (fun R=>(@dU _ _ _ _ _ (@aA _ _ _ _ _ (@bH _ _ _ _ _ _ _ (@bE _ (K) rfl) (pv 0) aE (fun _ _=>rfl)) (@aA _ _ _ _ _ (pv 0) aF (by rfl)) (by rfl)))) (by rfl) (by rfl) (by rfl) (by rfl) (by rfl) (by rfl) (by rfl) (by intro _;rfl)) aF (by rfl)) (by decide) (by decide) (by rfl) (by rfl)) rfl) (@aH _ _ _ (@aBM _ _ _ _ _ _ _ _ (pv 0) (@cG _ _ _ _ _ _ _ _ _ (@eO _ rfl) rfl T.n_dict hU (@aA _ _ _ _ _ (@dI _ _ _ _ _ _ _ _ _ _ _ ["dyke"] 1 [] rfl (@bU _ _ _ _ (pv 2)) (fun R=>@aL _ _ (0) _ (show List.Nodup (["dyke"]:List Str) by decide +kernel) rfl (Or.inl rfl) (by trivial)) (@bN _ _ (by decide)) (fun R=>cY) (fun R=>(@dU _ _ _ _ _ (@aA _ _ _ _ _ (@bH _ _ _ _ _ _ _ (@bE _ (K) rfl) (pv 0) aE (fun _ _=>rfl)) (@aA _ _ _ _ _ (pv 0) aF (by rfl)) (by rfl)))) (by rfl) (by rfl) (by rfl) (by rfl) (by rfl) (by rfl) (by rfl) (by intro _;rfl)) aF (by rfl)) (by decide) (by decide) (by rfl) (by rfl)) rfl))))),?_⟩
 refine ⟨_,rfl,_,rfl,.lst fs,hf,sf,_,rfl,?_⟩
 rw [okf]
 refine cN ?_
 refine ⟨_,rfl,aT rfl,fun p1 hp1=>?_⟩
 have S1:=aM.upd (o:=.lst [.str "sea"]) hp1
 refine ⟨_,rfl,a1,rfl,⟨_,SqL.of (S1 _ _ o1)⟩,?_⟩
 refine cO (F:=K) (xs:=us) (by omega) (fun i ys H'=>H' = upd H p1 (.lst [.str "sea"]) ∧ ys = ((fs.take i).map aJ).map V.str) ⟨rfl,rfl⟩ ?_ ?_ ?_
 ·rintro i ys H' hi' ⟨rfl,rfl⟩
  exact ⟨SqL.of (S1 _ _ o1),by rw [List.length_map,List.length_map,List.length_take];omega⟩
 ·rintro i x ys H' K1 K2 hx' ⟨rfl,rfl⟩ k1 k2
  have hil:i < us.length:=(List.getElem?_eq_some_iff.mp hx').1
  obtain ⟨d,ed⟩:∃ d,fs[i]? = some d:=⟨_,List.getElem?_eq_getElem (by omega)⟩
  obtain ⟨v,ev,iv⟩:=i1.get ed
  rw [hx'] at ev
  cases ev
  obtain ⟨z,g,e,rfl,_⟩:=bK (gf.all d (List.mem_of_getElem? ed))
  obtain ⟨t,rfl,o⟩:=fL iv
  refine ⟨_,rfl,t,_,0,.str z,rfl,rfl,SqT.of (S1 _ _ o),aU (j:=0) rfl,k1 _ _ ⟨rfl,?_⟩⟩
  rw [List.take_add_one,ed]
  simp [aJ,cK]
 ·rintro ys H' ⟨rfl,rfl⟩
  intro p2 hp2
  rw [List.take_of_length_le (by omega)]
  have S2:=aM.upd (o:=.lst ((fs.map aJ).map V.str)) hp2
  refine ⟨p1,p2,_,_,rfl,rfl,S2 _ _ aD,aD,by simp only [List.length_map,List.length_cons,List.length_nil];omega,fun p3 hp3=>?_⟩
  have S3:=aM.upd (o:=.lst ([.str "sea"] ++ (fs.map aJ).map V.str)) hp3
  have S:=S1.trans (S2.trans S3)
  generalize hH3:upd (upd (upd H p1 (.lst [.str "sea"])) p2 (.lst ((fs.map aJ).map V.str))) p3 (.lst ([.str "sea"] ++ (fs.map aJ).map V.str)) = H3 at S
  have hp3':H3 p3 = some (.lst ((("sea":Str) :: fs.map aJ).map V.str)):=by rw [← hH3,aD];rfl
  refine ⟨_,_,rfl,.lst ds,p3,_,Is.same S _ _ hd,sd,rfl,hp3',_,rfl,?_⟩
  rw [okd]
  refine cN ?_
  refine ⟨_,rfl,a1,rfl,⟨_,SqL.of (S _ _ o1)⟩,?_⟩
  refine cO (F:=K) (xs:=us) (by omega) (fun i ys H'=>aM H3 H' ∧ bW H' ys ((cL fs us).take i)) ⟨aM.refl _,bW.nil _⟩ ?_ ?_ ?_
  ·rintro i ys H' hi' ⟨S4,pr⟩
   exact ⟨SqL.of (S4 _ _ (S _ _ o1)),by have:=pr.len;rw [List.length_take] at this;omega⟩
  ·rintro i x ys H' K1 K2 hx' ⟨S4,pr⟩ k1 k2
   have hil:i < us.length:=(List.getElem?_eq_some_iff.mp hx').1
   obtain ⟨d,ed⟩:∃ d,fs[i]? = some d:=⟨_,List.getElem?_eq_getElem (by omega)⟩
   obtain ⟨v,ev,iv⟩:=i1.get ed
   rw [hx'] at ev
   cases ev
   obtain ⟨z,g,e,rfl,_⟩:=bK (gf.all d (List.mem_of_getElem? ed))
   obtain ⟨t,rfl,o⟩:=fL iv
   have ot:=S4 _ _ (S _ _ o)
   refine ⟨_,rfl,t,_,0,.str z,rfl,rfl,SqT.of ot,aU (j:=0) rfl,_,rfl,aT rfl,fun pt hpt=>k1 _ _ ⟨S4.trans (aM.upd hpt),?_⟩⟩
   rw [List.take_add_one,vB ed hx']
   exact pr.snoc (k:=Sum.inr z) hpt
  ·rintro ys H4 ⟨S4,pr⟩
   rw [List.take_of_length_le (by rw [kB l1];omega)] at pr
   intro p4 hp4
   have S5:=aM.upd (o:=.lst ys) hp4
   refine ⟨p4,ys,cL fs us,rfl,SqL.of aD,pr.same S5,by rw [kB l1];omega,by rw [iO l1];exact kD gf.nd,fun d1 hd1=>?_⟩
   have S6:=aM.upd (o:=.dK (cL fs us)) hd1
   have SA:=S.trans (S4.trans (S5.trans S6))
   have hd1':upd (upd H4 p4 (.lst ys)) d1 (.dK (cL fs us)) d1 = some (.dK (cL fs us)):=aD
   generalize upd (upd H4 p4 (.lst ys)) d1 (.dK (cL fs us)) = H6 at SA hd1'
   refine ⟨_,rfl,p,C,dx,[],rfl,SA _ _ hx,T.cl_Land,T.a_field_rows,(by show 0 < 1000;decide),?_⟩
   have SB:∀ b o,H b = some o → b ≠ p → upd H6 p (.ins C dx (gH "field_rows" (.ref d1) [])) b = some o:=fun b o e hb=>by rw [aO hb];exact SA _ _ e
   have nd1:d1 ≠ p:=yI hd1' (SA _ _ hx) (by intro z;cases z)
   have SD:yS H (upd H6 p (.ins C dx (gH "field_rows" (.ref d1) []))):=fun b o e dt=>SB b o e (fun z=>by subst z;rw [hx] at e;cases e;cases dt)
   have hp7:upd H6 p (.ins C dx (gH "field_rows" (.ref d1) [])) p = some (.ins C dx (gH "field_rows" (.ref d1) [])):=aD
   have hd7:upd H6 p (.ins C dx (gH "field_rows" (.ref d1) [])) d1 = some (.dK (cL fs us)):=by rw [aO nd1];exact hd1'
   generalize upd H6 p (.ins C dx (gH "field_rows" (.ref d1) [])) = H7 at SB SD hp7 hd7
   refine ⟨_,rfl,a2,rfl,⟨_,SqL.of (SD _ _ o2 rfl)⟩,?_⟩
   refine cO (F:=K) (xs:=ws) (by omega) (fun i ys H'=>aM H7 H' ∧ bW H' ys ((cL ds ws).take i)) ⟨aM.refl _,bW.nil _⟩ ?_ ?_ ?_
   ·rintro i ys H' hi' ⟨S8,pr⟩
    exact ⟨SqL.of (S8 _ _ (SD _ _ o2 rfl)),by have:=pr.len;rw [List.length_take] at this;omega⟩
   ·rintro i x ys H' K1 K2 hx' ⟨S8,pr⟩ k1 k2
    have hil:i < ws.length:=(List.getElem?_eq_some_iff.mp hx').1
    obtain ⟨d,ed⟩:∃ d,ds[i]? = some d:=⟨_,List.getElem?_eq_getElem (by omega)⟩
    obtain ⟨v,ev,iv⟩:=i2.get ed
    rw [hx'] at ev
    cases ev
    obtain ⟨n,a,b,c,r,sl,rfl,_⟩:=bZ (gd.all d (List.mem_of_getElem? ed))
    obtain ⟨t,vs,rfl,o,_⟩:=hJ iv
    have ot:=S8 _ _ (SD _ _ o rfl)
    refine ⟨_,rfl,t,_,0,.str n,rfl,rfl,SqT.of ot,aU (j:=0) rfl,_,rfl,aT rfl,fun pt hpt=>k1 _ _ ⟨S8.trans (aM.upd hpt),?_⟩⟩
    rw [List.take_add_one,vB ed hx']
    exact pr.snoc (k:=Sum.inr n) hpt
   ·rintro ys H8 ⟨S8,pr⟩
    rw [List.take_of_length_le (by rw [kB l2];omega)] at pr
    intro p9 hp9
    have S9:=aM.upd (o:=.lst ys) hp9
    refine ⟨p9,ys,cL ds ws,rfl,SqL.of aD,pr.same S9,by rw [kB l2];omega,by rw [iO l2];exact kD gd.nd,fun d2 hd2=>?_⟩
    have S10:=aM.upd (o:=.dK (cL ds ws)) hd2
    have SC:=S8.trans (S9.trans S10)
    have hd2':upd (upd H8 p9 (.lst ys)) d2 (.dK (cL ds ws)) d2 = some (.dK (cL ds ws)):=aD
    generalize upd (upd H8 p9 (.lst ys)) d2 (.dK (cL ds ws)) = H10 at SC hd2'
    refine ⟨_,rfl,p,C,dx,_,rfl,SC _ _ hp7,T.cl_Land,T.a_dyke_rows,(by show 1 < 1000;decide),?_⟩
    have nd2:d2 ≠ p:=yI hd2' (SC _ _ hp7) (by intro z;cases z)
    have SE:yS H (upd H10 p (.ins C dx (lR d1 d2))):=fun b o e dt=>by
     have hb:b ≠ p:=fun z=>by subst z;rw [hx] at e;cases e;cases dt
     rw [aO hb]
     exact SC _ _ (SB _ _ e hb)
    refine q _ ⟨⟨dx,d1,d2,aD,⟨_,(aO nd1).trans (SC _ _ hd7),iO l1,?_⟩,⟨_,(aO nd2).trans hd2',iO l2,?_⟩⟩,okf,okd⟩ fun b o e hb=>?_
    ·rw [oZ l1]
     exact IsL.sameD SE _ _ i1
    ·rw [oZ l2]
     exact IsL.sameD SE _ _ i2
    ·show upd H10 p (.ins C dx (lR d1 d2)) b = some o
     rw [aO hb]
     exact SC _ _ (SB _ _ e hb)
open Mt02
def oG (K:PySem.W.Frag):Sp:=sp2 fun x y H Q=>∃ (a:Addr) (ns:List Int) (k:Int),x = .ref a ∧ y = .int k ∧ SqL K H a (ns.map V.int) ∧ ns.length ≤ 63 ∧ 0 ≤ k ∧ Q (.int (ns.getD k.toNat 0)) H
theorem gI (T:Txt K mg C):Fc P w K mg base 1 "_law_cell_at" ["_law_script","_law_k"] (oG K):=by
 refine T.d_l_cell_at.fc sY jM (fun f cdv A outer s H vs Q E hr h=>?_)
 obtain ⟨x,y,rfl,a,ns,k,rfl,rfl,hS,hl,hk,q⟩:=h
 refine ⟨_,(@aG _ _ _ _ _ (@dY _ _ _ _ _ _ _ _ (@bT _ _ _ _ _ _ _ _ yH (pv 1) (@aV _ _ _ _ _ _ _ _ _ (@bQ _ (K) rfl) rfl T.n_len cI (@aA _ _ _ _ _ (pv 0) aF (by rfl)) (by decide) (by decide) (by rfl) (by rfl)) (@bV _ _ (by decide) (by decide))) (@aH _ _ _ (@aY _ _ _ _ (@bH _ _ _ _ _ _ _ (@eG _ (K) rfl) (pv 0) (pv 1) (fun _ _=>rfl)))) cA) (@aH _ _ _ (@aY _ _ _ _ aE))),?_⟩
 refine ⟨_,rfl,_,rfl,a,_,rfl,.inl hS,_,_,rfl,rfl,_,rfl,?_⟩
 obtain ⟨j,rfl⟩:=Int.eq_ofNat_of_zero_le hk
 rw [List.length_map]
 refine fZ (fun h1=>?_) (fun h1=>?_)
 ·have h1':j < ns.length:=by
   have:=of_decide_eq_true h1
   omega
  refine ⟨_,rfl,_,rfl,a,_,_,.int (ns.getD j 0),rfl,rfl,hS,aU ?_,?_⟩
  ·rw [List.getElem?_map,List.getElem?_eq_getElem h1',List.getD_eq_getElem?_getD,List.getElem?_eq_getElem h1']
   rfl
  ·simpa using q
 ·have h1':¬ j < ns.length:=by
   intro h2
   exact h1 (decide_eq_true (by omega))
  have e:ns.getD j 0 = 0:=by
   rw [List.getD_eq_getElem?_getD,List.getElem?_eq_none (by omega)]
   rfl
  have q':Q (.int (ns.getD j 0)) H:=by simpa using q
  rw [e] at q'
  exact q'
def Scr (K:PySem.W.Frag) (H:Hp) (x:V):Prop:=∃ (a:Addr) (ns:List Int),x = .ref a ∧ SqL K H a (ns.map V.int) ∧ ns.length ≤ 63
theorem Scr.same {K:PySem.W.Frag} {H H':Hp} {x:V} (S:aM H H') (h:Scr K H x):Scr K H' x:=by
 obtain ⟨a,ns,e,q,l⟩:=h
 exact ⟨a,ns,e,S.seq q,l⟩
theorem p6:(10:Int) ^ (6:Int).toNat = 1000000:=by decide
structure Fds (fs:List Dv) (n:Nat):Prop where
 l1:1 ≤ fs.length
 l2:fs.length ≤ n
 all:∀ d ∈ fs,bL d = true
 nd:(fs.map aJ).Nodup
theorem xH {d:Dv} (h:bL d = true):tQ d = true:=by
 obtain ⟨z,g,e,rfl,_⟩:=bK h
 rfl
theorem aCN {z:Str} {g e:Int} (hz:dN z = true) (g0:-1000000 ≤ g) (g1:g ≤ 1000000) (e0:0 ≤ e) (e1:e ≤ 1000000):bL (.tup [.str z,.int g,.int e]) = true:=by
 show (dN z && (hgt g && amt e)) = true
 unfold hgt amt
 rw [hz,decide_eq_true g0,decide_eq_true g1,decide_eq_true e0,decide_eq_true e1]
 rfl
structure Dks (zs:List Str) (ds:List Dv) (n:Nat):Prop where
 l1:1 ≤ ds.length
 l2:ds.length ≤ n
 all:∀ d ∈ ds,cJ zs d = true
 nd:(ds.map aJ).Nodup
theorem yZ {c s:Dv} (h:iS c s = true):tQ s = true:=by
 cases s with
 | non=>rfl
 | int i=>rfl
 | _=>cases h
theorem aAC {zs:List Str} {d:Dv} (h:cJ zs d = true):tQ d = true:=by
 obtain ⟨n,a,b,c,r,s,rfl,_,_,_,_,_,_,hs⟩:=bZ h
 have:=yZ hs
 show (true && (true && (true && (true && (true && (tQ s && true)))))) = true
 rw [this]
 rfl
theorem aEE {zs:List Str} {n a b:Str} {c r:Int} {s:Dv} (hn:dN n = true) (ha:a ∈ zs) (hb:b ∈ zs) (hab:a ≠ b) (hc:hgt c = true) (hr:amt r = true) (hs:iS (.int c) s = true):cJ zs (.tup [.str n,.str a,.str b,.int c,.int r,s]) = true:=by
 show (dN n && (decide (a ∈ zs) && (decide (b ∈ zs) && !(a == b))) && (hgt c && (amt r && iS (.int c) s))) = true
 rw [hn,decide_eq_true ha,decide_eq_true hb,hc,hr,hs,beq_eq_false_iff_ne.mpr hab]
 rfl
theorem aCH {i:Int} (h0:-1000000 ≤ i) (h1:i ≤ 1000000):hgt i = true:=by
 unfold hgt
 rw [decide_eq_true h0,decide_eq_true h1]
 rfl
theorem aGA {i:Int} (h0:0 ≤ i) (h1:i ≤ 1000000):amt i = true:=by
 unfold amt
 rw [decide_eq_true h0,decide_eq_true h1]
 rfl
theorem aDH {z:Str} (h:dN z = true):z ≠ "sea":=by
 intro e
 subst e
 simp [dN] at h
theorem aBA {fs:List Dv} {n:Nat} (h:Fds fs n):("sea" :: fs.map aJ:List Str).Nodup:=by
 rw [List.nodup_cons]
 refine ⟨fun m=>?_,h.nd⟩
 obtain ⟨d,md,e⟩:=List.mem_map.mp m
 obtain ⟨z,g,e',rfl,hz,_⟩:=bK (h.all d md)
 exact aDH hz e
theorem aGZ {zs:List Str} (h:zs.Nodup) {i j:Nat} {a b:Str} (ha:zs[i]? = some a) (hb:zs[j]? = some b) (hij:i ≠ j):a ≠ b:=by
 intro e
 subst e
 obtain ⟨h1,e1⟩:=List.getElem?_eq_some_iff.mp ha
 obtain ⟨h2,e2⟩:=List.getElem?_eq_some_iff.mp hb
 exact hij ((List.getElem_inj h).mp (e1.trans e2.symm))
theorem zB {c f L s r:Int} (hL:2 ≤ L) (hf0:0 ≤ f) (hf1:f < L) (hr:r = c % (L - 1)) (hs:s = (f + 1 + r) % L):0 ≤ s ∧ s < L ∧ f ≠ s:=by
 have r0:0 ≤ r:=by rw [hr];exact Int.emod_nonneg _ (by omega)
 have r1:r < L - 1:=by rw [hr];exact Int.emod_lt_of_pos _ (by omega)
 have s0:0 ≤ s:=by rw [hs];exact Int.emod_nonneg _ (by omega)
 have s1:s < L:=by rw [hs];exact Int.emod_lt_of_pos _ (by omega)
 refine ⟨s0,s1,?_⟩
 intro e
 by_cases hlt:f + 1 + r < L
 ·rw [Int.emod_eq_of_lt (by omega) hlt] at hs
  omega
 ·have e2:(f + 1 + r) % L = f + 1 + r - L:=by
   rw [← Int.sub_emod_right,Int.emod_eq_of_lt (by omega) (by omega)]
  omega
theorem at2 {a b i:Int} (h0:0 ≤ i) (h1:i < 2):∃ m:Int,atI ([.int a,.int b]:List V) i = some (.int m) ∧ (m = a ∨ m = b):=by
 obtain ⟨k,rfl⟩:=Int.eq_ofNat_of_zero_le h0
 have hk:k < 2:=by omega
 match k,hk with
 | 0,_=>exact ⟨a,aU rfl,.inl rfl⟩
 | 1,_=>exact ⟨b,aU rfl,.inr rfl⟩
theorem aAA {fs:List Dv} {n:Nat} (h:Fds fs n) (hn:n ≤ 12):iN (.lst fs) = true:=(mJ fs).mpr ⟨h.l1,Nat.le_trans h.l2 hn,h.all,h.nd⟩
theorem aCP {zs:List Str} {ds:List Dv} {n:Nat} (h:Dks zs ds n) (hn:n ≤ 40):jV zs (.lst ds) = true:=(kG zs ds).mpr ⟨h.l1,Nat.le_trans h.l2 hn,h.all,h.nd⟩
theorem kY {z:Str} (h:dN z = true):z.length ≤ 1000:=by
 unfold dN at h
 rw [Bool.and_eq_true,Bool.and_eq_true,Bool.and_eq_true] at h
 have:=of_decide_eq_true h.1.1.2
 omega
theorem vQ {d:Dv} (h:bL d = true):small d = true:=by
 obtain ⟨z,g,e,rfl,hz,_⟩:=bK h
 show (decide (3 ≤ 1000) && (decide (z.length ≤ 1000) && (true && (true && true)))) = true
 rw [decide_eq_true (kY hz)]
 rfl
theorem oI {fs:List Dv} (hf:∀ d ∈ fs,bL d = true) {a:Str} (h:a ∈ ("sea" :: fs.map aJ:List Str)):a.length ≤ 1000:=by
 rcases List.mem_cons.mp h with rfl | h
 ·decide +kernel
 ·obtain ⟨d,m,rfl⟩:=List.mem_map.mp h
  obtain ⟨z,g,e,rfl,hz,_⟩:=bK (hf d m)
  exact kY hz
theorem xK {fs:List Dv} (hf:∀ d ∈ fs,bL d = true) {d:Dv} (h:cJ ("sea" :: fs.map aJ) d = true):small d = true:=by
 obtain ⟨n,a,b,c,r,s,rfl,hn,ha,hb,_,_,_,hs⟩:=bZ h
 have e:small s = true:=by
  cases s with
  | non=>rfl
  | int i=>rfl
  | _=>cases hs
 show (decide (6 ≤ 1000) && (decide (n.length ≤ 1000) && (decide (a.length ≤ 1000) && (decide (b.length ≤ 1000) && (true && (true && (small s && true))))))) = true
 rw [decide_eq_true (kY hn),decide_eq_true (oI hf ha),decide_eq_true (oI hf hb),e]
 rfl
theorem rS {ds:List Dv} (h:∀ d ∈ ds,small d = true) (hl:ds.length ≤ 1000):small (.lst ds) = true:=by
 show (decide (ds.length ≤ 1000) && gA ds) = true
 rw [decide_eq_true hl,rG h]
 rfl
theorem aCL {ds:List Dv} (h:∀ d ∈ ds,aR 29 d = true):aR 30 (.lst ds) = true:=by
 have:=pT h
 simpa [aR] using this
theorem mY (zs:List Str):aR 30 (.lst (zs.map Dv.str)) = true:=aCL fun d m=>by
 obtain ⟨z,_,rfl⟩:=List.mem_map.mp m
 rfl
theorem vJ {d:Dv} {x y:V} {H:Hp} {Q:VK} (hx:Is H d x) (hy:Is H d y) (f:aR 30 d = true) (q:Q (.bl false) H):aGV true x y H Q:=⟨d,d,hx,hy,f,f,by rw [jR 30 d f];exact q⟩
theorem nU {H:Hp} {l:Addr} {zs:List Str} (h:H l = some (.lst (zs.map V.str))):Is H (.lst (zs.map Dv.str)) (.ref l):=⟨l,_,rfl,h,IsL.strs H zs⟩
open Mt21
def lD:Sp:=sp2 fun x y H Q=>∃ c k:Int,x = .int c ∧ y = .int k ∧ 0 ≤ k ∧ k ≤ 1000 ∧ ∀ m:Int,Q (.int m) H
theorem kX (T:Txt K mg C):Fc P w K mg base 1 "_law_mixed" ["_law_cell","_law_k"] lD:=by
 refine T.d_l_mixed.fc oQ jM (fun f cdv A outer s H vs Q E hr h=>?_)
 obtain ⟨x,y,rfl,c,k,rfl,rfl,k0,k1,q⟩:=h
 refine ⟨_,(@aG _ _ _ _ _ (@dY _ _ _ _ _ _ _ _ (@bT _ _ _ _ _ _ _ _ pA (@aK _ _ _ _ _ _ _ _ bM (pv 0) aE) aE (@bV _ _ (by decide) (by decide))) (@aH _ _ _ (@aY _ _ _ _ (@aK _ _ _ _ _ _ _ _ bA (pv 0) aE))) cA) (@aG _ _ _ _ _ (@aX _ _ (2) _ _ _ _ oQ.nd rfl (Or.inl rfl) (@aK _ _ _ _ _ _ _ _ bM (@aK _ _ _ _ _ _ _ _ gU (@aK _ _ _ _ _ _ _ _ cM (@aK _ _ _ _ _ _ _ _ bM (@aK _ _ _ _ _ _ _ _ bA (pv 0) aE) (@aK _ _ _ _ _ _ _ _ jJ aE aE)) aE) (@aK _ _ _ _ _ _ _ _ cM aE (@aK _ _ _ _ _ _ _ _ gU (@aK _ _ _ _ _ _ _ _ gU aE (pv 1)) (pv 1)))) aE) (by rfl) (by trivial)) (@aH _ _ _ (@aY _ _ _ _ (@aK _ _ _ _ _ _ _ _ cM (@aK _ _ _ _ _ _ _ _ gU (@aK _ _ _ _ _ _ _ _ bM (@aK _ _ _ _ _ _ _ _ gU (pv 2) (pv 2)) aE) aE) (pv 2)))))),?_⟩
 refine ⟨_,rfl,_,_,rfl,rfl,(fC rfl),rfl,_,rfl,?_⟩
 refine fZ (fun _=>?_) (fun _=>?_)
 ·exact ⟨_,rfl,_,_,rfl,rfl,⟨by decide,by decide⟩,q _⟩
 ·have kk:0 ≤ 7919 * k * k ∧ 7919 * k * k ≤ 7919000000:=by
   have h1:0 ≤ k * k:=Int.mul_nonneg k0 k0
   have h2:k * k ≤ 1000 * 1000:=Int.mul_le_mul k1 k1 k0 (by decide)
   rw [Int.mul_assoc]
   omega
  have m0:∀ a:Int,0 ≤ a % 2147483629 ∧ a % 2147483629 < 2147483629:=fun a=>⟨Int.emod_nonneg _ (by decide),Int.emod_lt_of_pos _ (by decide)⟩
  refine ⟨_,rfl,_,_,rfl,rfl,⟨by decide,by decide⟩,_,_,rfl,rfl,⟨by decide,by decide,by decide⟩,_,_,rfl,rfl,(fC rfl),_,_,rfl,rfl,_,rfl,_,_,rfl,rfl,.inl ⟨by decide,by decide⟩,_,rfl,_,_,rfl,rfl,.inr ⟨by omega,by omega⟩,_,_,rfl,rfl,_,_,rfl,rfl,.inr ⟨by omega,by omega⟩,_,_,rfl,rfl,(fC rfl),?_⟩
  generalize hm:(c / 2 % 10 ^ (30:Int).toNat + 1) * (48271 + 7919 * k * k) % 2147483629 = m
  have hm0:=m0 ((c / 2 % 10 ^ (30:Int).toNat + 1) * (48271 + 7919 * k * k))
  rw [hm] at hm0
  exact ⟨_,rfl,_,rfl,_,_,rfl,rfl,.inl ⟨by omega,by omega⟩,_,_,rfl,rfl,(fC rfl),_,_,rfl,rfl,.inr ⟨by decide,by decide⟩,_,rfl,_,_,rfl,rfl,q _⟩
def oA:Sp:=sp2 fun x y H Q=>∃ (c:Int) (n:Nat),x = .int c ∧ y = .int n ∧ n ≤ 40 ∧ ∀ (zs:List Str) (l:Addr) (H':Hp),Mt02.Names zs n → aM H H' → H l = none → H' l = some (.lst (zs.map V.str)) → Q (.ref l) H'
theorem aHD:("abcdefghijklmnopqrstuvwxyz":Str).length = 26:=by decide +kernel
theorem pF (T:Txt K mg C):Fc P w K mg base 1 "_law_words" ["_law_cell","_law_many"] oA:=by
 refine T.d_l_words.fc dO jM (fun f cdv A outer s H vs Q E hr h=>?_)
 obtain ⟨x,y,rfl,c,n,rfl,rfl,hn,q⟩:=h
 have big:=cR
 have l26:=aHD
 have hss:("abcdefghijklmnopqrstuvwxyz":Str).length ≤ sizeLine:=by rw [l26];omega
 obtain ⟨u2,pu2,hu2⟩:∃ u,PSs (nP CX0 P w K mg base ["_law_cell","_law_many","_law_letters","_law_size","_law_base","_law_at","_law_words_here","_law_k","_law_inner"] "_law_words" (aB fF) f cdv A outer s H E).nox ((aN fF).drop 2) u ∧
   u { nx:=fun _ H'=>Q .non H',rt:=Q } [some (.int c),some (.int n),some (.str "abcdefghijklmnopqrstuvwxyz"),none,none,none,none,none,none] H:=by
  refine ⟨_,(@aG _ _ _ _ _ (@aX _ _ (3) _ _ _ _ dO.nd rfl (Or.inl rfl) (@aK _ _ _ _ _ _ _ _ cM aE (@aK _ _ _ _ _ _ _ _ bM (@aK _ _ _ _ _ _ _ _ bA (pv 0) aE) aE)) (by rfl) (by trivial)) (@aG _ _ _ _ _ (@aX _ _ (4) _ _ _ _ dO.nd rfl (Or.inl rfl) (@vA _ _ _ _ _ _ _ _ _ _ _ _ PySem.F.plainAttrs_str PySem.F.slot_str_join PySem.F.type_str_join aDU oW (@aA _ _ _ _ _ (@dI _ _ _ _ _ _ _ _ _ _ _ ["_law_j","_law_cell","_law_letters"] 1 [0,2] rfl (@fG _ _ _ _ _ _ rfl T.n_range (@aA _ _ _ _ _ (pv 3) aF (by rfl)) (by rfl)) (fun R=>@aL _ _ (0) _ (show List.Nodup (["_law_j","_law_cell","_law_letters"]:List Str) by decide +kernel) rfl (Or.inl rfl) (by trivial)) (@bN _ _ (by decide)) (fun R=>cY) (fun R=>(@bH _ _ _ _ _ _ _ tM (pv 2) (@aK _ _ _ _ _ _ _ _ bM (@aK _ _ _ _ _ _ _ _ cM (@aK _ _ _ _ _ _ _ _ bA (pv 1) aE) (@aK _ _ _ _ _ _ _ _ gU (pv 0) (pv 0))) aE) (fun _ _=>rfl))) (by rfl) (by rfl) (by rfl) (by rfl) (by rfl) (by rfl) (by rfl) (by intro _;rfl)) aF (by rfl)) (by rfl) (by rfl) (by rfl) (by rfl) (by rfl)) (by rfl) (by trivial)) (@aG _ _ _ _ _ (@aX _ _ (5) _ _ _ _ dO.nd rfl (Or.inl rfl) (@aK _ _ _ _ _ _ _ _ bM (@aK _ _ _ _ _ _ _ _ bA (pv 0) aE) (@aK _ _ _ _ _ _ _ _ cM (pv 3) aE)) (by rfl) (by trivial)) (@aG _ _ _ _ _ (@aX _ _ (6) _ _ _ _ dO.nd rfl (Or.inl rfl) (@fA _ _ _ _ aF) (by rfl) (by trivial)) (@aG _ _ _ _ _ (@dZ _ _ _ _ _ _ _ _ PassesOwn.never rfl (@fG _ _ _ _ _ _ rfl T.n_range (@aA _ _ _ _ _ (pv 1) aF (by rfl)) (by rfl)) (@aL _ _ (7) _ dO.nd rfl (Or.inl rfl) (by trivial)) (@aG _ _ _ _ _ (@aX _ _ (8) _ _ _ _ dO.nd rfl (Or.inl rfl) (@aK _ _ _ _ _ _ _ _ kT (@bH _ _ _ _ _ _ _ tM (pv 2) (@aK _ _ _ _ _ _ _ _ bM (@aK _ _ _ _ _ _ _ _ cM (pv 7) (@aK _ _ _ _ _ _ _ _ bA (pv 0) aE)) aE) (fun _ _=>rfl)) (@bH _ _ _ _ _ _ _ tM (pv 2) (@aK _ _ _ _ _ _ _ _ bM (@aK _ _ _ _ _ _ _ _ cM (@aK _ _ _ _ _ _ _ _ bA (pv 7) aE) (@aK _ _ _ _ _ _ _ _ bA (pv 0) aE)) aE) (fun _ _=>rfl))) (by rfl) (by trivial)) (@aH _ _ _ (@jZ _ _ _ _ (@vA _ _ _ _ _ _ _ _ _ _ _ _ PySem.F.plainAttrs_list PySem.F.slot_list_append PySem.F.type_list_append kC (pv 6) (@aA _ _ _ _ _ (@aK _ _ _ _ _ _ _ _ kT (@aK _ _ _ _ _ _ _ _ kT (@uZ _ _ _ _ _ _ _ _ _ _ aAY (pv 4) yE (@yD _ _ _ (pv 5))) (pv 8)) (@uZ _ _ _ _ _ _ _ _ _ _ aAY (pv 4) (@yD _ _ _ (pv 5)) yE)) aF (by rfl)) (by rfl) (by rfl) (by rfl) (by rfl) (by rfl)) (by rfl)))) (by intro _;rfl)) (@aH _ _ _ (@aY _ _ _ _ (pv 6)))))))),?_⟩
  have z0:0 ≤ c / 4 % 5:=Int.emod_nonneg _ (by decide)
  have z1:c / 4 % 5 < 5:=Int.emod_lt_of_pos _ (by decide)
  obtain ⟨sz,hsz⟩:=Int.eq_ofNat_of_zero_le (show 0 ≤ 2 + c / 4 % 5 by omega)
  refine ⟨_,rfl,_,_,rfl,rfl,⟨by decide,by decide⟩,_,_,rfl,rfl,(fC rfl),_,_,rfl,rfl,?_⟩
  dsimp only
  rw [hsz]
  obtain ⟨H0,hH0⟩:∃ H0,H0 = H:=⟨H,rfl⟩
  have ixs:∀ (x:Int),∃ v,(V.str (iC x)) = v:=fun x=>⟨_,rfl⟩
  refine ⟨rfl,_,rfl,_,rfl,by omega,by omega,?_⟩
  refine pZ (lo:=0) (n:=sz) (by omega) (fun i ys H'=>H' = H ∧ ys = ((List.range i).map fun (j:Nat)=>iC (c / 20 + (j:Int) * (j:Int))).map V.str) ⟨rfl,rfl⟩ ?_ ?_ ?_
  ·rintro i ys H' ⟨rfl,rfl⟩
   simp
  ·rintro i ys H' K1 K2 hi ⟨rfl,rfl⟩ k1 k2
   refine ⟨_,rfl,_,rfl,_,_,rfl,rfl,⟨by decide,by decide⟩,_,rfl,_,rfl,_,_,rfl,rfl,.inl ⟨by omega,by omega⟩,_,_,rfl,rfl,_,_,rfl,rfl,(fC rfl),_,_,ab (c / 20 + (0 + (i:Int)) * (0 + (i:Int))),rfl,rfl,hss,yR _,k1 _ _ ⟨rfl,?_⟩⟩
   rw [List.range_succ,List.map_append,List.map_append]
   show _ ++ [V.str (iC _)] = _ ++ [V.str (iC _)]
   rw [Int.zero_add]
  rintro ys H' ⟨e0,rfl⟩
  subst e0
  intro p1 hp1
  have S1:=aM.upd (o:=.lst (((List.range sz).map fun (j:Nat)=>iC (c / 20 + (j:Int) * (j:Int))).map V.str)) hp1
  have lsum:((((List.range sz).map fun (j:Nat)=>iC (c / 20 + (j:Int) * (j:Int)))).map fun y=>y.length).sum = sz:=by
   rw [List.map_map]
   show ((List.range sz).map fun _=>1).sum = sz
   have e:∀ m:Nat,((List.range m).map fun _=>1).sum = m:=fun m=>by
    induction m with
    | zero=>rfl
    | succ m ih=>rw [List.range_succ,List.map_append,List.sum_append,ih];rfl
   exact e sz
  refine ⟨"",p1,(List.range sz).map fun (j:Nat)=>iC (c / 20 + (j:Int) * (j:Int)),rfl,rfl,SqL.of aD,by rw [lsum,List.length_map,List.length_range,show ("":Str).length = 0 by decide +kernel];omega,?_⟩
  generalize hb:Txt.join "" ((List.range sz).map fun (j:Nat)=>iC (c / 20 + (j:Int) * (j:Int))) = b
  have bc:b.cps.toList = (List.range sz).map fun (j:Nat)=>ab (c / 20 + (j:Int) * (j:Int)):=by
   rw [← hb,xB,List.map_map]
   show (((List.range sz).map fun j=>[ab _]).flatten) = _
   induction (List.range sz) with
   | nil=>rfl
   | cons x r ih=>rw [List.map_cons,List.flatten_cons,ih,List.map_cons];rfl
  have bl:b.length = sz:=by rw [fK,bc,List.length_map,List.length_range]
  have ball:b.cps.toList.all eA = true:=by
   rw [bc,List.all_eq_true]
   intro x hx
   obtain ⟨j,_,rfl⟩:=List.mem_map.mp hx
   exact kK _
  have bs:b.length ≤ sizeLine:=by omega
  have a0:0 ≤ c / 520 % ((sz:Int) + 1):=Int.emod_nonneg _ (by omega)
  have a1:c / 520 % ((sz:Int) + 1) < (sz:Int) + 1:=Int.emod_lt_of_pos _ (by omega)
  obtain ⟨at',hat⟩:=Int.eq_ofNat_of_zero_le a0
  refine ⟨_,rfl,_,_,rfl,rfl,⟨by decide,by decide⟩,_,rfl,_,_,rfl,rfl,_,_,rfl,rfl,(by show (0:Int) < (sz:Int) + 1;omega),?_⟩
  dsimp only
  rw [hat]
  refine ⟨aT rfl,fun l hl=>?_⟩
  have S2:=aM.upd (o:=.lst []) hl
  have hl0:=S1.free hl
  subst hH0
  refine ⟨_,rfl,_,rfl,by omega,by omega,?_⟩
  refine iK (lo:=0) (n:=n) (fun i σ H'=>∃ (v7 v8:Option V) (g:Nat → Str),σ = [some (.int c),some (.int n),some (.str "abcdefghijklmnopqrstuvwxyz"),some (.int sz),some (.str b),some (.int at'),some (.ref l),v7,v8] ∧ aM H0 H' ∧ H' l = some (.lst (((List.range i).map g).map V.str)) ∧ ∀ k,k < i → Put (g k) b at' ((k:Int) + c / 7) ((k:Int) / 26 + c / 11))
   ⟨_,_,fun _=>"",rfl,S1.trans S2,aD,(fun k hk=>absurd hk (by omega))⟩ ?_ ?_
  ·rintro i σ H3 hi ⟨v7,v8,g,rfl,S3,hl3,pu⟩
   have sh1:∀ x y:Int,(iC x ++ iC y).cps.toList = [ab x,ab y]:=fun x y=>by rw [Tx.app_codes];rfl
   have sl1:∀ x:Int,(iC x).length = 1:=fun _=>rfl
   refine ⟨_,rfl,_,rfl,_,rfl,_,_,rfl,rfl,⟨by decide,by decide⟩,_,_,rfl,rfl,_,_,rfl,rfl,(fC rfl),_,_,ab (0 + (i:Int) + c / 7),rfl,rfl,hss,yR _,?_⟩
   refine ⟨_,rfl,_,rfl,_,_,rfl,rfl,⟨by decide,by decide⟩,_,rfl,_,_,rfl,rfl,⟨by decide,by decide⟩,_,_,rfl,rfl,_,_,rfl,rfl,(fC rfl),_,_,ab ((0 + (i:Int)) / 26 + c / 11),rfl,rfl,hss,yR _,_,_,rfl,rfl,(by show 1 + 1 ≤ sizeLine;omega),?_⟩
   have ia:(iC (0 + (i:Int) + c / 7) ++ iC ((0 + (i:Int)) / 26 + c / 11)).length = 2:=by rw [Tx.app_len];rfl
   have tl:(Txt.slice b none (some (at':Int))).length ≤ 8:=by
    rw [fK,nY b at' (by omega),List.length_take]
    omega
   have dl:(Txt.slice b (some (at':Int)) none).length ≤ 8:=by
    rw [fK,pX b at' (by omega),List.length_drop,← fK]
    omega
   refine ⟨_,rfl,.inl ⟨rfl,_,SqL.of hl3⟩,_,rfl,_,rfl,_,rfl,b,rfl,bs,_,rfl,_,_,rfl,rfl,?_,_,rfl,_,rfl,_,rfl,b,rfl,bs,_,_,rfl,rfl,?_,l,_,_,rfl,rfl,hl3,by rw [List.length_map,List.length_map,List.length_range];omega,?_⟩
   ·refine Nat.le_trans (Nat.add_le_add tl (Nat.le_of_eq ia)) (by omega)
   ·rw [Tx.app_len]
    refine Nat.le_trans (Nat.add_le_add (Nat.add_le_add tl (Nat.le_of_eq ia)) dl) (by omega)
   ·refine ⟨_,_,fun k=>if k = i then Txt.slice b none (some (at':Int)) ++ (iC (0 + (i:Int) + c / 7) ++ iC ((0 + (i:Int)) / 26 + c / 11)) ++ Txt.slice b (some (at':Int)) none else g k,rfl,S3.over hl0,?_,fun k hk=>?_⟩
    ·rw [aD,List.range_succ,List.map_append,List.map_append]
     have e1:(List.range i).map (fun k=>if k = i then Txt.slice b none (some (at':Int)) ++ (iC (0 + (i:Int) + c / 7) ++ iC ((0 + (i:Int)) / 26 + c / 11)) ++ Txt.slice b (some (at':Int)) none else g k) = (List.range i).map g:=List.map_congr_left fun k m=>by
      rw [if_neg (by have:=List.mem_range.mp m;omega)]
     rw [e1]
     show _ = some (HO.lst (_ ++ [V.str (if i = i then _ else _)]))
     rw [if_pos rfl]
     rfl
    ·by_cases hki:k = i
     ·subst hki
      dsimp only
      rw [if_pos rfl]
      refine ⟨?_⟩
      rw [Tx.app_codes,Tx.app_codes,nY b at' (by omega),pX b at' (by omega),sh1,Int.zero_add]
     ·dsimp only
      rw [if_neg hki]
      exact pu k (by omega)
  ·rintro σ H3 ⟨v7,v8,g,rfl,S3,hl3,pu⟩
   exact ⟨_,rfl,q _ l H3 (zH ball bl (by omega) (by omega) (by omega) (by omega) pu) S3 (S1.free hl) hl3⟩
 refine ⟨_,(@aG _ _ _ _ _ (@aX _ _ (2) _ _ _ _ dO.nd rfl (Or.inr rfl) oW (by rfl) (by trivial)) (@aG _ _ _ _ _ (@dY _ _ _ _ _ _ _ _ (@PW.pt _ _ _ (@oT _ _ _ _ _ _ _ (@bT _ _ _ _ _ _ _ _ pA (@aK _ _ _ _ _ _ _ _ bM (pv 0) aE) aE (@bV _ _ (by decide) (by decide))) (@nV _ _ _ _ (@bT _ _ _ _ _ _ _ _ yH (pv 1) aE (@bV _ _ (by decide) (by decide)))))) (@aH _ _ _ (@aY _ _ _ _ (@dI _ _ _ _ _ _ _ _ _ _ _ ["_law_k","_law_cell","_law_letters"] 1 [0,2] rfl (@fG _ _ _ _ _ _ rfl T.n_range (@aA _ _ _ _ _ (pv 1) aF (by rfl)) (by rfl)) (fun R=>@aL _ _ (0) _ (show List.Nodup (["_law_k","_law_cell","_law_letters"]:List Str) by decide +kernel) rfl (Or.inl rfl) (by trivial)) (@bN _ _ (by decide)) (fun R=>cY) (fun R=>(@bH _ _ _ _ _ _ _ tM (pv 2) (@aK _ _ _ _ _ _ _ _ bM (@aK _ _ _ _ _ _ _ _ cM (@aK _ _ _ _ _ _ _ _ bA (pv 1) aE) (@aK _ _ _ _ _ _ _ _ gU aE (pv 0))) aE) (fun _ _=>rfl))) (by rfl) (by rfl) (by rfl) (by rfl) (by rfl) (by rfl) (by rfl) (by intro _;rfl)))) cA) pu2)),?_⟩
 refine ⟨_,rfl,_,_,rfl,rfl,(fC rfl),rfl,_,rfl,?_⟩
 refine fZ (fun c1=>?_) (fun c1=>hu2)
 refine ⟨_,rfl,_,_,rfl,rfl,_,rfl,?_⟩
 refine fZ (fun c2=>?_) (fun c2=>hu2)
 have hn26:n ≤ 26:=by
  have:=of_decide_eq_true c2
  omega
 refine ⟨_,rfl,_,rfl,by omega,by omega,?_⟩
 refine pZ (lo:=0) (n:=n) (by omega) (fun i ys H'=>H' = H ∧ ys = ((List.range i).map fun (j:Nat)=>iC (c / 4 + 5 * (j:Int))).map V.str) ⟨rfl,rfl⟩ ?_ ?_ ?_
 ·rintro i ys H' ⟨rfl,rfl⟩
  simp
 ·rintro i ys H' K1 K2 hi ⟨rfl,rfl⟩ k1 k2
  refine ⟨_,rfl,_,rfl,_,_,rfl,rfl,⟨by decide,by decide⟩,_,rfl,_,_,rfl,rfl,.inl ⟨by decide,by decide⟩,_,_,rfl,rfl,_,_,rfl,rfl,(fC rfl),_,_,ab (c / 4 + 5 * (0 + (i:Int))),rfl,rfl,hss,yR _,k1 _ _ ⟨rfl,?_⟩⟩
  rw [List.range_succ,List.map_append,List.map_append]
  show _ ++ [V.str (iC _)] = _ ++ [V.str (iC _)]
  rw [Int.zero_add]
 rintro ys H' ⟨rfl,rfl⟩
 intro p1 hp1
 exact q _ p1 _ (wU hn26) (aM.upd hp1) hp1 aD
open Mt21
def Tw (H:Hp) (v:V) (a b:Int):Prop:=∃ t,v = .ref t ∧ H t = some (.tup [.int a,.int b])
def wG:Sp:=sp1 fun x H Q=>∃ n:Int,x = .int n ∧ ∀ (a b:Int) (v:V) (H':Hp),aM H H' → Tw H' v a b → -1000000 ≤ b → b ≤ 1000000 → Q v H'
theorem rM (T:Txt K mg C):Fc P w K mg base 1 "_law_high" ["_law_number"] wG:=by
 refine T.d_l_high.fc zD kZ (fun f cdv A outer s H vs Q E hr h=>?_)
 obtain ⟨x,rfl,n,rfl,q⟩:=h
 refine ⟨_,(@aG _ _ _ _ _ (@dY _ _ _ _ _ _ _ _ (@bT _ _ _ _ _ _ _ _ yH (@aK _ _ _ _ _ _ _ _ bM (pv 0) aE) aE (@bV _ _ (by decide) (by decide))) (@aH _ _ _ (@aY _ _ _ _ (@dU _ _ _ _ _ (@aA _ _ _ _ _ (@aK _ _ _ _ _ _ _ _ bA (pv 0) aE) (@aA _ _ _ _ _ (@aK _ _ _ _ _ _ _ _ lZ (@aK _ _ _ _ _ _ _ _ bM (@aK _ _ _ _ _ _ _ _ bA (pv 0) aE) aE) aE) aF (by rfl)) (by rfl))))) cA) (@aH _ _ _ (@aY _ _ _ _ (@dU _ _ _ _ _ (@aA _ _ _ _ _ (@aK _ _ _ _ _ _ _ _ bA (@aK _ _ _ _ _ _ _ _ bA (pv 0) aE) (@aK _ _ _ _ _ _ _ _ cM (@aK _ _ _ _ _ _ _ _ gU aE (@aK _ _ _ _ _ _ _ _ jJ aE aE)) aE)) (@aA _ _ _ _ _ (@aK _ _ _ _ _ _ _ _ lZ (@aK _ _ _ _ _ _ _ _ bM (@aK _ _ _ _ _ _ _ _ bA (pv 0) aE) (@aK _ _ _ _ _ _ _ _ cM (@aK _ _ _ _ _ _ _ _ gU aE (@aK _ _ _ _ _ _ _ _ jJ aE aE)) aE)) (@aK _ _ _ _ _ _ _ _ jJ aE aE)) aF (by rfl)) (by rfl)))))),?_⟩
 refine ⟨_,rfl,_,_,rfl,rfl,(fC rfl),_,_,rfl,rfl,_,rfl,?_⟩
 refine fZ (fun _=>?_) (fun _=>?_)
 ·refine ⟨_,rfl,_,_,rfl,rfl,⟨by decide,by decide⟩,_,rfl,_,_,rfl,rfl,⟨by decide,by decide⟩,_,_,rfl,rfl,(fC rfl),_,_,rfl,rfl,aT rfl,fun p hp=>q _ _ _ _ (aM.upd hp) ⟨p,rfl,aD⟩ ?_ ?_⟩
  ·show -1000000 ≤ n / 3 % 16 - 3
   omega
  ·show n / 3 % 16 - 3 ≤ 1000000
   omega
 ·have e6:=p6
  refine ⟨_,rfl,_,_,rfl,rfl,⟨by decide,by decide⟩,_,_,rfl,rfl,⟨by decide,by decide,by decide⟩,_,_,rfl,rfl,.inl ⟨by decide,by decide⟩,_,_,rfl,rfl,_,_,rfl,rfl,⟨fC rfl,by decide +kernel⟩,_,rfl,_,_,rfl,rfl,⟨by decide,by decide⟩,_,_,rfl,rfl,⟨by decide,by decide,by decide⟩,_,_,rfl,rfl,.inl ⟨by decide,by decide⟩,_,_,rfl,rfl,_,_,rfl,rfl,(fC rfl),_,_,rfl,rfl,⟨by decide,by decide,by decide⟩,_,_,rfl,rfl,aT rfl,fun p hp=>q _ _ _ _ (aM.upd hp) ⟨p,rfl,aD⟩ ?_ ?_⟩
  ·show -1000000 ≤ n / 3 % (2 * 10 ^ (6:Int).toNat + 1) - 10 ^ (6:Int).toNat
   rw [e6];omega
  ·show n / 3 % (2 * 10 ^ (6:Int).toNat + 1) - 10 ^ (6:Int).toNat ≤ 1000000
   rw [e6];omega
def wF:Sp:=sp1 fun x H Q=>∃ n:Int,x = .int n ∧ ∀ (a b:Int) (v:V) (H':Hp),aM H H' → Tw H' v a b → 0 ≤ b → b ≤ 1000000 → Q v H'
theorem rL (T:Txt K mg C):Fc P w K mg base 1 "_law_most" ["_law_number"] wF:=by
 refine T.d_l_most.fc rH kZ (fun f cdv A outer s H vs Q E hr h=>?_)
 obtain ⟨x,rfl,n,rfl,q⟩:=h
 have e6:=p6
 refine ⟨_,(@aG _ _ _ _ _ (@aX _ _ (1) _ _ _ _ rH.nd rfl (Or.inl rfl) (@bH _ _ _ _ _ _ _ (@eG _ (K) rfl) (@fA _ _ _ _ (@aA _ _ _ _ _ aE (@aA _ _ _ _ _ (@aK _ _ _ _ _ _ _ _ cM (@aK _ _ _ _ _ _ _ _ jJ aE aE) aE) aF (by rfl)) (by rfl))) (@aK _ _ _ _ _ _ _ _ bM (pv 0) aE) (fun _ _=>rfl)) (by rfl) (by trivial)) (@aH _ _ _ (@aY _ _ _ _ (@dU _ _ _ _ _ (@aA _ _ _ _ _ (@aK _ _ _ _ _ _ _ _ bA (@aK _ _ _ _ _ _ _ _ bA (pv 0) aE) (pv 1)) (@aA _ _ _ _ _ (@aK _ _ _ _ _ _ _ _ bM (@aK _ _ _ _ _ _ _ _ bA (pv 0) aE) (pv 1)) aF (by rfl)) (by rfl)))))),?_⟩
 obtain ⟨m,em,hm⟩:=at2 (a:=8) (b:=10 ^ (6:Int).toNat + 1) (i:=n % 2) (Int.emod_nonneg _ (by decide)) (Int.emod_lt_of_pos _ (fC rfl))
 rw [e6] at hm
 have m0:0 < m ∧ m ≤ 1000001:=by omega
 have ml:m.natAbs.log2 < 9000:=by
  have hb:m.natAbs < 2 ^ 60:=by omega
  exact Nat.lt_trans ((Nat.log2_lt (by omega)).mpr hb) (by decide)
 have r0:0 ≤ n / 2 % m:=Int.emod_nonneg _ (by omega)
 have r1:n / 2 % m < m:=Int.emod_lt_of_pos _ m0.1
 refine ⟨_,_,rfl,rfl,⟨by decide,by decide,by decide⟩,_,_,rfl,rfl,aT rfl,fun p hp=>?_⟩
 refine ⟨_,rfl,_,_,rfl,rfl,(fC rfl),p,_,_,.int m,rfl,rfl,SqL.of aD,em,?_⟩
 refine ⟨_,rfl,_,_,rfl,rfl,⟨by decide,by decide⟩,_,rfl,_,_,rfl,rfl,⟨m0.1,ml⟩,_,rfl,_,_,rfl,rfl,⟨by decide,by decide⟩,_,rfl,_,_,rfl,rfl,m0.1,aT rfl,fun p2 hp2=>?_⟩
 exact q _ _ _ _ ((aM.upd hp).trans (aM.upd hp2)) ⟨p2,rfl,aD⟩ r0 (by omega)
def rE (K:PySem.W.Frag):Sp:=sp2 fun x y H Q=>∃ n:Nat,Scr K H x ∧ y = .int n ∧ 1 ≤ n ∧ n ≤ 12 ∧ ∀ (l:Addr) (vs:List V) (fs:List Dv) (H':Hp),aM H H' → H l = none → H' l = some (.lst vs) → IsL H' fs vs → Fds fs n → Q (.ref l) H'
theorem vH (T:Txt K mg C):Fc P w K mg base 2 "_law_fields" ["_law_script","_law_many"] (rE K):=by
 have G_l_cell_at:Fc P w K mg base 1 "_law_cell_at" ["_law_script","_law_k"] (oG K):=gI T
 have G_l_words:Fc P w K mg base 1 "_law_words" ["_law_cell","_law_many"] oA:=pF T
 have G_l_mixed:Fc P w K mg base 1 "_law_mixed" ["_law_cell","_law_k"] lD:=kX T
 have G_l_high:Fc P w K mg base 1 "_law_high" ["_law_number"] wG:=rM T
 have G_l_most:Fc P w K mg base 1 "_law_most" ["_law_number"] wF:=rL T
 refine T.d_l_fields.fc eR jM (fun f cdv A outer s H vs Q E hr h=>?_)
 obtain ⟨x,y,rfl,n,⟨a,ns,rfl,hS,hsl⟩,rfl,n1,n12,q⟩:=h
 have big:=cR
 refine ⟨_,(@aG _ _ _ _ _ (@aX _ _ (2) _ _ _ _ eR.nd rfl (Or.inl rfl) (@cF _ _ _ _ _ _ _ _ _ _ G_l_words (hr.mono (by decide)) (@aA _ _ _ _ _ (@cF _ _ _ _ _ _ _ _ _ _ G_l_cell_at (hr.mono (by decide)) (@aA _ _ _ _ _ (pv 0) (@aA _ _ _ _ _ aE aF (by rfl)) (by rfl)) (by rfl) (by decide) (by rfl) (by rfl)) (@aA _ _ _ _ _ (pv 1) aF (by rfl)) (by rfl)) (by rfl) (by decide) (by rfl) (by rfl)) (by rfl) (by trivial)) (@aG _ _ _ _ _ (@aX _ _ (3) _ _ _ _ eR.nd rfl (Or.inl rfl) (@fA _ _ _ _ aF) (by rfl) (by trivial)) (@aG _ _ _ _ _ (@dZ _ _ _ _ _ _ _ _ PassesOwn.never rfl (@fG _ _ _ _ _ _ rfl T.n_range (@aA _ _ _ _ _ (pv 1) aF (by rfl)) (by rfl)) (@aL _ _ (4) _ eR.nd rfl (Or.inl rfl) (by trivial)) (@aG _ _ _ _ _ (@oV _ _ _ _ _ _ (@cF _ _ _ _ _ _ _ _ _ _ G_l_high (hr.mono (by decide)) (@aA _ _ _ _ _ (@cF _ _ _ _ _ _ _ _ _ _ G_l_mixed (hr.mono (by decide)) (@aA _ _ _ _ _ (@cF _ _ _ _ _ _ _ _ _ _ G_l_cell_at (hr.mono (by decide)) (@aA _ _ _ _ _ (pv 0) (@aA _ _ _ _ _ (@aK _ _ _ _ _ _ _ _ cM aE (pv 4)) aF (by rfl)) (by rfl)) (by rfl) (by decide) (by rfl) (by rfl)) (@aA _ _ _ _ _ (@aK _ _ _ _ _ _ _ _ cM (pv 4) aE) aF (by rfl)) (by rfl)) (by rfl) (by decide) (by rfl) (by rfl)) aF (by rfl)) (by rfl) (by decide) (by rfl) (by rfl)) (@fH _ _ _ _ _ _ rfl (@aQ _ _ _ _ _ (@aL _ _ (5) _ eR.nd rfl (Or.inl rfl) (by trivial)) (@aQ _ _ _ _ _ (@aL _ _ (6) _ eR.nd rfl (Or.inl rfl) (by trivial)) dX (by rfl)) (by rfl)) (by rfl) (by rfl)) (by rfl) (by rfl) (by rfl)) (@aH _ _ _ (@jZ _ _ _ _ (@vA _ _ _ _ _ _ _ _ _ _ _ _ PySem.F.plainAttrs_list PySem.F.slot_list_append PySem.F.type_list_append kC (pv 3) (@aA _ _ _ _ _ (@dU _ _ _ _ _ (@aA _ _ _ _ _ (@bH _ _ _ _ _ _ _ (@eG _ (K) rfl) (pv 2) (pv 4) (fun _ _=>rfl)) (@aA _ _ _ _ _ (pv 6) (@aA _ _ _ _ _ (@bH _ _ _ _ _ _ _ (@bE _ (K) rfl) (@cF _ _ _ _ _ _ _ _ _ _ G_l_most (hr.mono (by decide)) (@aA _ _ _ _ _ (pv 5) aF (by rfl)) (by rfl) (by decide) (by rfl) (by rfl)) aE (fun _ _=>rfl)) aF (by rfl)) (by rfl)) (by rfl))) aF (by rfl)) (by rfl) (by rfl) (by rfl) (by rfl) (by rfl)) (by rfl)))) (by intro _;rfl)) (@aH _ _ _ (@aY _ _ _ _ (pv 3)))))),?_⟩
 refine ⟨_,rfl,_,_,rfl,a,ns,1,rfl,rfl,hS,hsl,by decide,_,rfl,_,_,rfl,_,n,rfl,rfl,by omega,fun zs ln H1 nm S1 fln hln=>?_⟩
 have zl:=nm.len
 refine ⟨aT rfl,fun l hl=>?_⟩
 have S2:=aM.upd (o:=.lst []) hl
 have T2:=S1.trans S2
 have hl0:=S1.free hl
 have hln2:=S2 _ _ hln
 refine ⟨_,rfl,_,rfl,by omega,by omega,?_⟩
 refine iK (lo:=0) (n:=n) (fun i σ H'=>∃ (v4 v5 v6:Option V) (us:List V) (fs:List Dv),σ = [some (.ref a),some (.int n),some (.ref ln),some (.ref l),v4,v5,v6] ∧ aM H H' ∧ H' ln = some (.lst (zs.map V.str)) ∧ H' l = some (.lst us) ∧ IsL H' fs us ∧ fs.map aJ = zs.take i ∧ ∀ d ∈ fs,bL d = true)
  ⟨_,_,_,[],[],rfl,T2,hln2,aD,rfl,rfl,(fun d m=>by cases m)⟩ ?_ ?_
 ·rintro i σ H3 hi ⟨v4,v5,v6,us,fs,rfl,S3,hln3,hl3,ius,enm,all⟩
  obtain ⟨z,ez⟩:∃ z,zs[i]? = some z:=⟨_,List.getElem?_eq_getElem (by omega)⟩
  have ezv:(zs.map V.str)[i]? = some (V.str z):=by rw [List.getElem?_map,ez];rfl
  have gz:=nm.good z (List.mem_of_getElem? ez)
  have lus:=ius.length
  have lfs:fs.length ≤ i:=by
   have:=congrArg List.length enm
   rw [List.length_map,List.length_take] at this
   omega
  refine ⟨_,rfl,_,rfl,_,_,rfl,rfl,_,_,rfl,a,ns,_,rfl,rfl,S3.seq hS,hsl,(by omega),_,rfl,_,_,rfl,rfl,_,_,rfl,_,_,rfl,rfl,by omega,by omega,fun m=>?_⟩
  refine ⟨_,rfl,m,rfl,fun a1 b1 v H4 S4 tw g0 g1=>?_⟩
  obtain ⟨t,rfl,et⟩:=tw
  refine ⟨t,_,rfl,SqT.of et,rfl,_,_,rfl,_,_,rfl,rfl,?_⟩
  have hl4:=S4 _ _ hl3
  have hln4:=S4 _ _ hln3
  refine ⟨_,rfl,.inl ⟨rfl,_,SqL.of hl4⟩,_,rfl,_,rfl,ln,_,_,.str z,rfl,rfl,SqL.of hln4,(by rw [Int.zero_add];exact aU ezv),_,rfl,_,rfl,_,rfl,a1,rfl,fun a2 b2 v2 H5 S5 tw2 e0 e1=>?_⟩
  obtain ⟨t2,rfl,et2⟩:=tw2
  refine ⟨t2,_,1,.int b2,rfl,rfl,SqT.of et2,aU (j:=1) rfl,aT rfl,fun pt hpt=>?_⟩
  have S6:=aM.upd (o:=.tup [.str z,.int b1,.int b2]) hpt
  have T6:=S4.trans (S5.trans S6)
  have hl6:=T6 _ _ hl3
  have KT:=qJ.lst (o:=.lst (us ++ [.ref pt])) hl6
  refine ⟨l,us,.ref pt,rfl,rfl,hl6,by omega,?_⟩
  have nll:l ≠ ln:=fun e=>by rw [e,hln] at hl;cases hl
  have all':∀ d ∈ fs ++ [Dv.tup [.str z,.int b1,.int b2]],bL d = true:=fun d m=>by
   rcases List.mem_append.mp m with m | m
   ·exact all d m
   ·rw [List.mem_singleton.mp m];exact aCN gz g0 g1 e0 e1
  refine ⟨_,_,_,us ++ [.ref pt],fs ++ [.tup [.str z,.int b1,.int b2]],rfl,(S3.trans T6).over hl0,?_,aD,IsL.keep KT _ _ (jN fun d m=>xH (all' d m)) ?_,?_,all'⟩
  ·rw [aO (Ne.symm nll)];exact T6 _ _ hln3
  ·exact IsL.snoc (d:=.tup [.str z,.int b1,.int b2]) (v:=.ref pt) ⟨pt,_,rfl,aD,_,_,rfl,rfl,_,_,rfl,rfl,_,_,rfl,rfl,rfl⟩ (IsL.same T6 _ _ ius)
  ·rw [List.map_append,enm,List.take_add_one,ez];rfl
 ·rintro σ H3 ⟨v4,v5,v6,us,fs,rfl,S3,hln3,hl3,ius,enm,all⟩
  rw [List.take_of_length_le (by omega)] at enm
  have lfs:fs.length = n:=by
   have:=congrArg List.length enm
   rw [List.length_map] at this
   omega
  exact ⟨_,rfl,q l us fs H3 S3 hl0 hl3 ius ⟨by omega,by omega,all,by rw [enm];exact nm.nd⟩⟩
open Mt21
def uO (K:PySem.W.Frag):Sp:=sp3 fun x y u H Q=>∃ (n:Nat) (a:Addr) (vs:List V) (fs:List Dv) (k:Nat),Scr K H x ∧ y = .ref a ∧ H a = some (.lst vs) ∧ IsL H fs vs ∧ Fds fs k ∧ k ≤ 12 ∧ u = .int n ∧ 1 ≤ n ∧ n ≤ 40 ∧
 ∀ (l:Addr) (us:List V) (ds:List Dv) (H':Hp),aM H H' → H l = none → H' l = some (.lst us) → IsL H' ds us → Dks ("sea" :: fs.map aJ) ds n → Q (.ref l) H'
theorem wX (T:Txt K mg C):Fc P w K mg base 2 "_law_dykes" ["_law_script","_law_fields_here","_law_many"] (uO K):=by
 have G_l_cell_at:Fc P w K mg base 1 "_law_cell_at" ["_law_script","_law_k"] (oG K):=gI T
 have G_l_words:Fc P w K mg base 1 "_law_words" ["_law_cell","_law_many"] oA:=pF T
 have G_l_mixed:Fc P w K mg base 1 "_law_mixed" ["_law_cell","_law_k"] lD:=kX T
 have G_l_high:Fc P w K mg base 1 "_law_high" ["_law_number"] wG:=rM T
 have G_l_most:Fc P w K mg base 1 "_law_most" ["_law_number"] wF:=rL T
 refine T.d_l_dykes.fc bS aDY (fun f cdv A outer s H vs Q E hr h=>?_)
 obtain ⟨x,y,u,rfl,n,a,ws,fs,kf,⟨sa,ns,rfl,hS,hsl⟩,rfl,ha,hi,gf,hkf,rfl,n0,n1,q⟩:=h
 have big:=cR
 have lw:=hi.length
 have f1:=gf.l1
 have f2:=gf.l2
 refine ⟨_,(@aG _ _ _ _ _ (@aX _ _ (3) _ _ _ _ bS.nd rfl (Or.inl rfl) (@cF _ _ _ _ _ _ _ _ _ _ G_l_words (hr.mono (by decide)) (@aA _ _ _ _ _ (@cF _ _ _ _ _ _ _ _ _ _ G_l_cell_at (hr.mono (by decide)) (@aA _ _ _ _ _ (pv 0) (@aA _ _ _ _ _ aE aF (by rfl)) (by rfl)) (by rfl) (by decide) (by rfl) (by rfl)) (@aA _ _ _ _ _ (pv 2) aF (by rfl)) (by rfl)) (by rfl) (by decide) (by rfl) (by rfl)) (by rfl) (by trivial)) (@aG _ _ _ _ _ (@aX _ _ (4) _ _ _ _ bS.nd rfl (Or.inl rfl) (@aK _ _ _ _ _ _ _ _ tE (@fA _ _ _ _ (@aA _ _ _ _ _ oW aF (by rfl))) (@dI _ _ _ _ _ _ _ _ _ _ _ ["_law_field"] 1 [] rfl (@bU _ _ _ _ (pv 1)) (fun R=>@aL _ _ (0) _ (show List.Nodup (["_law_field"]:List Str) by decide +kernel) rfl (Or.inl rfl) (by trivial)) (@bN _ _ (by decide)) (fun R=>cY) (fun R=>(@bH _ _ _ _ _ _ _ (@bE _ (K) rfl) (pv 0) aE (fun _ _=>rfl))) (by rfl) (by rfl) (by rfl) (by rfl) (by rfl) (by rfl) (by rfl) (by intro _;rfl))) (by rfl) (by trivial)) (@aG _ _ _ _ _ (@aX _ _ (5) _ _ _ _ bS.nd rfl (Or.inl rfl) (@fA _ _ _ _ aF) (by rfl) (by trivial)) (@aG _ _ _ _ _ (@dZ _ _ _ _ _ _ _ _ PassesOwn.never rfl (@fG _ _ _ _ _ _ rfl T.n_range (@aA _ _ _ _ _ (pv 2) aF (by rfl)) (by rfl)) (@aL _ _ (6) _ bS.nd rfl (Or.inl rfl) (by trivial)) (@aG _ _ _ _ _ (@aX _ _ (7) _ _ _ _ bS.nd rfl (Or.inl rfl) (@cF _ _ _ _ _ _ _ _ _ _ G_l_mixed (hr.mono (by decide)) (@aA _ _ _ _ _ (@cF _ _ _ _ _ _ _ _ _ _ G_l_cell_at (hr.mono (by decide)) (@aA _ _ _ _ _ (pv 0) (@aA _ _ _ _ _ (@aK _ _ _ _ _ _ _ _ cM (@aK _ _ _ _ _ _ _ _ cM aE (@aV _ _ _ _ _ _ _ _ _ (@bQ _ (K) rfl) rfl T.n_len cI (@aA _ _ _ _ _ (pv 1) aF (by rfl)) (by decide) (by decide) (by rfl) (by rfl))) (pv 6)) aF (by rfl)) (by rfl)) (by rfl) (by decide) (by rfl) (by rfl)) (@aA _ _ _ _ _ (@aK _ _ _ _ _ _ _ _ cM (pv 6) aE) aF (by rfl)) (by rfl)) (by rfl) (by decide) (by rfl) (by rfl)) (by rfl) (by trivial)) (@aG _ _ _ _ _ (@aX _ _ (8) _ _ _ _ bS.nd rfl (Or.inl rfl) (@aK _ _ _ _ _ _ _ _ bM (pv 7) (@aV _ _ _ _ _ _ _ _ _ (@bQ _ (K) rfl) rfl T.n_len cI (@aA _ _ _ _ _ (pv 4) aF (by rfl)) (by decide) (by decide) (by rfl) (by rfl))) (by rfl) (by trivial)) (@aG _ _ _ _ _ (@aX _ _ (9) _ _ _ _ bS.nd rfl (Or.inl rfl) (@aK _ _ _ _ _ _ _ _ bM (@aK _ _ _ _ _ _ _ _ cM (@aK _ _ _ _ _ _ _ _ cM (pv 8) aE) (@aK _ _ _ _ _ _ _ _ bM (@aK _ _ _ _ _ _ _ _ bA (pv 7) aE) (@aV _ _ _ _ _ _ _ _ _ (@bQ _ (K) rfl) rfl T.n_len cI (@aA _ _ _ _ _ (pv 1) aF (by rfl)) (by decide) (by decide) (by rfl) (by rfl)))) (@aV _ _ _ _ _ _ _ _ _ (@bQ _ (K) rfl) rfl T.n_len cI (@aA _ _ _ _ _ (pv 4) aF (by rfl)) (by decide) (by decide) (by rfl) (by rfl))) (by rfl) (by trivial)) (@aG _ _ _ _ _ (@oV _ _ _ _ _ _ (@cF _ _ _ _ _ _ _ _ _ _ G_l_high (hr.mono (by decide)) (@aA _ _ _ _ _ (@aK _ _ _ _ _ _ _ _ bA (pv 7) aE) aF (by rfl)) (by rfl) (by decide) (by rfl) (by rfl)) (@fH _ _ _ _ _ _ rfl (@aQ _ _ _ _ _ (@aL _ _ (7) _ bS.nd rfl (Or.inl rfl) (by trivial)) (@aQ _ _ _ _ _ (@aL _ _ (10) _ bS.nd rfl (Or.inl rfl) (by trivial)) dX (by rfl)) (by rfl)) (by rfl) (by rfl)) (by rfl) (by rfl) (by rfl)) (@aG _ _ _ _ _ (@oV _ _ _ _ _ _ (@cF _ _ _ _ _ _ _ _ _ _ G_l_most (hr.mono (by decide)) (@aA _ _ _ _ _ (pv 7) aF (by rfl)) (by rfl) (by decide) (by rfl) (by rfl)) (@fH _ _ _ _ _ _ rfl (@aQ _ _ _ _ _ (@aL _ _ (7) _ bS.nd rfl (Or.inl rfl) (by trivial)) (@aQ _ _ _ _ _ (@aL _ _ (11) _ bS.nd rfl (Or.inl rfl) (by trivial)) dX (by rfl)) (by rfl)) (by rfl) (by rfl)) (by rfl) (by rfl) (by rfl)) (@aG _ _ _ _ _ (@aX _ _ (12) _ _ _ _ bS.nd rfl (Or.inl rfl) jI (by rfl) (by trivial)) (@aG _ _ _ _ _ (@dY _ _ _ _ _ _ _ _ (@PW.pt _ _ _ (@oT _ _ _ _ _ _ _ (@bT _ _ _ _ _ _ _ _ aBU (@aK _ _ _ _ _ _ _ _ bM (pv 7) aE) aE (@bV _ _ (by decide) (by decide))) (@nV _ _ _ _ (@bT _ _ _ _ _ _ _ _ aBU (pv 10) (@aK _ _ _ _ _ _ _ _ lZ aE (@aK _ _ _ _ _ _ _ _ jJ aE aE)) (@bV _ _ (by decide) (by decide)))))) (@aH _ _ _ (@aX _ _ (12) _ _ _ _ bS.nd rfl (Or.inl rfl) (@aV _ _ _ _ _ _ _ _ _ (@kH _ rfl) rfl T.n_max kI (@aA _ _ _ _ _ (@aK _ _ _ _ _ _ _ _ lZ aE (@aK _ _ _ _ _ _ _ _ jJ aE aE)) (@aA _ _ _ _ _ (@aK _ _ _ _ _ _ _ _ lZ (@aK _ _ _ _ _ _ _ _ lZ (pv 10) aE) (@aK _ _ _ _ _ _ _ _ bM (@aK _ _ _ _ _ _ _ _ bA (pv 7) aE) (@bH _ _ _ _ _ _ _ (@eG _ (K) rfl) (@fA _ _ _ _ (@aA _ _ _ _ _ aE (@aA _ _ _ _ _ (@aK _ _ _ _ _ _ _ _ gU aE (@aK _ _ _ _ _ _ _ _ jJ aE aE)) aF (by rfl)) (by rfl))) (@aK _ _ _ _ _ _ _ _ bM (pv 7) aE) (fun _ _=>rfl)))) aF (by rfl)) (by rfl)) (by decide) (by decide) (by rfl) (by rfl)) (by rfl) (by trivial))) cA) (@aH _ _ _ (@jZ _ _ _ _ (@vA _ _ _ _ _ _ _ _ _ _ _ _ PySem.F.plainAttrs_list PySem.F.slot_list_append PySem.F.type_list_append kC (pv 5) (@aA _ _ _ _ _ (@dU _ _ _ _ _ (@aA _ _ _ _ _ (@bH _ _ _ _ _ _ _ (@eG _ (K) rfl) (pv 3) (pv 6) (fun _ _=>rfl)) (@aA _ _ _ _ _ (@bH _ _ _ _ _ _ _ (@eG _ (K) rfl) (pv 4) (pv 8) (fun _ _=>rfl)) (@aA _ _ _ _ _ (@bH _ _ _ _ _ _ _ (@eG _ (K) rfl) (pv 4) (pv 9) (fun _ _=>rfl)) (@aA _ _ _ _ _ (pv 10) (@aA _ _ _ _ _ (pv 11) (@aA _ _ _ _ _ (pv 12) aF (by rfl)) (by rfl)) (by rfl)) (by rfl)) (by rfl)) (by rfl))) aF (by rfl)) (by rfl) (by rfl) (by rfl) (by rfl) (by rfl)) (by rfl)))))))))) (by intro _;rfl)) (@aH _ _ _ (@aY _ _ _ _ (pv 5))))))),?_⟩
 refine ⟨_,rfl,_,_,rfl,sa,ns,2,rfl,rfl,hS,hsl,by decide,_,rfl,_,_,rfl,_,n,rfl,rfl,by omega,fun zs pz H0 hz S1 fpz hpz=>?_⟩
 have lz:=hz.len
 refine ⟨aT rfl,fun p1 hp1=>?_⟩
 have S2:=aM.upd (o:=.lst [.str "sea"]) hp1
 have S12:=S1.trans S2
 refine ⟨_,rfl,a,rfl,⟨_,SqL.of (S12 _ _ ha)⟩,?_⟩
 refine cO (F:=K) (xs:=ws) (by omega) (fun i ys H'=>H' = upd H0 p1 (.lst [.str "sea"]) ∧ ys = ((fs.take i).map aJ).map V.str) ⟨rfl,rfl⟩ ?_ ?_ ?_
 ·rintro i ys H' hi' ⟨rfl,rfl⟩
  exact ⟨SqL.of (S12 _ _ ha),by rw [List.length_map,List.length_map,List.length_take];omega⟩
 ·rintro i x ys H' K1 K2 hx' ⟨rfl,rfl⟩ k1 k2
  have hil:i < ws.length:=(List.getElem?_eq_some_iff.mp hx').1
  obtain ⟨d,ed⟩:∃ d,fs[i]? = some d:=⟨_,List.getElem?_eq_getElem (by omega)⟩
  obtain ⟨v,ev,iv⟩:=hi.get ed
  rw [hx'] at ev
  cases ev
  obtain ⟨z,g,e,rfl,_⟩:=bK (gf.all d (List.mem_of_getElem? ed))
  obtain ⟨t,rfl,o⟩:=fL iv
  refine ⟨_,rfl,t,_,0,.str z,rfl,rfl,SqT.of (S12 _ _ o),aU (j:=0) rfl,k1 _ _ ⟨rfl,?_⟩⟩
  rw [List.take_add_one,ed]
  simp [aJ,cK]
 ·rintro ys H' ⟨rfl,rfl⟩
  intro p2 hp2
  rw [List.take_of_length_le (by omega)]
  have S3:=aM.upd (o:=.lst ((fs.map aJ).map V.str)) hp2
  refine ⟨p1,p2,_,_,rfl,rfl,S3 _ _ aD,aD,by simp only [List.length_map,List.length_cons,List.length_nil];omega,fun p3 hp3=>?_⟩
  have S4:=aM.upd (o:=.lst ([.str "sea"] ++ (fs.map aJ).map V.str)) hp3
  have S14:=S12.trans (S3.trans S4)
  have hpz4:=(S2.trans (S3.trans S4)) pz _ hpz
  have hp34:upd (upd (upd H0 p1 (.lst [.str "sea"])) p2 (.lst ((fs.map aJ).map V.str))) p3 (.lst ([.str "sea"] ++ (fs.map aJ).map V.str)) p3 = some (.lst ((("sea":Str) :: fs.map aJ).map V.str)):=aD
  generalize upd (upd (upd H0 p1 (.lst [.str "sea"])) p2 (.lst ((fs.map aJ).map V.str))) p3 (.lst ([.str "sea"] ++ (fs.map aJ).map V.str)) = H4 at S14 hpz4 hp34
  refine ⟨aT rfl,fun l hl=>?_⟩
  have S5:=aM.upd (o:=.lst []) hl
  have fl:H l = none:=S14.free hl
  have npz:pz ≠ l:=aS hpz4 hl
  have np3:p3 ≠ l:=aS hp34 hl
  have sl:((("sea":Str) :: fs.map aJ).length) = fs.length + 1:=by simp
  have snd:=aBA gf
  generalize hsd:("sea" :: fs.map aJ:List Str) = sd at *
  have sl2:(sd.map V.str).length = fs.length + 1:=by rw [List.length_map,sl]
  refine ⟨_,rfl,_,rfl,by omega,by omega,?_⟩
  refine iK (lo:=0) (n:=n) (fun i σ H'=>∃ (v6 v7 v8 v9 v10 v11 v12:Option V) (us:List V) (ds:List Dv),σ = [some (.ref sa),some (.ref a),some (.int n),some (.ref pz),some (.ref p3),some (.ref l),v6,v7,v8,v9,v10,v11,v12] ∧ aM H H' ∧ H' pz = some (.lst (zs.map V.str)) ∧ H' p3 = some (.lst (sd.map V.str)) ∧ H' l = some (.lst us) ∧ IsL H' ds us ∧ ds.map aJ = zs.take i ∧ (∀ d ∈ ds,cJ sd d = true))
   ⟨_,_,_,_,_,_,_,[],[],rfl,S14.trans S5,S5 _ _ hpz4,S5 _ _ hp34,aD,rfl,rfl,fun d m=>by cases m⟩ ?_ ?_
  ·rintro i σ H' hi2 ⟨v6,v7,v8,v9,v10,v11,v12,us,ds,rfl,S,hz',hsd',hl',hi',en,af⟩
   have lf:ds.length = i:=by
    have:=congrArg List.length en
    rw [List.length_map,List.length_take] at this
    omega
   have lu:=hi'.length
   obtain ⟨z,ez⟩:∃ z,zs[i]? = some z:=⟨_,List.getElem?_eq_getElem (by omega)⟩
   have gz:=hz.good z (List.mem_of_getElem? ez)
   refine ⟨_,rfl,_,rfl,a,ws,rfl,.inl (SqL.of (S _ _ ha)),_,_,rfl,rfl,_,rfl,_,_,rfl,rfl,_,_,rfl,sa,ns,_,rfl,rfl,S.seq hS,hsl,(by omega),_,rfl,_,_,rfl,rfl,_,_,rfl,_,_,rfl,rfl,by omega,by omega,fun c2=>?_⟩
   have L0:(0:Int) < ((sd.map V.str).length:Int):=by omega
   refine ⟨_,rfl,_,rfl,p3,_,rfl,.inl (SqL.of hsd'),_,_,rfl,rfl,L0,?_⟩
   have f0:0 ≤ c2 % ((sd.map V.str).length:Int):=Int.emod_nonneg _ (by omega)
   have f1':c2 % ((sd.map V.str).length:Int) < ((sd.map V.str).length:Int):=Int.emod_lt_of_pos _ L0
   have ews:(ws.length:Int) = ((sd.map V.str).length:Int) - 1:=by omega
   refine ⟨_,rfl,_,_,rfl,rfl,_,rfl,_,_,rfl,rfl,⟨by decide,by decide⟩,_,rfl,a,ws,rfl,.inl (SqL.of (S _ _ ha)),_,_,rfl,rfl,(by omega),_,_,rfl,rfl,_,rfl,p3,_,rfl,.inl (SqL.of hsd'),_,_,rfl,rfl,L0,?_⟩
   dsimp only
   rw [ews]
   obtain ⟨se0,se1,fne⟩:=zB (c:=c2 / 13) (f:=c2 % ((sd.map V.str).length:Int)) (L:=((sd.map V.str).length:Int)) (by omega) f0 f1' rfl rfl
   obtain ⟨fj,hfj⟩:=Int.eq_ofNat_of_zero_le f0
   obtain ⟨sj,hsj⟩:=Int.eq_ofNat_of_zero_le se0
   rw [hfj] at f1'
   rw [hsj] at se1
   rw [hfj,← hfj,hsj] at fne
   obtain ⟨za,eza⟩:∃ z,sd[fj]? = some z:=⟨_,List.getElem?_eq_getElem (by omega)⟩
   obtain ⟨zb,ezb⟩:∃ z,sd[sj]? = some z:=⟨_,List.getElem?_eq_getElem (by omega)⟩
   have atA:(sd.map V.str)[fj]? = some (V.str za):=by rw [List.getElem?_map,eza];rfl
   have atB:(sd.map V.str)[sj]? = some (V.str zb):=by rw [List.getElem?_map,ezb];rfl
   have iA:atI (sd.map V.str) (c2 % ((sd.map V.str).length:Int)) = some (V.str za):=by rw [hfj];exact aU atA
   have iB:atI (sd.map V.str) ((c2 % ((sd.map V.str).length:Int) + 1 + c2 / 13 % (((sd.map V.str).length:Int) - 1)) % ((sd.map V.str).length:Int)) = some (V.str zb):=by rw [hsj];exact aU atB
   have zab:za ≠ zb:=aGZ snd eza ezb (by omega)
   refine ⟨_,rfl,_,_,rfl,rfl,⟨by decide,by decide⟩,_,rfl,_,rfl,fun n3 cr tv H5 S5' tw cr0 cr1=>?_⟩
   obtain ⟨t5,rfl,et5⟩:=tw
   refine ⟨t5,_,rfl,SqT.of et5,rfl,_,_,rfl,_,_,rfl,rfl,?_⟩
   refine ⟨_,rfl,_,rfl,n3,rfl,fun n4 rt tv6 H6 S6 tw6 rt0 rt1=>?_⟩
   obtain ⟨t6,rfl,et6⟩:=tw6
   refine ⟨t6,_,rfl,SqT.of et6,rfl,_,_,rfl,_,_,rfl,rfl,?_⟩
   have U6:=S5'.trans S6
   have S7:=S.trans U6
   have hz7:=U6 _ _ hz'
   have hsd7:=U6 _ _ hsd'
   have hl7:=U6 _ _ hl'
   have hi7:=IsL.same U6 _ _ hi'
   have fin:∀ (sv:V) (sdv:Dv) (H2:Hp),aM H H2 → H2 pz = some (.lst (zs.map V.str)) → H2 p3 = some (.lst (sd.map V.str)) → H2 l = some (.lst us) → IsL H2 ds us → (∀ H3,Is H3 sdv sv) → iS (.int cr) sdv = true →
     ∀ t,H2 t = none → ∃ us' ds',aM H (upd (upd H2 t (.tup [.str z,.str za,.str zb,.int cr,.int rt,sv])) l (.lst us')) ∧ us' = us ++ [.ref t] ∧ upd (upd H2 t (.tup [.str z,.str za,.str zb,.int cr,.int rt,sv])) l (.lst us') pz = some (.lst (zs.map V.str)) ∧
      upd (upd H2 t (.tup [.str z,.str za,.str zb,.int cr,.int rt,sv])) l (.lst us') p3 = some (.lst (sd.map V.str)) ∧ IsL (upd (upd H2 t (.tup [.str z,.str za,.str zb,.int cr,.int rt,sv])) l (.lst us')) ds' us' ∧ ds'.map aJ = zs.take (i + 1) ∧ (∀ d ∈ ds',cJ sd d = true):=by
    intro sv sdv H2 S' hz2 hs2 hl2 hi2' his hsl t ht
    have S3':=aM.upd (o:=.tup [.str z,.str za,.str zb,.int cr,.int rt,sv]) ht
    have hl3:=S3' _ _ hl2
    have ok:cJ sd (.tup [.str z,.str za,.str zb,.int cr,.int rt,sdv]) = true:=aEE gz (List.mem_of_getElem? eza) (List.mem_of_getElem? ezb) zab (aCH cr0 cr1) (aGA rt0 rt1) hsl
    refine ⟨us ++ [.ref t],ds ++ [.tup [.str z,.str za,.str zb,.int cr,.int rt,sdv]],(S'.trans S3').over fl,rfl,?_,?_,?_,?_,?_⟩
    ·rw [aO npz]
     exact S3' _ _ hz2
    ·rw [aO np3]
     exact S3' _ _ hs2
    ·refine IsL.keep (qJ.lst hl3) _ _ (jN fun d m=>aAC (zs:=sd) ?_) (IsL.snoc ?_ (IsL.same S3' _ _ hi2'))
     ·rcases List.mem_append.mp m with m | m
      ·exact af d m
      ·rw [List.mem_singleton.mp m]
       exact ok
     ·exact ⟨t,_,rfl,aD,.str z,_,rfl,rfl,.str za,_,rfl,rfl,.str zb,_,rfl,rfl,.int cr,_,rfl,rfl,.int rt,_,rfl,rfl,sv,_,rfl,his _,rfl⟩
    ·rw [List.map_append,en,List.take_add_one,ez]
     rfl
    ·intro d m
     rcases List.mem_append.mp m with m | m
     ·exact af d m
     ·rw [List.mem_singleton.mp m]
      exact ok
   refine ⟨_,rfl,_,_,rfl,rfl,(fC rfl),_,_,rfl,rfl,_,rfl,?_⟩
   have iz:atI (zs.map V.str) (0 + (i:Int)) = some (V.str z):=by rw [Int.zero_add];exact aU (by rw [List.getElem?_map,ez];rfl)
   refine fZ (fun t1=>?_) (fun t1=>?_)
   ·refine ⟨_,rfl,_,_,rfl,rfl,⟨by decide,by decide,by decide⟩,_,_,rfl,rfl,_,_,rfl,rfl,_,rfl,?_⟩
    refine fZ (fun t2=>?_) (fun t2=>?_)
    ·have t2':0 - (10:Int) ^ (6:Int).toNat < cr:=of_decide_eq_true t2
     rw [p6] at t2'
     refine ⟨_,_,rfl,rfl,⟨by decide,by decide,by decide⟩,_,_,rfl,rfl,?_⟩
     refine ⟨_,rfl,_,_,rfl,rfl,_,rfl,_,_,rfl,rfl,⟨by decide,by decide⟩,_,_,rfl,rfl,⟨by decide,by decide,by decide⟩,_,_,rfl,rfl,.inl ⟨by decide,by decide⟩,aT rfl,fun pl hpl=>?_⟩
     obtain ⟨md,emd,hmd⟩:=at2 (a:=9) (b:=2 * 10 ^ (6:Int).toNat) (i:=n4 % 2) (Int.emod_nonneg _ (by decide)) (Int.emod_lt_of_pos _ (fC rfl))
     rw [p6] at hmd
     refine ⟨_,rfl,_,_,rfl,rfl,(fC rfl),pl,_,_,.int md,rfl,rfl,SqL.of aD,emd,_,_,rfl,rfl,(by show 0 < md;omega),_,_,rfl,rfl,_,_,rfl,?_⟩
     have q0:0 ≤ n4 / 4 % md:=Int.emod_nonneg _ (by omega)
     generalize n4 / 4 % md = qq at *
     generalize hsi:(if cr - 1 - qq > 0 - (10:Int) ^ (6:Int).toNat then cr - 1 - qq else 0 - (10:Int) ^ (6:Int).toNat) = si
     rw [p6] at hsi
     have s2:-1000000 ≤ si ∧ si < cr:=by
      rw [← hsi]
      split <;> omega
     have hss:iS (.int cr) (.int si) = true:=by
      show (hgt si && decide (si < cr)) = true
      rw [aCH s2.1 (by omega),decide_eq_true s2.2]
      rfl
     have R:=aM.upd (o:=.lst [.int 9,.int (2 * 10 ^ (6:Int).toNat)]) hpl
     refine ⟨_,rfl,.inl ⟨rfl,_,SqL.of (R _ _ hl7)⟩,_,rfl,_,rfl,pz,_,0 + (i:Int),.str z,rfl,rfl,SqL.of (R _ _ hz7),iz,?_⟩
     refine ⟨_,rfl,_,rfl,p3,_,_,.str za,rfl,rfl,SqL.of (R _ _ hsd7),iA,_,rfl,_,rfl,p3,_,_,.str zb,rfl,rfl,SqL.of (R _ _ hsd7),iB,_,rfl,_,rfl,?_⟩
     refine ⟨_,rfl,aT rfl,fun t ht=>?_⟩
     obtain ⟨us',ds',g1,rfl,g2,g3,g4,g5,g6⟩:=fin (.int si) (.int si) _ (S7.trans R) (R _ _ hz7) (R _ _ hsd7) (R _ _ hl7) (IsL.same R _ _ hi7) (fun _=>rfl) hss t ht
     exact ⟨l,us,.ref t,rfl,rfl,(aM.upd ht) _ _ (R _ _ hl7),by omega,_,_,_,_,_,_,_,_,ds',rfl,g1,g2,g3,aD,g4,g5,g6⟩
    ·refine ⟨_,rfl,.inl ⟨rfl,_,SqL.of hl7⟩,_,rfl,_,rfl,pz,_,0 + (i:Int),.str z,rfl,rfl,SqL.of hz7,iz,?_⟩
     refine ⟨_,rfl,_,rfl,p3,_,_,.str za,rfl,rfl,SqL.of hsd7,iA,_,rfl,_,rfl,p3,_,_,.str zb,rfl,rfl,SqL.of hsd7,iB,_,rfl,_,rfl,?_⟩
     refine ⟨_,rfl,aT rfl,fun t ht=>?_⟩
     obtain ⟨us',ds',g1,rfl,g2,g3,g4,g5,g6⟩:=fin .non .non _ S7 hz7 hsd7 hl7 hi7 (fun _=>rfl) rfl t ht
     exact ⟨l,us,.ref t,rfl,rfl,(aM.upd ht) _ _ hl7,by omega,_,_,_,_,_,_,_,_,ds',rfl,g1,g2,g3,aD,g4,g5,g6⟩
   ·refine ⟨_,rfl,.inl ⟨rfl,_,SqL.of hl7⟩,_,rfl,_,rfl,pz,_,0 + (i:Int),.str z,rfl,rfl,SqL.of hz7,iz,?_⟩
    refine ⟨_,rfl,_,rfl,p3,_,_,.str za,rfl,rfl,SqL.of hsd7,iA,_,rfl,_,rfl,p3,_,_,.str zb,rfl,rfl,SqL.of hsd7,iB,_,rfl,_,rfl,?_⟩
    refine ⟨_,rfl,aT rfl,fun t ht=>?_⟩
    obtain ⟨us',ds',g1,rfl,g2,g3,g4,g5,g6⟩:=fin .non .non _ S7 hz7 hsd7 hl7 hi7 (fun _=>rfl) rfl t ht
    exact ⟨l,us,.ref t,rfl,rfl,(aM.upd ht) _ _ hl7,by omega,_,_,_,_,_,_,_,_,ds',rfl,g1,g2,g3,aD,g4,g5,g6⟩
  ·rintro σ H' ⟨v6,v7,v8,v9,v10,v11,v12,us,ds,rfl,S,hz',hsd',hl',hi',en,af⟩
   rw [List.take_of_length_le (by omega)] at en
   have lf:ds.length = zs.length:=by
    have:=congrArg List.length en
    rwa [List.length_map] at this
   refine ⟨_,rfl,q l us ds H' S fl hl' hi' ⟨by omega,by omega,af,by rw [en];exact hz.nd⟩⟩
open Mt22 MtF
def uQ (C:Addr):Sp:=sp2 fun x y H Q=>∃ (p l:Addr) (fs ds:List Dv) (op:List Str),x = .ref p ∧ LandAt C H p fs ds ∧ y = .ref l ∧ H l = some (.lst (op.map V.str)) ∧ op.length ≤ 1000 ∧ (∀ z ∈ op,z ∈ (ds.filter cQ).map aJ) ∧ ∀ H',aM H H' → Q .non H'
theorem kW (T:Txt K mg C):Fc P w K mg base 3 "check_sluices" ["land","thing"] (uQ C):=by
 have G_land_p_sluices:Mc P w K mg base 2 C "sluices" ["self"] (oB C fun _ ds=>(ds.filter cQ).map aJ):=lP T
 have G_p_is_one_of:Fc P w K mg base 1 "is_one_of" ["thing","names"] (sQ K):=jK T
 refine T.d_p_check_sluices.fc gN jM (fun f cdv A outer s H vs Q E hr h=>?_)
 obtain ⟨x,y,rfl,p,l,fs,ds,op,rfl,L,rfl,hl,lo,sub,q⟩:=h
 have big:=cR
 obtain ⟨dx,d1,d2,hx,_⟩:=L.ex
 refine ⟨_,(@aG _ _ _ _ _ (@aX _ _ (2) _ _ _ _ gN.nd rfl (Or.inr rfl) (@rK _ _ _ _ _ _ _ _ _ _ _ T.cl_Land G_land_p_sluices (hr.mono (by decide)) (pv 0) (by rfl)) (by rfl) (by trivial)) (@aH _ _ _ (@dY _ _ _ _ _ _ _ _ (@PW.pt _ _ _ (@mS _ _ _ _ _ _ _ (@gC _ _ _ _ (@gB _ _ _ (@aV _ _ _ _ _ _ _ _ _ (@cB _ (K) rfl) rfl T.n_isinstance bG (@aA _ _ _ _ _ (pv 1) (@aA _ _ _ _ _ (@kM _ _ _ _ T.n_list dA (by rfl) (by decide) (by decide)) aF (by rfl)) (by rfl)) (by decide) (by decide) (by rfl) (by rfl)) (by intro _;rfl))) (@oS _ _ _ _ (@gC _ _ _ _ (@gB _ _ _ (@aV _ _ _ _ _ _ _ _ _ (@lU _ rfl) rfl T.n_all kJ (@aA _ _ _ _ _ (@dI _ _ _ _ _ _ _ _ _ _ _ ["name","sluices"] 1 [2] rfl (@bU _ _ _ _ (pv 1)) (fun R=>@aL _ _ (0) _ (show List.Nodup (["name","sluices"]:List Str) by decide +kernel) rfl (Or.inl rfl) (by trivial)) (@bN _ _ (by decide)) (fun R=>cY) (fun R=>(@cF _ _ _ _ _ _ _ _ _ _ G_p_is_one_of (hr.mono (by decide)) (@aA _ _ _ _ _ (pv 0) (@aA _ _ _ _ _ (pv 1) aF (by rfl)) (by rfl)) (by rfl) (by decide) (by rfl) (by rfl))) (by rfl) (by rfl) (by rfl) (by rfl) (by rfl) (by rfl) (by rfl) (by intro _;rfl)) aF (by rfl)) (by decide) (by decide) (by rfl) (by rfl)) (by intro _;rfl)))))) (@aH _ _ _ oU) cA))),?_⟩
 refine ⟨_,rfl,p,dx,_,rfl,hx,gZ _ _ (by decide +kernel) (by decide +kernel),_,rfl,p,fs,ds,rfl,L,fun ls H1 S1 fls hls=>?_⟩
 refine ⟨_,rfl,_,_,_,_,_,rfl,rfl,.lst (S1 _ _ hl),hE _ _,_,rfl,cN ?_⟩
 refine ⟨_,rfl,l,rfl,⟨_,SqL.of (S1 _ _ hl)⟩,?_⟩
 refine cO (F:=K) (xs:=op.map V.str) (by rw [List.length_map];omega) (fun i ys H'=>H1 = H' ∧ ys = (op.take i).map fun z=>V.bl true) ⟨rfl,rfl⟩ ?_ ?_ ?_
 ·rintro i ys H' hi' ⟨rfl,rfl⟩
  exact ⟨SqL.of (S1 _ _ hl),by rw [List.length_map,List.length_take];omega⟩
 ·rintro i xv ys H' K1 K2 hx ⟨rfl,rfl⟩ k1 k2
  obtain ⟨z,ez⟩:∃ z,op[i]? = some z:=by
   have:=(List.getElem?_eq_some_iff.mp hx).1
   rw [List.length_map] at this
   exact ⟨_,List.getElem?_eq_getElem this⟩
  rw [List.getElem?_map,ez] at hx
  cases hx
  refine ⟨_,rfl,_,rfl,_,_,rfl,.str z,ls,_,rfl,rfl,SqL.of hls,?_⟩
  rw [show mU ((ds.filter cQ).map aJ) (.str z) = true from decide_eq_true (sub z (List.mem_of_getElem? ez))]
  refine k1 _ _ ⟨rfl,?_⟩
  rw [List.take_add_one,ez,List.map_append]
  rfl
 ·rintro ys H' ⟨rfl,rfl⟩
  rw [List.length_map,List.take_of_length_le (Nat.le_refl _)]
  intro p4 hp4
  refine ⟨p4,op.map fun _=>true,rfl,SqL.of ?_,_,rfl,?_⟩
  ·rw [aD,List.map_map]
   rfl
  ·rw [show (op.map fun _=>true).all id = true from List.all_eq_true.mpr fun b m=>by obtain ⟨z,_,rfl⟩:=List.mem_map.mp m;rfl]
   exact cN (q _ (S1.trans (aM.upd hp4)))
def fS (op:List Str) (ds:List Dv):List (Key × V):=ds.map fun d=>(Sum.inr (aJ d),V.int (bF op d))
theorem rA (op:List Str) (ds:List Dv):(fS op ds).map (·.1) = ds.map hX:=by
 unfold fS
 rw [List.map_map]
 rfl
theorem gL {f:Dv → V}:∀ {ds:List Dv} {d:Dv},(ds.map aJ).Nodup → d ∈ ds → dC (ds.map fun d=>((Sum.inr (aJ d):Key),f d)) (Sum.inr (aJ d)) = some (f d)
 | e :: ds,d,nd,m=>by
  rw [List.map_cons] at nd ⊢
  rw [List.nodup_cons] at nd
  rcases List.mem_cons.mp m with rfl | m
  ·exact cS rfl
  ·rw [cT (fun c=>nd.1 (by rw [Sum.inr.inj c];exact List.mem_map.mpr ⟨d,m,rfl⟩))]
   exact gL nd.2 m
def uL (C:Addr):Sp:=sp2 fun x y H Q=>∃ (p l:Addr) (fs ds:List Dv) (op:List Str),x = .ref p ∧ LandAt C H p fs ds ∧ y = .ref l ∧ H l = some (.lst (op.map V.str)) ∧ op.length ≤ 1000 ∧ (∀ z ∈ op,z ∈ (ds.filter cQ).map aJ) ∧
 ∀ (d:Addr) (H':Hp),aM H H' → H d = none → H' d = some (.dK (fS op ds)) → Q (.ref d) H'
theorem uR {zs:List Str} {ds:List Dv} (gd:GoodD zs ds) {op:List Str} (sub:∀ z ∈ op,z ∈ (ds.filter cQ).map aJ) {d:Dv} (m:d ∈ ds) (h:aJ d ∈ op):∃ i,aAZ d = .int i:=by
 obtain ⟨e,me,en⟩:=List.mem_map.mp (sub _ h)
 rw [List.mem_filter] at me
 have:e = d:=by
  have h1:=tR gd.nd me.1
  have h2:=tR gd.nd m
  rw [en,h2] at h1
  exact (Option.some.inj h1).symm
 subst this
 obtain ⟨n,a,b,c,r,s,rfl,_,_,_,_,_,_,hs⟩:=bZ (gd.all e m)
 have h2:(!rW s) = true:=me.2
 cases s with
 | int i=>exact ⟨i,rfl⟩
 | non=>cases h2
 | _=>cases hs
theorem vD (T:Txt K mg C):Fc P w K mg base 4 "stands" ["land","opened"] (uL C):=by
 have G_p_check_sluices:Fc P w K mg base 3 "check_sluices" ["land","thing"] (uQ C):=kW T
 have G_land_p_dykes:Mc P w K mg base 1 C "dykes" ["self"] (oE C fun _ ds=>ds):=gD T
 refine T.d_p_stands.fc uV jM (fun f cdv A outer s H vs Q E hr h=>?_)
 obtain ⟨x,y,rfl,p,l,fs,ds,op,rfl,L,rfl,hl,lo,sub,q⟩:=h
 have big:=cR
 have gd:=(fY L).2
 have d2:=gd.l2
 refine ⟨_,(@aG _ _ _ _ _ (@jZ _ _ _ _ (@cF _ _ _ _ _ _ _ _ _ _ G_p_check_sluices (hr.mono (by decide)) (@aA _ _ _ _ _ (pv 0) (@aA _ _ _ _ _ (pv 1) aF (by rfl)) (by rfl)) (by rfl) (by decide) (by rfl) (by rfl)) (by rfl)) (@aH _ _ _ (@aY _ _ _ _ (@cG _ _ _ _ _ _ _ _ _ (@eO _ rfl) rfl T.n_dict hU (@aA _ _ _ _ _ (@dI _ _ _ _ _ _ _ _ _ _ _ ["dyke","opened"] 1 [1] rfl (@bU _ _ _ _ (@rK _ _ _ _ _ _ _ _ _ _ _ T.cl_Land G_land_p_dykes (hr.mono (by decide)) (pv 0) (by rfl))) (fun R=>@aL _ _ (0) _ (show List.Nodup (["dyke","opened"]:List Str) by decide +kernel) rfl (Or.inl rfl) (by trivial)) (@bN _ _ (by decide)) (fun R=>cY) (fun R=>(@dU _ _ _ _ _ (@aA _ _ _ _ _ (@bH _ _ _ _ _ _ _ (@bE _ (K) rfl) (pv 0) aE (fun _ _=>rfl)) (@aA _ _ _ _ _ (@aBP _ _ _ _ _ _ _ _ (@bT _ _ _ _ _ _ _ _ (@kS _ (K) rfl) (@bH _ _ _ _ _ _ _ (@bE _ (K) rfl) (pv 0) aE (fun _ _=>rfl)) (pv 1) (by with_unfolding_all rfl)) (@bH _ _ _ _ _ _ _ (@bE _ (K) rfl) (pv 0) aE (fun _ _=>rfl)) (@bH _ _ _ _ _ _ _ (@bE _ (K) rfl) (pv 0) aE (fun _ _=>rfl))) aF (by rfl)) (by rfl)))) (by rfl) (by rfl) (by rfl) (by rfl) (by rfl) (by rfl) (by rfl) (by intro _;rfl)) aF (by rfl)) (by decide) (by decide) (by rfl) (by rfl))))),?_⟩
 refine ⟨_,rfl,_,rfl,_,_,rfl,p,l,fs,ds,op,rfl,L,rfl,hl,lo,sub,fun H1 S1=>?_⟩
 have L1:=L.same S1
 obtain ⟨dx,d1,d2',hx,_⟩:=L1.ex
 refine ⟨_,rfl,p,dx,_,rfl,hx,gZ _ _ (by decide +kernel) (by decide +kernel),_,rfl,p,fs,ds,rfl,L1,fun lb vb H2 S2 flb hlb hib=>?_⟩
 have lvb:vb.length = ds.length:=hib.length
 have T2:=S1.trans S2
 have hl2:=T2 _ _ hl
 refine ⟨lb,rfl,⟨_,SqL.of hlb⟩,?_⟩
 refine cO (F:=K) (xs:=vb) (by omega) (fun i ys H'=>aM H2 H' ∧ bW H' ys (fS op (ds.take i))) ⟨aM.refl _,bW.nil _⟩ ?_ ?_ ?_
 ·rintro i ys H' hi' ⟨S',pa⟩
  have:=pa.len
  unfold fS at this
  rw [List.length_map,List.length_take] at this
  exact ⟨SqL.of (S' _ _ hlb),by omega⟩
 ·rintro i xv ys H' K1 K2 hx' ⟨S',pa⟩ k1 k2
  have hil:i < vb.length:=(List.getElem?_eq_some_iff.mp hx').1
  obtain ⟨d,ed⟩:∃ d,ds[i]? = some d:=⟨_,List.getElem?_eq_getElem (by omega)⟩
  obtain ⟨v,ev,iv⟩:=hib.get ed
  rw [hx'] at ev
  cases ev
  have md:=List.mem_of_getElem? ed
  have si:=fun h=>uR gd sub md h
  obtain ⟨n,a',b',c,r,sl,rfl,_⟩:=bZ (gd.all d md)
  obtain ⟨t,sv,rfl,o,isv⟩:=hJ iv
  have ot:=S' _ _ o
  have ek:fS op (ds.take (i + 1)) = fS op (ds.take i) ++ [(Sum.inr n,V.int (bF op (.tup [.str n,.str a',.str b',.int c,.int r,sl])))]:=by
   unfold fS
   rw [List.take_add_one,ed,List.map_append]
   rfl
  have fin:∀ v,v = V.int (bF op (.tup [.str n,.str a',.str b',.int c,.int r,sl])) → ∀ p3,H' p3 = none → K1 (.ref p3) (upd H' p3 (.tup [.str n,v])):=fun v e p3 hp3=>by
   subst e
   refine k1 _ _ ⟨S'.trans (aM.upd hp3),?_⟩
   rw [ek]
   exact bW.snoc (k:=Sum.inr n) pa hp3
  refine ⟨_,rfl,t,_,0,.str n,rfl,rfl,SqT.of ot,aU (j:=0) rfl,_,rfl,t,_,0,.str n,rfl,rfl,SqT.of ot,aU (j:=0) rfl,_,rfl,l,_,rfl,.inl (SqL.of (S' _ _ hl2)),rfl,mL op,_,rfl,?_⟩
  rw [if_neg Bool.false_ne_true,tO]
  refine fZ (fun h1=>?_) (fun h1=>?_)
  ·have mo:n ∈ op:=of_decide_eq_true h1
   obtain ⟨i2,e2⟩:=si mo
   have e2':sl = .int i2:=e2
   subst e2'
   cases (show sv = .int i2 from isv)
   refine ⟨_,rfl,t,_,5,.int i2,rfl,rfl,SqT.of ot,aU (j:=5) rfl,aT rfl,fun p3 hp3=>fin _ ?_ p3 hp3⟩
   show V.int i2 = V.int (if n ∈ op then i2 else c)
   rw [if_pos mo]
  ·have mo:¬ n ∈ op:=fun c=>h1 (decide_eq_true c)
   refine ⟨_,rfl,t,_,3,.int c,rfl,rfl,SqT.of ot,aU (j:=3) rfl,aT rfl,fun p3 hp3=>fin _ ?_ p3 hp3⟩
   show V.int c = V.int (if n ∈ op then aCC sl else c)
   rw [if_neg mo]
 rintro ys H3 ⟨S3,pa⟩
 rw [List.take_of_length_le (by omega)] at pa
 intro p4 hp4
 have S4:=aM.upd (o:=.lst ys) hp4
 refine ⟨p4,ys,fS op ds,rfl,SqL.of aD,pa.same S4,by unfold fS;rw [List.length_map];omega,by rw [rA];exact kD gd.nd,fun cd hcd=>?_⟩
 have T4:=T2.trans (S3.trans S4)
 exact q cd _ (T4.trans (aM.upd hcd)) (T4.free hcd) aD
open Mt22 MtF
theorem yO (a b:Str):(!decide (V.str a = V.str b)) = !decide (a = b):=by
 by_cases h:a = b
 ·subst h;simp
 ·rw [decide_eq_false h,decide_eq_false (fun c=>h (by cases c;rfl))]
theorem aAB {fs:List Dv} (gf:GoodF fs) {z:Str} (m:z ∈ fs.map aJ):∃ g e,Dv.tup [.str z,.int g,.int e] ∈ fs ∧ bY fs z = g ∧ hgt g = true:=by
 obtain ⟨d,md,rfl⟩:=List.mem_map.mp m
 obtain ⟨z,g,e,rfl,_,hg,_⟩:=bK (gf.all d md)
 exact ⟨g,e,md,kF gf.nd md,hg⟩
theorem xL {zs:List Str} {d:Dv} (h:cJ zs d = true):tQ d = true:=by
 obtain ⟨n,a,b,c,r,s,rfl,_,_,_,_,_,_,hs⟩:=bZ h
 cases s with
 | non=>rfl
 | int i=>rfl
 | _=>cases hs
theorem yY (s:Mt22.St):tQ (jD s) = true:=rfl
def uK (C:Addr):Sp:=sp2 fun x y H Q=>∃ (p sd:Addr) (fs ds:List Dv) (op:List Str),x = .ref p ∧ LandAt C H p fs ds ∧ y = .ref sd ∧ H sd = some (.dK (fS op ds)) ∧
 ∀ (l:Addr) (us:List V) (H':Hp),aM H H' → H l = none → H' l = some (.lst us) → IsL H' ((aW fs ds op).map jD) us → Q (.ref l) H'
theorem lN (T:Txt K mg C):Fc P w K mg base 2 "steps_inland" ["land","stand_of"] (uK C):=by
 have G_land_p_dykes:Mc P w K mg base 1 C "dykes" ["self"] (oE C fun _ ds=>ds):=gD T
 have G_land_p_ground:Mc P w K mg base 1 C "ground" ["self","field"] (uM C):=mB T
 refine T.d_p_steps_inland.fc cU jM (fun f cdv A outer s H vs Q E hr h=>?_)
 obtain ⟨x,y,rfl,p,sd,fs,ds,op,rfl,L,rfl,hsd,q⟩:=h
 have big:=cR
 have hu:=pP hr
 have gf:=(fY L).1
 have gd:=(fY L).2
 have d2:=gd.l2
 refine ⟨_,(@aG _ _ _ _ _ (@aX _ _ (2) _ _ _ _ cU.nd rfl (Or.inl rfl) (@fA _ _ _ _ aF) (by rfl) (by trivial)) (@aG _ _ _ _ _ (@dZ _ _ _ _ _ _ _ _ PassesOwn.never rfl (@bU _ _ _ _ (@rK _ _ _ _ _ _ _ _ _ _ _ T.cl_Land G_land_p_dykes (hr.mono (by decide)) (pv 0) (by rfl))) (@aL _ _ (3) _ cU.nd rfl (Or.inl rfl) (by trivial)) (@aH _ _ _ (@dZ _ _ _ _ _ _ _ _ PassesOwn.never rfl (@bU _ _ _ _ (@fA _ _ _ _ (@aA _ _ _ _ _ (@dU _ _ _ _ _ (@aA _ _ _ _ _ (@bH _ _ _ _ _ _ _ (@bE _ (K) rfl) (pv 3) aE (fun _ _=>rfl)) (@aA _ _ _ _ _ (@bH _ _ _ _ _ _ _ (@bE _ (K) rfl) (pv 3) aE (fun _ _=>rfl)) aF (by rfl)) (by rfl))) (@aA _ _ _ _ _ (@dU _ _ _ _ _ (@aA _ _ _ _ _ (@bH _ _ _ _ _ _ _ (@bE _ (K) rfl) (pv 3) aE (fun _ _=>rfl)) (@aA _ _ _ _ _ (@bH _ _ _ _ _ _ _ (@bE _ (K) rfl) (pv 3) aE (fun _ _=>rfl)) aF (by rfl)) (by rfl))) aF (by rfl)) (by rfl)))) (@fH _ _ _ _ _ _ rfl (@aQ _ _ _ _ _ (@aL _ _ (4) _ cU.nd rfl (Or.inl rfl) (by trivial)) (@aQ _ _ _ _ _ (@aL _ _ (5) _ cU.nd rfl (Or.inl rfl) (by trivial)) dX (by rfl)) (by rfl)) (by rfl) (by rfl)) (@aH _ _ _ (@dY _ _ _ _ _ _ _ _ (@bT _ _ _ _ _ _ _ _ vC (pv 5) (@nM _ _ _ _ T.g_SEA (by rfl) (by decide)) (@bV _ _ (by decide) (by decide))) (@aH _ _ _ (@jZ _ _ _ _ (@vA _ _ _ _ _ _ _ _ _ _ _ _ PySem.F.plainAttrs_list PySem.F.slot_list_append PySem.F.type_list_append kC (pv 2) (@aA _ _ _ _ _ (@dU _ _ _ _ _ (@aA _ _ _ _ _ (@bH _ _ _ _ _ _ _ (@bE _ (K) rfl) (pv 3) aE (fun _ _=>rfl)) (@aA _ _ _ _ _ (pv 4) (@aA _ _ _ _ _ (pv 5) (@aA _ _ _ _ _ (@aV _ _ _ _ _ _ _ _ _ (@kH _ rfl) rfl T.n_max kI (@aA _ _ _ _ _ (@eN _ _ _ _ _ _ hu (pv 1) (@bH _ _ _ _ _ _ _ (@bE _ (K) rfl) (pv 3) aE (fun _ _=>rfl)) (fun _ _=>rfl)) (@aA _ _ _ _ _ (@aIJ _ _ _ _ _ _ _ _ _ _ _ _ _ _ T.cl_Land G_land_p_ground (hr.mono (by decide)) (pv 0) (@aA _ _ _ _ _ (pv 5) aF (by rfl)) (by rfl) (by rfl) (by rfl)) aF (by rfl)) (by rfl)) (by decide) (by decide) (by rfl) (by rfl)) aF (by rfl)) (by rfl)) (by rfl)) (by rfl))) aF (by rfl)) (by rfl) (by rfl) (by rfl) (by rfl) (by rfl)) (by rfl))) cA)) (by intro _;rfl))) (by intro _;rfl)) (@aH _ _ _ (@aY _ _ _ _ (pv 2))))),?_⟩
 refine ⟨aT rfl,fun l hl=>?_⟩
 have S1:=aM.upd (o:=.lst []) hl
 have L1:=L.same S1
 obtain ⟨dx,d1,d2',hx,_⟩:=L1.ex
 have hl1:upd H l (.lst []) l = some (.lst []):=aD
 generalize upd H l (.lst []) = H1 at S1 L1 hx hl1
 refine ⟨_,rfl,p,dx,_,rfl,hx,gZ _ _ (by decide +kernel) (by decide +kernel),_,rfl,p,fs,ds,rfl,L1,fun lb vb H2 S2 flb hlb hib=>?_⟩
 have lvb:vb.length = ds.length:=hib.length
 have T2:=S1.trans S2
 have nlb:l ≠ lb:=aS hl1 flb
 have hds:rX ds = true:=jN fun d m=>xL (gd.all d m)
 refine ⟨lb,rfl,⟨_,SqL.of hlb⟩,eI (K:=K) (a:=lb) (xs:=vb)
  (fun i σ H'=>∃ (v3 v4 v5:Option V) (us:List V),σ = [some (.ref p),some (.ref sd),some (.ref l),v3,v4,v5] ∧ aM H H' ∧ H' lb = some (.lst vb) ∧ IsL H' ds vb ∧ H' l = some (.lst us) ∧ IsL H' ((aW fs (ds.take i) op).map jD) us)
  ⟨_,_,_,[],rfl,T2,hlb,hib,S2 _ _ hl1,rfl⟩ (fun i σ H' _ ⟨_,_,_,_,_,_,e,_⟩=>SqL.of e) ?_ ?_⟩
 ·rintro i xv σ H3 hi ⟨v3,v4,v5,us,rfl,S3,hlb3,hib3,hl3,ius⟩
  have hil:i < vb.length:=(List.getElem?_eq_some_iff.mp hi).1
  obtain ⟨d,ed⟩:∃ d,ds[i]? = some d:=⟨_,List.getElem?_eq_getElem (by omega)⟩
  obtain ⟨v,ev,iv⟩:=hib3.get ed
  rw [hi] at ev
  cases ev
  have md:=List.mem_of_getElem? ed
  have val:=gL (f:=fun d=>V.int (bF op d)) gd.nd md
  have elen:=kP fs op (ds.take i)
  rw [List.length_take] at elen
  have eapp:aW fs (ds.take (i + 1)) op = aW fs (ds.take i) op ++ hV fs op d:=by
   unfold aW
   rw [List.take_add_one,ed,List.flatMap_append]
   simp
  obtain ⟨n,a',b',c,r,sl,rfl,_,ha,hb,_⟩:=bZ (gd.all d md)
  obtain ⟨t,sv,rfl,o,isv⟩:=hJ iv
  refine ⟨_,rfl,t,_,1,.str a',rfl,rfl,SqT.of o,aU (j:=1) rfl,_,rfl,t,_,2,.str b',rfl,rfl,SqT.of o,aU (j:=2) rfl,aT rfl,fun q1 hq1=>?_⟩
  have R1:=aM.upd (o:=.tup [.str a',.str b']) hq1
  have o1:=R1 _ _ o
  refine ⟨_,rfl,t,_,2,.str b',rfl,rfl,SqT.of o1,aU (j:=2) rfl,_,rfl,t,_,1,.str a',rfl,rfl,SqT.of o1,aU (j:=1) rfl,aT rfl,fun q2 hq2=>?_⟩
  have R2:=aM.upd (o:=.tup [.str b',.str a']) hq2
  refine ⟨aT rfl,fun q3 hq3=>?_⟩
  have R3:=aM.upd (o:=.lst [.ref q1,.ref q2]) hq3
  have R:=R1.trans (R2.trans R3)
  have g1:upd (upd (upd H3 q1 (.tup [.str a',.str b'])) q2 (.tup [.str b',.str a'])) q3 (.lst [.ref q1,.ref q2]) q1 = some (.tup [.str a',.str b']):=(R2.trans R3) _ _ aD
  have g2:upd (upd (upd H3 q1 (.tup [.str a',.str b'])) q2 (.tup [.str b',.str a'])) q3 (.lst [.ref q1,.ref q2]) q2 = some (.tup [.str b',.str a']):=R3 _ _ aD
  have g3:upd (upd (upd H3 q1 (.tup [.str a',.str b'])) q2 (.tup [.str b',.str a'])) q3 (.lst [.ref q1,.ref q2]) q3 = some (.lst [.ref q1,.ref q2]):=aD
  have nq3:l ≠ q3:=aS ((R1.trans R2) _ _ hl3) hq3
  have S4:=S3.trans R
  have hlb4:=R _ _ hlb3
  have hib4:=IsL.same R _ _ hib3
  have hl4:=R _ _ hl3
  have ius4:=IsL.same R _ _ ius
  have o4:=R _ _ o
  generalize upd (upd (upd H3 q1 (.tup [.str a',.str b'])) q2 (.tup [.str b',.str a'])) q3 (.lst [.ref q1,.ref q2]) = H4 at g1 g2 g3 S4 hlb4 hib4 hl4 ius4 o4
  let sides:List (Str × Str):=[(a',b'),(b',a')]
  refine ⟨q3,rfl,⟨_,SqL.of g3⟩,eI (K:=K) (a:=q3) (xs:=[.ref q1,.ref q2])
   (fun j σ H'=>∃ (v4 v5:Option V) (us:List V),σ = [some (.ref p),some (.ref sd),some (.ref l),some (.ref t),v4,v5] ∧ aM H H' ∧ H' lb = some (.lst vb) ∧ IsL H' ds vb ∧ H' t = some (.tup [.str n,.str a',.str b',.int c,.int r,sv]) ∧ H' q1 = some (.tup [.str a',.str b']) ∧ H' q2 = some (.tup [.str b',.str a']) ∧ H' q3 = some (.lst [.ref q1,.ref q2]) ∧ H' l = some (.lst us) ∧
    IsL H' ((aW fs (ds.take i) op ++ (sides.take j).flatMap fun s=>cC fs op (.tup [.str n,.str a',.str b',.int c,.int r,sl]) s.1 s.2).map jD) us)
   ⟨_,_,us,rfl,S4,hlb4,hib4,o4,g1,g2,g3,hl4,by simpa using ius4⟩ (fun j σ H' _ ⟨_,_,_,_,_,_,_,_,_,_,e,_⟩=>SqL.of e) ?_ ?_⟩
  ·rintro j yv σ H5 hj ⟨w4,w5,us5,rfl,S5,hlb5,hib5,o5,g15,g25,g35,hl5,ius5⟩
   have hj2:j < 2:=(List.getElem?_eq_some_iff.mp hj).1
   obtain ⟨q,near,far,rfl,es,hq,hf⟩:∃ (q:Addr) (near far:Str),yv = .ref q ∧ sides[j]? = some (near,far) ∧ H5 q = some (.tup [.str near,.str far]) ∧ far ∈ (("sea":Str) :: fs.map aJ):=by
    match j,hj2 with
    | 0,_=>cases hj;exact ⟨q1,a',b',rfl,rfl,g15,hb⟩
    | 1,_=>cases hj;exact ⟨q2,b',a',rfl,rfl,g25,ha⟩
   have eflat:(sides.take (j + 1)).flatMap (fun s=>cC fs op (.tup [.str n,.str a',.str b',.int c,.int r,sl]) s.1 s.2) = (sides.take j).flatMap (fun s=>cC fs op (.tup [.str n,.str a',.str b',.int c,.int r,sl]) s.1 s.2) ++ cC fs op (.tup [.str n,.str a',.str b',.int c,.int r,sl]) near far:=by
    rw [List.take_add_one,es,List.flatMap_append]
    simp
   have elen5:us5.length ≤ 2 * ds.length + 2:=by
    have h1:=ius5.length
    rw [List.length_map,List.length_append] at h1
    have h2:((sides.take j).flatMap fun s=>cC fs op (.tup [.str n,.str a',.str b',.int c,.int r,sl]) s.1 s.2).length ≤ 2:=by
     match j,hj2 with
     | 0,_=>simp
     | 1,_ =>
      show ([(a',b')].flatMap _).length ≤ 2
      simp only [List.flatMap_cons,List.flatMap_nil,List.append_nil]
      unfold cC
      split <;> simp
    omega
   refine ⟨q,_,rfl,SqT.of hq,rfl,_,_,rfl,_,_,rfl,rfl,?_⟩
   refine ⟨_,rfl,rfl,_,rfl,?_⟩
   rw [yO]
   refine fZ (fun h1=>?_) (fun h1=>?_)
   ·have hne:¬ far = "sea":=fun e=>by rw [decide_eq_true e] at h1;cases h1
    have mf:far ∈ fs.map aJ:=(List.mem_cons.mp hf).resolve_left hne
    obtain ⟨g,e',mfs,eg,_⟩:=aAB gf mf
    have L5:=L.same S5
    obtain ⟨dx5,x1,x2,hx5,_⟩:=L5.ex
    refine ⟨_,rfl,.inl ⟨rfl,_,SqL.of hl5⟩,_,rfl,t,_,0,.str n,rfl,rfl,SqT.of o5,aU (j:=0) rfl,_,rfl,_,rfl,_,rfl,_,rfl,t,_,0,.str n,rfl,rfl,SqT.of o5,aU (j:=0) rfl,sd,_,rfl,.inl ⟨_,Sum.inr n,.inl (S5 _ _ hsd),rfl,val.symm⟩,_,rfl,p,dx5,_,rfl,hx5,gZ _ _ (by decide +kernel) (by decide +kernel),_,rfl,_,_,rfl,p,fs,ds,far,g,e',rfl,rfl,L5,mfs,_,_,rfl,aT rfl,fun pt hpt=>?_⟩
    have emax:(if g > bF op (.tup [.str n,.str a',.str b',.int c,.int r,sl]) then g else bF op (.tup [.str n,.str a',.str b',.int c,.int r,sl])) = max (bF op (.tup [.str n,.str a',.str b',.int c,.int r,sl])) (bY fs far):=by
     rw [eg]
     split <;> omega
    dsimp only at hpt ⊢
    rw [emax] at *
    have R6:=aM.upd (o:=.tup [.str n,.str near,.str far,.int (max (bF op (.tup [.str n,.str a',.str b',.int c,.int r,sl])) (bY fs far))]) hpt
    have hl6:=R6 _ _ hl5
    have KT:=qJ.lst (o:=.lst (us5 ++ [.ref pt])) hl6
    refine ⟨l,us5,.ref pt,rfl,rfl,hl6,by omega,?_⟩
    have ks:=jN (ds:=(aW fs (ds.take i) op ++ (sides.take (j + 1)).flatMap fun s=>cC fs op (.tup [.str n,.str a',.str b',.int c,.int r,sl]) s.1 s.2).map jD) fun d m=>by
     obtain ⟨s,_,rfl⟩:=List.mem_map.mp m
     exact yY s
    refine ⟨_,_,us5 ++ [.ref pt],rfl,(S5.trans R6).over hl,?_,IsL.keep KT _ _ hds (IsL.same R6 _ _ hib5),?_,?_,?_,?_,aD,IsL.keep KT _ _ ks ?_⟩
    ·rw [aO (Ne.symm nlb)];exact R6 _ _ hlb5
    ·rw [aO (fun e=>by rw [e,hl5] at o5;cases o5)];exact R6 _ _ o5
    ·rw [aO (fun e=>by rw [e,hl5] at g15;cases g15)];exact R6 _ _ g15
    ·rw [aO (fun e=>by rw [e,hl5] at g25;cases g25)];exact R6 _ _ g25
    ·rw [aO (Ne.symm nq3)];exact R6 _ _ g35
    ·rw [eflat,← List.append_assoc,List.map_append]
     have e1:cC fs op (.tup [.str n,.str a',.str b',.int c,.int r,sl]) near far = [⟨n,near,far,max (bF op (.tup [.str n,.str a',.str b',.int c,.int r,sl])) (bY fs far)⟩]:=by
      unfold cC
      rw [if_neg hne]
      rfl
     rw [e1]
     exact IsL.snoc (d:=jD ⟨n,near,far,max (bF op (.tup [.str n,.str a',.str b',.int c,.int r,sl])) (bY fs far)⟩) (v:=.ref pt) ⟨pt,_,rfl,aD,_,_,rfl,rfl,_,_,rfl,rfl,_,_,rfl,rfl,_,_,rfl,rfl,rfl⟩ (IsL.same R6 _ _ ius5)
   ·have he:far = "sea":=by
     by_cases h:far = "sea"
     ·exact h
     ·rw [decide_eq_false h] at h1
      exact absurd rfl h1
    refine ⟨_,_,us5,rfl,S5,hlb5,hib5,o5,g15,g25,g35,hl5,?_⟩
    rw [eflat]
    unfold cC at ius5 ⊢
    rw [if_pos he,List.append_nil]
    exact ius5
  ·rintro σ H5 ⟨w4,w5,us5,rfl,S5,hlb5,hib5,o5,g15,g25,g35,hl5,ius5⟩
   refine ⟨_,_,_,us5,rfl,S5,hlb5,hib5,hl5,?_⟩
   rw [eapp]
   have e:((sides.take [V.ref q1,V.ref q2].length).flatMap fun s=>cC fs op (.tup [.str n,.str a',.str b',.int c,.int r,sl]) s.1 s.2) = hV fs op (.tup [.str n,.str a',.str b',.int c,.int r,sl]):=by
    show [(a',b'),(b',a')].flatMap _ = _
    simp [hV,wV,kR]
   rw [e] at ius5
   exact ius5
 ·rintro σ H3 ⟨v3,v4,v5,us,rfl,S3,hlb3,hib3,hl3,ius⟩
  rw [List.take_of_length_le (by omega)] at ius
  exact ⟨_,rfl,q l us H3 S3 hl hl3 ius⟩
open Mt22 MtF
def aEM (H:Hp) (d:Addr) (lo:Mt22.Lo) (n:Nat):Prop:=∃ kvs:List (Key × V),H d = some (.dK kvs) ∧ kvs.length ≤ n ∧ ∀ z:Str,dC kvs (Sum.inr z) = (lo z).map V.int
def cP (fs:List Dv) (lo:Mt22.Lo):List (Key × V):=fs.map fun d=>(Sum.inr (aJ d),lL (lo (aJ d)))
def xY (C:Addr):Sp:=sp2 fun x y H Q=>∃ (p l:Addr) (fs ds:List Dv) (op:List Str),x = .ref p ∧ LandAt C H p fs ds ∧ y = .ref l ∧ H l = some (.lst (op.map V.str)) ∧ op.length ≤ 1000 ∧ (∀ z ∈ op,z ∈ (ds.filter cQ).map aJ) ∧
 ∀ (d:Addr) (H':Hp),aM H H' → H d = none → H' d = some (.dK (cP fs (flo fs ds op))) → Q (.ref d) H'
theorem wL {lo:Mt22.Lo} {s:Mt22.St} (h:lo s.near = none):eS lo s = lo:=by unfold eS;rw [h]
theorem zX {o:Option Int} {c:Int}:(o.map V.int).getD (.int c) = .int (o.getD c):=by cases o <;> rfl
theorem zW (o:Option Int):(o.map V.int).getD .non = lL o:=by cases o <;> rfl
theorem kU (T:Txt K mg C):Fc P w K mg base 5 "flood_heights" ["land","opened"] (xY C):=by
 have G_p_stands:Fc P w K mg base 4 "stands" ["land","opened"] (uL C):=vD T
 have G_p_steps_inland:Fc P w K mg base 2 "steps_inland" ["land","stand_of"] (uK C):=lN T
 have G_land_p_field_names:Mc P w K mg base 1 C "field_names" ["self"] (oB C fun fs _=>fs.map aJ):=jA T
 refine T.d_p_flood_heights.fc bD jM (fun f cdv A outer s H vs Q E hr h=>?_)
 obtain ⟨x,y,rfl,p,l,fs,ds,op,rfl,L,rfl,hl,lo,sub,q⟩:=h
 have big:=cR
 have hu:=pP hr
 have gf:=(fY L).1
 have gd:=(fY L).2
 have d2:=gd.l2
 have f2:=gf.l2
 have slen:=kP fs op ds
 refine ⟨_,(@aG _ _ _ _ _ (@aX _ _ (2) _ _ _ _ bD.nd rfl (Or.inl rfl) (@cF _ _ _ _ _ _ _ _ _ _ G_p_steps_inland (hr.mono (by decide)) (@aA _ _ _ _ _ (pv 0) (@aA _ _ _ _ _ (@cF _ _ _ _ _ _ _ _ _ _ G_p_stands (hr.mono (by decide)) (@aA _ _ _ _ _ (pv 0) (@aA _ _ _ _ _ (pv 1) aF (by rfl)) (by rfl)) (by rfl) (by decide) (by rfl) (by rfl)) aF (by rfl)) (by rfl)) (by rfl) (by decide) (by rfl) (by rfl)) (by rfl) (by trivial)) (@aG _ _ _ _ _ (@aX _ _ (3) _ _ _ _ bD.nd rfl (Or.inr rfl) (@yF _ _ _ _ _ (@uX _ _ _ _ _ _ _ _ _ (@nM _ _ _ _ T.g_SEA (by rfl) (by decide)) (@aEU _ _ _ _ _ _ aAO (@nM _ _ _ _ T.g_MOST_HEIGHT (by rfl) (by decide))) yC) rfl rfl (by simp) (Nat.le_of_ble_eq_true rfl)) (by rfl) (by trivial)) (@aG _ _ _ _ _ (@dZ _ _ _ _ _ _ _ _ PassesOwn.never rfl (@fG _ _ _ _ _ _ rfl T.n_range (@aA _ _ _ _ _ (@aV _ _ _ _ _ _ _ _ _ (@bQ _ (K) rfl) rfl T.n_len cI (@aA _ _ _ _ _ (@rK _ _ _ _ _ _ _ _ _ _ _ T.cl_Land G_land_p_field_names (hr.mono (by decide)) (pv 0) (by rfl)) aF (by rfl)) (by decide) (by decide) (by rfl) (by rfl)) aF (by rfl)) (by rfl)) (@aL _ _ (4) _ bD.nd rfl (Or.inl rfl) (by trivial)) (@aH _ _ _ (@dZ _ _ _ _ _ _ _ _ PassesOwn.never rfl (@bU _ _ _ _ (pv 2)) (@fH _ _ _ _ _ _ rfl (@aQ _ _ _ _ _ (@aL _ _ (5) _ bD.nd rfl (Or.inl rfl) (by trivial)) (@aQ _ _ _ _ _ (@aL _ _ (6) _ bD.nd rfl (Or.inl rfl) (by trivial)) (@aQ _ _ _ _ _ (@aL _ _ (7) _ bD.nd rfl (Or.inl rfl) (by trivial)) (@aQ _ _ _ _ _ (@aL _ _ (8) _ bD.nd rfl (Or.inl rfl) (by trivial)) dX (by rfl)) (by rfl)) (by rfl)) (by rfl)) (by rfl) (by rfl)) (@aH _ _ _ (@dY _ _ _ _ _ _ _ _ (@wM _ _ _ _ _ _ (@wR _ _ _ _ _ hu (pv 6) (pv 3)) (by first | exact nobehind _ (by decide) (by decide) | rfl)) (@aG _ _ _ _ _ (@aX _ _ (9) _ _ _ _ bD.nd rfl (Or.inl rfl) (@aV _ _ _ _ _ _ _ _ _ (@kH _ rfl) rfl T.n_max kI (@aA _ _ _ _ _ (@eN _ _ _ _ _ _ hu (pv 3) (pv 6) (fun _ _=>rfl)) (@aA _ _ _ _ _ (pv 8) aF (by rfl)) (by rfl)) (by decide) (by decide) (by rfl) (by rfl)) (by rfl) (by trivial)) (@aH _ _ _ (@kA _ _ _ _ _ _ _ _ _ hu (pv 3) (pv 7) (@aV _ _ _ _ _ _ _ _ _ (@aAH _ rfl) rfl T.n_min aAJ (@aA _ _ _ _ _ (pv 9) (@aA _ _ _ _ _ (@aBQ _ _ _ _ _ _ _ _ _ hu (pv 3) (pv 7) (pv 9) ⟨rfl,rfl,rfl,rfl⟩) aF (by rfl)) (by rfl)) (by decide) (by decide) (by rfl) (by rfl)) rfl))) cA)) (by intro _;rfl))) (by intro _;rfl)) (@aH _ _ _ (@aY _ _ _ _ (@cG _ _ _ _ _ _ _ _ _ (@eO _ rfl) rfl T.n_dict hU (@aA _ _ _ _ _ (@dI _ _ _ _ _ _ _ _ _ _ _ ["name","lowest"] 1 [3] rfl (@bU _ _ _ _ (@rK _ _ _ _ _ _ _ _ _ _ _ T.cl_Land G_land_p_field_names (hr.mono (by decide)) (pv 0) (by rfl))) (fun R=>@aL _ _ (0) _ (show List.Nodup (["name","lowest"]:List Str) by decide +kernel) rfl (Or.inl rfl) (by trivial)) (@bN _ _ (by decide)) (fun R=>cY) (fun R=>(@dU _ _ _ _ _ (@aA _ _ _ _ _ (pv 0) (@aA _ _ _ _ _ (@aBR _ _ _ _ _ _ _ hu (pv 1) (pv 0) ⟨rfl,rfl,rfl,rfl⟩) aF (by rfl)) (by rfl)))) (by rfl) (by rfl) (by rfl) (by rfl) (by rfl) (by rfl) (by rfl) (by intro _;rfl)) aF (by rfl)) (by decide) (by decide) (by rfl) (by rfl))))))),?_⟩
 refine ⟨_,rfl,_,rfl,_,rfl,_,_,rfl,p,l,fs,ds,op,rfl,L,rfl,hl,lo,sub,fun sd H1 S1 fsd hsd=>?_⟩
 refine ⟨_,_,rfl,p,sd,fs,ds,op,rfl,L.same S1,rfl,hsd,fun ls us H2 S2 fls hls ius=>?_⟩
 have lus:=ius.length
 rw [List.length_map] at lus
 have T2:=S1.trans S2
 refine fun dl hdl=>?_
 refine ⟨_,rfl,aD,[(Sum.inr "sea",.int (-1000000))],rfl,by show 1 ≤ 15;decide,?_⟩
 have S3:aM H2 (upd (upd H2 dl (.dK [])) dl (.dK (gY [] [(Sum.inr "sea",.int (-1000000))]))):=(aM.upd hdl).over hdl
 have lo3:aEM (upd (upd H2 dl (.dK [])) dl (.dK (gY [] [(Sum.inr "sea",.int (-1000000))]))) dl lo0 1:=by
  refine ⟨[(Sum.inr "sea",.int (-1000000))],aD,Nat.le_refl _,fun z=>?_⟩
  unfold lo0
  by_cases hz:z = Mt22.sea
  ·subst hz
   rw [if_pos rfl]
   exact cS rfl
  ·rw [if_neg hz,cT (fun e=>hz (Sum.inr.inj e).symm)]
   rfl
 generalize upd (upd H2 dl (.dK [])) dl (.dK (gY [] [(Sum.inr "sea",.int (-1000000))])) = H3 at S3 lo3
 have L2':=L.same T2
 have L3:=L2'.same S3
 obtain ⟨dx,d1,d2',hx,_⟩:=L3.ex
 refine ⟨_,rfl,p,dx,_,rfl,hx,gZ _ _ (by decide +kernel) (by decide +kernel),_,rfl,p,fs,ds,rfl,L3,fun ln H4 S4 fln hln=>?_⟩
 refine ⟨ln,_,rfl,.inl (SqL.of hln),(fs.length:Int),by rw [List.length_map,List.length_map],by omega,by omega,?_⟩
 have lo4:aEM H4 dl lo0 1:=by
  obtain ⟨kvs,e,r⟩:=lo3
  exact ⟨kvs,S4 _ _ e,r⟩
 refine iK (lo:=0) (n:=fs.length) (fun i σ H'=>∃ v4 v5 v6 v7 v8 v9:Option V,σ = [some (.ref p),some (.ref l),some (.ref ls),some (.ref dl),v4,v5,v6,v7,v8,v9] ∧ aM H2 H' ∧ aEM H' dl (eP (aW fs ds op) i) (1 + i * (aW fs ds op).length))
  ⟨_,_,_,_,_,_,rfl,S3.trans S4,by rw [Nat.zero_mul];exact lo4⟩ ?_ ?_
 ·rintro i σ H5 hi ⟨v4,v5,v6,v7,v8,v9,rfl,S5,lo5⟩
  refine ⟨_,rfl,ls,rfl,⟨_,SqL.of (S5 _ _ hls)⟩,eI (K:=K) (a:=ls) (xs:=us)
   (fun j σ H'=>∃ v5 v6 v7 v8 v9:Option V,σ = [some (.ref p),some (.ref l),some (.ref ls),some (.ref dl),some (.int (0 + (i:Int))),v5,v6,v7,v8,v9] ∧ aM H2 H' ∧ aEM H' dl (((aW fs ds op).take j).foldl eS (eP (aW fs ds op) i)) (1 + i * (aW fs ds op).length + j))
   ⟨_,_,_,_,_,rfl,S5,lo5⟩ (fun j σ H' _ ⟨_,_,_,_,_,_,S,_⟩=>SqL.of (S _ _ hls)) ?_ ?_⟩
  ·rintro j xv σ H6 hj ⟨w5,w6,w7,w8,w9,rfl,S6,kvs,hk,lk,vk⟩
   have hjl:j < us.length:=(List.getElem?_eq_some_iff.mp hj).1
   obtain ⟨st,es⟩:∃ st,(aW fs ds op)[j]? = some st:=⟨_,List.getElem?_eq_getElem (by omega)⟩
   obtain ⟨v,ev,iv⟩:=ius.get (show ((aW fs ds op).map jD)[j]? = some (jD st) by rw [List.getElem?_map,es];rfl)
   rw [hj] at ev
   cases ev
   obtain ⟨t,ts,rfl,o,x0,r0,rfl,e0,x1,r1,rfl,e1,x2,r2,rfl,e2,x3,r3,rfl,e3,h0⟩:=iv
   cases (show r3 = [] from h0)
   cases (show x0 = .str st.nm from e0)
   cases (show x1 = .str st.near from e1)
   cases (show x2 = .str st.far from e2)
   cases (show x3 = .int st.h from e3)
   have o6:=S6 _ _ o
   have efold:((aW fs ds op).take (j + 1)).foldl eS (eP (aW fs ds op) i) = eS (((aW fs ds op).take j).foldl eS (eP (aW fs ds op) i)) st:=by
    rw [List.take_add_one,es,List.foldl_append]
    rfl
   have lkb:kvs.length < sizeLine:=by
    have big2:(2000:Nat) ≤ sizeLine:=by decide
    have h1:i * (aW fs ds op).length ≤ 12 * 80:=Nat.mul_le_mul (by omega) (by omega)
    omega
   generalize ((aW fs ds op).take j).foldl eS (eP (aW fs ds op) i) = lw at vk efold
   refine ⟨t,_,rfl,SqT.of o6,rfl,_,_,rfl,_,_,rfl,_,_,rfl,_,_,rfl,rfl,?_⟩
   refine ⟨_,rfl,_,rfl,dl,_,rfl,.inl ⟨kvs,Sum.inr st.near,.inl hk,rfl,rfl⟩,_,rfl,?_⟩
   rw [vk]
   cases hn:lw st.near with
   | none =>
    refine cN ⟨_,_,_,_,_,rfl,S6,?_⟩
    rw [efold,wL hn]
    exact ⟨kvs,hk,by omega,vk⟩
   | some a =>
    refine gK ?_
    refine ⟨_,rfl,_,rfl,dl,.int a,rfl,.inl ⟨kvs,Sum.inr st.near,.inl hk,rfl,by rw [vk,hn];rfl⟩,_,rfl,_,_,rfl,?_⟩
    have emax:(if st.h > a then st.h else a) = max a st.h:=by split <;> omega
    dsimp only
    rw [emax]
    refine ⟨_,rfl,_,rfl,dl,rfl,.inl ⟨_,.inl hk⟩,_,rfl,_,rfl,_,lV.k (k:=Sum.inr st.far) hk,_,_,by rw [vk,zX],?_⟩
    refine ⟨_,rfl,_,rfl,dl,_,rfl,.inl ⟨kvs,Sum.inr st.far,hk,rfl,lkb,rfl⟩,?_⟩
    have hdl6:H2 dl = none:=hdl
    refine ⟨_,_,_,_,_,rfl,S6.over hdl6,_,aD,?_,fun z=>?_⟩
    ·have:=hW kvs (Sum.inr st.far:Key) (V.int (if (lw st.far).getD (max a st.h) < max a st.h then (lw st.far).getD (max a st.h) else max a st.h))
     omega
    ·rw [aAN,efold]
     unfold eS
     rw [hn]
     dsimp only
     by_cases hz:z = st.far
     ·subst hz
      rw [if_pos rfl,if_pos rfl]
      cases hf:lw st.far with
      | none =>
       show some (V.int (if max a st.h < max a st.h then _ else _)) = some (V.int (max a st.h))
       rw [if_neg (Int.lt_irrefl _)]
      | some b =>
       show some (V.int (if b < max a st.h then b else max a st.h)) = some (V.int (min (max a st.h) b))
       congr 2
       split <;> omega
     ·rw [if_neg (fun e=>hz (Sum.inr.inj e)),if_neg hz]
      exact vk z
  ·rintro σ H6 ⟨w5,w6,w7,w8,w9,rfl,S6,lo6⟩
   rw [List.take_of_length_le (by omega)] at lo6
   refine ⟨_,_,_,_,_,_,rfl,S6,?_⟩
   obtain ⟨kvs,hk,lk,vk⟩:=lo6
   exact ⟨kvs,hk,by rw [Nat.succ_mul];omega,vk⟩
 ·rintro σ H5 ⟨v4,v5,v6,v7,v8,v9,rfl,S5,kvs,hk,lk,vk⟩
  have L5:=L2'.same S5
  obtain ⟨dx5,x1,x2,hx5,_⟩:=L5.ex
  refine ⟨_,rfl,p,dx5,_,rfl,hx5,gZ _ _ (by decide +kernel) (by decide +kernel),_,rfl,p,fs,ds,rfl,L5,fun lm H6 S6 flm hlm=>?_⟩
  have hk6:=S6 _ _ hk
  refine ⟨lm,rfl,⟨_,SqL.of hlm⟩,?_⟩
  refine cO (F:=K) (xs:=(fs.map aJ).map V.str) (by rw [List.length_map,List.length_map];omega) (fun i ys H'=>aM H6 H' ∧ bW H' ys (cP (fs.take i) (flo fs ds op))) ⟨aM.refl _,bW.nil _⟩ ?_ ?_ ?_
  ·rintro i ys H' hi' ⟨S',pa⟩
   have:=pa.len
   unfold cP at this
   rw [List.length_map,List.length_take] at this
   exact ⟨SqL.of (S' _ _ hlm),by omega⟩
  ·rintro i xv ys H' K1 K2 hx' ⟨S',pa⟩ k1 k2
   have hil:=(List.getElem?_eq_some_iff.mp hx').1
   rw [List.length_map,List.length_map] at hil
   obtain ⟨d,ed⟩:∃ d,fs[i]? = some d:=⟨_,List.getElem?_eq_getElem hil⟩
   rw [List.getElem?_map,List.getElem?_map,ed] at hx'
   cases hx'
   have ek:cP (fs.take (i + 1)) (flo fs ds op) = cP (fs.take i) (flo fs ds op) ++ [(Sum.inr (aJ d),lL (flo fs ds op (aJ d)))]:=by
    unfold cP
    rw [List.take_add_one,ed,List.map_append]
    rfl
   refine ⟨_,rfl,_,rfl,dl,rfl,.inl ⟨_,.inl (S' _ _ hk6)⟩,_,rfl,_,lV.k (k:=Sum.inr (aJ d)) (S' _ _ hk6),?_⟩
   rw [vk,zW]
   refine ⟨aT rfl,fun p3 hp3=>k1 _ _ ⟨S'.trans (aM.upd hp3),?_⟩⟩
   rw [ek]
   exact bW.snoc (k:=Sum.inr (aJ d)) pa hp3
  rintro ys H7 ⟨S7,pa⟩
  rw [List.length_map,List.length_map,List.take_of_length_le (Nat.le_refl _)] at pa
  intro p4 hp4
  have S8:=aM.upd (o:=.lst ys) hp4
  have T8:=T2.trans (S5.trans (S6.trans (S7.trans S8)))
  refine ⟨p4,ys,cP fs (flo fs ds op),rfl,SqL.of aD,pa.same S8,by unfold cP;rw [List.length_map];omega,?_,fun cd hcd=>?_⟩
  ·have e:(cP fs (flo fs ds op)).map (·.1) = fs.map hX:=by
    unfold cP
    rw [List.map_map]
    rfl
   rw [e]
   exact kD gf.nd
  ·exact q cd _ (T8.trans (aM.upd hcd)) (T8.free hcd) aD
open Mt21 Mt22 MtF
def xT (K:PySem.W.Frag):Sp:=sp1 fun x H Q=>Scr K H x ∧ ∀ (a b:Nat) (v:V) (H':Hp),aM H H' → Tw H' v a b → 1 ≤ a → a ≤ 12 → 1 ≤ b → b ≤ 40 → Q v H'
theorem aAQ {H:Hp} {v:V} {a b:Int} (h:Tw H v a b) (ha:0 ≤ a) (hb:0 ≤ b):Tw H v ((a.toNat:Nat):Int) ((b.toNat:Nat):Int):=by
 rw [Int.toNat_of_nonneg ha,Int.toNat_of_nonneg hb]
 exact h
theorem wW (T:Txt K mg C):Fc P w K mg base 2 "_law_sizes" ["_law_script"] (xT K):=by
 have G_l_cell_at:Fc P w K mg base 1 "_law_cell_at" ["_law_script","_law_k"] (oG K):=gI T
 refine T.d_l_sizes.fc oP kZ (fun f cdv A outer s H vs Q E hr h=>?_)
 obtain ⟨x,rfl,⟨a,ns,rfl,hS,hl⟩,q⟩:=h
 refine ⟨_,(@aG _ _ _ _ _ (@aX _ _ (1) _ _ _ _ oP.nd rfl (Or.inl rfl) (@cF _ _ _ _ _ _ _ _ _ _ G_l_cell_at (hr.mono (by decide)) (@aA _ _ _ _ _ (pv 0) (@aA _ _ _ _ _ aE aF (by rfl)) (by rfl)) (by rfl) (by decide) (by rfl) (by rfl)) (by rfl) (by trivial)) (@aG _ _ _ _ _ (@dY _ _ _ _ _ _ _ _ (@bT _ _ _ _ _ _ _ _ pA (@aK _ _ _ _ _ _ _ _ bM (pv 1) aE) aE (@bV _ _ (by decide) (by decide))) (@aH _ _ _ (@aY _ _ _ _ (@dU _ _ _ _ _ (@aA _ _ _ _ _ (@aK _ _ _ _ _ _ _ _ cM aE (@aK _ _ _ _ _ _ _ _ bM (@aK _ _ _ _ _ _ _ _ bA (pv 1) aE) aE)) (@aA _ _ _ _ _ (@aK _ _ _ _ _ _ _ _ cM aE (@aK _ _ _ _ _ _ _ _ bM (@aK _ _ _ _ _ _ _ _ bA (pv 1) aE) aE)) aF (by rfl)) (by rfl))))) cA) (@aH _ _ _ (@aY _ _ _ _ (@dU _ _ _ _ _ (@aA _ _ _ _ _ (@aK _ _ _ _ _ _ _ _ cM aE (@aK _ _ _ _ _ _ _ _ bM (@aK _ _ _ _ _ _ _ _ bA (pv 1) aE) aE)) (@aA _ _ _ _ _ (@aK _ _ _ _ _ _ _ _ cM aE (@aK _ _ _ _ _ _ _ _ bM (@aK _ _ _ _ _ _ _ _ bA (pv 1) aE) aE)) aF (by rfl)) (by rfl))))))),?_⟩
 refine ⟨_,rfl,_,_,rfl,a,ns,0,rfl,rfl,hS,hl,by decide,?_⟩
 generalize ns.getD (Int.toNat 0) 0 = c
 refine ⟨_,rfl,_,_,rfl,rfl,(fC rfl),rfl,_,rfl,?_⟩
 refine fZ (fun _=>?_) (fun _=>?_)
 ·refine ⟨_,rfl,_,_,rfl,rfl,⟨by decide,by decide⟩,_,_,rfl,rfl,(fC rfl),_,_,rfl,rfl,_,rfl,_,_,rfl,rfl,⟨by decide,by decide⟩,_,_,rfl,rfl,(fC rfl),_,_,rfl,rfl,aT rfl,fun p hp=>?_⟩
  exact q (1 + c / 8 % 12).toNat (1 + c / 96 % 40).toNat _ _ (aM.upd hp) (aAQ ⟨p,rfl,aD⟩ (by omega) (by omega)) (by omega) (by omega) (by omega) (by omega)
 ·refine ⟨_,rfl,_,_,rfl,rfl,⟨by decide,by decide⟩,_,_,rfl,rfl,(fC rfl),_,_,rfl,rfl,_,rfl,_,_,rfl,rfl,⟨by decide,by decide⟩,_,_,rfl,rfl,(fC rfl),_,_,rfl,rfl,aT rfl,fun p hp=>?_⟩
  exact q (1 + c / 8 % 6).toNat (1 + c / 48 % 10).toNat _ _ (aM.upd hp) (aAQ ⟨p,rfl,aD⟩ (by omega) (by omega)) (by omega) (by omega) (by omega) (by omega)
def xX (K:PySem.W.Frag):Sp:=sp1 fun x H Q=>Scr K H x ∧ ∀ (t lf ld:Addr) (vf vd:List V) (fs ds:List Dv) (H':Hp),aM H H' → H' t = some (.tup [.ref lf,.ref ld]) → H' lf = some (.lst vf) → IsL H' fs vf → H' ld = some (.lst vd) → IsL H' ds vd → Fds fs 12 → Dks ("sea" :: fs.map aJ) ds 40 → Q (.ref t) H'
theorem zM (T:Txt K mg C):Fc P w K mg base 3 "_law_land" ["_law_script"] (xX K):=by
 have G_l_sizes:Fc P w K mg base 2 "_law_sizes" ["_law_script"] (xT K):=wW T
 have G_l_fields:Fc P w K mg base 2 "_law_fields" ["_law_script","_law_many"] (rE K):=vH T
 have G_l_dykes:Fc P w K mg base 2 "_law_dykes" ["_law_script","_law_fields_here","_law_many"] (uO K):=wX T
 refine T.d_l_land.fc jX kZ (fun f cdv A outer s H vs Q E hr h=>?_)
 obtain ⟨x,rfl,scr,q⟩:=h
 refine ⟨_,(@aG _ _ _ _ _ (@oV _ _ _ _ _ _ (@cF _ _ _ _ _ _ _ _ _ _ G_l_sizes (hr.mono (by decide)) (@aA _ _ _ _ _ (pv 0) aF (by rfl)) (by rfl) (by decide) (by rfl) (by rfl)) (@fH _ _ _ _ _ _ rfl (@aQ _ _ _ _ _ (@aL _ _ (1) _ jX.nd rfl (Or.inl rfl) (by trivial)) (@aQ _ _ _ _ _ (@aL _ _ (2) _ jX.nd rfl (Or.inl rfl) (by trivial)) dX (by rfl)) (by rfl)) (by rfl) (by rfl)) (by rfl) (by rfl) (by rfl)) (@aG _ _ _ _ _ (@aX _ _ (3) _ _ _ _ jX.nd rfl (Or.inl rfl) (@cF _ _ _ _ _ _ _ _ _ _ G_l_fields (hr.mono (by decide)) (@aA _ _ _ _ _ (pv 0) (@aA _ _ _ _ _ (pv 1) aF (by rfl)) (by rfl)) (by rfl) (by decide) (by rfl) (by rfl)) (by rfl) (by trivial)) (@aH _ _ _ (@aY _ _ _ _ (@dU _ _ _ _ _ (@aA _ _ _ _ _ (pv 3) (@aA _ _ _ _ _ (@cF _ _ _ _ _ _ _ _ _ _ G_l_dykes (hr.mono (by decide)) (@aA _ _ _ _ _ (pv 0) (@aA _ _ _ _ _ (pv 3) (@aA _ _ _ _ _ (pv 2) aF (by rfl)) (by rfl)) (by rfl)) (by rfl) (by decide) (by rfl) (by rfl)) aF (by rfl)) (by rfl))))))),?_⟩
 refine ⟨_,rfl,_,rfl,scr,fun a b v H1 S1 tw a1 a12 b1 b40=>?_⟩
 obtain ⟨t,rfl,et⟩:=tw
 refine ⟨t,_,rfl,SqT.of et,rfl,_,_,rfl,_,_,rfl,rfl,?_⟩
 refine ⟨_,rfl,_,rfl,_,_,rfl,a,scr.same S1,rfl,a1,a12,fun lf vf fs H2 S2 flf hlf hif gf=>?_⟩
 refine ⟨_,rfl,_,rfl,_,rfl,_,rfl,_,_,_,rfl,b,lf,vf,fs,a,scr.same (S1.trans S2),rfl,hlf,hif,gf,a12,rfl,b1,b40,fun ld vd ds H3 S3 fld hld hid gd=>?_⟩
 refine ⟨aT rfl,fun p hp=>?_⟩
 have S4:=aM.upd (o:=.tup [.ref lf,.ref ld]) hp
 have f2:=gf.l2
 have d2:=gd.l2
 exact q p lf ld vf vd fs ds _ (S1.trans (S2.trans (S3.trans S4))) aD ((S3.trans S4) _ _ hlf) (IsL.same (S3.trans S4) _ _ hif) (S4 _ _ hld) (IsL.same S4 _ _ hid) ⟨gf.l1,by omega,gf.all,gf.nd⟩ ⟨gd.l1,by omega,gd.all,gd.nd⟩
theorem pS {α:Type} (x:α):∀ t:Nat,(List.replicate t [x]).flatten = List.replicate t x
 | 0=>rfl
 | t + 1=>by rw [List.replicate_succ,List.flatten_cons,pS x t,List.replicate_succ];rfl
def rC (K:PySem.W.Frag):Sp:=sp2 fun x y H Q=>∃ (a:Addr) (vs:List V) (ds:List Dv) (zs:List Str),Scr K H x ∧ y = .ref a ∧ H a = some (.lst vs) ∧ IsL H ds vs ∧ GoodD zs ds ∧
 ∀ (l:Addr) (op:List Str) (H':Hp),aM H H' → H l = none → H' l = some (.lst (op.map V.str)) → op.length ≤ 80 → (∀ z ∈ op,z ∈ (ds.filter cQ).map aJ) → Q (.ref l) H'
theorem vF (T:Txt K mg C):Fc P w K mg base 2 "_law_opened" ["_law_script","_law_dykes_here"] (rC K):=by
 have G_l_cell_at:Fc P w K mg base 1 "_law_cell_at" ["_law_script","_law_k"] (oG K):=gI T
 have G_l_mixed:Fc P w K mg base 1 "_law_mixed" ["_law_cell","_law_k"] lD:=kX T
 refine T.d_l_opened.fc cD jM (fun f cdv A outer s H vs Q E hr h=>?_)
 obtain ⟨x,y,rfl,a,vs,ds,zs,⟨sa,ns,rfl,hS,hsl⟩,rfl,ha,hia,gd,q⟩:=h
 have big:=cR
 have lv:=hia.length
 have d2:=gd.l2
 refine ⟨_,(@aG _ _ _ _ _ (@aX _ _ (2) _ _ _ _ cD.nd rfl (Or.inl rfl) (@cF _ _ _ _ _ _ _ _ _ _ G_l_cell_at (hr.mono (by decide)) (@aA _ _ _ _ _ (pv 0) (@aA _ _ _ _ _ aE aF (by rfl)) (by rfl)) (by rfl) (by decide) (by rfl) (by rfl)) (by rfl) (by trivial)) (@aG _ _ _ _ _ (@wN _ (3) _ _ _ _ _ _ _ _ _ _ _ _ _ cD.nd rfl ["_law_dyke"] 1 [] rfl (@bU _ _ _ _ (pv 1)) (fun R=>@aL _ _ (0) _ (show List.Nodup (["_law_dyke"]:List Str) by decide +kernel) rfl (Or.inl rfl) (by trivial)) (@bN _ _ (by decide)) (fun R=>@uY _ _ _ (@bT _ _ _ _ _ _ _ _ tD (@bH _ _ _ _ _ _ _ (@bE _ (K) rfl) (pv 0) aE (fun _ _=>rfl)) jI (@bV _ _ (by decide) (by decide)))) (fun R=>(@bH _ _ _ _ _ _ _ (@bE _ (K) rfl) (pv 0) aE (fun _ _=>rfl))) (by exact Or.inl rfl) (by trivial) (by rfl) (by rfl) (by rfl) (by rfl) (by rfl) (by rfl) (by rfl) (by rfl) (by intro _;rfl)) (@aG _ _ _ _ _ (@aX _ _ (4) _ _ _ _ cD.nd rfl (Or.inl rfl) (@fA _ _ _ _ aF) (by rfl) (by trivial)) (@aG _ _ _ _ _ (@aX _ _ (5) _ _ _ _ cD.nd rfl (Or.inl rfl) (@aK _ _ _ _ _ _ _ _ bA (pv 2) aE) (by rfl) (by trivial)) (@aG _ _ _ _ _ (@dZ _ _ _ _ _ _ _ _ PassesOwn.never rfl (@fG _ _ _ _ _ _ rfl T.n_range (@aA _ _ _ _ _ (@aV _ _ _ _ _ _ _ _ _ (@bQ _ (K) rfl) rfl T.n_len cI (@aA _ _ _ _ _ (pv 3) aF (by rfl)) (by decide) (by decide) (by rfl) (by rfl)) aF (by rfl)) (by rfl)) (@aL _ _ (6) _ cD.nd rfl (Or.inl rfl) (by trivial)) (@aG _ _ _ _ _ (@aX _ _ (7) _ _ _ _ cD.nd rfl (Or.inl rfl) (@bH _ _ _ _ _ _ _ (@eG _ (K) rfl) (@fA _ _ _ _ (@aA _ _ _ _ _ aE (@aA _ _ _ _ _ aE (@aA _ _ _ _ _ aE (@aA _ _ _ _ _ aE (@aA _ _ _ _ _ aE aF (by rfl)) (by rfl)) (by rfl)) (by rfl)) (by rfl))) (@aK _ _ _ _ _ _ _ _ bM (@cF _ _ _ _ _ _ _ _ _ _ G_l_mixed (hr.mono (by decide)) (@aA _ _ _ _ _ (@aK _ _ _ _ _ _ _ _ gU (@aK _ _ _ _ _ _ _ _ bA (pv 5) aE) aE) (@aA _ _ _ _ _ (@aK _ _ _ _ _ _ _ _ cM (pv 6) aE) aF (by rfl)) (by rfl)) (by rfl) (by decide) (by rfl) (by rfl)) aE) (fun _ _=>rfl)) (by rfl) (by trivial)) (@aG _ _ _ _ _ (@dY _ _ _ _ _ _ _ _ (@bT _ _ _ _ _ _ _ _ pA (@aK _ _ _ _ _ _ _ _ bM (pv 2) aE) aE (@bV _ _ (by decide) (by decide))) (@aG _ _ _ _ _ (@aX _ _ (7) _ _ _ _ cD.nd rfl (Or.inl rfl) (@aK _ _ _ _ _ _ _ _ bM (pv 5) aE) (by rfl) (by trivial)) (@aH _ _ _ (@aX _ _ (5) _ _ _ _ cD.nd rfl (Or.inl rfl) (@aK _ _ _ _ _ _ _ _ bA (pv 5) aE) (by rfl) (by trivial)))) cA) (@aH _ _ _ (@aX _ _ (4) _ _ _ _ cD.nd rfl (Or.inl rfl) (@aK _ _ _ _ _ _ _ _ tE (pv 4) (@aK _ _ _ _ _ _ _ _ aFI (@fA _ _ _ _ (@aA _ _ _ _ _ (@bH _ _ _ _ _ _ _ (@eG _ (K) rfl) (pv 3) (pv 6) (fun _ _=>rfl)) aF (by rfl))) (pv 7))) (by rfl) (by trivial))))) (by intro _;rfl)) (@aG _ _ _ _ _ (@dY _ _ _ _ _ _ _ _ (@bT _ _ _ _ _ _ _ _ pA (@aK _ _ _ _ _ _ _ _ bM (@aK _ _ _ _ _ _ _ _ bA (pv 2) aE) aE) aE (@bV _ _ (by decide) (by decide))) (@aH _ _ _ (@aX _ _ (4) _ _ _ _ cD.nd rfl (Or.inl rfl) (wP rfl rfl T.n_list rfl T.n_reversed (@aA _ _ _ _ _ (pv 4) aF (by rfl))) (by rfl) (by trivial))) cA) (@aH _ _ _ (@aY _ _ _ _ (pv 4))))))))),?_⟩
 refine ⟨_,rfl,_,_,rfl,sa,ns,3,rfl,rfl,hS,hsl,by decide,?_⟩
 generalize ns.getD (Int.toNat 3) 0 = c
 refine ⟨_,rfl,a,rfl,⟨_,SqL.of ha⟩,?_⟩
 refine cO (F:=K) (xs:=vs) (by omega) (fun i ys H'=>H' = H ∧ ys = (((ds.take i).filter cQ).map aJ).map V.str ∧ ys.length ≤ i) ⟨rfl,rfl,Nat.le_refl _⟩ ?_ ?_ ?_
 ·rintro i ys H' hi' ⟨rfl,rfl,l⟩
  exact ⟨SqL.of ha,l⟩
 ·rintro i xv ys H' K1 K2 hx' ⟨rfl,rfl,ll⟩ k1 k2
  have hil:i < vs.length:=(List.getElem?_eq_some_iff.mp hx').1
  obtain ⟨d,ed⟩:∃ d,ds[i]? = some d:=⟨_,List.getElem?_eq_getElem (by omega)⟩
  obtain ⟨v,ev,iv⟩:=hia.get ed
  rw [hx'] at ev
  cases ev
  obtain ⟨n,a',b',cr,r,sl,rfl,_⟩:=bZ (gd.all d (List.mem_of_getElem? ed))
  obtain ⟨t,sv,rfl,o,isv⟩:=hJ iv
  have e0:cQ (.tup [.str n,.str a',.str b',.int cr,.int r,sl]) = !rW sl:=rfl
  refine ⟨_,rfl,t,_,5,sv,rfl,rfl,SqT.of o,aU (j:=5) rfl,rfl,_,rfl,?_⟩
  rw [vO isv]
  refine fZ (fun h1=>?_) (fun h1=>?_)
  ·refine ⟨_,rfl,t,_,0,.str n,rfl,rfl,SqT.of o,aU (j:=0) rfl,k1 _ _ ⟨rfl,?_,by rw [List.length_append];show _ + 1 ≤ _;omega⟩⟩
   rw [List.take_add_one,ed,List.filter_append]
   show _ = (((_ ++ [Dv.tup [.str n,.str a',.str b',.int cr,.int r,sl]].filter cQ).map aJ).map V.str)
   rw [List.filter_cons_of_pos (p:=cQ) (by rw [e0];exact h1),List.filter_nil,List.map_append,List.map_append]
   rfl
  ·refine k2 _ ⟨rfl,?_,by omega⟩
   rw [List.take_add_one,ed,List.filter_append]
   show _ = (((_ ++ [Dv.tup [.str n,.str a',.str b',.int cr,.int r,sl]].filter cQ).map aJ).map V.str)
   rw [List.filter_cons_of_neg (p:=cQ) (by rw [e0];exact h1),List.filter_nil,List.append_nil]
 rintro ys H' ⟨e0,rfl,ll⟩
 subst e0
 rw [List.take_of_length_le (by omega)] at *
 intro ls hls
 generalize hsn:(ds.filter cQ).map aJ = sn at *
 have lsn:sn.length ≤ 40:=by
  rw [List.length_map] at ll
  omega
 have S1:=aM.upd (o:=.lst (sn.map V.str)) hls
 have hls1:upd H' ls (.lst (sn.map V.str)) ls = some (.lst (sn.map V.str)):=aD
 refine ⟨aT rfl,fun l0 hl0=>?_⟩
 have S2:=aM.upd (o:=.lst []) hl0
 have T2:=S1.trans S2
 refine ⟨_,rfl,_,_,rfl,rfl,⟨by decide,by decide⟩,?_⟩
 refine ⟨_,rfl,ls,_,rfl,.inl (SqL.of (S2 _ _ hls1)),(sn.length:Int),by rw [List.length_map],by omega,by omega,?_⟩
 refine iK (lo:=0) (n:=sn.length) (fun i σ H2=>∃ (left:Int) (v6 v7:Option V) (l:Addr) (op:List Str),σ = [some (.ref sa),some (.ref a),some (.int c),some (.ref ls),some (.ref l),some (.int left),v6,v7] ∧ aM H' H2 ∧ H2 ls = some (.lst (sn.map V.str)) ∧ H' l = none ∧ H2 l = some (.lst (op.map V.str)) ∧ op.length ≤ 2 * i ∧ ∀ z ∈ op,z ∈ sn)
  ⟨_,_,_,l0,[],rfl,T2,S2 _ _ hls1,S1.free hl0,aD,Nat.le_refl _,(fun z m=>by cases m)⟩ ?_ ?_
 ·rintro i σ H3 hi ⟨left,v6,v7,l,op,rfl,S3,hls3,fl,hl3,lop,sub⟩
  obtain ⟨z,ez⟩:∃ z,sn[i]? = some z:=⟨_,List.getElem?_eq_getElem hi⟩
  have ezv:(sn.map V.str)[i]? = some (V.str z):=by rw [List.getElem?_map,ez];rfl
  have mz:=List.mem_of_getElem? ez
  refine ⟨aT rfl,fun p1 hp1=>?_⟩
  have R1:=aM.upd (o:=.lst [.int 0,.int 1,.int 2,.int 0,.int 0]) hp1
  refine ⟨_,rfl,_,_,rfl,rfl,⟨by decide,by decide⟩,_,_,rfl,rfl,.inr ⟨by decide,by decide⟩,_,rfl,_,_,rfl,rfl,_,_,rfl,_,_,rfl,rfl,by omega,by omega,fun m=>?_⟩
  have tm:∃ t:Int,atI ([.int 0,.int 1,.int 2,.int 0,.int 0]:List V) (m % 5) = some (.int t) ∧ 0 ≤ t ∧ t ≤ 2:=by
   obtain ⟨k,hk⟩:=Int.eq_ofNat_of_zero_le (Int.emod_nonneg m (show (5:Int) ≠ 0 by decide))
   have hk5:k < 5:=by have:=Int.emod_lt_of_pos m (show (0:Int) < 5 by decide);omega
   rw [hk]
   match k,hk5 with
   | 0,_=>exact ⟨0,aU rfl,by decide,by decide⟩
   | 1,_=>exact ⟨1,aU rfl,by decide,by decide⟩
   | 2,_=>exact ⟨2,aU rfl,by decide,by decide⟩
   | 3,_=>exact ⟨0,aU rfl,by decide,by decide⟩
   | 4,_=>exact ⟨0,aU rfl,by decide,by decide⟩
  obtain ⟨t,et,t0,t2⟩:=tm
  refine ⟨_,_,rfl,rfl,(fC rfl),p1,_,_,.int t,rfl,rfl,SqL.of aD,et,?_⟩
  have hls4:=R1 _ _ hls3
  have hl4:=R1 _ _ hl3
  have S4:=S3.trans R1
  generalize upd H3 p1 (.lst [.int 0,.int 1,.int 2,.int 0,.int 0]) = H4 at hls4 hl4 S4
  refine ⟨_,rfl,_,_,rfl,rfl,(fC rfl),rfl,_,rfl,?_⟩
  refine fZ (fun _=>?_) (fun _=>?_)
  ·refine ⟨_,rfl,_,_,rfl,rfl,(fC rfl),?_⟩
   refine ⟨_,rfl,_,_,rfl,rfl,⟨by decide,by decide⟩,?_⟩
   have w0:0 ≤ left % 3:=Int.emod_nonneg _ (by decide)
   have w2:left % 3 ≤ 2:=by have:=Int.emod_lt_of_pos left (show (0:Int) < 3 by decide);omega
   have sz1:([V.str z]:List V).length * (left % 3).toNat ≤ sizeLine:=by
    show 1 * _ ≤ _
    omega
   refine ⟨_,rfl,_,rfl,_,rfl,ls,_,_,.str z,rfl,rfl,SqL.of hls4,(by rw [Int.zero_add];exact aU ezv),aT rfl,fun p2 hp2=>?_⟩
   have R2:=aM.upd (o:=.lst [.str z]) hp2
   refine ⟨_,rfl,p2,left % 3,[.str z],rfl,rfl,aD,by omega,by omega,sz1,fun p3 hp3=>?_⟩
   rw [pS]
   have R3:=aM.upd (o:=.lst (List.replicate (left % 3).toNat (V.str z))) hp3
   refine ⟨l,p3,_,_,rfl,rfl,(R2.trans R3) _ _ hl4,aD,by rw [List.length_map,List.length_replicate];omega,fun p4 hp4=>?_⟩
   have R4:=aM.upd (o:=.lst (op.map V.str ++ List.replicate (left % 3).toNat (V.str z))) hp4
   have T4:=R2.trans (R3.trans R4)
   refine ⟨_,_,_,p4,op ++ List.replicate (left % 3).toNat z,rfl,S4.trans T4,T4 _ _ hls4,(S4.trans (R2.trans R3)).free hp4,?_,?_,fun y m=>?_⟩
   ·rw [aD,List.map_append,List.map_replicate]
   ·rw [List.length_append,List.length_replicate]
    omega
   ·rcases List.mem_append.mp m with m | m
    ·exact sub y m
    ·rw [List.eq_of_mem_replicate m];exact mz
  ·have sz1:([V.str z]:List V).length * (t).toNat ≤ sizeLine:=by
    show 1 * _ ≤ _
    omega
   refine ⟨_,rfl,_,rfl,_,rfl,ls,_,_,.str z,rfl,rfl,SqL.of hls4,(by rw [Int.zero_add];exact aU ezv),aT rfl,fun p2 hp2=>?_⟩
   have R2:=aM.upd (o:=.lst [.str z]) hp2
   refine ⟨_,rfl,p2,t,[.str z],rfl,rfl,aD,by omega,by omega,sz1,fun p3 hp3=>?_⟩
   rw [pS]
   have R3:=aM.upd (o:=.lst (List.replicate (t).toNat (V.str z))) hp3
   refine ⟨l,p3,_,_,rfl,rfl,(R2.trans R3) _ _ hl4,aD,by rw [List.length_map,List.length_replicate];omega,fun p4 hp4=>?_⟩
   have R4:=aM.upd (o:=.lst (op.map V.str ++ List.replicate (t).toNat (V.str z))) hp4
   have T4:=R2.trans (R3.trans R4)
   refine ⟨_,_,_,p4,op ++ List.replicate (t).toNat z,rfl,S4.trans T4,T4 _ _ hls4,(S4.trans (R2.trans R3)).free hp4,?_,?_,fun y m=>?_⟩
   ·rw [aD,List.map_append,List.map_replicate]
   ·rw [List.length_append,List.length_replicate]
    omega
   ·rcases List.mem_append.mp m with m | m
    ·exact sub y m
    ·rw [List.eq_of_mem_replicate m];exact mz
 ·rintro σ H3 ⟨left,v6,v7,l,op,rfl,S3,hls3,fl,hl3,lop,sub⟩
  refine ⟨_,rfl,_,_,rfl,rfl,⟨by decide,by decide⟩,_,_,rfl,rfl,(fC rfl),rfl,_,rfl,?_⟩
  refine fZ (fun _=>?_) (fun _=>?_)
  ·refine ⟨_,rfl,l,_,rfl,SqL.of hl3,fun l2 hl2=>?_⟩
   refine ⟨_,rfl,q l2 op.reverse _ (S3.trans (aM.upd hl2)) (S3.free hl2) (by rw [aD,List.map_reverse]) (by rw [List.length_reverse];omega) (fun z m=>sub z (List.mem_reverse.mp m))⟩
  ·exact ⟨_,rfl,q l op H3 S3 fl hl3 (by omega) sub⟩
open Mt22 MtF
def rB (K:PySem.W.Frag):Sp:=sp2 fun x y H Q=>∃ (a l:Addr) (vs:List V) (ds:List Dv) (zs op:List Str),x = .ref a ∧ y = .ref l ∧ H a = some (.lst vs) ∧ IsL H ds vs ∧ GoodD zs ds ∧ H l = some (.lst (op.map V.str)) ∧ (∀ z ∈ op,z ∈ (ds.filter cQ).map aJ) ∧
 ∀ (d:Addr) (H':Hp),aM H H' → H d = none → H' d = some (.dK (fS op ds)) → Q (.ref d) H'
theorem aFZ {x y:V} (b:Bool):atI [x,y] (if b then 1 else 0) = some (if b then y else x):=by
 cases b
 ·exact aU (j:=0) rfl
 ·exact aU (j:=1) rfl
theorem vE (T:Txt K mg C):Fc P w K mg base 1 "_law_stands" ["_law_dykes_here","_law_opened_here"] (rB K):=by
 refine T.d_l_stands.fc dH jM (fun f cdv A outer s H vs Q E hr h=>?_)
 obtain ⟨x,y,rfl,a,l,vs,ds,zs,op,rfl,rfl,ha,hia,gd,hl,sub,q⟩:=h
 have big:=cR
 have hu:=pP hr
 have lv:=hia.length
 have d2:=gd.l2
 refine ⟨_,(@aG _ _ _ _ _ (@aX _ _ (2) _ _ _ _ dH.nd rfl (Or.inl rfl) oX (by rfl) (by trivial)) (@aG _ _ _ _ _ (@dZ _ _ _ _ _ _ _ _ PassesOwn.never rfl (@bU _ _ _ _ (pv 0)) (@fH _ _ _ _ _ _ rfl (@aQ _ _ _ _ _ (@aL _ _ (3) _ dH.nd rfl (Or.inl rfl) (by trivial)) (@aQ _ _ _ _ _ (@aL _ _ (4) _ dH.nd rfl (Or.inl rfl) (by trivial)) (@aQ _ _ _ _ _ (@aL _ _ (5) _ dH.nd rfl (Or.inl rfl) (by trivial)) (@aQ _ _ _ _ _ (@aL _ _ (6) _ dH.nd rfl (Or.inl rfl) (by trivial)) (@aQ _ _ _ _ _ (@aL _ _ (7) _ dH.nd rfl (Or.inl rfl) (by trivial)) (@aQ _ _ _ _ _ (@aL _ _ (8) _ dH.nd rfl (Or.inl rfl) (by trivial)) dX (by rfl)) (by rfl)) (by rfl)) (by rfl)) (by rfl)) (by rfl)) (by rfl) (by rfl)) (@aH _ _ _ (@kA _ _ _ _ _ _ _ _ _ hu (pv 2) (pv 3) (@bH _ _ _ _ _ _ _ (@eG _ (K) rfl) (@fA _ _ _ _ (@aA _ _ _ _ _ (pv 6) (@aA _ _ _ _ _ (pv 8) aF (by rfl)) (by rfl))) (@cG _ _ _ _ _ _ _ _ _ aAI rfl T.n_int mP (@aA _ _ _ _ _ (@fP _ _ _ _ _ _ _ _ (@kS _ (K) rfl) (pv 3) (pv 1) (by with_unfolding_all rfl)) aF (by rfl)) (by decide) (by decide) (by rfl) (by rfl)) (fun _ _=>rfl)) rfl)) (by intro _;rfl)) (@aH _ _ _ (@aY _ _ _ _ (pv 2))))),?_⟩
 refine fun d hd=>?_
 have S1:=aM.upd (o:=.dK []) hd
 refine ⟨_,rfl,a,rfl,⟨_,SqL.of (S1 _ _ ha)⟩,eI (K:=K) (a:=a) (xs:=vs)
  (fun i σ H'=>∃ v3 v4 v5 v6 v7 v8:Option V,σ = [some (.ref a),some (.ref l),some (.ref d),v3,v4,v5,v6,v7,v8] ∧ aM H H' ∧ H' d = some (.dK (fS op (ds.take i))))
  ⟨_,_,_,_,_,_,rfl,S1,aD⟩ (fun i σ H' _ ⟨_,_,_,_,_,_,_,S',_⟩=>SqL.of (S' _ _ ha)) ?_ ?_⟩
 ·rintro i xv σ H2 hi ⟨v3,v4,v5,v6,v7,v8,rfl,S2,hd2⟩
  have hil:i < vs.length:=(List.getElem?_eq_some_iff.mp hi).1
  obtain ⟨dd,ed⟩:∃ d,ds[i]? = some d:=⟨_,List.getElem?_eq_getElem (by omega)⟩
  obtain ⟨v,ev,iv⟩:=hia.get ed
  rw [hi] at ev
  cases ev
  have md:=List.mem_of_getElem? ed
  have si:=fun h=>uR gd sub md h
  have knew:dC (fS op (ds.take i)) (Sum.inr (aJ dd)) = none:=by
   cases e:dC (fS op (ds.take i)) (Sum.inr (aJ dd)) with
   | none=>rfl
   | some v =>
    have:=sM e
    rw [rA] at this
    obtain ⟨e2,me2,ee⟩:=List.mem_map.mp this
    have enm:aJ e2 = aJ dd:=Sum.inr.inj ee
    have h3:((ds.take (i + 1)).map aJ).Nodup:=by
     rw [List.map_take]
     exact List.Nodup.sublist (List.take_sublist _ _) gd.nd
    rw [List.take_add_one,ed,List.map_append,List.nodup_append] at h3
    exact absurd enm (h3.2.2 _ (List.mem_map.mpr ⟨e2,me2,rfl⟩) _ (List.mem_singleton.mpr rfl))
  have ek:fS op (ds.take (i + 1)) = fS op (ds.take i) ++ [(Sum.inr (aJ dd),V.int (bF op dd))]:=by
   unfold fS
   rw [List.take_add_one,ed,List.map_append]
   rfl
  have lk:(fS op (ds.take i)).length < sizeLine:=by
   unfold fS
   rw [List.length_map,List.length_take]
   omega
  obtain ⟨n,a',b',c,r,sl,rfl,_⟩:=bZ (gd.all dd md)
  obtain ⟨t,sv,rfl,o,isv⟩:=hJ iv
  refine ⟨t,_,rfl,SqT.of (S2 _ _ o),rfl,_,_,rfl,_,_,rfl,_,_,rfl,_,_,rfl,_,_,rfl,_,_,rfl,rfl,?_⟩
  refine ⟨_,rfl,_,rfl,aT rfl,fun p1 hp1=>?_⟩
  have R1:=aM.upd (o:=.lst [.int c,sv]) hp1
  refine ⟨_,rfl,_,rfl,l,_,rfl,.inl (SqL.of ((S2.trans R1) _ _ hl)),rfl,mL op,.inr ⟨_,rfl,?_⟩⟩
  rw [if_neg Bool.false_ne_true,tO]
  refine ⟨p1,_,_,_,rfl,rfl,SqL.of aD,aFZ _,?_⟩
  have hd3:=R1 _ _ hd2
  refine ⟨_,rfl,_,rfl,d,_,rfl,.inl ⟨_,Sum.inr n,hd3,rfl,lk,rfl⟩,?_⟩
  have evl:(if decide (n ∈ op) then sv else V.int c) = V.int (bF op (.tup [.str n,.str a',.str b',.int c,.int r,sl])):=by
   by_cases mo:n ∈ op
   ·obtain ⟨i2,e2⟩:=si mo
    have e2':sl = .int i2:=e2
    subst e2'
    cases (show sv = .int i2 from isv)
    rw [decide_eq_true mo]
    show V.int i2 = V.int (if n ∈ op then i2 else c)
    rw [if_pos mo]
   ·rw [decide_eq_false mo]
    show V.int c = V.int (if n ∈ op then aCC sl else c)
    rw [if_neg mo]
  refine ⟨_,_,_,_,_,_,rfl,(S2.trans R1).over hd,?_⟩
  have knew':dC (fS op (ds.take i)) (Sum.inr n) = none:=knew
  rw [aD,lJ _ knew',evl,ek]
  rfl
 ·rintro σ H2 ⟨v3,v4,v5,v6,v7,v8,rfl,S2,hd2⟩
  rw [List.take_of_length_le (by omega)] at hd2
  exact ⟨_,rfl,q d H2 S2 hd hd2⟩
open Mt22 MtF
def aGO (f:V → V → V → V → Hp → VK → Prop):Sp:=fun vs H Q _=>∃ x y z u,vs = [x,y,z,u] ∧ f x y z u H Q
theorem aHC {f:V → V → V → V → Hp → VK → Prop}:∀ vs H Q X,aGO f vs H Q X → vs.length = 4:=fun vs H Q X ⟨x,y,z,u,e,_⟩=>by rw [e];rfl
def kL (fs:List Dv):List (Key × V):=fs.map fun d=>(Sum.inr (aJ d),V.int (bP d))
theorem zU (fs:List Dv):(kL fs).map (·.1) = fs.map hX:=by
 unfold kL
 rw [List.map_map]
 rfl
def iV (zs:List Str):List (Key × V):=zs.map fun z=>(Sum.inr z,V.bl true)
theorem qC (z:Str):∀ zs:List Str,dC (iV zs) (Sum.inr z) = if z ∈ zs then some (.bl true) else none
 | []=>rfl
 | y :: zs=>by
  show dC ((Sum.inr y,V.bl true) :: iV zs) (Sum.inr z) = _
  by_cases e:y = z
  ·subst e
   rw [cS rfl,if_pos List.mem_cons_self]
  ·rw [cT (fun c=>e (Sum.inr.inj c)),qC z zs]
   have:(z ∈ y :: zs) ↔ z ∈ zs:=⟨fun m=>(List.mem_cons.mp m).resolve_left (fun c=>e c.symm),List.mem_cons_of_mem _⟩
   simp only [this]
theorem aFW {z:Str} {zs:List Str} (h:z ∈ zs):gT (iV zs) (Sum.inr z) (.bl true) = iV zs:=by
 unfold gT
 rw [if_pos (by rw [fR,qC,if_pos h];rfl)]
 unfold iV
 rw [List.map_map]
 refine List.map_congr_left fun y _=>?_
 show (if (Sum.inr y:Key) = Sum.inr z then ((Sum.inr y:Key),V.bl true) else (Sum.inr y,V.bl true)) = _
 rw [ite_self]
structure GrowC (S:List Mt22.St) (L:Int) (V0 zs:List Str):Prop where
 nd:zs.Nodup
 sub:∀ z ∈ zs,z ∈ V0
 sea:Mt22.sea ∈ zs
 sound:∀ z ∈ zs,Come S L z
theorem GrowC.snoc {S:List Mt22.St} {L:Int} {V0 zs:List Str} (h:GrowC S L V0 zs) {z:Str} (n:¬ z ∈ zs) (v:z ∈ V0) (r:Come S L z):GrowC S L V0 (zs ++ [z]) where
 nd:=by
  rw [List.nodup_append]
  exact ⟨h.nd,by simp,fun a ha b hb=>by rw [List.mem_singleton.mp hb];exact fun c=>n (c ▸ ha)⟩
 sub y m:=by
  rcases List.mem_append.mp m with m | m
  ·exact h.sub y m
  ·rw [List.mem_singleton.mp m];exact v
 sea:=List.mem_append_left _ h.sea
 sound y m:=by
  rcases List.mem_append.mp m with m | m
  ·exact h.sound y m
  ·rw [List.mem_singleton.mp m];exact r
theorem zT {S:List Mt22.St} {L:Int} {V0 zs:List Str} (h:GrowC S L V0 zs) (c:∀ s ∈ S,s.h < L → s.near ∈ zs → s.far ∈ zs) (z:Str):z ∈ zs ↔ Come S L z:=by
 refine ⟨h.sound z,fun q=>?_⟩
 induction q with
 | sea=>exact h.sea
 | step w m hl ih=>exact c _ m hl ih
def uP (K:PySem.W.Frag):Sp:=aGO fun x y z u H Q=>∃ (a b dh:Addr) (vf vd:List V) (fs ds:List Dv) (op:List Str) (L:Int),x = .ref a ∧ y = .ref b ∧ z = .ref dh ∧ u = .int L ∧ H a = some (.lst vf) ∧ IsL H fs vf ∧ GoodF fs ∧ H b = some (.lst vd) ∧ IsL H ds vd ∧ GoodD ("sea" :: fs.map aJ) ds ∧ H dh = some (.dK (fS op ds)) ∧
 ∀ (d:Addr) (zs:List Str) (H':Hp),aM H H' → H d = none → H' d = some (.dK (iV zs)) → (∀ z,z ∈ zs ↔ Come (aW fs ds op) (L + 1) z) → Q (.ref d) H'
theorem tH (T:Txt K mg C):Fc P w K mg base 1 "_law_come_to" ["_law_fields_here","_law_dykes_here","_law_stands_now","_law_level"] (uP K):=by
 refine T.d_l_come_to.fc bB aHC (fun f cdv A outer s H vs Q E hr h=>?_)
 obtain ⟨x,y,z,u,rfl,a,b,dh,vf,vd,fs,ds,op,L,rfl,rfl,rfl,rfl,ha,hif,gf,hb,hid,gd,hdh,q⟩:=h
 have big:=cR
 have hu:=pP hr
 have lvf:=hif.length
 have lvd:=hid.length
 have f2:=gf.l2
 have d2:=gd.l2
 refine ⟨_,(@aG _ _ _ _ _ (@aX _ _ (4) _ _ _ _ bB.nd rfl (Or.inl rfl) oX (by rfl) (by trivial)) (@aG _ _ _ _ _ (@dZ _ _ _ _ _ _ _ _ PassesOwn.never rfl (@bU _ _ _ _ (pv 0)) (@fH _ _ _ _ _ _ rfl (@aQ _ _ _ _ _ (@aL _ _ (5) _ bB.nd rfl (Or.inl rfl) (by trivial)) (@aQ _ _ _ _ _ (@aL _ _ (6) _ bB.nd rfl (Or.inl rfl) (by trivial)) (@aQ _ _ _ _ _ (@aL _ _ (7) _ bB.nd rfl (Or.inl rfl) (by trivial)) dX (by rfl)) (by rfl)) (by rfl)) (by rfl) (by rfl)) (@aH _ _ _ (@kA _ _ _ _ _ _ _ _ _ hu (pv 4) (pv 5) (pv 6) rfl)) (by intro _;rfl)) (@aG _ _ _ _ _ (@aX _ _ (8) _ _ _ _ bB.nd rfl (Or.inl rfl) (@yF _ _ _ _ _ (@uX _ _ _ _ _ _ _ _ _ oW mT yC) rfl rfl (by simp) (Nat.le_of_ble_eq_true rfl)) (by rfl) (by trivial)) (@aG _ _ _ _ _ (@aX _ _ (9) _ _ _ _ bB.nd rfl (Or.inl rfl) aE (by rfl) (by trivial)) (@aG _ _ _ _ _ (@aBL _ _ _ _ _ _ PassesOwn.never (@bT _ _ _ _ _ _ _ _ aBU (@aV _ _ _ _ _ _ _ _ _ sD rfl T.n_len cI (@aA _ _ _ _ _ (pv 8) aF (by rfl)) (by decide) (by decide) (by rfl) (by rfl)) (pv 9) (@bV _ _ (by decide) (by decide))) (@aG _ _ _ _ _ (@aX _ _ (9) _ _ _ _ bB.nd rfl (Or.inl rfl) (@aV _ _ _ _ _ _ _ _ _ sD rfl T.n_len cI (@aA _ _ _ _ _ (pv 8) aF (by rfl)) (by decide) (by decide) (by rfl) (by rfl)) (by rfl) (by trivial)) (@aH _ _ _ (@dZ _ _ _ _ _ _ _ _ PassesOwn.never rfl (@bU _ _ _ _ (pv 1)) (@fH _ _ _ _ _ _ rfl (@aQ _ _ _ _ _ (@aL _ _ (5) _ bB.nd rfl (Or.inl rfl) (by trivial)) (@aQ _ _ _ _ _ (@aL _ _ (10) _ bB.nd rfl (Or.inl rfl) (by trivial)) (@aQ _ _ _ _ _ (@aL _ _ (11) _ bB.nd rfl (Or.inl rfl) (by trivial)) (@aQ _ _ _ _ _ (@aL _ _ (12) _ bB.nd rfl (Or.inl rfl) (by trivial)) (@aQ _ _ _ _ _ (@aL _ _ (13) _ bB.nd rfl (Or.inl rfl) (by trivial)) (@aQ _ _ _ _ _ (@aL _ _ (14) _ bB.nd rfl (Or.inl rfl) (by trivial)) dX (by rfl)) (by rfl)) (by rfl)) (by rfl)) (by rfl)) (by rfl)) (by rfl) (by rfl)) (@aH _ _ _ (@dZ _ _ _ _ _ _ _ _ PassesOwn.never rfl (@bU _ _ _ _ (@fA _ _ _ _ (@aA _ _ _ _ _ (@dU _ _ _ _ _ (@aA _ _ _ _ _ (pv 10) (@aA _ _ _ _ _ (pv 11) aF (by rfl)) (by rfl))) (@aA _ _ _ _ _ (@dU _ _ _ _ _ (@aA _ _ _ _ _ (pv 11) (@aA _ _ _ _ _ (pv 10) aF (by rfl)) (by rfl))) aF (by rfl)) (by rfl)))) (@fH _ _ _ _ _ _ rfl (@aQ _ _ _ _ _ (@aL _ _ (15) _ bB.nd rfl (Or.inl rfl) (by trivial)) (@aQ _ _ _ _ _ (@aL _ _ (16) _ bB.nd rfl (Or.inl rfl) (by trivial)) dX (by rfl)) (by rfl)) (by rfl) (by rfl)) (@aH _ _ _ (@dY _ _ _ _ _ _ _ _ (@PW.pt _ _ _ (@oT _ _ _ _ _ _ _ (@wM _ _ _ _ _ _ (@wR _ _ _ _ _ hu (pv 15) (pv 8)) (by first | exact nobehind _ (by decide) (by decide) | rfl)) (@oT _ _ _ _ _ _ _ (@bT _ _ _ _ _ _ _ _ vC (pv 16) oW (@bV _ _ (by decide) (by decide))) (@nV _ _ _ _ (@bT _ _ _ _ _ _ _ _ lM (@aV _ _ _ _ _ _ _ _ _ (@kH _ rfl) rfl T.n_max kI (@aA _ _ _ _ _ (@eN _ _ _ _ _ _ hu (pv 2) (pv 5) (fun _ _=>rfl)) (@aA _ _ _ _ _ (@eN _ _ _ _ _ _ hu (pv 4) (pv 16) (fun _ _=>rfl)) aF (by rfl)) (by rfl)) (by decide) (by decide) (by rfl) (by rfl)) (pv 3) (@bV _ _ (by decide) (by decide))))))) (@aH _ _ _ (@kA _ _ _ _ _ _ _ _ _ hu (pv 8) (pv 16) mT rfl)) cA)) (by intro _;rfl))) (by intro _;rfl))))) (@aH _ _ _ (@aY _ _ _ _ (pv 8)))))))),?_⟩
 refine fun dg hdg=>?_
 have S1:=aM.upd (o:=.dK []) hdg
 have h1:upd H dg (.dK []) dg = some (.dK (kL (fs.take 0))):=aD
 generalize upd H dg (.dK []) = H1 at S1 h1
 refine ⟨_,rfl,a,rfl,⟨_,SqL.of (S1 _ _ ha)⟩,eI (K:=K) (a:=a) (xs:=vf)
  (fun i σ H'=>∃ v5 v6 v7:Option V,σ = [some (.ref a),some (.ref b),some (.ref dh),some (.int L),some (.ref dg),v5,v6,v7,none,none,none,none,none,none,none,none,none] ∧ aM H H' ∧ H' dg = some (.dK (kL (fs.take i))))
  ⟨_,_,_,rfl,S1,h1⟩ (fun i σ H' _ ⟨_,_,_,_,S',_⟩=>SqL.of (S' _ _ ha)) ?_ ?_⟩
 ·rintro i xv σ H2 hi ⟨v6,v7,v8,rfl,S2,hd2⟩
  have hil:i < vf.length:=(List.getElem?_eq_some_iff.mp hi).1
  obtain ⟨d,ed⟩:∃ d,fs[i]? = some d:=⟨_,List.getElem?_eq_getElem (by omega)⟩
  obtain ⟨v,ev,iv⟩:=hif.get ed
  rw [hi] at ev
  cases ev
  have knew:dC (kL (fs.take i)) (Sum.inr (aJ d)) = none:=by
   cases e:dC (kL (fs.take i)) (Sum.inr (aJ d)) with
   | none=>rfl
   | some v =>
    have:=sM e
    rw [zU] at this
    obtain ⟨e2,me2,ee⟩:=List.mem_map.mp this
    have enm:aJ e2 = aJ d:=Sum.inr.inj ee
    have h3:((fs.take (i + 1)).map aJ).Nodup:=by
     rw [List.map_take]
     exact List.Nodup.sublist (List.take_sublist _ _) gf.nd
    rw [List.take_add_one,ed,List.map_append,List.nodup_append] at h3
    exact absurd enm (h3.2.2 _ (List.mem_map.mpr ⟨e2,me2,rfl⟩) _ (List.mem_singleton.mpr rfl))
  have ek:kL (fs.take (i + 1)) = kL (fs.take i) ++ [(Sum.inr (aJ d),V.int (bP d))]:=by
   unfold kL
   rw [List.take_add_one,ed,List.map_append]
   rfl
  have lk:(kL (fs.take i)).length < sizeLine:=by
   unfold kL
   rw [List.length_map,List.length_take]
   omega
  obtain ⟨zz,g,e,rfl,_⟩:=bK (gf.all d (List.mem_of_getElem? ed))
  obtain ⟨t,rfl,o⟩:=fL iv
  refine ⟨t,_,rfl,SqT.of (S2 _ _ o),rfl,_,_,rfl,_,_,rfl,_,_,rfl,rfl,?_⟩
  refine ⟨_,rfl,_,rfl,_,rfl,dg,_,rfl,.inl ⟨_,Sum.inr zz,hd2,rfl,lk,rfl⟩,?_⟩
  refine ⟨_,_,_,rfl,S2.over hdg,?_⟩
  have knew':dC (kL (fs.take i)) (Sum.inr zz) = none:=knew
  rw [aD,lJ _ knew',ek]
  rfl
 rintro σ H2 ⟨v6,v7,v8,rfl,S2,hd2⟩
 rw [List.take_of_length_le (by omega)] at hd2
 refine fun dc hdc=>?_
 refine ⟨aD,[(Sum.inr "sea",.bl true)],rfl,by show 1 ≤ 15;decide,?_⟩
 have S3:aM H2 (upd (upd H2 dc (.dK [])) dc (.dK (gY [] [(Sum.inr "sea",.bl true)]))):=(aM.upd hdc).over hdc
 have h3:upd (upd H2 dc (.dK [])) dc (.dK (gY [] [(Sum.inr "sea",.bl true)])) dc = some (.dK (iV [Mt22.sea])):=aD
 have hdc0:=S2.free hdc
 have S3':=S2.trans S3
 have hg3:=S3 _ _ hd2
 generalize upd (upd H2 dc (.dK [])) dc (.dK (gY [] [(Sum.inr "sea",.bl true)])) = H3 at S3 h3 S3' hg3
 have ngc:dg ≠ dc:=fun e=>by rw [e] at hd2;rw [hd2] at hdc;cases hdc
 have g0:GrowC (aW fs ds op) (L + 1) ("sea" :: fs.map aJ) [Mt22.sea]:=⟨by simp,(fun z m=>by rw [List.mem_singleton.mp m];exact List.mem_cons_self),List.mem_singleton.mpr rfl,(fun z m=>by rw [List.mem_singleton.mp m];exact .sea)⟩
 refine aAM (fun σ H'=>∃ (k:Nat) (zs:List Str) (v5 v6 v7 v10 v11 v12 v13 v14 v15 v16:Option V),σ = [some (.ref a),some (.ref b),some (.ref dh),some (.int L),some (.ref dg),v5,v6,v7,some (.ref dc),some (.int k),v10,v11,v12,v13,v14,v15,v16] ∧ aM H H' ∧ H' dg = some (.dK (kL fs)) ∧ H' dc = some (.dK (iV zs)) ∧ k ≤ zs.length ∧ GrowC (aW fs ds op) (L + 1) ("sea" :: fs.map aJ) zs ∧ (k = zs.length → ∀ s ∈ aW fs ds op,s.h < L + 1 → s.near ∈ zs → s.far ∈ zs))
  (fun σ _=>match σ with | [_,_,_,_,_,_,_,_,_,some (.int k),_,_,_,_,_,_,_]=>14 - k.toNat | _=>0)
  ⟨0,[Mt22.sea],_,_,_,_,_,_,_,_,_,_,rfl,S3',hg3,h3,Nat.zero_le _,g0,fun h=>by cases h⟩ ?_ ?_
 ·rintro σ H4 ⟨k,zs,v5,v6',v7',v10,v11,v12,v13,v14,v15,v16,rfl,S4,hg4,h4,hk,gr,cl⟩
  have lzs:zs.length ≤ 13:=Nat.le_trans (pM gr.nd gr.sub) (by rw [List.length_cons,List.length_map];omega)
  refine ⟨_,rfl,dc,_,rfl,h4,_,rfl,_,_,rfl,rfl,_,rfl,?_⟩
  have lcm:(iV zs).length = zs.length:=List.length_map ..
  rw [lcm]
  refine fZ (fun c1=>?_) (fun c1=>?_)
  ·have hk1:k < zs.length:=by
    have:=of_decide_eq_true c1
    omega
   refine ⟨_,rfl,dc,_,rfl,h4,?_⟩
   rw [lcm]
   refine ⟨_,rfl,b,rfl,⟨_,SqL.of (S4 _ _ hb)⟩,eI (K:=K) (a:=b) (xs:=vd)
    (fun i σ H'=>∃ (v5 v6 v7 v10 v11 v12 v13 v14 v15 v16:Option V) (more:List Str),σ = [some (.ref a),some (.ref b),some (.ref dh),some (.int L),some (.ref dg),v5,v6,v7,some (.ref dc),some (.int zs.length),v10,v11,v12,v13,v14,v15,v16] ∧ aM H H' ∧ H' dg = some (.dK (kL fs)) ∧ H' dc = some (.dK (iV (zs ++ more))) ∧ GrowC (aW fs ds op) (L + 1) ("sea" :: fs.map aJ) (zs ++ more) ∧ (more = [] → ∀ s ∈ aW fs (ds.take i) op,s.h < L + 1 → s.near ∈ zs → s.far ∈ zs))
    ⟨_,_,_,_,_,_,_,_,_,_,[],rfl,S4,hg4,by rw [List.append_nil];exact h4,by rw [List.append_nil];exact gr,(fun _ s m=>by cases m)⟩ (fun i σ H' _ ⟨_,_,_,_,_,_,_,_,_,_,_,_,S,_⟩=>SqL.of (S _ _ hb)) ?_ ?_⟩
   ·rintro i xv σ H5 hi ⟨w5,w6,w7,w10,w11,w12,w13,w14,w15,w16,more,rfl,S5,hg5,h5,gr5,cl5⟩
    have hil:i < vd.length:=(List.getElem?_eq_some_iff.mp hi).1
    obtain ⟨dd,ed⟩:∃ d,ds[i]? = some d:=⟨_,List.getElem?_eq_getElem (by omega)⟩
    obtain ⟨v,ev,iv⟩:=hid.get ed
    rw [hi] at ev
    cases ev
    have md:=List.mem_of_getElem? ed
    have estand:dC (fS op ds) (Sum.inr (aJ dd)) = some (.int (bF op dd)):=gL (f:=fun d=>V.int (bF op d)) gd.nd md
    have etake:ds.take (i + 1) = ds.take i ++ [dd]:=by rw [List.take_add_one,ed];rfl
    have stepmem:∀ s ∈ hV fs op dd,s ∈ aW fs ds op:=fun s m=>List.mem_flatMap.mpr ⟨dd,md,m⟩
    have farV:∀ s ∈ aW fs ds op,s.far ∈ (("sea":Str) :: fs.map aJ):=fun s m=>List.mem_cons_of_mem _ (tS gd m)
    obtain ⟨n,a',b',c,r,sl,rfl,hn,ha',hb',_⟩:=bZ (gd.all dd md)
    obtain ⟨t,sv,rfl,o,isv⟩:=hJ iv
    have gat:∀ z ∈ (("sea":Str) :: fs.map aJ),z ≠ "sea" → dC (kL fs) (Sum.inr z) = some (.int (bY fs z)):=fun z m hz=>by
     obtain ⟨d,m2,rfl⟩:=List.mem_map.mp ((List.mem_cons.mp m).resolve_left hz)
     rw [kF gf.nd m2]
     exact gL (f:=fun d=>V.int (bP d)) gf.nd m2
    refine ⟨t,_,rfl,SqT.of (S5 _ _ o),rfl,_,_,rfl,_,_,rfl,_,_,rfl,_,_,rfl,_,_,rfl,_,_,rfl,rfl,?_⟩
    refine ⟨_,rfl,_,rfl,aT rfl,fun q1 hq1=>?_⟩
    have R1:=aM.upd (o:=.tup [.str a',.str b']) hq1
    refine ⟨_,rfl,_,rfl,aT rfl,fun q2 hq2=>?_⟩
    have R2:=aM.upd (o:=.tup [.str b',.str a']) hq2
    refine ⟨aT rfl,fun q3 hq3=>?_⟩
    have R3:=aM.upd (o:=.lst [.ref q1,.ref q2]) hq3
    have R:=R1.trans (R2.trans R3)
    have e1:upd (upd (upd H5 q1 (.tup [.str a',.str b'])) q2 (.tup [.str b',.str a'])) q3 (.lst [.ref q1,.ref q2]) q1 = some (.tup [.str a',.str b']):=(R2.trans R3) _ _ aD
    have e2:upd (upd (upd H5 q1 (.tup [.str a',.str b'])) q2 (.tup [.str b',.str a'])) q3 (.lst [.ref q1,.ref q2]) q2 = some (.tup [.str b',.str a']):=R3 _ _ aD
    have e3:upd (upd (upd H5 q1 (.tup [.str a',.str b'])) q2 (.tup [.str b',.str a'])) q3 (.lst [.ref q1,.ref q2]) q3 = some (.lst [.ref q1,.ref q2]):=aD
    have S6:=S5.trans R
    have h6:=R _ _ h5
    have hg6:=R _ _ hg5
    generalize upd (upd (upd H5 q1 (.tup [.str a',.str b'])) q2 (.tup [.str b',.str a'])) q3 (.lst [.ref q1,.ref q2]) = H6 at e1 e2 e3 S6 h6 hg6
    refine ⟨q3,rfl,⟨_,SqL.of e3⟩,eI (K:=K) (a:=q3) (xs:=[.ref q1,.ref q2])
     (fun j σ H'=>∃ (v15 v16:Option V) (more:List Str),σ = [some (.ref a),some (.ref b),some (.ref dh),some (.int L),some (.ref dg),some (.str n),w6,w7,some (.ref dc),some (.int zs.length),some (.str a'),some (.str b'),some (.int c),some (.int r),some sv,v15,v16] ∧ aM H H' ∧ H' q1 = some (.tup [.str a',.str b']) ∧ H' q2 = some (.tup [.str b',.str a']) ∧ H' q3 = some (.lst [.ref q1,.ref q2]) ∧ H' dg = some (.dK (kL fs)) ∧ H' dc = some (.dK (iV (zs ++ more))) ∧ GrowC (aW fs ds op) (L + 1) ("sea" :: fs.map aJ) (zs ++ more) ∧ (more = [] → (∀ s ∈ aW fs (ds.take i) op,s.h < L + 1 → s.near ∈ zs → s.far ∈ zs) ∧ (0 < j → ∀ s ∈ cC fs op (.tup [.str n,.str a',.str b',.int c,.int r,sl]) a' b',s.h < L + 1 → s.near ∈ zs → s.far ∈ zs) ∧ (1 < j → ∀ s ∈ cC fs op (.tup [.str n,.str a',.str b',.int c,.int r,sl]) b' a',s.h < L + 1 → s.near ∈ zs → s.far ∈ zs)))
     ⟨_,_,more,rfl,S6,e1,e2,e3,hg6,h6,gr5,(fun h=>⟨cl5 h,(fun h=>absurd h (by omega)),(fun h=>absurd h (by omega))⟩)⟩ (fun j σ H' _ ⟨_,_,_,_,_,_,_,e,_⟩=>SqL.of e) ?_ ?_⟩
    ·rintro j yv σ H7 hj ⟨x7,x8,mo,rfl,S7,e17,e27,e37,hg7,h7,gr7,cl7⟩
     have hj2:j < 2:=(List.getElem?_eq_some_iff.mp hj).1
     have lmo:(zs ++ mo).length ≤ 13:=Nat.le_trans (pM gr7.nd gr7.sub) (by rw [List.length_cons,List.length_map];omega)
     obtain ⟨qq,here,there,rfl,hq,hhere,hthere,hst,done⟩:∃ (qq:Addr) (here there:Str),yv = .ref qq ∧ H7 qq = some (.tup [.str here,.str there]) ∧ here ∈ (("sea":Str) :: fs.map aJ) ∧ there ∈ (("sea":Str) :: fs.map aJ) ∧ (∀ s ∈ cC fs op (.tup [.str n,.str a',.str b',.int c,.int r,sl]) here there,s ∈ aW fs ds op) ∧
       ((∀ s ∈ cC fs op (.tup [.str n,.str a',.str b',.int c,.int r,sl]) here there,s.h < L + 1 → s.near ∈ zs → s.far ∈ zs) → mo = [] → (∀ s ∈ aW fs (ds.take i) op,s.h < L + 1 → s.near ∈ zs → s.far ∈ zs) ∧ (0 < j + 1 → ∀ s ∈ cC fs op (.tup [.str n,.str a',.str b',.int c,.int r,sl]) a' b',s.h < L + 1 → s.near ∈ zs → s.far ∈ zs) ∧ (1 < j + 1 → ∀ s ∈ cC fs op (.tup [.str n,.str a',.str b',.int c,.int r,sl]) b' a',s.h < L + 1 → s.near ∈ zs → s.far ∈ zs)):=by
      match j,hj2 with
      | 0,_ =>
       cases hj
       exact ⟨q1,a',b',rfl,e17,ha',hb',(fun s m=>stepmem s (List.mem_append_left _ m)),fun h0 hm=>⟨(cl7 hm).1,fun _=>h0,fun h=>absurd h (by omega)⟩⟩
      | 1,_ =>
       cases hj
       exact ⟨q2,b',a',rfl,e27,hb',ha',(fun s m=>stepmem s (List.mem_append_right _ m)),fun h0 hm=>⟨(cl7 hm).1,fun _=>(cl7 hm).2.1 (by omega),fun _=>h0⟩⟩
     refine ⟨qq,_,rfl,SqT.of hq,rfl,_,_,rfl,_,_,rfl,rfl,?_⟩
     have stay:(∀ s ∈ cC fs op (.tup [.str n,.str a',.str b',.int c,.int r,sl]) here there,mo = [] → s.h < L + 1 → s.near ∈ zs → s.far ∈ zs) → mo = [] → (∀ s ∈ aW fs (ds.take i) op,s.h < L + 1 → s.near ∈ zs → s.far ∈ zs) ∧ (0 < j + 1 → ∀ s ∈ cC fs op (.tup [.str n,.str a',.str b',.int c,.int r,sl]) a' b',s.h < L + 1 → s.near ∈ zs → s.far ∈ zs) ∧ (1 < j + 1 → ∀ s ∈ cC fs op (.tup [.str n,.str a',.str b',.int c,.int r,sl]) b' a',s.h < L + 1 → s.near ∈ zs → s.far ∈ zs):=fun h0 hm=>done (fun s ms=>h0 s ms hm) hm
     refine ⟨_,rfl,_,rfl,dc,_,rfl,.inl ⟨_,Sum.inr here,.inl h7,rfl,rfl⟩,_,rfl,?_⟩
     rw [qC]
     by_cases mh:here ∈ zs ++ mo
     ·rw [if_pos mh]
      refine gK ?_
      refine ⟨_,rfl,rfl,_,rfl,?_⟩
      rw [yO]
      by_cases hs:there = "sea"
      ·rw [decide_eq_true hs]
       refine cN ⟨_,_,mo,rfl,S7,e17,e27,e37,hg7,h7,gr7,stay fun s ms hm _ hn'=>?_⟩
       exact absurd hs (fJ.mp ms).1
      ·rw [decide_eq_false hs]
       refine gK ?_
       refine ⟨_,rfl,_,rfl,dh,_,rfl,.inl ⟨_,Sum.inr n,.inl (S7 _ _ hdh),rfl,estand.symm⟩,?_⟩
       refine ⟨_,rfl,_,rfl,dg,_,rfl,.inl ⟨_,Sum.inr there,.inl hg7,rfl,(gat there hthere hs).symm⟩,?_⟩
       refine ⟨_,_,rfl,_,rfl,_,_,rfl,rfl,_,rfl,?_⟩
       have emax:(if bY fs there > bF op (.tup [.str n,.str a',.str b',.int c,.int r,sl]) then bY fs there else bF op (.tup [.str n,.str a',.str b',.int c,.int r,sl])) = max (bF op (.tup [.str n,.str a',.str b',.int c,.int r,sl])) (bY fs there):=by split <;> omega
       rw [emax]
       have mst:(⟨n,here,there,max (bF op (.tup [.str n,.str a',.str b',.int c,.int r,sl])) (bY fs there)⟩:Mt22.St) ∈ cC fs op (.tup [.str n,.str a',.str b',.int c,.int r,sl]) here there:=fJ.mpr ⟨hs,rfl⟩
       refine fZ (fun c2=>?_) (fun c2=>?_)
       ·have le2:=of_decide_eq_true c2
        have cth:Come (aW fs ds op) (L + 1) there:=Come.step (s:=⟨n,here,there,_⟩) (gr7.sound here mh) (hst _ mst) (by show max _ _ < L + 1;omega)
        have lkv:(iV (zs ++ mo)).length < sizeLine:=by
         have:(iV (zs ++ mo)).length = (zs ++ mo).length:=List.length_map ..
         omega
        refine ⟨_,rfl,_,rfl,dc,_,rfl,.inl ⟨_,Sum.inr there,h7,rfl,lkv,rfl⟩,?_⟩
        by_cases mt:there ∈ zs ++ mo
        ·rw [aFW mt]
         have keep:∀ (x:Addr) (o:HO),H7 x = some o → x ≠ dc → upd H7 dc (.dK (iV (zs ++ mo))) x = some o:=fun x o e ne=>by rw [aO ne];exact e
         refine ⟨_,_,mo,rfl,S7.over hdc0,?_,?_,?_,?_,aD,gr7,stay fun s ms hm _ hn'=>?_⟩
         ·exact keep _ _ e17 (fun e=>by rw [e,h7] at e17;cases e17)
         ·exact keep _ _ e27 (fun e=>by rw [e,h7] at e27;cases e27)
         ·exact keep _ _ e37 (fun e=>by rw [e,h7] at e37;cases e37)
         ·exact keep _ _ hg7 ngc
         ·obtain ⟨_,rfl⟩:=fJ.mp ms
          rw [hm,List.append_nil] at mt
          exact mt
        ·have eput:gT (iV (zs ++ mo)) (Sum.inr there) (V.bl true) = iV (zs ++ (mo ++ [there])):=by
          rw [lJ _ (by rw [qC,if_neg mt]),← List.append_assoc]
          unfold iV
          rw [List.map_append (l₂:=[there])]
          rfl
         rw [eput]
         have gr8:=gr7.snoc mt hthere cth
         rw [List.append_assoc] at gr8
         have keep:∀ (x:Addr) (o:HO),H7 x = some o → x ≠ dc → upd H7 dc (.dK (iV (zs ++ (mo ++ [there])))) x = some o:=fun x o e ne=>by rw [aO ne];exact e
         refine ⟨_,_,mo ++ [there],rfl,S7.over hdc0,?_,?_,?_,?_,aD,gr8,fun e=>absurd e (by simp)⟩
         ·exact keep _ _ e17 (fun e=>by rw [e,h7] at e17;cases e17)
         ·exact keep _ _ e27 (fun e=>by rw [e,h7] at e27;cases e27)
         ·exact keep _ _ e37 (fun e=>by rw [e,h7] at e37;cases e37)
         ·exact keep _ _ hg7 ngc
       ·refine ⟨_,_,mo,rfl,S7,e17,e27,e37,hg7,h7,gr7,stay fun s ms hm hlt _=>?_⟩
        obtain ⟨_,rfl⟩:=fJ.mp ms
        refine absurd (decide_eq_true ?_) c2
        have hlt':max (bF op (.tup [.str n,.str a',.str b',.int c,.int r,sl])) (bY fs there) < L + 1:=hlt
        omega
     ·rw [if_neg mh]
      refine cN ⟨_,_,mo,rfl,S7,e17,e27,e37,hg7,h7,gr7,stay fun s ms hm _ hn'=>?_⟩
      obtain ⟨_,rfl⟩:=fJ.mp ms
      rw [hm,List.append_nil] at mh
      exact absurd hn' mh
    ·rintro σ H7 ⟨x7,x8,mo,rfl,S7,e17,e27,e37,hg7,h7,gr7,cl7⟩
     refine ⟨_,_,_,_,_,_,_,_,_,_,mo,rfl,S7,hg7,h7,gr7,fun hm s ms=>?_⟩
     obtain ⟨p1,p2,p3⟩:=cl7 hm
     rw [etake] at ms
     unfold aW at ms
     rw [List.flatMap_append] at ms
     rcases List.mem_append.mp ms with m | m
     ·exact p1 s m
     ·rw [List.flatMap_cons,List.flatMap_nil,List.append_nil] at m
      rcases List.mem_append.mp m with m | m
      ·exact p2 (by show 0 < 2;omega) s m
      ·exact p3 (by show 1 < 2;omega) s m
   ·rintro σ H5 ⟨w5,w6,w7,w10,w11,w12,w13,w14,w15,w16,more,rfl,S5,hg5,h5,gr5,cl5⟩
    rw [List.take_of_length_le (by omega)] at cl5
    have lm:(zs ++ more).length ≤ 13:=Nat.le_trans (pM gr5.nd gr5.sub) (by rw [List.length_cons,List.length_map];omega)
    refine ⟨⟨zs.length,zs ++ more,_,_,_,_,_,_,_,_,_,_,rfl,S5,hg5,h5,by rw [List.length_append];omega,gr5,fun e=>?_⟩,?_⟩
    ·have em:more = []:=by
      rw [List.length_append] at e
      exact List.eq_nil_of_length_eq_zero (by omega)
     have:=cl5 em
     rw [em,List.append_nil]
     exact this
    ·show 14 - (zs.length:Int).toNat < 14 - (k:Int).toNat
     omega
  ·have hk1:k = zs.length:=by
    by_cases h:k < zs.length
    ·exact absurd (decide_eq_true (by omega)) c1
    ·omega
   exact ⟨_,rfl,q dc zs H4 S4 hdc0 h4 (zT gr (cl hk1))⟩
 ·intro σ H Q Q' h hc
  obtain ⟨v,e,p,kvs,e3,hq,w,e4,i,j,e5,e6,k,e7,q⟩:=hc
  exact ⟨v,e,p,kvs,e3,hq,w,e4,i,j,e5,e6,k,e7,h _ _ q⟩
open Mt22 MtF
def lvl (lo:Mt22.Lo) (ls:List Int):Mt22.Lo:=fun z=>match lo z with
 | some c=>ls.find? fun L=>decide (c ≤ L)
 | none=>none
theorem aBX {lo:Mt22.Lo} {ls:List Int} {L:Int} {z:Str}:lvl lo (ls ++ [L]) z = match lvl lo ls z with | some x=>some x | none=>(match lo z with | some c=>if c ≤ L then some L else none | none=>none):=by
 unfold lvl
 cases lo z with
 | none=>rfl
 | some c =>
  dsimp only
  rw [List.find?_append]
  cases ls.find? fun L=>decide (c ≤ L) with
  | some x=>rfl
  | none =>
   show ([L].find? fun L=>decide (c ≤ L)) = _
   by_cases h:c ≤ L
   ·rw [if_pos h,List.find?_cons,decide_eq_true h]
   ·rw [if_neg h,List.find?_cons,decide_eq_false h]
    rfl
theorem mZ {c:Int}:∀ {ls:List Int},ls.Pairwise (· ≤ ·) → c ∈ ls → ls.find? (fun L=>decide (c ≤ L)) = some c
 | [],_,m=>by cases m
 | x :: ls,h,m=>by
  rw [List.pairwise_cons] at h
  rw [List.find?_cons]
  rcases List.mem_cons.mp m with e | m
  ·subst e
   rw [decide_eq_true (Int.le_refl _)]
  ·have:=h.1 c m
   by_cases q:c ≤ x
   ·rw [decide_eq_true q]
    exact congrArg some (by omega)
   ·rw [decide_eq_false q]
    exact mZ h.2 m
theorem aDW {lo:Mt22.Lo} {ls:List Int} (h:ls.Pairwise (· ≤ ·)) {z:Str} (m:∀ c,lo z = some c → c ∈ ls):lvl lo ls z = lo z:=by
 unfold lvl
 cases e:lo z with
 | none=>rfl
 | some c=>exact mZ h (m c e)
theorem aDA {S:List Mt22.St} (hl:∀ s ∈ S,-1000000 ≤ s.h) {k:Nat} {z:Str} {b:Int} (w:Walk S k z b):b = -1000000 ∧ k = 0 ∨ ∃ s ∈ S,s.h = b:=by
 induction w with
 | sea=>exact .inl ⟨rfl,rfl⟩
 | @step k a s w m ih =>
  have h0:=hl s m
  refine .inr ?_
  rcases ih with ⟨rfl,_⟩ | ⟨s',m',rfl⟩
  ·exact ⟨s,m,by omega⟩
  ·by_cases q:s'.h ≤ s.h
   ·exact ⟨s,m,by omega⟩
   ·exact ⟨s',m',by omega⟩
theorem pU {fs:List Dv} {m m':Mt22.Lo} (h:∀ z ∈ fs.map aJ,m z = m' z):cP fs m = cP fs m':=by
 unfold cP
 refine List.map_congr_left fun d md=>?_
 rw [h _ (List.mem_map.mpr ⟨d,md,rfl⟩)]
theorem xI {fs:List Dv} (nd:(fs.map aJ).Nodup) (m:Mt22.Lo) {z:Str} (h:z ∈ fs.map aJ):dC (cP fs m) (Sum.inr z) = some (lL (m z)):=by
 obtain ⟨d,md,rfl⟩:=List.mem_map.mp h
 exact gL (f:=fun d=>lL (m (aJ d))) nd md
theorem aFT {fs:List Dv} (nd:(fs.map aJ).Nodup) (m:Mt22.Lo) {z:Str} (h:z ∈ fs.map aJ) (L:Int):gT (cP fs m) (Sum.inr z) (.int L) = cP fs (fun y=>if y = z then some L else m y):=by
 unfold gT
 rw [if_pos (by rw [fR,xI nd m h];rfl)]
 unfold cP
 rw [List.map_map]
 refine List.map_congr_left fun d _=>?_
 show (if (Sum.inr (aJ d):Key) = Sum.inr z then ((Sum.inr (aJ d):Key),V.int L) else (Sum.inr (aJ d),lL (m (aJ d)))) = _
 by_cases e:aJ d = z
 ·rw [if_pos (congrArg Sum.inr e)]
  show _ = ((Sum.inr (aJ d):Key),lL (if aJ d = z then some L else m (aJ d)))
  rw [if_pos e]
  rfl
 ·rw [if_neg (fun c=>e (Sum.inr.inj c))]
  show _ = ((Sum.inr (aJ d):Key),lL (if aJ d = z then some L else m (aJ d)))
  rw [if_neg e]
theorem yQ:∀ l:List Key,(∀ k ∈ l,∃ n,k = Sum.inl n) → ∃ ms:List Int,l = ms.map Sum.inl
 | [],_=>⟨[],rfl⟩
 | k :: l,h=>by
  obtain ⟨n,rfl⟩:=h k List.mem_cons_self
  obtain ⟨ms,rfl⟩:=yQ l fun k m=>h k (List.mem_cons_of_mem _ m)
  exact ⟨n :: ms,rfl⟩
theorem aEF (ns:List Int):∃ ms:List Int,jS (ns.map Sum.inl) = ms.map Sum.inl ∧ ms.length ≤ ns.length ∧ ∀ n,n ∈ ms ↔ n ∈ ns:=by
 have mem:∀ k,k ∈ jS (ns.map Sum.inl) ↔ k ∈ (ns.map (Sum.inl:Int → Key)):=fun k=>by
  unfold jS
  rw [pH]
  constructor
  ·rintro ⟨j,hj,rfl⟩
   rw [List.getD_eq_getElem?_getD,List.getElem?_eq_getElem hj]
   exact List.getElem_mem hj
  ·intro m
   obtain ⟨j,hj,rfl⟩:=List.getElem_of_mem m
   exact ⟨j,hj,by rw [List.getD_eq_getElem?_getD,List.getElem?_eq_getElem hj];rfl⟩
 obtain ⟨ms,e⟩:=yQ (jS (ns.map Sum.inl)) fun k m=>by
  obtain ⟨n,_,rfl⟩:=List.mem_map.mp ((mem k).mp m)
  exact ⟨n,rfl⟩
 refine ⟨ms,e,?_,fun n=>?_⟩
 ·have:=yN (ns.map (Sum.inl:Int → Key))
  rw [e,List.length_map,List.length_map] at this
  exact this
 ·have:=mem (Sum.inl n)
  rw [e] at this
  rw [List.mem_map,List.mem_map] at this
  constructor
  ·intro h
   obtain ⟨x,mx,ex⟩:=this.mp ⟨n,h,rfl⟩
   cases ex
   exact mx
  ·intro h
   obtain ⟨x,mx,ex⟩:=this.mpr ⟨n,h,rfl⟩
   cases ex
   exact mx
theorem aCI {t:Hp → Prop} {H0:Hp} (A:Hp → Prop) (h0:A H0) (h:∀ H,A H → t H):t H0:=h H0 h0
def rD (K:PySem.W.Frag):Sp:=sp3 fun x y z H Q=>∃ (a b dh:Addr) (vf vd:List V) (fs ds:List Dv) (op:List Str),x = .ref a ∧ y = .ref b ∧ z = .ref dh ∧ H a = some (.lst vf) ∧ IsL H fs vf ∧ GoodF fs ∧ H b = some (.lst vd) ∧ IsL H ds vd ∧ GoodD ("sea" :: fs.map aJ) ds ∧ H dh = some (.dK (fS op ds)) ∧
 ∀ (d:Addr) (H':Hp),aM H H' → H d = none → H' d = some (.dK (cP fs (flo fs ds op))) → Q (.ref d) H'
theorem vG (T:Txt K mg C):Fc P w K mg base 2 "_law_floods" ["_law_fields_here","_law_dykes_here","_law_stands_now"] (rD K):=by
 have G_l_come_to:Fc P w K mg base 1 "_law_come_to" ["_law_fields_here","_law_dykes_here","_law_stands_now","_law_level"] (uP K):=tH T
 refine T.d_l_floods.fc cV aDY (fun f cdv A outer s H vs Q E hr h=>?_)
 obtain ⟨x,y,z,rfl,a,b,dh,vf,vd,fs,ds,op,rfl,rfl,rfl,ha,hif,gf,hb,hid,gd,hdh,q⟩:=h
 have big:=cR
 have hu:=pP hr
 have lvf:=hif.length
 have lvd:=hid.length
 have f2:=gf.l2
 have d2:=gd.l2
 refine ⟨_,(@aG _ _ _ _ _ (@aX _ _ (3) _ _ _ _ cV.nd rfl (Or.inl rfl) oX (by rfl) (by trivial)) (@aG _ _ _ _ _ (@dZ _ _ _ _ _ _ _ _ PassesOwn.never rfl (@bU _ _ _ _ (pv 0)) (@fH _ _ _ _ _ _ rfl (@aQ _ _ _ _ _ (@aL _ _ (4) _ cV.nd rfl (Or.inl rfl) (by trivial)) (@aQ _ _ _ _ _ (@aL _ _ (5) _ cV.nd rfl (Or.inl rfl) (by trivial)) (@aQ _ _ _ _ _ (@aL _ _ (6) _ cV.nd rfl (Or.inl rfl) (by trivial)) dX (by rfl)) (by rfl)) (by rfl)) (by rfl) (by rfl)) (@aH _ _ _ (@kA _ _ _ _ _ _ _ _ _ hu (pv 3) (pv 4) jI rfl)) (by intro _;rfl)) (@aG _ _ _ _ _ (@aX _ _ (7) _ _ _ _ cV.nd rfl (Or.inl rfl) (@aV _ _ _ _ _ _ _ _ _ (@nQ _ rfl) rfl T.n_sorted tY (@aA _ _ _ _ _ (@cG _ _ _ _ _ _ _ _ _ (@qF _ rfl) rfl T.n_set sF (@aA _ _ _ _ _ (@aK _ _ _ _ _ _ _ _ tE (@cG _ _ _ _ _ _ _ _ _ (@iM _ rfl) rfl T.n_list dA (@aA _ _ _ _ _ (@aBS _ _ _ _ _ _ _ _ _ PySem.F.plainAttrs_dict PySem.F.slot_dict_values PySem.F.type_dict_values rQ (pv 2) (by rfl) (by rfl)) aF (by rfl)) (by decide) (by decide) (by rfl) (by rfl)) (@dI _ _ _ _ _ _ _ _ _ _ _ ["_law_name","_law_height","_law_dues"] 3 [] rfl (@bU _ _ _ _ (pv 0)) (fun R=>@aDM _ _ _ _ _ (3) (K) rfl rfl (@aQ _ _ _ _ _ (@aL _ _ (0) _ (show List.Nodup (["_law_name","_law_height","_law_dues"]:List Str) by decide +kernel) rfl (Or.inl rfl) (by trivial)) (@aQ _ _ _ _ _ (@aL _ _ (1) _ (show List.Nodup (["_law_name","_law_height","_law_dues"]:List Str) by decide +kernel) rfl (Or.inl rfl) (by trivial)) (@aQ _ _ _ _ _ (@aL _ _ (2) _ (show List.Nodup (["_law_name","_law_height","_law_dues"]:List Str) by decide +kernel) rfl (Or.inl rfl) (by trivial)) dX (by rfl)) (by rfl)) (by rfl)) (by rfl) (by rfl)) (@zV _ _ _ _ (@jO _ _ _ (by decide) (@jO _ _ _ (by decide) (@jO _ _ _ (by decide) xF)))) (fun R=>cY) (fun R=>(pv 1)) (by rfl) (by rfl) (by rfl) (by rfl) (by rfl) (by rfl) (by rfl) (by intro _;rfl))) aF (by rfl)) (by decide) (by decide) (by rfl) (by rfl)) aF (by rfl)) (by decide) (by decide) (by rfl) (by rfl)) (by rfl) (by trivial)) (@aG _ _ _ _ _ (@dZ _ _ _ _ _ _ _ _ PassesOwn.never rfl (@bU _ _ _ _ (pv 7)) (@aL _ _ (8) _ cV.nd rfl (Or.inl rfl) (by trivial)) (@aG _ _ _ _ _ (@aX _ _ (9) _ _ _ _ cV.nd rfl (Or.inl rfl) (@cF _ _ _ _ _ _ _ _ _ _ G_l_come_to (hr.mono (by decide)) (@aA _ _ _ _ _ (pv 0) (@aA _ _ _ _ _ (pv 1) (@aA _ _ _ _ _ (pv 2) (@aA _ _ _ _ _ (pv 8) aF (by rfl)) (by rfl)) (by rfl)) (by rfl)) (by rfl) (by decide) (by rfl) (by rfl)) (by rfl) (by trivial)) (@aH _ _ _ (@dZ _ _ _ _ _ _ _ _ PassesOwn.never rfl (@bU _ _ _ _ (@cG _ _ _ _ _ _ _ _ _ (@fB _ rfl) rfl T.n_list dA (@aA _ _ _ _ _ (pv 3) aF (by rfl)) (by decide) (by decide) (by rfl) (by rfl))) (@aL _ _ (4) _ cV.nd rfl (Or.inl rfl) (by trivial)) (@aH _ _ _ (@dY _ _ _ _ _ _ _ _ (@PW.pt _ _ _ (@oT _ _ _ _ _ _ _ (@bT _ _ _ _ _ _ _ _ wT (@eN _ _ _ _ _ _ hu (pv 3) (pv 4) (fun _ _=>rfl)) jI (@bV _ _ (by decide) (by decide))) (@nV _ _ _ _ (@wM _ _ _ _ _ _ (@wR _ _ _ _ _ hu (pv 4) (pv 9)) (by first | exact nobehind _ (by decide) (by decide) | rfl))))) (@aH _ _ _ (@kA _ _ _ _ _ _ _ _ _ hu (pv 3) (pv 4) (pv 8) rfl)) cA)) (by intro _;rfl)))) (by intro _;rfl)) (@aH _ _ _ (@aY _ _ _ _ (pv 3))))))),?_⟩
 refine fun dd hdd=>?_
 have S1:=aM.upd (o:=.dK []) hdd
 have h1:upd H dd (.dK []) dd = some (.dK (cP (fs.take 0) (fun _=>none))):=aD
 generalize upd H dd (.dK []) = H1 at S1 h1
 refine ⟨_,rfl,a,rfl,⟨_,SqL.of (S1 _ _ ha)⟩,eI (K:=K) (a:=a) (xs:=vf)
  (fun i σ H'=>∃ v4 v5 v6:Option V,σ = [some (.ref a),some (.ref b),some (.ref dh),some (.ref dd),v4,v5,v6,none,none,none] ∧ aM H H' ∧ H' dd = some (.dK (cP (fs.take i) (fun _=>none))))
  ⟨_,_,_,rfl,S1,h1⟩ (fun i σ H' _ ⟨_,_,_,_,S',_⟩=>SqL.of (S' _ _ ha)) ?_ ?_⟩
 ·rintro i xv σ H2 hi ⟨v6,v7,v8,rfl,S2,hd2⟩
  have hil:i < vf.length:=(List.getElem?_eq_some_iff.mp hi).1
  obtain ⟨d,ed⟩:∃ d,fs[i]? = some d:=⟨_,List.getElem?_eq_getElem (by omega)⟩
  obtain ⟨v,ev,iv⟩:=hif.get ed
  rw [hi] at ev
  cases ev
  have knew:dC (cP (fs.take i) (fun _=>none)) (Sum.inr (aJ d)) = none:=by
   cases e:dC (cP (fs.take i) (fun _=>none)) (Sum.inr (aJ d)) with
   | none=>rfl
   | some v =>
    have:=sM e
    obtain ⟨p,mp,ep⟩:=List.mem_map.mp this
    obtain ⟨e2,me2,rfl⟩:=List.mem_map.mp mp
    have enm:aJ e2 = aJ d:=Sum.inr.inj ep
    have h3:((fs.take (i + 1)).map aJ).Nodup:=by
     rw [List.map_take]
     exact List.Nodup.sublist (List.take_sublist _ _) gf.nd
    rw [List.take_add_one,ed,List.map_append,List.nodup_append] at h3
    exact absurd enm (h3.2.2 _ (List.mem_map.mpr ⟨e2,me2,rfl⟩) _ (List.mem_singleton.mpr rfl))
  have ek:cP (fs.take (i + 1)) (fun _=>none) = cP (fs.take i) (fun _=>none) ++ [(Sum.inr (aJ d),V.non)]:=by
   unfold cP
   rw [List.take_add_one,ed,List.map_append]
   rfl
  have lk:(cP (fs.take i) (fun _=>none)).length < sizeLine:=by
   unfold cP
   rw [List.length_map,List.length_take]
   omega
  obtain ⟨zz,g,e,rfl,_⟩:=bK (gf.all d (List.mem_of_getElem? ed))
  obtain ⟨t,rfl,o⟩:=fL iv
  refine ⟨t,_,rfl,SqT.of (S2 _ _ o),rfl,_,_,rfl,_,_,rfl,_,_,rfl,rfl,?_⟩
  refine ⟨_,rfl,_,rfl,dd,_,rfl,.inl ⟨_,Sum.inr zz,hd2,rfl,lk,rfl⟩,?_⟩
  refine ⟨_,_,_,rfl,S2.over hdd,?_⟩
  have knew':dC (cP (fs.take i) (fun _=>none)) (Sum.inr zz) = none:=knew
  rw [aD,lJ _ knew',ek]
  rfl
 rintro σ H2 ⟨v4,v5,v6,rfl,S2,hd2⟩
 rw [List.take_of_length_le (by omega)] at hd2
 have hdh2:=S2 _ _ hdh
 refine ⟨_,rfl,.inr (.inr (.inl ⟨rfl,.inl ⟨_,hdh2⟩⟩)),dh,_,rfl,rfl,.inl hdh2,fun v1 h1=>?_⟩
 have A1:=aM.upd (o:=nF v1 dh) h1
 refine ⟨v1,dh,_,rfl,aD,.inl (A1 _ _ hdh2),fun l4 n4=>?_⟩
 have evals:(fS op ds).map (·.2) = (ds.map (bF op)).map V.int:=by
  unfold fS
  rw [List.map_map,List.map_map]
  rfl
 rw [evals]
 have A2:=aM.upd (o:=.lst ((ds.map (bF op)).map V.int)) n4
 have e4:upd (upd H2 v1 (nF v1 dh)) l4 (.lst ((ds.map (bF op)).map V.int)) l4 = some (.lst ((ds.map (bF op)).map V.int)):=aD
 have S4:=S2.trans (A1.trans A2)
 have hd4:=(A1.trans A2) _ _ hd2
 generalize upd (upd H2 v1 (nF v1 dh)) l4 (.lst ((ds.map (bF op)).map V.int)) = H4 at e4 S4 hd4
 refine ⟨_,rfl,a,rfl,⟨_,SqL.of (S4 _ _ ha)⟩,?_⟩
 refine cO (F:=K) (xs:=vf) (by omega) (fun i ys H'=>aM H4 H' ∧ ys = ((fs.take i).map bP).map V.int) ⟨aM.refl _,rfl⟩ ?_ ?_ ?_
 ·rintro i ys H' hi' ⟨S',rfl⟩
  exact ⟨SqL.of ((S4.trans S') _ _ ha),by rw [List.length_map,List.length_map,List.length_take];omega⟩
 ·rintro i xv ys H' K1 K2 hx' ⟨S',rfl⟩ k1 k2
  have hil:=(List.getElem?_eq_some_iff.mp hx').1
  obtain ⟨d,ed⟩:∃ d,fs[i]? = some d:=⟨_,List.getElem?_eq_getElem (by omega)⟩
  obtain ⟨v,ev,iv⟩:=hif.get ed
  rw [hx'] at ev
  cases ev
  have ek:((fs.take (i + 1)).map bP).map V.int = ((fs.take i).map bP).map V.int ++ [V.int (bP d)]:=by
   rw [List.take_add_one,ed,List.map_append,List.map_append]
   rfl
  obtain ⟨zz,g,e,rfl,_⟩:=bK (gf.all d (List.mem_of_getElem? ed))
  obtain ⟨t,rfl,o⟩:=fL iv
  refine ⟨t,_,rfl,SqT.of ((S4.trans S') _ _ o),rfl,_,_,rfl,_,_,rfl,_,_,rfl,rfl,?_⟩
  refine ⟨_,rfl,k1 _ _ ⟨S',?_⟩⟩
  rw [ek]
  rfl
 rintro ys H5 ⟨S5,rfl⟩
 rw [List.take_of_length_le (by omega)]
 intro l5 n5
 have A5:=aM.upd (o:=.lst ((fs.map bP).map V.int)) n5
 refine ⟨l4,l5,_,_,rfl,rfl,(S5.trans A5) _ _ e4,aD,by rw [List.length_map,List.length_map,List.length_map,List.length_map];omega,fun l6 n6=>?_⟩
 have ecat:(ds.map (bF op)).map V.int ++ (fs.map bP).map V.int = ((ds.map (bF op) ++ fs.map bP).map (Sum.inl:Int → Key)).map kV:=by
  rw [← List.map_append,List.map_map]
  rfl
 rw [ecat]
 have A6:=aM.upd (o:=.lst (((ds.map (bF op) ++ fs.map bP).map (Sum.inl:Int → Key)).map kV)) n6
 have lall:(ds.map (bF op) ++ fs.map bP).length ≤ 52:=by rw [List.length_append,List.length_map,List.length_map];omega
 obtain ⟨ms,ems,lms,mms⟩:=aEF (ds.map (bF op) ++ fs.map bP)
 refine ⟨l6,_,rfl,SqL.of aD,by rw [List.length_map];omega,fun l7 n7=>?_⟩
 rw [ems]
 refine ⟨l7,ms,rfl,aD,by omega,fun l8 ls pls sls n8=>?_⟩
 refine aCI (fun H8=>aM H H8 ∧ H8 l8 = some (.lst (ls.map V.int)) ∧ H8 dd = some (.dK (cP fs fun _=>none))) ⟨S4.trans (S5.trans (A5.trans (A6.trans ((aM.upd n7).trans (aM.upd n8))))),aD,(S5.trans (A5.trans (A6.trans ((aM.upd n7).trans (aM.upd n8))))) _ _ hd4⟩ fun H8 ⟨S8,e8,hd8⟩=>?_
 have mls:∀ n,n ∈ ls ↔ n ∈ ds.map (bF op) ++ fs.map bP:=fun n=>pls.mem_iff.trans (mms n)
 have lls:ls.length ≤ 52:=by rw [pls.length_eq];omega
 have hlow:∀ s ∈ aW fs ds op,-1000000 ≤ s.h:=by
  intro s m
  have fm:=tS gd m
  obtain ⟨d,md,ed⟩:=List.mem_map.mp fm
  have gl:-1000000 ≤ bP d:=by
   obtain ⟨zz,g,e,rfl,_,hg,_⟩:=bK (gf.all d md)
   unfold hgt at hg
   rw [Bool.and_eq_true] at hg
   exact of_decide_eq_true hg.1
  have ge:bY fs s.far = bP d:=by rw [← ed];exact kF gf.nd md
  obtain ⟨d',m',h | h⟩:=mD.mp m
  ·obtain ⟨_,rfl⟩:=h
   dsimp only at ge ⊢
   omega
  ·obtain ⟨_,rfl⟩:=h
   dsimp only at ge ⊢
   omega
 have flood:=zY (op:=op) gd
 have hz:∀ z ∈ fs.map aJ,z ≠ Mt22.sea:=fun z m e=>by
  obtain ⟨d,md,rfl⟩:=List.mem_map.mp m
  obtain ⟨zz,g,e',rfl,hn,_⟩:=bK (gf.all d md)
  have e2:zz = "sea":=e
  unfold dN at hn
  rw [decide_eq_true e2] at hn
  simp at hn
 have come:∀ z ∈ fs.map aJ,∀ L,Come (aW fs ds op) (L + 1) z ↔ ∃ c,flo fs ds op z = some c ∧ c ≤ L:=fun z m L=>by
  rw [aCV flood hlow (hz z m)]
  constructor
  ·rintro ⟨c,e,l⟩;exact ⟨c,e,by omega⟩
  ·rintro ⟨c,e,l⟩;exact ⟨c,e,by omega⟩
 have inl:∀ z ∈ fs.map aJ,∀ c,flo fs ds op z = some c → c ∈ ls:=fun z m c e=>by
  rw [mls]
  obtain ⟨k,w'⟩:=flood.att _ _ e
  rcases aDA hlow w' with ⟨rfl,rfl⟩ | ⟨s,ms,rfl⟩
  ·cases w'
   exact absurd rfl (hz _ m)
  ·have fm:=tS gd ms
   obtain ⟨d,md,ed⟩:=List.mem_map.mp fm
   have ge:bY fs s.far = bP d:=by rw [← ed];exact kF gf.nd md
   have both:∀ (x y:Int),x ∈ ds.map (bF op) → y ∈ fs.map bP → max x y ∈ ds.map (bF op) ++ fs.map bP:=fun x y hx hy=>by
    by_cases q:x ≤ y
    ·rw [Int.max_eq_right q];exact List.mem_append_right _ hy
    ·rw [Int.max_eq_left (by omega)];exact List.mem_append_left _ hx
   have gm:bP d ∈ fs.map bP:=List.mem_map.mpr ⟨d,md,rfl⟩
   obtain ⟨d',m',h | h⟩:=mD.mp ms
   ·obtain ⟨_,rfl⟩:=h
    dsimp only at ge ⊢
    rw [ge]
    exact both _ _ (List.mem_map.mpr ⟨d',m',rfl⟩) gm
   ·obtain ⟨_,rfl⟩:=h
    dsimp only at ge ⊢
    rw [ge]
    exact both _ _ (List.mem_map.mpr ⟨d',m',rfl⟩) gm
 refine ⟨_,rfl,l8,rfl,⟨_,SqL.of e8⟩,eI (K:=K) (a:=l8) (xs:=ls.map V.int)
  (fun i σ H'=>∃ (v4 v8 v9:Option V),σ = [some (.ref a),some (.ref b),some (.ref dh),some (.ref dd),v4,v5,v6,some (.ref l8),v8,v9] ∧ aM H H' ∧ H' l8 = some (.lst (ls.map V.int)) ∧ H' dd = some (.dK (cP fs (lvl (flo fs ds op) (ls.take i)))))
  ⟨_,_,_,rfl,S8,e8,?_⟩ (fun i σ H' _ ⟨_,_,_,_,_,e,_⟩=>SqL.of e) ?_ ?_⟩
 ·rw [hd8]
  refine congrArg (fun x=>some (HO.dK x)) (pU fun z _=>?_)
  unfold lvl
  cases flo fs ds op z <;> rfl
 ·rintro i xv σ H9 hi ⟨w4,w8,w9,rfl,S9,e9,hd9⟩
  have hil:=(List.getElem?_eq_some_iff.mp hi).1
  rw [List.length_map] at hil
  obtain ⟨L,eL⟩:∃ L,ls[i]? = some L:=⟨_,List.getElem?_eq_getElem hil⟩
  rw [List.getElem?_map,eL] at hi
  cases hi
  have etake:ls.take (i + 1) = ls.take i ++ [L]:=by rw [List.take_add_one,eL];rfl
  refine ⟨_,rfl,_,rfl,_,rfl,_,rfl,_,_,_,_,rfl,a,b,dh,vf,vd,fs,ds,op,L,rfl,rfl,rfl,rfl,S9 _ _ ha,IsL.same S9 _ _ hif,gf,S9 _ _ hb,IsL.same S9 _ _ hid,gd,S9 _ _ hdh,fun dc zs H10 S10 ndc hdc czs=>?_⟩
  have hd10:=S10 _ _ hd9
  have S10':=S9.trans S10
  refine ⟨_,rfl,dd,_,rfl,.inl hd10,fun l11 n11=>?_⟩
  have ekeys:(cP fs (lvl (flo fs ds op) (ls.take i))).map (fun kv=>kV kv.1) = (fs.map aJ).map V.str:=by
   unfold cP
   rw [List.map_map,List.map_map]
   rfl
  rw [ekeys]
  have A11:=aM.upd (o:=.lst ((fs.map aJ).map V.str)) n11
  have hl11:upd H10 l11 (.lst ((fs.map aJ).map V.str)) l11 = some (.lst ((fs.map aJ).map V.str)):=aD
  have hd11:=A11 _ _ hd10
  have hdc11:=A11 _ _ hdc
  have S11:=S10'.trans A11
  have e11:=(S10.trans A11) _ _ e9
  have n8d:l8 ≠ dd:=fun e=>by rw [e] at e9;rw [hd9] at e9;cases e9
  have n11d:l11 ≠ dd:=fun e=>by rw [e,hd10] at n11;cases n11
  have ncd:dc ≠ dd:=fun e=>by rw [e,hd9] at ndc;cases ndc
  generalize upd H10 l11 (.lst ((fs.map aJ).map V.str)) = H11 at hl11 hd11 hdc11 S11 e11
  refine ⟨l11,rfl,⟨_,SqL.of hl11⟩,eI (K:=K) (a:=l11) (xs:=(fs.map aJ).map V.str)
   (fun j σ H'=>∃ (v4:Option V) (m:Mt22.Lo),σ = [some (.ref a),some (.ref b),some (.ref dh),some (.ref dd),v4,v5,v6,some (.ref l8),some (.int L),some (.ref dc)] ∧ aM H H' ∧ H' l8 = some (.lst (ls.map V.int)) ∧ H' l11 = some (.lst ((fs.map aJ).map V.str)) ∧ H' dc = some (.dK (iV zs)) ∧ H' dd = some (.dK (cP fs m)) ∧ (∀ z,z ∈ (fs.map aJ).take j → m z = lvl (flo fs ds op) (ls.take (i + 1)) z) ∧ (∀ z,¬ z ∈ (fs.map aJ).take j → m z = lvl (flo fs ds op) (ls.take i) z))
   ⟨_,_,rfl,S11,e11,hl11,hdc11,hd11,(fun z m=>by cases m),(fun z _=>rfl)⟩ (fun j σ H' _ ⟨_,_,_,_,_,e,_⟩=>SqL.of e) ?_ ?_⟩
  ·rintro j yv σ H12 hj ⟨x4,m,rfl,S12,e12,l12,hdc12,hd12,m1,m2⟩
   have hjl:=(List.getElem?_eq_some_iff.mp hj).1
   rw [List.length_map] at hjl
   obtain ⟨z,ez⟩:∃ z,(fs.map aJ)[j]? = some z:=⟨_,List.getElem?_eq_getElem hjl⟩
   rw [List.getElem?_map,ez] at hj
   cases hj
   have mz:=List.mem_of_getElem? ez
   have tz:(fs.map aJ).take (j + 1) = (fs.map aJ).take j ++ [z]:=by rw [List.take_add_one,ez];rfl
   have nz:¬ z ∈ (fs.map aJ).take j:=fun q=>by
    have h3:((fs.map aJ).take (j + 1)).Nodup:=List.Nodup.sublist (List.take_sublist _ _) gf.nd
    rw [tz,List.nodup_append] at h3
    exact h3.2.2 _ q _ (List.mem_singleton.mpr rfl) rfl
   have mz0:=m2 z nz
   have up:∀ m':Mt22.Lo,(∀ y,y ≠ z → m' y = m y) → m' z = lvl (flo fs ds op) (ls.take (i + 1)) z → (∀ y,y ∈ (fs.map aJ).take (j + 1) → m' y = lvl (flo fs ds op) (ls.take (i + 1)) y) ∧ (∀ y,¬ y ∈ (fs.map aJ).take (j + 1) → m' y = lvl (flo fs ds op) (ls.take i) y):=fun m' h1 h2=>by
    rw [tz]
    constructor
    ·intro y my
     by_cases e:y = z
     ·rw [e];exact h2
     ·rw [h1 y e]
      exact m1 y ((List.mem_append.mp my).resolve_right fun q=>e (List.mem_singleton.mp q))
    ·intro y my
     rw [h1 y (fun e=>my (List.mem_append_right _ (List.mem_singleton.mpr e)))]
     exact m2 y (fun q=>my (List.mem_append_left _ q))
   have esn:lvl (flo fs ds op) (ls.take (i + 1)) z = match lvl (flo fs ds op) (ls.take i) z with | some x=>some x | none=>(match flo fs ds op z with | some c=>if c ≤ L then some L else none | none=>none):=by rw [etake];exact aBX
   refine ⟨_,rfl,_,rfl,dd,_,rfl,.inl ⟨_,Sum.inr z,.inl hd12,rfl,(xI gf.nd m mz).symm⟩,?_⟩
   refine ⟨rfl,_,rfl,?_⟩
   cases em:m z with
   | some x =>
    rw [decide_eq_false (show ¬ lL (some x) = V.non from fun c=>by cases c)]
    refine cN ?_
    have hm:=up m (fun _ _=>rfl) (by rw [esn,← mz0,em])
    exact ⟨_,m,rfl,S12,e12,l12,hdc12,hd12,hm.1,hm.2⟩
   | none =>
    rw [decide_eq_true (show lL none = V.non from rfl)]
    refine gK ?_
    refine ⟨_,rfl,_,rfl,dc,_,rfl,.inl ⟨_,Sum.inr z,.inl hdc12,rfl,rfl⟩,_,rfl,?_⟩
    rw [qC]
    have cz:=(czs z).trans (come z mz L)
    by_cases hc:z ∈ zs
    ·rw [if_pos hc]
     refine gK ?_
     obtain ⟨c,ec,lc⟩:=cz.mp hc
     have lk:(cP fs m).length < sizeLine:=by
      have:(cP fs m).length = fs.length:=List.length_map ..
      omega
     refine ⟨_,rfl,_,rfl,_,rfl,dd,_,rfl,.inl ⟨_,Sum.inr z,hd12,rfl,lk,rfl⟩,?_⟩
     rw [aFT gf.nd m mz L]
     have hm:=up (fun y=>if y = z then some L else m y) (fun y hy=>if_neg hy) (by rw [esn,← mz0,em,ec];dsimp only;rw [if_pos rfl,if_pos lc])
     refine ⟨_,_,rfl,S12.over hdd,?_,?_,?_,aD,hm.1,hm.2⟩
     ·rw [aO n8d];exact e12
     ·rw [aO n11d];exact l12
     ·rw [aO ncd];exact hdc12
    ·rw [if_neg hc]
     refine cN ?_
     have hm:=up m (fun _ _=>rfl) (by
      rw [esn,← mz0,em]
      dsimp only
      cases ec:flo fs ds op z with
      | none=>rfl
      | some c =>
       dsimp only
       rw [if_neg fun lc=>hc (cz.mpr ⟨c,ec,lc⟩)])
     exact ⟨_,m,rfl,S12,e12,l12,hdc12,hd12,hm.1,hm.2⟩
  ·rintro σ H12 ⟨x4,m,rfl,S12,e12,l12,hdc12,hd12,m1,m2⟩
   refine ⟨_,_,_,rfl,S12,e12,?_⟩
   rw [hd12]
   refine congrArg (fun x=>some (HO.dK x)) (pU fun z mz=>m1 z ?_)
   rw [List.length_map,List.take_of_length_le (Nat.le_refl _)]
   exact mz
 ·rintro σ H9 ⟨w4,w8,w9,rfl,S9,e9,hd9⟩
  rw [List.length_map,List.take_of_length_le (Nat.le_refl _)] at hd9
  refine ⟨_,rfl,q dd H9 S9 hdd ?_⟩
  rw [hd9]
  exact congrArg (fun x=>some (HO.dK x)) (pU fun z m=>aDW sls (inl z m))
open Mt22 MtF
theorem aFL {f:Addr} {fd:FuncData} (T:Txt K mg C) (F:Fun K "law" "law" jY f fd):FnOk P w K mg base CX0 12 f fd ["_law_script"] (xW K):=by
 have G_l_land:Fc P w K mg base 3 "_law_land" ["_law_script"] (xX K):=zM T
 have G_l_opened:Fc P w K mg base 2 "_law_opened" ["_law_script","_law_dykes_here"] (rC K):=vF T
 have G_l_stands:Fc P w K mg base 1 "_law_stands" ["_law_dykes_here","_law_opened_here"] (rB K):=vE T
 have G_l_floods:Fc P w K mg base 2 "_law_floods" ["_law_fields_here","_law_dykes_here","_law_stands_now"] (rD K):=vG T
 have G_p_flood_heights:Fc P w K mg base 5 "flood_heights" ["land","opened"] (xY C):=kU T
 have G_land_pinit:Ic P w K mg base 6 C ["self","fields","dykes"] (aAW C):=qP T
 refine F.ok eV kZ (fun cdv A outer s H vs Q E hr h=>?_)
 obtain ⟨x,rfl,a,ns,rfl,hS,hl,q⟩:=h
 have big:=cR
 have hu:=pP hr
 have scr:Scr K H (.ref a):=⟨a,ns,rfl,hS,hl⟩
 refine ⟨_,(@aG _ _ _ _ _ (@oV _ _ _ _ _ _ (@cF _ _ _ _ _ _ _ _ _ _ G_l_land (hr.mono (by decide)) (@aA _ _ _ _ _ (pv 0) aF (by rfl)) (by rfl) (by decide) (by rfl) (by rfl)) (@fH _ _ _ _ _ _ rfl (@aQ _ _ _ _ _ (@aL _ _ (1) _ eV.nd rfl (Or.inl rfl) (by trivial)) (@aQ _ _ _ _ _ (@aL _ _ (2) _ eV.nd rfl (Or.inl rfl) (by trivial)) dX (by rfl)) (by rfl)) (by rfl) (by rfl)) (by rfl) (by rfl) (by rfl)) (@aG _ _ _ _ _ (@aX _ _ (3) _ _ _ _ eV.nd rfl (Or.inl rfl) (@aGX _ _ _ _ _ _ _ _ _ _ _ T.mg_Land G_land_pinit (hr.mono (by decide)) (@aA _ _ _ _ _ (pv 1) (@aA _ _ _ _ _ (pv 2) aF (by rfl)) (by rfl)) (by rfl) (by decide) (by rfl) (by rfl)) (by rfl) (by trivial)) (@aG _ _ _ _ _ (@aX _ _ (4) _ _ _ _ eV.nd rfl (Or.inl rfl) (@cF _ _ _ _ _ _ _ _ _ _ G_l_opened (hr.mono (by decide)) (@aA _ _ _ _ _ (pv 0) (@aA _ _ _ _ _ (pv 2) aF (by rfl)) (by rfl)) (by rfl) (by decide) (by rfl) (by rfl)) (by rfl) (by trivial)) (@aG _ _ _ _ _ (@aX _ _ (5) _ _ _ _ eV.nd rfl (Or.inl rfl) (@cF _ _ _ _ _ _ _ _ _ _ G_l_floods (hr.mono (by decide)) (@aA _ _ _ _ _ (pv 1) (@aA _ _ _ _ _ (pv 2) (@aA _ _ _ _ _ (@cF _ _ _ _ _ _ _ _ _ _ G_l_stands (hr.mono (by decide)) (@aA _ _ _ _ _ (pv 2) (@aA _ _ _ _ _ (pv 4) aF (by rfl)) (by rfl)) (by rfl) (by decide) (by rfl) (by rfl)) aF (by rfl)) (by rfl)) (by rfl)) (by rfl) (by decide) (by rfl) (by rfl)) (by rfl) (by trivial)) (@aG _ _ _ _ _ (@aX _ _ (6) _ _ _ _ eV.nd rfl (Or.inl rfl) (@cG _ _ _ _ _ _ _ _ _ (@qW _ (K) rfl) rfl T.n_list dA (@aA _ _ _ _ _ (pv 4) aF (by rfl)) (by decide) (by decide) (by rfl) (by rfl)) (by rfl) (by trivial)) (@aG _ _ _ _ _ (@aX _ _ (7) _ _ _ _ eV.nd rfl (Or.inl rfl) (@cF _ _ _ _ _ _ _ _ _ _ G_p_flood_heights (hr.mono (by decide)) (@aA _ _ _ _ _ (pv 3) (@aA _ _ _ _ _ (pv 6) aF (by rfl)) (by rfl)) (by rfl) (by decide) (by rfl) (by rfl)) (by rfl) (by trivial)) (@aG _ _ _ _ _ (@dY _ _ _ _ _ _ _ _ (@PW.pt _ _ _ (@mS _ _ _ _ _ _ _ (@bT _ _ _ _ _ _ _ _ (@aBT _ hr.units) (pv 6) (pv 4) (@bV _ _ (by decide) (by decide))) (@mS _ _ _ _ _ _ _ (@gC _ _ _ _ (@gB _ _ _ (@aV _ _ _ _ _ _ _ _ _ (@cB _ (K) rfl) rfl T.n_isinstance bG (@aA _ _ _ _ _ (pv 7) (@aA _ _ _ _ _ (@kM _ _ _ _ T.n_dict hU (by rfl) (by decide) (by decide)) aF (by rfl)) (by rfl)) (by decide) (by decide) (by rfl) (by rfl)) (by intro _;rfl))) (@oS _ _ _ _ (@bT _ _ _ _ _ _ _ _ (@aBT _ hr.units) (@cG _ _ _ _ _ _ _ _ _ (@fB _ rfl) rfl T.n_list dA (@aA _ _ _ _ _ (pv 7) aF (by rfl)) (by decide) (by decide) (by rfl) (by rfl)) (@cG _ _ _ _ _ _ _ _ _ (@fB _ rfl) rfl T.n_list dA (@aA _ _ _ _ _ (pv 5) aF (by rfl)) (by decide) (by decide) (by rfl) (by rfl)) (@bV _ _ (by decide) (by decide))))))) (@aH _ _ _ (@aY _ _ _ _ mT)) cA) (@aG _ _ _ _ _ (@dZ _ _ _ _ _ _ _ _ PassesOwn.never rfl (@aDL _ _ _ _ (pv 5)) (@aL _ _ (8) _ eV.nd rfl (Or.inl rfl) (by trivial)) (@aH _ _ _ (@dY _ _ _ _ _ _ _ _ (@bT _ _ _ _ _ _ _ _ wT (@eN _ _ _ _ _ _ hu (pv 5) (pv 8) (fun _ _=>rfl)) jI (@bV _ _ (by decide) (by decide))) (@aH _ _ _ (@dY _ _ _ _ _ _ _ _ (@bT _ _ _ _ _ _ _ _ tD (@eN _ _ _ _ _ _ hu (pv 7) (pv 8) (fun _ _=>rfl)) jI (@bV _ _ (by decide) (by decide))) (@aH _ _ _ (@aY _ _ _ _ mT)) cA)) (@aH _ _ _ (@dY _ _ _ _ _ _ _ _ (@PW.pt _ _ _ (@mS _ _ _ _ _ _ _ (@bT _ _ _ _ _ _ _ _ vC (@eN _ _ _ _ _ _ hu (pv 7) (pv 8) (fun _ _=>rfl)) (@eN _ _ _ _ _ _ hu (pv 5) (pv 8) (fun _ _=>rfl)) (@bV _ _ (by decide) (by decide))) (@mS _ _ _ _ _ _ _ (@gC _ _ _ _ (@gB _ _ _ (@aV _ _ _ _ _ _ _ _ _ (@cB _ (K) rfl) rfl T.n_isinstance bG (@aA _ _ _ _ _ (@eN _ _ _ _ _ _ hu (pv 7) (pv 8) (fun _ _=>rfl)) (@aA _ _ _ _ _ (@kM _ _ _ _ T.n_int mP (by rfl) (by decide) (by decide)) aF (by rfl)) (by rfl)) (by decide) (by decide) (by rfl) (by rfl)) (by intro _;rfl))) (@oS _ _ _ _ (@gB _ _ _ (@aV _ _ _ _ _ _ _ _ _ (@cB _ (K) rfl) rfl T.n_isinstance bG (@aA _ _ _ _ _ (@eN _ _ _ _ _ _ hu (pv 7) (pv 8) (fun _ _=>rfl)) (@aA _ _ _ _ _ (@kM _ _ _ _ T.n_bool qH (by rfl) (by decide) (by decide)) aF (by rfl)) (by rfl)) (by decide) (by decide) (by rfl) (by rfl)) (by intro _;rfl)))))) (@aH _ _ _ (@aY _ _ _ _ mT)) cA)))) (by intro _;rfl)) (@aG _ _ _ _ _ (@jZ _ _ _ _ (aFH PySem.F.slot_dict_clear PySem.F.type_dict_clear zN (pv 7)) (by rfl)) (@aH _ _ _ (@aY _ _ _ _ (@fP _ _ _ _ _ _ _ _ (aFJ hr.units) (@cF _ _ _ _ _ _ _ _ _ _ G_p_flood_heights (hr.mono (by decide)) (@aA _ _ _ _ _ (pv 3) (@aA _ _ _ _ _ (pv 4) aF (by rfl)) (by rfl)) (by rfl) (by decide) (by rfl) (by rfl)) (pv 5) (@bV _ _ (by decide) (by decide)))))))))))))),?_⟩
 refine ⟨_,rfl,_,rfl,scr,fun t lf ld vf vd fs ds H1 S1 ht hf1 hif1 hd1 hid1 gf gd=>?_⟩
 refine ⟨t,_,rfl,SqT.of ht,rfl,_,_,rfl,_,_,rfl,rfl,?_⟩
 refine ⟨_,rfl,_,rfl,?_⟩
 intro p dx np ndx nex
 have S3':aM H1 (upd (upd H1 dx (.own p)) p (.ins C dx [])):=fun b o e=>by
  rw [aO (aS e np),aO (aS e ndx)]
  exact e
 have f2:=gf.l2
 have d2:=gd.l2
 have smf:small (.lst fs) = true:=rS (fun d m=>vQ (gf.all d m)) (by omega)
 have smd:small (.lst ds) = true:=rS (fun d m=>xK gf.all (gd.all d m)) (by omega)
 refine ⟨_,_,_,rfl,p,dx,fs,ds,rfl,aD,⟨lf,vf,rfl,S3' _ _ hf1,IsL.same S3' _ _ hif1⟩,⟨ld,vd,rfl,S3' _ _ hd1,IsL.same S3' _ _ hid1⟩,smf,smd,aAA gf (by decide),aCP gd (by decide),fun H3 L3 fr=>⟨rfl,?_⟩⟩
 have Z3:aM H1 H3:=fun b o e=>fr b o (S3' _ _ e) (aS e np)
 have GF:=(fY L3).1
 have GD:=(fY L3).2
 refine ⟨_,rfl,_,rfl,_,_,rfl,ld,vd,ds,_,scr.same (S1.trans Z3),rfl,Z3 _ _ hd1,IsL.same Z3 _ _ hid1,GD,fun lo op H4 S4 nlo hlo l80 sub=>?_⟩
 have Z4:=Z3.trans S4
 have L4:=L3.same S4
 refine ⟨_,rfl,_,rfl,_,rfl,_,rfl,_,_,rfl,ld,lo,vd,ds,_,op,rfl,rfl,Z4 _ _ hd1,IsL.same Z4 _ _ hid1,GD,hlo,sub,fun sd H5 S5 nsd hsd=>?_⟩
 have Z5:=Z4.trans S5
 refine ⟨_,_,_,rfl,lf,ld,sd,vf,vd,fs,ds,op,rfl,rfl,rfl,Z5 _ _ hf1,IsL.same Z5 _ _ hif1,GF,Z5 _ _ hd1,IsL.same Z5 _ _ hid1,GD,hsd,fun du H6 S6 ndu hdu=>?_⟩
 have T6:=S5.trans S6
 have ndu4:H4 du = none:=S5.free ndu
 refine ⟨_,rfl,lo,_,rfl,.inl (SqL.of (T6 _ _ hlo)),fun la hla=>?_⟩
 have A7:=aM.upd (o:=.lst (op.map V.str)) hla
 have hla7:upd H6 la (.lst (op.map V.str)) la = some (.lst (op.map V.str)):=aD
 have hdu7:=A7 _ _ hdu
 have T7:=T6.trans A7
 generalize upd H6 la (.lst (op.map V.str)) = H7 at hla7 hdu7 T7
 refine ⟨_,rfl,_,rfl,_,_,rfl,p,la,fs,ds,op,rfl,L4.same T7,rfl,hla7,by omega,sub,fun fd' H8 S8 nfd hfd=>?_⟩
 have T8:=T7.trans S8
 have nfd4:H4 fd' = none:=T7.free nfd
 have hdu8:=S8 _ _ hdu7
 have nfu:fd' ≠ du:=fun e=>by rw [e,hdu7] at nfd;cases nfd
 refine ⟨_,rfl,_,rfl,vJ (d:=.lst (op.map Dv.str)) (nU (S8 _ _ hla7)) (nU (T8 _ _ hlo)) (mY _) ⟨_,rfl,cN ?_⟩⟩
 refine ⟨_,rfl,_,_,_,_,_,rfl,rfl,.dK hfd,hE _ _,_,rfl,cN ?_⟩
 have ekeys:(cP fs (flo fs ds op)).map (fun kv=>kV kv.1) = (fs.map aJ).map V.str:=by
  unfold cP
  rw [List.map_map,List.map_map]
  rfl
 refine ⟨_,rfl,fd',_,rfl,.inl hfd,fun k1 n1=>?_⟩
 rw [ekeys]
 have B1:=aM.upd (o:=.lst ((fs.map aJ).map V.str)) n1
 have g1:upd H8 k1 (.lst ((fs.map aJ).map V.str)) k1 = some (.lst ((fs.map aJ).map V.str)):=aD
 refine ⟨_,rfl,du,_,rfl,.inl (B1 _ _ hdu8),fun k2 n2=>?_⟩
 rw [ekeys]
 have B2:=aM.upd (o:=.lst ((fs.map aJ).map V.str)) n2
 have T9:=T8.trans (B1.trans B2)
 have hdu9:=(B1.trans B2) _ _ hdu8
 have hfd9:=(B1.trans B2) _ _ hfd
 refine vJ (d:=.lst ((fs.map aJ).map Dv.str)) (nU (B2 _ _ g1)) (nU aD) (mY _) ⟨_,rfl,cN ?_⟩
 generalize upd (upd H8 k1 (.lst ((fs.map aJ).map V.str))) k2 (.lst ((fs.map aJ).map V.str)) = H9 at T9 hdu9 hfd9
 refine ⟨_,rfl,du,_,rfl,hdu9,fun ob=>?_⟩
 have TF:aM H4 (upd H9 du (.frz ob (.dK (cP fs (flo fs ds op))))):=T9.over ndu4
 have hduF:upd H9 du (.frz ob (.dK (cP fs (flo fs ds op)))) du = some (.frz ob (.dK (cP fs (flo fs ds op)))):=aD
 have hfdF:upd H9 du (.frz ob (.dK (cP fs (flo fs ds op)))) fd' = some (.dK (cP fs (flo fs ds op))):=by rw [aO nfu];exact hfd9
 generalize upd H9 du (.frz ob (.dK (cP fs (flo fs ds op)))) = HF at TF hduF hfdF
 refine aCK (fun i σ H'=>∃ v8:Option V,σ = [some (.ref a),some (.ref lf),some (.ref ld),some (.ref p),some (.ref lo),some (.ref du),some (.ref la),some (.ref fd'),v8] ∧ H' = HF) ⟨_,rfl,rfl⟩ (fun i σ H' _ ⟨_,_,e⟩=>by rw [e];exact hduF) ?_ ?_
 ·rintro i kv σ H' hk ⟨v8,rfl,rfl⟩
  have hil:=(List.getElem?_eq_some_iff.mp hk).1
  obtain ⟨d,ed⟩:∃ d,fs[i]? = some d:=⟨_,List.getElem?_eq_getElem (by have:(cP fs (flo fs ds op)).length = fs.length:=List.length_map ..;omega)⟩
  unfold cP at hk
  rw [List.getElem?_map,ed] at hk
  cases hk
  have mz:aJ d ∈ fs.map aJ:=List.mem_map.mpr ⟨d,List.mem_of_getElem? ed,rfl⟩
  have vz:=(xI GF.nd (flo fs ds op) mz).symm
  refine ⟨_,rfl,_,rfl,du,_,rfl,.inl ⟨_,Sum.inr (aJ d),.inr ⟨ob,hduF⟩,rfl,vz⟩,rfl,_,rfl,?_⟩
  cases ec:flo fs ds op (aJ d) with
  | none =>
   rw [decide_eq_true (show lL none = V.non from rfl)]
   refine gK ?_
   refine ⟨_,rfl,_,rfl,fd',_,rfl,.inl ⟨_,Sum.inr (aJ d),.inl hfdF,rfl,vz⟩,rfl,_,rfl,?_⟩
   rw [ec,decide_eq_true (show lL none = V.non from rfl)]
   exact cN ⟨_,rfl,rfl⟩
  | some c =>
   rw [decide_eq_false (show ¬ lL (some c) = V.non from fun c=>by cases c)]
   refine cN ?_
   refine ⟨_,rfl,_,rfl,fd',_,rfl,.inl ⟨_,Sum.inr (aJ d),.inl hfdF,rfl,vz⟩,_,rfl,_,rfl,du,_,rfl,.inl ⟨_,Sum.inr (aJ d),.inr ⟨ob,hduF⟩,rfl,vz⟩,?_⟩
   rw [ec]
   refine ⟨rfl,_,rfl,?_⟩
   rw [decide_eq_true rfl]
   refine cN ?_
   obtain ⟨tk,ty,ki,kb,_⟩:=mQ K (show Is H' (.int c) (.int c) from rfl)
   rw [ec] at vz
   refine ⟨_,rfl,_,rfl,fd',_,rfl,.inl ⟨_,Sum.inr (aJ d),.inl hfdF,rfl,vz⟩,?_⟩
   refine ⟨_,_,_,tk,_,rfl,rfl,ty,ki,_,rfl,cN ?_⟩
   refine ⟨_,rfl,_,rfl,fd',_,rfl,.inl ⟨_,Sum.inr (aJ d),.inl hfdF,rfl,vz⟩,?_⟩
   refine ⟨_,_,_,tk,_,rfl,rfl,ty,kb,_,rfl,?_⟩
   exact cN ⟨_,rfl,rfl⟩
 rintro σ H' ⟨v8,rfl,rfl⟩
 refine ⟨_,rfl,⟨fd',_,rfl,.inl hfdF⟩,fd',_,rfl,rfl,.inl hfdF,?_⟩
 have TZ:aM H4 (upd H' fd' (.dK [])):=TF.over nfd4
 have hduZ:upd H' fd' (.dK []) du = some (.frz ob (.dK (cP fs (flo fs ds op)))):=by rw [aO (Ne.symm nfu)];exact hduF
 generalize upd H' fd' (.dK []) = HZ at TZ hduZ
 refine ⟨_,rfl,_,rfl,_,_,rfl,p,lo,fs,ds,op,rfl,L4.same TZ,rfl,TZ _ _ hlo,by omega,sub,fun d2 HY SY nd2 hd2=>?_⟩
 refine ⟨_,rfl,d2,du,_,rfl,rfl,.inl hd2,.inr ⟨ob,SY _ _ hduZ⟩,(fun x m=>?_),q _⟩
 unfold cP at m
 obtain ⟨d,_,rfl⟩:=List.mem_map.mp m
 show wO (lL _) = true
 cases flo fs ds op (aJ d) <;> rfl
theorem law_mk {fa:Addr} (hmg:mg "law" = some (.ref fa)) (T:Txt K mg C) :
  ∃ fd:FuncData,(∀ (s:Shared) (u:Value),BindsTo s fd ⟨[u],[]⟩ [("_law_script",u)]) ∧ ∀ base:Heap,K.In base → base.Ns mainGlobals mg → FnOk P w K mg base CX0 12 fa fd ["_law_script"] (xW K):=by
 obtain ⟨f,fd,F,b,m⟩:=T.d_p_law.ex
 rw [hmg] at m
 cases m
 refine ⟨fd,fun s u=>?_,fun base _ _=>aFL T F⟩
 obtain ⟨oc,od,kV,doc,pm,an,cdv,ct,osl,rfl,lk,hcd⟩:=F.ex
 exact .of_eq rfl
end
theorem txt_mk {K:PySem.W.Frag} {h:Heap} {mg:Str → Option Value} (X:K.In h) (G:h.Ns mainGlobals mg)
    {C:Addr}
    {fm15:Addr} {ocm15 kVm15 docm15 pmm15 cdm15 ctm15:Value} {odm15 anm15:Option Addr} {slm15:Array (Option Value)}
    {fm16:Addr} {ocm16 kVm16 docm16 pmm16 cdm16 ctm16:Value} {odm16 anm16:Option Addr} {slm16:Array (Option Value)}
    {fm17:Addr} {ocm17 kVm17 docm17 pmm17 cdm17 ctm17:Value} {odm17 anm17:Option Addr} {slm17:Array (Option Value)}
    {fm18:Addr} {ocm18 kVm18 docm18 pmm18 cdm18 ctm18:Value} {odm18 anm18:Option Addr} {slm18:Array (Option Value)}
    {fm19:Addr} {ocm19 kVm19 docm19 pmm19 cdm19 ctm19:Value} {odm19 anm19:Option Addr} {slm19:Array (Option Value)}
    {fm20:Addr} {ocm20 kVm20 docm20 pmm20 cdm20 ctm20:Value} {odm20 anm20:Option Addr} {slm20:Array (Option Value)}
    {fm21:Addr} {ocm21 kVm21 docm21 pmm21 cdm21 ctm21:Value} {odm21 anm21:Option Addr} {slm21:Array (Option Value)}
    {fm22:Addr} {ocm22 kVm22 docm22 pmm22 cdm22 ctm22:Value} {odm22 anm22:Option Addr} {slm22:Array (Option Value)}
    {fm23:Addr} {ocm23 kVm23 docm23 pmm23 cdm23 ctm23:Value} {odm23 anm23:Option Addr} {slm23:Array (Option Value)}
    {fm24:Addr} {ocm24 kVm24 docm24 pmm24 cdm24 ctm24:Value} {odm24 anm24:Option Addr} {slm24:Array (Option Value)}
    {f0:Addr} {oc0 kV0 doc0 pm0 cd0 ct0:Value} {od0 an0:Option Addr} {sl0:Array (Option Value)}
    {f1:Addr} {oc1 kV1 doc1 pm1 cd1 ct1:Value} {od1 an1:Option Addr} {sl1:Array (Option Value)}
    {f2:Addr} {oc2 kV2 doc2 pm2 cd2 ct2:Value} {od2 an2:Option Addr} {sl2:Array (Option Value)}
    {f3:Addr} {oc3 kV3 doc3 pm3 cd3 ct3:Value} {od3 an3:Option Addr} {sl3:Array (Option Value)}
    {f4:Addr} {oc4 kV4 doc4 pm4 cd4 ct4:Value} {od4 an4:Option Addr} {sl4:Array (Option Value)}
    {f5:Addr} {oc5 kV5 doc5 pm5 cd5 ct5:Value} {od5 an5:Option Addr} {sl5:Array (Option Value)}
    {f6:Addr} {oc6 kV6 doc6 pm6 cd6 ct6:Value} {od6 an6:Option Addr} {sl6:Array (Option Value)}
    {f7:Addr} {oc7 kV7 doc7 pm7 cd7 ct7:Value} {od7 an7:Option Addr} {sl7:Array (Option Value)}
    {f8:Addr} {oc8 kV8 doc8 pm8 cd8 ct8:Value} {od8 an8:Option Addr} {sl8:Array (Option Value)}
    {f9:Addr} {oc9 kV9 doc9 pm9 cd9 ct9:Value} {od9 an9:Option Addr} {sl9:Array (Option Value)}
    {f10:Addr} {oc10 kV10 doc10 pm10 cd10 ct10:Value} {od10 an10:Option Addr} {sl10:Array (Option Value)}
    {f11:Addr} {oc11 kV11 doc11 pm11 cd11 ct11:Value} {od11 an11:Option Addr} {sl11:Array (Option Value)}
    {f12:Addr} {oc12 kV12 doc12 pm12 cd12 ct12:Value} {od12 an12:Option Addr} {sl12:Array (Option Value)}
    {f13:Addr} {oc13 kV13 doc13 pm13 cd13 ct13:Value} {od13 an13:Option Addr} {sl13:Array (Option Value)}
    {f14:Addr} {oc14 kV14 doc14 pm14 cd14 ct14:Value} {od14 an14:Option Addr} {sl14:Array (Option Value)}
    {f15:Addr} {oc15 kV15 doc15 pm15 cd15 ct15:Value} {od15 an15:Option Addr} {sl15:Array (Option Value)}
    {f16:Addr} {oc16 kV16 doc16 pm16 cd16 ct16:Value} {od16 an16:Option Addr} {sl16:Array (Option Value)}
    {f17:Addr} {oc17 kV17 doc17 pm17 cd17 ct17:Value} {od17 an17:Option Addr} {sl17:Array (Option Value)}
    {f18:Addr} {oc18 kV18 doc18 pm18 cd18 ct18:Value} {od18 an18:Option Addr} {sl18:Array (Option Value)}
    {f19:Addr} {oc19 kV19 doc19 pm19 cd19 ct19:Value} {od19 an19:Option Addr} {sl19:Array (Option Value)}
    {f20:Addr} {oc20 kV20 doc20 pm20 cd20 ct20:Value} {od20 an20:Option Addr} {sl20:Array (Option Value)}
    {f21:Addr} {oc21 kV21 doc21 pm21 cd21 ct21:Value} {od21 an21:Option Addr} {sl21:Array (Option Value)}
    {f22:Addr} {oc22 kV22 doc22 pm22 cd22 ct22:Value} {od22 an22:Option Addr} {sl22:Array (Option Value)}
    {f23:Addr} {oc23 kV23 doc23 pm23 cd23 ct23:Value} {od23 an23:Option Addr} {sl23:Array (Option Value)}
    {f24:Addr} {oc24 kV24 doc24 pm24 cd24 ct24:Value} {od24 an24:Option Addr} {sl24:Array (Option Value)}
    {f25:Addr} {oc25 kV25 doc25 pm25 cd25 ct25:Value} {od25 an25:Option Addr} {sl25:Array (Option Value)}
    {f26:Addr} {oc26 kV26 doc26 pm26 cd26 ct26:Value} {od26 an26:Option Addr} {sl26:Array (Option Value)}
    {f27:Addr} {oc27 kV27 doc27 pm27 cd27 ct27:Value} {od27 an27:Option Addr} {sl27:Array (Option Value)}
    {f28:Addr} {oc28 kV28 doc28 pm28 cd28 ct28:Value} {od28 an28:Option Addr} {sl28:Array (Option Value)}
    {f29:Addr} {oc29 kV29 doc29 pm29 cd29 ct29:Value} {od29 an29:Option Addr} {sl29:Array (Option Value)}
    {f30:Addr} {oc30 kV30 doc30 pm30 cd30 ct30:Value} {od30 an30:Option Addr} {sl30:Array (Option Value)}
    {f31:Addr} {oc31 kV31 doc31 pm31 cd31 ct31:Value} {od31 an31:Option Addr} {sl31:Array (Option Value)}
    {f32:Addr} {oc32 kV32 doc32 pm32 cd32 ct32:Value} {od32 an32:Option Addr} {sl32:Array (Option Value)}
    {u0:Value}
    {u1:Value}
    {u2:Value}
    {u3:Value}
    {u4:Value}
    {u5:Value}
    {u6:Value}
    (aC:PySem.W.nsIn K mainGlobals "Land" = some (some (.ref C))) (pgC:PySem.W.plainGet K C Str.empty = true) (hdC:PySem.W.hasDictIn K C = true) (poC:PySem.W.plainOver K C = true) (saC:PySem.W.findIn K (.ref C) "__setattr__" = some (some (.builtin "object.__setattr__"))) (mkC:PySem.W.makesIn K C = true) (kpC:PySem.W.keepIn K (.ref C) = true)
    (n_field_rows:PySem.W.findIn K (.ref C) "field_rows" = some none)
    (n_dyke_rows:PySem.W.findIn K (.ref C) "dyke_rows" = some none)
    (iha:PySem.W.findIn K (.ref C) "__class__" = some (some (.builtin "object.__class__"))) (ihn:PySem.W.specialIn K (.builtin "object.__class__") "__get__" = some (some (.builtin "getset_descriptor.__get__"))) (iht:PySem.W.takesIn K (.builtin "object.__class__") = some true) (ihm:PySem.W.mroIn K C (.type "object") = some true)
    (ma15:PySem.W.findIn K (.ref C) "__init__" = some (some (.ref fm15))) (mi15:PySem.W.isFn K (.ref fm15) = true) (ml15:K.lookup fm15 = some ⟨ocm15,odm15,.func (PySem.W.fnOf "__init__" "Land.__init__" (aP eY) (aN eY) (aB eY) .none kVm15 docm15 pmm15 anm15 cdm15 ctm15),slm15⟩) (mc15:PySem.W.codeIn K cdm15 "Land.__init__" = true) (mk15:PySem.W.keepIn K (.ref fm15) = true)
    (ma16:PySem.W.findIn K (.ref C) "fields" = some (some (.ref fm16))) (mi16:PySem.W.isFn K (.ref fm16) = true) (ml16:K.lookup fm16 = some ⟨ocm16,odm16,.func (PySem.W.fnOf "fields" "Land.fields" (aP eM) (aN eM) (aB eM) .none kVm16 docm16 pmm16 anm16 cdm16 ctm16),slm16⟩) (mc16:PySem.W.codeIn K cdm16 "Land.fields" = true) (mk16:PySem.W.keepIn K (.ref fm16) = true)
    (ma17:PySem.W.findIn K (.ref C) "dykes" = some (some (.ref fm17))) (mi17:PySem.W.isFn K (.ref fm17) = true) (ml17:K.lookup fm17 = some ⟨ocm17,odm17,.func (PySem.W.fnOf "dykes" "Land.dykes" (aP dS) (aN dS) (aB dS) .none kVm17 docm17 pmm17 anm17 cdm17 ctm17),slm17⟩) (mc17:PySem.W.codeIn K cdm17 "Land.dykes" = true) (mk17:PySem.W.keepIn K (.ref fm17) = true)
    (ma18:PySem.W.findIn K (.ref C) "field_names" = some (some (.ref fm18))) (mi18:PySem.W.isFn K (.ref fm18) = true) (ml18:K.lookup fm18 = some ⟨ocm18,odm18,.func (PySem.W.fnOf "field_names" "Land.field_names" (aP cE) (aN cE) (aB cE) .none kVm18 docm18 pmm18 anm18 cdm18 ctm18),slm18⟩) (mc18:PySem.W.codeIn K cdm18 "Land.field_names" = true) (mk18:PySem.W.keepIn K (.ref fm18) = true)
    (ma19:PySem.W.findIn K (.ref C) "dyke_names" = some (some (.ref fm19))) (mi19:PySem.W.isFn K (.ref fm19) = true) (ml19:K.lookup fm19 = some ⟨ocm19,odm19,.func (PySem.W.fnOf "dyke_names" "Land.dyke_names" (aP dB) (aN dB) (aB dB) .none kVm19 docm19 pmm19 anm19 cdm19 ctm19),slm19⟩) (mc19:PySem.W.codeIn K cdm19 "Land.dyke_names" = true) (mk19:PySem.W.keepIn K (.ref fm19) = true)
    (ma20:PySem.W.findIn K (.ref C) "sluices" = some (some (.ref fm20))) (mi20:PySem.W.isFn K (.ref fm20) = true) (ml20:K.lookup fm20 = some ⟨ocm20,odm20,.func (PySem.W.fnOf "sluices" "Land.sluices" (aP dF) (aN dF) (aB dF) .none kVm20 docm20 pmm20 anm20 cdm20 ctm20),slm20⟩) (mc20:PySem.W.codeIn K cdm20 "Land.sluices" = true) (mk20:PySem.W.keepIn K (.ref fm20) = true)
    (ma21:PySem.W.findIn K (.ref C) "ground" = some (some (.ref fm21))) (mi21:PySem.W.isFn K (.ref fm21) = true) (ml21:K.lookup fm21 = some ⟨ocm21,odm21,.func (PySem.W.fnOf "ground" "Land.ground" (aP dL) (aN dL) (aB dL) .none kVm21 docm21 pmm21 anm21 cdm21 ctm21),slm21⟩) (mc21:PySem.W.codeIn K cdm21 "Land.ground" = true) (mk21:PySem.W.keepIn K (.ref fm21) = true)
    (ma22:PySem.W.findIn K (.ref C) "dues" = some (some (.ref fm22))) (mi22:PySem.W.isFn K (.ref fm22) = true) (ml22:K.lookup fm22 = some ⟨ocm22,odm22,.func (PySem.W.fnOf "dues" "Land.dues" (aP fO) (aN fO) (aB fO) .none kVm22 docm22 pmm22 anm22 cdm22 ctm22),slm22⟩) (mc22:PySem.W.codeIn K cdm22 "Land.dues" = true) (mk22:PySem.W.keepIn K (.ref fm22) = true)
    (ma23:PySem.W.findIn K (.ref C) "dyke" = some (some (.ref fm23))) (mi23:PySem.W.isFn K (.ref fm23) = true) (ml23:K.lookup fm23 = some ⟨ocm23,odm23,.func (PySem.W.fnOf "dyke" "Land.dyke" (aP fN) (aN fN) (aB fN) .none kVm23 docm23 pmm23 anm23 cdm23 ctm23),slm23⟩) (mc23:PySem.W.codeIn K cdm23 "Land.dyke" = true) (mk23:PySem.W.keepIn K (.ref fm23) = true)
    (ma24:PySem.W.findIn K (.ref C) "raised" = some (some (.ref fm24))) (mi24:PySem.W.isFn K (.ref fm24) = true) (ml24:K.lookup fm24 = some ⟨ocm24,odm24,.func (PySem.W.fnOf "raised" "Land.raised" (aP eK) (aN eK) (aB eK) .none kVm24 docm24 pmm24 anm24 cdm24 ctm24),slm24⟩) (mc24:PySem.W.codeIn K cdm24 "Land.raised" = true) (mk24:PySem.W.keepIn K (.ref fm24) = true)
    (a0:PySem.W.nsIn K mainGlobals "_wall" = some (some (.ref f0))) (l0:K.lookup f0 = some ⟨oc0,od0,.func (PySem.W.fnOf "_wall" "_wall" (aP lH) (aN lH) (aB lH) .none kV0 doc0 pm0 an0 cd0 ct0),sl0⟩) (c0:PySem.W.codeIn K cd0 "_wall" = true) (k0:PySem.W.keepIn K (.ref f0) = true)
    (a1:PySem.W.nsIn K mainGlobals "is_whole" = some (some (.ref f1))) (l1:K.lookup f1 = some ⟨oc1,od1,.func (PySem.W.fnOf "is_whole" "is_whole" (aP eW) (aN eW) (aB eW) .none kV1 doc1 pm1 an1 cd1 ct1),sl1⟩) (c1:PySem.W.codeIn K cd1 "is_whole" = true) (k1:PySem.W.keepIn K (.ref f1) = true)
    (a2:PySem.W.nsIn K mainGlobals "is_name" = some (some (.ref f2))) (l2:K.lookup f2 = some ⟨oc2,od2,.func (PySem.W.fnOf "is_name" "is_name" (aP fU) (aN fU) (aB fU) .none kV2 doc2 pm2 an2 cd2 ct2),sl2⟩) (c2:PySem.W.codeIn K cd2 "is_name" = true) (k2:PySem.W.keepIn K (.ref f2) = true)
    (a3:PySem.W.nsIn K mainGlobals "is_height" = some (some (.ref f3))) (l3:K.lookup f3 = some ⟨oc3,od3,.func (PySem.W.fnOf "is_height" "is_height" (aP eC) (aN eC) (aB eC) .none kV3 doc3 pm3 an3 cd3 ct3),sl3⟩) (c3:PySem.W.codeIn K cd3 "is_height" = true) (k3:PySem.W.keepIn K (.ref f3) = true)
    (a4:PySem.W.nsIn K mainGlobals "is_amount" = some (some (.ref f4))) (l4:K.lookup f4 = some ⟨oc4,od4,.func (PySem.W.fnOf "is_amount" "is_amount" (aP eD) (aN eD) (aB eD) .none kV4 doc4 pm4 an4 cd4 ct4),sl4⟩) (c4:PySem.W.codeIn K cd4 "is_amount" = true) (k4:PySem.W.keepIn K (.ref f4) = true)
    (a5:PySem.W.nsIn K mainGlobals "is_one_of" = some (some (.ref f5))) (l5:K.lookup f5 = some ⟨oc5,od5,.func (PySem.W.fnOf "is_one_of" "is_one_of" (aP eB) (aN eB) (aB eB) .none kV5 doc5 pm5 an5 cd5 ct5),sl5⟩) (c5:PySem.W.codeIn K cd5 "is_one_of" = true) (k5:PySem.W.keepIn K (.ref f5) = true)
    (a6:PySem.W.nsIn K mainGlobals "is_list_of" = some (some (.ref f6))) (l6:K.lookup f6 = some ⟨oc6,od6,.func (PySem.W.fnOf "is_list_of" "is_list_of" (aP dQ) (aN dQ) (aB dQ) .none kV6 doc6 pm6 an6 cd6 ct6),sl6⟩) (c6:PySem.W.codeIn K cd6 "is_list_of" = true) (k6:PySem.W.keepIn K (.ref f6) = true)
    (a7:PySem.W.nsIn K mainGlobals "is_tuple_of" = some (some (.ref f7))) (l7:K.lookup f7 = some ⟨oc7,od7,.func (PySem.W.fnOf "is_tuple_of" "is_tuple_of" (aP dJ) (aN dJ) (aB dJ) .none kV7 doc7 pm7 an7 cd7 ct7),sl7⟩) (c7:PySem.W.codeIn K cd7 "is_tuple_of" = true) (k7:PySem.W.keepIn K (.ref f7) = true)
    (a8:PySem.W.nsIn K mainGlobals "none_twice" = some (some (.ref f8))) (l8:K.lookup f8 = some ⟨oc8,od8,.func (PySem.W.fnOf "none_twice" "none_twice" (aP dP) (aN dP) (aB dP) .none kV8 doc8 pm8 an8 cd8 ct8),sl8⟩) (c8:PySem.W.codeIn K cd8 "none_twice" = true) (k8:PySem.W.keepIn K (.ref f8) = true)
    (a9:PySem.W.nsIn K mainGlobals "is_field" = some (some (.ref f9))) (l9:K.lookup f9 = some ⟨oc9,od9,.func (PySem.W.fnOf "is_field" "is_field" (aP eX) (aN eX) (aB eX) .none kV9 doc9 pm9 an9 cd9 ct9),sl9⟩) (c9:PySem.W.codeIn K cd9 "is_field" = true) (k9:PySem.W.keepIn K (.ref f9) = true)
    (a10:PySem.W.nsIn K mainGlobals "are_fields" = some (some (.ref f10))) (l10:K.lookup f10 = some ⟨oc10,od10,.func (PySem.W.fnOf "are_fields" "are_fields" (aP dR) (aN dR) (aB dR) .none kV10 doc10 pm10 an10 cd10 ct10),sl10⟩) (c10:PySem.W.codeIn K cd10 "are_fields" = true) (k10:PySem.W.keepIn K (.ref f10) = true)
    (a11:PySem.W.nsIn K mainGlobals "are_sides" = some (some (.ref f11))) (l11:K.lookup f11 = some ⟨oc11,od11,.func (PySem.W.fnOf "are_sides" "are_sides" (aP eE) (aN eE) (aB eE) .none kV11 doc11 pm11 an11 cd11 ct11),sl11⟩) (c11:PySem.W.codeIn K cd11 "are_sides" = true) (k11:PySem.W.keepIn K (.ref f11) = true)
    (a12:PySem.W.nsIn K mainGlobals "is_sill" = some (some (.ref f12))) (l12:K.lookup f12 = some ⟨oc12,od12,.func (PySem.W.fnOf "is_sill" "is_sill" (aP fT) (aN fT) (aB fT) .none kV12 doc12 pm12 an12 cd12 ct12),sl12⟩) (c12:PySem.W.codeIn K cd12 "is_sill" = true) (k12:PySem.W.keepIn K (.ref f12) = true)
    (a13:PySem.W.nsIn K mainGlobals "is_dyke" = some (some (.ref f13))) (l13:K.lookup f13 = some ⟨oc13,od13,.func (PySem.W.fnOf "is_dyke" "is_dyke" (aP fV) (aN fV) (aB fV) .none kV13 doc13 pm13 an13 cd13 ct13),sl13⟩) (c13:PySem.W.codeIn K cd13 "is_dyke" = true) (k13:PySem.W.keepIn K (.ref f13) = true)
    (a14:PySem.W.nsIn K mainGlobals "are_dykes" = some (some (.ref f14))) (l14:K.lookup f14 = some ⟨oc14,od14,.func (PySem.W.fnOf "are_dykes" "are_dykes" (aP eF) (aN eF) (aB eF) .none kV14 doc14 pm14 an14 cd14 ct14),sl14⟩) (c14:PySem.W.codeIn K cd14 "are_dykes" = true) (k14:PySem.W.keepIn K (.ref f14) = true)
    (a15:PySem.W.nsIn K mainGlobals "check_sluices" = some (some (.ref f15))) (l15:K.lookup f15 = some ⟨oc15,od15,.func (PySem.W.fnOf "check_sluices" "check_sluices" (aP cX) (aN cX) (aB cX) .none kV15 doc15 pm15 an15 cd15 ct15),sl15⟩) (c15:PySem.W.codeIn K cd15 "check_sluices" = true) (k15:PySem.W.keepIn K (.ref f15) = true)
    (a16:PySem.W.nsIn K mainGlobals "stands" = some (some (.ref f16))) (l16:K.lookup f16 = some ⟨oc16,od16,.func (PySem.W.fnOf "stands" "stands" (aP gO) (aN gO) (aB gO) .none kV16 doc16 pm16 an16 cd16 ct16),sl16⟩) (c16:PySem.W.codeIn K cd16 "stands" = true) (k16:PySem.W.keepIn K (.ref f16) = true)
    (a17:PySem.W.nsIn K mainGlobals "steps_inland" = some (some (.ref f17))) (l17:K.lookup f17 = some ⟨oc17,od17,.func (PySem.W.fnOf "steps_inland" "steps_inland" (aP dE) (aN dE) (aB dE) .none kV17 doc17 pm17 an17 cd17 ct17),sl17⟩) (c17:PySem.W.codeIn K cd17 "steps_inland" = true) (k17:PySem.W.keepIn K (.ref f17) = true)
    (a18:PySem.W.nsIn K mainGlobals "flood_heights" = some (some (.ref f18))) (l18:K.lookup f18 = some ⟨oc18,od18,.func (PySem.W.fnOf "flood_heights" "flood_heights" (aP cW) (aN cW) (aB cW) .none kV18 doc18 pm18 an18 cd18 ct18),sl18⟩) (c18:PySem.W.codeIn K cd18 "flood_heights" = true) (k18:PySem.W.keepIn K (.ref f18) = true)
    (a19:PySem.W.nsIn K mainGlobals "_law_cell_at" = some (some (.ref f19))) (l19:K.lookup f19 = some ⟨oc19,od19,.func (PySem.W.fnOf "_law_cell_at" "_law_cell_at" (aP fX) (aN fX) (aB fX) .none kV19 doc19 pm19 an19 cd19 ct19),sl19⟩) (c19:PySem.W.codeIn K cd19 "_law_cell_at" = true) (k19:PySem.W.keepIn K (.ref f19) = true)
    (a20:PySem.W.nsIn K mainGlobals "_law_mixed" = some (some (.ref f20))) (l20:K.lookup f20 = some ⟨oc20,od20,.func (PySem.W.fnOf "_law_mixed" "_law_mixed" (aP iF) (aN iF) (aB iF) .none kV20 doc20 pm20 an20 cd20 ct20),sl20⟩) (c20:PySem.W.codeIn K cd20 "_law_mixed" = true) (k20:PySem.W.keepIn K (.ref f20) = true)
    (a21:PySem.W.nsIn K mainGlobals "_law_words" = some (some (.ref f21))) (l21:K.lookup f21 = some ⟨oc21,od21,.func (PySem.W.fnOf "_law_words" "_law_words" (aP fF) (aN fF) (aB fF) .none kV21 doc21 pm21 an21 cd21 ct21),sl21⟩) (c21:PySem.W.codeIn K cd21 "_law_words" = true) (k21:PySem.W.keepIn K (.ref f21) = true)
    (a22:PySem.W.nsIn K mainGlobals "_law_high" = some (some (.ref f22))) (l22:K.lookup f22 = some ⟨oc22,od22,.func (PySem.W.fnOf "_law_high" "_law_high" (aP jG) (aN jG) (aB jG) .none kV22 doc22 pm22 an22 cd22 ct22),sl22⟩) (c22:PySem.W.codeIn K cd22 "_law_high" = true) (k22:PySem.W.keepIn K (.ref f22) = true)
    (a23:PySem.W.nsIn K mainGlobals "_law_most" = some (some (.ref f23))) (l23:K.lookup f23 = some ⟨oc23,od23,.func (PySem.W.fnOf "_law_most" "_law_most" (aP jE) (aN jE) (aB jE) .none kV23 doc23 pm23 an23 cd23 ct23),sl23⟩) (c23:PySem.W.codeIn K cd23 "_law_most" = true) (k23:PySem.W.keepIn K (.ref f23) = true)
    (a24:PySem.W.nsIn K mainGlobals "_law_fields" = some (some (.ref f24))) (l24:K.lookup f24 = some ⟨oc24,od24,.func (PySem.W.fnOf "_law_fields" "_law_fields" (aP gS) (aN gS) (aB gS) .none kV24 doc24 pm24 an24 cd24 ct24),sl24⟩) (c24:PySem.W.codeIn K cd24 "_law_fields" = true) (k24:PySem.W.keepIn K (.ref f24) = true)
    (a25:PySem.W.nsIn K mainGlobals "_law_dykes" = some (some (.ref f25))) (l25:K.lookup f25 = some ⟨oc25,od25,.func (PySem.W.fnOf "_law_dykes" "_law_dykes" (aP iG) (aN iG) (aB iG) .none kV25 doc25 pm25 an25 cd25 ct25),sl25⟩) (c25:PySem.W.codeIn K cd25 "_law_dykes" = true) (k25:PySem.W.keepIn K (.ref f25) = true)
    (a26:PySem.W.nsIn K mainGlobals "_law_sizes" = some (some (.ref f26))) (l26:K.lookup f26 = some ⟨oc26,od26,.func (PySem.W.fnOf "_law_sizes" "_law_sizes" (aP iE) (aN iE) (aB iE) .none kV26 doc26 pm26 an26 cd26 ct26),sl26⟩) (c26:PySem.W.codeIn K cd26 "_law_sizes" = true) (k26:PySem.W.keepIn K (.ref f26) = true)
    (a27:PySem.W.nsIn K mainGlobals "_law_land" = some (some (.ref f27))) (l27:K.lookup f27 = some ⟨oc27,od27,.func (PySem.W.fnOf "_law_land" "_law_land" (aP jF) (aN jF) (aB jF) .none kV27 doc27 pm27 an27 cd27 ct27),sl27⟩) (c27:PySem.W.codeIn K cd27 "_law_land" = true) (k27:PySem.W.keepIn K (.ref f27) = true)
    (a28:PySem.W.nsIn K mainGlobals "_law_opened" = some (some (.ref f28))) (l28:K.lookup f28 = some ⟨oc28,od28,.func (PySem.W.fnOf "_law_opened" "_law_opened" (aP gQ) (aN gQ) (aB gQ) .none kV28 doc28 pm28 an28 cd28 ct28),sl28⟩) (c28:PySem.W.codeIn K cd28 "_law_opened" = true) (k28:PySem.W.keepIn K (.ref f28) = true)
    (a29:PySem.W.nsIn K mainGlobals "_law_stands" = some (some (.ref f29))) (l29:K.lookup f29 = some ⟨oc29,od29,.func (PySem.W.fnOf "_law_stands" "_law_stands" (aP gP) (aN gP) (aB gP) .none kV29 doc29 pm29 an29 cd29 ct29),sl29⟩) (c29:PySem.W.codeIn K cd29 "_law_stands" = true) (k29:PySem.W.keepIn K (.ref f29) = true)
    (a30:PySem.W.nsIn K mainGlobals "_law_come_to" = some (some (.ref f30))) (l30:K.lookup f30 = some ⟨oc30,od30,.func (PySem.W.fnOf "_law_come_to" "_law_come_to" (aP fW) (aN fW) (aB fW) .none kV30 doc30 pm30 an30 cd30 ct30),sl30⟩) (c30:PySem.W.codeIn K cd30 "_law_come_to" = true) (k30:PySem.W.keepIn K (.ref f30) = true)
    (a31:PySem.W.nsIn K mainGlobals "_law_floods" = some (some (.ref f31))) (l31:K.lookup f31 = some ⟨oc31,od31,.func (PySem.W.fnOf "_law_floods" "_law_floods" (aP gR) (aN gR) (aB gR) .none kV31 doc31 pm31 an31 cd31 ct31),sl31⟩) (c31:PySem.W.codeIn K cd31 "_law_floods" = true) (k31:PySem.W.keepIn K (.ref f31) = true)
    (a32:PySem.W.nsIn K mainGlobals "law" = some (some (.ref f32))) (l32:K.lookup f32 = some ⟨oc32,od32,.func (PySem.W.fnOf "law" "law" (aP jY) (aN jY) (aB jY) .none kV32 doc32 pm32 an32 cd32 ct32),sl32⟩) (c32:PySem.W.codeIn K cd32 "law" = true) (k32:PySem.W.keepIn K (.ref f32) = true)
    (g0:PySem.W.nsIn K mainGlobals "SEA" = some (some u0)) (r0:aZ (.str "sea") u0)
    (g1:PySem.W.nsIn K mainGlobals "LETTERS" = some (some u1)) (r1:aZ (.str "abcdefghijklmnopqrstuvwxyz") u1)
    (g2:PySem.W.nsIn K mainGlobals "MOST_LETTERS" = some (some u2)) (r2:aZ (.int 8) u2)
    (g3:PySem.W.nsIn K mainGlobals "MOST_HEIGHT" = some (some u3)) (r3:aZ (.int 1000000) u3)
    (g4:PySem.W.nsIn K mainGlobals "MOST_AMOUNT" = some (some u4)) (r4:aZ (.int 1000000) u4)
    (g5:PySem.W.nsIn K mainGlobals "MOST_FIELDS" = some (some u5)) (r5:aZ (.int 12) u5)
    (g6:PySem.W.nsIn K mainGlobals "MOST_DYKES" = some (some u6)) (r6:aZ (.int 40) u6)
    (z0:PySem.W.nsIn K mainGlobals "all" = some none)
    (z1:PySem.W.nsIn K mainGlobals "bool" = some none)
    (z2:PySem.W.nsIn K mainGlobals "dict" = some none)
    (z3:PySem.W.nsIn K mainGlobals "int" = some none)
    (z4:PySem.W.nsIn K mainGlobals "isinstance" = some none)
    (z5:PySem.W.nsIn K mainGlobals "len" = some none)
    (z6:PySem.W.nsIn K mainGlobals "list" = some none)
    (z7:PySem.W.nsIn K mainGlobals "max" = some none)
    (z8:PySem.W.nsIn K mainGlobals "min" = some none)
    (z9:PySem.W.nsIn K mainGlobals "range" = some none)
    (z10:PySem.W.nsIn K mainGlobals "reversed" = some none)
    (z11:PySem.W.nsIn K mainGlobals "set" = some none)
    (z12:PySem.W.nsIn K mainGlobals "sorted" = some none)
    (z13:PySem.W.nsIn K mainGlobals "str" = some none)
    (z14:PySem.W.nsIn K mainGlobals "tuple" = some none)  :Txt K mg C :=
  ⟨⟨pgC,hdC,poC,saC⟩,
   PySem.W.mg_of X G aC,
   n_field_rows,
   n_dyke_rows,
   ⟨iha,ihn,iht,ihm⟩,
   aEC ma15 mi15 ml15 mc15 mk15 mkC kpC (fun _ _ _ _ _ _ us hl=>match us,hl with | [_,_,_],_=>rfl),
   gJ ma16 mi16 ml16 mc16 mk16 (fun _ _ _ _ _ _ us hl=>match us,hl with | [_],_=>rfl),
   gJ ma17 mi17 ml17 mc17 mk17 (fun _ _ _ _ _ _ us hl=>match us,hl with | [_],_=>rfl),
   gJ ma18 mi18 ml18 mc18 mk18 (fun _ _ _ _ _ _ us hl=>match us,hl with | [_],_=>rfl),
   gJ ma19 mi19 ml19 mc19 mk19 (fun _ _ _ _ _ _ us hl=>match us,hl with | [_],_=>rfl),
   gJ ma20 mi20 ml20 mc20 mk20 (fun _ _ _ _ _ _ us hl=>match us,hl with | [_],_=>rfl),
   gJ ma21 mi21 ml21 mc21 mk21 (fun _ _ _ _ _ _ us hl=>match us,hl with | [_,_],_=>rfl),
   gJ ma22 mi22 ml22 mc22 mk22 (fun _ _ _ _ _ _ us hl=>match us,hl with | [_,_],_=>rfl),
   gJ ma23 mi23 ml23 mc23 mk23 (fun _ _ _ _ _ _ us hl=>match us,hl with | [_,_],_=>rfl),
   gJ ma24 mi24 ml24 mc24 mk24 (fun _ _ _ _ _ _ us hl=>match us,hl with | [_,_],_=>rfl),
   bJ X G a0 l0 c0 k0 (fun _ _ _ _ _ _ us hl=>match us,hl with | [_],_=>rfl),
   bJ X G a1 l1 c1 k1 (fun _ _ _ _ _ _ us hl=>match us,hl with | [_],_=>rfl),
   bJ X G a2 l2 c2 k2 (fun _ _ _ _ _ _ us hl=>match us,hl with | [_],_=>rfl),
   bJ X G a3 l3 c3 k3 (fun _ _ _ _ _ _ us hl=>match us,hl with | [_],_=>rfl),
   bJ X G a4 l4 c4 k4 (fun _ _ _ _ _ _ us hl=>match us,hl with | [_],_=>rfl),
   bJ X G a5 l5 c5 k5 (fun _ _ _ _ _ _ us hl=>match us,hl with | [_,_],_=>rfl),
   bJ X G a6 l6 c6 k6 (fun _ _ _ _ _ _ us hl=>match us,hl with | [_,_],_=>rfl),
   bJ X G a7 l7 c7 k7 (fun _ _ _ _ _ _ us hl=>match us,hl with | [_,_],_=>rfl),
   bJ X G a8 l8 c8 k8 (fun _ _ _ _ _ _ us hl=>match us,hl with | [_],_=>rfl),
   bJ X G a9 l9 c9 k9 (fun _ _ _ _ _ _ us hl=>match us,hl with | [_],_=>rfl),
   bJ X G a10 l10 c10 k10 (fun _ _ _ _ _ _ us hl=>match us,hl with | [_],_=>rfl),
   bJ X G a11 l11 c11 k11 (fun _ _ _ _ _ _ us hl=>match us,hl with | [_,_,_],_=>rfl),
   bJ X G a12 l12 c12 k12 (fun _ _ _ _ _ _ us hl=>match us,hl with | [_,_],_=>rfl),
   bJ X G a13 l13 c13 k13 (fun _ _ _ _ _ _ us hl=>match us,hl with | [_,_],_=>rfl),
   bJ X G a14 l14 c14 k14 (fun _ _ _ _ _ _ us hl=>match us,hl with | [_,_],_=>rfl),
   bJ X G a15 l15 c15 k15 (fun _ _ _ _ _ _ us hl=>match us,hl with | [_,_],_=>rfl),
   bJ X G a16 l16 c16 k16 (fun _ _ _ _ _ _ us hl=>match us,hl with | [_,_],_=>rfl),
   bJ X G a17 l17 c17 k17 (fun _ _ _ _ _ _ us hl=>match us,hl with | [_,_],_=>rfl),
   bJ X G a18 l18 c18 k18 (fun _ _ _ _ _ _ us hl=>match us,hl with | [_,_],_=>rfl),
   bJ X G a19 l19 c19 k19 (fun _ _ _ _ _ _ us hl=>match us,hl with | [_,_],_=>rfl),
   bJ X G a20 l20 c20 k20 (fun _ _ _ _ _ _ us hl=>match us,hl with | [_,_],_=>rfl),
   bJ X G a21 l21 c21 k21 (fun _ _ _ _ _ _ us hl=>match us,hl with | [_,_],_=>rfl),
   bJ X G a22 l22 c22 k22 (fun _ _ _ _ _ _ us hl=>match us,hl with | [_],_=>rfl),
   bJ X G a23 l23 c23 k23 (fun _ _ _ _ _ _ us hl=>match us,hl with | [_],_=>rfl),
   bJ X G a24 l24 c24 k24 (fun _ _ _ _ _ _ us hl=>match us,hl with | [_,_],_=>rfl),
   bJ X G a25 l25 c25 k25 (fun _ _ _ _ _ _ us hl=>match us,hl with | [_,_,_],_=>rfl),
   bJ X G a26 l26 c26 k26 (fun _ _ _ _ _ _ us hl=>match us,hl with | [_],_=>rfl),
   bJ X G a27 l27 c27 k27 (fun _ _ _ _ _ _ us hl=>match us,hl with | [_],_=>rfl),
   bJ X G a28 l28 c28 k28 (fun _ _ _ _ _ _ us hl=>match us,hl with | [_,_],_=>rfl),
   bJ X G a29 l29 c29 k29 (fun _ _ _ _ _ _ us hl=>match us,hl with | [_,_],_=>rfl),
   bJ X G a30 l30 c30 k30 (fun _ _ _ _ _ _ us hl=>match us,hl with | [_,_,_,_],_=>rfl),
   bJ X G a31 l31 c31 k31 (fun _ _ _ _ _ _ us hl=>match us,hl with | [_,_,_],_=>rfl),
   bJ X G a32 l32 c32 k32 (fun _ _ _ _ _ _ us hl=>match us,hl with | [_],_=>rfl),
   iT X G g0 r0,
   iT X G g1 r1,
   iT X G g2 r2,
   iT X G g3 r3,
   iT X G g4 r4,
   iT X G g5 r5,
   iT X G g6 r6,
   PySem.W.mg_none_of X G z0,
   PySem.W.mg_none_of X G z1,
   PySem.W.mg_none_of X G z2,
   PySem.W.mg_none_of X G z3,
   PySem.W.mg_none_of X G z4,
   PySem.W.mg_none_of X G z5,
   PySem.W.mg_none_of X G z6,
   PySem.W.mg_none_of X G z7,
   PySem.W.mg_none_of X G z8,
   PySem.W.mg_none_of X G z9,
   PySem.W.mg_none_of X G z10,
   PySem.W.mg_none_of X G z11,
   PySem.W.mg_none_of X G z12,
   PySem.W.mg_none_of X G z13,
   PySem.W.mg_none_of X G z14⟩
end K22
namespace PySem.W.Fast
def tw3120730728973870299 := 0
def tw9982236855850505413 := 0
def tw12612031374927669558 := 0
def tw220927784510080910 := 0
def tw904553899397824064 := 0
def tw8305851074450446353 := 0
def tw16970180587262752262 := 0
def tw17509895618841174640 := 0
def tw12291084125019213771 := 0
def tw943118392949046589 := 0
def tw2793361028332471568 := 0
def tw8169240294297757857 := 0
def tw3179189425947118679 := 0
def tw10674225494362175658 := 0
def tw12423909898199272175 := 0
def tw9283782459136352947 := 0
def tw11034937463644240593 := 0
def tw2140468284481283230 := 0
def tw15296591071074637334 := 0
def tw15710749966422799256 := 0
def tw8664602052398556390 := 0
def tw14852408029177007 := 0
def tw16284996067134584191 := 0
def tw7164432833361744302 := 0
def tw16072221022830900708 := 0
def tw4511515912660922729 := 0
def tw3598205395283474949 := 0
def tw1881684114366631853 := 0
def tw8653519016611340508 := 0
def tw13271275508851266842 := 0
def tw12120680933548882369 := 0
def tw1436876887764341005 := 0
def tw13302710963158198982 := 0
def tw1119183018254971481 := 0
def tw17065554050650578731 := 0
def tw12747189620590204977 := 0
def tw1157530649786483458 := 0
def tw3407939233860813445 := 0
def tw11461911056852503458 := 0
def tw10936850139033617220 := 0
def tw18155411601576226332 := 0
def tw11901289100185811445 := 0
def tw5892733200530987646 := 0
def tw8310751866451215377 := 0
def tw2897896151085058454 := 0
def tw6116694226203342426 := 0
def tw3704903824423073155 := 0
def tw14607774490937731112 := 0
def tw3782100203699715908 := 0
def tw4655001094236334257 := 0
def tw7354190958886865273 := 0
def tw10711586854209808793 := 0
def tw2348464288884243584 := 0
def tw14231830747781999618 := 0
def tw17199114966776158673 := 0
def tw15782161270481417580 := 0
def tw18201468035256448925 := 0
def tw15333241249286405513 := 0
def tw6003364779738858369 := 0
def tw9406324072434652208 := 0
def tw9367555249678488792 := 0
def tw9021400674842002761 := 0
def tw11472496295272619607 := 0
def tw5824540902069578845 := 0
def tw942873662554187896 := 0
def tw1265674635652903517 := 0
def tw9275915889306787329 := 0
def tw13833375189665631056 := 0
def tw12168000508717288557 := 0
def tw11137220143159231997 := 0
end PySem.W.Fast
open PySem PySem.W PyProof.Rows
set_option maxRecDepth 100000 in
set_option maxHeartbeats 0 in
theorem PySem.Challenge.cw_dykemoot_k22_flood_heights_holds : PySem.Challenge.rw_dykemoot_k22_flood_heights.Holds := by
 w_on; o_law; k_head; (case hw => w_witness2)
 k_fill
 refine L2.walk_law (l := PySem.Challenge.rw_dykemoot_k22_flood_heights) 12 ⟨rfl, by decide, by decide⟩ rfl rfl (fun w h Y => PySem.W.kIn_of Y) ?F
 case F =>
  intro w mg fa h KX G hmg
  refine' K22.law_mk hmg (K22.txt_mk KX G ?xaC ?xpgC ?xhdC ?xpoC ?xsaC ?xmkC ?xkpC ?xn_field_rows ?xn_dyke_rows ?xiha ?xihn ?xiht ?xihm ?xma15 ?xmi15 ?xml15 ?xmc15 ?xmk15 ?xma16 ?xmi16 ?xml16 ?xmc16 ?xmk16 ?xma17 ?xmi17 ?xml17 ?xmc17 ?xmk17 ?xma18 ?xmi18 ?xml18 ?xmc18 ?xmk18 ?xma19 ?xmi19 ?xml19 ?xmc19 ?xmk19 ?xma20 ?xmi20 ?xml20 ?xmc20 ?xmk20 ?xma21 ?xmi21 ?xml21 ?xmc21 ?xmk21 ?xma22 ?xmi22 ?xml22 ?xmc22 ?xmk22 ?xma23 ?xmi23 ?xml23 ?xmc23 ?xmk23 ?xma24 ?xmi24 ?xml24 ?xmc24 ?xmk24 ?xa0 ?xl0 ?xc0 ?xk0 ?xa1 ?xl1 ?xc1 ?xk1 ?xa2 ?xl2 ?xc2 ?xk2 ?xa3 ?xl3 ?xc3 ?xk3 ?xa4 ?xl4 ?xc4 ?xk4 ?xa5 ?xl5 ?xc5 ?xk5 ?xa6 ?xl6 ?xc6 ?xk6 ?xa7 ?xl7 ?xc7 ?xk7 ?xa8 ?xl8 ?xc8 ?xk8 ?xa9 ?xl9 ?xc9 ?xk9 ?xa10 ?xl10 ?xc10 ?xk10 ?xa11 ?xl11 ?xc11 ?xk11 ?xa12 ?xl12 ?xc12 ?xk12 ?xa13 ?xl13 ?xc13 ?xk13 ?xa14 ?xl14 ?xc14 ?xk14 ?xa15 ?xl15 ?xc15 ?xk15 ?xa16 ?xl16 ?xc16 ?xk16 ?xa17 ?xl17 ?xc17 ?xk17 ?xa18 ?xl18 ?xc18 ?xk18 ?xa19 ?xl19 ?xc19 ?xk19 ?xa20 ?xl20 ?xc20 ?xk20 ?xa21 ?xl21 ?xc21 ?xk21 ?xa22 ?xl22 ?xc22 ?xk22 ?xa23 ?xl23 ?xc23 ?xk23 ?xa24 ?xl24 ?xc24 ?xk24 ?xa25 ?xl25 ?xc25 ?xk25 ?xa26 ?xl26 ?xc26 ?xk26 ?xa27 ?xl27 ?xc27 ?xk27 ?xa28 ?xl28 ?xc28 ?xk28 ?xa29 ?xl29 ?xc29 ?xk29 ?xa30 ?xl30 ?xc30 ?xk30 ?xa31 ?xl31 ?xc31 ?xk31 ?xa32 ?xl32 ?xc32 ?xk32 ?xg0 ?xr0 ?xg1 ?xr1 ?xg2 ?xr2 ?xg3 ?xr3 ?xg4 ?xr4 ?xg5 ?xr5 ?xg6 ?xr6 ?xz0 ?xz1 ?xz2 ?xz3 ?xz4 ?xz5 ?xz6 ?xz7 ?xz8 ?xz9 ?xz10 ?xz11 ?xz12 ?xz13 ?xz14)
  (case xaC => k_is)
  (case xpgC => k_is)
  (case xhdC => k_is)
  (case xpoC => k_is)
  (case xsaC => k_is)
  (case xmkC => k_is)
  (case xkpC => k_is)
  (case xn_field_rows => k_is)
  (case xn_dyke_rows => k_is)
  (case xiha => k_is)
  (case xihn => k_is)
  (case xiht => k_is)
  (case xihm => k_is)
  (case xma15 => k_is)
  (case xmi15 => k_is)
  (case xml15 => k_is)
  (case xmc15 => k_is)
  (case xmk15 => k_is)
  (case xma16 => k_is)
  (case xmi16 => k_is)
  (case xml16 => k_is)
  (case xmc16 => k_is)
  (case xmk16 => k_is)
  (case xma17 => k_is)
  (case xmi17 => k_is)
  (case xml17 => k_is)
  (case xmc17 => k_is)
  (case xmk17 => k_is)
  (case xma18 => k_is)
  (case xmi18 => k_is)
  (case xml18 => k_is)
  (case xmc18 => k_is)
  (case xmk18 => k_is)
  (case xma19 => k_is)
  (case xmi19 => k_is)
  (case xml19 => k_is)
  (case xmc19 => k_is)
  (case xmk19 => k_is)
  (case xma20 => k_is)
  (case xmi20 => k_is)
  (case xml20 => k_is)
  (case xmc20 => k_is)
  (case xmk20 => k_is)
  (case xma21 => k_is)
  (case xmi21 => k_is)
  (case xml21 => k_is)
  (case xmc21 => k_is)
  (case xmk21 => k_is)
  (case xma22 => k_is)
  (case xmi22 => k_is)
  (case xml22 => k_is)
  (case xmc22 => k_is)
  (case xmk22 => k_is)
  (case xma23 => k_is)
  (case xmi23 => k_is)
  (case xml23 => k_is)
  (case xmc23 => k_is)
  (case xmk23 => k_is)
  (case xma24 => k_is)
  (case xmi24 => k_is)
  (case xml24 => k_is)
  (case xmc24 => k_is)
  (case xmk24 => k_is)
  (case xa0 => k_is)
  (case xl0 => k_is)
  (case xc0 => k_is)
  (case xk0 => k_is)
  (case xa1 => k_is)
  (case xl1 => k_is)
  (case xc1 => k_is)
  (case xk1 => k_is)
  (case xa2 => k_is)
  (case xl2 => k_is)
  (case xc2 => k_is)
  (case xk2 => k_is)
  (case xa3 => k_is)
  (case xl3 => k_is)
  (case xc3 => k_is)
  (case xk3 => k_is)
  (case xa4 => k_is)
  (case xl4 => k_is)
  (case xc4 => k_is)
  (case xk4 => k_is)
  (case xa5 => k_is)
  (case xl5 => k_is)
  (case xc5 => k_is)
  (case xk5 => k_is)
  (case xa6 => k_is)
  (case xl6 => k_is)
  (case xc6 => k_is)
  (case xk6 => k_is)
  (case xa7 => k_is)
  (case xl7 => k_is)
  (case xc7 => k_is)
  (case xk7 => k_is)
  (case xa8 => k_is)
  (case xl8 => k_is)
  (case xc8 => k_is)
  (case xk8 => k_is)
  (case xa9 => k_is)
  (case xl9 => k_is)
  (case xc9 => k_is)
  (case xk9 => k_is)
  (case xa10 => k_is)
  (case xl10 => k_is)
  (case xc10 => k_is)
  (case xk10 => k_is)
  (case xa11 => k_is)
  (case xl11 => k_is)
  (case xc11 => k_is)
  (case xk11 => k_is)
  (case xa12 => k_is)
  (case xl12 => k_is)
  (case xc12 => k_is)
  (case xk12 => k_is)
  (case xa13 => k_is)
  (case xl13 => k_is)
  (case xc13 => k_is)
  (case xk13 => k_is)
  (case xa14 => k_is)
  (case xl14 => k_is)
  (case xc14 => k_is)
  (case xk14 => k_is)
  (case xa15 => k_is)
  (case xl15 => k_is)
  (case xc15 => k_is)
  (case xk15 => k_is)
  (case xa16 => k_is)
  (case xl16 => k_is)
  (case xc16 => k_is)
  (case xk16 => k_is)
  (case xa17 => k_is)
  (case xl17 => k_is)
  (case xc17 => k_is)
  (case xk17 => k_is)
  (case xa18 => k_is)
  (case xl18 => k_is)
  (case xc18 => k_is)
  (case xk18 => k_is)
  (case xa19 => k_is)
  (case xl19 => k_is)
  (case xc19 => k_is)
  (case xk19 => k_is)
  (case xa20 => k_is)
  (case xl20 => k_is)
  (case xc20 => k_is)
  (case xk20 => k_is)
  (case xa21 => k_is)
  (case xl21 => k_is)
  (case xc21 => k_is)
  (case xk21 => k_is)
  (case xa22 => k_is)
  (case xl22 => k_is)
  (case xc22 => k_is)
  (case xk22 => k_is)
  (case xa23 => k_is)
  (case xl23 => k_is)
  (case xc23 => k_is)
  (case xk23 => k_is)
  (case xa24 => k_is)
  (case xl24 => k_is)
  (case xc24 => k_is)
  (case xk24 => k_is)
  (case xa25 => k_is)
  (case xl25 => k_is)
  (case xc25 => k_is)
  (case xk25 => k_is)
  (case xa26 => k_is)
  (case xl26 => k_is)
  (case xc26 => k_is)
  (case xk26 => k_is)
  (case xa27 => k_is)
  (case xl27 => k_is)
  (case xc27 => k_is)
  (case xk27 => k_is)
  (case xa28 => k_is)
  (case xl28 => k_is)
  (case xc28 => k_is)
  (case xk28 => k_is)
  (case xa29 => k_is)
  (case xl29 => k_is)
  (case xc29 => k_is)
  (case xk29 => k_is)
  (case xa30 => k_is)
  (case xl30 => k_is)
  (case xc30 => k_is)
  (case xk30 => k_is)
  (case xa31 => k_is)
  (case xl31 => k_is)
  (case xc31 => k_is)
  (case xk31 => k_is)
  (case xa32 => k_is)
  (case xl32 => k_is)
  (case xc32 => k_is)
  (case xk32 => k_is)
  (case xg0 => k_is)
  (case xr0 => exact ⟨_, rfl⟩)
  (case xg1 => k_is)
  (case xr1 => exact ⟨_, rfl⟩)
  (case xg2 => k_is)
  (case xr2 => exact ⟨_, rfl⟩)
  (case xg3 => k_is)
  (case xr3 => exact ⟨_, rfl⟩)
  (case xg4 => k_is)
  (case xr4 => exact ⟨_, rfl⟩)
  (case xg5 => k_is)
  (case xr5 => exact ⟨_, rfl⟩)
  (case xg6 => k_is)
  (case xr6 => exact ⟨_, rfl⟩)
  (case xz0 => k_is)
  (case xz1 => k_is)
  (case xz2 => k_is)
  (case xz3 => k_is)
  (case xz4 => k_is)
  (case xz5 => k_is)
  (case xz6 => k_is)
  (case xz7 => k_is)
  (case xz8 => k_is)
  (case xz9 => k_is)
  (case xz10 => k_is)
  (case xz11 => k_is)
  (case xz12 => k_is)
  (case xz13 => k_is)
  (case xz14 => k_is)
