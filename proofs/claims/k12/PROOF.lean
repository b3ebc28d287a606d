import PyProof.Rows.All
import Wide.All
import OpenK.AllK
import Wide.FinOn
import Lean
import PyProof.EqAt
import PyProof.EqKinds
import PyProof.TupleCall
import PyProof.StrBlockI
import PyProof.SliceList
import PyProof.StrLawsIn
import PyProof.StrLaws
import PyProof.StrBlockG
import PyProof.StrLawsTight
import PyProof.StrLawsChain
import PySem.Challenge.RW_dykemoot_k12_texts_of_no_land
set_option Elab.async false
set_option linter.all false
set_option maxRecDepth 100000
namespace L2
open PySem PySem.Spec PyProof.Rows
abbrev Key:=Sum Int Str
def vI:Key → Value → Bool
 | .inl k,v=>Value.isInt k v
 | .inr x,v=>Value.isStrOf x v
def aMA (w:World):Key → Int
 | .inl k=>hashInt k
 | .inr x=>hashStr w x
theorem cS:∀ {k:Key} {v:Value},vI k v = true → (∃ i t,k = Sum.inl i ∧ v = Value.int i t) ∨ (∃ x t,k = Sum.inr x ∧ v = Value.str x t)
 | .inl i,v,h=>by
  obtain ⟨t,e⟩:=Value.isInt_shape (k:=i) (v:=v) h
  exact .inl ⟨i,t,rfl,e⟩
 | .inr x,v,h=>by
  obtain ⟨t,e⟩:=Value.isStrOf_shape (x:=x) (v:=v) h
  exact .inr ⟨x,t,rfl,e⟩
theorem vH (i:Int) (t:Tok):vI (.inl i) (.int i t) = true:=by simp [vI,Value.isInt]
theorem vG (x:Str) (t:Tok):vI (.inr x) (.str x t) = true:=by simp [vI,Value.isStrOf]
theorem aJN (a b:Int):decide ((Sum.inl a:Key) = Sum.inl b) = (a == b):=by
 by_cases e:a = b
 ·subst e;simp
 ·have h:¬ (Sum.inl a:Key) = Sum.inl b:=fun q=>e (Sum.inl.inj q)
  rw [decide_eq_false h]
  exact (beq_eq_false_iff_ne.mpr e).symm
theorem aJK (a b:Str):decide ((Sum.inr a:Key) = Sum.inr b) = decide (a = b):=by
 by_cases e:a = b
 ·subst e;simp
 ·have h:¬ (Sum.inr a:Key) = Sum.inr b:=fun q=>e (Sum.inr.inj q)
  rw [decide_eq_false h,decide_eq_false e]
theorem aJM (a:Int) (b:Str):decide ((Sum.inl a:Key) = Sum.inr b) = false:=decide_eq_false (fun q=>nomatch q)
theorem aJL (a:Str) (b:Int):decide ((Sum.inr a:Key) = Sum.inl b) = false:=decide_eq_false (fun q=>nomatch q)
def bL (prog:Program) (w:World):PySem.KeyKind prog w Key where
 is:=vI
 hash:=aMA w
 inj:=fun v a b ha hb=>by
  rcases cS ha with ⟨i,t,rfl,rfl⟩ | ⟨x,t,rfl,rfl⟩
  ·rcases cS hb with ⟨j,u,rfl,e⟩ | ⟨y,u,rfl,e⟩
   ·injection e with e1 _;rw [e1]
   ·exact nomatch e
  ·rcases cS hb with ⟨j,u,rfl,e⟩ | ⟨y,u,rfl,e⟩
   ·exact nomatch e
   ·injection e with e1 _;rw [e1]
 byValue:=fun k v h=>by
  rcases cS h with ⟨i,t,rfl,rfl⟩ | ⟨x,t,rfl,rfl⟩ <;> rfl
 pyHash:=fun hv h=>by
  rcases cS hv with ⟨i,t,rfl,rfl⟩ | ⟨x,t,rfl,rfl⟩
  ·exact wpAny_pyHash_int h
  ·exact wpAny_pyHash_str h
 eqBool:=fun hu hv h=>by
  rcases cS hu with ⟨i,t,rfl,rfl⟩ | ⟨x,t,rfl,rfl⟩
  ·rcases cS hv with ⟨j,u,rfl,rfl⟩ | ⟨y,u,rfl,rfl⟩
   ·rw [aJN] at h;exact wpAny_eqBool_int h
   ·rw [aJM] at h;exact SeqAt.EqAt.int_str i t y u _ _ _ _ h
  ·rcases cS hv with ⟨j,u,rfl,rfl⟩ | ⟨y,u,rfl,rfl⟩
   ·rw [aJL] at h;exact SeqAt.EqAt.str_int x t j u _ _ _ _ h
   ·rw [aJK] at h;exact wpAny_eqBool_str h
 «strs»:=fun k x t v h=>by
  rcases cS h with ⟨i,u,rfl,e⟩ | ⟨y,u,rfl,e⟩
  ·exact nomatch e
  ·injection e with e1 _
   subst e1
   cases v <;> rfl
end L2
namespace L2
open PySem PySem.Spec PyProof.Rows
inductive V where
 | non | bl (b:Bool) | int (i:Int) | str (x:Str) | byt (b:Array UInt8) | flt (b:UInt64) | ref (a:Addr) | ty (n:String)
 deriving DecidableEq
def bO:V → Value → Prop
 | .non,u=>u = Value.none
 | .bl b,u=>u = Value.bool b
 | .int i,u=>∃ t,u = Value.int i t
 | .str x,u=>∃ t,u = Value.str x t
 | .byt b,u=>∃ t,u = Value.bytes b t
 | .flt b,u=>∃ t,u = Value.float b t
 | .ref a,u=>u = Value.ref a
 | .ty n,u=>u = Value.type n
abbrev bB:List V → List Value → Prop:=Paired bO
theorem bB.length {xs:List V} {us:List Value} (r:bB xs us):xs.length = us.length:=Paired.length r
theorem bB.get:∀ {xs:List V} {us:List Value} {i:Nat} {x:V},bB xs us → xs[i]? = some x → ∃ u,us[i]? = some u ∧ bO x u
 | _,_,_,_,.nil,e=>by simp at e
 | _,_,0,_,.cons r _,e=>by simp at e;subst e;exact ⟨_,rfl,r⟩
 | _,_,i + 1,x,.cons _ t,e=>by
  obtain ⟨u,h1,h2⟩:=bB.get (i:=i) (x:=x) t (by simpa using e)
  exact ⟨u,by simpa using h1,h2⟩
theorem bB.set {x:V} {u:Value} (r:bO x u):∀ {xs:List V} {us:List Value} (i:Nat),bB xs us → bB (xs.set i x) (us.set i u)
 | _,_,_,.nil=>.nil
 | _,_,0,.cons _ t=>.cons r t
 | _,_,i + 1,.cons q t=>.cons q (bB.set r i t)
theorem bB.append:∀ {xs ys:List V} {us ws:List Value},bB xs us → bB ys ws → bB (xs ++ ys) (us ++ ws)
 | _,_,_,_,.nil,s=>s
 | _,_,_,_,.cons r t,s=>.cons r (bB.append t s)
theorem bB.take:∀ {xs:List V} {us:List Value} (n:Nat),bB xs us → bB (xs.take n) (us.take n)
 | _,_,0,_=>.nil
 | _,_,_ + 1,.nil=>.nil
 | _,_,n + 1,.cons r t=>.cons r (bB.take n t)
theorem bB.drop:∀ {xs:List V} {us:List Value} (n:Nat),bB xs us → bB (xs.drop n) (us.drop n)
 | _,_,0,r=>r
 | _,_,_ + 1,.nil=>.nil
 | _,_,n + 1,.cons _ t=>bB.drop n t
def uL:Option V → Option Value → Prop
 | some v,some u=>bO v u
 | none,none=>True
 | _,_=>False
def KV {κ:Type}:List (κ × V) → List (κ × Value) → Prop:=Paired fun (p:κ × V) (q:κ × Value)=>p.1 = q.1 ∧ bO p.2 q.2
def kV:Key → V
 | .inl i=>.int i
 | .inr x=>.str x
inductive HO where
 /-- a list -/
 | lst (xs:List V)
 /-- a tuple (never changes) -/
 | tup (xs:List V)
 /-- a dict whose keys are ints and texts;one whose keys are tuples of ints and texts (the empty one is both) -/
 | dK (kvs:List (Key × V)) | dT (kvs:List (List Key × V))
 /-- a set of ints: its members,its size -/
 | set (S:Int → Bool) (n:Nat)
 /-- an instance of the class at C,its dict at dx,its attributes -/
 | ins (C dx:Addr) (fs:List (Str × V))
 /-- the dict of the instance at x -/
 | own (x:Addr)
 /-- the dict of an exception -/
 | xd (fs:List (Str × V))
 /-- a bound method,f of x -/
 | met (f x:Addr)
 /-- a range object lo,lo + 1,.. below hi -/
 | rng (lo hi:Int)
 /-- a thing that is known to the object (the script;a dict while a loop walks it): read,never written while it is so -/
 | frz (o:Obj) (u:HO)
 /-- a aLK object's table -/
 | tbl (ps:Array Value)
 /-- any other thing,by what is true of its one object (a def of one's own: aDM a S n:=HO.ext fun h=>..) -/
 | ext (φ:Heap → Prop)
abbrev Hp:=Addr → Option HO
def upd (H:Hp) (a:Addr) (o:HO):Hp:=fun b=>if b = a then some o else H b
theorem aF {H:Hp} {a:Addr} {o:HO}:upd H a o a = some o:=by unfold upd;rw [if_pos rfl]
theorem aR {H:Hp} {a b:Addr} {o:HO} (h:b ≠ a):upd H a o b = H b:=by unfold upd;rw [if_neg h]
theorem aEV {H:Hp} {a b:Addr} {o u:HO} (h:H a = some o) (h':H b = some u) (d:o ≠ u):a ≠ b:=by
 intro e;subst e;rw [h] at h';exact d (Option.some.inj h')
theorem aU {H:Hp} {a b:Addr} {o:HO} (h:H a = some o) (h':H b = none):a ≠ b:=by
 intro e;subst e;rw [h] at h';cases h'
def nM (h:Heap) (a:Addr) (its:Array Value):Prop:=∃ o,h.get? a = some o ∧ o.cls = .type "tuple" ∧ ∃ n,o.data = .seq its n ∧ o.dict = none
theorem nM.tup {h:Heap} {a:Addr} {its:Array Value} (x:nM h a its):IsTup h a its:=by
 obtain ⟨o,e,c,n,d,_⟩:=x
 exact ⟨o,e,c,n,d⟩
theorem nM.new (h:Heap) (its:Array Value):nM (h.push { cls:=.type "tuple",data:=.seq its }) h.objs.size its:=⟨_,Heap.get?_push_size _ rfl,rfl,_,rfl,rfl⟩
section
variable (P:Program) (w:World)
def cN (H:Hp) (h:Heap) (a:Addr):HO → Prop
 | .lst xs=>xs.length ≤ sizeLine ∧ ∃ (its:List Value) (n:Nat),bB xs its ∧ h.get? a = some { cls:=.type "list",data:=.seq its.toArray n }
 | .tup xs=>xs.length ≤ sizeLine ∧ ∃ its:List Value,bB xs its ∧ nM h a its.toArray
 | .dK kvs=>kvs.length ≤ sizeLine ∧ (a == sysModules) = false ∧ ∃ vs,KV kvs vs ∧ h.DictOf (bL P w) a vs
 | .dT kvs=>kvs.length ≤ sizeLine ∧ (a == sysModules) = false ∧ ∃ xs:List (List Key × Addr × Value),
   Paired (fun (p:List Key × V) (q:List Key × Addr × Value)=>p.1 = q.1 ∧ H q.2.1 = some (.tup (p.1.map kV)) ∧ bO p.2 q.2.2) kvs xs ∧
   ∃ o es ep,h.get? a = some o ∧ o.ExactDict ∧ o.data = .dict es ep ∧ es.toList = xs.map (entryOfKey (tupleKind (bL P w))) ∧ (xs.map (·.1)).Nodup
 | .set S n=>h.SetOf (intKind P w) a S n
 | .ins C dx fs=>H dx = some (.own a) ∧ fs.length ≤ 1000 ∧ dx ≠ a ∧ h.get? a = some (PySem.W.instObj C dx) ∧
   ∃ mA,h.Ns1 dx mA ∧ (∀ f,uL (fs.lookup f) (mA f)) ∧ PySem.Within mA (fs.map (·.1))
 | .own _=>∃ o,h.get? a = some o
 | .xd fs=>∃ mA,h.Ns1 a mA ∧ ∀ f,uL (fs.lookup f) (mA f)
 | .rng lo hi=>∃ t u v,h.get? a = some { cls:=.type "range",data:=.fields #[.int lo t,.int hi u,.int 1 v] }
 | .frz o u=>h.get? a = some o ∧ cN H h a u
 | .tbl ps=>h.get? a = some { cls:=.none,data:=.fields ps }
 | .met f x=>h.get? a = some (PySem.W.methodObj (.ref f) (.ref x))
 | .ext φ=>φ h ∧ (∃ o,h.get? a = some o) ∧ ∀ h1 h2:Heap,φ h1 → (∀ o,h1.get? a = some o → h2.get? a = some o) → φ h2
def HOk (H:Hp) (h:Heap):Prop:=∀ a o,H a = some o → cN P w H h a o
end
section
variable {P:Program} {w:World} {H H':Hp} {h h':Heap} {a:Addr} {o:HO}
theorem cN.lt (x:cN P w H h a o):a < h.objs.size:=by
 cases o with
 | lst xs=>obtain ⟨_,_,_,_,e⟩:=x;exact Heap.lt_size e
 | tup xs=>obtain ⟨_,_,_,_,e,_⟩:=x;exact Heap.lt_size e
 | dK kvs=>obtain ⟨_,_,_,_,o,_,_,e,_⟩:=x;exact Heap.lt_size e
 | dT kvs=>obtain ⟨_,_,_,_,o,_,_,e,_⟩:=x;exact Heap.lt_size e
 | set S n=>obtain ⟨o,_,_,_,e,_⟩:=x;exact Heap.lt_size e
 | ins C dx fs=>obtain ⟨_,_,_,e,_⟩:=x;exact Heap.lt_size e
 | own y=>obtain ⟨_,e⟩:=x;exact Heap.lt_size e
 | xd fs=>obtain ⟨_,⟨_,_,_,e,_⟩,_⟩:=x;exact Heap.lt_size e
 | rng lo hi=>obtain ⟨_,_,_,e⟩:=x;exact Heap.lt_size e
 | frz ob u=>obtain ⟨e,_⟩:=x;exact Heap.lt_size e
 | tbl ps=>exact Heap.lt_size (show h.get? a = some _ from x)
 | met f y=>exact Heap.lt_size (show h.get? a = some _ from x)
 | ext φ=>obtain ⟨_,⟨_,e⟩,_⟩:=x;exact Heap.lt_size e
theorem Paired.mapP {α β:Type} {F G:α → β → Prop}:∀ {l₁:List α} {l₂:List β},Paired F l₁ l₂ → (∀ a b,F a b → G a b) → Paired G l₁ l₂
 | _,_,.nil,_=>.nil
 | _,_,.cons r t,f=>.cons (f _ _ r) (Paired.mapP t f)
theorem cN.stay (x:cN P w H h a o) (k:∀ b u,(b = a ∨ H b = some (.own a)) → h.get? b = some u → h'.get? b = some u)
  (ho:∀ b,H b = some (.own a) → H' b = some (.own a)) (ht:∀ b xs,H b = some (.tup xs) → H' b = some (.tup xs)):cN P w H' h' a o:=by
 induction o with
 | lst xs=>obtain ⟨z,its,n,r,e⟩:=x;exact ⟨z,its,n,r,k _ _ (.inl rfl) e⟩
 | tup xs=>obtain ⟨z,its,r,ob,e,c⟩:=x;exact ⟨z,its,r,ob,k _ _ (.inl rfl) e,c⟩
 | dK kvs=>obtain ⟨z,y,vs,r,ob,es,ep,e,c⟩:=x;exact ⟨z,y,vs,r,ob,es,ep,k _ _ (.inl rfl) e,c⟩
 | dT kvs =>
  obtain ⟨z,y,xs,r,ob,es,ep,e,c⟩:=x
  exact ⟨z,y,xs,Paired.mapP r fun p q z=>⟨z.1,ht _ _ z.2.1,z.2.2⟩,ob,es,ep,k _ _ (.inl rfl) e,c⟩
 | set S n=>obtain ⟨ob,es,ep,t,e,c⟩:=x;exact ⟨ob,es,ep,t,k _ _ (.inl rfl) e,c⟩
 | ins C dx fs =>
  obtain ⟨d,z,ne,e,mA,⟨od,es,ep,e2,c⟩,r⟩:=x
  exact ⟨ho _ d,z,ne,k _ _ (.inl rfl) e,mA,⟨od,es,ep,k _ _ (.inr d) e2,c⟩,r⟩
 | own y=>obtain ⟨ob,e⟩:=x;exact ⟨ob,k _ _ (.inl rfl) e⟩
 | xd fs=>obtain ⟨mA,⟨od,es,ep,e,c⟩,r⟩:=x;exact ⟨mA,⟨od,es,ep,k _ _ (.inl rfl) e,c⟩,r⟩
 | rng lo hi=>obtain ⟨t,u,v,e⟩:=x;exact ⟨t,u,v,k _ _ (.inl rfl) e⟩
 | frz ob u ih=>obtain ⟨e,q⟩:=x;exact ⟨k _ _ (.inl rfl) e,ih q⟩
 | tbl ps =>
  have e:h.get? a = some { cls:=.none,data:=.fields ps }:=x
  show h'.get? a = some { cls:=.none,data:=.fields ps }
  exact k a _ (.inl rfl) e
 | met f y =>
  have e:h.get? a = some (PySem.W.methodObj (.ref f) (.ref y)):=x
  show h'.get? a = some (PySem.W.methodObj (.ref f) (.ref y))
  exact k a _ (.inl rfl) e
 | ext φ=>obtain ⟨p,⟨o,e⟩,st⟩:=x;exact ⟨st _ _ p fun o q=>k _ _ (.inl rfl) q,⟨o,k _ _ (.inl rfl) e⟩,st⟩
theorem HOk.lt (x:HOk P w H h) (e:H a = some o):a < h.objs.size:=(x a o e).lt
theorem HOk.fresh (x:HOk P w H h) (e:h.objs.size ≤ a):H a = none:=by
 cases q:H a with
 | none=>rfl
 | some u=>exact absurd (Nat.lt_of_lt_of_le (x.lt q) e) (Nat.lt_irrefl _)
theorem HOk.kept (x:HOk P w H h) (k:∀ b u,h.get? b = some u → h'.get? b = some u):HOk P w H h':=fun a o e =>
 (x a o e).stay (fun b u _ q=>k b u q) (fun _ q=>q) fun _ _ q=>q
theorem HOk.laid (x:HOk P w H h) (k:∀ b u,h.get? b = some u → h'.get? b = some u) (hp:h.objs.size ≤ a) (new:cN P w (upd H a o) h' a o):HOk P w (upd H a o) h':=fun b u e=>by
 have hn:=x.fresh hp
 by_cases hb:b = a
 ·subst hb;rw [aF] at e;cases e;exact new
 ·rw [aR hb] at e
  exact (x b u e).stay (fun c v _ q=>k c v q) (fun c q=>by rw [aR (aU q hn)];exact q) fun c xs q=>by rw [aR (aU q hn)];exact q
end
def Rd (H:Hp) (a:Addr) (u:HO):Prop:=H a = some u ∨ ∃ o,H a = some (.frz o u)
theorem Rd.ok {P:Program} {w:World} {H:Hp} {h:Heap} {a:Addr} {u:HO} (r:Rd H a u) (x:HOk P w H h):cN P w H h a u:=by
 rcases r with r | ⟨o,r⟩
 ·exact x a u r
 ·obtain ⟨_,q⟩:=x a _ r
  exact q
def Mut:Option HO → Prop
 | some (.lst _)=>True
 | some (.dK _)=>True
 | some (.dT _)=>True
 | some (.set _ _)=>True
 | some (.ins _ _ _)=>True
 | some (.ext _)=>True
 | _=>False
section
variable {P:Program} {w:World} {H:Hp} {h h':Heap} {x e:Addr} {o':HO}
theorem HOk.write (ok:HOk P w H h) (mu:Mut (H x)) (he:e = x ∨ H e = some (.own x)) (k:∀ b u,b ≠ e → h.get? b = some u → h'.get? b = some u) (heo:∃ u,h'.get? e = some u)
  (new:cN P w (upd H x o') h' x o'):HOk P w (upd H x o') h':=fun b u q=>by
 have nown:∀ c y,H c = some (.own y) → c ≠ x:=fun c y r z=>by subst z;rw [r] at mu;exact mu
 have ntup:∀ c xs,H c = some (.tup xs) → c ≠ x:=fun c xs r z=>by subst z;rw [r] at mu;exact mu
 by_cases hb:b = x
 ·subst hb;rw [aF] at q;cases q;exact new
 ·rw [aR hb] at q
  by_cases hbe:b = e
  ·have q':H b = some (.own x):=by
    rcases he with z | z
    ·exact absurd (hbe.trans z) hb
    ·rw [hbe];exact z
   rw [q] at q';cases q'
   obtain ⟨v,hv⟩:=heo
   exact ⟨v,by rw [hbe];exact hv⟩
  ·refine (ok b u q).stay (fun c v hc r=>k c v ?_ r) (fun c r=>by rw [aR (nown c b r)];exact r) fun c xs r=>by rw [aR (ntup c xs r)];exact r
   rcases hc with rfl | hc
   ·exact hbe
   ·rintro rfl
    rcases he with z | z
    ·exact nown c b hc z
    ·rw [hc] at z;cases z;exact hb rfl
end
structure Un (fs ex:List Addr) (H H':Hp) (h h':Heap):Prop where
 keep:∀ b o,h.get? b = some o → H b = none → b ∉ fs → b ∉ ex → h'.get? b = some o
 slot:∀ b o,h.get? b = some o → H b = none → b ∈ fs → b ∉ ex → ∃ sl,h'.get? b = some { o with slots:=sl }
 free:∀ b o,h.get? b = some o → H b = none → b ∉ ex → H' b = none
 there:∀ b o,h.get? b = some o → b ∉ ex → ∃ o',h'.get? b = some o'
 tups:∀ b xs,H b = some (.tup xs) → H' b = some (.tup xs)
 frzs:∀ b o u,H b = some (.frz o u) → H' b = some (.frz o u)
 tbls:∀ b ps,H b = some (.tbl ps) → ∃ more,H' b = some (.tbl (ps ++ more))
section
variable {fs fs' ex ex':List Addr} {H H1 H2:Hp} {h h1 h2 h':Heap} {a x e:Addr} {o:HO}
theorem Un.any (u:Un fs ex H H1 h h1) {b:Addr} {ob:Obj} (q:h.get? b = some ob) (n:H b = none) (hx:b ∉ ex):∃ sl,h1.get? b = some { ob with slots:=sl }:=by
 by_cases hb:b ∈ fs
 ·exact u.slot b ob q n hb hx
 ·exact ⟨ob.slots,u.keep b ob q n hb hx⟩
theorem Un.kept (k:∀ b u,h.get? b = some u → h'.get? b = some u):Un fs ex H H h h' :=
 ⟨fun b ob q _ _ _=>k b ob q,fun b ob q _ _ _=>⟨ob.slots,k b ob q⟩,fun _ _ _ n _=>n,fun b ob q _=>⟨ob,k b ob q⟩,fun _ _ q=>q,fun _ _ _ q=>q,fun _ ps q=>⟨#[],by rw [q];simp⟩⟩
theorem Un.refl:Un fs ex H H h h:=Un.kept fun _ _ q=>q
theorem Un.laid (k:∀ b u,h.get? b = some u → h'.get? b = some u) (hp:h.objs.size ≤ a) (hn:H a = none):Un fs ex H (upd H a o) h h' where
 keep:=fun b u q _ _ _=>k b u q
 slot:=fun b u q _ _ _=>⟨u.slots,k b u q⟩
 free:=fun b u q n _=>by rw [aR (Nat.ne_of_lt (Nat.lt_of_lt_of_le (Heap.lt_size q) hp))];exact n
 there:=fun b u q _=>⟨u,k b u q⟩
 tups:=fun b xs q=>by rw [aR (aU q hn)];exact q
 frzs:=fun b u xs q=>by rw [aR (aU q hn)];exact q
 tbls:=fun b ps q=>⟨#[],by rw [aR (aU q hn),q];simp⟩
theorem Un.write (mu:Mut (H x)) (he:e = x ∨ H e = some (.own x)) (k:∀ b u,b ≠ e → h.get? b = some u → h'.get? b = some u) (heo:∃ u,h'.get? e = some u):Un fs ex H (upd H x o) h h':=by
 have hx:∀ b,H b = none → b ≠ x:=fun b n z=>by subst z;rw [n] at mu;exact mu
 have hb:∀ b,H b = none → b ≠ e:=fun b n z=>by
  subst z
  rcases he with r | r
  ·exact hx b n r
  ·rw [n] at r;cases r
 have hm:∀ b u,H b = some u → ¬ Mut (some u) → b ≠ x:=fun b u q nm z=>by subst z;rw [q] at mu;exact nm mu
 refine ⟨fun b u q n _ _=>k b u (hb b n) q,fun b u q n _ _=>⟨u.slots,k b u (hb b n) q⟩,fun b u q n _=>by rw [aR (hx b n)];exact n,fun b u q _=>?_,
  fun b xs q=>by rw [aR (hm b _ q fun z=>z)];exact q,fun b u xs q=>by rw [aR (hm b _ q fun z=>z)];exact q,fun b ps q=>⟨#[],by rw [aR (hm b _ q fun z=>z),q];simp⟩⟩
 by_cases hbe:b = e
 ·subst hbe;exact heo
 ·exact ⟨u,k b u hbe q⟩
end
def trk (h:Heap) (H:Hp):List Addr:=(List.range h.objs.size).filter fun a=>(H a).isSome
def wV (h:Heap) (H:Hp):Heap:=PySem.W.hideAll h (trk h H)
theorem aCS (h:Heap) (H:Hp):(wV h H).objs.size = h.objs.size:=PySem.W.hideAll_size _ _
theorem aFH {h:Heap} {H:Hp} {b:Addr} {o:Obj} (e:h.get? b = some o) (n:H b = none):(wV h H).get? b = some o :=
 PySem.W.hideAll_get _ e fun hm=>by
  have q:(H b).isSome = true:=(List.mem_filter.mp hm).2
  rw [n] at q;simp at q
theorem aHA {h:Heap} {H:Hp} {b:Addr} {o:Obj} (e:(wV h H).get? b = some o):h.get? b = some o ∧ H b = none:=by
 have e':h.get? b = some o:=PySem.W.of_hideAll (trk h H) e
 refine ⟨e',?_⟩
 cases q:H b with
 | none=>rfl
 | some x =>
  have hm:b ∈ trk h H:=List.mem_filter.mpr ⟨List.mem_range.mpr (Heap.lt_size e'),by simp [q]⟩
  have z:(wV h H).get? b = none:=PySem.W.hideAll_none (trk h H) hm
  rw [z] at e;cases e
def aHW (g h:Heap) (L:Addr):List (Addr × Obj):=(List.range h.objs.size).filterMap fun a=>if a = L ∨ (g.get? a).isSome = true then none else (h.get? a).map fun o=>(a,o)
def kN (g h:Heap) (L d:Addr):List (Addr × Obj):=(aHW g h L).filter fun p=>decide (p.1 ≠ d)
end L2
namespace L2
open PySem PySem.Spec PyProof.Rows
structure Mod (K:PySem.W.Frag) (mg:Str → Option Value) (base:Heap):Prop where
 kin:K.In base
 glob:base.Ns mainGlobals mg
 blt:∃ mb,base.Ns builtinsNs mb ∧ ∀ x:Str,x ≠ "__name__" → mb x = bootBuiltins x
 nolimit:base.NoLimit
structure Cx where
 prog:Program
 w:World
 K:PySem.W.Frag
 mg:Str → Option Value
 base:Heap
 A:Around
 N:List Str
 s₀:Shared
 H₀:Hp
 env:Env
 outer:List Env
 stack:List Env
 ex:List Addr
 fn:Str → Bool
 calm:Bool
 pn:List (Addr × Obj)
 xe:Value → Shared → Prop
def frs (l:List Env):List Addr:=l.filterMap (·.frame)
abbrev Cx.fs (X:Cx):List Addr:=frs X.outer
def Vis (sc:Scope) (x:Str):Prop:=sc.names.lookup x = some .local ∨ sc.names.lookup x = some .cell ∨ sc.names.lookup x = some .free
def Loc (sc:Scope) (x:Str):Prop:=sc.names.lookup x = some .local ∨ sc.names.lookup x = some .cell
def aMG (env:Env) (h:Heap) (m:Str → Option Value) (x:Str) (u:Value):Prop :=
 (env.kindOf x = some .local ∧ m x = some u) ∨ ((env.kindOf x = some .cell ∨ env.kindOf x = some .free) ∧ ∃ c,env.cells.lookup x = some c ∧ h.IsCell c (some u))
structure Cx.Ok (X:Cx):Prop where
 mod:Mod X.K X.mg X.base
 kind:X.env.scope.kind = .function
 glob:X.env.globals = mainGlobals
 blt:X.env.builtins = builtinsNs
 above:X.s₀.heap.objs.size ≤ X.env.locals
 inj:∀ x y c,X.env.cells.lookup x = some c → X.env.cells.lookup y = some c → x = y
 has:∀ x,(X.env.kindOf x = some .cell ∨ X.env.kindOf x = some .free) → ∃ c,X.env.cells.lookup x = some c
 cab:∀ x c,X.fn x = true → X.env.cells.lookup x = some c → X.s₀.heap.objs.size ≤ c
 hd:X.calm = true → X.A.handled = none
 frames:X.A.frames = some X.stack
 stk:X.stack = X.outer ∨ (X.stack = X.env :: X.outer ∧ X.env.frame = some X.env.locals)
 exf:∀ b ∈ X.ex,b ≠ X.env.locals ∧ ∀ x c,X.env.cells.lookup x = some c → c ≠ b
 bs:∀ b o,X.base.get? b = some o → X.s₀.heap.get? b = some o ∧ X.H₀ b = none
 bsz:X.base.objs.size ≤ X.s₀.heap.objs.size
 noex:∀ b o,X.base.get? b = some o → b ∉ X.ex
 exfs:∀ b ∈ X.ex,b ∉ X.fs
 funs:X.s₀.heap.FunFrames X.base X.outer
 frf:∀ b ∈ X.fs,X.H₀ b = none
structure Inv (X:Cx) (pins:List (Addr × Obj)) (σ:List (Option V)) (H:Hp) (s:Shared):Prop where
 ok:X.Ok
 os:s.os = X.s₀.os
 bare:AllBare s.gens
 base:Un X.fs X.ex X.H₀ H X.s₀.heap s.heap
 loc:∃ m,s.heap.Ns X.env.locals m ∧ ∀ (i:Nat) (x:Str) (v:V),X.N[i]? = some x → σ[i]? = some (some v) → Vis X.env.scope x → ∃ u,bO v u ∧ aMG X.env s.heap m x u
 cell:∀ x c,X.env.cells.lookup x = some c → ∃ v,s.heap.IsCell c v
 free:H X.env.locals = none
 freeC:∀ x c,X.env.cells.lookup x = some c → H c = none
 pin:∀ p ∈ X.pn ++ pins,s.heap.get? p.1 = some p.2 ∧ H p.1 = none ∧ p.1 ≠ X.env.locals ∧ p.1 ∉ X.fs ∧ ∀ v,p.2.data ≠ .cell v
 hok:HOk X.prog X.w H s.heap
 len:σ.length = X.N.length
section
variable {X:Cx} {pins:List (Addr × Obj)} {σ:List (Option V)} {H H':Hp} {s:Shared} {h':Heap}
theorem Cx.Ok.nofr (ok:X.Ok) {b:Addr} {o:Obj} (e:X.base.get? b = some o):b ∉ X.fs:=fun hb=>by
 have:=(ok.funs.mem hb).1
 rw [e] at this;cases this
theorem Inv.bs (I:Inv X pins σ H s):∀ b o,X.base.get? b = some o → s.heap.get? b = some o ∧ H b = none:=fun b o e =>
 ⟨I.base.keep b o (I.ok.bs b o e).1 (I.ok.bs b o e).2 (I.ok.nofr e) (I.ok.noex b o e),I.base.free b o (I.ok.bs b o e).1 (I.ok.bs b o e).2 (I.ok.noex b o e)⟩
theorem Inv.bk (I:Inv X pins σ H s):∀ b o,X.base.get? b = some o → s.heap.get? b = some o:=fun b o e=>(I.bs b o e).1
theorem Inv.mod (I:Inv X pins σ H s):Mod X.K X.mg X.base:=I.ok.mod
theorem Inv.kIn (I:Inv X pins σ H s):X.K.In s.heap:=I.ok.mod.kin.keeps I.bk
theorem Inv.fr (I:Inv X pins σ H s):∃ m,Fr X.base X.env.locals s.heap m :=
 let ⟨m,hn,_⟩:=I.loc
 ⟨m,hn,I.bk,Nat.le_trans I.ok.bsz I.ok.above⟩
theorem Inv.lt (I:Inv X pins σ H s):X.env.locals < s.heap.objs.size:=let ⟨_,hn,_⟩:=I.loc;hn.lt
theorem Inv.sz (I:Inv X pins σ H s):X.s₀.heap.objs.size ≤ s.heap.objs.size:=Nat.le_trans I.ok.above (Nat.le_of_lt I.lt)
theorem Inv.nofs (I:Inv X pins σ H s) {a:Addr} (h:s.heap.objs.size ≤ a):a ∉ X.fs:=fun hb=>by
 obtain ⟨_,o,ho,_⟩:=I.ok.funs.mem hb
 exact absurd (Nat.lt_of_lt_of_le (Heap.lt_size ho) (Nat.le_trans I.sz h)) (Nat.lt_irrefl _)
theorem Inv.cne (I:Inv X pins σ H s):∀ x c,X.env.cells.lookup x = some c → c ≠ X.env.locals:=fun x c e z=>by
 obtain ⟨v,o,ho,hd⟩:=I.cell x c e
 obtain ⟨m,⟨o',es,ep,ho',hd',_⟩,_⟩:=I.loc
 rw [z,ho'] at ho;cases ho;rw [hd'] at hd;cases hd
theorem Inv.funs (I:Inv X pins σ H s):s.heap.FunFrames X.base X.outer:=by
 have all:∀ (l:List Env),(∀ b ∈ frs l,b ∈ X.fs) → X.s₀.heap.FunFrames X.base l → s.heap.FunFrames X.base l:=by
  intro l
  induction l with
  | nil=>intro _ _;trivial
  | cons env r ih =>
   intro hs hl
   obtain ⟨hk,⟨L,o,hf,hn,ho,hd⟩,hr⟩:=hl
   have hL:L ∈ X.fs:=hs L (by unfold frs;rw [List.filterMap_cons,hf];exact List.mem_cons_self)
   obtain ⟨sl,e⟩:=I.base.slot L o ho (I.ok.frf L hL) hL fun z=>I.ok.exfs L z hL
   exact ⟨hk,⟨L,_,hf,hn,e,hd⟩,ih (fun b hb=>hs b (by unfold frs;rw [List.filterMap_cons,hf];exact List.mem_cons_of_mem _ hb)) hr⟩
 exact all X.outer (fun _ hb=>hb) I.ok.funs
theorem Inv.stack (I:Inv X pins σ H s):s.heap.FunFrames X.base X.stack:=by
 rcases I.ok.stk with e | ⟨e,hf⟩
 ·rw [e];exact I.funs
 ·rw [e]
  obtain ⟨m,hn,_⟩:=I.loc
  refine .cons (by rw [I.ok.kind];decide) hf hn ?_ I.funs
  exact Heap.get?_none_of_le (Nat.le_trans I.ok.bsz I.ok.above)
theorem Inv.stkSub (I:Inv X pins σ H s):∀ b ∈ frs X.stack,b ∈ X.env.locals :: X.fs:=fun b hb=>by
 rcases I.ok.stk with e | ⟨e,hf⟩
 ·rw [e] at hb;exact List.mem_cons_of_mem _ hb
 ·rw [e] at hb
  unfold frs at hb
  rw [List.filterMap_cons,hf] at hb
  exact hb
theorem Inv.stkFree (I:Inv X pins σ H s):∀ b ∈ frs X.stack,H b = none:=fun b hb=>by
 rcases List.mem_cons.mp (I.stkSub b hb) with e | hb
 ·rw [e];exact I.free
 ·obtain ⟨_,o,ho,_⟩:=I.ok.funs.mem hb
  exact I.base.free b o ho (I.ok.frf b hb) fun z=>I.ok.exfs b z hb
theorem Inv.step {g':Array GenState} {t':Nat} {d':Drawn} {ch:List Addr} (I:Inv X pins σ H s)
  (hch:∀ b ∈ ch,(b ∈ X.ex ∨ X.s₀.heap.objs.size ≤ b) ∧ b ≠ X.env.locals ∧ (∀ x c,X.env.cells.lookup x = some c → c ≠ b) ∧ ∀ p ∈ X.pn ++ pins,p.1 ≠ b)
  (keep:∀ b o,b ≠ X.env.locals → b ∉ X.fs → b ∉ ch → s.heap.get? b = some o → H b = none → h'.get? b = some o)
  (slot:∀ b o,b ≠ X.env.locals → b ∈ X.fs → b ∉ ch → s.heap.get? b = some o → H b = none → ∃ sl,h'.get? b = some { o with slots:=sl }) (free:∀ b o,b ∉ ch → s.heap.get? b = some o → H b = none → H' b = none)
  (there:∀ b o,b ∉ ch → s.heap.get? b = some o → ∃ o',h'.get? b = some o')
  (tups:∀ b xs,H b = some (.tup xs) → H' b = some (.tup xs)) (frzs:∀ b o u,H b = some (.frz o u) → H' b = some (.frz o u)) (tbls:∀ b ps,H b = some (.tbl ps) → ∃ more,H' b = some (.tbl (ps ++ more)))
  (ns:∀ m,s.heap.Ns X.env.locals m → h'.Ns X.env.locals m) (hok:HOk X.prog X.w H' h') (hg:AllBare g') :
  Inv X pins σ H' { s with heap:=h',gens:=g',drawn:=d',toks:=t' }:=by
 have neL:∀ b o,X.s₀.heap.get? b = some o → b ≠ X.env.locals:=fun b o e=>Nat.ne_of_lt (Nat.lt_of_lt_of_le (Heap.lt_size e) I.ok.above)
 have neC:∀ b o,X.s₀.heap.get? b = some o → b ∉ X.ex → b ∉ ch:=fun b o e hx hb=>by
  rcases (hch b hb).1 with z | z
  ·exact hx z
  ·exact absurd (Nat.lt_of_lt_of_le (Heap.lt_size e) z) (Nat.lt_irrefl _)
 have cellK:∀ x c,X.env.cells.lookup x = some c → ∀ v,s.heap.IsCell c v → h'.IsCell c v:=fun x c e v ⟨o,ho,hd⟩=>by
  have nch:c ∉ ch:=fun z=>(hch c z).2.2.1 x c e rfl
  by_cases hc:c ∈ X.fs
  ·obtain ⟨sl,q⟩:=slot c o (I.cne x c e) hc nch ho (I.freeC x c e)
   exact ⟨_,q,hd⟩
  ·exact ⟨o,keep c o (I.cne x c e) hc nch ho (I.freeC x c e),hd⟩
 refine ⟨I.ok,I.os,hg,⟨fun b o e n hb hx=>?_,fun b o e n hb hx=>?_,fun b o e n hx=>?_,fun b o e hx=>?_,fun b xs e=>tups b xs (I.base.tups b xs e),fun b o xs e=>frzs b o xs (I.base.frzs b o xs e),fun b ps e=>?_⟩,?_,fun x c e=>?_,?_,fun x c e=>?_,fun p hp=>?_,hok,I.len⟩
 ·exact keep b o (neL b o e) hb (neC b o e hx) (I.base.keep b o e n hb hx) (I.base.free b o e n hx)
 ·obtain ⟨sl,e1⟩:=I.base.slot b o e n hb hx
  obtain ⟨sl',e2⟩:=slot b _ (neL b o e) hb (neC b o e hx) e1 (I.base.free b o e n hx)
  exact ⟨sl',e2⟩
 ·obtain ⟨o',e1⟩:=I.base.there b o e hx
  exact free b o' (neC b o e hx) e1 (I.base.free b o e n hx)
 ·obtain ⟨o',e1⟩:=I.base.there b o e hx
  exact there b o' (neC b o e hx) e1
 ·obtain ⟨m1,e1⟩:=I.base.tbls b ps e
  obtain ⟨m2,e2⟩:=tbls b _ e1
  exact ⟨m1 ++ m2,by rw [e2,Array.append_assoc]⟩
 ·obtain ⟨m,hn,hl⟩:=I.loc
  refine ⟨m,ns m hn,fun i x v e1 e2 e3=>?_⟩
  obtain ⟨u,r,l⟩:=hl i x v e1 e2 e3
  refine ⟨u,r,?_⟩
  rcases l with l | ⟨k,c,e,z⟩
  ·exact .inl l
  ·exact .inr ⟨k,c,e,cellK x c e _ z⟩
 ·obtain ⟨v,z⟩:=I.cell x c e
  exact ⟨v,cellK x c e v z⟩
 ·obtain ⟨m,⟨o,_,_,ho,_⟩,_⟩:=I.loc
  exact free _ o (fun z=>(hch _ z).2.1 rfl) ho I.free
 ·obtain ⟨v,o,ho,hd⟩:=I.cell x c e
  exact free c o (fun z=>(hch c z).2.2.1 x c e rfl) ho (I.freeC x c e)
 ·obtain ⟨e,n,ne,nf,d⟩:=I.pin p hp
  have nch:p.1 ∉ ch:=fun z=>(hch p.1 z).2.2.2 p hp rfl
  exact ⟨keep p.1 p.2 ne nf nch e n,free p.1 p.2 nch e n,ne,nf,d⟩
theorem Inv.un {t':Nat} (I:Inv X pins σ H s) (u:Un X.fs [] H H' s.heap h') (hok:HOk X.prog X.w H' h'):Inv X pins σ H' { s with heap:=h',toks:=t' }:=by
 obtain ⟨m,⟨o,es,ep,ho,r⟩,_⟩:=id I.loc
 obtain ⟨sl,hL⟩:=u.any ho I.free (by simp)
 exact I.step (g':=s.gens) (d':=s.drawn) (ch:=[]) (fun _ z=>nomatch z) (fun b o _ hb _ e n=>u.keep b o e n hb (by simp)) (fun b o _ hb _ e n=>u.slot b o e n hb (by simp)) (fun b o _ e n=>u.free b o e n (by simp)) (fun b o _ e=>u.there b o e (by simp)) u.tups u.frzs u.tbls (fun m' hm=>by
  obtain ⟨o',es',ep',ho',r'⟩:=hm
  rw [ho] at ho';cases ho'
  exact ⟨_,es',ep',hL,r'⟩) hok I.bare
theorem Inv.call {g':Array GenState} {t':Nat} {d':Drawn} {ch:List Addr} (I:Inv X pins σ H s) (u:Un (frs X.stack) ch H H' s.heap h') (hok:HOk X.prog X.w H' h') (hg:AllBare g')
  (hch:∀ b ∈ ch,(b ∈ X.ex ∨ X.s₀.heap.objs.size ≤ b) ∧ b ≠ X.env.locals ∧ (∀ x c,X.env.cells.lookup x = some c → c ≠ b) ∧ ∀ p ∈ X.pn ++ pins,p.1 ≠ b) :
  Inv X pins σ H' { s with heap:=h',gens:=g',drawn:=d',toks:=t' }:=by
 obtain ⟨m,⟨o,es,ep,ho,r⟩,_⟩:=id I.loc
 obtain ⟨sl,hL⟩:=u.any ho I.free fun z=>(hch _ z).2.1 rfl
 exact I.step (ch:=ch) hch (fun b o hL hb hc e n=>u.keep b o e n (fun z=>(List.mem_cons.mp (I.stkSub b z)).elim hL hb) hc) (fun b o _ _ hc e n=>u.any e n hc) (fun b o hc e n=>u.free b o e n hc) (fun b o hc e=>u.there b o e hc) u.tups u.frzs u.tbls (fun m' hm=>by
  obtain ⟨o',es',ep',ho',r'⟩:=hm
  rw [ho] at ho';cases ho'
  exact ⟨_,es',ep',hL,r'⟩) hok hg
theorem Inv.turned {t':Nat} {it:Addr} (I:Inv X pins σ H s) (k:∀ b o,b ≠ it → s.heap.get? b = some o → h'.get? b = some o) (hn:H it = none) (hL:it ≠ X.env.locals)
  (h1:it ∈ X.ex ∨ X.s₀.heap.objs.size ≤ it) (h2:∀ x c,X.env.cells.lookup x = some c → c ≠ it) (h3:∀ p ∈ X.pn ++ pins,p.1 ≠ it):Inv X pins σ H { s with heap:=h',toks:=t' }:=by
 have nit:∀ b u,H b = some u → b ≠ it:=fun b u e z=>by rw [z,hn] at e;cases e
 refine I.step (g':=s.gens) (d':=s.drawn) (ch:=[it]) (fun b hb=>?_) (fun b o _ _ hc e _=>k b o (fun z=>hc (by simp [z])) e) (fun b o _ _ hc e _=>⟨o.slots,k b o (fun z=>hc (by simp [z])) e⟩) (fun _ _ _ _ n=>n)
  (fun b o hc e=>⟨o,k b o (fun z=>hc (by simp [z])) e⟩) (fun _ _ e=>e) (fun _ _ _ e=>e) (fun b ps e=>⟨#[],by rw [e];simp⟩) (fun m hm=>?_) (fun b u e=>?_) I.bare
 ·have e:b = it:=by simpa using hb
  subst e
  exact ⟨h1,hL,h2,h3⟩
 ·obtain ⟨o,es,ep,ho,r⟩:=hm
  exact ⟨o,es,ep,k _ o (Ne.symm hL) ho,r⟩
 ·refine (I.hok b u e).stay (fun c v hc q=>k c v ?_ q) (fun _ q=>q) fun _ _ q=>q
  rcases hc with z | z
  ·rw [z];exact nit b u e
  ·exact nit c _ z
theorem Inv.tok (I:Inv X pins σ H s) (t:Nat):Inv X pins σ H { s with toks:=t }:=I.un (h':=s.heap) (t':=t) Un.refl I.hok
theorem Inv.kept {t':Nat} (I:Inv X pins σ H s) (k:∀ b u,s.heap.get? b = some u → h'.get? b = some u):Inv X pins σ H { s with heap:=h',toks:=t' }:=I.un (Un.kept k) (I.hok.kept k)
theorem Inv.laid {a:Addr} {o:HO} {t':Nat} (I:Inv X pins σ H s) (k:∀ b u,s.heap.get? b = some u → h'.get? b = some u) (hp:s.heap.objs.size ≤ a) (new:cN X.prog X.w (upd H a o) h' a o) :
  Inv X pins σ (upd H a o) { s with heap:=h',toks:=t' }:=I.un (Un.laid k hp (I.hok.fresh hp)) (I.hok.laid k hp new)
theorem Inv.write {x e:Addr} {o:HO} {t':Nat} (I:Inv X pins σ H s) (mu:Mut (H x)) (he:e = x ∨ H e = some (.own x)) (k:∀ b u,b ≠ e → s.heap.get? b = some u → h'.get? b = some u) (heo:∃ u,h'.get? e = some u)
  (new:cN X.prog X.w (upd H x o) h' x o):Inv X pins σ (upd H x o) { s with heap:=h',toks:=t' }:=I.un (Un.write mu he k heo) (I.hok.write mu he k heo new)
theorem Inv.weak {σ':List (Option V)} (I:Inv X pins σ H s) (hl:σ'.length = σ.length) (w:∀ (i:Nat) v,σ'[i]? = some (some v) → σ[i]? = some (some v)):Inv X pins σ' H s :=
 ⟨I.ok,I.os,I.bare,I.base,let ⟨m,hn,hl'⟩:=I.loc;⟨m,hn,fun i x v e1 e2 e3=>hl' i x v e1 (w i v e2) e3⟩,I.cell,I.free,I.freeC,I.pin,I.hok,hl.trans I.len⟩
theorem Inv.pins_of {pins':List (Addr × Obj)} (I:Inv X pins σ H s) (h:∀ p ∈ pins',s.heap.get? p.1 = some p.2 ∧ H p.1 = none ∧ p.1 ≠ X.env.locals ∧ p.1 ∉ X.fs ∧ ∀ v,p.2.data ≠ .cell v):Inv X pins' σ H s :=
 ⟨I.ok,I.os,I.bare,I.base,I.loc,I.cell,I.free,I.freeC,fun p hp=>(List.mem_append.mp hp).elim (fun z=>I.pin p (List.mem_append_left _ z)) (h p),I.hok,I.len⟩
theorem sQ {N:List Str} (hN:N.Nodup) {i j:Nat} {x:Str} (a:N[i]? = some x) (b:N[j]? = some x):i = j:=by
 obtain ⟨h1,e1⟩:=List.getElem?_eq_some_iff.mp a
 obtain ⟨h2,e2⟩:=List.getElem?_eq_some_iff.mp b
 exact (List.getElem_inj hN).mp (e1.trans e2.symm)
theorem aBZ {M:Model} {A:Around} {E:Value → Shared → Prop} {i:Nat} {x:Str} {v:V} {u:Value} {Q:Unit → Shared → Prop} (I:Inv X pins σ H s) (hN:X.N.Nodup) (hi:X.N[i]? = some x) (hx:Loc X.env.scope x) (r:bO v u)
  (h:∀ s',Inv X pins (σ.set i (some v)) H s' → (∃ a,Heap.SameBut a s.heap s'.heap ∧ (a = X.env.locals ∨ X.env.cells.lookup x = some a)) → Q () s') (hf:X.fn x = true ∨ X.env.scope.names.lookup x = some .local:=by first | exact .inl rfl | exact .inr rfl | assumption):wpAny M A (storeName X.env x u) Q E s:=by
 obtain ⟨m,hn,hl⟩:=id I.loc
 have hcls:(X.env.scope.kind == .class || (X.env.scope.kind == .module && X.env.locals != X.env.globals)) = false:=by rw [I.ok.kind];rfl
 have hiσ:i < σ.length:=by rw [I.len];exact (List.getElem?_eq_some_iff.mp hi).1
 have cne:=I.cne
 have tracked:∀ {a:Addr} {h':Heap},(∃ o,s.heap.get? a = some o ∧ H a = none) → Heap.SameBut a s.heap h' → HOk X.prog X.w H h':=fun {a h'} ha hs b ob e=>by
  obtain ⟨_,_,hfree⟩:=ha
  refine (I.hok b ob e).stay (fun c w' hc q=>(hs.2 c ?_).trans q) (fun _ q=>q) fun _ _ q=>q
  rintro rfl
  rcases hc with rfl | hc
  ·rw [hfree] at e;cases e
  ·rw [hfree] at hc;cases hc
 rcases hx with hk | hk
 ·refine wpAny_storeName_local hk hn (fun h' hn' hs=>?_) hcls
  obtain ⟨oL,_,_,hoL,_⟩:=id hn
  refine h _ ⟨I.ok,I.os,I.bare,⟨fun b o e n hb hx=>?_,fun b o e n hb hx=>?_,I.base.free,fun b o e hx=>?_,I.base.tups,I.base.frzs,I.base.tbls⟩,⟨_,hn',fun j y v' e1 e2 e3=>?_⟩,fun y c e=>?_,I.free,I.freeC,fun p hp=>?_,tracked ⟨oL,hoL,I.free⟩ hs,by simpa using I.len⟩ ⟨_,hs,.inl rfl⟩
  ·exact (hs.2 b (Nat.ne_of_lt (Nat.lt_of_lt_of_le (Heap.lt_size e) I.ok.above))).trans (I.base.keep b o e n hb hx)
  ·obtain ⟨sl,e1⟩:=I.base.slot b o e n hb hx
   exact ⟨sl,(hs.2 b (Nat.ne_of_lt (Nat.lt_of_lt_of_le (Heap.lt_size e) I.ok.above))).trans e1⟩
  ·obtain ⟨o',e1⟩:=I.base.there b o e hx
   exact ⟨o',(hs.2 b (Nat.ne_of_lt (Nat.lt_of_lt_of_le (Heap.lt_size e) I.ok.above))).trans e1⟩
  ·by_cases hj:j = i
   ·subst hj
    rw [hi] at e1;cases e1
    rw [List.getElem?_set_self hiσ] at e2
    cases e2
    exact ⟨u,r,.inl ⟨hk,by simp⟩⟩
   ·rw [List.getElem?_set_ne (Ne.symm hj)] at e2
    obtain ⟨u',r',q⟩:=hl j y v' e1 e2 e3
    refine ⟨u',r',?_⟩
    rcases q with ⟨k,e⟩ | ⟨k,c,e,z⟩
    ·refine .inl ⟨k,?_⟩
     have:y ≠ x:=fun e=>hj (sQ hN e1 (e ▸ hi))
     simp [this,e]
    ·exact .inr ⟨k,c,e,z.sameBut hs (cne y c e)⟩
  ·obtain ⟨w',z⟩:=I.cell y c e
   exact ⟨w',z.sameBut hs (cne y c e)⟩
  ·obtain ⟨e,n,ne,nf,d⟩:=I.pin p hp
   exact ⟨(hs.2 p.1 ne).trans e,n,ne,nf,d⟩
 ·have hfn:X.fn x = true:=by
   rcases hf with z | z
   ·exact z
   ·rw [z] at hk;cases hk
  obtain ⟨c,hc⟩:=I.ok.has x (.inl hk)
  obtain ⟨w',z⟩:=I.cell x c hc
  refine wpAny_storeName_cell I.ok.kind hk hc z (fun h' hc' hs=>?_)
  obtain ⟨oc,hoc,hocd⟩:=id z
  refine h { s with heap:=h' } ⟨I.ok,I.os,I.bare,⟨fun b o e n hb hx=>?_,fun b o e n hb hx=>?_,I.base.free,fun b o e hx=>?_,I.base.tups,I.base.frzs,I.base.tbls⟩,⟨m,hn.sameBut hs (Ne.symm (cne x c hc)),fun j y v' e1 e2 e3=>?_⟩,fun y c' e=>?_,I.free,I.freeC,fun p hp=>?_,tracked ⟨oc,hoc,I.freeC x c hc⟩ hs,by simpa using I.len⟩ ⟨c,hs,.inr hc⟩
  ·exact (hs.2 b (Nat.ne_of_lt (Nat.lt_of_lt_of_le (Heap.lt_size e) (I.ok.cab x c hfn hc)))).trans (I.base.keep b o e n hb hx)
  ·obtain ⟨sl,e1⟩:=I.base.slot b o e n hb hx
   exact ⟨sl,(hs.2 b (Nat.ne_of_lt (Nat.lt_of_lt_of_le (Heap.lt_size e) (I.ok.cab x c hfn hc)))).trans e1⟩
  ·obtain ⟨o',e1⟩:=I.base.there b o e hx
   exact ⟨o',(hs.2 b (Nat.ne_of_lt (Nat.lt_of_lt_of_le (Heap.lt_size e) (I.ok.cab x c hfn hc)))).trans e1⟩
  ·by_cases hj:j = i
   ·subst hj
    rw [hi] at e1;cases e1
    rw [List.getElem?_set_self hiσ] at e2
    cases e2
    exact ⟨u,r,.inr ⟨.inl hk,c,hc,hc'⟩⟩
   ·rw [List.getElem?_set_ne (Ne.symm hj)] at e2
    obtain ⟨u',r',q⟩:=hl j y v' e1 e2 e3
    refine ⟨u',r',?_⟩
    rcases q with q | ⟨k,c',e,z'⟩
    ·exact .inl q
    ·refine .inr ⟨k,c',e,z'.sameBut hs ?_⟩
     rintro rfl
     exact hj (sQ hN e1 (I.ok.inj _ _ _ e hc ▸ hi))
  ·by_cases hcc:c' = c
   ·subst hcc;exact ⟨_,hc'⟩
   ·obtain ⟨w2,z2⟩:=I.cell y c' e
    exact ⟨w2,z2.sameBut hs hcc⟩
  ·obtain ⟨e,n,ne,nf,d⟩:=I.pin p hp
   refine ⟨(hs.2 p.1 ?_).trans e,n,ne,nf,d⟩
   intro q
   rw [q,hoc] at e
   have q':oc = p.2:=Option.some.inj e
   exact d w' (by rw [← q'];exact hocd)
theorem nP {M:Model} {A:Around} {E:Value → Shared → Prop} {i:Nat} {x:Str} {v:V} {u:Value} {Q:Unit → Shared → Prop} (I:Inv X pins σ H s) (hN:X.N.Nodup) (hi:X.N[i]? = some x) (hx:Loc X.env.scope x) (r:bO v u)
  (h:∀ s',Inv X pins (σ.set i (some v)) H s' → Q () s') (hf:X.fn x = true ∨ X.env.scope.names.lookup x = some .local:=by first | exact .inl rfl | exact .inr rfl | assumption):wpAny M A (storeName X.env x u) Q E s :=
 aBZ I hN hi hx r (fun s' I' _=>h s' I') hf
theorem Inv.call' {s':Shared} {ch:List Addr} (I:Inv X pins σ H s) (ho:s'.os = s.os) (u:Un (frs X.stack) ch H H' s.heap s'.heap) (hok:HOk X.prog X.w H' s'.heap) (hg:AllBare s'.gens)
  (hch:∀ b ∈ ch,(b ∈ X.ex ∨ X.s₀.heap.objs.size ≤ b) ∧ b ≠ X.env.locals ∧ (∀ x c,X.env.cells.lookup x = some c → c ≠ b) ∧ ∀ p ∈ X.pn ++ pins,p.1 ≠ b):Inv X pins σ H' s':=by
 obtain ⟨h',g',d',t',o'⟩:=s'
 have e:o' = s.os:=ho
 subst e
 exact I.call (g':=g') (t':=t') (d':=d') u hok hg hch
end
abbrev XK:=Value → Option Addr → Hp → Prop
abbrev St:=List (Option V)
abbrev VK:=V → Hp → Prop
abbrev TE:=St → Hp → VK → Prop
abbrev TT:=St → Hp → (Bool → Hp → Prop) → Prop
abbrev TA:=St → Hp → (List V → Hp → Prop) → Prop
structure Ends where
 nx:St → Hp → Prop
 rt:VK
 bk:St → Hp → Prop:=fun _ _=>False
 ct:St → Hp → Prop:=fun _ _=>False
abbrev TS:=Ends → St → Hp → Prop
def EP (X:Cx) (pins:List (Addr × Obj)) (σ:St) (Q:VK) (u:Value) (s':Shared):Prop:=∃ v H',Inv X pins σ H' s' ∧ bO v u ∧ Q v H'
def TP (X:Cx) (pins:List (Addr × Obj)) (σ:St) (Q:Bool → Hp → Prop) (b:Bool) (s':Shared):Prop:=∃ H',Inv X pins σ H' s' ∧ Q b H'
def AP (X:Cx) (pins:List (Addr × Obj)) (σ:St) (Q:List V → Hp → Prop) (us:List Value) (s':Shared):Prop:=∃ vs H',Inv X pins σ H' s' ∧ bB vs us ∧ Q vs H'
def SP (X:Cx) (pins:List (Addr × Obj)) (D:Ends) (f:Flow) (s':Shared):Prop :=
 match f with
 | .next=>∃ σ' H',Inv X pins σ' H' s' ∧ D.nx σ' H'
 | .brk=>∃ σ' H',Inv X pins σ' H' s' ∧ D.bk σ' H'
 | .cont=>∃ σ' H',Inv X pins σ' H' s' ∧ D.ct σ' H'
 | .ret u=>∃ v σ' H',Inv X pins σ' H' s' ∧ bO v u ∧ D.rt v H'
def PE (X:Cx) (e:Expr) (t:TE):Prop :=
 ∀ (pins:List (Addr × Obj)) (s:Shared) (σ:St) (H:Hp) (Q:VK),Inv X pins σ H s → t σ H Q → wpAny (model X.prog X.w) X.A (eval e X.env) (EP X pins σ Q) X.xe s
def PT (X:Cx) (e:Expr) (t:TT):Prop :=
 ∀ (pins:List (Addr × Obj)) (s:Shared) (σ:St) (H:Hp) (Q:Bool → Hp → Prop),Inv X pins σ H s → t σ H Q → wpAny (model X.prog X.w) X.A (isTrue e X.env (eval e X.env)) (TP X pins σ Q) X.xe s
def PW (X:Cx) (e:Expr) (t:TT):Prop :=
 ∀ (whole:Sem Value) (pins:List (Addr × Obj)) (s:Shared) (σ:St) (H:Hp) (Q:Bool → Hp → Prop),Inv X pins σ H s → t σ H Q → wpAny (model X.prog X.w) X.A (isTrue e X.env whole) (TP X pins σ Q) X.xe s
theorem PW.pt {X:Cx} {e:Expr} {t:TT} (h:PW X e t):PT X e t:=h _
def PA (X:Cx) (es:List Expr) (t:TA):Prop :=
 ∀ (pos:Pos) (pins:List (Addr × Obj)) (s:Shared) (σ:St) (H:Hp) (Q:List V → Hp → Prop),Inv X pins σ H s → t σ H Q → wpAny (model X.prog X.w) X.A (spliced (backTo pos (starEach es X.env))) (AP X pins σ Q) X.xe s
def PS (X:Cx) (st:Stmt) (t:TS):Prop :=
 ∀ (pins:List (Addr × Obj)) (s:Shared) (σ:St) (H:Hp) (D:Ends),Inv X pins σ H s → t D σ H → wpAny (model X.prog X.w) X.A (exec st X.env) (SP X pins D) X.xe s
def PSs (X:Cx) (st:List Stmt) (t:TS):Prop :=
 ∀ (pins:List (Addr × Obj)) (s:Shared) (σ:St) (H:Hp) (D:Ends),Inv X pins σ H s → t D σ H → wpAny (model X.prog X.w) X.A (execs st X.env) (SP X pins D) X.xe s
theorem thn {α:Type} {t:Sem α} {Q Q':α → Shared → Prop} {M:Model} {A:Around} {E:Value → Shared → Prop} {s:Shared} (h:wpAny M A t Q E s) (hQ:∀ a s,Q a s → Q' a s):wpAny M A t Q' E s:=wpAny_mono h hQ fun _ _ x=>x
end L2
namespace L2
open PySem PySem.Spec PyProof.Rows
section
variable {X:Cx}
def aJZ (i:Nat):TE:=fun σ H Q=>∃ v,σ[i]? = some (some v) ∧ Q v H
def tC (v:V):TE:=fun _ H Q=>Q v H
theorem aJA {i:Nat} {x:Str} {pos:Pos} (hN:X.N[i]? = some x) (hv:Vis X.env.scope x) (hd:(x == ("__debug__":Str)) = false:=by decide) (hcd:(x == ("__classdict__":Str)) = false:=by decide):PE X (.Name x pos) (aJZ i):=by
 intro pins s σ H Q I h
 obtain ⟨v,e,h⟩:=h
 obtain ⟨m,hn,hl⟩:=I.loc
 obtain ⟨u,r,l⟩:=hl i x v hN e hv
 have fin:EP X pins σ Q u s:=⟨v,H,I,r,h⟩
 rcases l with ⟨hk,hm⟩ | ⟨hk,c,hc,hcell⟩
 ·exact wpAny_Name (wpAny_loadName_local I.ok.kind hk hn hm fin) hd
 ·rcases hk with hk | hk
  ·exact wpAny_Name (wpAny_loadName_cell I.ok.kind hk hc hcell fin) hd
  ·exact wpAny_Name (wpAny_loadName_free I.ok.kind hk hc hcell fin hcd) hd
theorem aB {i j pos}:PE X (.Constant (.int i) j pos) (tC (.int i)):=fun _ _ _ H _ I h=>wpAny_Constant_int ⟨.int i,H,I.tok _,⟨_,rfl⟩,h⟩
theorem fM {b j pos}:PE X (.Constant (.bool b) j pos) (tC (.bl b)):=fun _ _ _ H _ I h=>Constant_bool ⟨.bl b,H,I,rfl,h⟩
theorem dO {j pos}:PE X (.Constant .none j pos) (tC .non):=fun _ _ _ H _ I h=>Constant_none ⟨.non,H,I,rfl,h⟩
theorem aN {x j pos}:PE X (.Constant (.str x) j pos) (tC (.str x)):=fun _ _ _ H _ I h=>Calls.Constant_str ⟨.str x,H,I.tok _,⟨_,rfl⟩,h⟩
def Gl (X:Cx) (x:Str):Prop:=X.env.kindOf x = some .globalImplicit
theorem iV {E:Value → Shared → Prop} {pins:List (Addr × Obj)} {s:Shared} {σ:St} {H:Hp} {x:Str} {u:Value} {pos:Pos} {Q:Value → Shared → Prop} (I:Inv X pins σ H s) (hg:Gl X x) (hm:X.mg x = some u) (h:Q u s)
  (hd:(x == ("__debug__":Str)) = false:=by decide):wpAny (model X.prog X.w) X.A (eval (.Name x pos) X.env) Q E s :=
 Calls.Name_function_global I.ok.kind hg (Calls.loadGlobal_global (by rw [I.ok.glob];exact I.mod.glob.keeps I.bk) hm h) hd
theorem pK {E:Value → Shared → Prop} {pins:List (Addr × Obj)} {s:Shared} {σ:St} {H:Hp} {x:Str} {u:Value} {pos:Pos} {Q:Value → Shared → Prop} (I:Inv X pins σ H s) (hg:Gl X x) (hm:X.mg x = none) (hv:bootBuiltins x = some u) (h:Q u s)
  (hn:x ≠ "__name__":=by decide) (hd:(x == ("__debug__":Str)) = false:=by decide):wpAny (model X.prog X.w) X.A (eval (.Name x pos) X.env) Q E s:=by
 obtain ⟨mb,h1,h2⟩:=I.mod.blt
 exact Calls.Name_function_global I.ok.kind hg (Calls.loadGlobal_builtin (by rw [I.ok.glob];exact I.mod.glob.keeps I.bk) hm (by rw [I.ok.blt];exact h1.keeps I.bk) ((h2 x hn).trans hv) h) hd
theorem cZ {x:Str} {v:V} {u:Value} {pos:Pos} (hg:Gl X x) (hm:X.mg x = some u) (r:bO v u) (hd:(x == ("__debug__":Str)) = false:=by decide):PE X (.Name x pos) (tC v) :=
 fun _ _ _ H _ I h=>iV I hg hm ⟨v,H,I,r,h⟩ hd
theorem aGX {x:Str} {v:V} {u:Value} {pos:Pos} (hg:Gl X x) (hm:X.mg x = none) (hv:bootBuiltins x = some u) (r:bO v u) (hn:x ≠ "__name__":=by decide) (hd:(x == ("__debug__":Str)) = false:=by decide):PE X (.Name x pos) (tC v) :=
 fun _ _ _ H _ I h=>pK I hg hm hv ⟨v,H,I,r,h⟩ hn hd
def t2I (ta tb:TE) (k:Int → Int → Hp → Prop):St → Hp → Prop:=fun σ H=>ta σ H fun x H1=>tb σ H1 fun y H2=>∃ i j,x = .int i ∧ y = .int j ∧ k i j H2
variable {a b:Expr} {ta tb:TE} {pos:Pos}
def tCmp (p:Int → Int → Bool) (ta tb:TE):TE:=fun σ H Q=>t2I ta tb (fun i j H2=>Q (.bl (p i j)) H2) σ H
def tB (t:TE):TT:=fun σ H Q=>t σ H fun x H1=>∃ c,x = .bl c ∧ Q c H1
theorem dG {e:Expr} {t:TE} (h:PE X e t) (he:∀ whole,isTrue e X.env whole = (do let v ← whole;standAt e.pos;holding [v] (truthy v)):=by intro _;rfl):PT X e (tB t):=by
 intro pins s σ H Q I hw
 refine isTrue_plain (thn (h pins s σ H _ I hw) fun v s1 ⟨x,H1,I1,r1,q1⟩=>?_) (he _)
 obtain ⟨d,rfl,q⟩:=q1
 cases r1
 exact wpAny_truthy_bool ⟨H1,I1,q⟩
variable {tA tB':TT} {kN:List Expr}
def aIS (t u:TT):TT:=fun σ H Q=>t σ H fun c H1=>if c = true then u σ H1 Q else Q false H1
def tOr (t u:TT):TT:=fun σ H Q=>t σ H fun c H1=>if c = true then Q true H1 else u σ H1 Q
def aLO (t:TT):TT:=fun σ H Q=>t σ H fun c H1=>Q (!c) H1
theorem jY (ha:PT X a tA):PW X (.BoolOp .And [a] pos) tA:=by
 intro wh pins s σ H Q I h
 refine isTrue_and (thn (ha pins s σ H Q I h) fun c s1 e=>?_)
 cases c with
 | true=>exact isTrue_and_nil e
 | false=>exact e
theorem iY (ha:PT X a tA):PW X (.BoolOp .Or [a] pos) tA:=by
 intro wh pins s σ H Q I h
 refine isTrue_or (thn (ha pins s σ H Q I h) fun c s1 e=>?_)
 cases c with
 | false=>exact isTrue_or_nil e
 | true=>exact e
theorem iN (ha:PT X a tA) (hb:PW X (.BoolOp .And (b :: kN) pos) tB'):PW X (.BoolOp .And (a :: b :: kN) pos) (aIS tA tB'):=by
 intro wh pins s σ H Q I h
 refine isTrue_and (thn (ha pins s σ H _ I h) fun c s1 ⟨H1,I1,q1⟩=>?_)
 cases c with
 | true=>exact hb wh pins s1 σ H1 Q I1 q1
 | false=>exact ⟨H1,I1,q1⟩
theorem jL (ha:PT X a tA) (hb:PW X (.BoolOp .Or (b :: kN) pos) tB'):PW X (.BoolOp .Or (a :: b :: kN) pos) (tOr tA tB'):=by
 intro wh pins s σ H Q I h
 refine isTrue_or (thn (ha pins s σ H _ I h) fun c s1 ⟨H1,I1,q1⟩=>?_)
 cases c with
 | true=>exact ⟨H1,I1,q1⟩
 | false=>exact hb wh pins s1 σ H1 Q I1 q1
theorem eE (ha:PT X a tA):PT X (.UnaryOp .Not a pos) (aLO tA):=by
 intro pins s σ H Q I h
 exact isTrue_not (ha pins s σ H (fun c H1=>Q (!c) H1) I h)
def aKL (ta tb:TE):TE:=fun σ H Q=>ta σ H fun x H1=>∃ c,x = .bl c ∧ if c = true then tb σ H1 Q else Q (.bl false) H1
def aLN (ta tb:TE):TE:=fun σ H Q=>ta σ H fun x H1=>∃ c,x = .bl c ∧ if c = true then Q (.bl true) H1 else tb σ H1 Q
def aKF (ta:TE):TE:=fun σ H Q=>ta σ H fun x H1=>∃ c,x = .bl c ∧ Q (.bl (!c)) H1
theorem eF {op} {t:TE} (h:PE X a t):PE X (.BoolOp op [a] pos) t:=fun pins s σ H Q I hw=>BoolOp_one (h pins s σ H Q I hw)
theorem cV (ha:PE X a ta) (hb:PE X (.BoolOp .And (b :: kN) pos) tb):PE X (.BoolOp .And (a :: b :: kN) pos) (aKL ta tb):=by
 intro pins s σ H Q I h
 refine BoolOp_and (thn (ha pins s σ H _ I h) fun v s1 ⟨x,H1,I1,r1,q1⟩=>?_)
 obtain ⟨c,rfl,q1⟩:=q1
 cases r1
 refine wpAny_truthy_bool ?_
 cases c with
 | true=>exact hb pins s1 σ H1 Q I1 q1
 | false=>exact ⟨.bl false,H1,I1,rfl,q1⟩
theorem aKW (ha:PE X a ta) (hb:PE X (.BoolOp .Or (b :: kN) pos) tb):PE X (.BoolOp .Or (a :: b :: kN) pos) (aLN ta tb):=by
 intro pins s σ H Q I h
 refine BoolOp_or (thn (ha pins s σ H _ I h) fun v s1 ⟨x,H1,I1,r1,q1⟩=>?_)
 obtain ⟨c,rfl,q1⟩:=q1
 cases r1
 refine wpAny_truthy_bool ?_
 cases c with
 | false=>exact hb pins s1 σ H1 Q I1 q1
 | true=>exact ⟨.bl true,H1,I1,rfl,q1⟩
theorem aJB (ha:PE X a ta):PE X (.UnaryOp .Not a pos) (aKF ta):=by
 intro pins s σ H Q I h
 refine UnaryOp_ (thn (ha pins s σ H _ I h) fun v s1 ⟨x,H1,I1,r1,q1⟩=>?_)
 obtain ⟨c,rfl,q1⟩:=q1
 cases r1
 exact not_of (wpAny_truthy_bool ⟨.bl (!c),H1,I1,rfl,q1⟩)
def tIf (t:TT) (ta tb:TE):TE:=fun σ H Q=>t σ H fun c H1=>if c = true then ta σ H1 Q else tb σ H1 Q
theorem yA {c:Expr} (hc:PT X c tA) (ha:PE X a ta) (hb:PE X b tb):PE X (.IfExp c a b pos) (tIf tA ta tb):=by
 intro pins s σ H Q I h
 refine wpAny_IfExp (thn (hc pins s σ H _ I h) fun d s1 ⟨H1,I1,q1⟩=>?_)
 cases d with
 | true=>exact ha pins s1 σ H1 Q I1 q1
 | false=>exact hb pins s1 σ H1 Q I1 q1
end
end L2
namespace L2
open PySem PySem.Spec PyProof.Rows
def SqL (K:PySem.W.Frag) (H:Hp) (a:Addr) (xs:List V):Prop :=
 Rd H a (.lst xs) ∨
  ∃ (o:Obj) (its:Array Value) (n:Nat),K.lookup a = some o ∧ o.cls = .type "list" ∧ o.dict = none ∧ o.data = .seq its n ∧ its.size ≤ sizeLine ∧ bB xs its.toList
def SqT (K:PySem.W.Frag) (H:Hp) (a:Addr) (xs:List V):Prop :=
 Rd H a (.tup xs) ∨
  ∃ (o:Obj) (its:Array Value) (n:Nat),K.lookup a = some o ∧ o.cls = .type "tuple" ∧ o.data = .seq its n ∧ its.size ≤ sizeLine ∧ bB xs its.toList
def aMF:Value → Option V
 | .none=>some .non
 | .bool b=>some (.bl b)
 | .int i _=>some (.int i)
 | .str x _=>some (.str x)
 | .bytes b _=>some (.byt b)
 | .float b _=>some (.flt b)
 | .ref a=>some (.ref a)
 | .type n=>some (.ty n)
 | _=>none
theorem bO.abs {x:V} {u:Value} (r:bO x u):aMF u = some x:=by
 cases x with
 | non=>cases r;rfl
 | bl _=>cases r;rfl
 | int _=>obtain ⟨t,rfl⟩:=r;rfl
 | str _=>obtain ⟨t,rfl⟩:=r;rfl
 | byt _=>obtain ⟨t,rfl⟩:=r;rfl
 | flt _=>obtain ⟨t,rfl⟩:=r;rfl
 | ref _=>cases r;rfl
 | ty _=>cases r;rfl
theorem bO.inj {x y:V} {u:Value} (r:bO x u) (q:bO y u):x = y:=Option.some.inj (r.abs.symm.trans q.abs)
theorem bB.inj:∀ {xs ys:List V} {us:List Value},bB xs us → bB ys us → xs = ys
 | _,_,_,.nil,.nil=>rfl
 | _,_,_,.cons r t,.cons r' t'=>by rw [r.inj r',bB.inj t t']
section
variable {X:Cx} {pins:List (Addr × Obj)} {σ:St} {H:Hp} {s:Shared} {a:Addr} {xs ys:List V}
theorem SqL.of {K:PySem.W.Frag} (h:H a = some (.lst xs)):SqL K H a xs:=.inl (.inl h)
theorem SqT.of {K:PySem.W.Frag} (h:H a = some (.tup xs)):SqT K H a xs:=.inl (.inl h)
theorem Inv.list (I:Inv X pins σ H s) (h:SqL X.K H a xs):∃ its:List Value,bB xs its ∧ PlainL s.heap a its.toArray ∧ xs.length ≤ sizeLine:=by
 rcases h with h | ⟨o,its,n,hk,hc,hd,hs,hz,r⟩
 ·obtain ⟨z,its,n,r,e⟩:=h.ok I.hok
  exact ⟨its,r,⟨_,n,e,rfl,rfl,rfl⟩,z⟩
 ·refine ⟨its.toList,r,⟨o,n,I.kIn a o hk,hc,hd,by simpa using hs⟩,?_⟩
  have e:=r.length
  simp only [Array.length_toList] at e
  omega
theorem Inv.tuple (I:Inv X pins σ H s) (h:SqT X.K H a xs):∃ its:List Value,bB xs its ∧ IsTup s.heap a its.toArray ∧ xs.length ≤ sizeLine:=by
 rcases h with h | ⟨o,its,n,hk,hc,hs,hz,r⟩
 ·obtain ⟨z,its,r,p⟩:=h.ok I.hok
  exact ⟨its,r,p.tup,z⟩
 ·refine ⟨its.toList,r,⟨o,I.kIn a o hk,hc,n,by simpa using hs⟩,?_⟩
  have e:=r.length
  simp only [Array.length_toList] at e
  omega
theorem Inv.list_inj (I:Inv X pins σ H s) (h:SqL X.K H a xs) (h':SqL X.K H a ys):xs = ys:=by
 obtain ⟨its,r,⟨o,n,e,_,_,d⟩,_⟩:=I.list h
 obtain ⟨its',r',⟨o',n',e',_,_,d'⟩,_⟩:=I.list h'
 rw [e] at e';cases e'
 rw [d] at d'
 injection d' with d1 _
 have:its = its':=by simpa using congrArg Array.toList d1
 subst this
 exact r.inj r'
theorem Inv.tuple_inj (I:Inv X pins σ H s) (h:SqT X.K H a xs) (h':SqT X.K H a ys):xs = ys:=by
 obtain ⟨its,r,⟨o,e,_,n,d⟩,_⟩:=I.tuple h
 obtain ⟨its',r',⟨o',e',_,n',d'⟩,_⟩:=I.tuple h'
 rw [e] at e';cases e'
 rw [d] at d'
 injection d' with d1 _
 have:its = its':=by simpa using congrArg Array.toList d1
 subst this
 exact r.inj r'
end
abbrev Cx.wish (X:Cx) (E:Value → Shared → Prop):Cx:={ X with xe:=E }
abbrev Cx.nox (X:Cx):Cx:=X.wish fun _ _=>False
theorem Cx.Ok.wish {X:Cx} (ok:X.Ok) (E:Value → Shared → Prop):(X.wish E).Ok :=
 ⟨ok.mod,ok.kind,ok.glob,ok.blt,ok.above,ok.inj,ok.has,ok.cab,ok.hd,ok.frames,ok.stk,ok.exf,ok.bs,ok.bsz,ok.noex,ok.exfs,ok.funs,ok.frf⟩
theorem Cx.Ok.unwish {X:Cx} {E:Value → Shared → Prop} (ok:(X.wish E).Ok):X.Ok :=
 ⟨ok.mod,ok.kind,ok.glob,ok.blt,ok.above,ok.inj,ok.has,ok.cab,ok.hd,ok.frames,ok.stk,ok.exf,ok.bs,ok.bsz,ok.noex,ok.exfs,ok.funs,ok.frf⟩
section
variable {X:Cx} {pins:List (Addr × Obj)} {σ:St} {H:Hp} {s:Shared} {E:Value → Shared → Prop}
theorem Inv.wish (I:Inv X pins σ H s) (E:Value → Shared → Prop):Inv (X.wish E) pins σ H s:=⟨I.ok.wish E,I.os,I.bare,I.base,I.loc,I.cell,I.free,I.freeC,I.pin,I.hok,I.len⟩
theorem Inv.unwish (I:Inv (X.wish E) pins σ H s):Inv X pins σ H s:=⟨I.ok.unwish,I.os,I.bare,I.base,I.loc,I.cell,I.free,I.freeC,I.pin,I.hok,I.len⟩
theorem SP.unwish {D:Ends} {f:Flow} {s':Shared} (h:SP (X.wish E) pins D f s'):SP X pins D f s':=by
 cases f with
 | next=>obtain ⟨σ',H',I,q⟩:=h;exact ⟨σ',H',I.unwish,q⟩
 | brk=>obtain ⟨σ',H',I,q⟩:=h;exact ⟨σ',H',I.unwish,q⟩
 | cont=>obtain ⟨σ',H',I,q⟩:=h;exact ⟨σ',H',I.unwish,q⟩
 | ret u=>obtain ⟨v,σ',H',I,r,q⟩:=h;exact ⟨v,σ',H',I.unwish,r,q⟩
theorem PSs.nox {st:List Stmt} {t:TS} (h:PSs X.nox st t):PSs X st t:=fun pins s σ H D I hw =>
 wpAny_mono (h pins s σ H D (I.wish _) hw) (fun _ _ q=>q.unwish) fun _ _ z=>False.elim z
end
section
variable {X:Cx} {st:Stmt} {kN:List Stmt} {t u:TS} {e:Expr} {te:TE} {pos:Pos}
def aKG:TS:=fun D σ H=>D.nx σ H
def mV (t u:TS):TS:=fun D σ H=>t { D with nx:=u D } σ H
theorem aX:PSs X [] aKG:=fun _ _ σ H _ I h=>wpAny_execs_nil ⟨σ,H,I,h⟩
theorem aG (h1:PS X st t) (h2:PSs X kN u):PSs X (st :: kN) (mV t u):=by
 intro pins s σ H D I h
 refine wpAny_execs_cons (thn (h1 pins s σ H { D with nx:=u D } I h) fun f s1 q=>?_)
 cases f with
 | next =>
  obtain ⟨σ',H',I',q⟩:=q
  exact h2 pins s1 σ' H' D I' q
 | ret v=>exact q
 | brk=>exact q
 | cont=>exact q
theorem aH (h1:PS X st t):PSs X [st] t:=by
 intro pins s σ H D I h
 refine wpAny_execs_cons (thn (h1 pins s σ H D I h) fun f s1 q=>?_)
 cases f with
 | next=>exact wpAny_execs_nil q
 | ret v=>exact q
 | brk=>exact q
 | cont=>exact q
theorem Inv.quiet {pins:List (Addr × Obj)} {σ:St} {H:Hp} {s:Shared} (I:Inv X pins σ H s):interactive X.env = false:=by simp [interactive,I.ok.kind]
def aKJ (te:TE):TS:=fun D σ H=>te σ H fun _ H1=>D.nx σ H1
theorem jZ (he:PE X e te) (hs:swapsWith e none pos.line X.env = pure false:=by rfl):PS X (.Expr e pos) (aKJ te):=by
 intro pins s σ H D I h
 exact wpAny_Expr_any (thn (he pins s σ H _ I h) fun v s1 ⟨x,H1,I1,r1,q1⟩=>⟨σ,H1,I1,q1⟩) I.quiet hs
def aKD (te:TE):TS:=fun D σ H=>te σ H D.rt
theorem aM (he:PE X e te):PS X (.Return (some e) pos) (aKD te):=by
 intro pins s σ H D I h
 exact wpAny_Return_some (thn (he pins s σ H _ I h) fun v s1 ⟨x,H1,I1,r1,q1⟩=>⟨x,σ,H1,I1,r1,q1⟩)
def aKI (c:TT) (t u:TS):TS:=fun D σ H=>c σ H fun b H1=>if b = true then t D σ H1 else u D σ H1
theorem bQ {c:Expr} {a b:List Stmt} {tc:TT} (hc:PT X c tc) (ha:PSs X a t) (hb:PSs X b u):PS X (.If c a b pos) (aKI tc t u):=by
 intro pins s σ H D I h
 refine wpAny_If (thn (hc pins s σ H _ I h) fun d s1 ⟨H1,I1,q1⟩=>?_)
 cases d with
 | true=>exact ha pins s1 σ H1 D I1 q1
 | false=>exact hb pins s1 σ H1 D I1 q1
def aDP:TS:=fun _ _ _=>False
theorem xZ:PS X st aDP:=fun _ _ _ _ _ _ h=>h.elim
theorem pG {sts:List Stmt}:PSs X sts aDP:=fun _ _ _ _ _ _ h=>h.elim
end
abbrev TG:=V → St → Hp → (St → Hp → Prop) → Prop
abbrev TGs:=List V → St → Hp → (St → Hp → Prop) → Prop
def PG (X:Cx) (target:Expr) (t:TG):Prop :=
 ∀ (pins:List (Addr × Obj)) (s:Shared) (σ:St) (H:Hp) (v:V) (u:Value) (Q:St → Hp → Prop),Inv X pins σ H s → bO v u → t v σ H Q →
  wpAny (model X.prog X.w) X.A (assign target X.env u) (fun _ s'=>∃ σ' H',Inv X pins σ' H' s' ∧ Q σ' H') X.xe s
def PGs (X:Cx) (ts:List Expr) (t:TGs):Prop :=
 ∀ (pins:List (Addr × Obj)) (s:Shared) (σ:St) (H:Hp) (vs:List V) (us:List Value) (Q:St → Hp → Prop),Inv X pins σ H s → bB vs us → t vs σ H Q →
  wpAny (model X.prog X.w) X.A (assignInOrder ((assignEach ts X.env).map (·.2)) us) (fun _ s'=>∃ σ' H',Inv X pins σ' H' s' ∧ Q σ' H') X.xe s
abbrev TSet:=V → V → V → Hp → (Hp → Prop) → Prop
abbrev TIp:=V → V → Hp → VK → Prop
section
variable {X:Cx} {pos:Pos}
def oP (i:Nat):TG:=fun v σ H Q=>Q (σ.set i (some v)) H
theorem bE {i:Nat} {x:Str} (hN:X.N.Nodup) (hi:X.N[i]? = some x) (hx:Loc X.env.scope x) (hf:X.fn x = true ∨ X.env.scope.names.lookup x = some .local:=by first | exact .inl rfl | exact .inr rfl | assumption):PG X (.Name x pos) (oP i):=by
 intro pins s σ H v u Q I r h
 exact wpAny_assign_Name (nP I hN hi hx r (fun s' I'=>⟨_,H,I',h⟩) hf)
def aLH:TGs:=fun vs σ H Q=>vs = [] ∧ Q σ H
def aII (t:TG) (u:TGs):TGs:=fun vs σ H Q=>∃ v r,vs = v :: r ∧ t v σ H fun σ' H'=>u r σ' H' Q
theorem aBC:PGs X [] aLH:=by
 intro pins s σ H vs us Q I r h
 obtain ⟨e,h⟩:=h
 subst e
 cases r
 exact assignInOrder_nil ⟨σ,H,I,h⟩
theorem fY {e:Expr} {es:List Expr} {t:TG} {u:TGs} (h1:PG X e t) (h2:PGs X es u)
  (hs:(assignEach (e :: es) X.env).map (·.2) = assign e X.env :: (assignEach es X.env).map (·.2):=by rfl):PGs X (e :: es) (aII t u):=by
 intro pins s σ H vs us Q I r h
 obtain ⟨v,vr,e1,h⟩:=h
 subst e1
 cases r with
 | cons r rr =>
  rw [hs]
  refine assignInOrder_cons (thn (h1 pins s σ H _ _ _ I r h) fun _ s1 ⟨σ1,H1,I1,q1⟩=>?_)
  exact h2 pins s1 σ1 H1 _ _ Q I1 rr q1
def aFK (K:PySem.W.Frag) (n:Nat) (t:TGs):TG:=fun v σ H Q=>∃ a xs,v = .ref a ∧ SqT K H a xs ∧ xs.length = n ∧ t xs σ H Q
theorem aEO {es:List Expr} {k:Nat} {t:TGs} {n:Nat} (hc:X.calm = true) (h:PGs X es t)
  (hn:(assignEach es X.env).length = n:=by rfl) (hst:(assignEach es X.env).findIdx? (·.1) = none:=by rfl):PG X (.Tuple es k pos) (aFK X.K n t):=by
 intro pins s σ H v u Q I r hw
 obtain ⟨a,xs,e1,hq,hl,hw⟩:=hw
 subst e1
 cases r
 obtain ⟨its,rv,ht,hz⟩:=I.tuple hq
 refine assign_Tuple_tuple (I.ok.hd hc) ht (by simp [hn,← hl,rv.length]) hst fun h' hx=>?_
 have I1:Inv X pins σ H { s with heap:=h' }:=I.kept (t':=s.toks) fun b o e=>hx b o (Nat.ne_of_lt (Heap.lt_size e)) e
 exact h pins _ σ H xs _ Q I1 (by simpa using rv) hw
def aIR (te:TE) (g:TG):TS:=fun D σ H=>te σ H fun x H1=>g x σ H1 D.nx
theorem aV {i:Nat} {x:Str} {e:Expr} {te:TE} {pos':Pos} (hN:X.N.Nodup) (hi:X.N[i]? = some x) (hx:Loc X.env.scope x) (he:PE X e te) (hs:swapsWith e (some (.Name x pos')) pos.line X.env = pure false:=by rfl) (hf:X.fn x = true ∨ X.env.scope.names.lookup x = some .local:=by first | exact .inl rfl | exact .inr rfl | assumption) :
  PS X (.Assign [.Name x pos'] e pos) (aIR te (oP i)):=by
 intro pins s σ H D I h
 refine wpAny_Assign_Name (thn (he pins s σ H _ I h) fun v s1 ⟨y,H1,I1,r1,q1⟩=>?_) hs
 exact nP I1 hN hi hx r1 (fun s2 I2=>⟨_,H1,I2,q1⟩) hf
end
section
variable {X:Cx} {pos:Pos}
end
structure It where
 go:Nat → Hp → Prop
 yld:Nat → Hp → V → Hp → Prop
 stop:Nat → Hp → Prop
def xG (X:Cx) (pins:List (Addr × Obj)) (H:Hp) (b:Addr):Prop :=
 H b = none ∧ b ≠ X.env.locals ∧ b ∉ X.fs ∧ (b ∈ X.ex ∨ X.s₀.heap.objs.size ≤ b) ∧ (∀ x c,X.env.cells.lookup x = some c → c ≠ b) ∧ ∀ p ∈ X.pn ++ pins,p.1 ≠ b
theorem Inv.fpOk {X:Cx} {pins:List (Addr × Obj)} {σ:St} {H H':Hp} {s:Shared} {b:Addr} (I:Inv X pins σ H s) (hb:s.heap.objs.size ≤ b) (hn:H' b = none):xG X pins H' b:=by
 refine ⟨hn,Nat.ne_of_gt (Nat.lt_of_lt_of_le I.lt hb),I.nofs hb,.inr (Nat.le_trans I.sz hb),fun x c e z=>?_,fun p hp z=>?_⟩
 ·obtain ⟨v,q⟩:=I.cell x c e
  exact absurd (Nat.lt_of_lt_of_le q.lt (by rw [z];exact hb)) (Nat.lt_irrefl _)
 ·exact absurd (Nat.lt_of_lt_of_le (Heap.lt_size (I.pin p hp).1) (by rw [z];exact hb)) (Nat.lt_irrefl _)
structure Turn (P:Program) (w:World) (K:PySem.W.Frag) (tg:Expr) (J:It) (fp:List Addr) (it:Addr) (tn:Nat → Heap → Prop):Prop where
 mem:it ∈ fp
 obj:∀ i h,tn i h → ∀ b ∈ fp,∃ o,h.get? b = some o ∧ ∀ v,o.data ≠ .cell v
 keep:∀ i h h',tn i h → (∀ b ∈ fp,∀ o,h.get? b = some o → h'.get? b = some o) → tn i h'
 item:∀ (X:Cx),X.prog = P → X.w = w → X.K = K → X.calm = true → ∀ (i:Nat) (pins:List (Addr × Obj)) (s:Shared) (σ:St) (H:Hp) (E:Value → Shared → Prop),Inv X pins σ H s → (∀ b ∈ fp,xG X pins H b) → tn i s.heap → J.go i H →
  wpAny (model P w) X.A (pyNext (.ref it)) (fun r s1=>∃ u,r = some u ∧
   wpAny (model P w) X.A (letOwnedTupleGo tg (.ref it) u) (fun _ s2=>∃ x H',Inv X pins σ H' s2 ∧ bO x u ∧ J.yld i H x H' ∧ tn (i + 1) s2.heap ∧ ∀ b ∈ fp,H' b = none) E s1) E s
 done:∀ (X:Cx),X.prog = P → X.w = w → X.K = K → X.calm = true → ∀ (i:Nat) (pins:List (Addr × Obj)) (s:Shared) (σ:St) (H:Hp) (E:Value → Shared → Prop),Inv X pins σ H s → (∀ b ∈ fp,xG X pins H b) → tn i s.heap → J.stop i H →
  wpAny (model P w) X.A (pyNext (.ref it)) (fun r s1=>r = none ∧ Inv X pins σ H s1) E s
 self:∀ (A:Around) (i:Nat) (s:Shared) (Q:Value → Shared → Prop) (E:Value → Shared → Prop),tn i s.heap → Q (.ref it) s → wpAny (model P w) A (pyIter (.ref it)) Q E s
abbrev TI:=St → Hp → (It → Hp → Prop) → Prop
def PIE (X:Cx) (pins:List (Addr × Obj)) (σ:St) (tg:Expr) (R:It → Hp → Prop) (itv:Value) (s2:Shared):Prop :=
 ∃ (it:Addr) (fp:List Addr) (tn:Nat → Heap → Prop) (J:It) (H':Hp),itv = .ref it ∧ Inv X pins σ H' s2 ∧ Turn X.prog X.w X.K tg J fp it tn ∧ tn 0 s2.heap ∧ (∀ b ∈ fp,xG X pins H' b) ∧ R J H'
def PI (X:Cx) (tg iter:Expr) (wi:TI):Prop :=
 ∀ (pins:List (Addr × Obj)) (s:Shared) (σ:St) (H:Hp) (R:It → Hp → Prop),Inv X pins σ H s → wi σ H R →
  wpAny (model X.prog X.w) X.A (eval iter X.env) (fun v s1=>wpAny (model X.prog X.w) X.A (pyIter v) (PIE X pins σ tg R) X.xe s1) X.xe s
theorem aBK {M:Model} {A:Around} {E:Value → Shared → Prop} {s:Shared} {tg:Expr} {it:Addr} {u:Value} {o:Obj} {n:String} {vs:Array Value} {Q:Unit → Shared → Prop} (ho:s.heap.get? it = some o) (hc:o.cls = .type n) (hd:o.data = .fields vs)
    (hn:["enumerate","zip","dict_itemiterator","dict_reverseitemiterator","odict_iterator","itertools.zip_longest","itertools.pairwise"].contains n = false) (hQ:Q () s):wpAny M A (letOwnedTupleGo tg (.ref it) u) Q E s:=by
  unfold letOwnedTupleGo
  cases tg <;> first
    | exact wpAny_pure hQ
    | (cases u <;> first
        | exact wpAny_pure hQ
        | (refine wpAny_bind (wpAny_load ho ?_)
           rw [hc,hd]
           show wpAny M A (if (["enumerate","zip","dict_itemiterator","dict_reverseitemiterator","odict_iterator","itertools.zip_longest","itertools.pairwise"].contains n && vs[0]? == some (rawInt _)) = true then _ else _) Q E s
           rw [if_neg (by intro h;rw [hn,Bool.false_and] at h;cases h)]
           exact wpAny_pure hQ))
def Itl (K:PySem.W.Frag) (a:Addr):It :=
 ⟨fun i H=>∃ xs x,SqL K H a xs ∧ xs[i]? = some x,fun i H x H'=>H' = H ∧ ∀ xs,SqL K H a xs → xs[i]? = some x,fun i H=>∃ xs,SqL K H a xs ∧ xs.length ≤ i⟩
def Itt (K:PySem.W.Frag) (a:Addr):It :=
 ⟨fun i H=>∃ xs x,SqT K H a xs ∧ xs[i]? = some x,fun i H x H'=>H' = H ∧ ∀ xs,SqT K H a xs → xs[i]? = some x,fun i H=>∃ xs,SqT K H a xs ∧ xs.length ≤ i⟩
def Itr (lo:Int) (n:Nat):It:=⟨fun i _=>i < n,fun i H x H'=>H' = H ∧ x = .int (lo + i),fun i _=>n ≤ i⟩
theorem aBX {P:Program} {w:World} {K:PySem.W.Frag} {tg:Expr} (a it:Addr):Turn P w K tg (Itl K a) [it] it (fun i h=>h.IsListIter it a i) where
 mem:=by simp
 obj:=fun i h st b hb=>by
  have e:b = it:=by simpa using hb
  subst e
  obtain ⟨o,e,c,d⟩:=st
  exact ⟨o,e,fun v z=>by rw [d] at z;cases z⟩
 keep:=fun i h h' st k=>st.at fun o e=>k it (by simp) o e
 item:=by
  intro X hP hw hK hc i pins s σ H E I hf st hg
  subst hP hw hK
  obtain ⟨xs,x,hq,hx⟩:=hg
  obtain ⟨its,rv,p,hz⟩:=I.list hq
  obtain ⟨u,hu,ru⟩:=rv.get hx
  obtain ⟨f0,f1,f2,f3,f4,f5⟩:=hf it (by simp)
  refine wpAny_pyNext_list_item st p.isList (x:=u) (by simpa using hu) fun h' st' sb=>?_
  have I1:Inv X pins σ H { s with heap:=h' }:=I.turned (t':=s.toks) (fun b o hb e=>(sb.2 b hb).trans e) f0 f1 f3 f4 f5
  obtain ⟨o,e,c,d⟩:=id st'
  exact ⟨u,rfl,aBK (s:={ s with heap:=h' }) e c d (by decide) ⟨x,H,I1,ru,⟨rfl,fun ys hy=>by rw [I.list_inj hy hq];exact hx⟩,st',fun b hb=>(hf b hb).1⟩⟩
 done:=by
  intro X hP hw hK hc i pins s σ H E I hf st hg
  subst hP hw hK
  obtain ⟨xs,hq,hx⟩:=hg
  obtain ⟨its,rv,p,hz⟩:=I.list hq
  obtain ⟨f0,f1,f2,f3,f4,f5⟩:=hf it (by simp)
  have hl:=rv.length
  exact wpAny_pyNext_list_end (I.ok.hd hc) st p.isList (by simp;omega) fun h' eb=>⟨rfl,I.turned (t':=s.toks) (fun b o hb e=>eb b o hb e) f0 f1 f3 f4 f5⟩
 self:=fun _ _ _ _ _ st h=>wpAny_pyIter_listiter st h
theorem zA {P:Program} {w:World} {K:PySem.W.Frag} {tg:Expr} (a it:Addr):Turn P w K tg (Itt K a) [it] it (fun i h=>h.IsTupleIter it a i) where
 mem:=by simp
 obj:=fun i h st b hb=>by
  have e:b = it:=by simpa using hb
  subst e
  obtain ⟨o,e,c,d⟩:=st
  exact ⟨o,e,fun v z=>by rw [d] at z;cases z⟩
 keep:=fun i h h' st k=>st.at fun o e=>k it (by simp) o e
 item:=by
  intro X hP hw hK hc i pins s σ H E I hf st hg
  subst hP hw hK
  obtain ⟨xs,x,hq,hx⟩:=hg
  obtain ⟨its,rv,p,hz⟩:=I.tuple hq
  obtain ⟨u,hu,ru⟩:=rv.get hx
  obtain ⟨f0,f1,f2,f3,f4,f5⟩:=hf it (by simp)
  refine wpAny_pyNext_tuple_item st (show s.heap.IsTuple a its.toArray from p) (x:=u) (by simpa using hu) fun h' st' sb=>?_
  have I1:Inv X pins σ H { s with heap:=h' }:=I.turned (t':=s.toks) (fun b o hb e=>(sb.2 b hb).trans e) f0 f1 f3 f4 f5
  obtain ⟨o,e,c,d⟩:=id st'
  exact ⟨u,rfl,aBK (s:={ s with heap:=h' }) e c d (by decide) ⟨x,H,I1,ru,⟨rfl,fun ys hy=>by rw [I.tuple_inj hy hq];exact hx⟩,st',fun b hb=>(hf b hb).1⟩⟩
 done:=by
  intro X hP hw hK hc i pins s σ H E I hf st hg
  subst hP hw hK
  obtain ⟨xs,hq,hx⟩:=hg
  obtain ⟨its,rv,p,hz⟩:=I.tuple hq
  obtain ⟨f0,f1,f2,f3,f4,f5⟩:=hf it (by simp)
  have hl:=rv.length
  exact wpAny_pyNext_tuple_end (I.ok.hd hc) st (show s.heap.IsTuple a its.toArray from p) (by simp;omega) fun h' eb=>⟨rfl,I.turned (t':=s.toks) (fun b o hb e=>eb b o hb e) f0 f1 f3 f4 f5⟩
 self:=fun _ _ _ _ _ st h=>wpAny_pyIter_tupleiter st h
theorem zB {P:Program} {w:World} {K:PySem.W.Frag} {tg:Expr} (it:Addr) (lo:Int) (n:Nat):Turn P w K tg (Itr lo n) [it] it (fun i h=>IsRangeIter h it (lo + (i:Nat) * 1) ((n:Int) - (i:Nat)) 1) where
 mem:=by simp
 obj:=fun i h st b hb=>by
  have e:b = it:=by simpa using hb
  subst e
  exact ⟨_,st,fun v z=>by
   have z':Data.fields _ = Data.cell v:=z
   cases z'⟩
 keep:=fun i h h' st k=>k it (by simp) _ st
 item:=by
  intro X hP hw hK hc i pins s σ H E I hf st hg
  subst hP hw hK
  obtain ⟨f0,f1,f2,f3,f4,f5⟩:=hf it (by simp)
  have W:=Walks.range (prog:=X.prog) (w:=X.w) (I.ok.hd hc) it lo 1 n
  refine W.item i s _ _ hg st fun v h' tk hv st' kk=>?_
  obtain ⟨t,rfl⟩:=hv
  have I1:Inv X pins σ H { s with heap:=h',toks:=tk }:=I.turned (fun b o hb e=>kk b o (by simpa using hb) e) f0 f1 f3 f4 f5
  refine ⟨_,rfl,aBK (s:={ s with heap:=h',toks:=tk }) (n:="range_iterator") st' rfl rfl (by decide) ⟨.int (lo + i),H,I1,⟨t,?_⟩,⟨rfl,rfl⟩,st',fun b hb=>(hf b hb).1⟩⟩
  rw [Int.mul_one]
 done:=by
  intro X hP hw hK hc i pins s σ H E I hf st hg
  subst hP hw hK
  obtain ⟨f0,f1,f2,f3,f4,f5⟩:=hf it (by simp)
  exact wpAny_pyNext_range_end (I.ok.hd hc) st (by have:n ≤ i:=hg;omega) fun h' eb=>⟨rfl,I.turned (t':=s.toks) (fun b o hb e=>eb b o hb e) f0 f1 f3 f4 f5⟩
 self:=fun _ _ _ _ _ st h=>wpAny_pyIter_rangeiter st h
end L2
namespace L2
open PySem PySem.Spec PyProof.Rows
section
variable {X:Cx} {tg:Expr}
def aFF (K:PySem.W.Frag) (tl:TE):TI:=fun σ H R=>tl σ H fun x H1=>∃ a,x = .ref a ∧ (∃ xs,SqL K H1 a xs) ∧ R (Itl K a) H1
def aMB (K:PySem.W.Frag) (tl:TE):TI:=fun σ H R=>tl σ H fun x H1=>∃ a,x = .ref a ∧ (∃ xs,SqT K H1 a xs) ∧ R (Itt K a) H1
theorem cP {l:Expr} {tl:TE} (hl:PE X l tl):PI X tg l (aFF X.K tl):=by
 intro pins s σ H R I h
 refine thn (hl pins s σ H _ I h) fun v s1 ⟨x,H1,I1,r1,q1⟩=>?_
 obtain ⟨a,e,⟨xs,hq⟩,q⟩:=q1
 subst e
 cases r1
 obtain ⟨its,rv,p,hz⟩:=I1.list hq
 refine wpAny_pyIter_list p.isList ?_
 refine ⟨s1.heap.objs.size,[s1.heap.objs.size],_,_,H1,rfl,I1.kept (t':=s1.toks) fun b o e=>Heap.get?_push_of_some _ e,aBX a _,⟨_,Heap.get?_push_size _ rfl,rfl,rfl⟩,fun b hb=>?_,q⟩
 have e:b = s1.heap.objs.size:=by simpa using hb
 subst e
 exact I1.fpOk (Nat.le_refl _) (I1.hok.fresh (Nat.le_refl _))
theorem aEN {l:Expr} {tl:TE} (hl:PE X l tl):PI X tg l (aMB X.K tl):=by
 intro pins s σ H R I h
 refine thn (hl pins s σ H _ I h) fun v s1 ⟨x,H1,I1,r1,q1⟩=>?_
 obtain ⟨a,e,⟨xs,hq⟩,q⟩:=q1
 subst e
 cases r1
 obtain ⟨its,rv,p,hz⟩:=I1.tuple hq
 refine wpAny_pyIter_tuple (show s1.heap.IsTuple a its.toArray from p) ?_
 refine ⟨s1.heap.objs.size,[s1.heap.objs.size],_,_,H1,rfl,I1.kept (t':=s1.toks) fun b o e=>Heap.get?_push_of_some _ e,zA a _,⟨_,Heap.get?_push_size _ rfl,rfl,rfl⟩,fun b hb=>?_,q⟩
 have e:b = s1.heap.objs.size:=by simpa using hb
 subst e
 exact I1.fpOk (Nat.le_refl _) (I1.hok.fresh (Nat.le_refl _))
theorem aEK {pins:List (Addr × Obj)} {σ:St} {H:Hp} {s:Shared} {R:It → Hp → Prop} {E:Value → Shared → Prop} {lo hi:Int} {t u v:Tok} {tk:Nat} (I:Inv X pins σ H s) (h1:-(2 ^ 62) ≤ lo) (h2:lo < 2 ^ 62) (h3:-(2 ^ 62) ≤ hi) (h4:hi < 2 ^ 62)
  (q:R (Itr lo (hi - lo).toNat) H):wpAny (model X.prog X.w) X.A (pyIter (.ref s.heap.objs.size)) (PIE X pins σ tg R) E { s with heap:=s.heap.push { cls:=.type "range",data:=.fields #[.int lo t,.int hi u,.int 1 v] },toks:=tk }:=by
 refine wpAny_pyIter_range (IsRange.new ..) (small_one h1 h2 h3 h4) ?_
 have I1:Inv X pins σ H { s with heap:=s.heap.push { cls:=.type "range",data:=.fields #[.int lo t,.int hi u,.int 1 v] },toks:=tk }:=I.kept fun b o e=>Heap.get?_push_of_some _ e
 refine ⟨(s.heap.push { cls:=.type "range",data:=.fields #[.int lo t,.int hi u,.int 1 v] }).objs.size,[(s.heap.push { cls:=.type "range",data:=.fields #[.int lo t,.int hi u,.int 1 v] }).objs.size],_,_,H,rfl,
  I1.kept (t':=tk) fun b o e=>Heap.get?_push_of_some _ e,zB _ lo (hi - lo).toNat,?_,fun b hb=>?_,q⟩
 ·have e1:lo + ((0:Nat):Int) * 1 = lo:=by simp
  have e2:(((hi - lo).toNat:Nat):Int) - ((0:Nat):Int) = Builtin.Range.rangeSize lo hi 1:=by rw [rangeSize_one];split <;> omega
  show IsRangeIter _ _ (lo + ((0:Nat):Int) * 1) ((((hi - lo).toNat:Nat):Int) - ((0:Nat):Int)) 1
  rw [e1,e2]
  exact Heap.get?_push_size _ rfl
 ·have e:b = (s.heap.push { cls:=.type "range",data:=.fields #[.int lo t,.int hi u,.int 1 v] }).objs.size:=by simpa using hb
  subst e
  exact I1.fpOk (Nat.le_refl _) (I1.hok.fresh (Nat.le_refl _))
def aLG (ta:TA):TI:=fun σ H R=>ta σ H fun vs H1=>∃ j:Int,vs = [.int j] ∧ -(2 ^ 62) ≤ j ∧ j < 2 ^ 62 ∧ R (Itr 0 j.toNat) H1
theorem jM {a:Expr} {ta:TA} {p pos:Pos} (hg:Gl X "range") (hm:X.mg "range" = none) (ha:PA X [a] ta) (hs:starEach [a] X.env = [(false,eval a X.env)]:=by rfl):PI X tg (.Call (.Name "range" p) [a] [] pos) (aLG ta):=by
 intro pins s σ H R I h
 refine Call_ (pK I hg hm boot_range (PyProof.Rows.callWith_type1 (thn (ha pos pins s σ H _ I h) fun us s1 ⟨vs,H1,I1,r1,q1⟩=>?_) hs rfl))
 obtain ⟨j,e,q1,q2,q⟩:=q1
 subst e
 cases r1 with
 | cons r rr =>
  cases rr
  obtain ⟨t,rfl⟩:=r
  exact call_range_1 (aEK I1 (by omega) (by omega) q1 q2 (by simpa using q))
def aLQ (wi:TI) (g:TG) (tb:TS):TS:=fun D σ H=>wi σ H fun J H1=>∃ W:Nat → Nat → St → Hp → Prop,(∃ m,W 0 m σ H1) ∧ ∀ i m σ H,W i m σ H →
 (J.stop i H ∧ D.nx σ H) ∨ (J.go i H ∧ ∃ N:St → Hp → Prop,(∀ σ' H',N σ' H' → ∃ m',m' < m ∧ W (i + 1) m' σ' H') ∧ ∀ x H',J.yld i H x H' → g x σ H' fun σ2 H2=>tb { D with nx:=N,ct:=N,bk:=D.nx } σ2 H2)
def kZ (fp:List Addr) (h:Heap):List (Addr × Obj):=fp.filterMap fun b=>(h.get? b).map fun o=>(b,o)
theorem kD {fp:List Addr} {h:Heap} {b:Addr} {o:Obj} (hb:b ∈ fp) (e:h.get? b = some o):(b,o) ∈ kZ fp h:=List.mem_filterMap.mpr ⟨b,hb,by rw [e];rfl⟩
theorem uX {fp:List Addr} {h:Heap} {p:Addr × Obj} (hp:p ∈ kZ fp h):p.1 ∈ fp ∧ h.get? p.1 = some p.2:=by
 obtain ⟨b,hb,e⟩:=List.mem_filterMap.mp hp
 cases q:h.get? b with
 | none=>rw [q] at e;cases e
 | some o =>
  rw [q] at e
  have e':(b,o) = p:=Option.some.inj e
  subst e'
  exact ⟨hb,q⟩
theorem Inv.pinned {pins:List (Addr × Obj)} {σ:St} {H:Hp} {s:Shared} {fp:List Addr} (I:Inv X pins σ H s) (hf:∀ b ∈ fp,xG X pins H b) (ho:∀ b ∈ fp,∃ o,s.heap.get? b = some o ∧ ∀ v,o.data ≠ .cell v):Inv X (pins ++ kZ fp s.heap) σ H s :=
 I.pins_of fun p hp=>(List.mem_append.mp hp).elim (fun z=>I.pin p (List.mem_append_right _ z)) fun z=>by
  obtain ⟨hb,e⟩:=uX z
  obtain ⟨f0,f1,f2,_⟩:=hf p.1 hb
  obtain ⟨o,e',d⟩:=ho p.1 hb
  rw [e] at e';cases e'
  exact ⟨e,f0,f1,f2,d⟩
theorem Inv.unpinned {pins pl:List (Addr × Obj)} {σ:St} {H:Hp} {s:Shared} (I:Inv X (pins ++ pl) σ H s):Inv X pins σ H s:=I.pins_of fun p hp=>I.pin p (List.mem_append_right _ (List.mem_append_left _ hp))
theorem mX {iter:Expr} {body:List Stmt} {wi:TI} {g:TG} {tb:TS} {pos:Pos} (hp:PassesOwn (model X.prog X.w) X.A X.env X.xe) (hc:X.calm = true) (hi:PI X tg iter wi) (hg:PG X tg g) (hb:PSs X body tb)
  (hs:∀ x,foldedSetIterable iter X.env x = pure x:=by intro _;rfl):PS X (.For tg iter body [] pos) (aLQ wi g tb):=by
 intro pins s σ H D I h
 refine wpAny_For (thn (hi pins s σ H _ I h) fun v s1 h1=>thn h1 fun itv s2 h2=>?_) hs
 obtain ⟨it,fp,tn,J,H2,e,I2,T,st2,f2,W,⟨m0,w0⟩,turn⟩:=h2
 subst e
 have stat:∀ {H':Hp},(∀ b ∈ fp,H' b = none) → ∀ b ∈ fp,xG X pins H' b:=fun hn b hb=>⟨hn b hb,(f2 b hb).2⟩
 refine codeAny_forLoop_any (fun n s'=>∃ i σ' H',Inv X pins σ' H' s' ∧ tn i s'.heap ∧ (∀ b ∈ fp,H' b = none) ∧ W i n σ' H') ?_ m0 ⟨0,σ,H2,I2,st2,fun b hb=>(f2 b hb).1,w0⟩
 rintro n s3 ⟨i,σ3,H3,I3,st3,fr3,w3⟩
 rcases turn i n σ3 H3 w3 with ⟨stop,qn⟩ | ⟨go,N,hN,step⟩
 ·refine wpAny_passesOwn hp (thn (T.done X rfl rfl rfl hc i pins s3 σ3 H3 X.xe I3 (stat fr3) st3 stop) fun r s4 ⟨hr,I4⟩=>?_)
  subst hr
  exact wpAny_execs_nil ⟨σ3,H3,I4,qn⟩
 ·refine wpAny_passesOwn hp (thn (T.item X rfl rfl rfl hc i pins s3 σ3 H3 X.xe I3 (stat fr3) st3 go) fun r s4 ⟨u,hr,h4⟩=>?_)
  subst hr
  refine wpAny_passesOwn hp (thn h4 fun _ s5 ⟨x,H5,I5,r5,y5,st5,fr5⟩=>?_)
  have I5':=I5.pinned (stat fr5) (T.obj _ _ st5)
  refine wpAny_passesOwn hp (thn (hg _ s5 σ3 H5 x u _ I5' r5 (step x H5 y5)) fun _ s6 ⟨σ6,H6,I6,q6⟩=>?_)
  refine wpAny_passesOwn hp (thn (hb _ s6 σ6 H6 _ I6 q6) fun f s7 q7=>?_)
  have again:∀ {σ7:St} {H7:Hp},Inv X (pins ++ kZ fp s5.heap) σ7 H7 s7 → N σ7 H7 → ∃ m,m < n ∧ ∃ i σ' H',Inv X pins σ' H' s7 ∧ tn i s7.heap ∧ (∀ b ∈ fp,H' b = none) ∧ W i m σ' H':=fun {σ7 H7} I7 n7=>by
   obtain ⟨m',hm,w7⟩:=hN σ7 H7 n7
   refine ⟨m',hm,i + 1,σ7,H7,I7.unpinned,T.keep _ _ _ st5 fun b hb o e=>(I7.pin (b,o) (List.mem_append_right _ (List.mem_append_right _ (kD hb e)))).1,fun b hb=>?_,w7⟩
   obtain ⟨o,e,d⟩:=T.obj _ _ st5 b hb
   exact (I7.pin (b,o) (List.mem_append_right _ (List.mem_append_right _ (kD hb e)))).2.1
  cases f with
  | next=>obtain ⟨σ7,H7,I7,n7⟩:=q7;exact again I7 n7
  | cont=>obtain ⟨σ7,H7,I7,n7⟩:=q7;exact again I7 n7
  | brk=>obtain ⟨σ7,H7,I7,q7⟩:=q7;exact ⟨σ7,H7,I7.unpinned,q7⟩
  | ret v=>obtain ⟨x7,σ7,H7,I7,r7,q7⟩:=q7;exact ⟨x7,σ7,H7,I7.unpinned,r7,q7⟩
end
theorem tD {K:PySem.W.Frag} {a:Addr} {xs:List V} {g:TG} {tb:TS} {D:Ends} {σ:St} {H:Hp} (Pv:Nat → St → Hp → Prop) (h0:Pv 0 σ H) (hl:∀ i σ H,i ≤ xs.length → Pv i σ H → SqL K H a xs)
  (hs:∀ i x σ H,xs[i]? = some x → Pv i σ H → g x σ H fun σ2 H2=>tb { D with nx:=Pv (i + 1),ct:=Pv (i + 1),bk:=D.nx } σ2 H2) (hd:∀ σ H,Pv xs.length σ H → D.nx σ H) :
  ∃ W:Nat → Nat → St → Hp → Prop,(∃ m,W 0 m σ H) ∧ ∀ i m σ H,W i m σ H →
   ((Itl K a).stop i H ∧ D.nx σ H) ∨ ((Itl K a).go i H ∧ ∃ N:St → Hp → Prop,(∀ σ' H',N σ' H' → ∃ m',m' < m ∧ W (i + 1) m' σ' H') ∧ ∀ x H',(Itl K a).yld i H x H' → g x σ H' fun σ2 H2=>tb { D with nx:=N,ct:=N,bk:=D.nx } σ2 H2):=by
 refine ⟨fun i m σ H=>m = xs.length - i ∧ i ≤ xs.length ∧ Pv i σ H,⟨xs.length,by simp,Nat.zero_le _,h0⟩,?_⟩
 rintro i m σ H ⟨rfl,hi,p⟩
 have q:=hl i σ H hi p
 by_cases hlt:i < xs.length
 ·refine .inr ⟨⟨xs,xs[i],q,by simp [hlt]⟩,Pv (i + 1),fun σ' H' p'=>⟨xs.length - (i + 1),by omega,rfl,hlt,p'⟩,fun x H' y=>?_⟩
  obtain ⟨e,y⟩:=y
  subst e
  exact hs i x σ _ (y xs q) p
 ·have e:i = xs.length:=by omega
  subst e
  exact .inl ⟨⟨xs,q,Nat.le_refl _⟩,hd σ H p⟩
theorem vM {lo:Int} {n:Nat} {g:TG} {tb:TS} {D:Ends} {σ:St} {H:Hp} (Pv:Nat → St → Hp → Prop) (h0:Pv 0 σ H)
  (hs:∀ i σ H,i < n → Pv i σ H → g (.int (lo + i)) σ H fun σ2 H2=>tb { D with nx:=Pv (i + 1),ct:=Pv (i + 1),bk:=D.nx } σ2 H2) (hd:∀ σ H,Pv n σ H → D.nx σ H) :
  ∃ W:Nat → Nat → St → Hp → Prop,(∃ m,W 0 m σ H) ∧ ∀ i m σ H,W i m σ H →
   ((Itr lo n).stop i H ∧ D.nx σ H) ∨ ((Itr lo n).go i H ∧ ∃ N:St → Hp → Prop,(∀ σ' H',N σ' H' → ∃ m',m' < m ∧ W (i + 1) m' σ' H') ∧ ∀ x H',(Itr lo n).yld i H x H' → g x σ H' fun σ2 H2=>tb { D with nx:=N,ct:=N,bk:=D.nx } σ2 H2):=by
 refine ⟨fun i m σ H=>m = n - i ∧ i ≤ n ∧ Pv i σ H,⟨n,by simp,Nat.zero_le _,h0⟩,?_⟩
 rintro i m σ H ⟨rfl,hi,p⟩
 by_cases hlt:i < n
 ·refine .inr ⟨hlt,Pv (i + 1),fun σ' H' p'=>⟨n - (i + 1),by omega,rfl,hlt,p'⟩,fun x H' y=>?_⟩
  obtain ⟨e,y⟩:=y
  subst e y
  exact hs i σ _ hlt p
 ·have e:i = n:=by omega
  subst e
  exact .inl ⟨Nat.le_refl _,hd σ H p⟩
end L2
namespace L2
open PySem PySem.Spec PyProof.Rows
abbrev R2:=V → V → Hp → VK → Prop
def OpR (X:Cx) (f:Value → Value → Sem Value) (r:R2):Prop :=
 ∀ (pins:List (Addr × Obj)) (s:Shared) (σ:St) (H:Hp) (x y:V) (v u:Value) (Q:VK),Inv X pins σ H s → bO x v → bO y u → r x y H Q →
  wpAny (model X.prog X.w) X.A (f v u) (EP X pins σ Q) X.xe s
def UnR (X:Cx) (f:Value → Sem Value) (r:V → Hp → VK → Prop):Prop :=
 ∀ (pins:List (Addr × Obj)) (s:Shared) (σ:St) (H:Hp) (x:V) (v:Value) (Q:VK),Inv X pins σ H s → bO x v → r x H Q →
  wpAny (model X.prog X.w) X.A (f v) (EP X pins σ Q) X.xe s
def eU (X:Cx) (f:Value) (r:List V → Hp → VK → Prop):Prop :=
 ∀ (pins:List (Addr × Obj)) (s:Shared) (σ:St) (H:Hp) (xs:List V) (us:List Value) (Q:VK),Inv X pins σ H s → bB xs us → r xs H Q →
  wpAny (model X.prog X.w) X.A (call f us) (EP X pins σ Q) X.xe s
def tOp (r:R2) (ta tb:TE):TE:=fun σ H Q=>ta σ H fun x H1=>tb σ H1 fun y H2=>r x y H2 Q
def tUn (r:V → Hp → VK → Prop) (ta:TE):TE:=fun σ H Q=>ta σ H fun x H1=>r x H1 Q
def rI (C:Int → Int → Prop) (g:Int → Int → V):R2:=fun x y H Q=>∃ i j,x = .int i ∧ y = .int j ∧ C i j ∧ Q (g i j) H
def rI0 (g:Int → Int → V):R2:=fun x y H Q=>∃ i j,x = .int i ∧ y = .int j ∧ Q (g i j) H
def rU (g:Int → V):V → Hp → VK → Prop:=fun x H Q=>∃ i,x = .int i ∧ Q (g i) H
section
variable {X:Cx} {a b c:Expr} {ta tb tc:TE} {pos:Pos}
theorem aJU (ha:PE X a ta) (hb:PE X b tb) {pins:List (Addr × Obj)} {s:Shared} {σ:St} {H:Hp} {R:V → V → Hp → Prop} (I:Inv X pins σ H s)
  (h:ta σ H fun x H1=>tb σ H1 fun y H2=>R x y H2) {Q:Value → Shared → Prop} {f:Value → Value → Sem Value}
  (hf:∀ v u s2 x y H2,Inv X pins σ H2 s2 → bO x v → bO y u → R x y H2 → wpAny (model X.prog X.w) X.A (f v u) Q X.xe s2) :
  wpAny (model X.prog X.w) X.A (eval a X.env) (fun v s₁=>wpAny (model X.prog X.w) X.A (eval b X.env) (fun u s₂=>wpAny (model X.prog X.w) X.A (f v u) Q X.xe s₂) X.xe s₁) X.xe s:=by
 refine thn (ha pins s σ H _ I h) fun v s1 ⟨x,H1,I1,r1,q1⟩=>?_
 refine thn (hb pins s1 σ H1 _ I1 q1) fun u s2 ⟨y,H2,I2,r2,q2⟩=>?_
 exact hf v u s2 x y H2 I2 r1 r2 q2
theorem aI {op:Operator} {r:R2} (ho:OpR X (binaryOp op) r) (ha:PE X a ta) (hb:PE X b tb):PE X (.BinOp a op b pos) (tOp r ta tb):=by
 intro pins s σ H Q I h
 exact wpAny_BinOp (aJU ha hb I h fun v u s2 x y H2 I2 rx ry q=>ho pins s2 σ H2 x y v u Q I2 rx ry q)
theorem aKV {op:UnaryOp} {r:V → Hp → VK → Prop} (ho:UnR X (unaryOp op) r) (ha:PE X a ta):PE X (.UnaryOp op a pos) (tUn r ta):=by
 intro pins s σ H Q I h
 exact UnaryOp_ (thn (ha pins s σ H _ I h) fun v s1 ⟨x,H1,I1,r1,q1⟩=>ho pins s1 σ H1 x v Q I1 r1 q1)
theorem opI {f:Value → Value → Sem Value} {C:Int → Int → Prop} {g:Int → Int → Int}
  (rule:∀ (i j:Int) (t u:Tok) (s:Shared) (Q:Value → Shared → Prop) (E:Value → Shared → Prop),C i j → Q (.int (g i j) s.toks) { s with toks:=s.toks + 1 } → wpAny (model X.prog X.w) X.A (f (.int i t) (.int j u)) Q E s) :
  OpR X f (rI C fun i j=>.int (g i j)):=by
 intro pins s σ H x y v u Q I rx ry h
 obtain ⟨i,j,rfl,rfl,hc,q⟩:=h
 obtain ⟨t,rfl⟩:=rx
 obtain ⟨t',rfl⟩:=ry
 exact rule i j t t' s _ _ hc ⟨.int (g i j),H,I.tok _,⟨_,rfl⟩,q⟩
theorem aKY {f:Value → Value → Sem Value} {g:Int → Int → Int}
  (rule:∀ (i j:Int) (t u:Tok) (s:Shared) (Q:Value → Shared → Prop) (E:Value → Shared → Prop),Q (.int (g i j) s.toks) { s with toks:=s.toks + 1 } → wpAny (model X.prog X.w) X.A (f (.int i t) (.int j u)) Q E s) :
  OpR X f (rI0 fun i j=>.int (g i j)):=by
 intro pins s σ H x y v u Q I rx ry h
 obtain ⟨i,j,rfl,rfl,q⟩:=h
 obtain ⟨t,rfl⟩:=rx
 obtain ⟨t',rfl⟩:=ry
 exact rule i j t t' s _ _ ⟨.int (g i j),H,I.tok _,⟨_,rfl⟩,q⟩
theorem aJF {f:Value → Value → Sem Value} {g:Int → Int → Bool}
  (rule:∀ (i j:Int) (t u:Tok) (s:Shared) (Q:Value → Shared → Prop) (E:Value → Shared → Prop),Q (.bool (g i j)) s → wpAny (model X.prog X.w) X.A (f (.int i t) (.int j u)) Q E s) :
  OpR X f (rI0 fun i j=>.bl (g i j)):=by
 intro pins s σ H x y v u Q I rx ry h
 obtain ⟨i,j,rfl,rfl,q⟩:=h
 obtain ⟨t,rfl⟩:=rx
 obtain ⟨t',rfl⟩:=ry
 exact rule i j t t' s _ _ ⟨.bl (g i j),H,I,rfl,q⟩
def aMH (i j:Int):Prop:=0 ≤ j ∧ j ≤ 1000000 ∧ i.natAbs < 2 ^ 64
def aJX (i j:Int):Prop:=(-(2 ^ 64) < i ∧ i < 2 ^ 64) ∨ (-(2 ^ 64) < j ∧ j < 2 ^ 64)
theorem aJX.ok {i j:Int} (h:aJX i j):IntMulOk i j:=by
 rcases h with ⟨h1,h2⟩ | ⟨h1,h2⟩
 ·exact .of_left (intBits_le_64 h1 h2)
 ·exact .of_right (intBits_le_64 h1 h2)
theorem dQ:OpR X (binaryOp .Add) (rI0 fun i j=>.int (i + j)):=aKY fun _ _ _ _ _ _ _ q=>add_int q
theorem iO:OpR X (binaryOp .Sub) (rI0 fun i j=>.int (i - j)):=aKY fun _ _ _ _ _ _ _ q=>sub_int q
theorem lB:OpR X (binaryOp .Mult) (rI aJX fun i j=>.int (i * j)):=opI fun _ _ _ _ _ _ _ hc q=>mul_int q hc.ok
theorem bU:OpR X (binaryOp .Mod) (rI (fun _ j=>0 < j) fun i j=>.int (i % j)):=opI fun i j _ _ _ _ _ hc q=>by
 have h1:(0:Int) < j:=hc
 exact mod_int' (by omega) (by rw [Int.fmod_eq_emod_of_nonneg i (by omega)];exact q)
theorem iZ:OpR X (binaryOp .Pow) (rI aMH fun i j=>.int (i ^ j.toNat)):=opI fun _ _ _ _ _ _ _ hc q=>pow_int_small hc.1 hc.2.1 hc.2.2 q
theorem unI {f:Value → Sem Value} {g:Int → Int}
  (rule:∀ (i:Int) (t:Tok) (s:Shared) (Q:Value → Shared → Prop) (E:Value → Shared → Prop),Q (.int (g i) s.toks) { s with toks:=s.toks + 1 } → wpAny (model X.prog X.w) X.A (f (.int i t)) Q E s) :
  UnR X f (rU fun i=>.int (g i)):=by
 intro pins s σ H x v Q I rx h
 obtain ⟨i,rfl,q⟩:=h
 obtain ⟨t,rfl⟩:=rx
 exact rule i t s _ _ ⟨.int (g i),H,I.tok _,⟨_,rfl⟩,q⟩
theorem aIM:UnR X (unaryOp .USub) (rU fun i=>.int (-i)):=unI fun _ _ _ _ _ q=>neg_int q
end
def aKN:V → V → Bool
 | .non,.non=>true | .non,.int _=>true | .int _,.non=>true | .non,.bl _=>true | .bl _,.non=>true | .non,.str _=>true | .str _,.non=>true
 | .int _,.int _=>true | .bl _,.bl _=>true | .str _,.str _=>true | .byt _,.byt _=>true
 | .int _,.str _=>true | .str _,.int _=>true | .bl _,.str _=>true | .str _,.bl _=>true
 | _,_=>false
def rEq:R2:=fun x y H Q=>aKN x y = true ∧ Q (.bl (decide (x = y))) H
def rNe:R2:=fun x y H Q=>aKN x y = true ∧ Q (.bl (!decide (x = y))) H
theorem oS {i j:Int}:decide (V.int i = V.int j) = (i == j):=by
 rw [Bool.eq_iff_iff]
 simp
theorem aFY {i j:Bool}:decide (V.bl i = V.bl j) = (i == j):=by
 rw [Bool.eq_iff_iff]
 simp
theorem wZ {i j:Str}:decide (V.str i = V.str j) = (i == j):=by
 rw [Bool.eq_iff_iff]
 simp
theorem aBR {i j:Array UInt8}:decide (V.byt i = V.byt j) = (i.toList == j.toList):=by
 rw [Bool.eq_iff_iff]
 cases i
 cases j
 simp
section
variable {X:Cx} {a b c:Expr} {ta tb tc:TE} {pos:Pos}
theorem bY {pins:List (Addr × Obj)} {σ:St} {H:Hp} {s:Shared} {Q:VK} {k k':Bool} (I:Inv X pins σ H s) (q:Q (.bl k) H) (e:k = k'):EP X pins σ Q (.bool k') s:=by
 subst e
 exact ⟨.bl k,H,I,rfl,q⟩
theorem dL:OpR X (compareOp .Eq) rEq:=by
 intro pins s σ H x y v u Q I rx ry h
 obtain ⟨hs,q⟩:=h
 cases x with
 | non =>
  cases rx
  cases y with
  | non=>cases ry;exact PySem.EqNone.eq_none_none (bY I q (by simp))
  | bl j=>cases ry;exact PySem.EqNone.eq_none_bool (bY I q (by simp))
  | int j=>obtain ⟨t',rfl⟩:=ry;exact PySem.EqNone.eq_none_int (bY I q (by simp))
  | str j=>obtain ⟨t',rfl⟩:=ry;exact PySem.EqNone.eq_none_str (bY I q (by simp))
  | _=>exact absurd (show false = true from hs) Bool.false_ne_true
 | bl i =>
  cases rx
  cases y with
  | non=>cases ry;exact PySem.EqNone.eq_bool_none (bY I q (by simp))
  | bl j=>cases ry;exact eq_bool (bY I q aFY)
  | str j=>obtain ⟨t',rfl⟩:=ry;exact PySem.EqMixed.eq_bool_str (bY I q (by simp))
  | _=>exact absurd (show false = true from hs) Bool.false_ne_true
 | int i =>
  obtain ⟨t,rfl⟩:=rx
  cases y with
  | non=>cases ry;exact PySem.EqNone.eq_int_none (bY I q (by simp))
  | int j=>obtain ⟨t',rfl⟩:=ry;exact eq_int (bY I q oS)
  | str j=>obtain ⟨t',rfl⟩:=ry;exact PySem.EqMixed.eq_int_str (bY I q (by simp))
  | _=>exact absurd (show false = true from hs) Bool.false_ne_true
 | str i =>
  obtain ⟨t,rfl⟩:=rx
  cases y with
  | non=>cases ry;exact PySem.EqNone.eq_str_none (bY I q (by simp))
  | bl j=>cases ry;exact PySem.EqMixed.eq_str_bool (bY I q (by simp))
  | int j=>obtain ⟨t',rfl⟩:=ry;exact PySem.EqMixed.eq_str_int (bY I q (by simp))
  | str j=>obtain ⟨t',rfl⟩:=ry;exact eq_str (bY I q wZ)
  | _=>exact absurd (show false = true from hs) Bool.false_ne_true
 | byt i =>
  obtain ⟨t,rfl⟩:=rx
  cases y with
  | byt j=>obtain ⟨t',rfl⟩:=ry;exact PySem.W.eq_bytes (bY I q aBR)
  | _=>exact absurd (show false = true from hs) Bool.false_ne_true
 | _=>cases y <;> exact absurd (show false = true from hs) Bool.false_ne_true
theorem sI:OpR X (compareOp .NotEq) rNe:=by
 intro pins s σ H x y v u Q I rx ry h
 obtain ⟨hs,q⟩:=h
 cases x with
 | non =>
  cases rx
  cases y with
  | non=>cases ry;exact PySem.EqNone.ne_none_none (bY I q (by simp))
  | bl j=>cases ry;exact PySem.EqNone.ne_none_bool (bY I q (by simp))
  | int j=>obtain ⟨t',rfl⟩:=ry;exact PySem.EqNone.ne_none_int (bY I q (by simp))
  | str j=>obtain ⟨t',rfl⟩:=ry;exact PySem.EqNone.ne_none_str (bY I q (by simp))
  | _=>exact absurd (show false = true from hs) Bool.false_ne_true
 | bl i =>
  cases rx
  cases y with
  | non=>cases ry;exact PySem.EqNone.ne_bool_none (bY I q (by simp))
  | bl j=>cases ry;exact ne_bool (bY I q (congrArg not aFY))
  | str j=>obtain ⟨t',rfl⟩:=ry;exact PySem.EqMixed.ne_bool_str (bY I q (by simp))
  | _=>exact absurd (show false = true from hs) Bool.false_ne_true
 | int i =>
  obtain ⟨t,rfl⟩:=rx
  cases y with
  | non=>cases ry;exact PySem.EqNone.ne_int_none (bY I q (by simp))
  | int j=>obtain ⟨t',rfl⟩:=ry;exact ne_int (bY I q (congrArg not oS))
  | str j=>obtain ⟨t',rfl⟩:=ry;exact PySem.EqMixed.ne_int_str (bY I q (by simp))
  | _=>exact absurd (show false = true from hs) Bool.false_ne_true
 | str i =>
  obtain ⟨t,rfl⟩:=rx
  cases y with
  | non=>cases ry;exact PySem.EqNone.ne_str_none (bY I q (by simp))
  | bl j=>cases ry;exact PySem.EqMixed.ne_str_bool (bY I q (by simp))
  | int j=>obtain ⟨t',rfl⟩:=ry;exact PySem.EqMixed.ne_str_int (bY I q (by simp))
  | str j=>obtain ⟨t',rfl⟩:=ry;exact ne_str (bY I q (congrArg not wZ))
  | _=>exact absurd (show false = true from hs) Bool.false_ne_true
 | byt i =>
  obtain ⟨t,rfl⟩:=rx
  cases y with
  | byt j=>obtain ⟨t',rfl⟩:=ry;exact PySem.W.ne_bytes (bY I q (congrArg not aBR))
  | _=>exact absurd (show false = true from hs) Bool.false_ne_true
 | _=>cases y <;> exact absurd (show false = true from hs) Bool.false_ne_true
theorem oG:OpR X (compareOp .Lt) (rI0 fun i j=>.bl (decide (i < j))):=aJF fun _ _ _ _ _ _ _ q=>lt_int q
theorem iU:OpR X (compareOp .LtE) (rI0 fun i j=>.bl (decide (i ≤ j))):=aJF fun _ _ _ _ _ _ _ q=>le_int q
theorem aBE:OpR X (compareOp .Gt) (rI0 fun i j=>.bl (decide (j < i))):=aJF fun _ _ _ _ _ _ _ q=>gt_int q
theorem uV:OpR X (compareOp .In) (fun x y H Q=>∃ i j,x = .str i ∧ y = .str j ∧ Q (.bl (!(Builtin.Str.occurrences j i 0 j.length 1).isEmpty)) H):=by
 intro pins s σ H x y v u Q I rx ry h
 obtain ⟨i,j,rfl,rfl,q⟩:=h
 obtain ⟨t,rfl⟩:=rx
 obtain ⟨t',rfl⟩:=ry
 exact in_str (bY I q rfl)
theorem pH:OpR X (compareOp .Is) (fun x y H Q=>y = .non ∧ Q (.bl (decide (x = .non))) H):=by
 intro pins s σ H x y v u Q I rx ry h
 obtain ⟨rfl,q⟩:=h
 cases ry
 refine is_none_gen (bY I q ?_)
 cases x <;> first
  | (cases rx;rfl)
  | (obtain ⟨t,rfl⟩:=rx;rfl)
theorem qT:OpR X (compareOp .IsNot) (fun x y H Q=>y = .non ∧ Q (.bl (!decide (x = .non))) H):=by
 intro pins s σ H x y v u Q I rx ry h
 obtain ⟨rfl,q⟩:=h
 cases ry
 refine isnot_none_gen (bY I q ?_)
 cases x <;> first
  | (cases rx;rfl)
  | (obtain ⟨t,rfl⟩:=rx;rfl)
theorem aS (b:Expr) {op:CmpOp} (h:op ≠ .In:=by decide) (h2:op ≠ .NotIn:=by decide):behindInMarks op b = false:=by
 have e1:(op == CmpOp.In) = false:=by cases op <;> first | rfl | exact absurd rfl h
 have e2:(op == CmpOp.NotIn) = false:=by cases op <;> first | rfl | exact absurd rfl h2
 cases b <;> simp [behindInMarks,e1,e2]
theorem eS {op:CmpOp} {r:R2} (ho:OpR X (compareOp op) r) (ha:PE X a ta) (hb:PE X b tb) (hm:behindInMarks op b = false):PE X (.Compare a [op] [b] pos) (tOp r ta tb):=by
 intro pins s σ H Q I h
 exact wpAny_Compare1 (aJU ha hb I h fun v u s2 x y H2 I2 rx ry q=>ho pins s2 σ H2 x y v u Q I2 rx ry q) hm
def aIA (t:TE):TT:=fun σ H Q=>t σ H fun x H'=>∃ k,x = .bl k ∧ Q k H'
theorem aQ {op:CmpOp} {r:R2} (ho:OpR X (compareOp op) r) (ha:PE X a ta) (hb:PE X b tb) (hm:behindInMarks op b = false):PT X (.Compare a [op] [b] pos) (aIA (tOp r ta tb)):=by
 intro pins s σ H Q I h
 refine wpAny_isTrue_Compare1 (thn (ha pins s σ H _ I h) fun v s1 ⟨x,H1,I1,r1,q1⟩=>thn (hb pins s1 σ H1 _ I1 q1) fun u s2 ⟨y,H2,I2,r2,q2⟩ =>
  thn (ho pins s2 σ H2 x y v u _ I2 r1 r2 q2) fun c s3 ⟨z,H3,I3,r3,k,e,q3⟩=>?_) hm
 subst e
 cases r3
 exact wpAny_truthy_bool ⟨H3,I3,q3⟩
def aDQ (r r':R2) (ta tb tc:TE):TE:=fun σ H Q=>ta σ H fun x H1=>tb σ H1 fun y H2=>r x y H2 fun z H3=>∃ k,z = .bl k ∧
 (if k = true then tc σ H3 fun w' H4=>r' y w' H4 Q else Q (.bl false) H3)
theorem lA {op op':CmpOp} {r r':R2} (ho:OpR X (compareOp op) r) (ho':OpR X (compareOp op') r') (ha:PE X a ta) (hb:PE X b tb) (hc:PE X c tc)
  (hm:lastMarks [op,op'] [b,c] = false:=by with_unfolding_all rfl):PE X (.Compare a [op,op'] [b,c] pos) (aDQ r r' ta tb tc):=by
 intro pins s σ H Q I h
 refine Compare_chain (thn (ha pins s σ H _ I h) fun v s1 ⟨x,H1,I1,r1,q1⟩=>chain_link (thn (hb pins s1 σ H1 _ I1 q1) fun u s2 ⟨y,H2,I2,r2,q2⟩ =>
  thn (ho pins s2 σ H2 x y v u _ I2 r1 r2 q2) fun d s3 ⟨z,H3,I3,r3,k,e,q3⟩=>?_)) hm
 subst e
 cases r3
 refine wpAny_truthy_bool ?_
 cases k with
 | false=>exact ite_ff ⟨.bl false,H3,I3,rfl,q3⟩
 | true=>exact ite_tt (chain_last (thn (hc pins s3 σ H3 _ I3 q3) fun w' s4 ⟨z',H4,I4,r4,q4⟩=>ho' pins s4 σ H4 y z' u w' Q I4 r2 r4 q4))
theorem xY {op op':CmpOp} {r r':R2} (ho:OpR X (compareOp op) r) (ho':OpR X (compareOp op') r') (ha:PE X a ta) (hb:PE X b tb) (hc:PE X c tc)
  (hm:lastMarks [op,op'] [b,c] = false:=by with_unfolding_all rfl):PT X (.Compare a [op,op'] [b,c] pos) (aIA (aDQ r r' ta tb tc)):=by
 intro pins s σ H Q I h
 refine isTrue_chain (thn (ha pins s σ H _ I h) fun v s1 ⟨x,H1,I1,r1,q1⟩=>test_link (thn (hb pins s1 σ H1 _ I1 q1) fun u s2 ⟨y,H2,I2,r2,q2⟩ =>
  thn (ho pins s2 σ H2 x y v u _ I2 r1 r2 q2) fun d s3 ⟨z,H3,I3,r3,k,e,q3⟩=>?_)) hm
 subst e
 cases r3
 refine wpAny_truthy_bool ?_
 cases k with
 | false =>
  obtain ⟨k',e',q'⟩:=q3
  cases e'
  exact ite_ff ⟨H3,I3,q'⟩
 | true =>
  refine ite_tt (test_last (thn (hc pins s3 σ H3 _ I3 q3) fun w' s4 ⟨z',H4,I4,r4,q4⟩=>thn (ho' pins s4 σ H4 y z' u w' _ I4 r2 r4 q4) fun d' s5 ⟨z2,H5,I5,r5,k2,e2,q5⟩=>?_))
  subst e2
  cases r5
  exact wpAny_truthy_bool ⟨H5,I5,q5⟩
theorem sU:(sizeLine:Nat) < 2 ^ 63:=by rw [sizeLine_eq];decide
theorem bV:OpR X (binaryOp .Add) (fun x y H Q=>∃ i j,x = .str i ∧ y = .str j ∧ i.length + j.length ≤ sizeLine ∧ Q (.str (i ++ j)) H):=by
 intro pins s σ H x y v u Q I rx ry h
 obtain ⟨i,j,rfl,rfl,hz,q⟩:=h
 obtain ⟨t,rfl⟩:=rx
 obtain ⟨t',rfl⟩:=ry
 exact add_str (fun t' tk=>⟨.str (i ++ j),H,I.tok _,⟨_,rfl⟩,q⟩) hz
theorem rC {x:V} {us:List Value} (r:bB [x] us):∃ u,us = [u] ∧ bO x u:=by
 cases r with
 | cons r1 r2=>cases r2;exact ⟨_,rfl,r1⟩
theorem aHZ {x y:V} {us:List Value} (r:bB [x,y] us):∃ u w',us = [u,w'] ∧ bO x u ∧ bO y w':=by
 cases r with
 | cons r1 r2 =>
  cases r2 with
  | cons r3 r4=>cases r4;exact ⟨_,_,rfl,r1,r3⟩
theorem vO (hc:X.calm = true):eU X (.builtin "max") (fun xs H Q=>∃ i j,xs = [.int i,.int j] ∧ Q (.int (if j > i then j else i)) H):=by
 intro pins s σ H xs us Q I r h
 obtain ⟨i,j,rfl,q⟩:=h
 obtain ⟨u,w',rfl,⟨t,rfl⟩,⟨t',rfl⟩⟩:=aHZ r
 refine max_two_ints (I.ok.hd hc) fun h' tk k=>⟨_,H,I.kept k,?_,q⟩
 by_cases hj:j > i
 ·rw [if_pos hj,if_pos hj];exact ⟨_,rfl⟩
 ·rw [if_neg hj,if_neg hj];exact ⟨_,rfl⟩
theorem aDH (hc:X.calm = true):eU X (.builtin "min") (fun xs H Q=>∃ i j,xs = [.int i,.int j] ∧ Q (.int (if j < i then j else i)) H):=by
 intro pins s σ H xs us Q I r h
 obtain ⟨i,j,rfl,q⟩:=h
 obtain ⟨u,w',rfl,⟨t,rfl⟩,⟨t',rfl⟩⟩:=aHZ r
 refine min_two_ints (I.ok.hd hc) fun h' tk k=>⟨_,H,I.kept k,?_,q⟩
 by_cases hj:j < i
 ·rw [if_pos hj,if_pos hj];exact ⟨_,rfl⟩
 ·rw [if_neg hj,if_neg hj];exact ⟨_,rfl⟩
theorem eT:eU X (.type "str") (fun xs H Q=>∃ i,xs = [.int i] ∧ i.natAbs.log2 < 1920 ∧ Q (.str (toString i)) H):=by
 intro pins s σ H xs us Q I r h
 obtain ⟨i,rfl,hz,q⟩:=h
 obtain ⟨u,rfl,t,rfl⟩:=rC r
 exact PySem.P.str_of_int hz ⟨.str _,H,I.tok _,⟨_,rfl⟩,q⟩
end
end L2
namespace L2
open PySem PySem.Spec PyProof.Rows
structure ObjM (h:Heap) (x dx C:Addr) (mA:Str → Option Value):Prop where
 obj:h.get? x = some (PySem.W.instObj C dx)
 ns:h.Ns1 dx mA
 ne:dx ≠ x
theorem aCO {h:Heap} {dx:Addr} {mA:Str → Option Value} (n:h.Ns1 dx mA):∃ od,h.get? dx = some od ∧ ∀ name,PySem.W.lookIn name od = some (mA name):=by
 obtain ⟨o,es,ep,ho,hd,hk,_,hm⟩:=n
 refine ⟨o,ho,fun name=>?_⟩
 have e:=hm name
 unfold nsFind findBy at e
 rw [← Array.find?_toList] at e
 unfold PySem.W.lookIn
 rw [hd]
 dsimp only
 split
 ·rename_i y q
  rw [q] at e
  exact congrArg some e
 ·rename_i q
  rw [q] at e
  have a:es.toList.any (·.refKey) = false:=by
   rw [List.any_eq_false]
   intro y hy
   obtain ⟨z,t,hkey⟩:=hk y (Array.mem_toList_iff.mp hy)
   simp [DictEntry.refKey,hkey]
  have a':¬ es.toList.any (·.refKey) = true:=by rw [a];exact Bool.false_ne_true
  rw [if_neg a']
  exact congrArg some e
theorem ObjM.look {h:Heap} {x dx C:Addr} {mA:Str → Option Value} (I:ObjM h x dx C mA):∃ od,PySem.W.InstAt h x (PySem.W.instObj C dx) C (some od) ∧ ∀ name,PySem.W.lookIn name od = some (mA name) :=
 let ⟨od,ho,hl⟩:=aCO I.ns
 ⟨od,⟨I.obj,rfl,rfl,ho⟩,hl⟩
section
variable {prog:Program} {w:World} {A:Around} {E:Value → Shared → Prop} {s:Shared} {K:PySem.W.Frag} {x dx C f:Addr} {mA:Str → Option Value} {name:Str} {v:Value}
theorem aHO {expr:Bool} {Q:Value → Shared → Prop} (X:K.In s.heap) (I:ObjM s.heap x dx C mA) (hg:PySem.W.plainGet K C name = true) (hh:PySem.W.hasDictIn K C = true)
  (ha:PySem.W.findIn K (.ref C) name = some none) (hv:mA name = some v) (hv':PySem.W.handedIn v = true) (h:Q v { s with toks:=s.toks + 1 }) :
  wpAny (model prog w) A (getAttr (.ref x) name expr) Q E s:=by
 obtain ⟨od,J,hl⟩:=I.look
 exact PySem.W.get_value X J (PySem.W.plainGet_of hg).1 (PySem.W.findObj_own hh ha rfl (by rw [hl,hv])) hv' h
theorem aFJ {pl:Sem Bool} {Q:Value × List Value → Shared → Prop} (X:K.In s.heap) (I:ObjM s.heap x dx C mA) (hg:PySem.W.plainGet K C name = true)
  (hf:PySem.W.findIn K (.ref C) name = some (some (.ref f))) (ht:PySem.W.isFn K (.ref f) = true) (hv:mA name = none) (h:Q (.ref f,[.ref x]) s) :
  wpAny (model prog w) A (getMethod (.ref x) name pl) Q E s:=by
 obtain ⟨od,J,hl⟩:=I.look
 exact PySem.W.method_fn X J (PySem.W.plainGet_of hg).1 (PySem.W.plainGet_of hg).2 hf (beq_iff_eq.mp ht) (by show (PySem.W.lookIn name od).map (·.isSome) = some false;rw [hl,hv];rfl) h
theorem aGL {ns:List Str} {Q:Unit → Shared → Prop} (X:K.In s.heap) (I:ObjM s.heap x dx C mA)
  (hs:PySem.W.findIn K (.ref C) "__setattr__" = some (some (.builtin "object.__setattr__"))) (hp:PySem.W.plainOver K C = true) (ht:PySem.W.takerIn K C name = some none) (hh:PySem.W.hasDictIn K C = true)
  (hw:PySem.Within mA ns) (hsz:ns.length ≤ sizeLine)
  (h:∀ h',ObjM h' x dx C (fun y=>if y = name then some v else mA y) → Heap.SameBut dx s.heap h' → Q () { s with heap:=h',toks:=s.toks + 2 }) :
  wpAny (model prog w) A (setAttr (.ref x) name v) Q E s:=by
 obtain ⟨od,J,hl⟩:=I.look
 refine PySem.W.set_plain X J hs (PySem.W.osa_open (s:={ s with toks:=s.toks + 1 }) (r:=none) X J hp ht fun b=>?_)
 obtain ⟨cd,hc,hd'⟩:=PySem.W.any_some hh
 have hx:s.heap.get? x = some ⟨.ref C,some dx,.plain,#[]⟩:=I.obj
 refine wpAny_bind (wpAny_pure (wpAny_bind (wpAny_bind (wpAny_loadPart hx (wpAny_bind (PySem.W.Looks.here (s:={ s with toks:=s.toks + 1 }) (PySem.W.looks_clsIn X hc) ?_))))))
 rw [hd']
 refine wpAny_pure (a:=some dx) (wpAny_bind (wpAny_pure (wpAny_bind ?_)))
 refine wpAny_nsSet1 (s:={ s with toks:=s.toks + 1 }) I.ns fun h' hn2 hs2=>?_
 obtain ⟨oD,esD,epD,hoD,hdD,hcD⟩:=hn2.count (PySem.Within.cons name v hw)
 refine wpAny_bind (wpAny_lookBehind hoD (by rw [hdD];exact pastItsLine_dict (Nat.le_trans hcD (by rw [List.length_cons];omega))) ?_)
 exact wpAny_pure (h _ ⟨(hs2.2 _ (Ne.symm I.ne)).trans I.obj,hn2,I.ne⟩ hs2)
theorem aEX {R:Result → Shared → Prop} {vs:List Value} {kw:List (Str × Value)} (X:K.In s.heap) (hm:PySem.W.makesIn K C = true)
  (hi:PySem.W.findIn K (.ref C) "__init__" = some (some (.ref f))) (hf:PySem.W.typeIn K (.ref f) = some (.type "function"))
  (h:codeAny (model prog w) (A.under (.builtin "type.__call__" ⟨.ref C :: vs,kw⟩)) (.call (.ref f) ⟨.ref (s.heap.objs.size + 1) :: vs,kw⟩) (PySem.W.InitBack (s.heap.objs.size + 1) R)
   { s with heap:=(s.heap.push PySem.W.emptyDict).push (PySem.W.instObj C s.heap.objs.size) }) :
  codeAny (model prog w) A (.call (.ref C) ⟨vs,kw⟩) R s:=by
 obtain ⟨hh,g,d,t,os⟩:=s
 exact PySem.W.make_core (PySem.W.makes_of X hm) (PySem.W.looks_findIn X hi) (fun self=>PySem.W.bind_fn X self hf) (.inl rfl) h
end
def hW (f:Str) (v:V):List (Str × V) → List (Str × V)
 | []=>[(f,v)]
 | (g,x) :: r=>if g = f then (g,v) :: r else (g,x) :: hW f v r
theorem eQ (f g:Str) (v:V):∀ fs:List (Str × V),(hW f v fs).lookup g = if g = f then some v else fs.lookup g
 | []=>by
  show List.lookup g [(f,v)] = _
  by_cases h:g = f
  ·have hb:(g == f) = true:=beq_iff_eq.mpr h
   simp only [List.lookup,hb,if_pos h]
  ·have hb:(g == f) = false:=beq_eq_false_iff_ne.mpr h
   simp only [List.lookup,hb,if_neg h]
 | (k,x) :: r=>by
  have ih:=eQ f g v r
  rw [show hW f v ((k,x) :: r) = (if k = f then (k,v) :: r else (k,x) :: hW f v r) from rfl]
  by_cases hk:k = f
  ·rw [if_pos hk]
   by_cases h:g = k
   ·have hb:(g == k) = true:=beq_iff_eq.mpr h
    simp only [List.lookup,hb,if_pos (h.trans hk)]
   ·have hb:(g == k) = false:=beq_eq_false_iff_ne.mpr h
    simp only [List.lookup,hb,if_neg (fun e:g = f=>h (e.trans hk.symm))]
  ·rw [if_neg hk]
   by_cases h:g = k
   ·have hb:(g == k) = true:=beq_iff_eq.mpr h
    simp only [List.lookup,hb,if_neg (fun e:g = f=>hk (h.symm.trans e))]
   ·have hb:(g == k) = false:=beq_eq_false_iff_ne.mpr h
    simp only [List.lookup,hb]
    exact ih
theorem pL (f:Str) (v:V):∀ fs:List (Str × V),f ∈ (hW f v fs).map (·.1) ∧ ∀ g,g ∈ fs.map (·.1) → g ∈ (hW f v fs).map (·.1)
 | []=>⟨by simp [hW],fun g h=>by simp at h⟩
 | (k,x) :: r=>by
  obtain ⟨i1,i2⟩:=pL f v r
  rw [show hW f v ((k,x) :: r) = (if k = f then (k,v) :: r else (k,x) :: hW f v r) from rfl]
  by_cases hk:k = f
  ·rw [if_pos hk]
   subst hk
   exact ⟨by simp,fun g h=>by simpa using h⟩
  ·rw [if_neg hk]
   refine ⟨?_,fun g h=>?_⟩
   ·rw [List.map_cons]
    exact List.mem_cons_of_mem _ i1
   ·rw [List.map_cons] at h ⊢
    rcases List.mem_cons.mp h with e | e
    ·exact List.mem_cons.mpr (.inl e)
    ·exact List.mem_cons_of_mem _ (i2 g e)
theorem pZ (f:Str) (v:V):∀ fs:List (Str × V),(hW f v fs).length ≤ fs.length + 1
 | []=>by simp [hW]
 | (k,x) :: r=>by
  have ih:=pZ f v r
  rw [show hW f v ((k,x) :: r) = (if k = f then (k,v) :: r else (k,x) :: hW f v r) from rfl]
  by_cases hk:k = f
  ·rw [if_pos hk,List.length_cons,List.length_cons];omega
  ·rw [if_neg hk,List.length_cons,List.length_cons];omega
theorem uL.some_of {v:V} {o:Option Value} (r:uL (some v) o):∃ u,o = some u ∧ bO v u:=by
 cases o with
 | none=>exact (show False from r).elim
 | some u=>exact ⟨u,rfl,r⟩
theorem uL.none_of {o:Option Value} (r:uL none o):o = none:=by
 cases o with
 | none=>rfl
 | some u=>exact (show False from r).elim
theorem aCT {v:V} {u:Value} (r:bO v u):PySem.W.handedIn u = true:=by
 cases v with
 | non=>cases (show u = Value.none from r);rfl
 | bl b=>cases (show u = Value.bool b from r);rfl
 | int i=>obtain ⟨t,e⟩:=(show ∃ t,u = Value.int i t from r);cases e;rfl
 | str x=>obtain ⟨t,e⟩:=(show ∃ t,u = Value.str x t from r);cases e;rfl
 | byt b=>obtain ⟨t,e⟩:=(show ∃ t,u = Value.bytes b t from r);cases e;rfl
 | flt b=>obtain ⟨t,e⟩:=(show ∃ t,u = Value.float b t from r);cases e;rfl
 | ref a=>cases (show u = Value.ref a from r);rfl
 | ty n=>cases (show u = Value.type n from r);rfl
section
variable {P:Program} {w:World} {H H':Hp} {h h':Heap} {a C dx:Addr} {fs fs':List (Str × V)}
theorem qW (hok:HOk P w H h) (e:H a = some (.ins C dx fs)):∃ mA,ObjM h a dx C mA ∧ (∀ f,uL (fs.lookup f) (mA f)) ∧ PySem.Within mA (fs.map (·.1)) ∧ fs.length ≤ 1000 ∧ H dx = some (.own a):=by
 obtain ⟨d,z,ne,ob,mA,n,r,q⟩:=(show cN P w H h a (.ins C dx fs) from hok a _ e)
 exact ⟨mA,⟨ob,n,ne⟩,r,q,z,d⟩
end
structure Cls (K:PySem.W.Frag) (C:Addr):Prop where
 pg:PySem.W.plainGet K C Str.empty = true
 hd:PySem.W.hasDictIn K C = true
 po:PySem.W.plainOver K C = true
 sa:PySem.W.findIn K (.ref C) "__setattr__" = some (some (.builtin "object.__setattr__"))
theorem Cls.get {K:PySem.W.Frag} {C:Addr} (c:Cls K C) (f:Str):PySem.W.plainGet K C f = true:=c.pg
def lX (K:PySem.W.Frag) (C:Addr) (f:Str):Prop:=PySem.W.findIn K (.ref C) f = some none
theorem lX.taker {K:PySem.W.Frag} {C:Addr} {f:Str} (n:lX K C f):PySem.W.takerIn K C f = some none:=by
 unfold PySem.W.takerIn
 rw [show PySem.W.findIn K (.ref C) f = some none from n]
 rfl
structure Con (K:PySem.W.Frag) (C:Addr) (f:Str) (v:V) (u:Value):Prop where
 at_:PySem.W.findIn K (.ref C) f = some (some u)
 rel:bO v u
 get:PySem.W.specialIn K u "__get__" = some none
 cp:PySem.W.copiedNames.contains f = false
structure Meth (K:PySem.W.Frag) (C:Addr) (m:Str) (f:Addr):Prop where
 at_:PySem.W.findIn K (.ref C) m = some (some (.ref f))
 fn:PySem.W.isFn K (.ref f) = true
 kp:PySem.W.keepIn K (.ref f) = true
section
variable {X:Cx} {pins:List (Addr × Obj)} {σ:St} {H:Hp} {s:Shared} {a C dx:Addr} {fs:List (Str × V)} {f:Str} {v:V} {A:Around} {E:Value → Shared → Prop}
theorem aAC {b:Bool} {Q:Value → Shared → Prop} (I:Inv X pins σ H s) (e:H a = some (.ins C dx fs)) (c:Cls X.K C) (n:lX X.K C f) (l:fs.lookup f = some v)
  (h:∀ u s',Inv X pins σ H s' → bO v u → Q u s'):wpAny (model X.prog X.w) A (getAttr (.ref a) f b) Q E s:=by
 obtain ⟨mA,O,r,_,_,_⟩:=qW I.hok e
 obtain ⟨u,hu,ru⟩:=uL.some_of (v:=v) (o:=mA f) (by rw [← l];exact r f)
 exact aHO I.kIn O (c.get f) c.hd n hu (aCT ru) (h u _ (I.tok _) ru)
theorem aAB {m:Str} {g:Addr} {pl:Sem Bool} {Q:Value × List Value → Shared → Prop} (I:Inv X pins σ H s) (e:H a = some (.ins C dx fs)) (c:Cls X.K C) (k:Meth X.K C m g) (l:fs.lookup m = none)
  (h:Q (.ref g,[.ref a]) s):wpAny (model X.prog X.w) A (getMethod (.ref a) m pl) Q E s:=by
 obtain ⟨mA,O,r,_,_,_⟩:=qW I.hok e
 have hn:mA m = none:=uL.none_of (by rw [← l];exact r m)
 exact aFJ I.kIn O (c.get m) k.at_ k.fn hn h
theorem zH {y:V} {u:Value} {Q:Unit → Shared → Prop} (I:Inv X pins σ H s) (e:H a = some (.ins C dx fs)) (c:Cls X.K C) (n:lX X.K C f) (hl:fs.length < 1000) (ry:bO y u)
  (h:∀ s',Inv X pins σ (upd H a (.ins C dx (hW f y fs))) s' → Q () s'):wpAny (model X.prog X.w) A (setAttr (.ref a) f u) Q E s:=by
 obtain ⟨mA,O,r,wi,_,ho⟩:=qW I.hok e
 have hz:(fs.map (·.1)).length ≤ sizeLine:=by rw [List.length_map,sizeLine_eq];omega
 refine aGL I.kIn O c.sa c.po n.taker c.hd wi hz fun h' O' sb=>h _ ?_
 have hd:∃ o,h'.get? dx = some o:=let ⟨o,_,_,e',_⟩:=O'.ns;⟨o,e'⟩
 refine I.write (x:=a) (e:=dx) (by rw [e];exact True.intro) (.inr ho) (fun b q hb z=>(sb.2 b hb).trans z) hd ?_
 refine ⟨by rw [aR O.ne];exact ho,?_,O.ne,O'.obj,_,O'.ns,fun g=>?_,fun g hg=>?_⟩
 ·have:=pZ f y fs;omega
 ·show uL ((hW f y fs).lookup g) (if g = f then some u else mA g)
  rw [eQ]
  by_cases q:g = f
  ·rw [if_pos q,if_pos q];exact ry
  ·rw [if_neg q,if_neg q];exact r g
 ·by_cases q:g = f
  ·rw [q];exact (pL f y fs).1
  ·refine (pL f y fs).2 g (wi g fun z=>hg ?_)
   show (if g = f then some u else mA g) = none
   rw [if_neg q];exact z
theorem Inv.made (I:Inv X pins σ H s):Inv X pins σ (upd (upd H s.heap.objs.size (.own (s.heap.objs.size + 1))) (s.heap.objs.size + 1) (.ins C s.heap.objs.size []))
  { s with heap:=(s.heap.push PySem.W.emptyDict).push (PySem.W.instObj C s.heap.objs.size) }:=by
 have e1:(s.heap.push PySem.W.emptyDict).get? s.heap.objs.size = some PySem.W.emptyDict:=Heap.get?_push_size s.heap rfl
 have e2:((s.heap.push PySem.W.emptyDict).push (PySem.W.instObj C s.heap.objs.size)).get? (s.heap.objs.size + 1) = some (PySem.W.instObj C s.heap.objs.size):=by
  have:=Heap.get?_push_size (s.heap.push PySem.W.emptyDict) (o:=PySem.W.instObj C s.heap.objs.size) rfl
  rwa [Heap.size_push] at this
 have e3:(s.heap.push PySem.W.emptyDict).Ns s.heap.objs.size (fun _=>none):=⟨PySem.W.emptyDict,#[],_,e1,rfl,(fun e he=>absurd he (by simp)),fun _=>rfl⟩
 have I1:=I.laid (a:=s.heap.objs.size) (o:=.own (s.heap.objs.size + 1)) (h':=s.heap.push PySem.W.emptyDict) (t':=s.toks) (fun b u q=>Heap.get?_push_of_some _ q) (Nat.le_refl _) ⟨_,e1⟩
 refine I1.laid (a:=s.heap.objs.size + 1) (o:=.ins C s.heap.objs.size []) (t':=s.toks) (fun b u q=>Heap.get?_push_of_some _ q) (Nat.le_of_eq (Heap.size_push _ _)) ?_
 have ne:s.heap.objs.size ≠ s.heap.objs.size + 1:=Nat.ne_of_lt (Nat.lt_succ_self _)
 refine ⟨by rw [aR ne,aF],Nat.zero_le _,ne,e2,fun _=>none,(Heap.Ns1.of_empty e3).at fun o q=>Heap.get?_push_of_some _ q,fun _=>True.intro,fun y hy=>absurd rfl hy⟩
theorem aHV {prog:Program} {w:World} {env:Env} {e:Expr} {f:Str} {pos:Pos} {s:Shared} {Q:Value → Shared → Prop} (hb:attributeBase e f env (eval e env) = eval e env)
  (h:wpAny (model prog w) A (eval e env) (fun o s₁=>wpAny (model prog w) A (getAttr o f true) Q E s₁) E s):wpAny (model prog w) A (eval (.Attribute e f pos) env) Q E s :=
 Attribute_any_ h (by rw [arm_eval_Attribute,hb])
end
def aLR (K:PySem.W.Frag) (ta:TE) (f:Str):TE:=fun σ H Q=>ta σ H fun x H1=>∃ a C dx fs v,x = .ref a ∧ H1 a = some (.ins C dx fs) ∧ Cls K C ∧ lX K C f ∧ fs.lookup f = some v ∧ Q v H1
def aLT (K:PySem.W.Frag) (ta tv:TE) (f:Str):TS:=fun D σ H=>tv σ H fun y H1=>ta σ H1 fun x H2=>∃ a C dx fs,x = .ref a ∧ H2 a = some (.ins C dx fs) ∧ Cls K C ∧ lX K C f ∧ fs.length < 1000 ∧
 D.nx σ (upd H2 a (.ins C dx (hW f y fs)))
section
variable {X:Cx} {o e value:Expr} {f:Str} {pos pos' tpos:Pos} {ta tv:TE}
theorem aEQ (he:PE X e ta) (hb:attributeBase e f X.env (eval e X.env) = eval e X.env):PE X (.Attribute e f pos) (aLR X.K ta f):=by
 intro pins s σ H Q I h
 refine aHV hb (thn (he pins s σ H _ I h) fun u s1 ⟨x,H1,I1,rx,a,C,dx,fs,v,ex,ea,c,n,l,q⟩=>?_)
 subst ex
 obtain rfl:u = Value.ref a:=rx
 exact aAC I1 ea c n l fun u' s2 I2 ru=>⟨v,H1,I2,ru,q⟩
theorem aEL (ha:PE X o ta) (hv:PE X value tv) (hs:swapsWith value (some (.Attribute o f pos')) pos.line X.env = pure false):PS X (.Assign [.Attribute o f pos'] value pos) (aLT X.K ta tv f):=by
 intro pins s σ H D I h
 refine plainObj_wpAny_Assign_Attribute (thn (hv pins s σ H _ I h) fun u s1 ⟨y,H1,I1,ry,q⟩=>thn (ha pins s1 σ H1 _ I1 q) fun ov s2 ⟨x,H2,I2,rx,a,C,dx,fs,ex,ea,c,n,l,q2⟩=>?_) hs
 subst ex
 obtain rfl:ov = Value.ref a:=rx
 exact zH I2 ea c n l ry fun s3 I3=>⟨σ,_,I3,q2⟩
end
section
variable {X:Cx} {pins:List (Addr × Obj)} {σ:St} {H:Hp} {s:Shared} {A:Around} {E:Value → Shared → Prop} {Q:Value → Shared → Prop} {c:Value} {b:Bool}
inductive TyOf (K:PySem.W.Frag) (H:Hp):V → Value → Prop where
 | non:TyOf K H .non (.type "NoneType")
 | bl (x:Bool):TyOf K H (.bl x) (.type "bool")
 | int (i:Int):TyOf K H (.int i) (.type "int")
 | str (x:Str):TyOf K H (.str x) (.type "str")
 | flt (x:UInt64):TyOf K H (.flt x) (.type "float")
 | lst {a:Addr} {xs:List V} (e:H a = some (.lst xs)):TyOf K H (.ref a) (.type "list")
 | frz {a:Addr} {o:Obj} {xs:List V} (e:H a = some (.frz o (.lst xs))):TyOf K H (.ref a) (.type "list")
 | tup {a:Addr} {xs:List V} (e:H a = some (.tup xs)):TyOf K H (.ref a) (.type "tuple")
 | dK {a:Addr} {kvs:List (Key × V)} (e:H a = some (.dK kvs)):TyOf K H (.ref a) (.type "dict")
 | dT {a:Addr} {kvs:List (List Key × V)} (e:H a = some (.dT kvs)):TyOf K H (.ref a) (.type "dict")
 | ins {a C dx:Addr} {fs:List (Str × V)} (e:H a = some (.ins C dx fs)) (cl:Cls K C) (ha:PySem.W.findIn K (.ref C) "__class__" = some (some (.builtin "object.__class__")))
   (hn:PySem.W.specialIn K (.builtin "object.__class__") "__get__" = some (some (.builtin "getset_descriptor.__get__"))) (htk:PySem.W.takesIn K (.builtin "object.__class__") = some true)
   (hm:PySem.W.mroIn K C (.type "object") = some true):TyOf K H (.ref a) (.ref C)
theorem aCP {x:V} {u t:Value} (I:Inv X pins σ H s) (rx:bO x u) (ty:TyOf X.K H x t) (e:PySem.W.kitOne X.K t c = some b) (h:∀ tk,Q (.bool b) { s with toks:=tk }) :
  wpAny (model X.prog X.w) A (call (.builtin "isinstance") [u,c]) Q E s:=by
 cases ty with
 | non=>cases (show u = Value.none from rx);exact PySem.W.kia_one PySem.W.kitx_none I.kIn True.intro e (fun z=>nomatch z) h
 | bl y=>cases (show u = Value.bool y from rx);exact PySem.W.kia_one PySem.W.kitx_bool I.kIn True.intro e (fun z=>nomatch z) h
 | int i=>obtain ⟨t,q⟩:=(show ∃ t,u = Value.int i t from rx);cases q;exact PySem.W.kia_one PySem.W.kitx_int I.kIn True.intro e (fun z=>nomatch z) h
 | str y=>obtain ⟨t,q⟩:=(show ∃ t,u = Value.str y t from rx);cases q;exact PySem.W.kia_one PySem.W.kitx_str I.kIn True.intro e (fun z=>nomatch z) h
 | flt y=>obtain ⟨t,q⟩:=(show ∃ t,u = Value.float y t from rx);cases q;exact PySem.W.kia_one PySem.W.kitx_float I.kIn True.intro e (fun z=>nomatch z) h
 | @lst a xs ea =>
  cases (show u = Value.ref a from rx)
  obtain ⟨_,_,n,_,h1⟩:=(show cN X.prog X.w H s.heap a (.lst xs) from I.hok a _ ea)
  exact PySem.W.kia_one PySem.W.kitx_list I.kIn ⟨_,h1,rfl⟩ e (fun z=>nomatch z) h
 | @frz a ob xs ea =>
  cases (show u = Value.ref a from rx)
  obtain ⟨_,_,_,n,_,h1⟩:=(show cN X.prog X.w H s.heap a (.frz ob (.lst xs)) from I.hok a _ ea)
  exact PySem.W.kia_one PySem.W.kitx_list I.kIn ⟨_,h1,rfl⟩ e (fun z=>nomatch z) h
 | @tup a xs ea =>
  cases (show u = Value.ref a from rx)
  obtain ⟨_,_,_,p⟩:=(show cN X.prog X.w H s.heap a (.tup xs) from I.hok a _ ea)
  obtain ⟨o,h1,h2,_⟩:=p
  exact PySem.W.kia_one PySem.W.kitx_tuple I.kIn ⟨o,h1,h2⟩ e (fun z=>nomatch z) h
 | @dK a kvs ea =>
  cases (show u = Value.ref a from rx)
  obtain ⟨_,_,vs,_,p⟩:=(show cN X.prog X.w H s.heap a (.dK kvs) from I.hok a _ ea)
  obtain ⟨o,es,ep,h1,h2,_⟩:=p
  exact PySem.W.kia_one PySem.W.kitx_dict I.kIn ⟨o,h1,h2.1⟩ e (fun z=>nomatch z) h
 | @dT a kvs ea =>
  cases (show u = Value.ref a from rx)
  obtain ⟨_,_,xs,_,o,es,ep,h1,h2,_⟩:=(show cN X.prog X.w H s.heap a (.dT kvs) from I.hok a _ ea)
  exact PySem.W.kia_one PySem.W.kitx_dict I.kIn ⟨o,h1,h2.1⟩ e (fun z=>nomatch z) h
 | @ins a C dx fs ea cl ha hn htk hm =>
  cases (show u = Value.ref a from rx)
  obtain ⟨mA,O,_⟩:=qW I.hok ea
  obtain ⟨od,J,_⟩:=O.look
  exact PySem.W.kia_one (PySem.W.kitx_own (cl.get _) cl.hd ha hn htk hm) I.kIn J e (fun z=>nomatch z) h
end
end L2
namespace L2
open PySem PySem.Spec PyProof.Rows
structure Room (k:Nat) (A:Around):Prop where
 hd:A.handled = none
 dp:A.depth + 3 * k + 5 < recursionLimit
 un:A.units + 16 * k + 200 < cLine
theorem Room.mono {j k:Nat} {A:Around} (r:Room k A) (h:j ≤ k):Room j A:=⟨r.hd,by have:=r.dp;omega,by have:=r.un;omega⟩
theorem Room.deeper {k:Nat} {A:Around} (r:Room (k + 1) A) (env:Env):Room k (A.deeper env) :=
 ⟨r.hd,by have:=r.dp;show A.depth + 1 + 3 * k + 5 < _;omega,by have:=r.un;show A.units + 3 + 16 * k + 200 < _;omega⟩
theorem zU {A:Around} {C:Addr} {us:List Value} {kw:List (Str × Value)}:(A.under (.builtin "type.__call__" ⟨.ref C :: us,kw⟩)).depth = A.depth + 1:=by
 first | rfl | simp [Around.under,Code.weight,Code.isCreation,Code.isGuard,Code.isCaller,Code.frames,Code.isFrame,guardIds]
theorem zT {A:Around} {C:Addr} {us:List Value} {kw:List (Str × Value)}:(A.under (.builtin "type.__call__" ⟨.ref C :: us,kw⟩)).units = A.units + 1:=by
 first | rfl | simp [Around.under,Code.cUnits,Code.frames,Code.isFrame]
theorem Room.make {k:Nat} {A:Around} (r:Room (k + 1) A) (C:Addr) (us:List Value) (kw:List (Str × Value)):Room k (A.under (.builtin "type.__call__" ⟨.ref C :: us,kw⟩)) :=
 ⟨r.hd,by have:=r.dp;rw [zU];omega,by have:=r.un;rw [zT];omega⟩
theorem Room.depth {k:Nat} {A:Around} (r:Room k A):A.depth < recursionLimit:=by have:=r.dp;omega
theorem Room.units {k:Nat} {A:Around} (r:Room k A):A.units + 64 < cLine:=by have:=r.un;omega
def aIP:TA:=fun _ H Q=>Q [] H
def aKK (ta:TE) (tr:TA):TA:=fun σ H Q=>ta σ H fun x H1=>tr σ H1 fun xs H2=>Q (x :: xs) H2
section
variable {X:Cx} {e:Expr} {es:List Expr} {te:TE} {t:TA} {pos:Pos}
theorem aD:PA X [] aIP:=fun _ _ _ _ H Q I h=>Calls.spliced_nil ⟨[],H,I,.nil,h⟩
theorem aA (ha:PE X e te) (hr:PA X es t) (hs:starEach (e :: es) X.env = (false,eval e X.env) :: starEach es X.env:=by rfl):PA X (e :: es) (aKK te t):=by
 intro pos pins s σ H Q I h
 rw [hs]
 show wpAny _ _ (spliced ((false,eval e X.env) :: backTo pos (starEach es X.env))) _ _ s
 refine Calls.spliced_cons (thn (ha pins s σ H _ I h) fun u s1 ⟨x,H1,I1,r1,q1⟩=>?_)
 exact thn (hr pos pins s1 σ H1 _ I1 q1) fun us s2 ⟨xs,H2,I2,r2,q2⟩=>⟨x :: xs,H2,I2,.cons r1 r2,q2⟩
def aLM (t:TA):TE:=fun σ H Q=>t σ H fun xs H1=>xs.length ≤ sizeLine ∧ ∀ p,H1 p = none → Q (.ref p) (upd H1 p (.tup xs))
def aLP (t:TA):TE:=fun σ H Q=>t σ H fun xs H1=>xs.length ≤ sizeLine ∧ ∀ p,H1 p = none → Q (.ref p) (upd H1 p (.lst xs))
theorem mY {x1} (h:PA X es t):PE X (.Tuple es x1 pos) (aLM t):=by
 intro pins s σ H Q I hq
 refine wpAny_Tuple_spliced (thn (h pos pins s σ H _ I hq) fun us s1 ⟨xs,H1,I1,r,z,q⟩=>⟨by rw [← r.length];exact z,?_⟩)
 have hf:H1 s1.heap.objs.size = none:=I1.hok.fresh (Nat.le_refl _)
 refine ⟨.ref s1.heap.objs.size,upd H1 s1.heap.objs.size (.tup xs),I1.laid (t':=s1.toks) (fun b u e=>Heap.get?_push_of_some _ e) (Nat.le_refl _) ?_,rfl,q _ hf⟩
 exact ⟨z,us,r,⟨_,Heap.get?_push_size _ rfl,rfl,_,rfl,rfl⟩⟩
theorem dP (h:PA X es t):PE X (.List es pos) (aLP t):=by
 intro pins s σ H Q I hq
 refine wpAny_List_spliced (thn (h pos pins s σ H _ I hq) fun us s1 ⟨xs,H1,I1,r,z,q⟩=>⟨by rw [← r.length];exact z,?_⟩)
 have hf:H1 s1.heap.objs.size = none:=I1.hok.fresh (Nat.le_refl _)
 refine ⟨.ref s1.heap.objs.size,upd H1 s1.heap.objs.size (.lst xs),I1.laid (t':=s1.toks) (fun b u e=>Heap.get?_push_of_some _ e) (Nat.le_refl _) ?_,rfl,q _ hf⟩
 exact ⟨z,us,0,r,Heap.get?_push_size _ rfl⟩
end
abbrev Sp:=List V → Hp → VK → XK → Prop
abbrev CXT:=List Env → Hp → Shared → XK → Value → Shared → Prop
structure Env0 (P:Program) (w:World) (K:PySem.W.Frag) (mg:Str → Option Value) (base:Heap) (A:Around) (outer:List Env) (s:Shared) (H:Hp):Prop where
 frames:A.frames = some outer
 mod:Mod K mg base
 bs:∀ b o,base.get? b = some o → s.heap.get? b = some o ∧ H b = none
 bsz:base.objs.size ≤ s.heap.objs.size
 funs:s.heap.FunFrames base outer
 frf:∀ b ∈ frs outer,H b = none
 hok:HOk P w H s.heap
 bare:AllBare s.gens
def CE (outer:List Env) (P:Program) (w:World) (H:Hp) (s:Shared) (Q:VK) (u:Value) (s':Shared):Prop :=
 ∃ v H',s'.os = s.os ∧ AllBare s'.gens ∧ Un (frs outer) [] H H' s.heap s'.heap ∧ HOk P w H' s'.heap ∧ bO v u ∧ Q v H'
def CR (CX:CXT) (outer:List Env) (P:Program) (w:World) (H:Hp) (s:Shared) (Q:VK) (E:XK) (r:Result) (s':Shared):Prop :=
 match r with
 | .ok (.ret u)=>CE outer P w H s Q u s'
 | .ok _=>False
 | .error e=>CX outer H s E e s'
structure FnOk (P:Program) (w:World) (K:PySem.W.Frag) (mg:Str → Option Value) (base:Heap) (CX:CXT) (k:Nat) (f:Addr) (fd:FuncData) (ps:List Str) (sp:Sp):Prop where
 len:∀ vs H Q E,sp vs H Q E → vs.length = ps.length
 run:∀ (A:Around) (outer:List Env) (s:Shared) (H:Hp) (args:Args) (us:List Value) (vs:List V) (Q:VK) (E:XK),Room k A → Env0 P w K mg base A outer s H → BindsTo s fd args (ps.zip us) → bB vs us → sp vs H Q E →
  codeAny (model P w) A (.call (.ref f) args) (CR CX outer P w H s Q E) s
theorem FnOk.imp {P:Program} {w:World} {K:PySem.W.Frag} {mg:Str → Option Value} {base:Heap} {CX:CXT} {k:Nat} {f:Addr} {fd:FuncData} {ps:List Str} {sp sp':Sp} (F:FnOk P w K mg base CX k f fd ps sp)
  (h:∀ vs H Q E,sp' vs H Q E → sp vs H Q E):FnOk P w K mg base CX k f fd ps sp' :=
 ⟨fun vs H Q E q=>F.len vs H Q E (h _ _ _ _ q),fun A outer s H args us vs Q E hr he hb hv hs=>F.run A outer s H args us vs Q E hr he hb hv (h _ _ _ _ hs)⟩
theorem Env0.make {P:Program} {w:World} {K:PySem.W.Frag} {mg:Str → Option Value} {base:Heap} {A:Around} {outer:List Env} {s:Shared} {H:Hp} (e:Env0 P w K mg base A outer s H) (C:Addr) (us:List Value) (kw:List (Str × Value)) :
  Env0 P w K mg base (A.under (.builtin "type.__call__" ⟨.ref C :: us,kw⟩)) outer s H:=⟨by first | exact e.frames | (simpa [Around.under,Code.envs,Code.isFrame,pushEnvs] using e.frames),e.mod,e.bs,e.bsz,e.funs,e.frf,e.hok,e.bare⟩
section
variable {X:Cx} {pins:List (Addr × Obj)} {σ:St} {H:Hp} {s s':Shared}
theorem Inv.env0 (I:Inv X pins σ H s):Env0 X.prog X.w X.K X.mg X.base X.A X.stack s H :=
 ⟨I.ok.frames,I.ok.mod,I.bs,Nat.le_trans I.ok.bsz I.sz,I.stack,I.stkFree,I.hok,I.bare⟩
theorem Inv.after {Q:VK} {u:Value} (I:Inv X pins σ H s) (h:CE X.stack X.prog X.w H s Q u s'):EP X pins σ Q u s':=by
 obtain ⟨v,H',os,bare,un,hok,r,q⟩:=h
 obtain ⟨hh,g,d,t,os'⟩:=s'
 obtain rfl:os' = s.os:=os
 exact ⟨v,H',I.call (h':=hh) (g':=g) (d':=d) (t':=t) (ch:=[]) un hok bare (fun b z=>absurd z (by simp)),r,q⟩
end
def aAR (sp:Sp) (dvs:List V) (E:XK) (t:TA):TE:=fun σ H Q=>t σ H fun vs H1=>sp (vs ++ dvs) H1 Q E
def aIB (C:Addr) (m:Str) (sp:Sp) (dvs:List V) (E:XK) (ta:TE) (t:TA):TE:=fun σ H Q=>ta σ H fun x H1=>∃ a dx fs,x = .ref a ∧ H1 a = some (.ins C dx fs) ∧ fs.lookup m = none ∧
 t σ H1 fun vs H2=>sp (x :: (vs ++ dvs)) H2 Q E
def aKH (C:Addr) (sp:Sp) (dvs:List V) (E:XK) (t:TA):TE:=fun σ H Q=>t σ H fun vs H1=>∀ x dx,H1 x = none → H1 dx = none → dx ≠ x →
 sp (.ref x :: (vs ++ dvs)) (upd (upd H1 dx (.own x)) x (.ins C dx [])) (fun v H2=>v = .non ∧ Q (.ref x) H2) E
def gC (K:PySem.W.Frag) (fd:FuncData) (ps:List Str) (ds:List Value):Prop :=
 ∀ (s:Shared) (us:List Value),K.In s.heap → (us ++ ds).length = ps.length → BindsTo s fd ⟨us,[]⟩ (ps.zip (us ++ ds))
theorem gC.all {K:PySem.W.Frag} {fd:FuncData} {ps:List Str} (h:∀ us:List Value,us.length = ps.length → bindArgs fd ⟨us,[]⟩ = pure (ps.zip us)):gC K fd ps []:=fun s us _ hl=>by
 rw [List.append_nil] at hl ⊢
 exact .of_eq (h us hl)
def pT (CX:CXT) (X:Cx) (E:XK):Prop:=∀ (pins:List (Addr × Obj)) (σ:St) (H:Hp) (s:Shared) (e:Value) (s':Shared),Inv X pins σ H s → CX X.stack H s E e s' → X.xe e s'
section
variable {X:Cx} {CX:CXT} {k:Nat} {f C:Addr} {fd:FuncData} {ps:List Str} {sp:Sp} {dvs:List V} {ds:List Value} {E:XK} {x m:Str} {p pos apos:Pos} {e o:Expr} {es:List Expr} {ta:TE} {t:TA}
theorem aEH {pins:List (Addr × Obj)} {σ:St} {H:Hp} {s:Shared} {Q:VK} {us:List Value} {vs:List V} (F:FnOk X.prog X.w X.K X.mg X.base CX k f fd ps sp) (hr:Room k X.A) (hb:gC X.K fd ps ds) (hd:bB dvs ds) (hx:pT CX X E)
  (I:Inv X pins σ H s) (r:bB vs us) (h:sp (vs ++ dvs) H Q E):wpAny (model X.prog X.w) X.A (call (.ref f) us) (EP X pins σ Q) X.xe s:=by
 have r2:bB (vs ++ dvs) (us ++ ds):=r.append hd
 have hl:(us ++ ds).length = ps.length:=by rw [← r2.length];exact F.len _ _ _ _ h
 refine wpAny_call (codeAny_mono (F.run X.A X.stack s H ⟨us,[]⟩ (us ++ ds) (vs ++ dvs) Q E hr I.env0 (hb s us I.kIn hl) r2 h) fun r s' hq=>?_)
 cases r with
 | error e=>exact hx pins σ H s e s' I hq
 | ok fl =>
  cases fl with
  | ret u=>exact I.after hq
  | next=>exact False.elim hq
  | brk=>exact False.elim hq
  | cont=>exact False.elim hq
theorem aBD (F:FnOk X.prog X.w X.K X.mg X.base CX k f fd ps sp) (hr:Room k X.A) (hg:Gl X x) (hm:X.mg x = some (.ref f)) (hk:PySem.W.keepIn X.K (.ref f) = true) (hb:gC X.K fd ps ds) (hd:bB dvs ds) (hx:pT CX X E)
  (ha:PA X (e :: es) t) (hdb:(x == ("__debug__":Str)) = false:=by decide) (he:starEach (e :: es) X.env = (false,eval e X.env) :: starEach es X.env:=by rfl) (hpl:(backTo pos (starEach es X.env)).any (·.1) = false:=by rfl) :
  PE X (.Call (.Name x p) (e :: es) [] pos) (aAR sp dvs E t):=by
 intro pins s σ H Q I h
 refine wpAny_Call_Name_kw (iV I hg hm ?_ hdb)
 refine PySem.W.callWith_K (h₀:=X.base) I.ok.mod.kin hk (thn (ha pos pins s σ H _ I h) fun us s1 ⟨vs,H1,I1,r,q⟩=>⟨I1.kIn,?_⟩) he hpl
 exact aEH F hr hb hd hx I1 r q
theorem aEP {pl:Sem Bool} (he:PE X o ta) (c:Cls X.K C) (hm:Meth X.K C m f) (F:FnOk X.prog X.w X.K X.mg X.base CX k f fd ps sp) (hr:Room k X.A) (hb:gC X.K fd ps ds) (hd:bB dvs ds) (hx:pT CX X E)
  (ht:eval (.Call (.Attribute o m apos) [] [] pos) X.env = (do
   let ov ← eval o X.env
   standAt apos.atName
   let (f,first) ← holding [ov] (getMethod ov m pl)
   callWith pos f first (backTo pos (starEach [] X.env)) (backToKw pos (keywordEach [] X.env))):=by rfl) :
  PE X (.Call (.Attribute o m apos) [] [] pos) (aIB C m sp dvs E ta aIP):=by
 intro pins s σ H Q I h
 refine PySem.W.methodCall_KW (pl:=pl) (thn (he pins s σ H _ I h) fun u s1 ⟨x,H1,I1,rx,a,dx,fs,ex,ea,l,q⟩=>?_) ht
 subst ex
 obtain rfl:u = Value.ref a:=rx
 refine aAB I1 ea c hm l ?_
 exact PySem.W.callWith_K0 (first:=[.ref a]) I1.kIn hm.kp (aEH (us:=[.ref a]) (vs:=[.ref a]) F hr hb hd hx I1 (.cons rfl .nil) q)
structure Mk (K:PySem.W.Frag) (C f:Addr):Prop where
 makes:PySem.W.makesIn K C = true
 init:PySem.W.findIn K (.ref C) "__init__" = some (some (.ref f))
 fn:PySem.W.isFn K (.ref f) = true
 kp:PySem.W.keepIn K (.ref C) = true
end
section
variable {X:Cx} {CX:CXT} {k:Nat} {f C:Addr} {fd:FuncData} {ps ks:List Str} {sp:Sp} {E:XK} {x m:Str} {p pos apos kpos:Pos} {e o:Expr} {es:List Expr} {kws:List Keyword} {te ta:TE} {t tk:TA} {nm:Option Str}
structure KBinds (K:PySem.W.Frag) (fd:FuncData) (ps ks:List Str) (g:List Value → List Value → List Value) (gV:List V → List V → List V):Prop where
 to:∀ (s:Shared) (us ws:List Value),K.In s.heap → (g us ws).length = ps.length → BindsTo s fd ⟨us,ks.zip ws⟩ (ps.zip (g us ws))
 rel:∀ {vs:List V} {us:List Value} {zs:List V} {ws:List Value},bB vs us → bB zs ws → bB (gV vs zs) (g us ws)
variable {g:List Value → List Value → List Value} {gV:List V → List V → List V}
end
structure FnScope (N P:List Str) (sc:Scope):Prop where
 kind:sc.kind = .function
 co:sc.isCoroutine = false
 gen:sc.isGenerator = false
 nd:N.Nodup
 pre:N.take P.length = P
 par:∀ x ∈ P,sc.names.lookup x = some .local ∨ sc.names.lookup x = some .cell
 nofree:∀ y ∈ sc.names,y.2 ≠ .free
theorem vR {kindOf:Str → Option NameKind} {x:Str}:∀ {binds:List (Str × Value)} {m:Str → Option Value},(∀ v,(x,v) ∉ binds) → bindL kindOf binds m x = m x
 | [],_,_=>rfl
 | (n,v) :: r,m,h=>by
  unfold bindL
  rw [vR fun w hw=>h w (List.mem_cons_of_mem _ hw)]
  split
  ·have:x ≠ n:=by rintro rfl;exact h v List.mem_cons_self
   simp [this]
  ·rfl
theorem vT {kindOf:Str → Option NameKind} {x:Str}:∀ {binds:List (Str × Value)} {m:Str → Option Value},(∀ v,(x,v) ∉ binds) → bindC kindOf binds m x = m x
 | [],_,_=>rfl
 | (n,v) :: r,m,h=>by
  unfold bindC
  rw [vT fun w hw=>h w (List.mem_cons_of_mem _ hw)]
  split
  ·rfl
  ·have:x ≠ n:=by rintro rfl;exact h v List.mem_cons_self
   simp [this]
theorem vS {kindOf:Str → Option NameKind} {x:Str} {v:Value}:∀ {P:List Str} {vs:List Value} {i:Nat} {m:Str → Option Value},P.Nodup → P[i]? = some x → vs[i]? = some v → kindOf x = some .local →
  bindL kindOf (P.zip vs) m x = some v
 | [],_,_,_,_,h,_,_=>by simp at h
 | _ :: _,[],_,_,_,_,h,_=>by simp at h
 | p :: P,w :: vs,0,m,nd,h1,h2,hk=>by
  simp at h1 h2;subst h1;subst h2
  show bindL kindOf ((p,w) :: P.zip vs) m p = _
  unfold bindL
  rw [vR fun v hv=>(List.nodup_cons.mp nd).1 (List.of_mem_zip hv).1,if_pos hk]
  simp
 | p :: P,w :: vs,i + 1,m,nd,h1,h2,hk=>by
  show bindL kindOf ((p,w) :: P.zip vs) m x = _
  unfold bindL
  exact vS (i:=i) (List.nodup_cons.mp nd).2 (by simpa using h1) (by simpa using h2) hk
theorem vU {kindOf:Str → Option NameKind} {x:Str} {v:Value}:∀ {P:List Str} {vs:List Value} {i:Nat} {m:Str → Option Value},P.Nodup → P[i]? = some x → vs[i]? = some v → kindOf x ≠ some .local →
  bindC kindOf (P.zip vs) m x = some v
 | [],_,_,_,_,h,_,_=>by simp at h
 | _ :: _,[],_,_,_,_,h,_=>by simp at h
 | p :: P,w :: vs,0,m,nd,h1,h2,hk=>by
  simp at h1 h2;subst h1;subst h2
  show bindC kindOf ((p,w) :: P.zip vs) m p = _
  unfold bindC
  rw [vT fun v hv=>(List.nodup_cons.mp nd).1 (List.of_mem_zip hv).1,if_neg hk]
  simp
 | p :: P,w :: vs,i + 1,m,nd,h1,h2,hk=>by
  show bindC kindOf ((p,w) :: P.zip vs) m x = _
  unfold bindC
  exact vU (i:=i) (List.nodup_cons.mp nd).2 (by simpa using h1) (by simpa using h2) hk
def iD (N:List Str) (vs:List V):St:=vs.map some ++ List.replicate (N.length - vs.length) none
def hJ (CX:CXT) (P:Program) (w:World) (K:PySem.W.Frag) (mg:Str → Option Value) (base:Heap) (N:List Str) (qual:Str) (scope:Scope) (f:Addr) (cd:Value) (A:Around) (outer:List Env) (s:Shared) (H:Hp) (E:XK):Cx where
 prog:=P
 w:=w
 K:=K
 mg:=mg
 base:=base
 A:=A.deeper (envOfC qual scope s.heap.objs.size f cd)
 N:=N
 s₀:=s
 H₀:=H
 env:=envOfC qual scope s.heap.objs.size f cd
 outer:=outer
 stack:=envOfC qual scope s.heap.objs.size f cd :: outer
 ex:=[]
 calm:=true
 fn:=fun _=>true
 pn:=[]
 xe:=fun e s'=>wpAny (model P w) (A.deeper (envOfC qual scope s.heap.objs.size f cd)) (leaving (envOfC qual scope s.heap.objs.size f cd) e) (fun _ s''=>CX outer H s E e s'') (fun e' s''=>CX outer H s E e' s'') s'
theorem yT {sc:Scope} {n:Nat} {x:Str} (h:sc.names.lookup x = some .cell):∃ c,(cellsFrom n sc.names []).lookup x = some c:=by
 have q:=PySem.W.cellsFrom_some sc.names n [] (.inl h)
 exact Option.isSome_iff_exists.mp q
theorem aCQ {CX:CXT} {P:Program} {w:World} {K:PySem.W.Frag} {mg:Str → Option Value} {base:Heap} {N ps:List Str} {qual:Str} {scope:Scope} {f:Addr} {cd:Value} {A:Around} {outer:List Env} {s s1:Shared} {H:Hp} {E:XK} {us:List Value} {vs:List V}
  (S:FnScope N ps scope) (hd:A.handled = none) (e0:Env0 P w K mg base A outer s H) (hl:vs.length = ps.length) (r:bB vs us)
  (x:InCallC s s.heap.objs.size (bindL (envOfC qual scope s.heap.objs.size f cd).kindOf (ps.zip us) fun _=>none) (cellsFrom (s.heap.objs.size + 1) scope.names []) (bindC (envOfC qual scope s.heap.objs.size f cd).kindOf (ps.zip us) fun _=>none) s1) :
  Inv (hJ CX P w K mg base N qual scope f cd A outer s H E) [] (iD N vs) H s1:=by
 have hpl:ps.length ≤ N.length:=by have:=congrArg List.length S.pre;rw [List.length_take] at this;omega
 obtain ⟨h1,tk,rfl,hk⟩:=x.done
 have noA:∀ b:Addr,b ∉ (hJ CX P w K mg base N qual scope f cd A outer s H E).ex:=fun b z=>absurd (show b ∈ ([]:List Addr) from z) (by simp)
 refine ⟨⟨e0.mod,S.kind,rfl,rfl,Nat.le_refl _,fun y z c h1 h2=>?_,fun y hy=>?_,fun y c _ h=>?_,fun _=>hd,Around.frames_deeper e0.frames,.inr ⟨rfl,rfl⟩,fun b z=>absurd z (noA b),e0.bs,e0.bsz,fun b _ _=>noA b,fun b z=>absurd z (noA b),e0.funs,e0.frf⟩,
  rfl,e0.bare,Un.kept hk,⟨_,x.toInCall.ns,fun i y v h1 h2 h3=>?_⟩,fun y c h=>⟨_,x.cell y c h⟩,e0.hok.fresh (Nat.le_refl _),fun y c h=>?_,fun p hp=>absurd (show p ∈ ([]:List (Addr × Obj)) from hp) (by simp),e0.hok.kept hk,?_⟩
 ·exact name_of_addr x.apart (PySem.mem_of_lookup h1) (PySem.mem_of_lookup h2)
 ·have hy:scope.names.lookup y = some .cell ∨ scope.names.lookup y = some .free:=hy
  rcases hy with hy | hy
  ·exact yT hy
  ·exact absurd rfl (S.nofree _ (PySem.mem_of_lookup hy))
 ·exact Nat.le_of_lt (x.above y c (PySem.mem_of_lookup h))
 ·have hi:i < vs.length:=by
   unfold iD at h2
   by_cases hi:i < vs.length
   ·exact hi
   ·rw [List.getElem?_append_right (by simpa using hi)] at h2
    rw [List.getElem?_replicate] at h2
    split at h2 <;> cases h2
  have ha:vs[i]? = some v:=by
   unfold iD at h2
   rw [List.getElem?_append_left (by simpa using hi),List.getElem?_map] at h2
   cases e:vs[i]? with
   | none=>rw [e] at h2;cases h2
   | some a=>rw [e] at h2;cases h2;rfl
  obtain ⟨u,hu,rv⟩:=r.get ha
  have hp:ps[i]? = some y:=by
   rw [← S.pre,List.getElem?_take_of_lt (by omega)];exact h1
  have ndP:ps.Nodup:=by rw [← S.pre];exact S.nd.sublist (List.take_sublist _ _)
  refine ⟨u,rv,?_⟩
  rcases S.par y (List.mem_of_getElem? hp) with k | k
  ·exact .inl ⟨k,vS ndP hp hu k⟩
  ·obtain ⟨c,e⟩:=yT (n:=s.heap.objs.size + 1) k
   refine .inr ⟨.inl k,c,e,?_⟩
   have q:=x.cell y c e
   rw [vU ndP hp hu (by show scope.names.lookup y ≠ _;rw [k];decide)] at q
   exact q
 ·exact e0.hok.fresh (Nat.le_of_lt (x.above y c (PySem.mem_of_lookup h)))
 ·unfold iD
  show _ = N.length
  rw [List.length_append,List.length_map,List.length_replicate]
  omega
theorem aFL {CX:CXT} {P:Program} {w:World} {K:PySem.W.Frag} {mg:Str → Option Value} {base:Heap} {k:Nat} {f:Addr} {name qual:Str} {params:Arguments} {body:List Stmt} {scope:Scope} {dV kV doc pm cdv ct oc:Value} {an od:Option Addr}
  {osl:Array (Option Value)} {N ps:List Str} {sp:Sp} (lk:K.lookup f = some ⟨oc,od,.func (PySem.W.fnOf name qual params body scope dV kV doc pm an cdv ct),osl⟩) (hcd:PySem.W.codeIn K cdv qual = true) (S:FnScope N ps scope)
  (len:∀ vs H Q E,sp vs H Q E → vs.length = ps.length)
  (hbody:∀ (A:Around) (outer:List Env) (s:Shared) (H:Hp) (vs:List V) (Q:VK) (E:XK),Room k (A.deeper (envOfC qual scope s.heap.objs.size f cdv)) → sp vs H Q E →
   ∃ t,PSs (hJ CX P w K mg base N qual scope f cdv A outer s H E) body t ∧ t { nx:=fun _ H'=>Q .non H',rt:=Q } (iD N vs) H) :
  FnOk P w K mg base CX (k + 1) f (PySem.W.fnOf name qual params body scope dV kV doc pm an cdv ct) ps sp:=by
 refine ⟨len,fun A outer s H args us vs Q E hr e0 hb r hsp=>?_⟩
 have hl:=len _ _ _ _ hsp
 have KX:K.In s.heap:=e0.mod.kin.keeps fun b o e=>(e0.bs b o e).1
 have lim:s.heap.NoLimit:=e0.mod.nolimit.keeps fun b o e=>(e0.bs b o e).1
 have hkind:∀ y ∈ ps.zip us,scope.names.lookup y.1 = some .local ∨ (scope.names.lookup y.1 = some .cell ∧ ((cellsFrom (s.heap.objs.size + 1) scope.names []).lookup y.1).isSome = true):=fun ⟨n,v⟩ hy=>by
  rcases S.par n (List.of_mem_zip hy).1 with q | q
  ·exact .inl q
  ·exact .inr ⟨q,PySem.W.cellsFrom_some _ _ _ (.inl q)⟩
 refine codeAny_call_function hr.depth (KX _ _ lk) rfl S.co S.gen rfl (PySem.W.codeRec_of KX hcd) (hb _ _ _ _ ?_)
 refine wpAny_newFunctionEnv_cells S.kind hkind fun env he s1 x=>?_
 subst he
 refine ⟨lim.keeps x.toInCall.keep,codeAny_func ?_⟩
 obtain ⟨t,ht,hq⟩:=hbody A outer s H vs Q E (hr.deeper _) hsp
 have I:Inv (hJ CX P w K mg base N qual scope f cdv A outer s H E) [] (iD N vs) H s1:=aCQ S hr.hd e0 hl r x
 refine wpAny_mono (ht [] s1 (iD N vs) H _ I hq) (fun fl s' hs=>?_) fun e s' hs=>hs
 have fin:∀ {σ':St} {H':Hp} {v:V} {u:Value},Inv (hJ CX P w K mg base N qual scope f cdv A outer s H E) [] σ' H' s' → bO v u → Q v H' → CE outer P w H s Q u s' :=
  fun {σ' H' v u} J rv q=>⟨v,H',J.os,J.bare,J.base,J.hok,rv,q⟩
 cases fl with
 | ret u =>
  obtain ⟨v,σ',H',J,rv,q⟩:=hs
  exact fin J rv q
 | next =>
  obtain ⟨σ',H',J,q⟩:=hs
  exact fin (v:=V.non) (u:=Value.none) J rfl q
 | brk =>
  obtain ⟨_,_,_,q⟩:=hs
  exact False.elim q
 | cont =>
  obtain ⟨_,_,_,q⟩:=hs
  exact False.elim q
end L2
namespace L2
open PySem PySem.Spec PyProof.Rows
section
variable {X:Cx} {x:Str} {p pos:Pos} {e:Expr} {es:List Expr} {t:TA} {id T:String} {r:List V → Hp → VK → Prop}
def tCB (r:List V → Hp → VK → Prop) (t:TA):TE:=fun σ H Q=>t σ H fun vs H1=>r vs H1 Q
theorem aP (hc:eU X (.builtin id) r) (hg:Gl X x) (hm:X.mg x = none) (hv:bootBuiltins x = some (.builtin id)) (ha:PA X (e :: es) t) (hn:x ≠ "__name__":=by decide) (hdb:(x == ("__debug__":Str)) = false:=by decide)
  (he:starEach (e :: es) X.env = (false,eval e X.env) :: starEach es X.env:=by rfl) (hpl:(backTo pos (starEach es X.env)).any (·.1) = false:=by rfl):PE X (.Call (.Name x p) (e :: es) [] pos) (tCB r t):=by
 intro pins s σ H Q I h
 refine wpAny_Call_Name_kw (pK I hg hm hv ?_ hn hdb)
 exact PyProof.Rows.callWith_builtin1 (thn (ha pos pins s σ H _ I h) fun us s1 ⟨vs,H1,I1,r1,q1⟩=>hc pins s1 σ H1 vs us Q I1 r1 q1) he hpl
theorem bS (hc:eU X (.type T) r) (hg:Gl X x) (hm:X.mg x = none) (hv:bootBuiltins x = some (.type T)) (ha:PA X (e :: es) t) (hn:x ≠ "__name__":=by decide) (hdb:(x == ("__debug__":Str)) = false:=by decide)
  (he:starEach (e :: es) X.env = (false,eval e X.env) :: starEach es X.env:=by rfl) (hpl:(backTo pos (starEach es X.env)).any (·.1) = false:=by rfl):PE X (.Call (.Name x p) (e :: es) [] pos) (tCB r t):=by
 intro pins s σ H Q I h
 refine wpAny_Call_Name_kw (pK I hg hm hv ?_ hn hdb)
 exact PyProof.Rows.callWith_type1 (thn (ha pos pins s σ H _ I h) fun us s1 ⟨vs,H1,I1,r1,q1⟩=>hc pins s1 σ H1 vs us Q I1 r1 q1) he hpl
end
end L2
namespace L2
open PySem PySem.Spec PyProof.Rows
section
variable {κ:Type} [DecidableEq κ]
def aJY (kvs:List (κ × V)) (k:κ):Option V:=(kvs.find? fun kv=>decide (kv.1 = k)).map (·.2)
def aIY (kvs:List (κ × V)) (k:κ) (v:V):List (κ × V) :=
 if (kvs.any fun kv=>decide (kv.1 = k)) = true then kvs.map (fun kv=>if kv.1 = k then (kv.1,v) else kv) else kvs ++ [(k,v)]
def dropK (kvs:List (κ × V)) (k:κ):List (κ × V):=kvs.filter fun kv=>decide (kv.1 ≠ k)
theorem KV.keys {kvs:List (κ × V)} {vs:List (κ × Value)} (r:KV kvs vs):kvs.map (·.1) = vs.map (·.1):=by
 unfold KV at r
 induction r with
 | nil=>rfl
 | cons h t ih=>rw [List.map_cons,List.map_cons,ih,h.1]
theorem KV.length {kvs:List (κ × V)} {vs:List (κ × Value)} (r:KV kvs vs):kvs.length = vs.length:=Paired.length r
end
section
variable {P:Program} {w:World} {H:Hp} {h:Heap} {a:Addr}
end
def DGet (H:Hp) (a:Addr) (y:V) (r:Option V):Prop :=
 (∃ kvs k,Rd H a (.dK kvs) ∧ y = kV k ∧ r = aJY kvs k) ∨ ∃ kvs k b,Rd H a (.dT kvs) ∧ y = .ref b ∧ H b = some (.tup (k.map kV)) ∧ r = aJY kvs k
def DPut (H:Hp) (a:Addr) (y v:V) (H':Hp):Prop :=
 (∃ kvs k,H a = some (.dK kvs) ∧ y = kV k ∧ kvs.length < sizeLine ∧ H' = upd H a (.dK (aIY kvs k v))) ∨
 ∃ kvs k b,H a = some (.dT kvs) ∧ y = .ref b ∧ H b = some (.tup (k.map kV)) ∧ kvs.length < sizeLine ∧ H' = upd H a (.dT (aIY kvs k v))
section
variable {X:Cx} {pins:List (Addr × Obj)} {σ:St} {H:Hp} {s:Shared} {a:Addr} {y v:V} {u r:Value} {o:Option V} {A:Around} {E:Value → Shared → Prop}
theorem Inv.big (I:Inv X pins σ H s):sysModules < s.heap.objs.size:=by
 have h:mainGlobals < s.heap.objs.size:=(I.mod.glob.keeps I.bk).lt
 exact Nat.lt_trans (by decide) h
end
section
variable {X:Cx} {pins:List (Addr × Obj)} {σ:St} {H:Hp} {s:Shared} {a:Addr} {kvs:List (Key × V)} {k:Key} {u:Value} {A:Around} {E:Value → Shared → Prop}
end
section
variable {X:Cx} {o i e value:Expr} {pos pos' tpos:Pos} {td ty tv:TE}
end
theorem aFW {P:Program} {w:World} {H:Hp} (h:Heap) (hb:sysModules < h.objs.size):cN P w H (h.push { cls:=.type "dict",data:=.dict #[] }) h.objs.size (.dK []) :=
 ⟨Nat.zero_le _,beq_eq_false_iff_ne.mpr (Ne.symm (Nat.ne_of_lt hb)),[],.nil,Heap.DictOf.new h⟩
def aIQ:TE:=fun _ H Q=>∀ p,H p = none → Q (.ref p) (upd H p (.dK []))
section
variable {X:Cx} {pos:Pos}
theorem aER:PE X (.Dict [] [] pos) aIQ:=fun pins s σ H Q I h =>
 wpAny_Dict_empty ⟨.ref s.heap.objs.size,_,I.laid (a:=s.heap.objs.size) (o:=.dK []) (t':=s.toks) (fun _ _ q=>Heap.get?_push_of_some _ q) (Nat.le_refl _) (aFW s.heap I.big),rfl,h _ (I.hok.fresh (Nat.le_refl _))⟩
end
def aIO:List (TE × TE) → St → Hp → (List (V × V) → Hp → Prop) → Prop
 | [],_,H,Q=>Q [] H
 | (tk,tv) :: r,σ,H,Q=>tk σ H fun x H1=>tv σ H1 fun y H2=>aIO r σ H2 fun ps H3=>Q ((x,y) :: ps) H3
abbrev VV:List (V × V) → List (Value × Value) → Prop:=Paired fun p q=>bO p.1 q.1 ∧ bO p.2 q.2
def mergeK (kvs more:List (Key × V)):List (Key × V):=more.foldl (fun acc kv=>aIY acc kv.1 kv.2) kvs
structure M1 (X:Cx) (o:Expr) (m:Str) (apos:Pos) (e:Expr) (cpos:Pos):Prop where
 base:attributeBase o m X.env (eval o X.env) = eval o X.env
 few:((backTo cpos (starEach [e] X.env)).all (fun x=>!x.1) && (backToKw cpos (keywordEach [] X.env)).all (fun x=>x.1.isSome)
  && decide (([e]:List Expr).length + ([]:List Keyword).length + (if ([]:List Keyword).isEmpty then 0 else 1) < 30)) = true
 line:(apos.endLine == cpos.line) = true
 trees:backTo cpos (starEach [e] X.env) = [(false,eval e X.env)]
structure M2 (X:Cx) (o:Expr) (m:Str) (apos:Pos) (e f:Expr) (cpos:Pos):Prop where
 base:attributeBase o m X.env (eval o X.env) = eval o X.env
 few:((backTo cpos (starEach [e,f] X.env)).all (fun x=>!x.1) && (backToKw cpos (keywordEach [] X.env)).all (fun x=>x.1.isSome)
  && decide (([e,f]:List Expr).length + ([]:List Keyword).length + (if ([]:List Keyword).isEmpty then 0 else 1) < 30)) = true
 line:(apos.endLine == cpos.line) = true
 trees:backTo cpos (starEach [e,f] X.env) = [(false,eval e X.env),(false,eval f X.env)]
def IsD (H:Hp) (a:Addr):Prop:=(∃ kvs,Rd H a (.dK kvs)) ∨ ∃ kvs,Rd H a (.dT kvs)
section
variable {X:Cx} {pins:List (Addr × Obj)} {σ:St} {H:Hp} {s:Shared} {a:Addr} {y d:V} {u r:Value} {o:Option V} {A:Around} {E:Value → Shared → Prop}
end
section
variable {X:Cx} {o e f:Expr} {apos cpos:Pos} {td ty tx:TE}
end
section
variable {X:Cx} {pins:List (Addr × Obj)} {σ:St} {H:Hp} {s:Shared} {a:Addr} {kvs:List (Key × V)} {A:Around} {E:Value → Shared → Prop}
end
section
variable {X:Cx} {pins:List (Addr × Obj)} {σ:St} {H:Hp} {s:Shared} {a:Addr} {y:V} {u:Value} {A:Around} {E:Value → Shared → Prop}
end
end L2
namespace HT
open PySem PyProof.Rows
def aLC:List Int → List Int → Bool
 | [],[]=>false
 | [],_ :: _=>true
 | _ :: _,[]=>false
 | x :: xs,y :: ys=>if x = y then aLC xs ys else decide (x < y)
section
open PySem.SeqAt
open PySem.AutoSeq1 (wpAny_loadPart')
open PySem.MeetsSeq PySem.MeetsSeq2 PySem.MeetsSeq3
end
section
variable {prog:Program} {w:World} {A:Around} {E:Value → Shared → Prop} {s:Shared}
def sIx (n d:Nat):Option Int → Nat
 | none=>d
 | some v=>if v < 0 then (v + (n:Int)).toNat else min v.toNat n
theorem sIx_none (n d:Nat):sIx n d none = d:=rfl
theorem sIx_nat (n d k:Nat):sIx n d (some (k:Int)) = min k n:=by
 show (if (k:Int) < 0 then ((k:Int) + (n:Int)).toNat else min (k:Int).toNat n) = min k n
 rw [if_neg (by omega),Int.toNat_natCast]
theorem aIV (n d:Nat) (hd:d ≤ n) (o:Option Int):sIx n d o ≤ n:=by
 cases o with
 | none=>exact hd
 | some v =>
  show (if v < 0 then (v + (n:Int)).toNat else min v.toNat n) ≤ n
  by_cases hv:v < 0
  ·rw [if_pos hv];omega
  ·rw [if_neg hv];exact Nat.min_le_right _ _
theorem aBT (v:Int) (n d:Nat):(if v < 0 then max (v + (n:Int)) 0 else min v (n:Int)) = ((sIx n d (some v):Nat):Int):=by
 show (if v < 0 then max (v + (n:Int)) 0 else min v (n:Int)) = (((if v < 0 then (v + (n:Int)).toNat else min v.toNat n):Nat):Int)
 by_cases hv:v < 0
 ·simp only [if_pos hv];omega
 ·simp only [if_neg hv];omega
theorem aAM (lo hi:Option Int) (n:Nat):Builtin.Slice.sliceAdjust lo hi 1 (n:Int) = (((sIx n 0 lo:Nat):Int),((sIx n n hi:Nat):Int)):=by
 have h1:¬ ((1:Int) < 0):=by omega
 unfold Builtin.Slice.sliceAdjust
 simp only [h1,if_false]
 refine Prod.ext ?_ ?_
 ·cases lo with
  | none=>rfl
  | some v=>exact aBT v n 0
 ·cases hi with
  | none=>rfl
  | some v=>exact aBT v n n
theorem zL (i j:Nat):Builtin.Slice.slicePlaces (i:Int) (j:Int) 1 = j - i:=by
 unfold Builtin.Slice.slicePlaces
 have h1:(1:Int) > 0:=by omega
 simp only [h1,if_true,Int.ediv_one]
 split <;> omega
theorem rR {v:Value} {o:Option Int} {Q:Option Int → Shared → Prop} (p:IsPart v o) (h:Q o s):wpAny (model prog w) A (Builtin.Slice.slicePartIndex v) Q E s:=by
 cases p with
 | none=>exact slicePart_none h
 | int i t=>exact slicePart_int h
theorem pA {sl:Addr} {vl vu:Value} {lo hi:Option Int} {n:Nat} {Q:Int × Int × Nat → Shared → Prop} (hs:s.heap.IsSliceOf sl vl vu .none) (pl:IsPart vl lo) (pu:IsPart vu hi)
  (h:Q (((sIx n 0 lo:Nat):Int),1,sIx n n hi - sIx n 0 lo) s):wpAny (model prog w) A (Builtin.Slice.sliceApplied (.ref sl) (pure (n:Int))) Q E s:=by
 obtain ⟨os,hos,hcs,hds⟩:=id hs
 unfold Builtin.Slice.sliceApplied Builtin.Slice.sliceFields
 refine wpAny_bind (wpAny_bind (wpAny_field hos hds (x:=vl) rfl (wpAny_bind (wpAny_field hos hds (x:=vu) rfl (wpAny_bind (wpAny_field hos hds (x:=.none) rfl (wpAny_pure ?_)))))))
 refine wpAny_bind (slicePart_none ?_)
 show wpAny _ _ (if ((1:Int) == 0) = true then _ else _) _ _ s
 rw [if_neg (by decide)]
 refine wpAny_bind (rR pl (wpAny_bind (rR pu (wpAny_bind (wpAny_pure ?_)))))
 show wpAny _ _ (match Builtin.Slice.sliceAdjust lo hi 1 (n:Int) with | (lo,hi)=>pure (lo,(1:Int),Builtin.Slice.slicePlaces lo hi 1)) _ _ s
 rw [aAM lo hi n]
 show wpAny _ _ (pure (((sIx n 0 lo:Nat):Int),(1:Int),Builtin.Slice.slicePlaces ((sIx n 0 lo:Nat):Int) ((sIx n n hi:Nat):Int) 1)) _ _ s
 rw [zL]
 exact wpAny_pure h
theorem aEM (xs:Array Value) (i k:Nat):((List.range k).filterMap fun (m:Nat)=>xs[((i:Int) + (m:Int) * 1).toNat]?).toArray = ((xs.toList.drop i).take k).toArray:=by
 have e:(fun (m:Nat)=>xs[((i:Int) + (m:Int) * 1).toNat]?) = fun m=>xs[i + m]?:=by
  funext m
  have:((i:Int) + (m:Int) * 1).toNat = i + m:=by omega
  rw [this]
 rw [e]
 have:=pick_run xs i k
 rw [List.filterMap_map] at this
 have e2:((fun x=>xs[x]?) ∘ fun x=>i + x) = fun m=>xs[i + m]?:=rfl
 rw [e2] at this
 rw [this]
theorem getItem_tuple_cut {t sl:Addr} {items:Array Value} {vl vu:Value} {lo hi:Option Int} {Q:Value → Shared → Prop} (ht:IsTup s.heap t items) (hs:s.heap.IsSliceOf sl vl vu .none) (pl:IsPart vl lo) (pu:IsPart vu hi)
  (hw:¬ (sIx items.size 0 lo = 0 ∧ sIx items.size items.size hi = items.size))
  (h:Q (.ref s.heap.objs.size) { s with heap:=s.heap.push { cls:=.type "tuple",data:=.seq ((items.toList.drop (sIx items.size 0 lo)).take (sIx items.size items.size hi - sIx items.size 0 lo)).toArray } })
  (hsz:items.size ≤ sizeLine):wpAny (model prog w) A (getItem (.ref t) (.ref sl)) Q E s:=by
 have htake:sizeOk (.seq ((items.toList.drop (sIx items.size 0 lo)).take (sIx items.size items.size hi - sIx items.size 0 lo)).toArray):=by
  show ((items.toList.drop (sIx items.size 0 lo)).take (sIx items.size items.size hi - sIx items.size 0 lo)).toArray.size ≤ sizeLine
  rw [List.size_toArray,List.length_take,List.length_drop,Array.length_toList]
  omega
 have hj:sIx items.size items.size hi ≤ items.size:=aIV _ _ (Nat.le_refl _) hi
 obtain ⟨os,hos,hcs,hds⟩:=id hs
 have hTs:s.TypeIs (.ref sl) "slice":=⟨os,hos,hcs⟩
 unfold getItem
 try with_reducible refine wpAny_holding ?_
 first | refine wpAny_bind (wpAny_pure ?_) | skip
 refine wpAny_bind (wpAny_sequenceKey ht.typeIs (by decide) ?_)
 refine wpAny_bind (wpAny_callSpecial?_slot (name:=Str.ofString "__getitem__") ht.typeIs PyProof.Rows.slot_tuple_getitem
  (wpAny_call_entry PyProof.Rows.slot_tuple_getitem ht.typeIs entry_tuple_getitem ?_ (args_tuple_getitem _ _)))
 show wpAny _ _ (Builtin.Tuple.tupleItemsOf (.ref t) >>= _) _ _ s
 refine wpAny_bind (tupleItemsOf_ ht ?_)
 refine wpAny_bind (wpAny_typeOf hTs ?_)
 rw [if_pos (by decide)]
 refine wpAny_bind (pA hs pl pu ?_)
 have hno:¬ ((((sIx items.size 0 lo:Nat):Int) == 0 && (1:Int) == 1 && (sIx items.size items.size hi - sIx items.size 0 lo) == items.size) = true):=by
  intro q
  rw [Bool.and_eq_true,Bool.and_eq_true] at q
  have q1:((sIx items.size 0 lo:Nat):Int) = 0:=eq_of_beq q.1.1
  have q2:sIx items.size items.size hi - sIx items.size 0 lo = items.size:=eq_of_beq q.2
  exact hw ⟨by omega,by omega⟩
 show wpAny _ _ (if (((sIx items.size 0 lo:Nat):Int) == 0 && (1:Int) == 1 && (sIx items.size items.size hi - sIx items.size 0 lo) == items.size) = true then _ else _) _ _ s
 rw [if_neg hno,aEM]
 first
  | exact wpAny_bind (m:=Builtin.Tuple.tupleExact _) (wpAny_newObj_type (wpAny_pure ⟨_,rfl,wpAny_pure h⟩) htake)
  | exact wpAny_bind (m:=Builtin.Tuple.tupleExact _) (wpAny_newObj_type (wpAny_bind (wpAny_pure (wpAny_pure ⟨_,rfl,wpAny_pure h⟩))) htake)
  | exact wpAny_bind (wpAny_bind (m:=Builtin.Tuple.tupleExact _) (wpAny_newObj_type (wpAny_pure (wpAny_pure ⟨_,rfl,wpAny_pure h⟩)) htake))
  | exact wpAny_bind (wpAny_bind (m:=Builtin.Tuple.tupleExact _) (wpAny_newObj_type (wpAny_pure ⟨_,rfl,wpAny_pure h⟩) htake))
end
end HT
namespace L2
open PySem PySem.Spec PyProof.Rows
abbrev TO:=St → Hp → (Option Int → Hp → Prop) → Prop
def PO (X:Cx) (e:Option Expr) (t:TO):Prop :=
 ∀ (pins:List (Addr × Obj)) (s:Shared) (σ:St) (H:Hp) (Q:Option Int → Hp → Prop),Inv X pins σ H s → t σ H Q →
  wpAny (model X.prog X.w) X.A (evalPart e X.env) (fun u s'=>∃ o H',Inv X pins σ H' s' ∧ IsPart u o ∧ Q o H') X.xe s
def aGH:TO:=fun _ H Q=>Q none H
def aKE (t:TE):TO:=fun σ H Q=>t σ H fun x H1=>∃ i,x = .int i ∧ Q (some i) H1
section
variable {X:Cx} {e:Expr} {te:TE} {lo hi:Option Expr} {tl th:TO} {pos p2:Pos}
theorem cG:PO X none aGH:=by
 intro pins s σ H Q I h
 rw [evalPart_none]
 exact wpAny_pure ⟨none,H,I,.none,h⟩
theorem bP (h:PE X e te):PO X (some e) (aKE te):=by
 intro pins s σ H Q I hw
 rw [evalPart_some]
 refine thn (h pins s σ H _ I hw) fun u s1 ⟨x,H1,I1,r1,q1⟩=>?_
 obtain ⟨i,rfl,q⟩:=q1
 obtain ⟨t,rfl⟩:=r1
 exact ⟨some i,H1,I1,.int i t,q⟩
def SlR (X:Cx) (r:V → Option Int → Option Int → Hp → VK → Prop):Prop :=
 ∀ (pins:List (Addr × Obj)) (s:Shared) (σ:St) (H:Hp) (x:V) (v vl vu:Value) (lo hi:Option Int) (sl:Addr) (Q:VK),Inv X pins σ H s → bO x v → s.heap.IsSliceOf sl vl vu .none → IsPart vl lo → IsPart vu hi → r x lo hi H Q →
  ∃ T id,typeLookup (.type T) "__getitem__" = pure (some (.builtin id)) ∧ s.TypeIs v T ∧ wpAny (model X.prog X.w) X.A (getItem v (.ref sl)) (EP X pins σ Q) X.xe s
def tSl (r:V → Option Int → Option Int → Hp → VK → Prop) (te:TE) (tl th:TO):TE:=fun σ H Q=>te σ H fun x H1=>tl σ H1 fun l H2=>th σ H2 fun u H3=>r x l u H3 Q
theorem bM {r:V → Option Int → Option Int → Hp → VK → Prop} (hr:SlR X r) (he:PE X e te) (hl:PO X lo tl) (hu:PO X hi th):PE X (.Subscript e (.Slice lo hi none p2) pos) (tSl r te tl th):=by
 intro pins s σ H Q I h
 refine Subscript_ (thn (he pins s σ H _ I h) fun v s1 ⟨x,H1,I1,r1,q1⟩=>?_)
 refine wpAny_Slice (thn (hl pins s1 σ H1 _ I1 q1) fun vl s2 ⟨l,H2,I2,pl,q2⟩=>thn (hu pins s2 σ H2 _ I2 q2) fun vu s3 ⟨u,H3,I3,pu,q3⟩=>?_)
 rw [evalPart_none]
 refine wpAny_pure ?_
 have I4:Inv X pins σ H3 { s3 with heap:=s3.heap.push { cls:=.type "slice",data:=.fields #[vl,vu,.none] } }:=I3.kept (t':=s3.toks) fun b ob q=>Heap.get?_push_of_some _ q
 obtain ⟨T,id,hT,ht,hg⟩:=hr pins { s3 with heap:=s3.heap.push { cls:=.type "slice",data:=.fields #[vl,vu,.none] } } σ H3 x v vl vu l u s3.heap.objs.size Q I4 r1 (Heap.IsSliceOf.new ..) pl pu q3
 show wpAny (model X.prog X.w) X.A (subscriptTail e (.Slice lo hi none p2) v (.ref s3.heap.objs.size)) (EP X pins σ Q) X.xe { s3 with heap:=s3.heap.push { cls:=.type "slice",data:=.fields #[vl,vu,.none] } }
 exact tail_any (ops:=[.ref s3.heap.objs.size,v]) ht hT hg (by with_unfolding_all rfl)
def fE (xs:List V) (lo hi:Option Int):List V:=(xs.drop (HT.sIx xs.length 0 lo)).take (HT.sIx xs.length xs.length hi - HT.sIx xs.length 0 lo)
theorem qD (xs:List V) (lo hi:Option Int):(fE xs lo hi).length ≤ xs.length:=by
 unfold fE
 rw [List.length_take,List.length_drop]
 omega
def aKQ (K:PySem.W.Frag):V → Option Int → Option Int → Hp → VK → Prop:=fun x lo hi H Q=>∃ a xs,x = .ref a ∧ SqT K H a xs ∧
 ¬ (HT.sIx xs.length 0 lo = 0 ∧ HT.sIx xs.length xs.length hi = xs.length) ∧ ∀ p,H p = none → Q (.ref p) (upd H p (.tup (fE xs lo hi)))
theorem aIU:SlR X (aKQ X.K):=by
 intro pins s σ H x v vl vu lo hi sl Q I rx hs pl pu h
 obtain ⟨a,xs,rfl,hx,hw,q⟩:=h
 cases rx
 obtain ⟨its,r,ht,hz⟩:=I.tuple hx
 have hlen:its.toArray.size = xs.length:=by rw [List.size_toArray];exact r.length.symm
 refine ⟨"tuple",_,PyProof.Rows.slot_tuple_getitem.lookup,ht.typeIs,?_⟩
 refine HT.getItem_tuple_cut ht hs pl pu (by rw [hlen];exact hw) ?_ (by rw [hlen];exact hz)
 rw [hlen]
 refine ⟨.ref s.heap.objs.size,_,I.laid (t':=s.toks) (o:=.tup (fE xs lo hi)) (fun b ob q=>Heap.get?_push_of_some _ q) (Nat.le_refl _) ?_,rfl,q _ (I.hok.fresh (Nat.le_refl _))⟩
 exact ⟨Nat.le_trans (qD xs lo hi) hz,_,(r.drop (HT.sIx xs.length 0 lo)).take (HT.sIx xs.length xs.length hi - HT.sIx xs.length 0 lo),nM.new _ _⟩
end
end L2
namespace L2
open PySem PySem.Spec PyProof.Rows
def ixN (n:Nat) (i:Int):Option Nat:=if 0 ≤ i then (if i < n then some i.toNat else none) else if -(n:Int) ≤ i then some (i + n).toNat else none
def atI {α:Type} (xs:List α) (i:Int):Option α:=(ixN xs.length i).bind fun j=>xs[j]?
theorem aHL {n:Nat} {i:Int} {j:Nat} (h:ixN n i = some j):seqIndex? i n = some j ∧ j < n ∧ -(n:Int) ≤ i ∧ i < n:=by
 unfold ixN at h
 by_cases h0:0 ≤ i
 ·rw [if_pos h0] at h
  by_cases h1:i < n
  ·rw [if_pos h1] at h
   have e:i.toNat = j:=Option.some.inj h
   exact ⟨by rw [seqIndex_of h0 h1,e],by omega,by omega,h1⟩
  ·rw [if_neg h1] at h;cases h
 ·rw [if_neg h0] at h
  by_cases h1:-(n:Int) ≤ i
  ·rw [if_pos h1] at h
   have e:(i + n).toNat = j:=Option.some.inj h
   exact ⟨by rw [seqIndex_neg (by omega) h1,e],by omega,h1,by omega⟩
  ·rw [if_neg h1] at h;cases h
theorem xE {α:Type} {xs:List α} {i:Int} {v:α} (h:atI xs i = some v):∃ j,seqIndex? i xs.length = some j ∧ xs[j]? = some v ∧ j < xs.length ∧ -(xs.length:Int) ≤ i ∧ i < xs.length:=by
 unfold atI at h
 cases e:ixN xs.length i with
 | none=>rw [e] at h;cases h
 | some j =>
  rw [e] at h
  obtain ⟨h1,h2,h3,h4⟩:=aHL e
  exact ⟨j,h1,h,h2,h3,h4⟩
theorem bC {α:Type} {xs:List α} {j:Nat} {v:α} (h:xs[j]? = some v):atI xs (j:Int) = some v:=by
 have hj:j < xs.length:=(List.getElem?_eq_some_iff.mp h).1
 have e:ixN xs.length (j:Int) = some j:=by
  unfold ixN
  rw [if_pos (by omega),if_pos (by omega)];simp
 unfold atI;rw [e];exact h
def aHX (b:Expr):Prop:=∀ o i,subscripted b false o i = operate [o,i] (getItem o i)
def IxR (X:Cx) (r:R2):Prop :=
 ∀ (value slice:Expr) (pins:List (Addr × Obj)) (s:Shared) (σ:St) (H:Hp) (x y:V) (v u:Value) (Q:VK),Inv X pins σ H s → bO x v → bO y u → r x y H Q →
  subscripted slice false v u = operate [v,u] (getItem v u) → wpAny (model X.prog X.w) X.A (subscriptTail value slice v u) (EP X pins σ Q) X.xe s
def MtR (X:Cx) (id:String) (r:V → List V → Hp → VK → Prop):Prop :=
 ∀ (pins:List (Addr × Obj)) (s:Shared) (σ:St) (H:Hp) (x:V) (xs:List V) (v:Value) (us:List Value) (Q:VK),Inv X pins σ H s → bO x v → bB xs us → r x xs H Q →
  wpAny (model X.prog X.w) X.A (call (.builtin id) (v :: us)) (EP X pins σ Q) X.xe s
section
variable {X:Cx} {a b:Expr} {ta tb:TE} {pos:Pos}
theorem bI {r:R2} (hr:IxR X r) (ha:PE X a ta) (hb:PE X b tb) (hs:aHX b):PE X (.Subscript a b pos) (tOp r ta tb):=by
 intro pins s σ H Q I h
 exact Subscript_ (aJU ha hb I h fun v u s2 x y H2 I2 rx ry q=>hr a b pins s2 σ H2 x y v u Q I2 rx ry q (hs _ _))
def aKU (K:PySem.W.Frag):R2:=fun x y H Q=>∃ p xs i v,x = .ref p ∧ y = .int i ∧ SqL K H p xs ∧ atI xs i = some v ∧ Q v H
def aKT (K:PySem.W.Frag):R2:=fun x y H Q=>∃ p xs i v,x = .ref p ∧ y = .int i ∧ SqT K H p xs ∧ atI xs i = some v ∧ Q v H
def aLU:R2:=fun x y H Q=>∃ z i c,x = .str z ∧ y = .int i ∧ z.length ≤ sizeLine ∧ atI z.cps.toList i = some c ∧ Q (.str ⟨#[c]⟩) H
theorem aHK:IxR X (aKU X.K):=by
 intro value slice pins s σ H x y v u Q I rx ry h hs
 obtain ⟨p,xs,i,z,rfl,rfl,hq,he,q⟩:=h
 cases rx
 obtain ⟨t,rfl⟩:=ry
 obtain ⟨its,r,pl,hz⟩:=I.list hq
 obtain ⟨j,h1,h2,h3,h4,h5⟩:=xE he
 obtain ⟨w,ew,rw'⟩:=r.get h2
 have hl:=r.length
 have hn:=sU
 have fin:EP X pins σ Q w s:=⟨z,H,I,rw',q⟩
 by_cases h0:0 ≤ i
 ·have hj:i.toNat = j:=by
   rw [seqIndex_of h0 h5] at h1
   exact Option.some.inj h1
  exact item_listR pl.isList h0 (by omega) (by rw [hj];simpa using ew) fin hs
 ·have hj:(i + (its.toArray.size:Int)).toNat = j:=by
   rw [seqIndex_neg (by omega) h4] at h1
   rw [List.size_toArray,← hl]
   exact Option.some.inj h1
  exact subscriptTail_builtinR (x:=w) pl.isList.typeIs slot_list_getitem.lookup
   (wpAny_getItem_list_neg (Q:=fun r s'=>r = w ∧ EP X pins σ Q r s') pl.isList (by omega) (by rw [List.size_toArray] <;> omega) (by omega) (by rw [hj];simpa using ew) ⟨rfl,fin⟩) hs
theorem aJP:IxR X (aKT X.K):=by
 intro value slice pins s σ H x y v u Q I rx ry h hs
 obtain ⟨p,xs,i,z,rfl,rfl,hq,he,q⟩:=h
 cases rx
 obtain ⟨t,rfl⟩:=ry
 obtain ⟨its,r,pl,hz⟩:=I.tuple hq
 obtain ⟨j,h1,h2,h3,h4,h5⟩:=xE he
 obtain ⟨w,ew,rw'⟩:=r.get h2
 have hl:=r.length
 have hn:=sU
 have fin:EP X pins σ Q w s:=⟨z,H,I,rw',q⟩
 exact subscriptTail_builtinR (x:=w) pl.typeIs slot_tuple_getitem.lookup
  (getItem_tuple (j:=j) (Q:=fun r s'=>r = w ∧ EP X pins σ Q r s') pl (by omega) (by omega) (by rw [List.size_toArray,← hl];exact h1) (by simpa using ew) ⟨rfl,fin⟩) hs
theorem nJ:IxR X aLU:=by
 intro value slice pins s σ H x y v u Q I rx ry h hs
 obtain ⟨z,i,c,rfl,rfl,hz,he,q⟩:=h
 obtain ⟨t,rfl⟩:=rx
 obtain ⟨t',rfl⟩:=ry
 obtain ⟨j,h1,h2,h3,h4,h5⟩:=xE he
 have hl:z.cps.toList.length = z.length:=by simp [Str.length]
 rw [hl] at h1 h4 h5
 have hn:=sU
 exact tail_any (typeIs_str s z t) slot_str_getitem.lookup (getItem_str (c:=c) (by
  have e1:decide (i < -(2 ^ 63:Int)) = false:=decide_eq_false (by omega)
  have e2:decide (i ≥ 2 ^ 63) = false:=decide_eq_false (by omega)
  rw [e1,e2,Bool.or_false]) (by rw [h1];simpa using h2) ⟨.str ⟨#[c]⟩,H,I.tok _,⟨_,rfl⟩,q⟩) hs
theorem wC (lo hi:Option Int) (n:Nat):(sliceBounds lo hi none n).1 = ((HT.sIx n 0 lo:Nat):Int) ∧ (sliceBounds lo hi none n).2.1 = ((HT.sIx n n hi:Nat):Int) ∧ (sliceBounds lo hi none n).2.2 = 1:=by
 refine ⟨?_,?_,rfl⟩
 ·cases lo with
  | none=>simp [sliceBounds,HT.sIx]
  | some i =>
   simp only [sliceBounds,HT.sIx,Option.getD_none,show (1:Int) > 0 by decide,if_true]
   by_cases h:i < 0
   ·simp only [h,if_true] <;> omega
   ·simp only [h,if_false] <;> omega
 ·cases hi with
  | none=>simp [sliceBounds,HT.sIx]
  | some i =>
   simp only [sliceBounds,HT.sIx,Option.getD_none,show (1:Int) > 0 by decide,if_true]
   by_cases h:i < 0
   ·simp only [h,if_true] <;> omega
   ·simp only [h,if_false] <;> omega
theorem tU (its:List Value) (lo hi:Option Int):slicePick its.toArray lo hi none = ((its.drop (HT.sIx its.length 0 lo)).take (HT.sIx its.length its.length hi - HT.sIx its.length 0 lo)).toArray:=by
 obtain ⟨h1,h2,h3⟩:=wC lo hi its.toArray.size
 unfold slicePick
 rw [h1,h2,h3]
 simp only [sliceRange_one,pick_run,List.size_toArray] <;> rfl
def aKR (K:PySem.W.Frag):V → Option Int → Option Int → Hp → VK → Prop:=fun x lo hi H Q=>∃ a xs,x = .ref a ∧ SqL K H a xs ∧ ∀ p,H p = none → Q (.ref p) (upd H p (.lst (fE xs lo hi)))
theorem aGJ:SlR X (aKR X.K):=by
 intro pins s σ H x v vl vu lo hi sl Q I rx hs pl pu h
 obtain ⟨a,xs,rfl,hx,q⟩:=h
 cases rx
 obtain ⟨its,r,ht,hz⟩:=I.list hx
 have hlen:=r.length
 refine ⟨"list",_,slot_list_getitem.lookup,ht.isList.typeIs,?_⟩
 refine wpAny_getItem_list_slice ht.isList hs pl pu .none (by simp) ?_ (by rw [List.size_toArray] <;> omega)
 rw [tU,← hlen]
 refine ⟨.ref s.heap.objs.size,_,I.laid (t':=s.toks) (o:=.lst (fE xs lo hi)) (fun b ob q=>Heap.get?_push_of_some _ q) (Nat.le_refl _) ?_,rfl,q _ (I.hok.fresh (Nat.le_refl _))⟩
 exact ⟨Nat.le_trans (qD xs lo hi) hz,_,0,(r.drop (HT.sIx xs.length 0 lo)).take (HT.sIx xs.length xs.length hi - HT.sIx xs.length 0 lo),Heap.get?_push_size _ rfl⟩
def oQ:V → Bool
 | .non=>true
 | .bl _=>true
 | .int _=>true
 | .str _=>true
 | _=>false
def eqV:V → V → Bool
 | .non,.non=>true
 | .bl a,.bl b=>a == b
 | .bl a,.int b=>(if a then 1 else 0) == b
 | .int a,.bl b=>a == (if b then 1 else 0)
 | .int a,.int b=>a == b
 | .str a,.str b=>a == b
 | _,_=>false
theorem kG {A:Around} {s:Shared} {y x:V} {u v:Value} (ry:bO y u) (rx:bO x v) (fy:oQ y = true) (fx:oQ x = true):SeqAt.EqAt A s u v (eqV y x):=by
 cases y with
 | non =>
  cases ry
  cases x with
  | non=>cases rx;exact SeqAt.EqAt.same _
  | bl b=>cases rx;exact SeqAt.EqAt.none_bool b
  | int b=>obtain ⟨t,rfl⟩:=rx;exact SeqAt.EqAt.none_int b t
  | str b=>obtain ⟨t,rfl⟩:=rx;exact SeqAt.EqAt.none_str b t
  | _=>exact absurd (show false = true from fx) Bool.false_ne_true
 | bl a =>
  cases ry
  cases x with
  | non=>cases rx;exact SeqAt.EqAt.bool_none a
  | bl b=>cases rx;exact SeqAt.EqAt.bool_bool a b
  | int b=>obtain ⟨t,rfl⟩:=rx;exact SeqAt.EqAt.bool_int a b t
  | str b=>obtain ⟨t,rfl⟩:=rx;exact SeqAt.EqAt.bool_str a b t
  | _=>exact absurd (show false = true from fx) Bool.false_ne_true
 | int a =>
  obtain ⟨t',rfl⟩:=ry
  cases x with
  | non=>cases rx;exact SeqAt.EqAt.int_none a t'
  | bl b=>cases rx;exact SeqAt.EqAt.int_bool a t' b
  | int b=>obtain ⟨t,rfl⟩:=rx;exact SeqAt.EqAt.int_int a t' b t
  | str b=>obtain ⟨t,rfl⟩:=rx;exact SeqAt.EqAt.int_str a t' b t
  | _=>exact absurd (show false = true from fx) Bool.false_ne_true
 | str a =>
  obtain ⟨t',rfl⟩:=ry
  cases x with
  | non=>cases rx;exact SeqAt.EqAt.str_none a t'
  | bl b=>cases rx;exact SeqAt.EqAt.str_bool a t' b
  | int b=>obtain ⟨t,rfl⟩:=rx;exact SeqAt.EqAt.str_int a t' b t
  | str b=>obtain ⟨t,rfl⟩:=rx;exact SeqAt.EqAt.str_str a t' b t
  | _=>exact absurd (show false = true from fx) Bool.false_ne_true
 | _=>exact absurd (show false = true from fy) Bool.false_ne_true
def eqU (x:V) (u:Value):Bool:=match u with
 | .none=>eqV .non x
 | .bool b=>eqV (.bl b) x
 | .int i _=>eqV (.int i) x
 | .str z _=>eqV (.str z) x
 | _=>false
theorem aFT {x y:V} {u:Value} (r:bO y u) (f:oQ y = true):eqU x u = eqV y x:=by
 cases y with
 | non=>cases r;rfl
 | bl b=>cases r;rfl
 | int i=>obtain ⟨t,rfl⟩:=r;rfl
 | str z=>obtain ⟨t,rfl⟩:=r;rfl
 | _=>exact absurd (show false = true from f) Bool.false_ne_true
theorem oY {x:V}:∀ {xs:List V} {us:List Value},bB xs us → xs.all oQ = true → us.any (eqU x) = xs.any fun y=>eqV y x
 | _,_,.nil,_=>rfl
 | y :: xs,u :: us,.cons r t,f=>by
  rw [List.all_cons,Bool.and_eq_true] at f
  rw [List.any_cons,List.any_cons,aFT r f.1,oY t f.2]
theorem lM {A:Around} {s:Shared} {x:V} {v:Value} (rx:bO x v) (fx:oQ x = true):∀ {xs:List V} {us:List Value},bB xs us → xs.all oQ = true → ∀ u ∈ us,SeqAt.EqAt A s u v (eqU x u)
 | _,_,.nil,_=>fun u hu=>by cases hu
 | y :: xs,u :: us,.cons r t,f=>fun u' hu=>by
  rw [List.all_cons,Bool.and_eq_true] at f
  rcases List.mem_cons.mp hu with rfl | hu
  ·rw [aFT r f.1];exact kG r rx f.1 fx
  ·exact lM rx fx t f.2 u' hu
def inV (x:V) (xs:List V):Bool:=xs.any fun y=>eqV y x
def rIn (K:PySem.W.Frag) (neg:Bool):R2:=fun x y H Q=>∃ p xs,y = .ref p ∧ (SqL K H p xs ∨ SqT K H p xs) ∧ oQ x = true ∧ xs.all oQ = true ∧ Q (.bl (if neg then !inV x xs else inV x xs)) H
theorem aCI:OpR X (compareOp .In) (rIn X.K false):=by
 intro pins s σ H x y v u Q I rx ry h
 obtain ⟨p,xs,rfl,hq,fx,fs,q⟩:=h
 cases ry
 rcases hq with hq | hq
 ·obtain ⟨its,r,pl,hz⟩:=I.list hq
  refine SeqAt.in_listAt (eqU x) pl.isList (fun w hw=>lM rx fx r fs w (by simpa using hw)) ⟨.bl _,H,I,rfl,?_⟩
  rw [show its.toArray.any (eqU x) = its.any (eqU x) by simp,oY r fs]
  exact q
 ·obtain ⟨its,r,pl,hz⟩:=I.tuple hq
  refine SeqAt.in_tupleAt (eqU x) pl (fun w hw=>lM rx fx r fs w (by simpa using hw)) ⟨.bl _,H,I,rfl,?_⟩
  rw [show its.toArray.any (eqU x) = its.any (eqU x) by simp,oY r fs]
  exact q
theorem wJ:OpR X (compareOp .NotIn) (rIn X.K true):=by
 intro pins s σ H x y v u Q I rx ry h
 obtain ⟨p,xs,rfl,hq,fx,fs,q⟩:=h
 cases ry
 rcases hq with hq | hq
 ·obtain ⟨its,r,pl,hz⟩:=I.list hq
  refine SeqAt.notIn_listAt (eqU x) pl.isList (fun w hw=>lM rx fx r fs w (by simpa using hw)) ⟨.bl _,H,I,rfl,?_⟩
  rw [show its.toArray.any (eqU x) = its.any (eqU x) by simp,oY r fs]
  exact q
 ·obtain ⟨its,r,pl,hz⟩:=I.tuple hq
  refine SeqAt.notIn_tupleAt (eqU x) pl (fun w hw=>lM rx fx r fs w (by simpa using hw)) ⟨.bl _,H,I,rfl,?_⟩
  rw [show its.toArray.any (eqU x) = its.any (eqU x) by simp,oY r fs]
  exact q
theorem oF:OpR X (compareOp .NotIn) (fun x y H Q=>∃ i j,x = .str i ∧ y = .str j ∧ Q (.bl (!(!(Builtin.Str.occurrences j i 0 j.length 1).isEmpty))) H):=by
 intro pins s σ H x y v u Q I rx ry h
 obtain ⟨i,j,rfl,rfl,q⟩:=h
 obtain ⟨t,rfl⟩:=rx
 obtain ⟨t',rfl⟩:=ry
 exact notIn_str ⟨.bl _,H,I,rfl,q⟩
theorem xD:eU X (.builtin "len") (fun xs H Q=>∃ p ys,xs = [.ref p] ∧ (SqL X.K H p ys ∨ SqT X.K H p ys) ∧ Q (.int ys.length) H):=by
 intro pins s σ H xs us Q I r h
 obtain ⟨p,ys,rfl,hq,q⟩:=h
 obtain ⟨u,rfl,rx⟩:=rC r
 cases rx
 have hn:=sU
 rcases hq with hq | hq
 ·obtain ⟨its,r',pl,hz⟩:=I.list hq
  have hlen:=r'.length
  exact Calls.call_len_list pl.isList (by simp only [List.size_toArray] <;> omega) ⟨.int ys.length,H,I.tok _,⟨s.toks + 1,by rw [List.size_toArray,hlen]⟩,q⟩
 ·obtain ⟨its,r',pl,hz⟩:=I.tuple hq
  have hlen:=r'.length
  exact len_tuple pl (by simp only [List.size_toArray] <;> omega) ⟨.int ys.length,H,I.tok _,⟨s.toks + 1,by rw [List.size_toArray,hlen]⟩,q⟩
theorem dC:eU X (.builtin "len") (fun xs H Q=>∃ z,xs = [.str z] ∧ z.length ≤ sizeLine ∧ Q (.int z.length) H):=by
 intro pins s σ H xs us Q I r h
 obtain ⟨z,rfl,hz,q⟩:=h
 obtain ⟨u,rfl,t,rfl⟩:=rC r
 have hn:=sU
 exact len_str (by omega) ⟨.int z.length,H,I.tok _,⟨_,rfl⟩,q⟩
theorem xC:eU X (.type "list") (fun xs H Q=>∃ p ys,xs = [.ref p] ∧ (SqL X.K H p ys ∨ SqT X.K H p ys) ∧ ∀ l,H l = none → Q (.ref l) (upd H l (.lst ys))):=by
 intro pins s σ H xs us Q I r h
 obtain ⟨p,ys,rfl,hq,q⟩:=h
 obtain ⟨u,rfl,rx⟩:=rC r
 cases rx
 have fin:∀ (its:List Value),bB ys its → ys.length ≤ sizeLine → ∀ (h':Heap) (c':Nat),(∀ b o',s.heap.get? b = some o' → h'.get? b = some o') →
   h'.get? s.heap.objs.size = some { cls:=.type "list",dict:=none,data:=.seq its.toArray c',slots:=#[] } → EP X pins σ Q (.ref s.heap.objs.size) { s with heap:=h' }:=fun its r' hz h' c' kp e =>
  ⟨.ref s.heap.objs.size,_,I.laid (t':=s.toks) kp (Nat.le_refl _) (show cN X.prog X.w _ h' _ (.lst ys) from ⟨hz,its,c',r',e⟩),rfl,q _ (I.hok.fresh (Nat.le_refl _))⟩
 rcases hq with hq | hq
 ·obtain ⟨its,r',pl,hz⟩:=I.list hq
  have hlen:=r'.length
  obtain ⟨o,ho,hc,n,hd⟩:=pl.isList
  exact call_list_seq p (.inl rfl) ho hc hd (fun h' c' kp e=>fin its r' hz h' c' kp e) (by simp only [List.size_toArray] <;> omega)
 ·obtain ⟨its,r',pl,hz⟩:=I.tuple hq
  have hlen:=r'.length
  obtain ⟨o,ho,hc,n,hd⟩:=pl
  exact call_list_seq p (.inr rfl) ho hc hd (fun h' c' kp e=>fin its r' hz h' c' kp e) (by simp only [List.size_toArray] <;> omega)
theorem jB:eU X (.type "tuple") (fun xs H Q=>∃ p ys,xs = [.ref p] ∧ ((SqL X.K H p ys ∧ ∀ l,H l = none → Q (.ref l) (upd H l (.tup ys))) ∨ (SqT X.K H p ys ∧ Q (.ref p) H))):=by
 intro pins s σ H xs us Q I r h
 obtain ⟨p,ys,rfl,h⟩:=h
 obtain ⟨u,rfl,rx⟩:=rC r
 cases rx
 rcases h with ⟨hq,q⟩ | ⟨hq,q⟩
 ·obtain ⟨its,r',pl,hz⟩:=I.list hq
  have hlen:=r'.length
  refine call_tuple_list pl.isList (fun h' kp=>?_) (by simp only [List.size_toArray] <;> omega)
  have I1:Inv X pins σ H { s with heap:=h' }:=I.kept (t':=s.toks) kp
  have I2:Inv X pins σ (upd H h'.objs.size (.tup ys)) { s with heap:=h'.push { cls:=.type "tuple",data:=.seq its.toArray } } :=
   I1.laid (t':=s.toks) (fun b o e=>Heap.get?_push_of_some _ e) (Nat.le_refl _) (show cN X.prog X.w _ _ _ (.tup ys) from ⟨hz,its,r',nM.new _ _⟩)
  exact ⟨.ref h'.objs.size,_,I2,rfl,q _ (I1.hok.fresh (Nat.le_refl _))⟩
 ·obtain ⟨its,r',pl,hz⟩:=I.tuple hq
  exact call_tuple_same pl ⟨.ref p,H,I,rfl,q⟩
def tyV (K:PySem.W.Frag) (T:String) (x:V) (H:Hp):Prop:=match x with
 | .str _=>T = "str"
 | .int _=>T = "int"
 | .ref p=>(T = "list" ∧ ∃ xs,SqL K H p xs) ∨ (T = "tuple" ∧ ∃ o,K.lookup p = some o ∧ o.cls = .type "tuple" ∧ o.dict = none) ∨
   (T = "dict" ∧ ((∃ kvs,H p = some (.dK kvs)) ∨ ∃ kvs,H p = some (.dT kvs))) ∨ (T = "set" ∧ ∃ S n,H p = some (.set S n)) ∨ (T = "tuple" ∧ ∃ xs,H p = some (.tup xs))
 | _=>False
theorem aDN {pins:List (Addr × Obj)} {σ:St} {H:Hp} {s:Shared} {T:String} {x:V} {v:Value} (I:Inv X pins σ H s) (r:bO x v) (ty:tyV X.K T x H) :
  s.TypeIs v T ∧ ∀ a,v = .ref a → ∃ ob,s.heap.get? a = some ob ∧ ob.dict = none:=by
 cases x with
 | str z =>
  obtain ⟨t,rfl⟩:=r
  cases (show T = "str" from ty)
  exact ⟨typeIs_str s z t,fun _ e=>nomatch e⟩
 | int i =>
  obtain ⟨t,rfl⟩:=r
  cases (show T = "int" from ty)
  exact ⟨typeIs_int s i t,fun _ e=>nomatch e⟩
 | ref p =>
  cases r
  rcases ty with ⟨rfl,xs,hq⟩ | ⟨rfl,o,hk,hc,hd⟩ | ⟨rfl,hk⟩ | ⟨rfl,S,n,hk⟩ | ⟨rfl,xs,hk⟩
  ·obtain ⟨its,_,pl,_⟩:=I.list hq
   refine ⟨pl.isList.typeIs,fun a e=>?_⟩
   cases e
   obtain ⟨o,n,e,c,hd,_⟩:=pl
   exact ⟨o,e,hd⟩
  ·refine ⟨⟨o,I.kIn p o hk,hc⟩,fun a e=>?_⟩
   cases e
   exact ⟨o,I.kIn _ o hk,hd⟩
  ·have z:∃ o,s.heap.get? p = some o ∧ o.ExactDict:=by
    rcases hk with ⟨kvs,hk⟩ | ⟨kvs,hk⟩
    ·obtain ⟨_,_,_,_,o,_,_,e,ex,_⟩:=I.hok p _ hk
     exact ⟨o,e,ex⟩
    ·obtain ⟨_,_,_,_,o,_,_,e,ex,_⟩:=I.hok p _ hk
     exact ⟨o,e,ex⟩
   obtain ⟨o,e,ex⟩:=z
   refine ⟨⟨o,e,ex.1⟩,fun a e2=>?_⟩
   cases e2
   exact ⟨o,e,ex.2.1⟩
  ·obtain ⟨o,_,_,_,e,ex,_⟩:=I.hok p _ hk
   refine ⟨⟨o,e,ex.1⟩,fun a e2=>?_⟩
   cases e2
   exact ⟨o,e,ex.2.1⟩
  ·obtain ⟨_,_,_,o,e,hc,_,_,hd⟩:=(show cN X.prog X.w H s.heap p (.tup xs) from I.hok p _ hk)
   refine ⟨⟨o,e,hc⟩,fun a e2=>?_⟩
   cases e2
   exact ⟨o,e,hd⟩
 | _=>exact False.elim ty
def aLS (K:PySem.W.Frag) (T:String) (r:V → List V → Hp → VK → Prop) (to:TE):TE:=fun σ H Q=>to σ H fun x H1=>tyV K T x H1 ∧ r x [] H1 Q
def tBM (K:PySem.W.Frag) (T:String) (r:V → List V → Hp → VK → Prop) (to:TE) (t:TA):TE:=fun σ H Q=>to σ H fun x H1=>tyV K T x H1 ∧ t σ H1 fun xs H2=>r x xs H2 Q
variable {o e:Expr} {es:List Expr} {to:TE} {t:TA} {name:Str} {apos cpos:Pos} {T id:String} {r:V → List V → Hp → VK → Prop}
theorem aES (pa:PlainAttrs T) (slot:Slot T name id) (hty:typeOf (.builtin id) = pure (.type "method_descriptor")) (hm:MtR X id r) (ho:PE X o to)
  (hbase:attributeBase o name X.env (eval o X.env) = eval o X.env:=by rfl) (hline:(apos.endLine == cpos.line) = true:=by rfl):PE X (.Call (.Attribute o name apos) [] [] cpos) (aLS X.K T r to):=by
 intro pins s σ H Q I h
 refine wpAny_Call_method0_late hbase hline (thn (ho pins s σ H _ I h) fun v s1 ⟨x,H1,I1,r1,ty,q1⟩=>?_)
 obtain ⟨h1,h2⟩:=aDN I1 r1 ty
 exact ⟨T,id,pa,slot,hty,h1,h2,Calls.callWith_builtin rfl (PySem.evalArgs_none (hm pins s1 σ H1 x [] v [] Q I1 r1 .nil q1))⟩
theorem dJ (pa:PlainAttrs T) (slot:Slot T name id) (hty:typeOf (.builtin id) = pure (.type "method_descriptor")) (hm:MtR X id r) (ho:PE X o to) (ha:PA X (e :: es) t)
  (hbase:attributeBase o name X.env (eval o X.env) = eval o X.env:=by rfl)
  (hfew:((backTo cpos (starEach (e :: es) X.env)).all (fun x=>!x.1) && (backToKw cpos (keywordEach [] X.env)).all (fun x=>x.1.isSome)
   && decide ((e :: es).length + ([]:List Keyword).length + (if ([]:List Keyword).isEmpty then 0 else 1) < 30)) = true:=by rfl)
  (hline:(apos.endLine == cpos.line) = true:=by rfl) (hs:starEach (e :: es) X.env = (false,eval e X.env) :: starEach es X.env:=by rfl) (hplain:(backTo cpos (starEach es X.env)).any (·.1) = false:=by rfl) :
  PE X (.Call (.Attribute o name apos) (e :: es) [] cpos) (tBM X.K T r to t):=by
 intro pins s σ H Q I h
 refine wpAny_Call_method_late hbase hfew hline rfl (thn (ho pins s σ H _ I h) fun v s1 ⟨x,H1,I1,r1,ty,q1⟩=>?_)
 obtain ⟨h1,h2⟩:=aDN I1 r1 ty
 refine ⟨T,id,pa,slot,hty,h1,h2,?_⟩
 have hA:=ha cpos pins s1 σ H1 _ I1 q1
 rw [hs] at hA ⊢
 refine Calls.callWith_builtin (by show (false || (backTo cpos (starEach es X.env)).any (·.1)) = false;rw [hplain] <;> rfl) (Calls.evalArgs_plain ?_)
 exact thn hA fun us s2 ⟨vs,H2,I2,r2,q2⟩=>hm pins s2 σ H2 x vs v us Q I2 r1 r2 q2
end
end L2
namespace L2
open PySem PySem.Spec PyProof.Rows
def MtM (X:Cx) (id:String) (r:V → List V → Hp → VK → Prop):Prop :=
 ∀ (pins:List (Addr × Obj)) (s:Shared) (σ:St) (H:Hp) (x:V) (xs:List V) (v:Value) (us:List Value) (Q:VK),Inv X pins σ H s → bO x v → bB xs us → r x xs H Q →
  wpAny (model X.prog X.w) X.A (call (.builtin id) (v :: us)) (EP X pins σ Q) X.xe s
theorem bB.one:∀ {x:V} {us:List Value},bB [x] us → ∃ u,us = [u] ∧ bO x u
 | _,_,.cons r .nil=>⟨_,rfl,r⟩
theorem bB.two:∀ {x y:V} {us:List Value},bB [x,y] us → ∃ u v,us = [u,v] ∧ bO x u ∧ bO y v
 | _,_,_,.cons r (.cons q .nil)=>⟨_,_,rfl,r,q⟩
theorem bB.zero:∀ {us:List Value},bB [] us → us = []
 | _,.nil=>rfl
theorem bB.eraseIdx:∀ {xs:List V} {us:List Value} (i:Nat),bB xs us → bB (xs.eraseIdx i) (us.eraseIdx i)
 | _,_,_,.nil=>.nil
 | _,_,0,.cons _ t=>t
 | _,_,i + 1,.cons r t=>.cons r (bB.eraseIdx i t)
theorem vE {α:Type}:∀ (l:List α) (i:Nat),(l.eraseIdx i).length ≤ l.length
 | [],_=>Nat.le_refl _
 | _ :: _,0=>Nat.le_succ _
 | _ :: r,i + 1=>Nat.succ_le_succ (vE r i)
section
variable {X:Cx} {pins:List (Addr × Obj)} {σ:St} {H:Hp} {s:Shared} {l b:Addr} {xs ys zs:List V}
theorem Inv.lset {its its':List Value} {n:Nat} {f:Array Value → Array Value} {t':Nat} (I:Inv X pins σ H s) (hH:H l = some (.lst xs))
  (e:s.heap.get? l = some { cls:=.type "list",data:=.seq its.toArray n }) (hf:f its.toArray = its'.toArray) (hv:bB ys its') (hz:ys.length ≤ sizeLine) :
  Inv X pins σ (upd H l (.lst ys)) { s with heap:=s.heap.update l (Obj.mapSeq f),toks:=t' }:=by
 have q:=PySem.IsL.update e f
 rw [hf] at q
 refine I.write (x:=l) (e:=l) (by rw [hH];exact trivial) (.inl rfl) (fun b' u hb hu=>(Heap.get?_update_other s.heap (Obj.mapSeq f) (Ne.symm hb)).trans hu) ⟨_,q⟩ ?_
 exact ⟨hz,its',_,hv,q⟩
theorem Inv.lnew {its:List Value} {t':Nat} (I:Inv X pins σ H s) (hv:bB ys its) (hz:ys.length ≤ sizeLine) :
  Inv X pins σ (upd H s.heap.objs.size (.lst ys)) { s with heap:=s.heap.push { cls:=.type "list",data:=.seq its.toArray },toks:=t' } :=
 I.laid (fun _ _ q=>Heap.get?_push_of_some _ q) (Nat.le_refl _) ⟨hz,its,0,hv,Heap.get?_push_size _ rfl⟩
theorem Inv.fresh (I:Inv X pins σ H s):H s.heap.objs.size = none:=I.hok.fresh (Nat.le_refl _)
theorem Inv.lstM (I:Inv X pins σ H s) (hH:H l = some (.lst xs)):xs.length ≤ sizeLine ∧ ∃ (its:List Value) (n:Nat),bB xs its ∧ xs.length = its.length ∧ s.heap.get? l = some { cls:=.type "list",data:=.seq its.toArray n }:=by
 obtain ⟨z,its,n,r,e⟩:=I.hok l _ hH
 exact ⟨z,its,n,r,r.length,e⟩
end
section
variable {X:Cx}
def aGS:V → List V → Hp → VK → Prop:=fun x vs H Q=>∃ l xs y,x = .ref l ∧ vs = [y] ∧ H l = some (.lst xs) ∧ xs.length < sizeLine ∧ Q .non (upd H l (.lst (xs ++ [y])))
theorem jP:MtM X "list.append" aGS:=by
 intro pins s σ H x vs v us Q I rx rv h
 obtain ⟨l,xs,y,rfl,rfl,hH,hz,q⟩:=h
 cases rx
 obtain ⟨u,rfl,ru⟩:=rv.one
 obtain ⟨z,its,n,r,hl,e⟩:=I.lstM hH
 refine call_meets F.slot_list_append ⟨_,e,rfl⟩ F.entry_list_append (F.args_list_append_2 _ _) (PySem.list_append l its.toArray n u (by rw [List.size_toArray];omega)) ⟨e,?_⟩
 refine ⟨.non,_,I.lset (its':=its ++ [u]) hH e (by simp) (r.append (.cons ru .nil)) ?_,rfl,q⟩
 rw [List.length_append,List.length_singleton]
 omega
def aIW:V → List V → Hp → VK → Prop:=fun x vs H Q=>∃ l xs i k y,x = .ref l ∧ vs = [.int i] ∧ H l = some (.lst xs) ∧ -(2 ^ 63) ≤ i ∧ i < 2 ^ 63 ∧ seqIndex? i xs.length = some k ∧ xs[k]? = some y ∧ Q y (upd H l (.lst (xs.eraseIdx k)))
theorem aEW:MtM X "list.pop" aIW:=by
 intro pins s σ H x vs v us Q I rx rv h
 obtain ⟨l,xs,i,k,y,rfl,rfl,hH,h1,h2,hk,hy,q⟩:=h
 cases rx
 obtain ⟨u,rfl,ru⟩:=rv.one
 obtain ⟨t,rfl⟩:=ru
 obtain ⟨z,its,n,r,hl,e⟩:=I.lstM hH
 obtain ⟨w,hw,rw'⟩:=r.get hy
 refine call_meets F.slot_list_pop ⟨_,e,rfl⟩ F.entry_list_pop (F.args_list_pop_2 _ _)
  (MeetsSeq.list_pop_at l its.toArray n i t k w (fitsIndex_both h1 h2) (by rw [List.size_toArray,← hl];exact hk) (by rw [← Array.getElem?_toList];exact hw) (by rw [List.size_toArray];omega)) ⟨e,?_⟩
 refine ⟨y,_,I.lset (its':=its.eraseIdx k) hH e ?_ (r.eraseIdx k) ?_,rw',q⟩
 ·show its.toArray.eraseIdxIfInBounds k = (its.eraseIdx k).toArray
  rw [List.eraseIdxIfInBounds_toArray]
 ·have:=vE xs k
  omega
def aLW:R2:=fun x y H Q=>∃ l b xs zs,x = .ref l ∧ y = .ref b ∧ H l = some (.lst xs) ∧ H b = some (.lst zs) ∧ xs.length + zs.length ≤ sizeLine ∧ ∀ p,H p = none → Q (.ref p) (upd H p (.lst (xs ++ zs)))
theorem eG:OpR X (binaryOp .Add) aLW:=by
 intro pins s σ H x y v u Q I rx ry h
 obtain ⟨l,b,xs,zs,rfl,rfl,hH,hB,hz,q⟩:=h
 cases rx
 cases ry
 obtain ⟨z,its,n,r,hl,e⟩:=I.lstM hH
 obtain ⟨z2,its2,n2,r2,hl2,e2⟩:=I.lstM hB
 refine PySem.P.add_list e e2 ?_ (by rw [List.size_toArray,List.size_toArray];omega)
 have ea:its.toArray ++ its2.toArray = (its ++ its2).toArray:=by simp
 rw [ea]
 exact ⟨.ref _,_,I.lnew (t':=s.toks) (r.append r2) (by rw [List.length_append];omega),rfl,q _ I.fresh⟩
end
section
variable {prog:Program} {w:World} {A:Around} {E:Value → Shared → Prop} {s:Shared}
end
section
variable {X:Cx}
end
end L2
namespace Att
open PySem PySem.W PySem.Calls PyProof.Rows
theorem qN {P:Params} {h:Heap}:∀ (ns:List Int) (vs:List Value),WellAll P h vs (ns.map WData.int) → IntsAre vs ns:=by
 intro ns
 induction ns with
 | nil =>
  intro vs w
  rw [List.map_nil] at w
  cases w
  exact .nil
 | cons n ns ih =>
  intro vs w
  rw [List.map_cons] at w
  cases w with
  | cons a b =>
   cases a
   exact .cons _ _ (ih _ b)
theorem aCE {l:OpenLaw} {n:Nat} (hn:l.most = some n) {P:Params} {h:Heap} {args:List WData} {vals:List Value}
  (hpre:l.row.toRowW.claim.pre args = true) (hwl:WellAll P h vals args) :
  ∃ a vs ns,vals = [Value.ref a] ∧ args = [WData.list (ns.map WData.int)] ∧ h.get? a = some { cls:=.type "list",data:=.seq vs.toArray } ∧ IntsAre vs ns ∧ ns.length ≤ n:=by
 have hsh:WShape.hasAll [] args [.list .int] = true:=(pre_splitW hpre).1
 have hc:l.pre.holds [] { args:=args } = true:=(pre_splitW hpre).2
 obtain ⟨d,r,rfl,h1,h2⟩:=hasAllW_cons hsh
 obtain rfl:=hasAllW_nil h2
 obtain ⟨xs,rfl,h3⟩:=hasW_list h1
 obtain ⟨ns,rfl⟩:=items_int h3
 have hlen:ns.length ≤ n:=by
  unfold OpenLaw.pre at hc
  have h4:(WTm.not (.lt (.lit (.int (n:Int))) (.len (.arg 0)))).holds [] { args:=[.list (ns.map .int)] } = true:=by
   have h4:=(holds_andW hc).1
   rw [hn] at h4
   exact h4
  have h5:=condW_of h4 (w_not (w_lt w_lit (w_len_list (w_arg rfl))))
  rw [List.length_map] at h5
  refine Nat.le_of_not_lt fun q=>?_
  have q':(n:Int) < ((ns.length:Nat):Int):=by omega
  first
   | (rw [decide_eq_true q'] at h5;exact absurd h5 (by decide))
   | (simp at h5;omega)
 cases hwl with
 | cons w1 w2 =>
  cases w2
  cases w1 with
  | list ho hall=>exact ⟨_,_,ns,rfl,rfl,ho,qN ns _ hall,hlen⟩
theorem aCH (l:OpenLaw) (args:List WData):l.row.toRowW.claim.post args (.bool true) args = true :=
 postW_of (r:=l.row.toRowW) (X:=(true == true))
  (show WShape.has [] (.bool true) .bool = true by first | rfl | decide | simp [WShape.has,WShape.arms,WShape.armsAll])
  (show (WTm.eq .res (.lit (.bool true))).value [] { args:=args,res:=some (.bool true),after:=args } = some (.bool (true == true)) from w_eq_bool (w_res rfl) w_lit) rfl
theorem attach_call {l:OpenLaw} {n:Nat} {q:Program} {loose:List Str} {XP:(Str → Option Value) → Heap → Prop} {YP:World → Heap → Prop} {d:DefRec}
  (hn:l.most = some n) (hdf:d.params.defaults = [])
  (call:∀ (w:World) (s₀ s₁:Shared) (mg mb:Str → Option Value) (fa:Addr) (o:Obj) (pm cd doc:Value) (a:Addr) (vs:List Value) (ns:List Int),
   Ground q loose [] XP w s₀ mg mb s₁.heap → YP w s₁.heap →
   s₁.heap.get? fa = some o → o.data = .func (docDef d.name d.params d.body d.scope pm cd doc) → s₁.heap.CodeRec cd d.name → mg d.name = some (.ref fa) →
   s₁.heap.get? a = some { cls:=.type "list",data:=.seq vs.toArray } → IntsAre vs ns → ns.length ≤ n → s₁.gens = #[] →
   codeAny (model l.prog w) callerA (.call (.ref fa) ⟨[.ref a],[]⟩) (fun r s'=>r = .ok (.ret (.bool true)) ∧ OldK s₁.heap s'.heap ∧ s'.os = s₁.os ∧ AllBare s'.gens) s₁) :
  WalkO q loose XP YP l.row.toRowW d [] (fun f vs=>PySem.call f vs):=by
 intro w s₀ s₁ mg mb G Y fa o pm cd doc dV kV ho hd hcd hD hmg hg args vals as hpre hlay hrd hwl hlo
 obtain rfl:dV = .none:=Dflts.none hD hdf
 obtain rfl:kV = .none:=Dflts.noKw hD
 obtain ⟨a,vs,ns,rfl,rfl,hobj,hints,hlen⟩:=aCE hn hpre hwl
 refine enter_call (codeAny_mono (call w s₀ s₁ mg mb fa o pm cd doc a vs ns G Y ho (fd_plain hd) hcd hmg hobj hints hlen hg) fun r s' hq=>?_)
 obtain ⟨rfl,h2,h3,h4⟩:=hq
 exact ⟨.inl ⟨.bool true,.bool true,[],rfl,fun _=>rfl,.bool true,aCH l _,fun _=>⟨List.Pairwise.nil,fun _ hm=>(nomatch hm)⟩⟩,h2,h3,h4⟩
section
variable {prog:Program} {w:World} {A:Around} {E:Value → Shared → Prop} {s:Shared} {K:Frag}
def noObjs (h:Heap):Heap:={ h with objs:=#[] }
def ledger (h:Heap) (L d:Addr):List (Addr × Obj):=(List.range h.objs.size).filterMap fun a=>if a = L ∨ a = d then none else (h.get? a).map fun o=>(a,o)
end
end Att
namespace L2
open PySem PySem.Spec PyProof.Rows
theorem uM:∀ {vs:List Value} {ns:List Int},IntsAre vs ns → bB (ns.map V.int) vs
 | _,_,.nil=>.nil
 | _,_,.cons n t h=>.cons ⟨t,rfl⟩ (uM h)
def aJW (H:Hp):Prop:=∀ b,H b = none ∨ ∃ o xs,H b = some (.frz o (.lst xs))
theorem aEY {P:Program} {w:World} {K:PySem.W.Frag} {mg mb:Str → Option Value} {CX:CXT} {k:Nat} {fa a:Addr} {fd:FuncData} {x:Str} {sp:Sp} {s₁:Shared} {vs:List Value} {ns:List Int}
  (KX:K.In s₁.heap) (hns:s₁.heap.Ns mainGlobals mg) (hb:s₁.heap.Ns builtinsNs mb) (hbb:∀ x:Str,x ≠ "__name__" → mb x = bootBuiltins x) (hlim:s₁.heap.NoLimit) (hg:s₁.gens = #[])
  (ha:s₁.heap.get? a = some { cls:=.type "list",data:=.seq vs.toArray }) (hi:IntsAre vs ns) (hl:ns.length ≤ sizeLine) (hr:Room k callerA)
  (F:∀ base:Heap,K.In base → base.Ns mainGlobals mg → FnOk P w K mg base CX k fa fd [x] sp) (hbind:∀ (s:Shared) (u:Value),BindsTo s fd ⟨[u],[]⟩ [(x,u)])
  (hsp:∀ H:Hp,aJW H → SqL K H a (ns.map V.int) → sp [.ref a] H (fun v _=>v = .bl true) fun _ _ _=>False)
  (hCX:∀ H e s',CX [] H s₁ (fun _ _ _=>False) e s' → False) :
  codeAny (model P w) callerA (.call (.ref fa) ⟨[.ref a],[]⟩) (fun r s'=>r = .ok (.ret (.bool true)) ∧ OldK s₁.heap s'.heap ∧ s'.os = s₁.os ∧ AllBare s'.gens) s₁:=by
 have rv:=uM hi
 have lenV:=hi.length
 have core:∀ H:Hp,aJW H → SqL K H a (ns.map V.int) → HOk P w H s₁.heap → (∀ b,H b ≠ none → b = a) → (H a ≠ none → K.lookup a = none) →
   codeAny (model P w) callerA (.call (.ref fa) ⟨[.ref a],[]⟩) (fun r s'=>r = .ok (.ret (.bool true)) ∧ OldK s₁.heap s'.heap ∧ s'.os = s₁.os ∧ AllBare s'.gens) s₁:=by
  intro H hO hS hok hA hK
  have base_of:∀ {b:Addr} {o:Obj},s₁.heap.get? b = some o → H b = none → (wV s₁.heap H).get? b = some o:=fun e n=>aFH e n
  have noA:∀ {b:Addr} {o:Obj} {es:Array DictEntry} {ep:Nat},s₁.heap.get? b = some o → o.data = .dict es ep → H b = none:=fun {b o es ep} e d=>by
   cases q:H b with
   | none=>rfl
   | some u =>
    have e':b = a:=hA b (by rw [q];simp)
    subst e'
    rw [ha] at e;cases e
    have d':Data.seq vs.toArray _ = Data.dict es ep:=d
    cases d'
  have nsK:∀ {b:Addr} {m:Str → Option Value},s₁.heap.Ns b m → (wV s₁.heap H).Ns b m:=fun {b m} ⟨o,es,ep,e,d,r⟩=>⟨o,es,ep,base_of e (noA e d),d,r⟩
  have hKb:K.In (wV s₁.heap H):=fun b o e=>base_of (KX b o e) (by
   cases q:H b with
   | none=>rfl
   | some u =>
    have e':b = a:=hA b (by rw [q];simp)
    subst e'
    rw [hK (by rw [q];simp)] at e;cases e)
  have hM:Mod K mg (wV s₁.heap H):=⟨hKb,nsK hns,⟨mb,nsK hb,hbb⟩,let ⟨mc,h1,h2⟩:=hlim;⟨mc,nsK h1,h2⟩⟩
  have e0:Env0 P w K mg (wV s₁.heap H) callerA [] s₁ H:=⟨rfl,hM,fun b o e=>aHA e,Nat.le_of_eq (aCS _ _),trivial,fun b hb=>absurd (show b ∈ ([]:List Addr) from hb) (by simp),hok,.of_eq hg⟩
  refine codeAny_mono ((F _ hKb (nsK hns)).run callerA [] s₁ H ⟨[.ref a],[]⟩ [.ref a] [.ref a] _ _ hr e0 (hbind s₁ (.ref a)) (.cons rfl .nil) (hsp H hO hS)) fun r s' h=>?_
  cases r with
  | error e=>exact (hCX H e s' h).elim
  | ok fl =>
   cases fl with
   | next=>exact False.elim h
   | brk=>exact False.elim h
   | cont=>exact False.elim h
   | ret u =>
    obtain ⟨v,H',os,bare,un,hok',r',q⟩:=h
    have q':v = .bl true:=q
    subst q'
    obtain rfl:u = Value.bool true:=r'
    refine ⟨rfl,OldK.of_keep fun b o e=>?_,os,bare⟩
    cases q:H b with
    | none=>exact un.keep b o e q (by intro z;exact absurd (show b ∈ ([]:List Addr) from z) (by simp)) (by simp)
    | some u =>
     rcases hO b with z | ⟨ob,xs,z⟩
     ·rw [q] at z;cases z
     ·have z2:=un.frzs b ob _ z
      obtain ⟨e1,_⟩:=hok b _ z
      obtain ⟨e2,_⟩:=hok' b _ z2
      rw [e] at e1;cases e1
      exact e2
 cases hk:K.lookup a with
 | some o =>
  have e:=KX a o hk
  rw [ha] at e
  cases e
  refine core (fun _=>none) (fun _=>.inl rfl) (.inr ⟨_,vs.toArray,_,hk,rfl,rfl,rfl,by rw [List.size_toArray,lenV];exact hl,by simpa using rv⟩) (fun b u z=>by have z':(none:Option HO) = some u:=z;cases z') (fun b z=>absurd rfl z) fun z=>absurd rfl z
 | none =>
  refine core (fun b=>if b = a then some (.frz { cls:=.type "list",data:=.seq vs.toArray } (.lst (ns.map V.int))) else none) (fun b=>?_) (.inl (.inr ⟨{ cls:=.type "list",data:=.seq vs.toArray },if_pos rfl⟩)) (fun b u z=>?_) (fun b z=>?_) fun _=>hk
  ·by_cases hb:b = a
   ·exact .inr ⟨_,_,if_pos hb⟩
   ·exact .inl (if_neg hb)
  ·by_cases hb:b = a
   ·have z':=(if_pos hb).symm.trans z
    cases z'
    subst hb
    exact ⟨ha,by rw [List.length_map];exact hl,vs,_,rv,ha⟩
   ·have z':=(if_neg hb).symm.trans z
    cases z'
  ·by_cases hb:b = a
   ·exact hb
   ·exact absurd (if_neg hb) z
end L2
namespace L2
open PySem PySem.Spec PyProof.Rows
theorem walk_of {l:PySem.W.OpenLaw} {n k:Nat} {q:Program} {loose:List Str} {XP:(Str → Option Value) → Heap → Prop} {YP:World → Heap → Prop} {d:DefRec} {K:Params → PySem.W.Frag} {CX:World → CXT} {sp:World → Sp} {x:Str}
  (hn:l.most = some n) (hn2:n ≤ sizeLine) (hdf:d.params.defaults = []) (hr:Room k callerA)
  (hY:∀ (w:World) (h:Heap),YP w h → (K w.params).In h)
  (F:∀ (w:World) (mg:Str → Option Value) (fa:Addr) (h:Heap),(K w.params).In h → h.Ns mainGlobals mg → mg d.name = some (.ref fa) →
   ∃ fd:FuncData,(∀ (s:Shared) (u:Value),BindsTo s fd ⟨[u],[]⟩ [(x,u)]) ∧
    ∀ base:Heap,(K w.params).In base → base.Ns mainGlobals mg → FnOk l.prog w (K w.params) mg base (CX w) k fa fd [x] (sp w))
  (hsp:∀ (w:World) (H:Hp) (a:Addr) (ns:List Int),ns.length ≤ n → aJW H → SqL (K w.params) H a (ns.map V.int) → sp w [.ref a] H (fun v _=>v = .bl true) fun _ _ _=>False)
  (hCX:∀ (w:World) (H:Hp) (s:Shared) (e:Value) (s':Shared),CX w [] H s (fun _ _ _=>False) e s' → False) :
  PySem.W.WalkO q loose XP YP l.row.toRowW d [] (fun f vs=>PySem.call f vs):=by
 refine Att.attach_call hn hdf fun w s₀ s₁ mg mb fa o pm cd doc a vs ns G Y ho hd hcd hmg hobj hints hlen hg=>?_
 have KX:=hY w _ Y
 obtain ⟨fd,hb,hF⟩:=F w mg fa _ KX G.T.g hmg
 exact aEY KX G.T.g G.T.b G.T.builtins G.T.nolimit hg hobj hints (Nat.le_trans hlen hn2) hr hF hb (fun H hO hS=>hsp w H a ns hlen hO hS) fun H e s'=>hCX w H s₁ e s'
end L2
namespace L2
open PySem PySem.Spec PyProof.Rows
def gM (s:Stmt) (j:Nat):Stmt:=match s with
 | .ClassDef _ _ _ body _ _ _ _ _ _ _=>body.getD j (.Pass ⟨0,0,0,0⟩)
 | _=>.Pass ⟨0,0,0,0⟩
def aL (s:Stmt):Arguments:=match s with
 | .FunctionDef _ a _ _ _ _ _ _ _ _=>a
 | _=>{ posonlyargs:=[],args:=[],vararg:=none,kwonlyargs:=[],kw_defaults:=[],kwarg:=none,defaults:=[] }
def aK (s:Stmt):List Stmt:=match s with
 | .FunctionDef _ _ b _ _ _ _ _ _ _=>b
 | _=>[]
def aE (s:Stmt):Scope:=match s with
 | .FunctionDef _ _ _ _ _ _ sc _ _ _=>sc
 | _=>{ kind:=.function,names:=[],isGenerator:=false,isCoroutine:=false }
abbrev CX0:CXT:=fun _ _ _ _ _ _=>False
abbrev E0:XK:=fun _ _ _=>False
theorem aIH {X:Cx}:pT CX0 X E0:=fun _ _ _ _ _ _ _ h=>h.elim
structure Fun (K:PySem.W.Frag) (x qual:Str) (st:Stmt) (f:Addr) (fd:FuncData):Prop where
 ex:∃ (oc:Value) (od:Option Addr) (kV doc pm:Value) (an:Option Addr) (cdv ct:Value) (osl:Array (Option Value)),
  fd = PySem.W.fnOf x qual (aL st) (aK st) (aE st) .none kV doc pm an cdv ct ∧ K.lookup f = some ⟨oc,od,.func fd,osl⟩ ∧ PySem.W.codeIn K cdv qual = true
 kp:PySem.W.keepIn K (.ref f) = true
section
variable {P:Program} {w:World} {K:PySem.W.Frag} {mg:Str → Option Value} {base:Heap}
theorem Fun.ok {x qual:Str} {st:Stmt} {f:Addr} {fd:FuncData} {N ps:List Str} {k:Nat} {sp:Sp} (F:Fun K x qual st f fd) (S:FnScope N ps (aE st)) (len:∀ vs H Q E,sp vs H Q E → vs.length = ps.length)
  (hbody:∀ (cdv:Value) (A:Around) (outer:List Env) (s:Shared) (H:Hp) (vs:List V) (Q:VK) (E:XK),Room k (A.deeper (envOfC qual (aE st) s.heap.objs.size f cdv)) → sp vs H Q E →
   ∃ t,PSs (hJ CX0 P w K mg base N qual (aE st) f cdv A outer s H E).nox (aK st) t ∧ t { nx:=fun _ H'=>Q .non H',rt:=Q } (iD N vs) H):FnOk P w K mg base CX0 (k + 1) f fd ps sp:=by
 obtain ⟨oc,od,kV,doc,pm,an,cdv,ct,osl,rfl,lk,hcd⟩:=F.ex
 refine aFL lk hcd S len fun A outer s H vs Q E hr hsp=>?_
 obtain ⟨t,h,q⟩:=hbody cdv A outer s H vs Q E hr hsp
 exact ⟨t,h.nox,q⟩
theorem Fun.binds {x qual:Str} {st:Stmt} {f:Addr} {fd:FuncData} {ps:List Str} (F:Fun K x qual st f fd)
  (h:∀ (kV doc pm:Value) (an:Option Addr) (cdv ct:Value) (us:List Value),us.length = ps.length → bindArgs (PySem.W.fnOf x qual (aL st) (aK st) (aE st) .none kV doc pm an cdv ct) ⟨us,[]⟩ = pure (ps.zip us)):gC K fd ps []:=by
 obtain ⟨oc,od,kV,doc,pm,an,cdv,ct,osl,rfl,lk,hcd⟩:=F.ex
 exact .all (h kV doc pm an cdv ct)
theorem pO {x qual:Str} {st:Stmt} {f:Addr} {oc:Value} {od an:Option Addr} {osl:Array (Option Value)} {kV doc pm cdv ct:Value} (l:K.lookup f = some ⟨oc,od,.func (PySem.W.fnOf x qual (aL st) (aK st) (aE st) .none kV doc pm an cdv ct),osl⟩)
  (c:PySem.W.codeIn K cdv qual = true) (k:PySem.W.keepIn K (.ref f) = true):Fun K x qual st f (PySem.W.fnOf x qual (aL st) (aK st) (aE st) .none kV doc pm an cdv ct):=⟨⟨oc,od,kV,doc,pm,an,cdv,ct,osl,rfl,l,c⟩,k⟩
end
theorem oO {A:Around} {k:Nat} (hr:Room k A):A.units + 1 < cLine:=Nat.lt_of_le_of_lt (Nat.add_le_add_left (by decide:1 ≤ 64) _) hr.units
section
variable {X:Cx}
theorem pv (i:Nat) {x:Str} {pos:Pos} (hN:X.N[i]? = some x:=by rfl) (hv:Vis X.env.scope x:=by first | exact Or.inl rfl | exact Or.inr (Or.inl rfl) | exact Or.inr (Or.inr rfl)) (hd:(x == ("__debug__":Str)) = false:=by decide)
  (hcd:(x == ("__classdict__":Str)) = false:=by decide):PE X (.Name x pos) (aJZ i):=aJA hN hv hd hcd
end
theorem bN {A B:Prop} (h:B):if false = true then A else B:=by
 rw [if_neg Bool.false_ne_true]
 exact h
theorem cC {A B:Prop} (h:A):if true = true then A else B:=by
 rw [if_pos rfl]
 exact h
theorem dR {c A B:Prop} [Decidable c] (h1:c → A) (h2:¬ c → B):if c then A else B:=by
 by_cases h:c
 ·rw [if_pos h]
  exact h1 h
 ·rw [if_neg h]
  exact h2 h
def aJ (H H':Hp):Prop:=∀ b o,H b = some o → H' b = some o
theorem aJ.refl (H:Hp):aJ H H:=fun _ _ h=>h
theorem aJ.trans {H H1 H2:Hp} (a:aJ H H1) (b:aJ H1 H2):aJ H H2:=fun c o h=>b c o (a c o h)
theorem aJ.free {H H':Hp} (e:aJ H H') {l:Addr} (h:H' l = Option.none):H l = Option.none:=by
 cases q:H l with
 | none=>rfl
 | some o =>
  rw [e l o q] at h
  cases h
theorem aJ.seq {K:PySem.W.Frag} {H H':Hp} {a:Addr} {xs:List V} (e:aJ H H') (h:SqL K H a xs):SqL K H' a xs:=by
 rcases h with (h | ⟨o,h⟩) | h
 ·exact .inl (.inl (e _ _ h))
 ·exact .inl (.inr ⟨o,e _ _ h⟩)
 ·exact .inr h
end L2
namespace L2
open PySem PySem.Spec PyProof.Rows
section
variable {X:Cx}
end
section
variable {κ:Type} [DecidableEq κ]
end
end L2
namespace Tx
open PySem PySem.Builtin PySem.Builtin.Str
def cl (n d:Nat):Option Int → Nat
 | none=>d
 | some i=>(max 0 (min (if i < 0 then i + n else i) n)).toNat
theorem cl_nat (n d k:Nat):cl n d (some (k:Int)) = min k n:=by
 show (max 0 (min (if (k:Int) < 0 then (k:Int) + n else (k:Int)) n)).toNat = min k n
 rw [if_neg (by omega)]
 omega
theorem aIK (n d:Nat) (hd:d ≤ n):∀ o,cl n d o ≤ n
 | none=>hd
 | some i=>by
  show (max 0 (min (if i < 0 then i + n else i) n)).toNat ≤ n
  omega
theorem zX (lo hi:Option Int) (n:Nat):strSliceIndices lo hi 1 n = (List.range (cl n n hi - cl n 0 lo)).map (cl n 0 lo + ·):=by
 have h1:∀ (v:Option Int) (d:Nat),d ≤ n → (match v with | none=>(d:Int) | some i=>if (1:Int) > 0 then max 0 (min (if i < 0 then i + n else i) n) else max (-1) (min (if i < 0 then i + n else i) (n - 1))) = ((cl n d v:Nat):Int):=by
  intro v d hd
  cases v with
  | none=>rfl
  | some i =>
   show (if (1:Int) > 0 then max 0 (min (if i < 0 then i + n else i) n) else max (-1) (min (if i < 0 then i + n else i) (n - 1))) = (((max 0 (min (if i < 0 then i + n else i) n)).toNat:Nat):Int)
   rw [if_pos (by decide)]
   omega
 rw [← sliceRange_one]
 unfold strSliceIndices
 have a:=h1 lo 0 (Nat.zero_le _)
 have b:=h1 hi n (Nat.le_refl _)
 simp only [show (1:Int) > 0 by decide,if_true] at a b ⊢
 congr 1
theorem slice_codes (x:Str) (lo hi:Option Int):(Txt.slice x lo hi).cps.toList = (x.cps.toList.drop (cl x.length 0 lo)).take (cl x.length x.length hi - cl x.length 0 lo):=by
 unfold Txt.slice
 rw [zX]
 split
 ·rename_i h
  have h':cl x.length x.length hi - cl x.length 0 lo = x.length:=by
   have:=(Bool.and_eq_true_iff.mp h).2
   have:=beq_iff_eq.mp this
   simpa using this
  have h2:=aIK x.length x.length (Nat.le_refl _) hi
  have h4:=aIK x.length 0 (Nat.zero_le _) lo
  have h3:cl x.length 0 lo = 0:=by omega
  rw [h',h3,List.drop_zero,List.take_of_length_le]
  show x.cps.toList.length ≤ x.cps.size
  simp
 ·rw [pick_run]
theorem app_codes (a b:Str):(a ++ b).cps.toList = a.cps.toList ++ b.cps.toList:=by
 simp [Str.cps_append]
end Tx
set_option maxHeartbeats 4000000
namespace L2
open PySem PySem.Spec PyProof.Rows
theorem lR {env:Env} {f:(Str × NameKind) → List (Str × Addr) → Sem (ForInStep (List (Str × Addr)))}
  (hf:∀ n k cs,f (n,k) cs = if (k == NameKind.free) = true then (cellOf env n >>= fun c=>pure (ForInStep.yield ((n,c) :: cs))) else pure (ForInStep.yield cs)) :
  ∀ (names:List (Str × NameKind)) (acc:List (Str × Addr)),
  (∀ y ∈ names,y.2 = .free → ∃ c,env.cells.lookup y.1 = some c) →
  (∀ x c,acc.lookup x = some c → env.cells.lookup x = some c) →
  ∃ cl,forIn names acc f = (pure cl:Sem _) ∧ (∀ x c,cl.lookup x = some c → env.cells.lookup x = some c) ∧ (∀ x c,acc.lookup x = some c → ∃ d,cl.lookup x = some d) ∧
   ∀ x,(x,NameKind.free) ∈ names → ∃ c,cl.lookup x = some c
 | [],acc,_,ha=>⟨acc,rfl,ha,fun x c e=>⟨c,e⟩,fun x m=>absurd m (by simp)⟩
 | (n,k) :: r,acc,hn,ha=>by
  have hr:∀ y ∈ r,y.2 = .free → ∃ c,env.cells.lookup y.1 = some c:=fun y hy=>hn y (List.mem_cons_of_mem _ hy)
  by_cases hk:k = .free
  ·subst hk
   obtain ⟨c,hc⟩:=hn (n,.free) List.mem_cons_self rfl
   have hcell:cellOf env n = pure c:=by
    have hc':env.cells.lookup n = some c:=hc
    unfold cellOf
    rw [hc']
   have ha':∀ x d,List.lookup x ((n,c) :: acc) = some d → env.cells.lookup x = some d:=fun x d e=>by
    by_cases hx:(x == n) = true
    ·rw [List.lookup_cons,hx] at e
     obtain rfl:=beq_iff_eq.mp hx
     cases e
     exact hc
    ·have hx':(x == n) = false:=by simpa using hx
     rw [List.lookup_cons,hx'] at e
     exact ha x d e
   obtain ⟨cl,e1,e2,e3,e4⟩:=lR hf r ((n,c) :: acc) hr ha'
   refine ⟨cl,?_,e2,fun x d e=>?_,fun x m=>?_⟩
   ·rw [List.forIn_cons,hf,if_pos (beq_self_eq_true _),hcell,pure_bind,pure_bind]
    exact e1
   ·by_cases hx:(x == n) = true
    ·exact e3 x c (by rw [List.lookup_cons,hx])
    ·have hx':(x == n) = false:=by simpa using hx
     exact e3 x d (by rw [List.lookup_cons,hx'];exact e)
   ·rcases List.mem_cons.mp m with q | q
    ·have q':x = n:=congrArg Prod.fst q
     subst q'
     exact e3 x c (by rw [List.lookup_cons,beq_self_eq_true])
    ·exact e4 x q
  ·have hk':(k == NameKind.free) = false:=by simpa using hk
   obtain ⟨cl,e1,e2,e3,e4⟩:=lR hf r acc hr ha
   refine ⟨cl,?_,e2,e3,fun x m=>?_⟩
   ·rw [List.forIn_cons,hf,hk',if_neg Bool.false_ne_true,pure_bind]
    exact e1
   ·rcases List.mem_cons.mp m with q | q
    ·exact absurd (congrArg Prod.snd q).symm hk
    ·exact e4 x q
theorem tO {scope:Scope} {env:Env} (h:∀ y ∈ scope.names,y.2 = .free → ∃ c,env.cells.lookup y.1 = some c) :
  ∃ cl,closureFor scope env = pure cl ∧ (∀ x c,cl.lookup x = some c → env.cells.lookup x = some c) ∧ ∀ x,(x,NameKind.free) ∈ scope.names → ∃ c,cl.lookup x = some c:=by
 obtain ⟨cl,e1,e2,_,e4⟩:=lR (env:=env) (f:=fun (x:Str × NameKind) cs=>match x with | (name,kind)=>if (kind == NameKind.free) = true then (cellOf env name >>= fun c=>pure (ForInStep.yield ((name,c) :: cs))) else pure (ForInStep.yield cs)) (fun n k cs=>rfl) scope.names [] h (fun x c e=>by cases e)
 refine ⟨cl,?_,e2,e4⟩
 have:closureFor scope env = (forIn scope.names [] (fun (x:Str × NameKind) cs=>match x with | (name,kind)=>if (kind == NameKind.free) = true then (cellOf env name >>= fun c=>pure (ForInStep.yield ((name,c) :: cs))) else pure (ForInStep.yield cs)) >>= fun cs=>pure cs):=by
  first | rfl | (unfold closureFor;rfl) | (unfold closureFor;simp only [pure_bind,bind_pure])
 rw [this,e1,pure_bind]
theorem hU {env:Env}:∀ {names:List (Str × NameKind)} {x:Str},names.lookup x = some .free →
  (names.map fun (n,k)=>if (k == NameKind.free && env.scope.kind == .function && env.kindOf n == some .cell) then (n,NameKind.cell) else (n,k)).lookup x = some .cell ∨
  (names.map fun (n,k)=>if (k == NameKind.free && env.scope.kind == .function && env.kindOf n == some .cell) then (n,NameKind.cell) else (n,k)).lookup x = some .free
 | [],_,h=>by simp at h
 | (n,k) :: r,x,h=>by
  have ih:=@hU env r x
  show List.lookup x ((if (k == NameKind.free && env.scope.kind == .function && env.kindOf n == some .cell) = true then (n,NameKind.cell) else (n,k)) :: _) = _ ∨ List.lookup x ((if (k == NameKind.free && env.scope.kind == .function && env.kindOf n == some .cell) = true then (n,NameKind.cell) else (n,k)) :: _) = _
  cases hx:x == n with
  | true =>
   simp only [List.lookup_cons,hx] at h
   cases h
   by_cases hc:(NameKind.free == NameKind.free && env.scope.kind == .function && env.kindOf n == some .cell) = true
   ·rw [if_pos hc];left;simp only [List.lookup_cons,hx]
   ·rw [if_neg hc];right;simp only [List.lookup_cons,hx]
  | false =>
   simp only [List.lookup_cons,hx] at h
   by_cases hc:(k == NameKind.free && env.scope.kind == .function && env.kindOf n == some .cell) = true
   ·rw [if_pos hc];simp only [List.lookup_cons,hx];exact ih h
   ·rw [if_neg hc];simp only [List.lookup_cons,hx];exact ih h
theorem jK {env:Env}:∀ {names:List (Str × NameKind)} {x:Str},(∀ y ∈ names,y.2 ≠ .cell) →
  ((names.map fun (n,k)=>if (k == NameKind.free && env.scope.kind == .function && env.kindOf n == some .cell) then (n,NameKind.cell) else (n,k)).lookup x = some .cell ∨
  (names.map fun (n,k)=>if (k == NameKind.free && env.scope.kind == .function && env.kindOf n == some .cell) then (n,NameKind.cell) else (n,k)).lookup x = some .free) → (x,NameKind.free) ∈ names
 | [],_,_,h=>by rcases h with h | h <;> simp at h
 | (n,k) :: r,x,hn,h=>by
  have ih:=@jK env r x (fun y hy=>hn y (List.mem_cons_of_mem _ hy))
  have h':List.lookup x ((if (k == NameKind.free && env.scope.kind == .function && env.kindOf n == some .cell) = true then (n,NameKind.cell) else (n,k)) :: (r.map fun (n,k)=>if (k == NameKind.free && env.scope.kind == .function && env.kindOf n == some .cell) then (n,NameKind.cell) else (n,k))) = some .cell ∨
   List.lookup x ((if (k == NameKind.free && env.scope.kind == .function && env.kindOf n == some .cell) = true then (n,NameKind.cell) else (n,k)) :: (r.map fun (n,k)=>if (k == NameKind.free && env.scope.kind == .function && env.kindOf n == some .cell) then (n,NameKind.cell) else (n,k))) = some .free:=h
  cases hx:x == n with
  | true =>
   obtain rfl:=beq_iff_eq.mp hx
   have hk:k = .free:=by
    by_cases hc:(k == NameKind.free && env.scope.kind == .function && env.kindOf x == some .cell) = true
    ·have:=(Bool.and_eq_true_iff.mp (Bool.and_eq_true_iff.mp hc).1).1
     exact beq_iff_eq.mp this
    ·rw [if_neg hc] at h'
     simp only [List.lookup_cons,hx] at h'
     rcases h' with e | e
     ·cases e;exact absurd rfl (hn (x,.cell) List.mem_cons_self)
     ·cases e;rfl
   subst hk
   exact List.mem_cons_self
  | false =>
   refine List.mem_cons_of_mem _ (ih ?_)
   by_cases hc:(k == NameKind.free && env.scope.kind == .function && env.kindOf n == some .cell) = true
   ·rw [if_pos hc] at h';simp only [List.lookup_cons,hx] at h';exact h'
   ·rw [if_neg hc] at h';simp only [List.lookup_cons,hx] at h';exact h'
structure BlkR where
 cl:List (Str × Addr)
 C:Addr
 s₀:Shared
 H₀:Hp
 ex:List Addr
abbrev blk (X:Cx) (scope:Scope) (N':List Str) (R:BlkR):Cx :=
 { prog:=X.prog,w:=X.w,K:=X.K,mg:=X.mg,base:=X.base,A:=X.A,N:=N',s₀:=R.s₀,H₀:=R.H₀,env:=compEnvC scope R.cl R.C X.env,outer:=X.stack,stack:=X.stack,ex:=R.ex,fn:=fun _=>false,calm:=X.calm,pn:=[],xe:=fun _ _=>False }
def aGF (X:Cx) (ifs:List Expr) (t:TT):Prop :=
 ∀ (pins:List (Addr × Obj)) (s:Shared) (σ:St) (H:Hp) (Q:Bool → Hp → Prop),Inv X pins σ H s → t σ H Q →
  wpAny (model X.prog X.w) X.A (forIn ifs true fun c r=>if r = true then do let ok ← isTrue c X.env (eval c X.env);pure (ForInStep.yield ok) else pure (ForInStep.yield r)) (TP X pins σ Q) X.xe s
def aKC:TT:=fun _ H Q=>Q true H
theorem cA {X:Cx}:aGF X [] aKC:=fun pins s σ H Q I h=>wpAny_tests_nil ⟨H,I,h⟩
theorem sF {X:Cx} {c:Expr} {t:TT} (h:PT X c t):aGF X [c] t:=fun pins s σ H Q I hw=>wpAny_tests_one (h pins s σ H Q I hw)
def yY (nt:Nat) (g:TG):Prop:=∀ x σ H Q,g x σ H Q → g x σ H fun σ2 H2=>Q σ2 H2 ∧ σ2.length = σ.length ∧ ∀ i,nt ≤ i → σ2[i]? = σ[i]?
theorem bG {nt i:Nat} (h:i < nt):yY nt (oP i):=fun x σ H Q q =>
 ⟨q,by simp,fun j hj=>List.getElem?_set_ne (by omega)⟩
def lU (nt:Nat) (cap:List Nat) (σ:St):St:=List.replicate nt none ++ cap.map fun j=>(σ[j]?).join
theorem aDK {nt:Nat} {cap:List Nat} {σ:St}:(lU nt cap σ).length = nt + cap.length:=by simp [lU]
theorem vQ {nt:Nat} {cap:List Nat} {σ:St} {i:Nat} {v:V} (h:(lU nt cap σ)[i]? = some (some v)):∃ j,nt ≤ i ∧ cap[i - nt]? = some j ∧ σ[j]? = some (some v):=by
 unfold lU at h
 by_cases hi:i < nt
 ·rw [List.getElem?_append_left (by simpa using hi),List.getElem?_replicate] at h
  rw [if_pos hi] at h
  cases h
 ·rw [List.getElem?_append_right (by simp;omega),List.length_replicate,List.getElem?_map] at h
  cases e:cap[i - nt]? with
  | none=>rw [e] at h;cases h
  | some j =>
   rw [e] at h
   refine ⟨j,by omega,rfl,?_⟩
   have h':(σ[j]?).join = some v:=by simpa using h
   cases q:σ[j]? with
   | none=>rw [q] at h';cases h'
   | some o=>rw [q] at h';cases o with
    | none=>cases h'
    | some z=>cases h';rfl
theorem tM {prog:Program} {w:World} {A:Around} {R:Result → Shared → Prop} {s:Shared} {elt target iter:Expr} {ifs:List Expr} {scope:Scope} {pos:Pos} {it acc:Value} {env:Env} (I:Nat → Shared → Prop)
  (turn:∀ n s,I n s → wpAny (model prog w) A (pyNext it) (fun r s₁=>match r with
   | none=>R (.ok .next) s₁
   | some v=>wpAny (model prog w) A (letOwnedTupleGo target it v) (fun _ s₁=>wpAny (model prog w) A (assign target env v) (fun _ s₂ =>
     wpAny (model prog w) A (forIn ifs true fun c r=>if r = true then do let ok ← isTrue c env (eval c env);pure (ForInStep.yield ok) else pure (ForInStep.yield r)) (fun ok s₃ =>
      if ok = true then wpAny (model prog w) A (eval elt env) (fun x s₄ =>
       wpAny (model prog w) A (call (.builtin "list.append") [acc,x]) (fun _ s₅=>∃ m,m < n ∧ I m s₅) (notedBy (model prog w) A env fun e s'=>R (.error e) s') s₄) (notedBy (model prog w) A env fun e s'=>R (.error e) s') s₃
      else ∃ m,m < n ∧ I m s₃) (notedBy (model prog w) A env fun e s'=>R (.error e) s') s₂) (notedBy (model prog w) A env fun e s'=>R (.error e) s') s₁) (notedBy (model prog w) A env fun e s'=>R (.error e) s') s₁) (notedBy (model prog w) A env fun e s'=>R (.error e) s') s)
  (n:Nat) (h:I n s) :
  codeAny (model prog w) A (.compLoop (.ListComp elt [⟨target,iter,ifs,0⟩] scope pos) 0 it acc env) R s:=by
 refine codeAny_loop rfl I (fun n s hI=>?_) n h
 show wpAny _ A ((compTurn (.ListComp elt [⟨target,iter,ifs,0⟩] scope pos) 0 it acc env).onRaise (fun x=>do noteFrame x env;theTreesLotGoes x)) _ _ s
 refine wpAny_noted ?_
 rw [compTurn_list]
 refine wpAny_bind (wpAny_standAt (wpAny_bind (wpAny_mono (turn n s hI) (fun r s₁ h₁=>?_) fun _ _ h'=>h')))
 cases r with
 | none=>exact wpAny_pure h₁
 | some v =>
  refine wpAny_bind (wpAny_mono h₁ (fun _ s₁' h₁'=>?_) fun _ _ h'=>h')
  refine wpAny_bind (wpAny_mono h₁' (fun _ s₂ h₂=>wpAny_bind (wpAny_mono h₂ (fun ok s₃ h₃=>?_) fun _ _ h'=>h')) fun _ _ h'=>h')
  cases ok with
  | false=>exact wpAny_pure ⟨rfl,h₃⟩
  | true =>
   exact wpAny_bind (wpAny_bind (wpAny_mono h₃ (fun x s₄ h₄=>wpAny_bind (wpAny_mono h₄ (fun _ s₅ h₅=>wpAny_pure (wpAny_pure ⟨rfl,h₅⟩)) fun _ _ h'=>h')) fun _ _ h'=>h'))
abbrev CW:=Nat → Nat → List V → Hp → Prop
def uO (σb:St) (J:It) (g:TG) (tt:TT) (te:TE) (W:CW) (fin:List V → Hp → Prop) (i m:Nat) (ys:List V) (H:Hp):Prop :=
 (J.stop i H ∧ fin ys H) ∨
 (J.go i H ∧ ys.length < sizeLine ∧ ∀ x H',J.yld i H x H' → g x σb H' fun σ2 H2=>tt σ2 H2 fun b H3 =>
  if b = true then te σ2 H3 fun y H4=>∃ m',m' < m ∧ W (i + 1) m' (ys ++ [y]) H4 else ∃ m',m' < m ∧ W (i + 1) m' ys H3)
structure BlkEnd (X:Cx) (pins:List (Addr × Obj)) (H:Hp) (C:Addr) (s:Shared):Prop where
 ns:∃ m,s.heap.Ns C m
 fr:H C = none
 ne:C ≠ X.env.locals
 ab:X.s₀.heap.objs.size ≤ C
 cl:∀ x c,X.env.cells.lookup x = some c → c ≠ C
 pn:∀ p ∈ X.pn ++ pins,p.1 ≠ C
theorem tL {X:Cx} {pins:List (Addr × Obj)} {σ:St} {s₂:Shared} {H₂:Hp} {elt iter tg:Expr} {ifs:List Expr} {scope:Scope} {pos:Pos} {N':List Str} {nt:Nat} {cap:List Nat} {g:TG} {tt:TT} {te:TE} {cl:List (Str × Addr)}
  {it:Addr} {fp:List Addr} {tn:Nat → Heap → Prop} {J:It} {Q:List V → Hp → Prop} {E:Value → Shared → Prop}
  (hc:X.calm = true) (I₂:Inv X pins σ H₂ s₂) (T:Turn X.prog X.w X.K tg J fp it tn) (st:tn 0 s₂.heap) (hf:∀ b ∈ fp,xG X pins H₂ b)
  (hclk:∀ x c,cl.lookup x = some c → X.env.cells.lookup x = some c) (hclh:∀ x,(x,NameKind.free) ∈ scope.names → ∃ c,cl.lookup x = some c)
  (hcell:∀ y ∈ scope.names,y.2 ≠ .cell) (hkind:scope.kind = .function)
  (hfr:∀ y ∈ scope.names,y.2 = .free → (X.env.kindOf y.1 = some .cell ∨ X.env.kindOf y.1 = some .free))
  (hN:N'.length = nt + cap.length) (hcapN:∀ (k j:Nat),cap[k]? = some j → N'[nt + k]? = X.N[j]?) (hcapF:∀ x ∈ N'.drop nt,scope.names.lookup x = some .free)
  (hg:∀ R,PG (blk X scope N' R) tg g) (hgk:yY nt g) (ht:∀ R,aGF (blk X scope N' R) ifs tt) (he:∀ R,PE (blk X scope N' R) elt te)
  (h:∃ W:CW,(∃ m,W 0 m [] H₂) ∧ ∀ i m ys H,W i m ys H → uO (lU nt cap σ) J g tt te W Q i m ys H)
  {RR:Value → Addr → Result → Shared → Prop}
  (hRR:∀ D C s' H' ys,H' D = none → Q ys H' → Inv X pins σ (upd H' D (.lst ys)) s' → BlkEnd X pins (upd H' D (.lst ys)) C s' → RR (.ref D) C (.ok .next) s') :
  wpAny (model X.prog X.w) X.A (newList []) (fun acc s₃=>wpAny (model X.prog X.w) X.A (newFunctionEnv scope X.env.globals cl [] X.env.qual none .none (some X.env)) (fun cenv s₄ =>
   codeAny (model X.prog X.w) X.A (.compStart (.ListComp elt [⟨tg,iter,ifs,0⟩] scope pos) 0 (.ref it) acc { cenv with scope:=relabel scope X.env }) (RR acc cenv.locals) s₄) E s₃) E s₂:=by
 obtain ⟨W,⟨m0,w0⟩,turn⟩:=h
 refine wpAny_newObj_type (wpAny_newFunctionEnv hcell (by intro y hy;simp at hy) (fun h₁ hns₁ hsb₁=>?_) hkind)
 dsimp only at hns₁ hsb₁ ⊢
 generalize hH2:s₂.heap.push { cls:=.type "list",dict:=none,data:=.seq ([]:List Value).toArray } = Hx at hns₁ hsb₁ ⊢
 have hC:Hx.objs.size = s₂.heap.objs.size + 1:=by rw [← hH2,Heap.size_push]
 generalize hD:s₂.heap.objs.size = D at hC ⊢
 generalize hCC:Hx.objs.size = C at hns₁ hsb₁ hC ⊢
 have hDC:D ≠ C:=by omega
 have below:∀ b,b < s₂.heap.objs.size → b ≠ C ∧ b ≠ D:=fun b hb=>by omega
 have old:∀ b o,s₂.heap.get? b = some o → h₁.get? b = some o:=fun b o e=>hsb₁.extBut b o (below b (Heap.lt_size e)).1 (Heap.get?_push_of_some _ (hH2 ▸ Heap.get?_push_of_some _ e))
 have hacc:h₁.get? D = some { cls:=.type "list",data:=.seq ([]:List Value).toArray }:=hsb₁.extBut _ _ hDC (Heap.get?_push_of_some _ (by rw [← hH2,← hD];exact Heap.get?_push_size _ rfl))
 have freshD:H₂ D = none:=I₂.hok.fresh (by omega)
 have freshC:H₂ C = none:=I₂.hok.fresh (by omega)
 have fpo:∀ b ∈ fp,∃ o,s₂.heap.get? b = some o ∧ ∀ v,o.data ≠ .cell v:=T.obj 0 _ st
 have fplt:∀ b ∈ fp,b < s₂.heap.objs.size:=fun b hb=>let ⟨o,e,_⟩:=fpo b hb;Heap.lt_size e
 have celllt:∀ x c,X.env.cells.lookup x = some c → c < s₂.heap.objs.size:=fun x c e=>let ⟨v,z⟩:=I₂.cell x c e;z.lt
 have pinlt:∀ p ∈ X.pn ++ pins,p.1 < s₂.heap.objs.size:=fun p hp=>Heap.lt_size (I₂.pin p hp).1
 let R:BlkR:=⟨cl,C,s₂,H₂,fp⟩
 have okb:(blk X scope N' R).Ok:={
  mod:=I₂.mod
  kind:=hkind
  glob:=I₂.ok.glob
  blt:=I₂.ok.blt
  above:=(by show s₂.heap.objs.size ≤ C;omega)
  inj:=fun x y c e1 e2=>I₂.ok.inj x y c (hclk x c e1) (hclk y c e2)
  has:=fun x hx=>hclh x (jK hcell hx)
  cab:=fun x c hx _=>by cases hx
  hd:=I₂.ok.hd
  frames:=I₂.ok.frames
  stk:=.inl rfl
  exf:=fun b hb=>⟨(below b (fplt b hb)).1,fun x c e=>(hf b hb).2.2.2.2.1 x c (hclk x c e)⟩
  bs:=I₂.bs
  bsz:=Nat.le_trans I₂.ok.bsz I₂.sz
  noex:=fun b o e hb=>by
   rcases (hf b hb).2.2.2.1 with z | z
   ·exact I₂.ok.noex b o e z
   ·exact absurd (Nat.lt_of_lt_of_le (Heap.lt_size e) (Nat.le_trans I₂.ok.bsz z)) (Nat.lt_irrefl _)
  exfs:=fun b hb z=>by
   rcases List.mem_cons.mp (I₂.stkSub b z) with q | q
   ·exact (hf b hb).2.1 q
   ·exact (hf b hb).2.2.1 q
  funs:=I₂.stack
  frf:=I₂.stkFree }
 have nofs:∀ a,s₂.heap.objs.size ≤ a → a ∉ frs X.stack:=fun a ha z=>by
  rcases List.mem_cons.mp (I₂.stkSub a z) with q | q
  ·exact absurd (Nat.lt_of_lt_of_le I₂.lt ha) (by rw [q];exact Nat.lt_irrefl _)
  ·exact I₂.nofs ha q
 have hDle:s₂.heap.objs.size ≤ D:=by omega
 have hCle:s₂.heap.objs.size ≤ C:=by omega
 have stat:∀ {H':Hp} {ob:Obj},(∀ b ∈ fp,H' b = none) → ∀ b ∈ fp,xG (blk X scope N' R) [(D,ob)] H' b:=fun {H' ob} hn b hb =>
  ⟨hn b hb,(below b (fplt b hb)).1,okb.exfs b hb,.inl hb,fun x c e=>(hf b hb).2.2.2.2.1 x c (hclk x c e),fun p hp=>by
   have e:p = (D,ob):=by simpa using hp
   rw [e]
   exact Ne.symm (below b (fplt b hb)).2⟩
 have entry:∀ tk,Inv (blk X scope N' R) [(D,{ cls:=.type "list",data:=.seq ([]:List Value).toArray })] (lU nt cap σ) H₂ { s₂ with heap:=h₁,toks:=tk }:=fun tk=>{
  ok:=okb
  os:=rfl
  bare:=I₂.bare
  base:=Un.kept old
  loc:=by
   refine ⟨_,hns₁,fun i x v e1 e2 e3=>?_⟩
   obtain ⟨j,hi,hj,hv⟩:=vQ e2
   have hx:X.N[j]? = some x:=by
    rw [← hcapN _ _ hj,show nt + (i - nt) = i by omega]
    exact e1
   have hxm:x ∈ N'.drop nt:=by
    refine List.mem_of_getElem? (i:=i - nt) ?_
    rw [List.getElem?_drop,show nt + (i - nt) = i by omega]
    exact e1
   have hfree:=hcapF x hxm
   have hmem:(x,NameKind.free) ∈ scope.names:=by
    have:∀ (l:List (Str × NameKind)),l.lookup x = some .free → (x,NameKind.free) ∈ l:=by
     intro l
     induction l with
     | nil=>intro q;cases q
     | cons a r ih =>
      intro q
      obtain ⟨n,k⟩:=a
      cases hxn:x == n with
      | true =>
       rw [List.lookup_cons,hxn] at q
       obtain rfl:=beq_iff_eq.mp hxn
       cases q
       exact List.mem_cons_self
      | false =>
       rw [List.lookup_cons,hxn] at q
       exact List.mem_cons_of_mem _ (ih q)
    exact this _ hfree
   have hk:=hfr (x,.free) hmem rfl
   obtain ⟨m,hn,hl⟩:=I₂.loc
   have vis:Vis X.env.scope x:=by
    rcases hk with k | k
    ·exact .inr (.inl k)
    ·exact .inr (.inr k)
   obtain ⟨u,ru,lk⟩:=hl j x v hx hv vis
   refine ⟨u,ru,?_⟩
   rcases lk with ⟨k,_⟩ | ⟨k,c,hc1,hc2⟩
   ·exfalso
    rcases hk with z | z
    ·rw [z] at k;cases k
    ·rw [z] at k;cases k
   ·obtain ⟨d,hd⟩:=hclh x hmem
    have hd':=hclk x d hd
    rw [hc1] at hd'
    cases hd'
    refine .inr ⟨hU hfree,c,hd,?_⟩
    obtain ⟨o,ho,hdat⟩:=hc2
    exact ⟨o,old c o ho,hdat⟩
  cell:=fun x c e=>by
   obtain ⟨v,o,ho,hdat⟩:=I₂.cell x c (hclk x c e)
   exact ⟨v,o,old c o ho,hdat⟩
  free:=freshC
  freeC:=fun x c e=>I₂.freeC x c (hclk x c e)
  pin:=fun p hp=>by
   have e:p = (D,{ cls:=.type "list",data:=.seq ([]:List Value).toArray }):=by simpa using hp
   subst e
   exact ⟨hacc,freshD,hDC,nofs D hDle,fun v z=>by cases z⟩
  hok:=I₂.hok.kept old
  len:=by rw [aDK,hN] }
 have loop:∀ tk,codeAny (model X.prog X.w) X.A (.compLoop (.ListComp elt [⟨tg,iter,ifs,0⟩] scope pos) 0 (.ref it) (.ref D) (compEnvC scope cl C X.env)) (RR (.ref D) C) { s₂ with heap:=h₁,toks:=tk }:=by
  intro tk
  refine tM (fun n s'=>∃ i ys H' its k,Inv (blk X scope N' R) [(D,{ cls:=.type "list",data:=.seq its.toArray k })] (lU nt cap σ) H' s' ∧ tn i s'.heap ∧ (∀ b ∈ fp,H' b = none) ∧ bB ys its ∧ ys.length ≤ sizeLine ∧ W i n ys H') ?_ m0
   ⟨0,[],H₂,[],0,entry tk,T.keep _ _ _ st fun b hb o e=>old b o e,fun b hb=>(hf b hb).1,.nil,Nat.zero_le _,w0⟩
  rintro n s3 ⟨i,ys,H3,its,k,I3,st3,fr3,rv,hz,w3⟩
  have pD:=I3.pin (D,{ cls:=.type "list",data:=.seq its.toArray k }) (by simp)
  rcases turn i n ys H3 w3 with ⟨stop,qn⟩ | ⟨go,hlt,step⟩
  ·-- the end
   refine wpAny_mono (T.done (blk X scope N' R) rfl rfl rfl hc i _ s3 _ H3 (fun _ _=>False) I3 (stat fr3) st3 stop) (fun r s4 ⟨hr,I4⟩=>?_) fun _ _ z=>z.elim
   subst hr
   have pD4:=I4.pin (D,{ cls:=.type "list",data:=.seq its.toArray k }) (by simp)
   have b4:Un (frs X.stack) fp H₂ H3 s₂.heap s4.heap:=I4.base
   have u4:Un (frs X.stack) fp H₂ (upd H3 D (.lst ys)) s₂.heap s4.heap:={
    keep:=b4.keep
    slot:=b4.slot
    free:=fun b o e n hx=>by
     rw [aR (below b (Heap.lt_size e)).2]
     exact b4.free b o e n hx
    there:=b4.there
    tups:=fun b xs e=>by
     have z:=b4.tups b xs e
     rw [aR (aU z pD4.2.1)]
     exact z
    frzs:=fun b o u e=>by
     have z:=b4.frzs b o u e
     rw [aR (aU z pD4.2.1)]
     exact z
    tbls:=fun b ps e=>by
     obtain ⟨more,z⟩:=b4.tbls b ps e
     exact ⟨more,by rw [aR (aU z pD4.2.1)];exact z⟩ }
   have hok4:HOk X.prog X.w (upd H3 D (.lst ys)) s4.heap:=fun b u e=>by
    by_cases hb:b = D
    ·subst hb
     rw [aF] at e
     cases e
     exact ⟨hz,its,k,rv,pD4.1⟩
    ·rw [aR hb] at e
     exact (I4.hok b u e).stay (fun c v _ q=>q) (fun c q=>by rw [aR (aU q pD4.2.1)];exact q) fun c xs q=>by rw [aR (aU q pD4.2.1)];exact q
   have I5:Inv X pins σ (upd H3 D (.lst ys)) s4:=I₂.call' I4.os u4 hok4 I4.bare fun b hb=>⟨(hf b hb).2.2.2.1,(hf b hb).2.1,(hf b hb).2.2.2.2.1,(hf b hb).2.2.2.2.2⟩
   refine hRR D C s4 H3 ys pD4.2.1 qn I5 ?_
   obtain ⟨m,hn,_⟩:=I4.loc
   exact ⟨⟨m,hn⟩,by rw [aR (Ne.symm hDC)];exact I4.free,fun z=>absurd I₂.lt (by rw [← z];exact Nat.not_lt.mpr hCle),Nat.le_trans I₂.sz hCle,fun x c e=>Nat.ne_of_lt (Nat.lt_of_lt_of_le (celllt x c e) hCle),fun p hp=>Nat.ne_of_lt (Nat.lt_of_lt_of_le (pinlt p hp) hCle)⟩
  ·-- a turn
   refine wpAny_mono (T.item (blk X scope N' R) rfl rfl rfl hc i _ s3 _ H3 (fun _ _=>False) I3 (stat fr3) st3 go) (fun r s4 ⟨u,hr,h4⟩=>?_) fun _ _ z=>z.elim
   subst hr
   refine wpAny_mono h4 (fun _ s5 ⟨x,H5,I5,r5,y5,st5,fr5⟩=>?_) fun _ _ z=>z.elim
   have I5':=I5.pinned (stat fr5) (T.obj _ _ st5)
   refine wpAny_mono (hg R _ s5 _ H5 x u _ I5' r5 (hgk _ _ _ _ (step x H5 y5))) (fun _ s6 ⟨σ6,H6,I6,q6,l6,k6⟩=>?_) fun _ _ z=>z.elim
   refine wpAny_mono (ht R _ s6 σ6 H6 _ I6 q6) (fun ok s7 ⟨H7,I7,q7⟩=>?_) fun _ _ z=>z.elim
   have weak:∀ {H8:Hp} {s8:Shared} {ps:List (Addr × Obj)},Inv (blk X scope N' R) ps σ6 H8 s8 → Inv (blk X scope N' R) ps (lU nt cap σ) H8 s8:=fun I8=>I8.weak (by rw [l6]) fun j v e=>by
    obtain ⟨_,hj,_,_⟩:=vQ e
    rw [k6 j hj]
    exact e
   have tnK:∀ {H8:Hp} {s8:Shared} {σ8:St},Inv (blk X scope N' R) ([(D,{ cls:=.type "list",data:=.seq its.toArray k })] ++ kZ fp s5.heap) σ8 H8 s8 → tn (i + 1) s8.heap ∧ ∀ b ∈ fp,H8 b = none:=fun {H8 s8 σ8} I8 =>
    ⟨T.keep _ _ _ st5 fun b hb o e=>(I8.pin (b,o) (List.mem_append_right _ (List.mem_append_right _ (kD hb e)))).1,fun b hb=>by
     obtain ⟨o,e,_⟩:=T.obj _ _ st5 b hb
     exact (I8.pin (b,o) (List.mem_append_right _ (List.mem_append_right _ (kD hb e)))).2.1⟩
   cases ok with
   | false =>
    rw [if_neg Bool.false_ne_true] at q7 ⊢
    obtain ⟨m',hm,w7⟩:=q7
    exact ⟨m',hm,i + 1,ys,H7,its,k,weak I7.unpinned,(tnK I7).1,(tnK I7).2,rv,hz,w7⟩
   | true =>
    rw [if_pos rfl] at q7 ⊢
    refine wpAny_mono (he R _ s7 σ6 H7 _ I7 q7) (fun xv s8 ⟨y,H8,I8,ry,q8⟩=>?_) fun _ _ z=>z.elim
    obtain ⟨m',hm,w8⟩:=q8
    have pD8:=I8.pin (D,{ cls:=.type "list",data:=.seq its.toArray k }) (by simp)
    have hsz:its.toArray.size ≤ sizeLine:=by rw [List.size_toArray,← rv.length];omega
    refine wpAny_list_append_plain (hsz:=hsz) ⟨k,pD8.1⟩ fun h9 hl9 hs9=>?_
    obtain ⟨k9,hl9⟩:=hl9
    have tn8:=tnK I8
    have I8':Inv (blk X scope N' R) (kZ fp s5.heap) (lU nt cap σ) H8 s8:=(weak I8).pins_of fun p hp=>I8.pin p (List.mem_append_right _ (List.mem_append_right _ hp))
    have I9:Inv (blk X scope N' R) (kZ fp s5.heap) (lU nt cap σ) H8 { s8 with heap:=h9 }:=I8'.turned (it:=D) (t':=s8.toks) (fun b o hb e=>hs9.extBut b o hb e) pD8.2.1 pD8.2.2.1 (.inr hDle)
     (fun x c e=>Nat.ne_of_lt (Nat.lt_of_lt_of_le (celllt x c (hclk x c e)) hDle)) fun p hp=>by
      have hp':p ∈ kZ fp s5.heap:=by simpa using hp
      exact Nat.ne_of_lt (Nat.lt_of_lt_of_le (fplt p.1 (uX hp').1) hDle)
    have e9:h9.get? D = some { cls:=.type "list",data:=.seq (its ++ [xv]).toArray k9 }:=by
     rw [hl9]
     simp
    refine ⟨m',hm,i + 1,ys ++ [y],H8,its ++ [xv],k9,I9.pins_of fun p hp=>?_,T.keep _ _ _ tn8.1 fun b hb o e=>hs9.extBut b o (Nat.ne_of_lt (Nat.lt_of_lt_of_le (fplt b hb) hDle)) e,tn8.2,rv.append (.cons ry .nil),by rw [List.length_append];exact hlt,w8⟩
    have e:p = (D,{ cls:=.type "list",data:=.seq (its ++ [xv]).toArray k9 }):=by simpa using hp
    subst e
    exact ⟨e9,pD8.2.1,pD8.2.2.1,pD8.2.2.2.1,fun v z=>by cases z⟩
 exact codeAny_compStart_list (loop _) (T.self _ 0 _ _ _ (T.keep _ _ _ st fun b hb o e=>old b o e) (loop _))
def aIC (nt:Nat) (cap:List Nat) (wi:TI) (g:TG) (tt:TT) (te:TE):TE:=fun σ H Q=>wi σ H fun J H1=>∃ W:CW,(∃ m,W 0 m [] H1) ∧ ∀ i m ys H,W i m ys H → uO (lU nt cap σ) J g tt te W (fun ys H'=>∀ p,H' p = none → Q (.ref p) (upd H' p (.lst ys))) i m ys H
theorem iX {α:Type} {l:List α} {p:α → Bool} (h:l.all p = true):∀ x ∈ l,p x = true:=fun x hx=>List.all_eq_true.mp h x hx
theorem dA {X:Cx} {elt iter tg:Expr} {ifs:List Expr} {scope:Scope} {pos:Pos} {wi:TI} {g:TG} {tt:TT} {te:TE} (N':List Str) (nt:Nat) (cap:List Nat)
  (hc:X.calm = true) (hi:PI X tg iter wi) (hg:∀ R,PG (blk X scope N' R) tg g) (hgk:yY nt g) (ht:∀ R,aGF (blk X scope N' R) ifs tt) (he:∀ R,PE (blk X scope N' R) elt te)
  (hcell:(scope.names.all fun y=>!(y.2 == .cell)) = true:=by rfl) (hkind:scope.kind = .function:=by rfl)
  (hnames:(scope.names.all fun y=>!(y.2 == .local) || (scope.names.lookup y.1 == some .local)) = true:=by rfl)
  (hfr:(scope.names.all fun y=>!(y.2 == .free) || (X.env.kindOf y.1 == some .cell || X.env.kindOf y.1 == some .free)) = true:=by rfl)
  (hN:N'.length = nt + cap.length:=by rfl) (hcapN:(cap.map fun j=>X.N[j]?) = (N'.drop nt).map some:=by rfl) (hcapF:((N'.drop nt).all fun x=>scope.names.lookup x == some .free) = true:=by rfl)
  (hs:∀ x,foldedSetIterable iter X.env x = pure x:=by intro _;rfl) :
  PE X (.ListComp elt [⟨tg,iter,ifs,0⟩] scope pos) (aIC nt cap wi g tt te):=by
 intro pins s σ H Q I h
 have hfr':∀ y ∈ scope.names,y.2 = .free → (X.env.kindOf y.1 = some .cell ∨ X.env.kindOf y.1 = some .free):=fun y hy e=>by
  have z:=iX hfr y hy
  rw [e] at z
  have z':(X.env.kindOf y.1 == some .cell || X.env.kindOf y.1 == some .free) = true:=z
  rcases Bool.or_eq_true_iff.mp z' with q | q
  ·exact .inl (beq_iff_eq.mp q)
  ·exact .inr (beq_iff_eq.mp q)
 have hcell':∀ y ∈ scope.names,y.2 ≠ .cell:=fun y hy e=>by
  have z:=iX hcell y hy
  rw [e] at z
  cases z
 obtain ⟨cl,hcl,hclk,hclh⟩:=tO (scope:=scope) (env:=X.env) fun y hy e=>I.ok.has y.1 (hfr' y hy e)
 have hnames':∀ y ∈ scope.names,y.2 = .local → scope.names.lookup y.1 = some .local:=fun y hy e=>by
  have z:=iX hnames y hy
  rw [e] at z
  exact beq_iff_eq.mp z
 have hcapN':∀ (k j:Nat),cap[k]? = some j → N'[nt + k]? = X.N[j]?:=fun k j e=>by
  have z:=congrArg (fun l:List (Option Str)=>l[k]?) hcapN
  simp only [List.getElem?_map,e,Option.map_some,List.getElem?_drop] at z
  cases q:N'[nt + k]? with
  | none=>rw [q] at z;cases z
  | some x=>rw [q] at z;exact (Option.some.inj z).symm
 rw [eval_ListComp]
 refine wpAny_comprehension_free (use:=none) rfl hs hcl hkind hnames' (thn (hi pins s σ H _ I h) fun v s1 h1=>thn h1 fun itv s2 h2=>?_)
 obtain ⟨it,fp,tn,J,H2,e,I2,T,st2,f2,hw⟩:=h2
 subst e
 refine tL (RR:=fun acc C=>compPost (model X.prog X.w) X.A X.xe none (EP X pins σ Q) acc C) hc I2 T st2 f2 hclk hclh hcell' hkind hfr' hN hcapN' (fun x hx=>beq_iff_eq.mp (iX hcapF x hx)) hg hgk ht he hw ?_
 intro D C s' H' ys hD q I' B
 obtain ⟨m,hn⟩:=B.ns
 refine ⟨m,hn,fun h' hs'=>⟨.ref D,_,I'.turned (it:=C) (t':=s'.toks) (fun b o hb e=>hs'.extBut b o hb e) B.fr B.ne (.inr B.ab) B.cl B.pn,rfl,q D hD⟩⟩
end L2
namespace L2
open PySem PySem.Spec PyProof.Rows
section
variable {X:Cx}
def aDG:V → Option Value
 | .ty n=>some (.type n)
 | .ref a=>some (.ref a)
 | _=>none
theorem tN {y:V} {c u:Value} (h:aDG y = some c) (r:bO y u):u = c:=by
 cases y with
 | ty n=>cases h;exact r
 | ref a=>cases h;exact r
 | non=>cases h
 | bl b=>cases h
 | int i=>cases h
 | str x=>cases h
 | byt b=>cases h
 | flt b=>cases h
theorem yU:eU X (.builtin "isinstance") (fun xs H Q=>∃ x y c t b,xs = [x,y] ∧ aDG y = some c ∧ TyOf X.K H x t ∧ PySem.W.kitOne X.K t c = some b ∧ Q (.bl b) H):=by
 intro pins s σ H xs us Q I r h
 obtain ⟨x,y,c,t,b,rfl,hc,ty,e,q⟩:=h
 obtain ⟨u,v,rfl,ru,rv⟩:=bB.two r
 obtain rfl:=tN hc rv
 exact aCP I ru ty e fun tk=>⟨.bl b,H,I.tok tk,rfl,q⟩
theorem qE:∀ {bs:List Bool} {us:List Value},bB (bs.map V.bl) us → LSm.BoolsAre us bs
 | [],us,r=>by
  rw [List.map_nil] at r
  cases r
  exact .nil
 | b :: bs,us,r=>by
  rw [List.map_cons] at r
  cases r with
  | cons r1 r2 =>
   cases r1
   exact .cons b (qE r2)
theorem oX (hc:X.calm = true):eU X (.builtin "all") (fun xs H Q=>∃ (p:Addr) (bs:List Bool),xs = [.ref p] ∧ SqL X.K H p (bs.map V.bl) ∧ Q (.bl (bs.all id)) H):=by
 intro pins s σ H xs us Q I r h
 obtain ⟨p,bs,rfl,hq,q⟩:=h
 obtain ⟨u,rfl,ru⟩:=bB.one r
 cases ru
 obtain ⟨its,rv,pl,hz⟩:=I.list hq
 obtain ⟨m,F⟩:=I.fr
 have hb:=qE rv
 have hl:=pl.isList
 have hlt:p < s.heap.objs.size:=by obtain ⟨_,e,_⟩:=hl;exact Heap.lt_size e
 refine call_all_walk (wpAny_pyIter_list hl ?_)
 refine ⟨s.heap.objs.size,[s.heap.objs.size,p],[s.heap.objs.size],its.toArray.size,_,_,fun i=>(bs[i]?).getD true,rfl,Walks.list (A:=X.A.in1) (I.ok.hd hc) _ p (Nat.ne_of_lt hlt) its.toArray,
  ⟨⟨_,Heap.get?_push_size _ rfl,rfl,rfl⟩,hl.push _⟩,fun i v s' Q' E' hP hQ=>?_,fun h' tk hk=>?_⟩
 ·obtain ⟨b,e,rfl⟩:=hb.get i v (by simpa using hP)
  simp only [e,Option.getD_some] at hQ
  exact wpAny_truthy_bool hQ
 ·have e:((List.range its.toArray.size).all fun i=>(bs[i]?).getD true) = bs.all id:=by
   rw [List.size_toArray,hb.length];exact LSm.range_all bs
  rw [e]
  exact ⟨.bl _,H,I.kept (LSm.kept_iter hk),rfl,q⟩
theorem jW:SlR X (fun x lo hi H Q=>∃ z,x = .str z ∧ z.length ≤ sizeLine ∧ Q (.str (Txt.slice z lo hi)) H):=by
 intro pins s σ H x v vl vu lo hi sl Q I rx hs pl pu h
 obtain ⟨z,rfl,hz,q⟩:=h
 obtain ⟨t,rfl⟩:=rx
 refine ⟨"str",_,F.slot_str_getitem.lookup,typeIs_str _ _ _,?_⟩
 have fin:∀ (t':Tok) (k:Nat),EP X pins σ Q (.str (Txt.slice z lo hi) t') { s with toks:=k }:=fun t' k=>⟨.str _,H,I.tok k,⟨t',rfl⟩,q⟩
 cases pl with
 | none =>
  cases pu with
  | none=>exact wpAny_getItem_str_slice (l:=none) (u:=none) (st:=none) hs rfl (post_val_or_str ⟨Nat.le_trans (Txt.slice_le z _ _) hz,fun t' k=>fin t' k⟩)
  | int j uj=>exact wpAny_getItem_str_slice (l:=none) (u:=some (j,uj)) (st:=none) hs rfl (post_val_or_str ⟨Nat.le_trans (Txt.slice_le z _ _) hz,fun t' k=>fin t' k⟩)
 | int i ui =>
  cases pu with
  | none=>exact wpAny_getItem_str_slice (l:=some (i,ui)) (u:=none) (st:=none) hs rfl (post_val_or_str ⟨Nat.le_trans (Txt.slice_le z _ _) hz,fun t' k=>fin t' k⟩)
  | int j uj=>exact wpAny_getItem_str_slice (l:=some (i,ui)) (u:=some (j,uj)) (st:=none) hs rfl (post_val_or_str ⟨Nat.le_trans (Txt.slice_le z _ _) hz,fun t' k=>fin t' k⟩)
theorem mS:MtR X "str.startswith" (fun x vs H Q=>∃ z y,x = .str z ∧ vs = [.str y] ∧ Q (.bl (decide (0 + y.length ≤ z.length) && Builtin.Str.subAt z y 0)) H):=by
 intro pins s σ H x xs v us Q I rx r h
 obtain ⟨z,y,rfl,rfl,q⟩:=h
 obtain ⟨t,rfl⟩:=rx
 obtain ⟨u,rfl,ru⟩:=bB.one r
 obtain ⟨t',rfl⟩:=ru
 exact call_gives F.slot_str_startswith (typeIs_str s z t) F.entry_str_startswith (F.args_str_startswith_2 _ _) (gives_str_startswith z y t t') ⟨.bl _,H,I,rfl,q⟩
theorem gN:eU X (.type "int") (fun xs H Q=>∃ x n,xs = [.str x] ∧ PySem.intText? x = some n ∧ x.length ≤ 640 ∧ Q (.int n) H):=by
 intro pins s σ H xs us Q I r h
 obtain ⟨x,n,rfl,hn,hl,q⟩:=h
 obtain ⟨u,rfl,ru⟩:=bB.one r
 obtain ⟨t,rfl⟩:=ru
 exact PySem.W.KIN.call_text hn hl ⟨.int n,H,I.tok _,⟨_,rfl⟩,q⟩
theorem zN:OpR X (binaryOp .Mult) (fun x y H Q=>∃ z n,x = .str z ∧ y = .int n ∧ z.length ≤ 16 ∧ n ≤ 1048576 ∧ -(2 ^ 63) ≤ n ∧ Q (.str (Txt.mul z n)) H):=by
 intro pins s σ H x y v u Q I rx ry h
 obtain ⟨z,n,rfl,rfl,h1,h2,h3,q⟩:=h
 obtain ⟨t,rfl⟩:=rx
 obtain ⟨t',rfl⟩:=ry
 exact SB.mul (mulOk_of 16 1048576 h1 h2 h3 (by decide) (by decide)) fun t'' k=>⟨.str _,H,I.tok k,⟨t'',rfl⟩,q⟩
theorem bX:OpR X (binaryOp .FloorDiv) (rI (fun _ j=>0 < j ∧ j.natAbs.log2 < 9000) fun i j=>.int (i / j)):=opI fun i j _ _ _ _ _ hc q=>by
 have h1:(0:Int) < j:=hc.1
 exact floordiv_int (by omega) (by rw [Int.fdiv_eq_ediv_of_nonneg i (by omega)];exact q) (.inl (PyProof.noPylong_of_log2 hc.2))
def Its (x:Str):It where
 go:=fun i _=>i < x.cps.size
 yld:=fun i H v H'=>H' = H ∧ ∃ c,x.cps[i]? = some c ∧ v = .str ⟨#[c]⟩
 stop:=fun i _=>i = x.cps.size
theorem xJ {P:Program} {w:World} {K:PySem.W.Frag} {tg:Expr} (it:Addr) (x:Str) (t:Tok) (ty:String)
  (W:∀ A:Around,A.handled = none → Walks P w A it [it] [it] x.cps.size (SignAt x) (fun i h=>h.IsStrIter it ty x t i))
  (hn:["enumerate","zip","dict_itemiterator","dict_reverseitemiterator","odict_iterator","itertools.zip_longest","itertools.pairwise"].contains ty = false)
  (self:∀ (A:Around) (i:Nat) (s:Shared) (Q:Value → Shared → Prop) (E:Value → Shared → Prop),s.heap.IsStrIter it ty x t i → Q (.ref it) s → wpAny (model P w) A (pyIter (.ref it)) Q E s) :
  Turn P w K tg (Its x) [it] it (fun i h=>h.IsStrIter it ty x t i) where
 mem:=by simp
 obj:=fun i h st b hb=>by
  have e:b = it:=by simpa using hb
  subst e
  obtain ⟨o,e,c,d⟩:=st
  exact ⟨o,e,fun v z=>by rw [d] at z;cases z⟩
 keep:=fun i h h' st k=>let ⟨o,ho,r⟩:=st;⟨o,k it (by simp) o ho,r⟩
 item:=by
  intro X hP hw hK hc i pins s σ H E I hf st hg
  subst hP hw hK
  obtain ⟨f0,f1,f2,f3,f4,f5⟩:=hf it (by simp)
  refine (W X.A (I.ok.hd hc)).item i s _ _ hg st fun v h' tk hv st' kk=>?_
  obtain ⟨c,u,hx,rfl⟩:=hv
  have I1:Inv X pins σ H { s with heap:=h',toks:=tk }:=I.turned (fun b o hb e=>kk b o (by simpa using hb) e) f0 f1 f3 f4 f5
  obtain ⟨o,e,cc,d⟩:=id st'
  exact ⟨_,rfl,aBK (s:={ s with heap:=h',toks:=tk }) e cc d hn ⟨.str ⟨#[c]⟩,H,I1,⟨u,rfl⟩,⟨rfl,c,hx,rfl⟩,st',fun b hb=>(hf b hb).1⟩⟩
 done:=by
  intro X hP hw hK hc i pins s σ H E I hf st hg
  subst hP hw hK
  obtain ⟨f0,f1,f2,f3,f4,f5⟩:=hf it (by simp)
  have hg':i = x.cps.size:=hg
  subst hg'
  exact (W X.A (I.ok.hd hc)).done s _ _ st fun h' tk kk=>⟨rfl,I.turned (fun b o hb e=>kk b o (by simpa using hb) e) f0 f1 f3 f4 f5⟩
 self:=self
def aMC (tl:TE):TI:=fun σ H R=>tl σ H fun x H1=>∃ z,x = .str z ∧ R (Its z) H1
theorem wI {tg l:Expr} {tl:TE} (hl:PE X l tl):PI X tg l (aMC tl):=by
 intro pins s σ H R I h
 refine thn (hl pins s σ H _ I h) fun v s1 ⟨x,H1,I1,r1,q1⟩=>?_
 obtain ⟨z,e,q⟩:=q1
 subst e
 obtain ⟨t,rfl⟩:=r1
 have fp:∀ b ∈ [s1.heap.objs.size],xG X pins H1 b:=fun b hb=>by
  have e:b = s1.heap.objs.size:=by simpa using hb
  subst e
  exact I1.fpOk (Nat.le_refl _) (I1.hok.fresh (Nat.le_refl _))
 cases ha:z.cps.all (· < 128)
 ·refine wpAny_pyIter_wide ha ?_
  exact ⟨s1.heap.objs.size,[s1.heap.objs.size],_,_,H1,rfl,I1.kept (t':=s1.toks) fun b o e=>Heap.get?_push_of_some _ e,xJ _ z t "str_iterator" (fun A hA=>Walks.strWide hA _ z t) (by decide) (fun A i s Q E st h=>wpAny_pyIter_striter_wide st h),
   ⟨_,Heap.get?_push_size _ rfl,rfl,rfl⟩,fp,q⟩
 ·refine wpAny_pyIter_ascii ha ?_
  exact ⟨s1.heap.objs.size,[s1.heap.objs.size],_,_,H1,rfl,I1.kept (t':=s1.toks) fun b o e=>Heap.get?_push_of_some _ e,xJ _ z t "str_ascii_iterator" (fun A hA=>Walks.strAscii hA _ z t) (by decide) (fun A i s Q E st h=>wpAny_pyIter_striter_ascii st h),
   ⟨_,Heap.get?_push_size _ rfl,rfl,rfl⟩,fp,q⟩
end
theorem aBL {x:Str} {g:TG} {tb:TS} {D:Ends} {σ:St} {H:Hp} (Pv:Nat → St → Hp → Prop) (h0:Pv 0 σ H)
  (hs:∀ i c σ H,x.cps[i]? = some c → Pv i σ H → g (.str ⟨#[c]⟩) σ H fun σ2 H2=>tb { D with nx:=Pv (i + 1),ct:=Pv (i + 1),bk:=D.nx } σ2 H2) (hd:∀ σ H,Pv x.cps.size σ H → D.nx σ H) :
  ∃ W:Nat → Nat → St → Hp → Prop,(∃ m,W 0 m σ H) ∧ ∀ i m σ H,W i m σ H →
   ((Its x).stop i H ∧ D.nx σ H) ∨ ((Its x).go i H ∧ ∃ N:St → Hp → Prop,(∀ σ' H',N σ' H' → ∃ m',m' < m ∧ W (i + 1) m' σ' H') ∧ ∀ v H',(Its x).yld i H v H' → g v σ H' fun σ2 H2=>tb { D with nx:=N,ct:=N,bk:=D.nx } σ2 H2):=by
 refine ⟨fun i m σ H=>m = x.cps.size - i ∧ i ≤ x.cps.size ∧ Pv i σ H,⟨x.cps.size,by simp,Nat.zero_le _,h0⟩,?_⟩
 rintro i m σ H ⟨rfl,hi,p⟩
 by_cases hlt:i < x.cps.size
 ·refine .inr ⟨hlt,Pv (i + 1),fun σ' H' p'=>⟨x.cps.size - (i + 1),by omega,rfl,hlt,p'⟩,fun v H' y=>?_⟩
  obtain ⟨e,c,hx,rfl⟩:=y
  subst e
  exact hs i c σ _ hx p
 ·have e:i = x.cps.size:=by omega
  subst e
  exact .inl ⟨rfl,hd σ H p⟩
theorem yS {σb:St} {x:Str} {g:TG} {tt:TT} {te:TE} {fin:List V → Hp → Prop} {H:Hp} (hz:x.cps.size ≤ sizeLine) (Pv:Nat → List V → Hp → Prop) (h0:Pv 0 [] H) (hl:∀ i ys H,Pv i ys H → ys.length ≤ i)
  (hs:∀ i c ys H (K:VK) (K':Hp → Prop),x.cps[i]? = some c → Pv i ys H → (∀ y H4,Pv (i + 1) (ys ++ [y]) H4 → K y H4) → (∀ H3,Pv (i + 1) ys H3 → K' H3) →
   g (.str ⟨#[c]⟩) σb H fun σ2 H2=>tt σ2 H2 fun b H3=>if b = true then te σ2 H3 K else K' H3)
  (hd:∀ ys H,Pv x.cps.size ys H → fin ys H):∃ W:CW,(∃ m,W 0 m [] H) ∧ ∀ i m ys H,W i m ys H → uO σb (Its x) g tt te W fin i m ys H:=by
 refine ⟨fun i m ys H=>m = x.cps.size - i ∧ i ≤ x.cps.size ∧ Pv i ys H,⟨x.cps.size,by simp,Nat.zero_le _,h0⟩,?_⟩
 rintro i m ys H ⟨rfl,hi,p⟩
 by_cases hlt:i < x.cps.size
 ·refine .inr ⟨hlt,?_,fun v H' y=>?_⟩
  ·have:=hl i ys H p;omega
  ·obtain ⟨e,c,hx,rfl⟩:=y
   subst e
   exact hs i c ys _ _ _ hx p (fun y H4 q=>⟨x.cps.size - (i + 1),by omega,rfl,hlt,q⟩) fun H3 q=>⟨x.cps.size - (i + 1),by omega,rfl,hlt,q⟩
 ·have e:i = x.cps.size:=by omega
  subst e
  exact .inl ⟨rfl,hd ys H p⟩
theorem cF {F:PySem.W.Frag} {a:Addr} {xs:List V} {σb:St} {g:TG} {tt:TT} {te:TE} {fin:List V → Hp → Prop} {H:Hp} (hz:xs.length ≤ sizeLine) (Pv:Nat → List V → Hp → Prop) (h0:Pv 0 [] H)
  (hl:∀ i ys H,i ≤ xs.length → Pv i ys H → SqL F H a xs ∧ ys.length ≤ i)
  (hs:∀ i x ys H (K:VK) (K':Hp → Prop),xs[i]? = some x → Pv i ys H → (∀ y H4,Pv (i + 1) (ys ++ [y]) H4 → K y H4) → (∀ H3,Pv (i + 1) ys H3 → K' H3) →
   g x σb H fun σ2 H2=>tt σ2 H2 fun b H3=>if b = true then te σ2 H3 K else K' H3)
  (hd:∀ ys H,Pv xs.length ys H → fin ys H):∃ W:CW,(∃ m,W 0 m [] H) ∧ ∀ i m ys H,W i m ys H → uO σb (Itl F a) g tt te W fin i m ys H:=by
 refine ⟨fun i m ys H=>m = xs.length - i ∧ i ≤ xs.length ∧ Pv i ys H,⟨xs.length,by simp,Nat.zero_le _,h0⟩,?_⟩
 rintro i m ys H ⟨rfl,hi,p⟩
 obtain ⟨q,ql⟩:=hl i ys H hi p
 by_cases hlt:i < xs.length
 ·refine .inr ⟨⟨xs,xs[i],q,by simp [hlt]⟩,by omega,fun x H' y=>?_⟩
  obtain ⟨e,y⟩:=y
  subst e
  exact hs i x ys _ _ _ (y xs q) p (fun y H4 q=>⟨xs.length - (i + 1),by omega,rfl,hlt,q⟩) fun H3 q=>⟨xs.length - (i + 1),by omega,rfl,hlt,q⟩
 ·have e:i = xs.length:=by omega
  subst e
  exact .inl ⟨⟨xs,q,Nat.le_refl _⟩,hd ys H p⟩
theorem nL {lo:Int} {n:Nat} {σb:St} {g:TG} {tt:TT} {te:TE} {fin:List V → Hp → Prop} {H:Hp} (hz:n ≤ sizeLine) (Pv:Nat → List V → Hp → Prop) (h0:Pv 0 [] H) (hl:∀ i ys H,Pv i ys H → ys.length ≤ i)
  (hs:∀ i ys H (K:VK) (K':Hp → Prop),i < n → Pv i ys H → (∀ y H4,Pv (i + 1) (ys ++ [y]) H4 → K y H4) → (∀ H3,Pv (i + 1) ys H3 → K' H3) →
   g (.int (lo + i)) σb H fun σ2 H2=>tt σ2 H2 fun b H3=>if b = true then te σ2 H3 K else K' H3)
  (hd:∀ ys H,Pv n ys H → fin ys H):∃ W:CW,(∃ m,W 0 m [] H) ∧ ∀ i m ys H,W i m ys H → uO σb (Itr lo n) g tt te W fin i m ys H:=by
 refine ⟨fun i m ys H=>m = n - i ∧ i ≤ n ∧ Pv i ys H,⟨n,by simp,Nat.zero_le _,h0⟩,?_⟩
 rintro i m ys H ⟨rfl,hi,p⟩
 by_cases hlt:i < n
 ·refine .inr ⟨hlt,?_,fun v H' y=>?_⟩
  ·have:=hl i ys H p;omega
  ·obtain ⟨e,y⟩:=y
   subst e y
   exact hs i ys _ _ _ hlt p (fun y H4 q=>⟨n - (i + 1),by omega,rfl,hlt,q⟩) fun H3 q=>⟨n - (i + 1),by omega,rfl,hlt,q⟩
 ·have e:i = n:=by omega
  subst e
  exact .inl ⟨Nat.le_refl _,hd ys H p⟩
end L2
namespace L2
open PySem PySem.Spec PyProof.Rows
structure DefAt (K:PySem.W.Frag) (mg:Str → Option Value) (x:Str) (st:Stmt) (ps:List Str):Prop where
 ex:∃ (f:Addr) (fd:FuncData),Fun K x x st f fd ∧ gC K fd ps [] ∧ mg x = some (.ref f)
structure Fc (P:Program) (w:World) (K:PySem.W.Frag) (mg:Str → Option Value) (base:Heap) (k:Nat) (x:Str) (ps:List Str) (sp:Sp):Prop where
 ex:∃ (f:Addr) (fd:FuncData),FnOk P w K mg base CX0 k f fd ps sp ∧ gC K fd ps [] ∧ mg x = some (.ref f) ∧ PySem.W.keepIn K (.ref f) = true
section
variable {P:Program} {w:World} {K:PySem.W.Frag} {mg:Str → Option Value} {base:Heap}
theorem DefAt.fc {x:Str} {st:Stmt} {N ps:List Str} {k:Nat} {sp:Sp} (D:DefAt K mg x st ps) (S:FnScope N ps (aE st)) (len:∀ vs H Q E,sp vs H Q E → vs.length = ps.length)
  (hbody:∀ (f:Addr) (cdv:Value) (A:Around) (outer:List Env) (s:Shared) (H:Hp) (vs:List V) (Q:VK) (E:XK),Room k (A.deeper (envOfC x (aE st) s.heap.objs.size f cdv)) → sp vs H Q E →
   ∃ t,PSs (hJ CX0 P w K mg base N x (aE st) f cdv A outer s H E).nox (aK st) t ∧ t { nx:=fun _ H'=>Q .non H',rt:=Q } (iD N vs) H):Fc P w K mg base (k + 1) x ps sp:=by
 obtain ⟨f,fd,F,b,m⟩:=D.ex
 exact ⟨f,fd,F.ok S len fun cdv A outer s H vs Q E hr h=>hbody f cdv A outer s H vs Q E hr h,b,m,F.kp⟩
theorem bJ {h:Heap} {x:Str} {st:Stmt} {ps:List Str} {f:Addr} {oc:Value} {od an:Option Addr} {osl:Array (Option Value)} {kV doc pm cdv ct:Value} (X:K.In h) (G:h.Ns mainGlobals mg)
  (a:PySem.W.nsIn K mainGlobals x = some (some (.ref f))) (l:K.lookup f = some ⟨oc,od,.func (PySem.W.fnOf x x (aL st) (aK st) (aE st) .none kV doc pm an cdv ct),osl⟩)
  (c:PySem.W.codeIn K cdv x = true) (k:PySem.W.keepIn K (.ref f) = true)
  (hb:∀ (kV doc pm:Value) (an:Option Addr) (cdv ct:Value) (us:List Value),us.length = ps.length → bindArgs (PySem.W.fnOf x x (aL st) (aK st) (aE st) .none kV doc pm an cdv ct) ⟨us,[]⟩ = pure (ps.zip us)):DefAt K mg x st ps :=
 ⟨f,_,pO l c k,(pO l c k).binds hb,PySem.W.mg_of X G a⟩
end
section
variable {X:Cx} {k:Nat} {ps:List Str} {sp:Sp} {x:Str} {p pos:Pos} {e:Expr} {es:List Expr} {t:TA}
theorem bR (F:Fc X.prog X.w X.K X.mg X.base k x ps sp) (hr:Room k X.A) (ha:PA X (e :: es) t) (hg:Gl X x:=by rfl) (hdb:(x == ("__debug__":Str)) = false:=by decide)
  (he:starEach (e :: es) X.env = (false,eval e X.env) :: starEach es X.env:=by rfl) (hpl:(backTo pos (starEach es X.env)).any (·.1) = false:=by rfl) :
  PE X (.Call (.Name x p) (e :: es) [] pos) (aAR sp [] E0 t):=by
 obtain ⟨f,fd,G,b,m,kp⟩:=F.ex
 exact aBD G hr hg m kp b .nil aIH ha hdb he hpl
end
def sp1 (f:V → Hp → VK → Prop):Sp:=fun vs H Q _=>∃ x,vs = [x] ∧ f x H Q
def sp2 (f:V → V → Hp → VK → Prop):Sp:=fun vs H Q _=>∃ x y,vs = [x,y] ∧ f x y H Q
def sp3 (f:V → V → V → Hp → VK → Prop):Sp:=fun vs H Q _=>∃ x y z,vs = [x,y,z] ∧ f x y z H Q
theorem iB {f:V → Hp → VK → Prop}:∀ vs H Q E,sp1 f vs H Q E → vs.length = 1:=fun vs H Q E ⟨x,e,_⟩=>by rw [e];rfl
theorem qM {f:V → V → Hp → VK → Prop}:∀ vs H Q E,sp2 f vs H Q E → vs.length = 2:=fun vs H Q E ⟨x,y,e,_⟩=>by rw [e];rfl
theorem zW {f:V → V → V → Hp → VK → Prop}:∀ vs H Q E,sp3 f vs H Q E → vs.length = 3:=fun vs H Q E ⟨x,y,z,e,_⟩=>by rw [e];rfl
theorem bK:bootBuiltins "isinstance" = some (.builtin "isinstance"):=by decide +kernel
theorem mM:bootBuiltins "all" = some (.builtin "all"):=by decide +kernel
theorem bD:bootBuiltins "len" = some (.builtin "len"):=by decide +kernel
theorem vP:bootBuiltins "max" = some (.builtin "max"):=by decide +kernel
theorem aDJ:bootBuiltins "min" = some (.builtin "min"):=by decide +kernel
theorem dU:bootBuiltins "str" = some (.type "str"):=by decide +kernel
theorem jV:bootBuiltins "int" = some (.type "int"):=by decide +kernel
theorem aAJ:bootBuiltins "bool" = some (.type "bool"):=by decide +kernel
theorem iQ:bootBuiltins "list" = some (.type "list"):=by decide +kernel
theorem iW:bootBuiltins "tuple" = some (.type "tuple"):=by decide +kernel
theorem tQ:bootBuiltins "dict" = some (.type "dict"):=by decide +kernel
theorem aDI:bootBuiltins "set" = some (.type "set"):=by decide +kernel
inductive Pl (K:PySem.W.Frag) (H:Hp):V → Prop where
 | non:Pl K H .non
 | bl (b:Bool):Pl K H (.bl b)
 | int (i:Int):Pl K H (.int i)
 | str (x:Str):Pl K H (.str x)
 | lst {a:Addr} {xs:List V} (e:H a = some (.lst xs)):Pl K H (.ref a)
 | frz {a:Addr} {o:Obj} {xs:List V} (e:H a = some (.frz o (.lst xs))):Pl K H (.ref a)
 | tup {a:Addr} {xs:List V} (e:H a = some (.tup xs)):Pl K H (.ref a)
 | dK {a:Addr} {kvs:List (Key × V)} (e:H a = some (.dK kvs)):Pl K H (.ref a)
def isI:V → Bool
 | .int _=>true
 | _=>false
def isB:V → Bool
 | .bl _=>true
 | _=>false
def isS:V → Bool
 | .str _=>true
 | _=>false
theorem fZ (K:PySem.W.Frag) (n:String):PySem.W.kitOne K (.type n) (.type n) = some true:=by
 unfold PySem.W.kitOne
 rw [if_pos (by simp)]
theorem Pl.ty {K:PySem.W.Frag} {H:Hp} {x:V} (h:Pl K H x):∃ t,TyOf K H x t ∧ PySem.W.kitOne K t (.type "int") = some (isI x || isB x) ∧ PySem.W.kitOne K t (.type "bool") = some (isB x) ∧ PySem.W.kitOne K t (.type "str") = some (isS x):=by
 cases h with
 | non=>exact ⟨_,.non,rfl,rfl,rfl⟩
 | bl b=>exact ⟨_,.bl b,rfl,fZ _ _,rfl⟩
 | int i=>exact ⟨_,.int i,fZ _ _,rfl,rfl⟩
 | str z=>exact ⟨_,.str z,rfl,rfl,fZ _ _⟩
 | lst e=>exact ⟨_,.lst e,rfl,rfl,rfl⟩
 | frz e=>exact ⟨_,.frz e,rfl,rfl,rfl⟩
 | tup e=>exact ⟨_,.tup e,rfl,rfl,rfl⟩
 | dK e=>exact ⟨_,.dK e,rfl,rfl,rfl⟩
end L2
namespace L2
open PySem PySem.Spec PyProof.Rows
def iR (mg:Str → Option Value) (x:Str) (v:V):Prop:=∃ u,mg x = some u ∧ bO v u
theorem qJ {X:Cx} {x:Str} {v:V} {pos:Pos} (h:iR X.mg x v) (hg:Gl X x:=by rfl) (hd:(x == ("__debug__":Str)) = false:=by decide):PE X (.Name x pos) (tC v):=by
 obtain ⟨u,hm,r⟩:=h
 exact cZ hg hm r hd
theorem iC {K:PySem.W.Frag} {mg:Str → Option Value} {h:Heap} {x:Str} {v:V} {u:Value} (X:K.In h) (G:h.Ns mainGlobals mg) (a:PySem.W.nsIn K mainGlobals x = some (some u)) (r:bO v u):iR mg x v:=⟨u,PySem.W.mg_of X G a,r⟩
end L2
namespace L2
open PySem PySem.Spec PyProof.Rows
def pQ:HO → Bool
 | .lst _=>true
 | .dK _=>true
 | .set _ _=>true
 | .ext _=>true
 | .rng _ _=>true
 | _=>false
def fH (H' H'':Hp):Prop:=∀ b,H'' b = H' b ∨ (H'' b = none ∧ ∃ o,H' b = some o ∧ pQ o = true)
theorem fH.refl (H:Hp):fH H H:=fun _=>.inl rfl
theorem fH.trans {H1 H2 H3:Hp} (a:fH H1 H2) (b:fH H2 H3):fH H1 H3:=fun c=>by
 rcases b c with e | ⟨e,o,q,d⟩
 ·rcases a c with e' | ⟨e',o,q,d⟩
  ·exact .inl (e.trans e')
  ·exact .inr ⟨e.trans e',o,q,d⟩
 ·rcases a c with e' | ⟨e',_⟩
  ·exact .inr ⟨e,o,e' ▸ q,d⟩
  ·rw [e'] at q;cases q
theorem fH.new {H:Hp} {p:Addr} {o:HO} (h:H p = none) (d:pQ o = true):fH (upd H p o) H:=fun b=>by
 by_cases hb:b = p
 ·subst hb
  exact .inr ⟨h,o,aF,d⟩
 ·exact .inl (aR hb).symm
theorem fH.lst {H:Hp} {p:Addr} {xs:List V} (h:H p = none):fH (upd H p (.lst xs)) H:=fH.new h rfl
def cB (Q:VK):VK:=fun v H'=>∃ H'',fH H' H'' ∧ Q v H''
theorem cB.of {Q:VK} {v:V} {H H':Hp} (d:fH H' H) (q:Q v H):cB Q v H':=⟨H,d,q⟩
theorem HOk.drop {P:Program} {w:World} {H' H'':Hp} {h:Heap} (d:fH H' H'') (ok:HOk P w H' h):HOk P w H'' h:=fun b o e=>by
 have e':H' b = some o:=by
  rcases d b with z | ⟨z,_⟩
  ·exact z.symm.trans e
  ·rw [z] at e;cases e
 refine (ok b o e').stay (fun _ _ _ q=>q) (fun c q=>?_) fun c xs q=>?_
 ·rcases d c with z | ⟨_,o',z',dr⟩
  ·exact z.trans q
  ·rw [q] at z';cases z';cases dr
 ·rcases d c with z | ⟨_,o',z',dr⟩
  ·exact z.trans q
  ·rw [q] at z';cases z';cases dr
theorem Un.drop {fs ex:List Addr} {H H' H'':Hp} {h h':Heap} (d:fH H' H'') (u:Un fs ex H H' h h'):Un fs ex H H'' h h' where
 keep:=u.keep
 slot:=u.slot
 free:=fun b o e n hx=>by
  rcases d b with z | ⟨z,_⟩
  ·exact z.trans (u.free b o e n hx)
  ·exact z
 there:=u.there
 tups:=fun b xs e=>by
  have q:=u.tups b xs e
  rcases d b with z | ⟨_,o',z',dr⟩
  ·exact z.trans q
  ·rw [q] at z';cases z';cases dr
 frzs:=fun b o v e=>by
  have q:=u.frzs b o v e
  rcases d b with z | ⟨_,o',z',dr⟩
  ·exact z.trans q
  ·rw [q] at z';cases z';cases dr
 tbls:=fun b ps e=>by
  obtain ⟨m,q⟩:=u.tbls b ps e
  rcases d b with z | ⟨_,o',z',dr⟩
  ·exact ⟨m,z.trans q⟩
  ·rw [q] at z';cases z';cases dr
theorem FnOk.drop {P:Program} {w:World} {K:PySem.W.Frag} {mg:Str → Option Value} {base:Heap} {k:Nat} {f:Addr} {fd:FuncData} {ps:List Str} {sp:Sp} (len:∀ vs H Q E,sp vs H Q E → vs.length = ps.length)
  (F:FnOk P w K mg base CX0 k f fd ps (fun vs H Qd E=>∃ Q,sp vs H Q E ∧ Qd = cB Q)):FnOk P w K mg base CX0 k f fd ps sp:=by
 refine ⟨len,fun A outer s H args us vs Q E hr he hb hv hs=>codeAny_mono (F.run A outer s H args us vs (cB Q) E hr he hb hv ⟨Q,hs,rfl⟩) fun r s' h=>?_⟩
 cases r with
 | error e=>exact h
 | ok fl =>
  cases fl with
  | ret u =>
   obtain ⟨v,H',os,bare,un,hok,rv,H'',d,q⟩:=h
   exact ⟨v,H'',os,bare,un.drop d,hok.drop d,rv,q⟩
  | next=>exact h
  | brk=>exact h
  | cont=>exact h
theorem DefAt.fcD {P:Program} {w:World} {K:PySem.W.Frag} {mg:Str → Option Value} {base:Heap} {x:Str} {st:Stmt} {N ps:List Str} {k:Nat} {sp:Sp} (D:DefAt K mg x st ps) (S:FnScope N ps (aE st)) (len:∀ vs H Q E,sp vs H Q E → vs.length = ps.length)
  (hbody:∀ (f:Addr) (cdv:Value) (A:Around) (outer:List Env) (s:Shared) (H:Hp) (vs:List V) (Q:VK) (E:XK),Room k (A.deeper (envOfC x (aE st) s.heap.objs.size f cdv)) → sp vs H Q E →
   ∃ t,PSs (hJ CX0 P w K mg base N x (aE st) f cdv A outer s H E).nox (aK st) t ∧ t { nx:=fun _ H'=>cB Q .non H',rt:=cB Q } (iD N vs) H):Fc P w K mg base (k + 1) x ps sp:=by
 obtain ⟨f,fd,F,b,m⟩:=D.ex
 refine ⟨f,fd,FnOk.drop len (F.ok S (fun vs H Q E ⟨Q',h,_⟩=>len vs H Q' E h) fun cdv A outer s H vs Q E hr ⟨Q',h,e⟩=>?_),b,m,F.kp⟩
 subst e
 exact hbody f cdv A outer s H vs Q' E hr h
end L2
namespace L2
open PySem PySem.Spec PyProof.Rows
theorem aJ.upd {H:Hp} {p:Addr} {o:HO} (h:H p = none):aJ H (upd H p o):=fun b u e=>by
 rw [aR (aU e h)]
 exact e
def aAZ (K:PySem.W.Frag):Sp:=sp1 fun x H Q=>∃ (a:Addr) (ns:List Int),x = .ref a ∧ SqL K H a (ns.map V.int) ∧ ns.length ≤ 63 ∧ ∀ H',Q (.bl true) H'
theorem walk_law {l:PySem.W.OpenLaw} {q:Program} {loose:List Str} {XP:(Str → Option Value) → Heap → Prop} {YP:World → Heap → Prop} {d:DefRec} {K:Params → PySem.W.Frag} (k:Nat) (hr:Room k callerA) (hn:l.most = some 63) (hdf:d.params.defaults = [])
  (hY:∀ (w:World) (h:Heap),YP w h → (K w.params).In h)
  (F:∀ (w:World) (mg:Str → Option Value) (fa:Addr) (h:Heap),(K w.params).In h → h.Ns mainGlobals mg → mg d.name = some (.ref fa) →
   ∃ fd:FuncData,(∀ (s:Shared) (u:Value),BindsTo s fd ⟨[u],[]⟩ [("_law_script",u)]) ∧ ∀ base:Heap,(K w.params).In base → base.Ns mainGlobals mg → FnOk l.prog w (K w.params) mg base CX0 k fa fd ["_law_script"] (aAZ (K w.params))) :
  PySem.W.WalkO q loose XP YP l.row.toRowW d [] (fun f vs=>PySem.call f vs) :=
 L2.walk_of (n:=63) (k:=k) (x:="_law_script") (CX:=fun _=>CX0) (sp:=fun w=>aAZ (K w.params)) hn (by decide) hdf hr hY F (fun _ _ a ns hl _ hS=>⟨_,rfl,a,ns,rfl,hS,hl,fun _=>rfl⟩) fun _ _ _ _ _ z=>z
end L2
namespace L2
open PySem PySem.Spec PyProof.Rows
theorem oB {X:Cx} {x:Str} {n:String} {pos:Pos} (hm:X.mg x = none) (hv:bootBuiltins x = some (.type n)) (hg:Gl X x:=by rfl) (hn:x ≠ "__name__":=by decide) (hd:(x == ("__debug__":Str)) = false:=by decide):PE X (.Name x pos) (tC (.ty n)) :=
 aGX hg hm hv rfl hn hd
end L2
namespace L2
theorem aY {n:Nat} (h:Nat.ble n 1000 = true):n ≤ PySem.sizeLine:=Nat.le_trans (Nat.le_of_ble_eq_true h) (by decide)
end L2
namespace L2
open PySem PySem.Spec PyProof.Rows
def Ite (K:PySem.W.Frag) (a:Addr):It where
 go:=fun i H=>∃ xs x,SqL K H a xs ∧ xs[i]? = some x
 yld:=fun i H v H'=>∃ p x,H p = none ∧ v = .ref p ∧ H' = upd H p (.tup [.int i,x]) ∧ ∀ ys,SqL K H a ys → ys[i]? = some x
 stop:=fun i H=>∃ xs,SqL K H a xs ∧ xs.length ≤ i
end L2
namespace L2
open PySem PySem.Spec PyProof.Rows
inductive Dv where
 | non | bl (b:Bool) | int (i:Int) | str (x:Str) | lst (ds:List Dv) | tup (ds:List Dv) | dct (ks:List Key) (ds:List Dv)
mutual
def Is (H:Hp):Dv → V → Prop
 | .non,v=>v = .non
 | .bl b,v=>v = .bl b
 | .int i,v=>v = .int i
 | .str x,v=>v = .str x
 | .lst ds,v=>∃ a vs,v = .ref a ∧ H a = some (.lst vs) ∧ IsL H ds vs
 | .tup ds,v=>∃ a vs,v = .ref a ∧ H a = some (.tup vs) ∧ IsL H ds vs
 | .dct ks ds,v=>∃ a vs,v = .ref a ∧ H a = some (.dK (ks.zip vs)) ∧ vs.length = ks.length ∧ IsL H ds vs
def IsL (H:Hp):List Dv → List V → Prop
 | [],vs=>vs = []
 | d :: ds,vs=>∃ v r,vs = v :: r ∧ Is H d v ∧ IsL H ds r
end
def aJQ:HO → Bool
 | .lst _=>true
 | .tup _=>true
 | .dK _=>true
 | _=>false
def aBU (H H':Hp):Prop:=∀ b o,H b = some o → aJQ o = true → H' b = some o
mutual
theorem Is.sameD {H H':Hp} (S:aBU H H'):∀ (d:Dv) (v:V),Is H d v → Is H' d v
 | .non,_,h=>h
 | .bl _,_,h=>h
 | .int _,_,h=>h
 | .str _,_,h=>h
 | .lst ds,_,⟨a,vs,e,o,h⟩=>⟨a,vs,e,S _ _ o rfl,IsL.sameD S ds vs h⟩
 | .tup ds,_,⟨a,vs,e,o,h⟩=>⟨a,vs,e,S _ _ o rfl,IsL.sameD S ds vs h⟩
 | .dct ks ds,_,⟨a,vs,e,o,l,h⟩=>⟨a,vs,e,S _ _ o rfl,l,IsL.sameD S ds vs h⟩
theorem IsL.sameD {H H':Hp} (S:aBU H H'):∀ (ds:List Dv) (vs:List V),IsL H ds vs → IsL H' ds vs
 | [],_,h=>h
 | d :: ds,_,⟨v,r,e,h,t⟩=>⟨v,r,e,Is.sameD S d v h,IsL.sameD S ds r t⟩
end
theorem Is.same {H H':Hp} (S:aJ H H') (d:Dv) (v:V) (h:Is H d v):Is H' d v:=Is.sameD (fun b o e _=>S b o e) d v h
theorem IsL.same {H H':Hp} (S:aJ H H') (ds:List Dv) (vs:List V) (h:IsL H ds vs):IsL H' ds vs:=IsL.sameD (fun b o e _=>S b o e) ds vs h
mutual
def zZ:Dv → Bool
 | .lst _=>false
 | .dct _ _=>false
 | .tup ds=>sZ ds
 | _=>true
def sZ:List Dv → Bool
 | []=>true
 | d :: ds=>zZ d && sZ ds
end
def yX (H H':Hp):Prop:=∀ a xs,H a = some (.tup xs) → H' a = some (.tup xs)
mutual
theorem Is.keep {H H':Hp} (S:yX H H'):∀ (d:Dv) (v:V),zZ d = true → Is H d v → Is H' d v
 | .non,_,_,h=>h
 | .bl _,_,_,h=>h
 | .int _,_,_,h=>h
 | .str _,_,_,h=>h
 | .lst ds,_,f,_=>by cases f
 | .tup ds,_,f,⟨a,vs,e,o,h⟩=>⟨a,vs,e,S _ _ o,IsL.keep S ds vs f h⟩
 | .dct ks ds,_,f,_=>by cases f
theorem IsL.keep {H H':Hp} (S:yX H H'):∀ (ds:List Dv) (vs:List V),sZ ds = true → IsL H ds vs → IsL H' ds vs
 | [],_,_,h=>h
 | d :: ds,_,f,⟨v,r,e,h,t⟩=>⟨v,r,e,Is.keep S d v (Bool.and_eq_true_iff.mp f).1 h,IsL.keep S ds r (Bool.and_eq_true_iff.mp f).2 t⟩
end
mutual
def deq:Dv → Dv → Bool
 | .non,.non=>true
 | .bl a,.bl b=>a == b
 | .bl a,.int b=>(if a then 1 else 0) == b
 | .int a,.bl b=>a == (if b then 1 else 0)
 | .int a,.int b=>a == b
 | .str a,.str b=>a == b
 | .lst a,.lst b=>uH a b
 | .tup a,.tup b=>uH a b
 | _,_=>false
def uH:List Dv → List Dv → Bool
 | [],[]=>true
 | a :: r,b :: q=>deq a b && uH r q
 | _,_=>false
end
mutual
def aW:Nat → Dv → Bool
 | _,.dct _ _=>false
 | 0,.lst _=>false
 | 0,.tup _=>false
 | n + 1,.lst ds=>cK n ds
 | n + 1,.tup ds=>cK n ds
 | _,_=>true
def cK:Nat → List Dv → Bool
 | _,[]=>true
 | n,d :: ds=>aW n d && cK n ds
end
mutual
theorem yQ:∀ (n:Nat) (d:Dv),aW n d = true → deq d d = true
 | _,.non,_=>rfl
 | _,.bl b,_=>beq_self_eq_true b
 | _,.int i,_=>beq_self_eq_true i
 | _,.str x,_=>beq_self_eq_true x
 | 0,.lst ds,f=>by simp [aW] at f
 | 0,.tup ds,f=>by simp [aW] at f
 | n + 1,.lst ds,f=>pR n ds (by simpa [aW] using f)
 | n + 1,.tup ds,f=>pR n ds (by simpa [aW] using f)
 | n,.dct ks ds,f=>by simp [aW] at f
theorem pR:∀ (n:Nat) (ds:List Dv),cK n ds = true → uH ds ds = true
 | _,[],_=>rfl
 | n,d :: ds,f=>by
  rw [cK,Bool.and_eq_true] at f
  show (deq d d && uH ds ds) = true
  rw [yQ n d f.1,pR n ds f.2];rfl
end
theorem IsL.length {H:Hp}:∀ {ds:List Dv} {vs:List V},IsL H ds vs → vs.length = ds.length
 | [],_,h=>by rw [show _ = [] from h];rfl
 | d :: ds,_,⟨v,r,e,_,t⟩=>by rw [e,List.length_cons,List.length_cons,IsL.length t]
mutual
theorem Is.inj {H:Hp}:∀ (d e:Dv) (v:V),Is H d v → Is H e v → (∃ n,aW n d = true) → (∃ n,aW n e = true) → d = e
 | .non,e,v,h,h',_,_=>by
  cases e <;> simp_all [Is]
 | .bl b,e,v,h,h',_,_=>by
  cases e <;> simp_all [Is]
 | .int b,e,v,h,h',_,_=>by
  cases e <;> simp_all [Is]
 | .str b,e,v,h,h',_,_=>by
  cases e <;> simp_all [Is]
 | .lst ds,e,v,⟨a,vs,q,o,h⟩,h',⟨n,f⟩,⟨m,g⟩=>by
  subst q
  cases e with
  | lst es =>
   obtain ⟨a',vs',q',o',h'⟩:=h'
   cases q'
   rw [o] at o'
   cases o'
   cases n with
   | zero=>simp [aW] at f
   | succ n =>
    cases m with
    | zero=>simp [aW] at g
    | succ m=>rw [IsL.inj ds es vs h h' ⟨n,by simpa [aW] using f⟩ ⟨m,by simpa [aW] using g⟩]
  | tup es =>
   obtain ⟨a',vs',q',o',h'⟩:=h'
   cases q'
   rw [o] at o'
   cases o'
  | dct ks es=>simp [aW] at g
  | _=>simp_all [Is]
 | .tup ds,e,v,⟨a,vs,q,o,h⟩,h',⟨n,f⟩,⟨m,g⟩=>by
  subst q
  cases e with
  | tup es =>
   obtain ⟨a',vs',q',o',h'⟩:=h'
   cases q'
   rw [o] at o'
   cases o'
   cases n with
   | zero=>simp [aW] at f
   | succ n =>
    cases m with
    | zero=>simp [aW] at g
    | succ m=>rw [IsL.inj ds es vs h h' ⟨n,by simpa [aW] using f⟩ ⟨m,by simpa [aW] using g⟩]
  | lst es =>
   obtain ⟨a',vs',q',o',h'⟩:=h'
   cases q'
   rw [o] at o'
   cases o'
  | dct ks es=>simp [aW] at g
  | _=>simp_all [Is]
 | .dct ks ds,e,v,_,h',⟨n,f⟩,_=>by simp [aW] at f
theorem IsL.inj {H:Hp}:∀ (ds es:List Dv) (vs:List V),IsL H ds vs → IsL H es vs → (∃ n,cK n ds = true) → (∃ n,cK n es = true) → ds = es
 | [],es,vs,h,h',_,_=>by
  rw [show vs = [] from h] at h'
  cases es with
  | nil=>rfl
  | cons e es=>obtain ⟨v,r,q,_⟩:=h';cases q
 | d :: ds,es,vs,⟨v,r,q,h,t⟩,h',⟨n,f⟩,⟨m,g⟩=>by
  subst q
  cases es with
  | nil=>cases (show v :: r = [] from h')
  | cons e es =>
   obtain ⟨v',r',q',h',t'⟩:=h'
   cases q'
   rw [cK,Bool.and_eq_true] at f g
   rw [Is.inj d e v h h' ⟨n,f.1⟩ ⟨m,g.1⟩,IsL.inj ds es r t t' ⟨n,f.2⟩ ⟨m,g.2⟩]
end
theorem IsL.get {H:Hp}:∀ {ds:List Dv} {vs:List V} {i:Nat} {d:Dv},IsL H ds vs → ds[i]? = some d → ∃ v,vs[i]? = some v ∧ Is H d v
 | [],_,_,_,_,e=>by simp at e
 | d :: ds,_,0,d',⟨v,r,e,h,t⟩,q=>by
  simp at q
  subst q e
  exact ⟨v,rfl,h⟩
 | d :: ds,_,i + 1,d',⟨v,r,e,h,t⟩,q=>by
  subst e
  obtain ⟨u,h1,h2⟩:=IsL.get (i:=i) t (by simpa using q)
  exact ⟨u,by simpa using h1,h2⟩
theorem nK:∀ (ds es:List Dv),ds.length = es.length → (List.range ds.length).all (fun j=>deq (ds.getD j .non) (es.getD j .non)) = uH ds es
 | [],[],_=>rfl
 | d :: ds,e :: es,h=>by
  have ih:=nK ds es (by simpa using h)
  rw [List.length_cons,List.range_succ_eq_map,List.all_cons,List.all_map]
  show (deq d e && (List.range ds.length).all (fun j=>deq (ds.getD j .non) (es.getD j .non))) = (deq d e && uH ds es)
  rw [ih]
 | [],_ :: _,h=>by simp at h
 | _ :: _,[],h=>by simp at h
theorem tJ:∀ (ds es:List Dv),ds.length ≠ es.length → uH ds es = false
 | [],[],h=>absurd rfl h
 | d :: ds,e :: es,h=>by
  show (deq d e && uH ds es) = false
  rw [tJ ds es (fun q=>h (by simp [q]))]
  simp
 | [],_ :: _,_=>rfl
 | _ :: _,[],_=>rfl
theorem lT:∀ {n:Nat} {ds:List Dv} {i:Nat} {d:Dv},cK n ds = true → ds[i]? = some d → aW n d = true
 | n,[],_,_,_,e=>by simp at e
 | n,d :: ds,0,d',f,e=>by
  simp at e
  subst e
  rw [cK,Bool.and_eq_true] at f
  exact f.1
 | n,d :: ds,i + 1,d',f,e=>by
  rw [cK,Bool.and_eq_true] at f
  exact lT (i:=i) f.2 (by simpa using e)
theorem IsL.snoc {H:Hp} {d:Dv} {v:V} (h:Is H d v):∀ {ds:List Dv} {vs:List V},IsL H ds vs → IsL H (ds ++ [d]) (vs ++ [v])
 | [],_,e=>by
  rw [show _ = [] from e]
  exact ⟨v,[],rfl,h,rfl⟩
 | d' :: ds,_,⟨v',r,e,h',t⟩=>by
  subst e
  exact ⟨v',r ++ [v],rfl,h',IsL.snoc h t⟩
theorem IsL.strs (H:Hp):∀ zs:List Str,IsL H (zs.map Dv.str) (zs.map V.str)
 | []=>rfl
 | z :: zs=>⟨.str z,zs.map V.str,rfl,rfl,IsL.strs H zs⟩
theorem sY:∀ {ds:List Dv},(∀ d ∈ ds,zZ d = true) → sZ ds = true
 | [],_=>rfl
 | d :: ds,h=>by
  rw [sZ,h d List.mem_cons_self,sY fun e m=>h e (List.mem_cons_of_mem _ m)]
  rfl
theorem yX.lst {H:Hp} {l:Addr} {xs:List V} {o:HO} (h:H l = some (.lst xs)):yX H (upd H l o):=fun a ys e=>by
 have:a ≠ l:=aEV e h (by intro z;cases z)
 rw [aR this]
 exact e
theorem aJ.over {H H':Hp} {l:Addr} {o:HO} (S:aJ H H') (hl:H l = none):aJ H (L2.upd H' l o):=fun b u e=>by
 rw [aR (aU e hl)]
 exact S b u e
theorem tE {n:Nat}:∀ {ds:List Dv},(∀ d ∈ ds,aW n d = true) → cK n ds = true
 | [],_=>by rw [cK]
 | d :: ds,h=>by
  rw [cK,h d List.mem_cons_self,tE fun e m=>h e (List.mem_cons_of_mem _ m)]
  rfl
inductive View (s:Shared) (H:Hp):Dv → Value → Prop where
 | non:View s H .non .none
 | bl (b:Bool):View s H (.bl b) (.bool b)
 | int (i:Int) (t:Tok):View s H (.int i) (.int i t)
 | str (x:Str) (t:Tok):View s H (.str x) (.str x t)
 | lst {ds:List Dv} {l:Addr} {its:List Value} {vs:List V} (hl:s.heap.IsList l its.toArray) (r:bB vs its) (h:IsL H ds vs):View s H (.lst ds) (.ref l)
 | tup {ds:List Dv} {l:Addr} {its:List Value} {vs:List V} (hl:s.heap.IsTuple l its.toArray) (r:bB vs its) (h:IsL H ds vs):View s H (.tup ds) (.ref l)
section
variable {X:Cx} {pins:List (Addr × Obj)} {σ:St} {H:Hp} {s:Shared}
theorem Is.view (I:Inv X pins σ H s) {n:Nat} {d:Dv} {v:V} {u:Value} (f:aW n d = true) (h:Is H d v) (r:bO v u):View s H d u:=by
 cases d with
 | non=>cases (show v = .non from h);cases r;exact .non
 | bl b=>cases (show v = .bl b from h);cases r;exact .bl b
 | int b=>cases (show v = .int b from h);obtain ⟨t,rfl⟩:=r;exact .int b t
 | str b=>cases (show v = .str b from h);obtain ⟨t,rfl⟩:=r;exact .str b t
 | lst ds =>
  obtain ⟨a,vs,rfl,o,h⟩:=h
  cases r
  obtain ⟨its,rv,pl,hz⟩:=I.list (SqL.of o)
  exact .lst pl.isList rv h
 | tup ds =>
  obtain ⟨a,vs,rfl,o,h⟩:=h
  cases r
  obtain ⟨its,rv,pl,hz⟩:=I.tuple (SqT.of o)
  exact .tup pl rv h
 | dct ks ds=>simp [aW] at f
open PySem.SeqAt in
theorem kE {n:Nat} {A:Around} (hu:A.units + n < cLine)
  (ih:∀ (d e:Dv) (v v':V) (u u':Value) (A:Around),A.units + n < cLine → aW n d = true → aW n e = true → Is H d v → Is H e v' → bO v u → bO v' u' → EqAt A s u u' (deq d e))
  {ds es:List Dv} {vs vs':List V} {its its':List Value} (f:cK n ds = true) (g:cK n es = true) (h:IsL H ds vs) (h':IsL H es vs') (r:bB vs its) (r':bB vs' its')
  (j:Nat) (h1:j < its.toArray.size) (h2:j < its'.toArray.size):EqAt A s its.toArray[j] its'.toArray[j] (deq (ds.getD j .non) (es.getD j .non)):=by
 have l1:=r.length
 have l2:=r'.length
 have l3:=h.length
 have l4:=h'.length
 rw [List.size_toArray] at h1 h2
 have e1:ds[j]? = some (ds.getD j .non):=by
  rw [List.getD_eq_getElem?_getD,List.getElem?_eq_getElem (by omega)];rfl
 have e2:es[j]? = some (es.getD j .non):=by
  rw [List.getD_eq_getElem?_getD,List.getElem?_eq_getElem (by omega)];rfl
 obtain ⟨v,q1,i1⟩:=h.get e1
 obtain ⟨v',q2,i2⟩:=h'.get e2
 obtain ⟨u,p1,k1⟩:=r.get q1
 obtain ⟨u',p2,k2⟩:=r'.get q2
 have z1:its.toArray[j] = u:=by
  have:=List.getElem?_eq_some_iff.mp p1
  obtain ⟨_,e⟩:=this
  simpa using e
 have z2:its'.toArray[j] = u':=by
  have:=List.getElem?_eq_some_iff.mp p2
  obtain ⟨_,e⟩:=this
  simpa using e
 rw [z1,z2]
 exact ih _ _ v v' u u' A hu (lT f e1) (lT g e2) i1 i2 k1 k2
open PySem.SeqAt in
theorem aIF (I:Inv X pins σ H s) {n:Nat}
  (ih:∀ (d e:Dv) (v v':V) (u u':Value) (A:Around),A.units + n < cLine → aW n d = true → aW n e = true → Is H d v → Is H e v' → bO v u → bO v' u' → EqAt A s u u' (deq d e))
  (d e:Dv) (v v':V) (u u':Value) (A:Around) (hu:A.units + (n + 1) < cLine) (f:aW (n + 1) d = true) (g:aW (n + 1) e = true) (h:Is H d v) (h':Is H e v') (r:bO v u) (r':bO v' u') :
  RcAt A s u u' (deq d e) ∧ RcNeAt A s u u' (!deq d e):=by
 have hu0:A.units < cLine:=by omega
 have hu1:A.in1.units + n < cLine:=by show A.units + 1 + n < cLine;omega
 have w:=Is.view I f h r
 have w':=Is.view I g h' r'
 cases w with
 | non =>
  cases w' with
  | non=>exact ⟨RcAt.none_none,RcNeAt.none_none⟩
  | bl b=>exact ⟨RcAt.none_bool _,RcNeAt.none_bool _⟩
  | int b t=>exact ⟨RcAt.none_int _ _,RcNeAt.none_int _ _⟩
  | str b t=>exact ⟨RcAt.none_str _ _,RcNeAt.none_str _ _⟩
  | lst hl _ _=>exact ⟨RcAt.none_list hl hu0,RcNeAt.none_list hl hu0⟩
  | tup hl _ _=>exact ⟨RcAt.none_tuple hl hu0,RcNeAt.none_tuple hl hu0⟩
 | bl a =>
  cases w' with
  | non=>exact ⟨RcAt.bool_none _,RcNeAt.bool_none _⟩
  | bl b=>exact ⟨RcAt.bool_bool _ _,RcNeAt.bool_bool _ _⟩
  | int b t=>exact ⟨RcAt.bool_int _ _ _,RcNeAt.bool_int _ _ _⟩
  | str b t=>exact ⟨RcAt.bool_str _ _ _,RcNeAt.bool_str _ _ _⟩
  | lst hl _ _=>exact ⟨RcAt.bool_list _ hl hu0,RcNeAt.bool_list _ hl hu0⟩
  | tup hl _ _=>exact ⟨RcAt.bool_tuple _ hl hu0,RcNeAt.bool_tuple _ hl hu0⟩
 | int a t =>
  cases w' with
  | non=>exact ⟨RcAt.int_none _ _,RcNeAt.int_none _ _⟩
  | bl b=>exact ⟨RcAt.int_bool _ _ _,RcNeAt.int_bool _ _ _⟩
  | int b t=>exact ⟨RcAt.int_int _ _ _ _,RcNeAt.int_int _ _ _ _⟩
  | str b t=>exact ⟨RcAt.int_str _ _ _ _,RcNeAt.int_str _ _ _ _⟩
  | lst hl _ _=>exact ⟨RcAt.int_list _ _ hl hu0,RcNeAt.int_list _ _ hl hu0⟩
  | tup hl _ _=>exact ⟨RcAt.int_tuple _ _ hl hu0,RcNeAt.int_tuple _ _ hl hu0⟩
 | str a t =>
  cases w' with
  | non=>exact ⟨RcAt.str_none _ _,RcNeAt.str_none _ _⟩
  | bl b=>exact ⟨RcAt.str_bool _ _ _,RcNeAt.str_bool _ _ _⟩
  | int b t=>exact ⟨RcAt.str_int _ _ _ _,RcNeAt.str_int _ _ _ _⟩
  | str b t=>exact ⟨RcAt.str_str _ _ _ _,RcNeAt.str_str _ _ _ _⟩
  | lst hl _ _=>exact ⟨RcAt.str_list _ _ hl hu0,RcNeAt.str_list _ _ hl hu0⟩
  | tup hl _ _=>exact ⟨RcAt.str_tuple _ _ hl hu0,RcNeAt.str_tuple _ _ hl hu0⟩
 | @lst ds l its vs hl rv hi =>
  cases w' with
  | non=>exact ⟨RcAt.list_none hl hu0,RcNeAt.list_none hl hu0⟩
  | bl b=>exact ⟨RcAt.list_bool _ hl hu0,RcNeAt.list_bool _ hl hu0⟩
  | int b t=>exact ⟨RcAt.list_int _ _ hl hu0,RcNeAt.list_int _ _ hl hu0⟩
  | str b t=>exact ⟨RcAt.list_str _ _ hl hu0,RcNeAt.list_str _ _ hl hu0⟩
  | @lst es l' its' vs' hl' rv' hi' =>
   have f':cK n ds = true:=by simpa [aW] using f
   have g':cK n es = true:=by simpa [aW] using g
   have l1:=rv.length
   have l2:=rv'.length
   have l3:=hi.length
   have l4:=hi'.length
   by_cases hq:ds.length = es.length
   ·have hsz:its.toArray.size = its'.toArray.size:=by rw [List.size_toArray,List.size_toArray];omega
    have key:(List.range its.toArray.size).all (fun j=>deq (ds.getD j .non) (es.getD j .non)) = deq (.lst ds) (.lst es):=by
     rw [List.size_toArray,show its.length = ds.length by omega]
     exact nK ds es hq
    rw [← key]
    exact ⟨RcAt.lists hl hl' hsz hu0 (kE hu1 ih f' g' hi hi' rv rv'),RcNeAt.lists hl hl' hsz hu0 (kE hu1 ih f' g' hi hi' rv rv')⟩
   ·have key:deq (.lst ds) (.lst es) = false:=tJ ds es hq
    have hsz:(its.toArray.size != its'.toArray.size) = true:=by
     rw [List.size_toArray,List.size_toArray,bne_iff_ne];omega
    rw [key]
    exact ⟨RcAt.lists_lengths hl hl' hsz hu0,RcNeAt.lists_lengths hl hl' hsz hu0⟩
  | tup hl' _ _=>exact ⟨RcAt.list_tuple hl hl' hu0,RcNeAt.list_tuple hl hl' hu0⟩
 | @tup ds l its vs hl rv hi =>
  cases w' with
  | non=>exact ⟨RcAt.tuple_none hl hu0,RcNeAt.tuple_none hl hu0⟩
  | bl b=>exact ⟨RcAt.tuple_bool _ hl hu0,RcNeAt.tuple_bool _ hl hu0⟩
  | int b t=>exact ⟨RcAt.tuple_int _ _ hl hu0,RcNeAt.tuple_int _ _ hl hu0⟩
  | str b t=>exact ⟨RcAt.tuple_str _ _ hl hu0,RcNeAt.tuple_str _ _ hl hu0⟩
  | lst hl' _ _=>exact ⟨RcAt.tuple_list hl hl' hu0,RcNeAt.tuple_list hl hl' hu0⟩
  | @tup es l' its' vs' hl' rv' hi' =>
   have f':cK n ds = true:=by simpa [aW] using f
   have g':cK n es = true:=by simpa [aW] using g
   have l1:=rv.length
   have l2:=rv'.length
   have l3:=hi.length
   have l4:=hi'.length
   have key:((List.range (min its.toArray.size its'.toArray.size)).all (fun j=>deq (ds.getD j .non) (es.getD j .non)) && its.toArray.size == its'.toArray.size) = deq (.tup ds) (.tup es):=by
    rw [List.size_toArray,List.size_toArray,show its.length = ds.length by omega,show its'.length = es.length by omega]
    show _ = uH ds es
    by_cases hq:ds.length = es.length
    ·rw [← hq,Nat.min_self,nK ds es hq]
     simp
    ·rw [tJ ds es hq,beq_eq_false_iff_ne.mpr hq]
     simp
   rw [← key]
   exact ⟨RcAt.tuples hl hl' hu0 (kE hu1 ih f' g' hi hi' rv rv'),RcNeAt.tuples hl hl' hu0 (kE hu1 ih f' g' hi hi' rv rv')⟩
open PySem.SeqAt in
theorem Is.eqAt (I:Inv X pins σ H s):∀ (n:Nat) (d e:Dv) (v v':V) (u u':Value) (A:Around),A.units + n < cLine → aW n d = true → aW n e = true → Is H d v → Is H e v' → bO v u → bO v' u' → EqAt A s u u' (deq d e):=by
 intro n
 induction n with
 | zero =>
  intro d e v v' u u' A hu f g h h' r r'
  cases d with
  | lst _=>simp [aW] at f
  | tup _=>simp [aW] at f
  | dct _ _=>simp [aW] at f
  | non =>
   cases e with
   | lst _=>simp [aW] at g
   | tup _=>simp [aW] at g
   | dct _ _=>simp [aW] at g
   | _=>cases h;cases h';exact kG r r' rfl rfl
  | bl b =>
   cases e with
   | lst _=>simp [aW] at g
   | tup _=>simp [aW] at g
   | dct _ _=>simp [aW] at g
   | _=>cases h;cases h';exact kG r r' rfl rfl
  | int b =>
   cases e with
   | lst _=>simp [aW] at g
   | tup _=>simp [aW] at g
   | dct _ _=>simp [aW] at g
   | _=>cases h;cases h';exact kG r r' rfl rfl
  | str b =>
   cases e with
   | lst _=>simp [aW] at g
   | tup _=>simp [aW] at g
   | dct _ _=>simp [aW] at g
   | _=>cases h;cases h';exact kG r r' rfl rfl
 | succ n ih =>
  intro d e v v' u u' A hu f g h h' r r'
  have rc:=(aIF I ih d e v v' u u' A hu f g h h' r r').1
  have w:=Is.view I f h r
  have w':=Is.view I g h' r'
  have fin:∀ (l l':Addr),u = .ref l → u' = .ref l' → EqAt A s u u' (deq d e):=by
   rintro l l' rfl rfl
   by_cases hq:l = l'
   ·subst hq
    have e1:v = .ref l:=r.inj (show bO (.ref l) (.ref l) from rfl)
    have e2:v' = .ref l:=r'.inj (show bO (.ref l) (.ref l) from rfl)
    subst e1 e2
    have e3:=Is.inj d e _ h h' ⟨_,f⟩ ⟨_,g⟩
    subst e3
    rw [yQ _ d f]
    exact EqAt.same _
   ·exact EqAt.of_refs hq rc
  cases w with
  | lst hl _ _ =>
   cases w' with
   | lst hl' _ _=>exact fin _ _ rfl rfl
   | tup hl' _ _=>exact fin _ _ rfl rfl
   | non=>exact EqAt.list_none hl (by omega)
   | bl b=>exact EqAt.list_bool _ hl (by omega)
   | int b t=>exact EqAt.list_int _ _ hl (by omega)
   | str b t=>exact EqAt.list_str _ _ hl (by omega)
  | tup hl _ _ =>
   cases w' with
   | lst hl' _ _=>exact fin _ _ rfl rfl
   | tup hl' _ _=>exact fin _ _ rfl rfl
   | non=>exact EqAt.tuple_none hl (by omega)
   | bl b=>exact EqAt.tuple_bool _ hl (by omega)
   | int b t=>exact EqAt.tuple_int _ _ hl (by omega)
   | str b t=>exact EqAt.tuple_str _ _ hl (by omega)
  | non =>
   cases w' with
   | lst hl' _ _=>exact EqAt.none_list hl' (by omega)
   | tup hl' _ _=>exact EqAt.none_tuple hl' (by omega)
   | _=>cases h;cases h';exact kG r r' rfl rfl
  | bl b =>
   cases w' with
   | lst hl' _ _=>exact EqAt.bool_list _ hl' (by omega)
   | tup hl' _ _=>exact EqAt.bool_tuple _ hl' (by omega)
   | _=>cases h;cases h';exact kG r r' rfl rfl
  | int b t =>
   cases w' with
   | lst hl' _ _=>exact EqAt.int_list _ _ hl' (by omega)
   | tup hl' _ _=>exact EqAt.int_tuple _ _ hl' (by omega)
   | _=>cases h;cases h';exact kG r r' rfl rfl
  | str b t =>
   cases w' with
   | lst hl' _ _=>exact EqAt.str_list _ _ hl' (by omega)
   | tup hl' _ _=>exact EqAt.str_tuple _ _ hl' (by omega)
   | _=>cases h;cases h';exact kG r r' rfl rfl
end
def aLV (neg:Bool):R2:=fun x y H Q=>∃ d e,Is H d x ∧ Is H e y ∧ aW 30 d = true ∧ aW 30 e = true ∧ Q (.bl (if neg then !deq d e else deq d e)) H
theorem aJE {X:Cx} (hu:X.A.units + 64 < cLine):OpR X (compareOp .Eq) (aLV false):=by
 intro pins s σ H x y v u Q I rx ry h
 obtain ⟨d,e,h,h',f,g,q⟩:=h
 exact (aIF (n:=29) I (Is.eqAt I 29) d e x y v u X.A (by omega) f g h h' rx ry).1 _ _ _ _ ⟨.bl _,H,I,rfl,q⟩
end L2
namespace L2
open PySem PySem.Spec PyProof.Rows
instance keyMem (k:Key) (l:List Key):Decidable (k ∈ l):=decidable_of_iff (l.any (fun x=>decide (x = k)) = true) (by simp)
def dY (key:Nat → Key):Nat → List Key
 | 0=>[]
 | i + 1=>if key i ∈ dY key i then dY key i else dY key i ++ [key i]
theorem qU (key:Nat → Key):∀ i,(dY key i).length ≤ i
 | 0=>Nat.le_refl _
 | i + 1=>by
  have ih:=qU key i
  show (if key i ∈ dY key i then dY key i else dY key i ++ [key i]).length ≤ i + 1
  split
  ·omega
  ·rw [List.length_append,List.length_singleton];omega
theorem yF (key:Nat → Key) (k:Key):∀ i,k ∈ dY key i ↔ ∃ j,j < i ∧ key j = k
 | 0=>by
  constructor
  ·intro h;cases h
  ·rintro ⟨j,h,_⟩;omega
 | i + 1=>by
  have ih:=yF key k i
  show k ∈ (if key i ∈ dY key i then dY key i else dY key i ++ [key i]) ↔ _
  have step:(k ∈ dY key i ∨ k = key i) ↔ ∃ j,j < i + 1 ∧ key j = k:=by
   rw [ih]
   constructor
   ·rintro (⟨j,h,e⟩ | e)
    ·exact ⟨j,by omega,e⟩
    ·exact ⟨i,by omega,e.symm⟩
   ·rintro ⟨j,h,e⟩
    by_cases hj:j = i
    ·subst hj;exact .inr e.symm
    ·exact .inl ⟨j,by omega,e⟩
  rw [← step]
  split
  ·rename_i h
   constructor
   ·exact .inl
   ·rintro (h' | rfl)
    ·exact h'
    ·exact h
  ·rw [List.mem_append,List.mem_singleton]
theorem vC (key:Nat → Key):∀ n,(dY key n).length = n ↔ ∀ i j,i < j → j < n → key i ≠ key j
 | 0=>⟨fun _ i j _ h=>absurd h (Nat.not_lt_zero _),fun _=>rfl⟩
 | n + 1=>by
  have ih:=vC key n
  have le:=qU key n
  have mm:=yF key (key n) n
  show (if key n ∈ dY key n then dY key n else dY key n ++ [key n]).length = n + 1 ↔ _
  split
  ·rename_i h
   constructor
   ·intro e;omega
   ·intro e
    obtain ⟨j,hj,q⟩:=mm.mp h
    exact absurd q (e j n hj (Nat.lt_succ_self n))
  ·rename_i h
   rw [List.length_append,List.length_singleton,Nat.add_right_cancel_iff,ih]
   constructor
   ·intro e i j hi hj
    by_cases q:j = n
    ·subst q
     exact fun z=>h (mm.mpr ⟨i,hi,z⟩)
    ·exact e i j hi (by omega)
   ·intro e i j hi hj
    exact e i j hi (by omega)
def uI (ks:List Key):List Key:=dY (fun i=>ks.getD i (.inl 0)) ks.length
theorem aDE (ks:List Key):(uI ks).length = ks.length ↔ ks.Nodup:=by
 unfold uI
 rw [vC,List.nodup_iff_pairwise_ne,List.pairwise_iff_getElem]
 constructor
 ·intro h i j hi hj hij
  have:=h i j hij hj
  simpa [List.getD_eq_getElem?_getD,hi,hj] using this
 ·intro h i j hij hj
  have hi:i < ks.length:=by omega
  have:=h i j hi hj hij
  simpa [List.getD_eq_getElem?_getD,hi,hj] using this
theorem aHS (ks:List Key):(uI ks).length ≤ ks.length:=qU _ _
def aDM (P:Program) (w:World) (a:Addr) (S:Key → Bool) (n:Nat):HO:=.ext fun h=>h.SetOf (bL P w) a S n
theorem aDM.ok {P:Program} {w:World} {H:Hp} {h:Heap} {a:Addr} {S:Key → Bool} {n:Nat} (x:h.SetOf (bL P w) a S n):cN P w H h a (aDM P w a S n) :=
 ⟨x,let ⟨o,_,_,_,ho,_⟩:=x;⟨o,ho⟩,fun _ _ ⟨o,es,ep,t,ho,r⟩ k=>⟨o,es,ep,t,k o ho,r⟩⟩
theorem aEZ {P:Program} {w:World} {k:Key} {v:Value} (h:(bL P w).is k v = true):v.scannable = true:=by
 rcases cS h with ⟨i,t,rfl,rfl⟩ | ⟨x,t,rfl,rfl⟩ <;> rfl
section
variable {P:Program} {w:World} {A:Around} {R:Result → Shared → Prop} {I:Addr} {fp wr:List Addr} {G:Array GenState → Array GenState → Prop} {n:Nat} {Pv:Nat → Value → Prop} {Stt:Nat → Shared → Prop}
theorem zI {h:Heap} {a:Addr} {S S':Key → Bool} {n n':Nat} (x:h.SetOf (bL P w) a S n) (e:∀ k,S k = S' k) (q:n = n'):h.SetOf (bL P w) a S' n':=by
 obtain rfl:S = S':=funext e
 subst q
 exact x
theorem aEE (W:WalksS P w A.in1 I fp wr G n Pv Stt) (D:Addr) (hD:D ∉ fp) (key:Nat → Key) (hv:∀ i v,Pv i v → (bL P w).is (key i) v = true) (hb:n + 1 < scanBound) (fin:∀ s s',Moved (D :: wr) G s s' → s'.heap.SetOf (bL P w) D (fun k=>decide (k ∈ dY key n)) (dY key n).length → True) :
  ∀ (m i:Nat) (s:Shared),n - i = m → i ≤ n → Stt i s → s.heap.SetOf (bL P w) D (fun k=>decide (k ∈ dY key i)) (dY key i).length →
   (∀ s',Moved (D :: wr) G s s' → s'.heap.SetOf (bL P w) D (fun k=>decide (k ∈ dY key n)) (dY key n).length → R (.ok (.ret .none)) s') →
   codeAny (model P w) A (.builtin "set.update.loop" ⟨[.ref D,.ref I],[]⟩) R s:=by
 have hDw:D ∉ wr:=fun z=>hD (W.sub _ z)
 have sub:∀ b ∈ wr,b ∈ D :: wr:=fun b z=>List.mem_cons_of_mem _ z
 have moved:∀ {s s':Shared} {S:Key → Bool} {c:Nat},Moved wr G s s' → s.heap.SetOf (bL P w) D S c → s'.heap.SetOf (bL P w) D S c:=fun mv ⟨o,es,ep,t,ho,r⟩=>⟨o,es,ep,t,mv.heap D _ hDw ho,r⟩
 intro m
 induction m with
 | zero =>
  intro i s e1 e2 st hS hR
  obtain rfl:i = n:=by omega
  refine codeAny_builtin PyProof.Rows.F.entry_set_update_loop ?_
  rw [Around.under_plainId PyProof.Rows.F.plain_set_update_loop _]
  show wpAny _ A.in1 (pyNext (.ref I) >>= _) _ _ s
  refine wpAny_bind (W.done s _ _ st fun s' mv=>?_)
  exact wpAny_pure (hR s' (mv.mono sub) (moved mv hS))
 | succ m ih =>
  intro i s e1 e2 st hS hR
  have lt:i < n:=by omega
  refine codeAny_builtin PyProof.Rows.F.entry_set_update_loop ?_
  rw [Around.under_plainId PyProof.Rows.F.plain_set_update_loop _]
  show wpAny _ A.in1 (pyNext (.ref I) >>= _) _ _ s
  refine wpAny_bind (W.item i s _ _ lt st fun v s' pv st' mv=>?_)
  have hk:=hv i v pv
  have hS1:=moved mv hS
  show wpAny _ A.in1 (holding [v] (setAdd D v) >>= _) _ _ s'
  refine wpAny_bind (wpAny_holding ?_)
  unfold setAdd
  refine wpAny_holding (wpAny_bind ((bL P w).pyHash (k:=key i) hk ?_))
  have room:(dY key i).length + 1 < scanBound:=by have:=qU key i;omega
  refine wpAny_setAddHashed_of (knd:=bL P w) (s:={ s' with toks:=s'.toks + 1 }) hk (aEZ hk) hS1 room fun h' sb hS2=>?_
  have hS3:h'.SetOf (bL P w) D (fun k=>decide (k ∈ dY key (i + 1))) (dY key (i + 1)).length:=by
   refine zI hS2 (fun k=>?_) ?_
   ·show (decide (k ∈ dY key i) || decide (k = key i)) = decide (k ∈ if key i ∈ dY key i then dY key i else dY key i ++ [key i])
    by_cases z:key i ∈ dY key i
    ·rw [if_pos z]
     by_cases y:k = key i
     ·subst y;simp [z]
     ·simp [y]
    ·rw [if_neg z]
     simp
   ·show (if decide (key i ∈ dY key i) = true then (dY key i).length else (dY key i).length + 1) = (if key i ∈ dY key i then dY key i else dY key i ++ [key i]).length
    by_cases z:key i ∈ dY key i
    ·rw [if_pos z,if_pos (decide_eq_true z)]
    ·rw [if_neg z,if_neg (by simpa using z)]
     simp
  refine wpAny_pure ⟨plainId_quiet PyProof.Rows.F.plain_set_update_loop _,ih (i + 1) _ (by omega) lt (W.frame _ s' _ _ st' (Nat.le_succ _) fun b hb o e=>?_) hS3 fun s2 mv2 hS4=>?_⟩
  ·rw [sb.2 b (fun z:b = D=>hD (by rw [← z];exact hb))]
   exact e
  ·refine hR s2 (Moved.trans W.gtrans ((mv.mono sub).then_heap (Nat.le_succ _) fun b o hb e=>?_) mv2) hS4
   rw [sb.2 b (fun z:b = D=>hb (by rw [z];exact List.mem_cons_self))]
   exact e
end
section
variable {P:Program} {w:World} {A:Around} {E:Value → Shared → Prop} {s:Shared}
abbrev sR (led:Bool):Obj:={ cls:=.type "set",dict:=none,data:=.set #[] 0 (.fresh 0 0 led) }
set_option maxHeartbeats 8000000 in
theorem xU {l:Addr} {its:List Value} {ks:List Key} {Q:Value → Shared → Prop} (hh:A.handled = none) (hl:s.heap.IsList l its.toArray) (hk:∀ i v,its[i]? = some v → (bL P w).is (ks.getD i (.inl 0)) v = true) (hn:its.length = ks.length) (hb:its.length + 1 < scanBound)
  (h:∀ (h':Heap) (tk:Nat),h'.SetOf (bL P w) s.heap.objs.size (fun k=>decide (k ∈ uI ks)) (uI ks).length → (∀ b o,s.heap.get? b = some o → h'.get? b = some o) → Q (.ref s.heap.objs.size) { s with heap:=h',toks:=tk }) :
  wpAny (model P w) A (call (.type "set") [.ref l]) Q E s:=by
 obtain ⟨c,tl,hmro⟩:=PySem.F.called_set.mro
 have m1:=PySem.F.called_set.made
 have m2:=PySem.F.called_set.sub
 refine wpAny_call (codeAny_of_tree ?_)
 show wpAny _ _ (callAny (.type "set") _) _ _ _
 refine wpAny_pure ⟨Code.quiet_builtin _ (by decide +kernel),codeAny_builtin PySem.F.entry_type_call ?_⟩
 rw [Around.under_plain (weight_type_call_type "set" [.ref l] []) rfl]
 have m3:=PySem.F.called_set.notType
 have m4:=PySem.F.called_set.canCreate
 have m5:=PySem.F.typeCall_set_1 (.ref l)
 repeat (any_goals (first | assumption | wp_step))
 refine codeAny_mono (code_set_new_1 (.ref l) (E:=E) (Q₁:=fun ob s1=>∃ led:Bool,ob = .ref s.heap.objs.size ∧ s1 = { s with heap:=s.heap.push (sR led) }) fun led=>⟨led,rfl,rfl⟩) fun r s1 hr=>?_
 cases r with
 | error e=>exact hr
 | ok fl =>
  cases fl with
  | ret ob =>
   obtain ⟨led,rfl,rfl⟩:=hr
   have hS:(s.heap.push (sR led)).get? s.heap.objs.size = some (sR led):=Heap.get?_push_size _ rfl
   have hT:Shared.TypeIs { s with heap:=s.heap.push (sR led) } (.ref s.heap.objs.size) "set":=⟨_,hS,rfl⟩
   have m6:=PySem.F.called_set.init.lookup
   have m7:=PySem.F.called_set.init.bind (.ref s.heap.objs.size)
   repeat (any_goals (first | assumption | wp_step))
   refine codeAny_mono (codeAny_call_builtin (R:=wants (fun r s2=>r = .none ∧ ∃ h' tk,s2 = { s with heap:=h',toks:=tk } ∧ h'.SetOf (bL P w) s.heap.objs.size (fun k=>decide (k ∈ uI ks)) (uI ks).length ∧ (∀ b o,s.heap.get? b = some o → h'.get? b = some o)) E)
    PySem.F.called_set.init.plain PySem.F.entry_set_init (check_set_init_1 hT ?_)) fun r2 s2 hr2=>?_
   ·obtain ⟨⟨oc,od,oda,osl⟩,hol,hcl,nl,hdl⟩:=hl
    simp only at hcl hdl
    subst hcl hdl
    have hol1:(s.heap.push (sR led)).get? l = some { cls:=.type "list",dict:=od,data:=.seq its.toArray nl,slots:=osl }:=Heap.get?_push_of_some _ hol
    have m8:=PySem.F.sub_list_set
    have m9:=PySem.F.sub_list_frozenset
    have m10:(Value.type "list" == Value.type "dict") = false:=by decide
    have hl1:(s.heap.push (sR led)).IsList l its.toArray:=⟨_,hol1,rfl,nl,rfl⟩
    have lS:l < s.heap.objs.size:=Heap.lt_size hol
    unfold Builtin.«set.__init__» noKeywords Builtin.Frozenset.updateFrom
    generalize hPI:pyIter = PI
    wp_walk
    subst hPI
    refine wpAny_pyIter_list hl1 (wpAny_bind (wpAny_runValue ?_))
    have hh3:A.in1.in1.in1.handled = none:=by simp [hh]
    have nI:l ≠ (s.heap.push (sR led)).objs.size:=by rw [Heap.size_push];exact Nat.ne_of_lt (Nat.lt_succ_of_lt lS)
    have nS:s.heap.objs.size ∉ [(s.heap.push (sR led)).objs.size,l]:=by
     rw [Heap.size_push]
     simp only [List.mem_cons,List.mem_singleton,List.not_mem_nil,or_false,not_or]
     exact ⟨Nat.ne_of_lt (Nat.lt_succ_self _),Nat.ne_of_gt lS⟩
    have sz:its.toArray.size = ks.length:=by rw [List.size_toArray,hn]
    refine aEE ((Walks.list hh3 _ l nI its.toArray).toS) s.heap.objs.size nS (fun i=>ks.getD i (.inl 0)) (fun i v pv=>hk i v (by simpa using pv)) (by rw [List.size_toArray];exact hb) (fun _ _ _ _=>trivial) (its.toArray.size - 0) 0 _ (by omega) (Nat.zero_le _)
     ⟨⟨_,Heap.get?_push_size _ rfl,rfl,rfl⟩,(hl1.push _)⟩ ?_ ?_
    ·have g:((s.heap.push (sR led)).push { cls:=.type "list_iterator",data:=.fields #[.ref l,.int 0 0] }).get? s.heap.objs.size = some (sR led):=Heap.get?_push_of_some _ hS
     exact ⟨_,#[],0,_,g,⟨rfl,rfl,rfl⟩,rfl,fun e he=>by simp at he,fun k=>by simp [dY],by decide,by rfl,rfl⟩
    ·intro s3 mv hS3
     obtain ⟨h3,g3,d3,t3,o3⟩:=s3
     have e1:g3 = s.gens:=mv.gens
     have e2:d3 = s.drawn:=mv.drawn
     have e3:o3 = s.os:=mv.os
     subst e1 e2 e3
     rw [sz] at hS3
     show wpAny _ _ _ _ _ _
     refine wpAny_pure ?_
     show wpAny _ _ (ret Value.none) _ _ _
     refine wpAny_pure ⟨rfl,h3,t3,rfl,hS3,fun b o e=>?_⟩
     have lb:=Heap.lt_size e
     have b1:b ≠ s.heap.objs.size:=Nat.ne_of_lt lb
     have b2:b ≠ (s.heap.push (sR led)).objs.size:=by rw [Heap.size_push];exact Nat.ne_of_lt (Nat.lt_succ_of_lt lb)
     exact mv.heap b o (by simp only [List.mem_cons,List.mem_singleton,List.not_mem_nil,or_false,not_or];exact ⟨b1,b2⟩) (Heap.get?_push_of_some _ (Heap.get?_push_of_some _ e))
   ·cases r2 with
    | error e=>exact hr2
    | ok f2 =>
     cases f2 with
     | ret r =>
      obtain ⟨rfl,h',tk,rfl,hS2,hk2⟩:=hr2
      repeat (any_goals (first | assumption | wp_step))
      exact h _ _ hS2 hk2
     | _=>exact hr2.elim
  | _=>exact hr.elim
end
section
variable {X:Cx}
theorem aBH {P:Program} {w:World}:∀ {ks:List Key} {us:List Value},bB (ks.map kV) us → ∀ i v,us[i]? = some v → (bL P w).is (ks.getD i (.inl 0)) v = true
 | [],us,r,i,v,e=>by
  rw [List.map_nil] at r
  cases r
  simp at e
 | k :: ks,us,r,i,v,e=>by
  rw [List.map_cons] at r
  cases r with
  | cons r1 r2 =>
   cases i with
   | zero =>
    simp at e
    subst e
    cases k with
    | inl z=>obtain ⟨t,rfl⟩:=r1;exact vH z t
    | inr z=>obtain ⟨t,rfl⟩:=r1;exact vG z t
   | succ i =>
    have:=aBH (P:=P) (w:=w) r2 i v (by simpa using e)
    simpa using this
theorem uJ (hc:X.calm = true):eU X (.type "set") (fun xs H Q=>∃ (p:Addr) (ks:List Key),xs = [.ref p] ∧ SqL X.K H p (ks.map kV) ∧ ks.length ≤ 1000 ∧
  ∀ l,H l = none → Q (.ref l) (upd H l (aDM X.prog X.w l (fun k=>decide (k ∈ uI ks)) (uI ks).length))):=by
 intro pins s σ H xs us Q I r h
 obtain ⟨p,ks,rfl,hq,hn,q⟩:=h
 obtain ⟨u,rfl,ru⟩:=bB.one r
 cases ru
 obtain ⟨its,rv,pl,hz⟩:=I.list hq
 have hlen:=rv.length
 rw [List.length_map] at hlen
 refine xU (ks:=ks) (I.ok.hd hc) pl.isList (aBH rv) hlen.symm (by unfold scanBound;omega) fun h' tk hS hk=>?_
 exact ⟨.ref s.heap.objs.size,_,I.laid (t':=tk) hk (Nat.le_refl _) (aDM.ok hS),rfl,q _ (I.hok.fresh (Nat.le_refl _))⟩
theorem call_len_set:eU X (.builtin "len") (fun xs H Q=>∃ l S n,xs = [.ref l] ∧ H l = some (aDM X.prog X.w l S n) ∧ n ≤ 1000 ∧ Q (.int n) H):=by
 intro pins s σ H xs us Q I r h
 obtain ⟨l,S,n,rfl,e,hn,q⟩:=h
 obtain ⟨u,rfl,ru⟩:=bB.one r
 cases ru
 obtain ⟨⟨o,es,ep,t,ho,hex,hd,hel,hmem,hb,hf,hes⟩,_⟩:=I.hok l _ e
 refine PySem.call_len_set ho hex hd hf (by rw [hes];omega) ⟨.int n,H,I.tok _,⟨s.toks + 1,by rw [hes]⟩,q⟩
end
end L2
namespace L2
open PySem PySem.Spec PyProof.Rows
section
variable {X:Cx}
theorem vV:∀ {xs:List V} {us:List Value},us.length = xs.length → (∀ (j:Nat) (u:Value) (x:V),us[j]? = some u → xs[j]? = some x → bO x u) → bB xs us
 | [],[],_,_=>.nil
 | x :: xs,u :: us,hl,h=>.cons (h 0 u x rfl rfl) (vV (by simpa using hl) fun j v y e1 e2=>h (j + 1) v y (by simpa using e1) (by simpa using e2))
 | [],_ :: _,hl,_=>by simp at hl
 | _ :: _,[],hl,_=>by simp at hl
theorem KV.get:∀ {kvs:List (Key × V)} {vs:List (Key × Value)} {i:Nat} {p:Key × Value},KV kvs vs → vs[i]? = some p → ∃ q,kvs[i]? = some q ∧ q.1 = p.1 ∧ bO q.2 p.2
 | _,_,_,_,.nil,e=>by simp at e
 | _,_,0,_,.cons r _,e=>by simp at e;subst e;exact ⟨_,rfl,r.1,r.2⟩
 | _,_,i + 1,p,.cons _ t,e=>by
  obtain ⟨q,h1,h2⟩:=KV.get (i:=i) (p:=p) t (by simpa using e)
  exact ⟨q,by simpa using h1,h2⟩
def yV (v d:Addr):HO:=.ext fun h=>h.IsValuesView v d
theorem yV.ok {P:Program} {w:World} {H:Hp} {h:Heap} {v d:Addr} (x:h.IsValuesView v d):cN P w H h v (yV v d) :=
 ⟨x,let ⟨o,ho,_⟩:=x;⟨o,ho⟩,fun _ _ ⟨o,ho,r⟩ k=>⟨o,k o ho,r⟩⟩
theorem vB:MtR X "dict.values" (fun x vs H Q=>∃ d kvs,x = .ref d ∧ vs = [] ∧ Rd H d (.dK kvs) ∧ ∀ v,H v = none → Q (.ref v) (upd H v (yV v d))):=by
 intro pins s σ H x vs v us Q I rx rv h
 obtain ⟨d,kvs,rfl,rfl,hq,q⟩:=h
 cases rx
 have hus:=rv.zero
 subst hus
 obtain ⟨hz,lo,ws,kv,hD⟩:=hq.ok I.hok
 refine call_meetsIn PySem.F.slot_dict_values hD.typeIs PySem.F.entry_dict_values (PySem.F.args_dict_values_1 _) (meets_dict_values (bL X.prog X.w) d lo) ⟨⟨ws,hD⟩,?_⟩
 exact ⟨.ref s.heap.objs.size,_,I.laid (t':=s.toks) (fun b ob e=>Heap.get?_push_of_some _ e) (Nat.le_refl _) (yV.ok ⟨_,Heap.get?_push_size _ rfl,rfl,rfl⟩),rfl,q _ (I.hok.fresh (Nat.le_refl _))⟩
theorem jU (hc:X.calm = true):eU X (.type "list") (fun xs H Q=>∃ v d kvs,xs = [.ref v] ∧ H v = some (yV v d) ∧ Rd H d (.dK kvs) ∧ ∀ l,H l = none → Q (.ref l) (upd H l (.lst (kvs.map (·.2))))):=by
 intro pins s σ H xs us Q I r h
 obtain ⟨v,d,kvs,rfl,ev,hq,q⟩:=h
 obtain ⟨u,rfl,ru⟩:=bB.one r
 cases ru
 obtain ⟨hz,lo,vs,kv,hD⟩:=hq.ok I.hok
 obtain ⟨hv,_⟩:=I.hok v _ ev
 obtain ⟨ep,hat⟩:=hD.dictAt
 have hl:=KV.length kv
 refine PySem.W.kdl_call (PySem.W.kdl_values (knd:=bL X.prog X.w) (kvs:=vs) (ep:=ep)) (I.ok.hd hc) ⟨hv,hat⟩ (by omega) fun h' tk acc c hk hg hi=>?_
 refine ⟨.ref s.heap.objs.size,_,I.laid (t':=tk) hk (Nat.le_refl _) (show cN X.prog X.w _ h' _ (.lst (kvs.map (·.2))) from ⟨by rw [List.length_map];exact hz,acc.toList,c,?_,by simpa using hg⟩),rfl,q _ (I.hok.fresh (Nat.le_refl _))⟩
 refine vV (by rw [List.length_map,Array.length_toList,hi.1,hl]) fun j u x e1 e2=>?_
 obtain ⟨k,e3⟩:=hi.2 j u (by rw [← Array.getElem?_toList];exact e1)
 obtain ⟨z,e5,_,e6⟩:=KV.get kv e3
 rw [List.getElem?_map,e5] at e2
 have e2':z.2 = x:=by simpa using e2
 subst e2'
 exact e6
end
section
variable {X:Cx} {e se:Expr} {te ts:TE} {p2 pos:Pos}
end
end L2
namespace L2
open PySem PySem.Spec PyProof.Rows
theorem sT:typeLookup (.type "list") "keys" = pure none:=by rw [typeLookup_type,builtinLookup_eq_fast];kernel_rfl
section
variable {P:Program} {w:World} {A:Around} {E:Value → Shared → Prop} {s:Shared}
theorem wR {a:Addr} {xs:Array Value} {k:Nat} {sl:Array (Option Value)} {Q:Option Value → Shared → Prop} (hA:A.handled = none) (hx:s.heap.get? a = some { cls:=.type "list",dict:=none,data:=.seq xs k,slots:=sl })
  (h:∀ h' tk,(∀ b o,s.heap.get? b = some o → h'.get? b = some o) → Q none { s with heap:=h',toks:=tk }):wpAny (model P w) A (getAttr? (.ref a) "keys") Q E s:=by
 obtain ⟨hp,g,d,tk,os⟩:=s
 have hT:∀ tk',(⟨hp,g,d,tk',os⟩:Shared).TypeIs (.ref a) "list":=fun _=>⟨_,hx,rfl⟩
 have f1:=sub_AttributeError
 have f3:=F.slot_list_getattribute.lookup
 have f4:=F.slot_list_getattribute.bind (.ref a)
 have f5:=am_list_getattr_none
 unfold getAttr? getAttrBy? getAttrBy
 repeat (any_goals (first | assumption | exact hT _ | ((with_reducible show wpAny _ _ (call (Value.builtin "list.__getattribute__") _ _) _ _ _);refine call_meets F.slot_list_getattribute (hT _) am_entry_list_getattribute (F.args_list_getattribute_2 _ _) (meets_getattribute_miss_list a xs k sl "keys" _ sT (by decide +kernel)) ⟨hx,hA,fun h' tk' e hx'=>?_⟩) | wp_step))
 obtain ⟨t',u',he⟩:=hx'.there
 show wpAny _ _ (getattributeRaised _ _ _ _ _ _ _) _ _ _
 unfold getattributeRaised
 repeat (any_goals (first | assumption | wp_step))
 exact h _ _ hx'.keeps
end
theorem kQ:entryFor table "dict.update.loop" = some Builtin.«dict.update.loop»:=entryFor_of_tree (by kernel_rfl)
theorem fP:plainId "dict.update.loop" = true:=by decide +kernel
section
variable {P:Program} {w:World} {A:Around} {R:Result → Shared → Prop} {I:Addr} {fp wr:List Addr} {G:Array GenState → Array GenState → Prop} {n:Nat} {Pv:Nat → Value → Prop} {Stt:Nat → Shared → Prop}
theorem aDD (W:WalksS P w A.in1 I fp wr G n Pv Stt) (D:Addr) (hD:D ∉ fp) (res:Value) (kvs:List (Key × Value)) (hn:kvs.length = n) (hz:n ≤ sizeLine) (s₀:Shared)
  (hv:∀ (i:Nat) (v:Value),Pv i v → ∃ (a:Addr) (k:Key) (kv x:Value) (ob:Obj) (c:Nat),v = .ref a ∧ a ∉ D :: wr ∧ s₀.heap.get? a = some ob ∧ ob.cls = .type "tuple" ∧ ob.data = .seq #[kv,x] c ∧ kvs[i]? = some (k,x) ∧ (bL P w).is k kv = true) :
  ∀ (m i:Nat) (s:Shared),n - i = m → i ≤ n → Stt i s → (∀ b o,b ∉ D :: wr → s₀.heap.get? b = some o → s.heap.get? b = some o) → s.heap.DictOf (bL P w) D (merged [] (kvs.take i)) →
   (∀ s',Moved (D :: wr) G s s' → s'.heap.DictOf (bL P w) D (merged [] kvs) → R (.ok (.ret res)) s') →
   codeAny (model P w) A (.builtin "dict.update.loop" ⟨[.ref D,.ref I,rawInt i,res],[]⟩) R s:=by
 have hDw:D ∉ wr:=fun z=>hD (W.sub _ z)
 have sub:∀ b ∈ wr,b ∈ D :: wr:=fun b z=>List.mem_cons_of_mem _ z
 have moved:∀ {s s':Shared} {l:List (Key × Value)},Moved wr G s s' → s.heap.DictOf (bL P w) D l → s'.heap.DictOf (bL P w) D l:=fun mv ⟨o,es,ep,ho,r⟩=>⟨o,es,ep,mv.heap D _ hDw ho,r⟩
 intro m
 induction m with
 | zero =>
  intro i s e1 e2 st kp hS hR
  obtain rfl:i = n:=by omega
  rw [List.take_of_length_le (by omega)] at hS
  refine codeAny_builtin kQ ?_
  rw [Around.under_plainId fP _]
  show wpAny _ A.in1 (pyNext (.ref I) >>= _) _ _ s
  refine wpAny_bind (W.done s _ _ st fun s' mv=>?_)
  show wpAny _ A.in1 (Builtin.Dict.addKeywords D [] >>= _) _ _ s'
  refine wpAny_bind (wpAny_pure ?_)
  exact wpAny_pure (hR s' (mv.mono sub) (moved mv hS))
 | succ m ih =>
  intro i s e1 e2 st kp hS hR
  have lt:i < n:=by omega
  refine codeAny_builtin kQ ?_
  rw [Around.under_plainId fP _]
  show wpAny _ A.in1 (pyNext (.ref I) >>= _) _ _ s
  refine wpAny_bind (W.item i s _ _ lt st fun v s' pv st' mv=>?_)
  obtain ⟨a,k,kv,x,ob,c,rfl,ha,hg,hc,hd,hi,hk⟩:=hv i v pv
  have hS1:=moved mv hS
  have hg1:s'.heap.get? a = some ob:=mv.heap a ob (fun z=>ha (sub a z)) (kp a ob ha hg)
  have hT:s'.TypeIs (.ref a) "tuple":=⟨ob,hg1,hc⟩
  refine wpAny_bind (wpAny_holding (wpAny_bind (wpAny_tryCatch ?_)))
  unfold Builtin.Dict.pairItems
  refine wpAny_bind (wpAny_typeOf hT ?_)
  rw [if_pos (by decide)]
  refine wpAny_bind (wpAny_seqItems hg1 hd (wpAny_pure ?_))
  show wpAny _ _ (holding [kv,x] (dictSet D kv x)) _ _ s'
  refine wpAny_holding (wpAny_dictSet_pairs hk hS1 (fun h' hS2 sb=>?_) ?_)
  ·have e:merged [] (kvs.take (i + 1)) = stored (merged [] (kvs.take i)) k x:=merged_take_succ [] kvs i (k,x) hi
   rw [← e] at hS2
   refine wpAny_pure ⟨plainId_quiet fP _,ih (i + 1) _ (by omega) lt (W.frame _ s' _ _ st' (Nat.le_succ _) fun b hb o e=>?_) (fun b o hb e=>?_) hS2 fun s2 mv2 hS4=>?_⟩
   ·rw [sb.2 b (fun z:b = D=>hD (by rw [← z];exact hb))]
    exact e
   ·rw [sb.2 b (fun z:b = D=>hb (by rw [z];exact List.mem_cons_self))]
    exact mv.heap b o (fun z=>hb (sub b z)) (kp b o hb e)
   ·refine hR s2 (Moved.trans W.gtrans ((mv.mono sub).then_heap (Nat.le_succ _) fun b o hb e=>?_) mv2) hS4
    rw [sb.2 b (fun z:b = D=>hb (by rw [z];exact List.mem_cons_self))]
    exact e
  ·have:=merged_length_le ([]:List (Key × Value)) (kvs.take i)
   rw [List.length_take] at this
   simp only [List.length_nil] at this
   omega
end
section
variable {P:Program} {w:World} {A:Around} {E:Value → Shared → Prop} {s:Shared}
theorem uG {l:Addr} {its:List Value} {kvs:List (Key × Value)} {Q:Value → Shared → Prop} (hh:A.handled = none) (hl:PlainL s.heap l its.toArray) (hn:its.length = kvs.length) (hz:its.length ≤ sizeLine)
  (hv:∀ (i:Nat) (v:Value),its[i]? = some v → ∃ (a:Addr) (k:Key) (kv x:Value) (ob:Obj) (c:Nat),v = .ref a ∧ s.heap.get? a = some ob ∧ ob.cls = .type "tuple" ∧ ob.data = .seq #[kv,x] c ∧ kvs[i]? = some (k,x) ∧ (bL P w).is k kv = true)
  (h:∀ (h':Heap) (tk:Nat),h'.DictOf (bL P w) s.heap.objs.size (merged [] kvs) → (∀ b o,s.heap.get? b = some o → h'.get? b = some o) → Q (.ref s.heap.objs.size) { s with heap:=h',toks:=tk }) :
  wpAny (model P w) A (call (.type "dict") [.ref l]) Q E s:=by
 refine callType_codes (Q₁:=fun (obj:Value) (s₁:Shared)=>obj = Value.ref s.heap.objs.size ∧ s₁ = { s with heap:=s.heap.push { cls:=.type "dict",data:=.dict #[] } }) F.kt_called_dict (F.kt_typeCall_dict_1 _) F.entry_dict_init (kt_code_dict_new _ ⟨rfl,rfl⟩) ?_
 rintro obj s₁ ⟨rfl,rfl⟩
 have hnew:(s.heap.push { cls:=.type "dict",data:=.dict #[] }).DictOf (bL P w) s.heap.objs.size []:=Heap.DictOf.new s.heap
 obtain ⟨⟨oc,od,oda,osl⟩,nl,hol,hcl,hod,hdl⟩:=id hl
 simp only at hcl hod hdl
 subst hcl hod hdl
 have lS:l < s.heap.objs.size:=Heap.lt_size hol
 have hol1:=Heap.get?_push_of_some (h:=s.heap) { cls:=.type "dict",data:=.dict #[] } hol
 refine ⟨hnew.typeIs,F.args_dict_init_2 _ _,?_⟩
 unfold Builtin.«dict.__init__»
 refine wpAny_bind ?_
 unfold Builtin.Dict.selfAndRest
 refine wpAny_bind (wpAny_notOrdered_dict hnew.typeIs ?_)
 show wpAny _ _ (pure (s.heap.objs.size,[Value.ref l])) _ _ _
 refine wpAny_pure ?_
 show wpAny _ _ (Builtin.Dict.updateFrom "dict.__init__" s.heap.objs.size (.ref l) [] .none) _ _ _
 unfold Builtin.Dict.updateFrom
 refine wpAny_bind (wpAny_typeOf (T:="list") ⟨_,hol1,rfl⟩ ?_)
 rw [if_pos (by decide)]
 refine wpAny_bind (wR (by simp [hh]) hol1 fun h1 t1 k1=>?_)
 show wpAny _ _ (rule _ >>= _) _ _ _
 refine wpAny_bind (wpAny_rule ?_)
 have hol2:=k1 _ _ hol1
 have hl2:h1.IsList l its.toArray:=⟨_,hol2,rfl,nl,rfl⟩
 refine wpAny_bind (wpAny_pyIter_list (s:={ s with heap:=h1,toks:=t1 }) hl2 ?_)
 have sz1:s.heap.objs.size < h1.objs.size:=by
  obtain ⟨o,es,ep,ho,_⟩:=hnew
  exact Heap.lt_size (k1 _ _ ho)
 have nI:l ≠ h1.objs.size:=Nat.ne_of_lt (Heap.lt_size hol2)
 have nD:s.heap.objs.size ∉ [h1.objs.size,l]:=by
  simp only [List.mem_cons,List.mem_singleton,List.not_mem_nil,or_false,not_or]
  exact ⟨Nat.ne_of_lt sz1,Nat.ne_of_gt lS⟩
 refine wpAny_pure ⟨plainId_quiet fP _,?_⟩
 have hh2:A.in1.in1.handled = none:=by simp [hh]
 refine aDD ((Walks.list hh2 _ l nI its.toArray).toS) s.heap.objs.size nD .none kvs (by rw [List.size_toArray,hn]) (by rw [List.size_toArray];exact hz) { s with heap:=h1.push { cls:=.type "list_iterator",data:=.fields #[.ref l,.int 0 0] },toks:=t1 } (fun i v pv=>?_) (its.toArray.size - 0) 0 _ (by omega) (Nat.zero_le _)
  ⟨⟨_,Heap.get?_push_size _ rfl,rfl,rfl⟩,(hl2.push _)⟩ (fun _ _ _ e=>e) ?_ ?_
 ·obtain ⟨a,k,kv,x,ob,c,rfl,hg,hc,hd,hi,hk⟩:=hv i v (by simpa using pv)
  have la:=Heap.lt_size hg
  refine ⟨a,k,kv,x,ob,c,rfl,?_,Heap.get?_push_of_some _ (k1 _ _ (Heap.get?_push_of_some _ hg)),hc,hd,hi,hk⟩
  simp only [List.mem_cons,List.mem_singleton,List.not_mem_nil,or_false,not_or]
  exact ⟨Nat.ne_of_lt la,Nat.ne_of_lt (Nat.lt_trans la sz1)⟩
 ·obtain ⟨o,es,ep,ho,r⟩:=hnew
  exact ⟨o,es,ep,Heap.get?_push_of_some _ (k1 _ _ ho),r⟩
 ·intro s3 mv hS3
  obtain ⟨h3,g3,d3,t3,o3⟩:=s3
  have e1:g3 = s.gens:=mv.gens
  have e2:d3 = s.drawn:=mv.drawn
  have e3:o3 = s.os:=mv.os
  subst e1 e2 e3
  refine ⟨rfl,h h3 t3 hS3 fun b o e=>?_⟩
  have lb:=Heap.lt_size e
  refine mv.heap b o ?_ (Heap.get?_push_of_some _ (k1 _ _ (Heap.get?_push_of_some _ e)))
  simp only [List.mem_cons,List.mem_singleton,List.not_mem_nil,or_false,not_or]
  exact ⟨Nat.ne_of_lt lb,Nat.ne_of_lt (Nat.lt_trans lb sz1)⟩
end
def dE (H:Hp) (ys:List V) (kvs:List (Key × V)):Prop:=Paired (fun (y:V) (kv:Key × V)=>∃ a,y = .ref a ∧ H a = some (.tup [kV kv.1,kv.2])) ys kvs
theorem dE.nil (H:Hp):dE H [] []:=Paired.nil
theorem dE.len {H:Hp} {ys:List V} {kvs:List (Key × V)} (h:dE H ys kvs):ys.length = kvs.length:=Paired.length h
theorem dE.same {H H':Hp} (S:aJ H H'):∀ {ys:List V} {kvs:List (Key × V)},dE H ys kvs → dE H' ys kvs
 | _,_,Paired.nil=>Paired.nil
 | _,_,Paired.cons ⟨a,e,o⟩ t=>Paired.cons ⟨a,e,S _ _ o⟩ (dE.same S t)
theorem dE.snoc {H:Hp} {ys:List V} {kvs:List (Key × V)} {p:Addr} {k:Key} {v:V} (h:dE H ys kvs) (hp:H p = none):dE (upd H p (.tup [kV k,v])) (ys ++ [.ref p]) (kvs ++ [(k,v)]) :=
 Paired.snoc (h.same (aJ.upd hp)) ⟨p,rfl,aF⟩
section
variable {X:Cx}
theorem aGO {P:Program} {w:World} {k:Key} {u:Value} (r:bO (kV k) u):(bL P w).is k u = true:=by
 cases k with
 | inl z=>obtain ⟨t,rfl⟩:=r;exact vH z t
 | inr z=>obtain ⟨t,rfl⟩:=r;exact vG z t
theorem oE {pins:List (Addr × Obj)} {σ:St} {H:Hp} {s:Shared} (I:Inv X pins σ H s):∀ {ys:List V} {kvs:List (Key × V)} {its:List Value},dE H ys kvs → bB ys its →
  ∃ vk:List (Key × Value),KV kvs vk ∧ its.length = vk.length ∧ ∀ (i:Nat) (v:Value),its[i]? = some v → ∃ (a:Addr) (k:Key) (kv x:Value) (ob:Obj) (c:Nat),v = .ref a ∧ s.heap.get? a = some ob ∧ ob.cls = .type "tuple" ∧ ob.data = .seq #[kv,x] c ∧ vk[i]? = some (k,x) ∧ (bL X.prog X.w).is k kv = true
 | _,_,_,Paired.nil,Paired.nil=>⟨[],Paired.nil,rfl,fun i v e=>by simp at e⟩
 | _,(k,v0) :: kvs,u :: its,Paired.cons ⟨a,e,o⟩ t,Paired.cons r rs=>by
  obtain ⟨vk,h1,h2,h3⟩:=oE I t rs
  subst e
  cases r
  obtain ⟨tis,rt,⟨ob,g,hc,c,hd⟩,_⟩:=I.tuple (SqT.of o)
  obtain ⟨ku,xu,rfl,rk,rx⟩:=bB.two rt
  refine ⟨(k,xu) :: vk,Paired.cons ⟨rfl,rx⟩ h1,by simp [h2],fun i v e=>?_⟩
  cases i with
  | zero =>
   simp at e
   subst e
   exact ⟨a,k,ku,xu,ob,c,rfl,g,hc,hd,rfl,aGO rk⟩
  | succ i =>
   obtain ⟨a',k',kv',x',ob',c',q⟩:=h3 i v (by simpa using e)
   exact ⟨a',k',kv',x',ob',c',by simpa using q⟩
theorem kM (hc:X.calm = true):eU X (.type "dict") (fun xs H Q=>∃ (p:Addr) (ys:List V) (kvs:List (Key × V)),xs = [.ref p] ∧ SqL X.K H p ys ∧ dE H ys kvs ∧ kvs.length ≤ 1000 ∧ (kvs.map (·.1)).Nodup ∧ ∀ l,H l = none → Q (.ref l) (upd H l (.dK kvs))):=by
 intro pins s σ H xs us Q I r h
 obtain ⟨p,ys,kvs,rfl,hq,hp,hn,nd,q⟩:=h
 obtain ⟨u,rfl,ru⟩:=bB.one r
 cases ru
 obtain ⟨its,rv,pl,hz⟩:=I.list hq
 obtain ⟨vk,kv,el,hv⟩:=oE I hp rv
 have big:(1000:Nat) ≤ sizeLine:=by decide
 have l1:=KV.length kv
 have ek:vk.map (·.1) = kvs.map (·.1):=(KV.keys kv).symm
 refine uG (kvs:=vk) (I.ok.hd hc) pl el (by omega) hv fun h' tk hD hk=>?_
 rw [merged_nil_of_nodup vk (by rw [ek];exact nd)] at hD
 refine ⟨.ref s.heap.objs.size,_,I.laid (t':=tk) hk (Nat.le_refl _) (show cN X.prog X.w _ h' _ (.dK kvs) from ⟨by omega,?_,vk,kv,hD⟩),rfl,q _ (I.hok.fresh (Nat.le_refl _))⟩
 have b:=I.big
 exact beq_eq_false_iff_ne.mpr (Nat.ne_of_gt b)
end
end L2
namespace L2
open PySem PySem.Spec PyProof.Rows
structure MethAt (K:PySem.W.Frag) (C:Addr) (m qual:Str) (st:Stmt) (ps:List Str):Prop where
 ex:∃ (f:Addr) (fd:FuncData),Fun K m qual st f fd ∧ gC K fd ps [] ∧ Meth K C m f
structure InitAt (K:PySem.W.Frag) (C:Addr) (qual:Str) (st:Stmt) (ps:List Str):Prop where
 ex:∃ (f:Addr) (fd:FuncData),Fun K "__init__" qual st f fd ∧ gC K fd ps [] ∧ Mk K C f
structure Mc (P:Program) (w:World) (K:PySem.W.Frag) (mg:Str → Option Value) (base:Heap) (k:Nat) (C:Addr) (m:Str) (ps:List Str) (sp:Sp):Prop where
 ex:∃ (f:Addr) (fd:FuncData),FnOk P w K mg base CX0 k f fd ps sp ∧ gC K fd ps [] ∧ Meth K C m f
structure Ic (P:Program) (w:World) (K:PySem.W.Frag) (mg:Str → Option Value) (base:Heap) (k:Nat) (C:Addr) (ps:List Str) (sp:Sp):Prop where
 ex:∃ (f:Addr) (fd:FuncData),FnOk P w K mg base CX0 k f fd ps sp ∧ gC K fd ps [] ∧ Mk K C f
section
variable {P:Program} {w:World} {K:PySem.W.Frag} {mg:Str → Option Value} {base:Heap} {C:Addr} {m qual:Str} {st:Stmt} {N ps:List Str} {k:Nat} {sp:Sp}
theorem InitAt.ic (D:InitAt K C qual st ps) (S:FnScope N ps (aE st)) (len:∀ vs H Q E,sp vs H Q E → vs.length = ps.length)
  (hbody:∀ (f:Addr) (cdv:Value) (A:Around) (outer:List Env) (s:Shared) (H:Hp) (vs:List V) (Q:VK) (E:XK),Room k (A.deeper (envOfC qual (aE st) s.heap.objs.size f cdv)) → sp vs H Q E →
   ∃ t,PSs (hJ CX0 P w K mg base N qual (aE st) f cdv A outer s H E).nox (aK st) t ∧ t { nx:=fun _ H'=>Q .non H',rt:=Q } (iD N vs) H):Ic P w K mg base (k + 1) C ps sp:=by
 obtain ⟨f,fd,F,b,mm⟩:=D.ex
 exact ⟨f,fd,F.ok S len fun cdv A outer s H vs Q E hr h=>hbody f cdv A outer s H vs Q E hr h,b,mm⟩
theorem Mc.imp {sp':Sp} (F:Mc P w K mg base k C m ps sp) (h:∀ vs H Q E,sp' vs H Q E → sp vs H Q E):Mc P w K mg base k C m ps sp':=by
 obtain ⟨f,fd,G,b,mm⟩:=F.ex
 exact ⟨f,fd,G.imp h,b,mm⟩
theorem iA {f:Addr} {oc:Value} {od an:Option Addr} {osl:Array (Option Value)} {kV doc pm cdv ct:Value} (a:PySem.W.findIn K (.ref C) m = some (some (.ref f))) (i:PySem.W.isFn K (.ref f) = true)
  (l:K.lookup f = some ⟨oc,od,.func (PySem.W.fnOf m qual (aL st) (aK st) (aE st) .none kV doc pm an cdv ct),osl⟩) (c:PySem.W.codeIn K cdv qual = true) (kp:PySem.W.keepIn K (.ref f) = true)
  (hb:∀ (kV doc pm:Value) (an:Option Addr) (cdv ct:Value) (us:List Value),us.length = ps.length → bindArgs (PySem.W.fnOf m qual (aL st) (aK st) (aE st) .none kV doc pm an cdv ct) ⟨us,[]⟩ = pure (ps.zip us)):MethAt K C m qual st ps :=
 ⟨f,_,pO l c kp,(pO l c kp).binds hb,⟨a,i,kp⟩⟩
theorem aHM {f:Addr} {oc:Value} {od an:Option Addr} {osl:Array (Option Value)} {kV doc pm cdv ct:Value} (a:PySem.W.findIn K (.ref C) "__init__" = some (some (.ref f))) (i:PySem.W.isFn K (.ref f) = true)
  (l:K.lookup f = some ⟨oc,od,.func (PySem.W.fnOf "__init__" qual (aL st) (aK st) (aE st) .none kV doc pm an cdv ct),osl⟩) (c:PySem.W.codeIn K cdv qual = true) (kp:PySem.W.keepIn K (.ref f) = true)
  (mk:PySem.W.makesIn K C = true) (kc:PySem.W.keepIn K (.ref C) = true)
  (hb:∀ (kV doc pm:Value) (an:Option Addr) (cdv ct:Value) (us:List Value),us.length = ps.length → bindArgs (PySem.W.fnOf "__init__" qual (aL st) (aK st) (aE st) .none kV doc pm an cdv ct) ⟨us,[]⟩ = pure (ps.zip us)):InitAt K C qual st ps :=
 ⟨f,_,pO l c kp,(pO l c kp).binds hb,⟨mk,a,i,kc⟩⟩
end
section
variable {X:Cx} {k:Nat} {ps:List Str} {sp:Sp} {x m:Str} {p pos apos:Pos} {o e:Expr} {es:List Expr} {ta:TE} {t:TA} {C:Addr}
theorem aIG {pl:Sem Bool} (c:Cls X.K C) (F:Mc X.prog X.w X.K X.mg X.base k C m ps sp) (hr:Room k X.A) (ho:PE X o ta)
  (ht:eval (.Call (.Attribute o m apos) [] [] pos) X.env = (do
   let ov ← eval o X.env
   standAt apos.atName
   let (f,first) ← holding [ov] (getMethod ov m pl)
   callWith pos f first (backTo pos (starEach [] X.env)) (backToKw pos (keywordEach [] X.env))):=by rfl) :
  PE X (.Call (.Attribute o m apos) [] [] pos) (aIB C m sp [] E0 ta aIP):=by
 obtain ⟨f,fd,G,b,mm⟩:=F.ex
 exact aEP (pl:=pl) ho c mm G hr b .nil aIH ht
end
section
variable {X:Cx} {K:PySem.W.Frag}
theorem dB (e:X.K = K):IxR X (aKT K):=by subst e;exact aJP
theorem aZ (e:X.K = K):IxR X (aKU K):=by subst e;exact aHK
theorem wD (e:X.K = K):SlR X (aKQ K):=by subst e;exact aIU
theorem cW (e:X.K = K):SlR X (aKR K):=by subst e;exact aGJ
theorem sJ (e:X.K = K):OpR X (compareOp .In) (rIn K false):=by subst e;exact aCI
theorem jA (e:X.K = K):OpR X (compareOp .NotIn) (rIn K true):=by subst e;exact wJ
theorem bA (e:X.K = K):eU X (.builtin "len") (fun xs H Q=>∃ p ys,xs = [.ref p] ∧ (SqL K H p ys ∨ SqT K H p ys) ∧ Q (.int ys.length) H):=by subst e;exact xD
theorem dD (e:X.K = K):eU X (.builtin "isinstance") (fun xs H Q=>∃ x y c t b,xs = [x,y] ∧ aDG y = some c ∧ TyOf K H x t ∧ PySem.W.kitOne K t c = some b ∧ Q (.bl b) H):=by subst e;exact yU
theorem uK (e:X.K = K):eU X (.type "list") (fun xs H Q=>∃ p ys,xs = [.ref p] ∧ (SqL K H p ys ∨ SqT K H p ys) ∧ ∀ l,H l = none → Q (.ref l) (upd H l (.lst ys))):=by subst e;exact xC
end
theorem hX {j:Int} (h:decide (0 < j) = true):0 < j:=of_decide_eq_true h
end L2
namespace L2
open PySem PySem.Spec PyProof.Rows
theorem gG {X:Cx} {i:Nat} {x:Str} {elt iter tg:Expr} {ifs:List Expr} {scope:Scope} {pos pos' cpos:Pos} {wi:TI} {g:TG} {tt:TT} {te:TE} (hXN:X.N.Nodup) (hix:X.N[i]? = some x) (N':List Str) (nt:Nat) (cap:List Nat)
  (hc:X.calm = true) (hi:PI X tg iter wi) (hg:∀ R,PG (blk X scope N' R) tg g) (hgk:yY nt g) (ht:∀ R,aGF (blk X scope N' R) ifs tt) (he:∀ R,PE (blk X scope N' R) elt te)
  (hx:Loc X.env.scope x:=by exact Or.inl rfl) (hfn:X.fn x = true ∨ X.env.scope.names.lookup x = some .local:=by first | exact .inl rfl | exact .inr rfl | assumption)
  (hsw:swapsWith (.ListComp elt [⟨tg,iter,ifs,0⟩] scope cpos) (some (.Name x pos')) pos.line X.env = pure true:=by rfl)
  (hcell:(scope.names.all fun y=>!(y.2 == .cell)) = true:=by rfl) (hkind:scope.kind = .function:=by rfl)
  (hnames:(scope.names.all fun y=>!(y.2 == .local) || (scope.names.lookup y.1 == some .local)) = true:=by rfl)
  (hfr:(scope.names.all fun y=>!(y.2 == .free) || (X.env.kindOf y.1 == some .cell || X.env.kindOf y.1 == some .free)) = true:=by rfl)
  (hN:N'.length = nt + cap.length:=by rfl) (hcapN:(cap.map fun j=>X.N[j]?) = (N'.drop nt).map some:=by rfl) (hcapF:((N'.drop nt).all fun x=>scope.names.lookup x == some .free) = true:=by rfl)
  (hs:∀ x,foldedSetIterable iter X.env x = pure x:=by intro _;rfl) :
  PS X (.Assign [.Name x pos'] (.ListComp elt [⟨tg,iter,ifs,0⟩] scope cpos) pos) (aIR (aIC nt cap wi g tt te) (oP i)):=by
 intro pins s σ H Ds I h
 have hfr':∀ y ∈ scope.names,y.2 = .free → (X.env.kindOf y.1 = some .cell ∨ X.env.kindOf y.1 = some .free):=fun y hy e=>by
  have z:=iX hfr y hy
  rw [e] at z
  have z':(X.env.kindOf y.1 == some .cell || X.env.kindOf y.1 == some .free) = true:=z
  rcases Bool.or_eq_true_iff.mp z' with q | q
  ·exact .inl (beq_iff_eq.mp q)
  ·exact .inr (beq_iff_eq.mp q)
 have hcell':∀ y ∈ scope.names,y.2 ≠ .cell:=fun y hy e=>by
  have z:=iX hcell y hy
  rw [e] at z
  cases z
 obtain ⟨cl,hcl,hclk,hclh⟩:=tO (scope:=scope) (env:=X.env) fun y hy e=>I.ok.has y.1 (hfr' y hy e)
 have hnames':∀ y ∈ scope.names,y.2 = .local → scope.names.lookup y.1 = some .local:=fun y hy e=>by
  have z:=iX hnames y hy
  rw [e] at z
  exact beq_iff_eq.mp z
 have hcapN':∀ (k j:Nat),cap[k]? = some j → N'[nt + k]? = X.N[j]?:=fun k j e=>by
  have z:=congrArg (fun l:List (Option Str)=>l[k]?) hcapN
  simp only [List.getElem?_map,e,Option.map_some,List.getElem?_drop] at z
  cases q:N'[nt + k]? with
  | none=>rw [q] at z;cases z
  | some x=>rw [q] at z;exact (Option.some.inj z).symm
 rw [exec_Assign_Name_used _ _ _ _ hsw]
 refine wpAny_bind (wpAny_standAt (wpAny_bind ?_))
 show wpAny _ X.A (do let _ ← comprehension (.ListComp elt [⟨tg,iter,ifs,0⟩] scope cpos) scope X.env _ (newList []) false (eval iter X.env) (some (assign (.Name x pos') X.env))) _ _ s
 refine wpAny_bind (wpAny_mono (wpAny_comprehension_free (use:=some (assign (.Name x pos') X.env)) (Q:=fun _ s'=>SP X pins Ds .next s') rfl hs hcl hkind hnames'
  (thn (hi pins s σ H _ I h) fun v s1 h1=>thn h1 fun itv s2 h2=>?_)) (fun _ s' hq=>wpAny_pure (wpAny_pure hq)) fun _ _ e=>e)
 obtain ⟨it,fp,tn,J,H2,e,I2,T,st2,f2,hw⟩:=h2
 subst e
 refine tL (RR:=fun acc C=>compPost (model X.prog X.w) X.A X.xe (some (assign (.Name x pos') X.env)) (fun _ s'=>SP X pins Ds .next s') acc C) hc I2 T st2 f2 hclk hclh hcell' hkind hfr' hN hcapN' (fun x hx=>beq_iff_eq.mp (iX hcapF x hx)) hg hgk ht he hw ?_
 intro D C s' H' ys hD q I' B
 obtain ⟨m,hn⟩:=B.ns
 obtain ⟨oC,es,ep,hoC,hdC,hrest⟩:=id hn
 have nofs:C ∉ X.fs:=fun hb=>by
  obtain ⟨_,o,ho,_⟩:=I'.ok.funs.mem hb
  exact absurd (Nat.lt_of_lt_of_le (Heap.lt_size ho) B.ab) (Nat.lt_irrefl _)
 have IC:Inv X ((C,oC) :: pins) σ (upd H' D (.lst ys)) s':=I'.pins_of fun p hp=>by
  rcases List.mem_cons.mp hp with rfl | hp
  ·exact ⟨hoC,B.fr,B.ne,nofs,fun v z=>by rw [hdC] at z;cases z⟩
  ·exact I'.pin p (List.mem_append_right _ hp)
 show wpAny _ X.A (assign (.Name x pos') X.env (.ref D)) _ _ _
 refine thn (bE hXN hix hx hfn ((C,oC) :: pins) s' σ (upd H' D (.lst ys)) (.ref D) (.ref D) Ds.nx IC rfl (q D hD)) fun _ s'' h''=>?_
 obtain ⟨σ2,H3,I3,q3⟩:=h''
 have pC:=I3.pin (C,oC) (List.mem_append_right _ List.mem_cons_self)
 refine ⟨m,hn.at' (fun o e=>?_),fun h4 hs4=>⟨σ2,H3,?_,q3⟩⟩
 ·rw [hoC] at e
  cases e
  exact pC.1
 ·have I4:Inv X pins σ2 H3 s'':=I3.pins_of fun p hp=>I3.pin p (List.mem_append_right _ (List.mem_cons_of_mem _ hp))
  exact I4.turned (it:=C) (t':=s''.toks) (fun b o hb e=>hs4.extBut b o hb e) pC.2.1 B.ne (.inr B.ab) B.cl B.pn
end L2
namespace L2
open PySem PySem.Spec PyProof.Rows
section
variable {X:Cx}
def aGR:V → List V → Hp → VK → Prop:=fun x vs H Q=>∃ l xs i y,x = .ref l ∧ vs = [.int i,y] ∧ H l = some (.lst xs) ∧ 0 ≤ i ∧ i ≤ xs.length ∧ xs.length < sizeLine ∧ Q .non (upd H l (.lst (xs.take i.toNat ++ y :: xs.drop i.toNat)))
theorem aCM:MtM X "list.insert" aGR:=by
 intro pins s σ H x vs v us Q I rx rv h
 obtain ⟨l,xs,i,y,rfl,rfl,hH,h0,h1,hz,q⟩:=h
 cases rx
 obtain ⟨u,u',rfl,ru,ru'⟩:=bB.two rv
 obtain ⟨t,rfl⟩:=ru
 obtain ⟨z,its,n,r,hl,e⟩:=I.lstM hH
 have line:sizeLine < 4611686018427387904:=by decide
 have fits:Builtin.List.listFitsIndex i = true:=by
  unfold Builtin.List.listFitsIndex
  rw [decide_eq_true (show -(2 ^ 63:Int) ≤ i by omega),decide_eq_true (show i < 2 ^ 63 by omega)]
  rfl
 clear line
 have hc0:¬ (!Builtin.List.listFitsIndex i) = true:=by rw [fits];exact Bool.false_ne_true
 have hs1:its.toArray.size ≤ sizeLine:=by rw [List.size_toArray];omega
 have M:=AutoSeq1.list_insert_list_int_val_1 l its.toArray n i t u' hc0 hs1
 refine call_meets F.slot_list_insert ⟨_,e,rfl⟩ F.entry_list_insert (F.args_list_insert_3 _ _ _) M ⟨e,?_⟩
 refine ⟨.non,_,I.lset (its':=its.take i.toNat ++ u' :: its.drop i.toNat) hH e ?_ (bB.append (r.take _) (.cons ru' (r.drop _))) ?_,rfl,q⟩
 ·have hk:(if i < 0 then (i + (its.toArray.size:Int)).toNat else min i.toNat its.toArray.size) = i.toNat:=by
   rw [if_neg (by omega),List.size_toArray]
   omega
  show (its.toArray.extract 0 (if i < 0 then (i + (its.toArray.size:Int)).toNat else min i.toNat its.toArray.size)).push u' ++ its.toArray.extract (if i < 0 then (i + (its.toArray.size:Int)).toNat else min i.toNat its.toArray.size) = _
  rw [hk]
  apply Array.toList_inj.mp
  simp
  exact List.take_of_length_le (by rw [List.length_drop];exact Nat.le_refl _)
 ·rw [List.length_append,List.length_cons,List.length_take,List.length_drop]
  omega
end
structure InstC (K:PySem.W.Frag) (C:Addr):Prop where
 ha:PySem.W.findIn K (.ref C) "__class__" = some (some (.builtin "object.__class__"))
 hn:PySem.W.specialIn K (.builtin "object.__class__") "__get__" = some (some (.builtin "getset_descriptor.__get__"))
 htk:PySem.W.takesIn K (.builtin "object.__class__") = some true
 hm:PySem.W.mroIn K C (.type "object") = some true
theorem MethAt.mcD {P:Program} {w:World} {K:PySem.W.Frag} {mg:Str → Option Value} {base:Heap} {C:Addr} {m qual:Str} {st:Stmt} {N ps:List Str} {k:Nat} {sp:Sp} (D:MethAt K C m qual st ps) (S:FnScope N ps (aE st)) (len:∀ vs H Q E,sp vs H Q E → vs.length = ps.length)
  (hbody:∀ (f:Addr) (cdv:Value) (A:Around) (outer:List Env) (s:Shared) (H:Hp) (vs:List V) (Q:VK) (E:XK),Room k (A.deeper (envOfC qual (aE st) s.heap.objs.size f cdv)) → sp vs H Q E →
   ∃ t,PSs (hJ CX0 P w K mg base N qual (aE st) f cdv A outer s H E).nox (aK st) t ∧ t { nx:=fun _ H'=>cB Q .non H',rt:=cB Q } (iD N vs) H):Mc P w K mg base (k + 1) C m ps sp:=by
 obtain ⟨f,fd,F,b,mm⟩:=D.ex
 refine ⟨f,fd,FnOk.drop len (F.ok S (fun vs H Q E ⟨Q',h,_⟩=>len vs H Q' E h) fun cdv A outer s H vs Q E hr ⟨Q',h,e⟩=>?_),b,mm⟩
 subst e
 exact hbody f cdv A outer s H vs Q' E hr h
theorem fH.under {H:Hp} {p q:Addr} {o u:HO} (hp:H p = none) (d:pQ o = true) (hq:L2.upd H p o q = none):fH (L2.upd (L2.upd H p o) q u) (L2.upd H q u):=fun b=>by
 by_cases hb:b = q
 ·subst hb
  left
  rw [aF,aF]
 ·rw [aR hb,aR hb]
  by_cases hc:b = p
  ·subst hc
   right
   exact ⟨hp,o,aF,d⟩
  ·left
   rw [aR hc]
end L2
namespace L2
open PySem PySem.Spec PyProof.Rows
section
variable {X:Cx}
end
def xF (nt:Nat) (u:TGs):Prop:=∀ vs σ H Q,u vs σ H Q → u vs σ H fun σ2 H2=>Q σ2 H2 ∧ σ2.length = σ.length ∧ ∀ i,nt ≤ i → σ2[i]? = σ[i]?
theorem aAA {nt:Nat}:xF nt aLH:=fun vs σ H Q ⟨e,q⟩=>⟨e,q,rfl,fun _ _=>rfl⟩
theorem lQ {nt i:Nat} {u:TGs} (h:i < nt) (hu:xF nt u):xF nt (aII (oP i) u):=fun vs σ H Q ⟨v,r,e,q⟩=>by
 have q':=hu r (σ.set i (some v)) H Q q
 have ef:(fun (σ2:St) (H2:Hp)=>Q σ2 H2 ∧ σ2.length = (σ.set i (some v)).length ∧ ∀ j,nt ≤ j → σ2[j]? = (σ.set i (some v))[j]?) = (fun (σ2:St) (H2:Hp)=>Q σ2 H2 ∧ σ2.length = σ.length ∧ ∀ j,nt ≤ j → σ2[j]? = σ[j]?):=by
  funext σ2 H2
  rw [List.length_set]
  have:(∀ j,nt ≤ j → σ2[j]? = (σ.set i (some v))[j]?) = (∀ j,nt ≤ j → σ2[j]? = σ[j]?):=by
   refine propext ⟨fun h1 j hj=>?_,fun h1 j hj=>?_⟩
   ·rw [h1 j hj,List.getElem?_set_ne (by omega)]
   ·rw [h1 j hj,List.getElem?_set_ne (by omega)]
  rw [this]
 rw [ef] at q'
 exact ⟨v,r,e,q'⟩
theorem aCU {nt n:Nat} {K:PySem.W.Frag} {u:TGs} (hu:xF nt u):yY nt (aFK K n u):=fun x σ H Q ⟨a,xs,e,hq,hl,q⟩=>⟨a,xs,e,hq,hl,hu xs σ H Q q⟩
theorem aGW {X:Cx} {pos:Pos} {es:List Expr} {k:Nat} {t:TGs} {n:Nat} {K:PySem.W.Frag} (e:X.K = K) (hc:X.calm = true) (h:PGs X es t)
  (hn:(assignEach es X.env).length = n:=by rfl) (hst:(assignEach es X.env).findIdx? (·.1) = none:=by rfl):PG X (.Tuple es k pos) (aFK K n t):=by subst e;exact aEO hc h hn hst
end L2
namespace L2
open PySem PySem.Spec PyProof.Rows
section
variable {X:Cx}
end
end L2
namespace L2
open PySem PySem.Spec PyProof.Rows
theorem aFG {prog:Program} {w:World} {A:Around} {E:Value → Shared → Prop} {s:Shared} {r:Addr} {Q:Bool → Shared → Prop} (hT:s.TypeIs (.ref r) "list_reverseiterator") (h:Q false s) :
  wpAny (model prog w) A (Builtin.List.listLengthHint (.ref r)) Q E s:=by
 unfold Builtin.List.listLengthHint
 refine wpAny_bind (wpAny_specialOf hT (r:=none) (by rfl) ?_)
 dsimp only
 rw [if_neg (by decide),if_neg (by decide)]
 refine wpAny_bind (wpAny_specialOf hT (r:=some (.builtin "list_reverseiterator.__length_hint__")) (by rfl) ?_)
 dsimp only
 rw [show splitId "list_reverseiterator.__length_hint__" = some ("list_reverseiterator","__length_hint__") from by decide +kernel]
 dsimp only
 refine wpAny_bind (wpAny_isInstance hT (b:=true) (by rfl) ?_)
 rw [if_neg (by decide),if_pos (by decide +kernel),if_neg (by decide +kernel)]
 exact wpAny_pure h
theorem aAF {prog:Program} {w:World} {A:Around} {s:Shared} {R:Result → Shared → Prop} {I l:Addr} {items:Array Value} (hh:A.handled = none) (hI:s.heap.IsRevIter I l ((items.size:Int) - 1)) (hl:s.heap.IsList l items) (hne:l ≠ I) (hn:items.size ≤ sizeLine)
  (S:Addr) (hSI:S ≠ I) (hSl:S ≠ l) (res:Value) (c₀:Nat) (hS:s.heap.get? S = some { cls:=.type "list",data:=.seq #[] c₀ })
  (hR:∀ (h':Heap) (tk:Nat) (acc':Array Value) (c':Nat),(∀ (b:Addr) (o:Obj),b ≠ S → b ≠ I → s.heap.get? b = some o → h'.get? b = some o) → h'.get? S = some { cls:=.type "list",data:=.seq acc' c' } → ItemsOf (fun i v=>items[items.size - 1 - i]? = some v) acc' items.size → R (.ok (.ret res)) { s with heap:=h',toks:=tk }) :
  wpAny (model prog w) A.in1 (Builtin.List.listExtendWith (.ref S) (.ref I) res) (fun fin s'=>match fin with | .done f=>R (.ok f) s' | .again c'=>c'.quiet = true ∧ codeAny (model prog w) A c' R s') (fun e s'=>R (.error e) s') s:=by
 have hT:s.TypeIs (.ref I) "list_reverseiterator":=hI.typeIs
 have hSf:¬ S ∈ [I,l]:=by simp [hSI,hSl]
 have W:=Walks.listRev (prog:=prog) (w:=w) (A:=A.in1) hh I l hne items
 have key:∀ (h:Heap) (c₁:Nat) (tk:Nat),(∀ (b:Addr) (o:Obj),b ≠ S → s.heap.get? b = some o → h.get? b = some o) → h.get? S = some { cls:=.type "list",data:=.seq #[] c₁ } →
   codeAny (model prog w) A (.builtin "list.extend.loop" { pos:=[.ref S,.ref I,res] }) R { s with heap:=h,toks:=tk }:=fun h c₁ tk hk hS₁=>by
  refine codeAny_extend_loopS W.toS hn S hSf res items.size 0 { s with heap:=h,toks:=tk } #[] c₁ rfl (Nat.zero_le _) ?_ hS₁ (ItemsOf.nil _) fun s' acc' c' hm hS' hacc=>?_
  ·refine ⟨Nat.zero_le _,?_,?_⟩
   ·have:((items.size:Int) - 1 - ((0:Nat):Int)) = (items.size:Int) - 1:=by omega
    rw [this]
    obtain ⟨o,ho,r⟩:=hI
    exact ⟨o,hk _ _ (Ne.symm hSI) ho,r⟩
   ·obtain ⟨o,ho,r⟩:=hl
    exact ⟨o,hk _ _ (Ne.symm hSl) ho,r⟩
  ·rw [Moved.eq_with hm]
   refine hR s'.heap s'.toks acc' c' (fun b o h1 h2 e=>hm.heap b o (fun hmem=>?_) (hk b o h1 e)) hS' hacc
   rcases List.mem_cons.mp hmem with e' | hmem
   ·exact h1 e'
   ·exact h2 (List.mem_singleton.mp hmem)
 unfold Builtin.List.listExtendWith
 refine wpAny_bind (wpAny_typeOf hT ?_)
 have e0:Builtin.List.listSameRef (.ref S) (.ref I) = false:=by
  show (S == I) = false
  exact beq_eq_false_iff_ne.mpr hSI
 rw [e0,if_neg (by decide +kernel)]
 refine wpAny_bind (wpAny_pyIter_revIter hI ?_)
 refine wpAny_bind (wpAny_holding (aFG hT ?_))
 have e0:s = { s with heap:=s.heap,toks:=s.toks }:=rfl
 refine wpAny_ite_split (fun _=>?_) (fun _=>?_)
 ·refine wpAny_bind (wpAny_rule (wpAny_bind ?_))
  unfold Builtin.List.listTouch
  refine wpAny_bind (wpAny_updateSeq hS rfl ?_)
  have hS₂:=Heap.get?_update_self (Obj.mapSeq fun x=>x.push Value.none) hS rfl
  refine wpAny_updateSeq hS₂ rfl ?_
  have hS₃:=Heap.get?_update_self (Obj.mapSeq fun x=>x.pop) hS₂ rfl
  refine wpAny_pure ⟨plainId_quiet F.plain_extend_loop _,key _ _ _ (fun b o hb e=>?_) hS₃⟩
  rw [Heap.get?_update_other _ _ (Ne.symm hb),Heap.get?_update_other _ _ (Ne.symm hb)]
  exact e
 ·exact wpAny_pure ⟨plainId_quiet F.plain_extend_loop _,key s.heap c₀ s.toks (fun b o _ e=>e) hS⟩
theorem aFD {prog:Program} {w:World} {A:Around} {s:Shared} {R:Result → Shared → Prop} {I l:Addr} {items:Array Value} (hh:A.handled = none) (hI:s.heap.IsRevIter I l ((items.size:Int) - 1)) (hl:s.heap.IsList l items) (hne:l ≠ I) (hn:items.size ≤ sizeLine)
  (S:Addr) (hSI:S ≠ I) (hSl:S ≠ l) (hS:s.heap.get? S = some { cls:=.type "list",data:=.seq #[] })
  (hR:∀ (h':Heap) (tk:Nat) (acc':Array Value) (c':Nat),(∀ (b:Addr) (o:Obj),b ≠ S → b ≠ I → s.heap.get? b = some o → h'.get? b = some o) → h'.get? S = some { cls:=.type "list",data:=.seq acc' c' } → ItemsOf (fun i v=>items[items.size - 1 - i]? = some v) acc' items.size → R (.ok (.ret .none)) { s with heap:=h',toks:=tk }) :
  wpAny (model prog w) A.in1 (Builtin.«list.__init__» { pos:=[.ref S,.ref I] }) (fun fin s'=>match fin with | .done f=>R (.ok f) s' | .again c'=>c'.quiet = true ∧ codeAny (model prog w) A c' R s') (fun e s'=>R (.error e) s') s:=by
 refine wpAny_bind (wpAny_bind (wpAny_seqItems hS rfl (wpAny_pure ?_)))
 refine wpAny_bind (wpAny_updateSeq hS rfl ?_)
 have hS₂:=Heap.get?_update_self (Obj.mapSeq fun x=>#[]) hS rfl
 have oth:∀ (b:Addr) (o:Obj),b ≠ S → s.heap.get? b = some o → (s.heap.update S (Obj.mapSeq fun x=>#[])).get? b = some o:=fun b o hb e=>(Heap.get?_update_other s.heap (Obj.mapSeq fun x=>#[]) (Ne.symm hb)).trans e
 refine wpAny_bind (wpAny_letGo ?_)
 refine aAF hh ?_ ?_ hne hn S hSI hSl .none _ hS₂ fun h' tk acc' c' hk hS' hacc=>hR h' tk acc' c' (fun b o h1 h2 e=>hk b o h1 h2 (oth b o h1 e)) hS' hacc
 ·obtain ⟨o,ho,r⟩:=hI
  exact ⟨o,oth _ _ (Ne.symm hSI) ho,r⟩
 ·obtain ⟨o,ho,r⟩:=hl
  exact ⟨o,oth _ _ (Ne.symm hSl) ho,r⟩
theorem yG {prog:Program} {w:World} {A:Around} {E:Value → Shared → Prop} {s:Shared} {Q:Value → Shared → Prop} {I l:Addr} {items:Array Value} (hh:A.handled = none) (hI:s.heap.IsRevIter I l ((items.size:Int) - 1)) (hl:s.heap.IsList l items) (hne:l ≠ I) (hn:items.size ≤ sizeLine)
  (hQ:∀ (h':Heap) (tk:Nat) (acc':Array Value) (c':Nat),(∀ (b:Addr) (o:Obj),b ≠ I → s.heap.get? b = some o → h'.get? b = some o) → h'.get? s.heap.objs.size = some { cls:=.type "list",data:=.seq acc' c' } → ItemsOf (fun i v=>items[items.size - 1 - i]? = some v) acc' items.size → Q (.ref s.heap.objs.size) { s with heap:=h',toks:=tk }) :
  wpAny (model prog w) A (call (.type "list") [.ref I]) Q E s:=by
 have lI:I < s.heap.objs.size:=by obtain ⟨_,e,_⟩:=hI;exact Heap.lt_size e
 have ll:l < s.heap.objs.size:=by obtain ⟨_,e,_⟩:=hl;exact Heap.lt_size e
 refine callType_codes F.called_list (F.typeCall_list_1 (.ref I)) F.entry_list_init (code_list_new (.ref I) (Q₁:=fun o s₁=>o = .ref s.heap.objs.size ∧ s₁ = { s with heap:=s.heap.push { cls:=.type "list",data:=.seq #[] } }) ⟨rfl,rfl⟩) fun obj s₁ h₁=>?_
 obtain ⟨rfl,rfl⟩:=h₁
 have hS:=Heap.get?_push_size (o:={ cls:=Value.type "list",data:=Data.seq #[] }) s.heap rfl
 refine ⟨⟨_,hS,rfl⟩,F.args_list_init_2 _ _,?_⟩
 refine aFD (A:=A.in1) hh ?_ ?_ hne hn s.heap.objs.size (Ne.symm (Nat.ne_of_lt lI)) (Ne.symm (Nat.ne_of_lt ll)) hS fun h' tk acc' c' hk hS' hacc=>⟨rfl,?_⟩
 ·obtain ⟨o,ho,r⟩:=hI
  exact ⟨o,Heap.get?_push_of_some _ ho,r⟩
 ·obtain ⟨o,ho,r⟩:=hl
  exact ⟨o,Heap.get?_push_of_some _ ho,r⟩
 ·exact hQ h' tk acc' c' (fun b o h1 e=>hk b o (Nat.ne_of_lt (Heap.lt_size e)) h1 (Heap.get?_push_of_some _ e)) hS' hacc
theorem tP:bootBuiltins "reversed" = some (.type "reversed"):=by decide +kernel
section
variable {X:Cx} {e:Expr} {t:TA} {p1 p2:Pos} {pos1 pos2:Pos}
def aKS (K:PySem.W.Frag):List V → Hp → VK → Prop:=fun xs H Q=>∃ p ys,xs = [.ref p] ∧ SqL K H p ys ∧ ∀ l,H l = none → Q (.ref l) (upd H l (.lst ys.reverse))
theorem zM (hc:X.calm = true) (hg1:Gl X "list") (hm1:X.mg "list" = none) (hg2:Gl X "reversed") (hm2:X.mg "reversed" = none) (ha:PA X [e] t)
  (he1:starEach [e] X.env = (false,eval e X.env) :: starEach [] X.env:=by rfl)
  (he2:starEach [.Call (.Name "reversed" p2) [e] [] pos2] X.env = (false,eval (.Call (.Name "reversed" p2) [e] [] pos2) X.env) :: starEach [] X.env:=by rfl) :
  PE X (.Call (.Name "list" p1) [.Call (.Name "reversed" p2) [e] [] pos2] [] pos1) (tCB (aKS X.K) t):=by
 intro pins s σ H Q I h
 refine wpAny_Call_Name_kw (pK I hg1 hm1 iQ ?_ (by decide) (by decide))
 refine PyProof.Rows.callWith_type1 ?_ he2 rfl
 rw [he2]
 show wpAny _ _ (spliced ((false,eval _ X.env) :: backTo pos1 (starEach [] X.env))) _ _ s
 refine Calls.spliced_cons ?_
 refine wpAny_Call_Name_kw (pK I hg2 hm2 tP ?_ (by decide) (by decide))
 refine PyProof.Rows.callWith_type1 (thn (ha pos2 pins s σ H _ I h) fun us s1 ⟨vs,H1,I1,r1,q1⟩=>?_) he1 rfl
 obtain ⟨p,ys,rfl,hq,q⟩:=q1
 obtain ⟨u,rfl,ru⟩:=bB.one r1
 cases ru
 obtain ⟨its,rv,pl,hz⟩:=I1.list hq
 have hl:=pl.isList
 have hlt:p < s1.heap.objs.size:=by obtain ⟨_,e,_⟩:=hl;exact Heap.lt_size e
 refine call_reversed_list hl ?_
 refine Calls.spliced_nil ?_
 refine yG (l:=p) (items:=its.toArray) (I.ok.hd hc) ⟨_,Heap.get?_push_size _ rfl,rfl,rfl⟩ ?_ (Nat.ne_of_lt hlt) (by rw [List.size_toArray,← rv.length];exact hz) fun h' tk acc c hk hg hi=>?_
 ·obtain ⟨o,ho,r⟩:=hl
  exact ⟨o,Heap.get?_push_of_some _ ho,r⟩
 have hk':∀ (b:Addr) (o:Obj),s1.heap.get? b = some o → h'.get? b = some o:=fun b o e=>hk b o (Nat.ne_of_lt (Heap.lt_size e)) (Heap.get?_push_of_some _ e)
 have hge:s1.heap.objs.size ≤ (s1.heap.push (revObj p ((its.toArray.size:Int) - 1))).objs.size:=by
  rw [show (s1.heap.push (revObj p ((its.toArray.size:Int) - 1))).objs.size = s1.heap.objs.size + 1 from Array.size_push ..]
  exact Nat.le_succ _
 refine ⟨.ref _,_,I1.laid (t':=tk) hk' hge (show cN X.prog X.w _ h' _ (.lst ys.reverse) from ⟨by rw [List.length_reverse];exact hz,acc.toList,c,?_,by simpa using hg⟩),rfl,q _ (I1.hok.fresh hge)⟩
 have hlen:=rv.length
 have e0:acc.size = its.length:=by rw [hi.1,List.size_toArray]
 refine vV (by rw [List.length_reverse,Array.length_toList,e0,hlen]) fun j u x e1 e2=>?_
 have e3:=hi.2 j u (by rw [← Array.getElem?_toList];exact e1)
 have hj:j < ys.length:=by
  have:=(List.getElem?_eq_some_iff.mp e2).1
  rw [List.length_reverse] at this
  exact this
 rw [List.getElem?_reverse hj] at e2
 have e4:its[ys.length - 1 - j]? = some u:=by
  have:its.toArray[its.toArray.size - 1 - j]? = some u:=e3
  rw [List.size_toArray] at this
  rw [hlen]
  simpa using this
 obtain ⟨u',e5,r5⟩:=rv.get e2
 rw [e4] at e5
 cases e5
 exact r5
end
end L2
namespace L2
open PySem PySem.Spec PyProof.Rows
theorem rJ:∀ {ys:List Str} {us:List Value},bB (ys.map V.str) us → StrsAre us ys
 | [],us,r=>by
  rw [List.map_nil] at r
  cases r
  exact .nil
 | b :: bs,us,r=>by
  rw [List.map_cons] at r
  cases r with
  | cons r1 r2 =>
   obtain ⟨t,rfl⟩:=r1
   exact .cons b t (rJ r2)
section
variable {X:Cx}
theorem eJ:MtR X "str.join" (fun x vs H Q=>∃ z p ys,x = .str z ∧ vs = [.ref p] ∧ SqL X.K H p (ys.map V.str) ∧ (ys.map fun y=>y.length).sum + ys.length * z.length ≤ 16777216 ∧ Q (.str (Txt.join z ys)) H):=by
 intro pins s σ H x xs v us Q I rx r h
 obtain ⟨z,p,ys,rfl,rfl,hq,hz,q⟩:=h
 obtain ⟨t,rfl⟩:=rx
 obtain ⟨u,rfl,ru⟩:=bB.one r
 cases ru
 obtain ⟨its,rv,pl,hl⟩:=I.list hq
 exact join_list pl.isList (rJ rv) hz fun t' k=>⟨.str _,H,I.tok k,⟨_,rfl⟩,q⟩
end
end L2
namespace L2
open PySem PySem.Spec PyProof.Rows PySem.Builtin.Str
theorem uN:∀ (tk:Nat) (xs:List Str),bB (xs.map V.str) (strsFrom tk xs)
 | _,[]=>.nil
 | tk,x :: r=>.cons ⟨tk,rfl⟩ (uN (tk + 1) r)
section
variable {X:Cx}
theorem lL:MtR X "str.split" (fun x vs H Q=>∃ z y,x = .str z ∧ vs = [.str y] ∧ (y.length == 0) = false ∧ z.length ≤ sizeLine ∧ (Txt.split z y).length ≤ sizeLine ∧ ∀ l,H l = none → Q (.ref l) (upd H l (.lst ((Txt.split z y).map V.str)))):=by
 intro pins s σ H x xs v us Q I rx r h
 obtain ⟨z,y,rfl,rfl,hy,hz,hn,q⟩:=h
 obtain ⟨t,rfl⟩:=rx
 obtain ⟨u,rfl,ru⟩:=bB.one r
 obtain ⟨t',rfl⟩:=ru
 have fin:∀ (ps:List Str) (vs:List Value) (tk:Nat),Txt.split z y = ps → ps.length ≤ sizeLine → bB (ps.map V.str) vs → EP X pins σ Q (.ref s.heap.objs.size) { s with toks:=tk,heap:=s.heap.push { cls:=.type "list",data:=.seq vs.toArray } }:=fun ps vs tk e hl rv=>by
  subst e
  exact ⟨.ref s.heap.objs.size,_,I.laid (t':=tk) (fun b ob e=>Heap.get?_push_of_some _ e) (Nat.le_refl _) (show cN X.prog X.w _ _ _ (.lst ((Txt.split z y).map V.str)) from ⟨by rw [List.length_map];exact hl,vs,0,rv,Heap.get?_push_size _ rfl⟩),rfl,q _ (I.hok.fresh (Nat.le_refl _))⟩
 cases h1:(decide (z.length < y.length) || decide (strKind z < strKind y)) with
 | false =>
  cases hf:(occurrences z y 0 z.length (z.length + 1)).isEmpty with
  | false =>
   have es:Txt.split z y = partsBetween z (occurrences z y 0 z.length (z.length + 1)) y.length:=(if_neg (ne_true_of_eq_false h1)).trans (if_neg (ne_true_of_eq_false hf))
   rw [es] at hn
   refine call_meets F.slot_str_split (typeIs_str s z t) F.entry_str_split (F.args_str_split_2 _ _) (meets_str_split_sep z y t t' h1 hy hf hz hn) ?_
   exact fin _ _ _ es hn (uN _ _)
  | true =>
   refine call_meets F.slot_str_split (typeIs_str s z t) F.entry_str_split (F.args_str_split_2 _ _) (meets_str_split_not_found z y t t' h1 hy hf) ?_
   exact fin [z] [.str z t] s.toks ((if_neg (ne_true_of_eq_false h1)).trans (if_pos hf)) (by show 1 ≤ sizeLine;decide) (.cons ⟨t,rfl⟩ .nil)
 | true =>
  refine call_meets F.slot_str_split (typeIs_str s z t) F.entry_str_split (F.args_str_split_2 _ _) (meets_str_split_cannot_occur z y t t' h1) ?_
  exact fin [z] [.str z t] s.toks (if_pos h1) (by show 1 ≤ sizeLine;decide) (.cons ⟨t,rfl⟩ .nil)
end
end L2
namespace Ld
open PySem L2
def eH (c:Nat):Bool:=decide (97 ≤ c) && decide (c ≤ 122)
def cI (z:Str):Bool:=decide (1 ≤ z.length) && decide (z.length ≤ 8) && !decide (z = "sea") && z.cps.toList.all eH
def isInt:Dv → Bool
 | .int _=>true
 | _=>false
def aFB:Dv → Bool
 | .bl _=>true
 | _=>false
def sX:Dv → Bool
 | .str _=>true
 | _=>false
def aLF:Dv → Bool
 | .lst _=>true
 | _=>false
def aLD:Dv → Bool
 | .tup _=>true
 | _=>false
def aDO (n:Int):Dv → Bool
 | .tup ds=>decide ((ds.length:Int) = n)
 | _=>false
def aLB (n:Int):Dv → Bool
 | .lst ds=>decide (1 ≤ ds.length) && decide ((ds.length:Int) ≤ n)
 | _=>false
def kF:Dv → Bool
 | .str z=>cI z
 | _=>false
def hgt (i:Int):Bool:=decide (-1000000 ≤ i) && decide (i ≤ 1000000)
def amt (i:Int):Bool:=decide (0 ≤ i) && decide (i ≤ 1000000)
def gA:Dv → Bool
 | .int i=>hgt i
 | _=>false
def hG:Dv → Bool
 | .int i=>amt i
 | _=>false
def sK (zs:List Str):Dv → Bool
 | .str z=>decide (z ∈ zs)
 | _=>false
def cR:Dv → Option Str
 | .tup (.str z :: _)=>some z
 | _=>none
def bT:Dv → Bool
 | .tup [a,b,c]=>kF a && (gA b && hG c)
 | _=>false
def cL:Dv → Bool
 | .lst ds=>(decide (1 ≤ ds.length) && decide (ds.length ≤ 12)) && (ds.all bT && decide ((ds.map cR).Nodup))
 | _=>false
def lW (zs:List Str) (a b:Dv):Bool:=sK zs a && (sK zs b && !deq a b)
def lP (c:Dv):Dv → Bool
 | .non=>true
 | .int i=>hgt i && (match c with | .int j=>decide (i < j) | _=>false)
 | _=>false
def cE (zs:List Str):Dv → Bool
 | .tup [n,a,b,c,r,s]=>kF n && lW zs a b && (gA c && (hG r && lP c s))
 | _=>false
def eD (zs:List Str):Dv → Bool
 | .lst ds=>(decide (1 ≤ ds.length) && decide (ds.length ≤ 40)) && (ds.all (cE zs) && decide ((ds.map cR).Nodup))
 | _=>false
mutual
def eI:Dv → Bool
 | .str z=>decide (z.length ≤ 5000)
 | .lst ds=>decide (ds.length ≤ 5000) && gF ds
 | .tup ds=>decide (ds.length ≤ 5000) && gF ds
 | _=>true
def gF:List Dv → Bool
 | []=>true
 | d :: ds=>eI d && gF ds
end
theorem iE:∀ {ds:List Dv} {d:Dv},gF ds = true → d ∈ ds → eI d = true
 | [],_,_,m=>by cases m
 | e :: ds,d,f,m=>by
  rw [gF,Bool.and_eq_true] at f
  rcases List.mem_cons.mp m with rfl | m
  ·exact f.1
  ·exact iE f.2 m
theorem uS {ds:List Dv} (h:eI (.tup ds) = true):gF ds = true:=(Bool.and_eq_true_iff.mp (show (decide (ds.length ≤ 5000) && gF ds) = true from h)).2
theorem pU (K:PySem.W.Frag) {H:Hp} {d:Dv} {x:V} (h:Is H d x):∃ t,TyOf K H x t ∧ PySem.W.kitOne K t (.type "int") = some (isInt d || aFB d) ∧ PySem.W.kitOne K t (.type "bool") = some (aFB d) ∧
  PySem.W.kitOne K t (.type "str") = some (sX d) ∧ PySem.W.kitOne K t (.type "list") = some (aLF d) ∧ PySem.W.kitOne K t (.type "tuple") = some (aLD d):=by
 cases d with
 | non=>cases (show x = .non from h);exact ⟨_,.non,rfl,rfl,rfl,rfl,rfl⟩
 | bl b=>cases (show x = .bl b from h);exact ⟨_,.bl b,rfl,fZ _ _,rfl,rfl,rfl⟩
 | int i=>cases (show x = .int i from h);exact ⟨_,.int i,fZ _ _,rfl,rfl,rfl,rfl⟩
 | str z=>cases (show x = .str z from h);exact ⟨_,.str z,rfl,rfl,fZ _ _,rfl,rfl⟩
 | lst ds=>obtain ⟨a,vs,rfl,e,_⟩:=h;exact ⟨_,.lst e,rfl,rfl,rfl,fZ _ _,rfl⟩
 | tup ds=>obtain ⟨a,vs,rfl,e,_⟩:=h;exact ⟨_,.tup e,rfl,rfl,rfl,rfl,fZ _ _⟩
 | dct ks ds=>obtain ⟨a,vs,rfl,e,_⟩:=h;exact ⟨_,.dK e,rfl,rfl,rfl,rfl,rfl⟩
theorem wS:("abcdefghijklmnopqrstuvwxyz":Str).cps.toList = [97,98,99,100,101,102,103,104,105,106,107,108,109,110,111,112,113,114,115,116,117,118,119,120,121,122]:=by decide +kernel
theorem in_letters (c:Nat):(!(Builtin.Str.occurrences ("abcdefghijklmnopqrstuvwxyz":Str) ⟨#[c]⟩ 0 ("abcdefghijklmnopqrstuvwxyz":Str).length 1).isEmpty) = eH c:=by
 rw [PySem.StrLaws.found_one,wS]
 have h1:∀ d,d ∈ ([97,98,99,100,101,102,103,104,105,106,107,108,109,110,111,112,113,114,115,116,117,118,119,120,121,122]:List Nat) → 97 ≤ d ∧ d ≤ 122:=by decide
 have h2:∀ k,k < 26 → (97 + k) ∈ ([97,98,99,100,101,102,103,104,105,106,107,108,109,110,111,112,113,114,115,116,117,118,119,120,121,122]:List Nat):=by decide
 unfold eH
 by_cases h:97 ≤ c ∧ c ≤ 122
 ·have e:=h2 (c - 97) (by omega)
  rw [show 97 + (c - 97) = c by omega] at e
  rw [decide_eq_true e,decide_eq_true h.1,decide_eq_true h.2]
  rfl
 ·have e:¬ c ∈ ([97,98,99,100,101,102,103,104,105,106,107,108,109,110,111,112,113,114,115,116,117,118,119,120,121,122]:List Nat):=fun m=>h (h1 c m)
  rw [decide_eq_false e]
  by_cases h':97 ≤ c
  ·rw [decide_eq_true h',decide_eq_false (fun z=>h ⟨h',z⟩)]
   rfl
  ·rw [decide_eq_false h']
   rfl
def bH (d:Dv):Str:=(cR d).getD ""
def sV (d:Dv):Key:=.inr (bH d)
theorem aFQ {d:Dv} {z:Str} (h:cR d = some z):bH d = z:=by unfold bH;rw [h];rfl
def oM (d1 d2:Addr):List (Str × V):=hW "dyke_rows" (.ref d2) (hW "field_rows" (.ref d1) [])
theorem aLI:¬ (("field_rows":Str) = "dyke_rows"):=by decide +kernel
theorem aHE (d1 d2:Addr):(oM d1 d2).lookup ("field_rows":Str) = some (.ref d1):=by
 unfold oM
 rw [eQ,if_neg aLI,eQ,if_pos rfl]
theorem aHF (d1 d2:Addr):(oM d1 d2).lookup ("dyke_rows":Str) = some (.ref d2):=by
 unfold oM
 rw [eQ,if_pos rfl]
theorem yI (d1 d2:Addr) {m:Str} (h1:¬ m = "dyke_rows") (h2:¬ m = "field_rows"):(oM d1 d2).lookup m = none:=by
 unfold oM
 rw [eQ,if_neg h1,eQ,if_neg h2]
 all_goals rfl
def yW (H:Hp) (a:Addr) (ds:List Dv):Prop:=∃ kvs,H a = some (.dK kvs) ∧ kvs.map (·.1) = ds.map sV ∧ IsL H ds (kvs.map (·.2))
theorem yW.same {H H':Hp} (S:aJ H H') {a:Addr} {ds:List Dv} (h:yW H a ds):yW H' a ds:=by
 obtain ⟨kvs,e,k,i⟩:=h
 exact ⟨kvs,S _ _ e,k,IsL.same S _ _ i⟩
structure LandAt (C:Addr) (H:Hp) (x:Addr) (fs ds:List Dv):Prop where
 ex:∃ dx d1 d2,H x = some (.ins C dx (oM d1 d2)) ∧ yW H d1 fs ∧ yW H d2 ds
 okf:cL (.lst fs) = true
 okd:eD ("sea" :: fs.map bH) (.lst ds) = true
theorem LandAt.same {C:Addr} {H H':Hp} (S:aJ H H') {x:Addr} {fs ds:List Dv} (h:LandAt C H x fs ds):LandAt C H' x fs ds:=by
 obtain ⟨⟨dx,d1,d2,e,t1,t2⟩,a,b⟩:=h
 exact ⟨⟨dx,d1,d2,S _ _ e,t1.same S,t2.same S⟩,a,b⟩
theorem jS:∀ {ds:List Dv} {p:Dv → Bool},(∀ d,p d = true → ∃ z,cR d = some z) → ds.all p = true → ds.map cR = (ds.map bH).map some
 | [],_,_,_=>rfl
 | d :: ds,p,hp,h=>by
  rw [List.all_cons,Bool.and_eq_true] at h
  obtain ⟨z,e⟩:=hp d h.1
  rw [List.map_cons,List.map_cons,List.map_cons,jS hp h.2,aFQ e,e]
theorem gH (zs:List Str):(zs.map some).Nodup ↔ zs.Nodup:=by
 induction zs with
 | nil=>simp
 | cons z zs ih =>
  rw [List.map_cons,List.nodup_cons,List.nodup_cons,ih]
  simp
theorem bF {d:Dv} (h:bT d = true):∃ z g e,d = .tup [.str z,.int g,.int e] ∧ cI z = true ∧ hgt g = true ∧ amt e = true:=by
 unfold bT at h
 split at h
 ·rename_i a b c
  rw [Bool.and_eq_true,Bool.and_eq_true] at h
  obtain ⟨h1,h2,h3⟩:=h
  cases a with
  | str z =>
   cases b with
   | int g =>
    cases c with
    | int e=>exact ⟨z,g,e,rfl,h1,h2,h3⟩
    | _=>cases h3
   | _=>cases h2
  | _=>cases h1
 ·cases h
theorem qC (d:Dv) (h:bT d = true):∃ z,cR d = some z:=by
 obtain ⟨z,_,_,rfl,_⟩:=bF h
 exact ⟨z,rfl⟩
theorem dH {zs:List Str} {d:Dv} (h:cE zs d = true):∃ n a b c r s,d = .tup [.str n,.str a,.str b,.int c,.int r,s] ∧ cI n = true ∧ a ∈ zs ∧ b ∈ zs ∧ a ≠ b ∧ hgt c = true ∧ amt r = true ∧ lP (.int c) s = true:=by
 unfold cE at h
 split at h
 ·rename_i n a b c r s
  rw [Bool.and_eq_true,Bool.and_eq_true,Bool.and_eq_true,Bool.and_eq_true] at h
  obtain ⟨⟨h1,h2⟩,h3,h4,h5⟩:=h
  unfold lW at h2
  rw [Bool.and_eq_true,Bool.and_eq_true] at h2
  obtain ⟨h6,h7,h8⟩:=h2
  cases n with
  | str n =>
   cases a with
   | str a =>
    cases b with
    | str b =>
     cases c with
     | int c =>
      cases r with
      | int r =>
       refine ⟨n,a,b,c,r,s,rfl,h1,of_decide_eq_true h6,of_decide_eq_true h7,?_,h3,h4,h5⟩
       intro z
       subst z
       have:(!(a == a)) = true:=h8
       rw [beq_self_eq_true] at this
       cases this
      | _=>cases h4
     | _=>cases h3
    | _=>cases h7
   | _=>cases h6
  | _=>cases h1
 ·cases h
theorem tH {zs:List Str} (d:Dv) (h:cE zs d = true):∃ z,cR d = some z:=by
 obtain ⟨z,_,_,_,_,_,rfl,_⟩:=dH h
 exact ⟨z,rfl⟩
structure GoodF (fs:List Dv):Prop where
 l1:1 ≤ fs.length
 l2:fs.length ≤ 12
 all:∀ d ∈ fs,bT d = true
 nd:(fs.map bH).Nodup
structure GoodD (zs:List Str) (ds:List Dv):Prop where
 l1:1 ≤ ds.length
 l2:ds.length ≤ 40
 all:∀ d ∈ ds,cE zs d = true
 nd:(ds.map bH).Nodup
theorem fN (fs:List Dv):cL (.lst fs) = true ↔ GoodF fs:=by
 show ((decide (1 ≤ fs.length) && decide (fs.length ≤ 12)) && (fs.all bT && decide ((fs.map cR).Nodup))) = true ↔ _
 rw [Bool.and_eq_true,Bool.and_eq_true,Bool.and_eq_true,decide_eq_true_iff,decide_eq_true_iff,decide_eq_true_iff]
 constructor
 ·rintro ⟨⟨a,b⟩,c,d⟩
  rw [jS qC c,gH] at d
  exact ⟨a,b,List.all_eq_true.mp c,d⟩
 ·rintro ⟨a,b,c,d⟩
  have c':=List.all_eq_true.mpr c
  refine ⟨⟨a,b⟩,c',?_⟩
  rw [jS qC c',gH]
  exact d
theorem gJ (zs:List Str) (ds:List Dv):eD zs (.lst ds) = true ↔ GoodD zs ds:=by
 show ((decide (1 ≤ ds.length) && decide (ds.length ≤ 40)) && (ds.all (cE zs) && decide ((ds.map cR).Nodup))) = true ↔ _
 rw [Bool.and_eq_true,Bool.and_eq_true,Bool.and_eq_true,decide_eq_true_iff,decide_eq_true_iff,decide_eq_true_iff]
 constructor
 ·rintro ⟨⟨a,b⟩,c,d⟩
  rw [jS tH c,gH] at d
  exact ⟨a,b,List.all_eq_true.mp c,d⟩
 ·rintro ⟨a,b,c,d⟩
  have c':=List.all_eq_true.mpr c
  refine ⟨⟨a,b⟩,c',?_⟩
  rw [jS tH c',gH]
  exact d
def aLE:Dv → Bool
 | .non=>true
 | _=>false
def hasSill:Dv → Bool
 | .tup [_,_,_,_,_,s]=>!aLE s
 | _=>false
theorem oZ:∀ {ds:List Dv},(∀ d ∈ ds,eI d = true) → gF ds = true
 | [],_=>rfl
 | d :: ds,h=>by
  rw [gF,h d List.mem_cons_self,oZ fun e m=>h e (List.mem_cons_of_mem _ m)]
  rfl
end Ld
namespace Mt02
open PySem L2 Ld
def aMD (i:Nat):Nat:=if i < 18 then 97 + i else 98 + i
def rst (c:Int):Nat → Int
 | 0=>c / 3
 | j + 1=>rst c j / 25
def num (o:Nat → Int) (c p b:Int) (k j:Nat):Int:=if (j:Int) = b then c / 17 + ((k:Int) / 25) else if (j:Int) = p then c / 11 + (k:Int) else o j
def aLK (o:Nat → Int) (c p b:Int) (k j:Nat):Nat:=aMD (num o c p b k j % 25).toNat
def nm (o:Nat → Int) (c p b:Int) (n k:Nat):Str:=⟨((List.range n).map (aLK o c p b k)).toArray⟩
theorem str_ext {x y:Str} (h:x.cps.toList = y.cps.toList):x = y:=by
 cases x;cases y
 simp only [Str.mk.injEq]
 exact Array.toList_inj.mp h
structure Names (zs:List Str) (n:Nat):Prop where
 len:zs.length = n
 nd:zs.Nodup
 good:∀ z ∈ zs,cI z = true
end Mt02
namespace Mt11
open PySem L2
def cj (c:Nat):List (List Nat) → List Nat
 | []=>[]
 | [x]=>x
 | x :: y :: r=>x ++ c :: cj c (y :: r)
theorem aBS {c:Nat}:∀ {x y t t':List Nat},c ∉ x → c ∉ y → x ++ c :: t = y ++ c :: t' → x = y ∧ t = t'
 | [],[],_,_,_,_,e=>⟨rfl,(List.cons.inj e).2⟩
 | [],b :: y,_,_,_,h2,e=>absurd (by rw [(List.cons.inj e).1];exact List.mem_cons_self) h2
 | a :: x,[],_,_,h1,_,e=>absurd (by rw [← (List.cons.inj e).1];exact List.mem_cons_self) h1
 | a :: x,b :: y,_,_,h1,h2,e=>by
  obtain ⟨e1,e2⟩:=List.cons.inj e
  obtain ⟨r1,r2⟩:=aBS (fun m=>h1 (List.mem_cons_of_mem _ m)) (fun m=>h2 (List.mem_cons_of_mem _ m)) e2
  exact ⟨by rw [e1,r1],r2⟩
theorem aGC {c:Nat}:∀ {xs ys:List (List Nat)},xs ≠ [] → ys ≠ [] → (∀ x ∈ xs,c ∉ x) → (∀ y ∈ ys,c ∉ y) → cj c xs = cj c ys → xs = ys
 | [],_,h,_,_,_,_=>absurd rfl h
 | _,[],_,h,_,_,_=>absurd rfl h
 | [x],[y],_,_,_,_,e=>by rw [show x = y from e]
 | [x],y :: z :: r,_,_,h1,_,e=>by
  have e':x = y ++ c :: cj c (z :: r):=e
  exact absurd (by rw [e'];exact List.mem_append_right _ List.mem_cons_self) (h1 x List.mem_cons_self)
 | x :: z :: r,[y],_,_,_,h2,e=>by
  have e':x ++ c :: cj c (z :: r) = y:=e
  exact absurd (by rw [← e'];exact List.mem_append_right _ List.mem_cons_self) (h2 y List.mem_cons_self)
 | x :: a :: r,y :: b :: t,_,_,h1,h2,e=>by
  have e':x ++ c :: cj c (a :: r) = y ++ c :: cj c (b :: t):=e
  obtain ⟨e1,e2⟩:=aBS (h1 x List.mem_cons_self) (h2 y List.mem_cons_self) e'
  rw [e1,aGC (xs:=a :: r) (ys:=b :: t) (by simp) (by simp) (fun u m=>h1 u (List.mem_cons_of_mem _ m)) (fun u m=>h2 u (List.mem_cons_of_mem _ m)) e2]
theorem mI (c:Nat):∀ ps:List Str,(Str.join ⟨#[c]⟩ ps).cps.toList = cj c (ps.map fun p=>p.cps.toList)
 | []=>rfl
 | [p]=>rfl
 | p :: q :: r=>by
  show (p ++ (⟨#[c]⟩:Str) ++ Str.join ⟨#[c]⟩ (q :: r)).cps.toList = p.cps.toList ++ c :: cj c ((q :: r).map fun p=>p.cps.toList)
  rw [Tx.app_codes,Tx.app_codes,mI c (q :: r),List.append_assoc]
  rfl
theorem jC {x y:Str}:Txt.split x y ≠ []:=by
 unfold Txt.split
 split
 ·simp
 ·split
  ·simp
  ·rw [StrLaws.partsBetween_eq]
   intro h
   have:∀ (k:Nat) (cs:List Nat),StrLaws.partsFrom x y.length k cs ≠ []:=fun k cs=>by
    cases cs with
    | nil=>simp [StrLaws.partsFrom]
    | cons a b=>simp [StrLaws.partsFrom]
   exact this _ _ h
theorem rM {c:Nat} {ps:List Str} (hne:ps ≠ []) (free:∀ p ∈ ps,c ∉ p.cps.toList):Txt.split (Str.join ⟨#[c]⟩ ps) ⟨#[c]⟩ = ps:=by
 have h1:=StrLaws.join_split (Str.join ⟨#[c]⟩ ps) ⟨#[c]⟩
 have h2:=congrArg (fun z:Str=>z.cps.toList) h1
 simp only [mI] at h2
 have h3:=aGC (by simpa using jC) (by simpa using hne) (fun x m=>by
  obtain ⟨p,mp,rfl⟩:=List.mem_map.mp m
  exact StrLaws.split_free _ c p mp) (fun x m=>by
  obtain ⟨p,mp,rfl⟩:=List.mem_map.mp m
  exact free p mp) h2
 have inj:∀ {as bs:List Str},(as.map fun p=>p.cps.toList) = (bs.map fun p=>p.cps.toList) → as = bs:=fun {as}=>by
  induction as with
  | nil=>intro bs h;cases bs with
   | nil=>rfl
   | cons b t=>cases h
  | cons a r ih =>
   intro bs h
   cases bs with
   | nil=>cases h
   | cons b t =>
    obtain ⟨e1,e2⟩:=List.cons.inj h
    rw [Mt02.str_ext e1,ih e2]
 exact inj h3
end Mt11
namespace Mt13
open PySem L2 PySem.NumText
def dig (c:Nat):Bool:=decide (48 ≤ c) && decide (c ≤ 57)
def neg (z:Str):Bool:=z.cps.toList.head? == some 45
def bW (z:Str):List Nat:=if neg z then z.cps.toList.tail else z.cps.toList
def fO (z:Str):Option Int :=
 if (bW z).length < 1 then none else if 7 < (bW z).length then none
 else if ((bW z).head? == some 48) = true ∧ ¬ z = "0" then none
 else if (bW z).all dig then some (if neg z then -((digitsVal (bW z):Nat):Int) else ((digitsVal (bW z):Nat):Int)) else none
def aJS:V → V
 | .str z=>match fO z with | some n=>.int n | none=>.non
 | _=>.non
theorem dS (a b:Str):decide (V.str a = V.str b) = decide (a = b):=by
 by_cases h:a = b
 ·rw [decide_eq_true h,decide_eq_true (by rw [h])]
 ·rw [decide_eq_false h,decide_eq_false (fun q=>h (V.str.inj q))]
theorem str_ext {a b:Str}:a = b ↔ a.cps.toList = b.cps.toList:=⟨fun h=>by rw [h],fun h=>PyProof.Rows.ext_toList h⟩
theorem aAH:("-":Str).cps.toList = [45]:=by decide +kernel
theorem aAD (z:Str):decide (V.str (Txt.slice z none (some 1)) = V.str "-") = neg z:=by
 rw [dS]
 unfold neg
 have e:(Txt.slice z none (some 1)).cps.toList = z.cps.toList.take 1:=by
  rw [Tx.slice_codes,show (some (1:Int)) = some ((1:Nat):Int) from rfl,Tx.cl_nat]
  show ((z.cps.toList.drop 0).take (min 1 z.length - 0)) = _
  rw [List.drop_zero,Nat.sub_zero]
  have hl:z.length = z.cps.toList.length:=by simp [Str.length]
  rw [hl]
  cases z.cps.toList with
  | nil=>rfl
  | cons a r=>simp
 rw [show decide (Txt.slice z none (some 1) = "-") = decide ((Txt.slice z none (some 1)).cps.toList = [45]) from by rw [← aAH];exact decide_eq_decide.mpr str_ext,e]
 cases z.cps.toList with
 | nil=>rfl
 | cons a r =>
  by_cases h:a = 45
  ·subst h;rfl
  ·rw [decide_eq_false (by simpa using h)]
   symm
   simpa using h
theorem rE (z:Str):(Txt.slice z (some 1) none).cps.toList = z.cps.toList.tail:=by
 rw [Tx.slice_codes,show (some (1:Int)) = some ((1:Nat):Int) from rfl,Tx.cl_nat]
 show (z.cps.toList.drop (min 1 z.length)).take (z.length - min 1 z.length) = _
 have hl:z.length = z.cps.toList.length:=by simp [Str.length]
 rw [hl]
 cases z.cps.toList with
 | nil=>rfl
 | cons a r =>
  have e:min 1 (a :: r).length = 1:=by simp
  rw [e]
  show r.take ((a :: r).length - 1) = r
  simp
theorem rK (x:Str) (c:Nat):(decide (0 + (⟨#[c]⟩:Str).length ≤ x.length) && Builtin.Str.subAt x ⟨#[c]⟩ 0) = (x.cps.toList.head? == some c):=by
 have h:=PySem.StrLaws.subAt_one x c 0
 rw [← List.head?_eq_getElem?] at h
 by_cases hh:x.cps.toList.head? = some c
 ·obtain ⟨h1,h2⟩:=h.mpr hh
  rw [decide_eq_true h1,h2,hh]
  simp
 ·have e:(x.cps.toList.head? == some c) = false:=by simpa using hh
  rw [e]
  cases h3:(decide (0 + (⟨#[c]⟩:Str).length ≤ x.length) && Builtin.Str.subAt x ⟨#[c]⟩ 0) with
  | false=>rfl
  | true =>
   obtain ⟨a,b⟩:=Bool.and_eq_true_iff.mp h3
   exact absurd (h.mp ⟨of_decide_eq_true a,b⟩) hh
theorem aHT:("-":Str) = ⟨#[45]⟩:=by decide +kernel
theorem aGG:("0":Str) = ⟨#[48]⟩:=by decide +kernel
theorem yN:("0123456789":Str).cps.toList = [48,49,50,51,52,53,54,55,56,57]:=by decide +kernel
theorem vK (c:Nat):(!(Builtin.Str.occurrences ("0123456789":Str) ⟨#[c]⟩ 0 ("0123456789":Str).length 1).isEmpty) = dig c:=by
 rw [PySem.StrLaws.found_one,yN]
 have h1:∀ d,d ∈ ([48,49,50,51,52,53,54,55,56,57]:List Nat) → 48 ≤ d ∧ d ≤ 57:=by decide
 have h2:∀ k,k < 10 → (48 + k) ∈ ([48,49,50,51,52,53,54,55,56,57]:List Nat):=by decide
 unfold dig
 by_cases h:48 ≤ c ∧ c ≤ 57
 ·have e:c ∈ ([48,49,50,51,52,53,54,55,56,57]:List Nat):=by
   have:=h2 (c - 48) (by omega)
   rwa [show 48 + (c - 48) = c by omega] at this
  rw [decide_eq_true e,decide_eq_true h.1,decide_eq_true h.2]
  rfl
 ·have e:¬ c ∈ ([48,49,50,51,52,53,54,55,56,57]:List Nat):=fun m=>h (h1 c m)
  rw [decide_eq_false e]
  by_cases h':48 ≤ c
  ·rw [decide_eq_true h',decide_eq_false (fun z=>h ⟨h',z⟩)]
   rfl
  ·rw [decide_eq_false h']
   rfl
theorem wX {c:Nat}:dig c = true ↔ 48 ≤ c ∧ c ≤ 57:=by
 unfold dig
 rw [Bool.and_eq_true_iff,decide_eq_true_iff,decide_eq_true_iff]
theorem tR {cs:List Nat} (h:cs.all dig = true):AllDigits cs:=fun c hc=>wX.mp (List.all_eq_true.mp h c hc)
theorem rA {z:Str} (h1:bW z ≠ []) (h2:z.length ≤ 100) (h3:(bW z).all dig = true):intText? z = some (if neg z then -((digitsVal (bW z):Nat):Int) else ((digitsVal (bW z):Nat):Int)):=by
 by_cases hn:neg z = true
 ·rw [if_pos hn]
  have hf:bW z = z.cps.toList.tail:=by unfold bW;rw [if_pos hn]
  have hz:z.cps.toList = 45 :: bW z:=by
   rw [hf]
   unfold neg at hn
   cases e:z.cps.toList with
   | nil=>rw [e] at hn;cases hn
   | cons a r =>
    rw [e] at hn
    have:a = 45:=by simpa using hn
    rw [this]
    rfl
  exact intText_neg hz (tR h3) h1 (by omega)
 ·rw [if_neg hn]
  have hf:bW z = z.cps.toList:=by unfold bW;rw [if_neg hn]
  have:=intText_digits (x:=z) (by rw [← hf];exact tR h3) (by rw [← hf];exact h1) (by omega)
  rw [this,hf]
theorem xI (cs:List Nat) (c:Nat):digitsVal (cs ++ [c]) = digitsVal cs * 10 + (c - 48):=by
 unfold digitsVal
 rw [List.foldl_append]
 rfl
theorem xT {z sz:Str} (h:sz.cps.toList = bW z):sz.length = (bW z).length:=by
 rw [← h]
 simp [Str.length]
theorem aBO (z:Str):(bW z).length ≤ z.length:=by
 have hl:z.length = z.cps.toList.length:=by simp [Str.length]
 unfold bW
 split
 ·rw [hl,List.length_tail];omega
 ·omega
end Mt13
namespace Mt11
open PySem PySem.NumText L2 Mt13
def dg (n:Nat):List Nat:=(Nat.toDigits 10 n).map Char.toNat
theorem oR {n:Nat} (h:n < 10):dg n = [48 + n]:=by
 unfold dg
 rw [Nat.toDigits_of_lt_base h]
 have:∀ d:Nat,d < 10 → [Nat.digitChar d].map Char.toNat = [48 + d]:=by decide
 exact this n h
theorem yO {n:Nat} (h:10 ≤ n):dg n = dg (n / 10) ++ [48 + n % 10]:=by
 have e:10 * (n / 10) + n % 10 = n:=Nat.div_add_mod n 10
 have:=Nat.toDigits_append_toDigits (b:=10) (n:=n / 10) (d:=n % 10) (by decide) (by omega) (Nat.mod_lt _ (by decide))
 rw [e] at this
 rw [← oR (Nat.mod_lt n (by decide:0 < 10))]
 unfold dg
 rw [← this,List.map_append]
theorem wY (n:Nat):∀ c ∈ dg n,48 ≤ c ∧ c ≤ 57:=by
 induction n using Nat.strongRecOn with
 | ind n ih =>
  intro c mc
  by_cases h:n < 10
  ·rw [oR h,List.mem_singleton] at mc
   omega
  ·rw [yO (by omega)] at mc
   rcases List.mem_append.mp mc with m | m
   ·exact ih (n / 10) (by omega) c m
   ·rw [List.mem_singleton] at m
    have:=Nat.mod_lt n (by decide:0 < 10)
    omega
theorem aFX (n:Nat):digitsVal (dg n) = n:=by
 induction n using Nat.strongRecOn with
 | ind n ih =>
  by_cases h:n < 10
  ·rw [oR h]
   show 0 * 10 + (48 + n - 48) = n
   omega
  ·rw [yO (by omega),xI,ih (n / 10) (by omega)]
   omega
theorem aAG:∀ (k n:Nat),n < 10 ^ (k + 1) → 1 ≤ (dg n).length ∧ (dg n).length ≤ k + 1
 | 0,n,h=>by
  rw [oR (by simpa using h)]
  exact ⟨Nat.le_refl _,Nat.le_refl _⟩
 | k + 1,n,h=>by
  by_cases h10:n < 10
  ·rw [oR h10]
   exact ⟨Nat.le_refl _,by show 1 ≤ _;omega⟩
  ·have:=aAG k (n / 10) (by rw [Nat.pow_succ] at h;exact Nat.div_lt_of_lt_mul (by rw [Nat.mul_comm];exact h))
   rw [yO (by omega),List.length_append]
   exact ⟨by show 1 ≤ _ + 1;omega,by show _ + 1 ≤ _;omega⟩
theorem aHR (n:Nat) (h:0 < n):(dg n).head? ≠ some 48:=by
 induction n using Nat.strongRecOn with
 | ind n ih =>
  by_cases h10:n < 10
  ·rw [oR h10]
   intro e
   have:48 + n = 48:=Option.some.inj e
   omega
  ·have hne:dg (n / 10) ≠ []:=fun e=>by
    have:=aFX (n / 10)
    rw [e] at this
    have:0 = n / 10:=this
    omega
   rw [yO (by omega)]
   have:=ih (n / 10) (by omega) (by omega)
   cases hd:dg (n / 10) with
   | nil=>exact absurd hd hne
   | cons a b=>rw [hd] at this;exact this
theorem jQ (i:Int):(Str.ofString (toString i)).cps.toList = if i < 0 then 45 :: dg i.natAbs else dg i.natAbs:=by
 rw [Str.ofString_eq_toList]
 show (((toString i).toList.map Char.toNat).toArray).toList = _
 rw [List.toList_toArray]
 cases i with
 | ofNat n =>
  rw [if_neg (by simp)]
  show (Nat.repr n).toList.map Char.toNat = dg n
  unfold dg Nat.repr
  rw [String.toList_ofList]
 | negSucc n =>
  rw [if_pos (Int.negSucc_lt_zero n)]
  show ("-" ++ Nat.repr (n + 1)).toList.map Char.toNat = 45 :: dg (n + 1)
  rw [String.toList_append,List.map_append]
  unfold dg Nat.repr
  simp only [String.toList_ofList]
  rfl
theorem aCR (i:Int):∀ c ∈ (Str.ofString (toString i)).cps.toList,c = 45 ∨ (48 ≤ c ∧ c ≤ 57):=by
 intro c mc
 rw [jQ] at mc
 split at mc
 ·rcases List.mem_cons.mp mc with rfl | m
  ·exact .inl rfl
  ·exact .inr (wY _ c m)
 ·exact .inr (wY _ c mc)
theorem neg_int (i:Int):neg (Str.ofString (toString i)) = decide (i < 0):=by
 unfold neg
 rw [jQ]
 by_cases h:i < 0
 ·rw [if_pos h,decide_eq_true h]
  rfl
 ·rw [if_neg h,decide_eq_false h]
  cases hd:dg i.natAbs with
  | nil=>rfl
  | cons a b =>
   have:=wY i.natAbs a (by rw [hd];exact List.mem_cons_self)
   show (some a == some 45) = false
   have ne:a ≠ 45:=by omega
   simp [ne]
theorem aFR (i:Int):bW (Str.ofString (toString i)) = dg i.natAbs:=by
 unfold bW
 rw [neg_int,jQ]
 by_cases h:i < 0
 ·rw [decide_eq_true h,if_pos rfl,if_pos h]
  rfl
 ·rw [decide_eq_false h,if_neg (by simp),if_neg h]
theorem aBQ {i:Int} (h:i.natAbs < 10000000):fO (Str.ofString (toString i)) = some i:=by
 obtain ⟨l1,l2⟩:=aAG 6 i.natAbs h
 have all:(dg i.natAbs).all dig = true:=List.all_eq_true.mpr fun c mc=>by
  have:=wY _ c mc
  exact wX.mpr this
 unfold fO
 rw [aFR,neg_int,if_neg (by omega),if_neg (by omega),if_pos all,aFX]
 have z:¬ (((dg i.natAbs).head? == some 48) = true ∧ ¬ Str.ofString (toString i) = "0"):=fun ⟨a,b⟩=>by
  by_cases h0:i = 0
  ·rw [h0] at b
   exact b rfl
  ·exact aHR i.natAbs (by omega) (by simpa using a)
 rw [if_neg z]
 by_cases hn:i < 0
 ·rw [decide_eq_true hn,if_pos rfl]
  congr 1
  omega
 ·rw [decide_eq_false hn,if_neg (by simp)]
  congr 1
  omega
end Mt11
namespace Mt04
open PySem L2 Ld
def aJT:Dv → Int
 | .tup [_,_,_,.int c,_,_]=>c
 | _=>0
def hOf:Dv → Int
 | .tup [_,.int h]=>h
 | _=>0
def aHU (ds:List Dv) (z:Str):Int:=(ds.find? fun d=>decide (bH d = z)).elim 0 aJT
def aFA (ds:List Dv):Dv → Bool
 | .tup [.str z,.int h]=>decide (z ∈ ds.map bH) && (hgt h && decide (aHU ds z ≤ h))
 | _=>false
def areWorks (ds:List Dv):Dv → Bool
 | .lst ws=>ws.all (aFA ds) && decide ((ws.map cR).Nodup)
 | _=>false
structure GoodW (ds ws:List Dv):Prop where
 all:∀ d ∈ ws,aFA ds d = true
 nd:(ws.map bH).Nodup
def wAt (ws:List Dv) (z:Str):Option Int:=(ws.find? fun d=>decide (bH d = z)).map hOf
def aLY (ws:List Dv):Dv → Dv
 | .tup [.str n,a,b,.int c,r,s]=>.tup [.str n,a,b,.int ((wAt ws n).getD c),r,s]
 | d=>d
def raisedD (ds ws:List Dv):List Dv:=ds.map (aLY ws)
def kvOf (d:Dv):Key × V:=(sV d,.int (hOf d))
end Mt04
namespace L2
open PySem PySem.Spec PyProof.Rows
def CX2 (P:Program) (w:World):CXT:=fun outer H s E e s'=>∃ (ea:Addr) (cls a0:Value) (B:Heap) (H':Hp),e = .ref ea ∧ s'.os = s.os ∧ AllBare s'.gens ∧ Un (frs outer) [] H H' s.heap s'.heap ∧ HOk P w H' s'.heap ∧
 Heap.FlyingW B outer ea cls a0 s'.heap ∧ (∀ b o o',s.heap.get? b = some o → s'.heap.get? b = some o' → b ∉ frs outer → B.get? b = some o') ∧ (∀ b o',H' b ≠ none → s'.heap.get? b = some o' → B.get? b = some o') ∧ E cls none H'
section
variable {X:Cx} {pins:List (Addr × Obj)} {σ:St} {H H':Hp} {s s':Shared} {B h2:Heap} {ea:Addr} {cls a0:Value}
theorem aFM (I:Inv X pins σ H s) (u:Un (frs X.stack) [] H H' s.heap s'.heap) (hB:∀ b o o',s.heap.get? b = some o → s'.heap.get? b = some o' → b ∉ frs X.stack → B.get? b = some o')
  (k:B.StaysIn h2) (us:s'.heap.UpToSlots h2):Un (frs X.stack) [] H H' s.heap h2 where
 keep:=fun b o e n hb hx=>k b o (hB b o o e (u.keep b o e n hb hx) hb)
 slot:=fun b o e n hb hx=>by
  obtain ⟨sl,e1⟩:=u.slot b o e n hb hx
  obtain ⟨_,o1,e2,hd⟩:=I.stack.mem hb
  rw [e] at e2
  cases e2
  obtain ⟨sl',e3⟩:=us b _ e1 hd
  exact ⟨sl',e3⟩
 free:=u.free
 there:=fun b o e hx=>by
  obtain ⟨o',e1⟩:=u.there b o e hx
  by_cases hb:b ∈ frs X.stack
  ·obtain ⟨_,o1,e2,hd⟩:=I.stack.mem hb
   rw [e] at e2
   cases e2
   obtain ⟨sl,e3⟩:=u.slot b o e (I.stkFree b hb) hb hx
   obtain ⟨sl',e4⟩:=us b _ e3 hd
   exact ⟨_,e4⟩
  ·exact ⟨o',k b o' (hB b o o' e e1 hb)⟩
 tups:=u.tups
 frzs:=u.frzs
 tbls:=u.tbls
theorem aBN {P:Program} {w:World} (ok:HOk P w H' s'.heap) (hT:∀ b o',H' b ≠ none → s'.heap.get? b = some o' → B.get? b = some o') (k:B.StaysIn h2):HOk P w H' h2:=fun a o e =>
 (ok a o e).stay (fun b v hb q=>k b v (hT b v (by
  rcases hb with rfl | hb
  ·rw [e];simp
  ·rw [hb];simp) q)) (fun _ q=>q) fun _ _ q=>q
theorem mJ (I:Inv X pins σ H s) (os:s'.os = s.os) (bare:AllBare s'.gens) (u:Un (frs X.stack) [] H H' s.heap s'.heap) (ok:HOk X.prog X.w H' s'.heap) (hB:∀ b o o',s.heap.get? b = some o → s'.heap.get? b = some o' → b ∉ frs X.stack → B.get? b = some o')
  (hT:∀ b o',H' b ≠ none → s'.heap.get? b = some o' → B.get? b = some o') (k:B.StaysIn h2) (us:s'.heap.UpToSlots h2):Inv X pins σ H' { s' with heap:=h2 } :=
 I.call' (s':={ s' with heap:=h2 }) (ch:=[]) os (aFM I u hB k us) (aBN ok hT k) bare fun b z=>absurd z (by simp)
end
theorem cN.has {P:Program} {w:World} {H:Hp} {h:Heap} {a:Addr} {o:HO} (x:cN P w H h a o):∃ u,h.get? a = some u:=by
 cases o with
 | lst xs=>obtain ⟨_,_,_,_,e⟩:=x;exact ⟨_,e⟩
 | tup xs=>obtain ⟨_,_,_,ob,e,_⟩:=x;exact ⟨_,e⟩
 | dK kvs=>obtain ⟨_,_,_,_,o,_,_,e,_⟩:=x;exact ⟨_,e⟩
 | dT kvs=>obtain ⟨_,_,_,_,o,_,_,e,_⟩:=x;exact ⟨_,e⟩
 | set S n=>obtain ⟨o,_,_,_,e,_⟩:=x;exact ⟨_,e⟩
 | ins C dx fs=>obtain ⟨_,_,_,e,_⟩:=x;exact ⟨_,e⟩
 | own y=>obtain ⟨_,e⟩:=x;exact ⟨_,e⟩
 | xd fs=>obtain ⟨_,⟨_,_,_,e,_⟩,_⟩:=x;exact ⟨_,e⟩
 | rng lo hi=>obtain ⟨_,_,_,e⟩:=x;exact ⟨_,e⟩
 | frz ob u=>obtain ⟨e,_⟩:=x;exact ⟨_,e⟩
 | tbl ps=>exact ⟨_,show h.get? a = some _ from x⟩
 | met f y=>exact ⟨_,show h.get? a = some _ from x⟩
 | ext φ=>obtain ⟨_,⟨_,e⟩,_⟩:=x;exact ⟨_,e⟩
theorem HOk.has {P:Program} {w:World} {H:Hp} {h:Heap} {a:Addr} (x:HOk P w H h) (e:H a ≠ none):∃ u,h.get? a = some u:=by
 cases q:H a with
 | none=>exact absurd q e
 | some o=>exact (x a o q).has
section
variable {P:Program} {w:World} {K:PySem.W.Frag} {mg:Str → Option Value} {base:Heap} {N:List Str} {qual:Str} {scope:Scope} {f:Addr} {cd:Value} {A:Around} {outer:List Env} {s:Shared} {H:Hp} {E:XK}
theorem aBM {pins:List (Addr × Obj)} {σ:St} {H1 H':Hp} {s1 s':Shared} {B h2:Heap} {ea:Addr} {cls a0:Value} (I:Inv (hJ (CX2 P w) P w K mg base N qual scope f cd A outer s H E) pins σ H1 s1) (os:s'.os = s1.os) (bare:AllBare s'.gens)
  (u:Un (frs (envOfC qual scope s.heap.objs.size f cd :: outer)) [] H1 H' s1.heap s'.heap) (ok:HOk P w H' s'.heap) (hB:∀ b o o',s1.heap.get? b = some o → s'.heap.get? b = some o' → b ∉ frs (envOfC qual scope s.heap.objs.size f cd :: outer) → B.get? b = some o')
  (hT:∀ b o',H' b ≠ none → s'.heap.get? b = some o' → B.get? b = some o') (fl:Heap.FlyingW B outer ea cls a0 h2) (us:s'.heap.UpToSlots h2) (q:E cls none H'):CX2 P w outer H s E (.ref ea) { s' with heap:=h2 }:=by
 have J:=mJ (h2:=h2) I os bare u ok hB hT fl.1 us
 refine ⟨ea,cls,a0,B,H',rfl,J.os,J.bare,J.base,J.hok,fl,fun b o o' e e' nb=>?_,fun b o' n e'=>?_,q⟩
 ·obtain ⟨o1,e1⟩:=I.base.there b o e (fun z=>absurd z (by simp [hJ]))
  obtain ⟨o2,e2⟩:=u.there b o1 e1 (by simp)
  have hb:b ∉ frs (envOfC qual scope s.heap.objs.size f cd :: outer):=fun z=>by
   have lt:b < s.heap.objs.size:=Heap.lt_size e
   have z':b ∈ s.heap.objs.size :: frs outer:=z
   rcases List.mem_cons.mp z' with r | r
   ·exact absurd lt (by rw [r];exact Nat.lt_irrefl _)
   ·exact nb r
  have e3:=hB b o1 o2 e1 e2 hb
  have e4:=fl.1 b o2 e3
  rw [show h2.get? b = some o' from e'] at e4
  cases e4
  exact e3
 ·obtain ⟨o2,e2⟩:=ok.has n
  have e3:=hT b o2 n e2
  have e4:=fl.1 b o2 e3
  rw [show h2.get? b = some o' from e'] at e4
  cases e4
  exact e3
theorem aGY:pT (CX2 P w) (hJ (CX2 P w) P w K mg base N qual scope f cd A outer s H E) E:=fun pins σ H1 s1 e s' I h=>by
 obtain ⟨ea,cls,a0,B,H',rfl,os,bare,u,ok,fl,hB,hT,q⟩:=h
 exact wpAny_leaves_onW (env:=envOfC qual scope s.heap.objs.size f cd) (outer:=outer) I.ok.frames rfl fl fun h2 fl2 us=>aBM I os bare u ok hB hT fl2 us q
theorem aGQ {pins:List (Addr × Obj)} {σ:St} {H1:Hp} {s1:Shared} {h1:Heap} {e:Addr} {cls:Value} {args:List Value} (I:Inv (hJ (CX2 P w) P w K mg base N qual scope f cd A outer s H E) pins σ H1 s1) (hx:Heap.MadeExcOf s1.heap h1 e cls args) (q:E cls none H1) :
  (hJ (CX2 P w) P w K mg base N qual scope f cd A outer s H E).xe (.ref e) { s1 with heap:=h1 }:=by
 have S:s1.heap.FunFrames base (envOfC qual scope s.heap.objs.size f cd :: outer):=I.stack
 have hin:∀ v ∈ envOfC qual scope s.heap.objs.size f cd :: outer,∀ b,v.frame = some b → b ∈ frs (envOfC qual scope s.heap.objs.size f cd :: outer):=fun v hv b hb=>List.mem_filterMap.mpr ⟨v,hv,hb⟩
 refine wpAny_leaves_madeW (base:=PySem.W.hideAll s1.heap (frs (envOfC qual scope s.heap.objs.size f cd :: outer))) (h:=s1.heap) (env:=envOfC qual scope s.heap.objs.size f cd) (outer:=outer) I.ok.frames rfl (fun b o z=>PySem.W.of_hideAll _ z) (PySem.W.funFrames_hide S hin) hx fun h2 t fl _ _ us=>?_
 refine aBM (s1:=s1) (s':={ s1 with heap:=h1 }) I rfl I.bare (Un.kept hx.keeps) (I.hok.kept hx.keeps) (fun b o o' e1 e2 nb=>?_) (fun b o' n e2=>?_) fl us q
 ·have e3:=hx.keeps b o e1
  rw [show h1.get? b = some o' from e2] at e3
  cases e3
  exact PySem.W.hideAll_get _ e1 nb
 ·obtain ⟨o,e1⟩:=I.hok.has n
  have e3:=hx.keeps b o e1
  rw [show h1.get? b = some o' from e2] at e3
  cases e3
  exact PySem.W.hideAll_get _ e1 fun z=>n (I.stkFree b z)
end
end L2
namespace L2
open PySem PySem.Spec PyProof.Rows
abbrev aHY:List Value:=[.type "ValueError",.type "Exception",.type "BaseException",.type "object"]
structure ExcC (K:PySem.W.Frag) (C:Addr):Prop where
 q:PySem.W.excIn K C aHY "ValueError.__new__" = true
theorem ExcC.own {K:PySem.W.Frag} {C:Addr} {h:Heap} {x:Str} {mg:Str → Option Value} (E:ExcC K C) (X:K.In h) (hm:mg x = some (.ref C)):OwnCls x C aHY "ValueError.__new__" mg h:=by
 refine ⟨hm,?_⟩
 have q:=E.q
 unfold PySem.W.excIn at q
 split at q
 ·rename_i d2 c2 l2 look
  split at q
  ·rename_i C2 tl a0 a1 a2 a3 id2 a5 em es
   have q1:=Bool.and_eq_true_iff.mp q
   have q2:=Bool.and_eq_true_iff.mp q1.1
   have q3:=Bool.and_eq_true_iff.mp q2.1
   have q4:=Bool.and_eq_true_iff.mp q3.1
   have q5:=Bool.and_eq_true_iff.mp q4.1
   obtain rfl:C2 = C:=beq_iff_eq.mp q5.1
   obtain rfl:id2 = "ValueError.__new__":=beq_iff_eq.mp q5.2
   obtain ⟨c_1,c_2,c_3,c_4,c_5,c_6,c_7,c_8,c_9,c_10,c_11⟩:=c2
   obtain rfl:c_3 = .ref C2 :: tl:=em
   obtain rfl:c_11 = false:=by simpa using q4.2
   obtain ⟨ll⟩:=l2
   obtain rfl:ll = [a0,a1,a2,a3,some (.builtin "ValueError.__new__"),a5]:=es
   exact ⟨tl,c_4,c_1,c_5,c_2,c_6,c_7,c_8,c_9,c_10,d2,a0,a1,a2,a3,a5,_,X _ _ look,.of_isNs (PySem.W.isNs_of_in X q2.2),PySem.W.nsMap_none_of_in X q2.2 (beq_iff_eq.mp q1.2),PySem.W.tail_of_in X q3.2⟩
  ·cases q
 ·cases q
def aAN (X:Cx) (E:XK):Prop:=∀ (pins:List (Addr × Obj)) (σ:St) (H:Hp) (s:Shared) (h1:Heap) (e:Addr) (cls:Value) (args:List Value),Inv X pins σ H s → Heap.MadeExcOf s.heap h1 e cls args → E cls none H → X.xe (.ref e) { s with heap:=h1 }
theorem uU {P:Program} {w:World} {K:PySem.W.Frag} {mg:Str → Option Value} {base:Heap} {N:List Str} {qual:Str} {scope:Scope} {f:Addr} {cd:Value} {A:Around} {outer:List Env} {s:Shared} {H:Hp} {E:XK} :
  aAN (hJ (CX2 P w) P w K mg base N qual scope f cd A outer s H E) E:=fun _ _ _ _ _ _ _ _ I hx q=>aGQ I hx q
section
variable {X:Cx} {C:Addr} {x:Str} {E:XK} {np cpos pos:Pos} {e:Expr} {es:List Expr} {t:TA}
def aIN (C:Addr) (E:XK) (t:TA):TS:=fun _ σ H=>t σ H fun vs H1=>vs.length ≤ sizeLine ∧ E (.ref C) none H1
theorem oA (hm:X.mg x = some (.ref C)) (EC:ExcC X.K C) (hc:X.calm = true) (R:aAN X E) (ha:PA X (e :: es) t) (hg:Gl X x:=by rfl) (hdb:(x == ("__debug__":Str)) = false:=by decide)
  (he:starEach (e :: es) X.env = (false,eval e X.env) :: starEach es X.env:=by rfl) (hpl:(backTo cpos (starEach es X.env)).any (·.1) = false:=by rfl) :
  PS X (.Raise (some (.Call (.Name x np) (e :: es) [] cpos)) none pos) (aIN C E t):=by
 intro pins s σ H D I h
 obtain ⟨tl,N,nm,qn,bs,hdct,sn,sub,ab,col,dd,k0,k1,k2,k3,k5,mN,hC,hN,hni,T⟩:=(EC.own I.ok.mod.kin hm).obj
 refine wpAny_Raise_call_subT (C:=C) (N:=N) (nm:=nm) (q:=qn) (bs:=bs) (bm:=tl) (hdct:=hdct) (sn:=sn) (sub:=sub) (ab:=ab) (col:=col) (dd:=dd) (k0:=k0) (k1:=k1) (k2:=k2) (k3:=k3) (k5:=k5)
  PySem.F.excBase_ValueError (mN:=mN) (T.hasType PySem.F.excBase_ValueError.hasBase) (I.ok.hd hc) ?_ hni (iV I hg hm ⟨rfl,?_⟩ hdb)
 ·rw [he]
  show (false || (backTo cpos (starEach es X.env)).any (·.1)) = false
  rw [hpl]
  rfl
 ·have g:=ha cpos pins s σ H _ I h
  rw [he] at g ⊢
  refine Calls.evalArgs_plain (thn g fun us s2 ⟨vs,H2,I2,rv,hz,q⟩=>?_)
  exact ⟨rfl,by rw [← rv.length];exact hz,I2.bk _ _ hC,hN.keeps I2.bk,T.keeps I2.bk,fun h1 ea hx=>R pins σ H2 s2 h1 ea _ _ I2 hx q⟩
end
def CAt (X:Cx) (pins:List (Addr × Obj)) (σ:St) (E:XK) (e:Value) (s':Shared):Prop:=∃ s1 H1,Inv X pins σ H1 s1 ∧ CX2 X.prog X.w X.stack H1 s1 E e s'
abbrev TX:=XK → TE
def PX (X:Cx) (e:Expr) (t:TX):Prop :=
 ∀ (pins:List (Addr × Obj)) (s:Shared) (σ:St) (H:Hp) (Q:VK) (E:XK),Inv X pins σ H s → t E σ H Q → wpAny (model X.prog X.w) X.A (eval e X.env) (EP X pins σ Q) (CAt X pins σ E) s
section
variable {X:Cx} {k:Nat} {f C:Addr} {fd:FuncData} {ps:List Str} {sp:Sp} {E:XK} {x m:Str} {p pos apos:Pos} {e o:Expr} {es:List Expr} {ta:TE} {t:TA}
theorem aGN {pins:List (Addr × Obj)} {σ:St} {H:Hp} {s:Shared} {Q:VK} {us:List Value} {vs:List V} (F:FnOk X.prog X.w X.K X.mg X.base (CX2 X.prog X.w) k f fd ps sp) (hr:Room k X.A) (hb:gC X.K fd ps [])
  (I:Inv X pins σ H s) (r:bB vs us) (h:sp vs H Q E):wpAny (model X.prog X.w) X.A (call (.ref f) us) (EP X pins σ Q) (CAt X pins σ E) s:=by
 have I':Inv (X.wish (CAt X pins σ E)) pins σ H s:=I.wish _
 have hl:(us ++ []).length = ps.length:=by rw [List.append_nil,← r.length];exact F.len _ _ _ _ h
 have hb':=hb s us I.kIn hl
 rw [List.append_nil] at hb'
 refine wpAny_call (codeAny_mono (F.run X.A X.stack s H ⟨us,[]⟩ us vs Q E hr I.env0 hb' r h) fun z s' hq=>?_)
 cases z with
 | error e=>exact ⟨s,H,I,hq⟩
 | ok fl =>
  cases fl with
  | ret u=>exact I.after hq
  | next=>exact False.elim hq
  | brk=>exact False.elim hq
  | cont=>exact False.elim hq
end
end L2
namespace L2
open PySem PySem.Spec PyProof.Rows
theorem FnOk.up {P:Program} {w:World} {K:PySem.W.Frag} {mg:Str → Option Value} {base:Heap} {CX:CXT} {k:Nat} {f:Addr} {fd:FuncData} {ps:List Str} {sp:Sp} (F:FnOk P w K mg base CX0 k f fd ps sp):FnOk P w K mg base CX k f fd ps sp :=
 ⟨F.len,fun A outer s H args us vs Q E hr he hb hv hs=>codeAny_mono (F.run A outer s H args us vs Q E hr he hb hv hs) fun r s' h=>by
  cases r with
  | error e=>exact False.elim h
  | ok fl=>cases fl <;> exact h⟩
structure FcX (P:Program) (w:World) (K:PySem.W.Frag) (mg:Str → Option Value) (base:Heap) (k:Nat) (x:Str) (ps:List Str) (sp:Sp):Prop where
 ex:∃ (f:Addr) (fd:FuncData),FnOk P w K mg base (CX2 P w) k f fd ps sp ∧ gC K fd ps [] ∧ mg x = some (.ref f) ∧ PySem.W.keepIn K (.ref f) = true
structure McX (P:Program) (w:World) (K:PySem.W.Frag) (mg:Str → Option Value) (base:Heap) (k:Nat) (C:Addr) (m:Str) (ps:List Str) (sp:Sp):Prop where
 ex:∃ (f:Addr) (fd:FuncData),FnOk P w K mg base (CX2 P w) k f fd ps sp ∧ gC K fd ps [] ∧ Meth K C m f
structure IcX (P:Program) (w:World) (K:PySem.W.Frag) (mg:Str → Option Value) (base:Heap) (k:Nat) (C:Addr) (ps:List Str) (sp:Sp):Prop where
 ex:∃ (f:Addr) (fd:FuncData),FnOk P w K mg base (CX2 P w) k f fd ps sp ∧ gC K fd ps [] ∧ Mk K C f
section
variable {P:Program} {w:World} {K:PySem.W.Frag} {mg:Str → Option Value} {base:Heap} {C:Addr} {x m qual:Str} {st:Stmt} {N ps:List Str} {k:Nat} {sp sp':Sp}
theorem Fun.okX {f:Addr} {fd:FuncData} (F:Fun K x qual st f fd) (S:FnScope N ps (aE st)) (len:∀ vs H Q E,sp vs H Q E → vs.length = ps.length)
  (hbody:∀ (cdv:Value) (A:Around) (outer:List Env) (s:Shared) (H:Hp) (vs:List V) (Q:VK) (E:XK),Room k (A.deeper (envOfC qual (aE st) s.heap.objs.size f cdv)) → sp vs H Q E →
   ∃ t,PSs (hJ (CX2 P w) P w K mg base N qual (aE st) f cdv A outer s H E) (aK st) t ∧ t { nx:=fun _ H'=>Q .non H',rt:=Q } (iD N vs) H):FnOk P w K mg base (CX2 P w) (k + 1) f fd ps sp:=by
 obtain ⟨oc,od,kV,doc,pm,an,cdv,ct,osl,rfl,lk,hcd⟩:=F.ex
 exact aFL lk hcd S len fun A outer s H vs Q E hr hsp=>hbody cdv A outer s H vs Q E hr hsp
theorem DefAt.fcX (D:DefAt K mg x st ps) (S:FnScope N ps (aE st)) (len:∀ vs H Q E,sp vs H Q E → vs.length = ps.length)
  (hbody:∀ (f:Addr) (cdv:Value) (A:Around) (outer:List Env) (s:Shared) (H:Hp) (vs:List V) (Q:VK) (E:XK),Room k (A.deeper (envOfC x (aE st) s.heap.objs.size f cdv)) → sp vs H Q E →
   ∃ t,PSs (hJ (CX2 P w) P w K mg base N x (aE st) f cdv A outer s H E) (aK st) t ∧ t { nx:=fun _ H'=>Q .non H',rt:=Q } (iD N vs) H):FcX P w K mg base (k + 1) x ps sp:=by
 obtain ⟨f,fd,F,b,mm⟩:=D.ex
 exact ⟨f,fd,F.okX S len fun cdv A outer s H vs Q E hr h=>hbody f cdv A outer s H vs Q E hr h,b,mm,F.kp⟩
end
section
variable {X:Cx} {k:Nat} {C:Addr} {ps:List Str} {sp:Sp} {E:XK} {x m:Str} {p pos apos:Pos} {e o:Expr} {es:List Expr} {ta:TE} {t:TA}
theorem PA.cat {pins:List (Addr × Obj)} {σ:St} {H:Hp} {s:Shared} {Q:List V → Hp → Prop} {F:Value → Shared → Prop} (ha:PA X.nox es t) (I:Inv X pins σ H s) (h:t σ H Q):wpAny (model X.prog X.w) X.A (spliced (backTo pos (starEach es X.env))) (AP X pins σ Q) F s :=
 wpAny_mono (ha pos pins s σ H Q (I.wish _) h) (fun _ _ ⟨vs,H',I',r,q⟩=>⟨vs,H',I'.unwish,r,q⟩) fun _ _ z=>False.elim z
theorem aLX (F:FcX X.prog X.w X.K X.mg X.base k x ps sp) (hr:Room k X.A) (ha:PA X.nox (e :: es) t) (hg:Gl X x:=by rfl) (hdb:(x == ("__debug__":Str)) = false:=by decide)
  (he:starEach (e :: es) X.env = (false,eval e X.env) :: starEach es X.env:=by rfl) (hpl:(backTo pos (starEach es X.env)).any (·.1) = false:=by rfl) :
  PX X (.Call (.Name x p) (e :: es) [] pos) (fun E=>aAR sp [] E t):=by
 intro pins s σ H Q E I h
 obtain ⟨f,fd,G,b,mm,kp⟩:=F.ex
 refine wpAny_Call_Name_kw (iV I hg mm ?_ hdb)
 refine PySem.W.callWith_K (h₀:=X.base) I.ok.mod.kin kp (thn (ha.cat I h) fun us s1 ⟨vs,H1,I1,r,q⟩=>⟨I1.kIn,?_⟩) he hpl
 simp only [List.append_nil] at q
 exact aGN G hr b I1 r q
abbrev TB:=XK → TS
def PB (X:Cx) (body:List Stmt) (t:TB):Prop :=
 ∀ (pins:List (Addr × Obj)) (s:Shared) (σ:St) (H:Hp) (D:Ends) (E:XK),Inv X pins σ H s → t E D σ H → wpAny (model X.prog X.w) X.A (execs body X.env) (SP X pins D) (CAt X pins σ E) s
theorem aJC {i:Nat} {pos':Pos} {t:TX} (hN:X.N.Nodup) (hi:X.N[i]? = some x) (hx:Loc X.env.scope x) (he:PX X e t) (hs:swapsWith e (some (.Name x pos')) pos.line X.env = pure false:=by rfl) (hf:X.fn x = true ∨ X.env.scope.names.lookup x = some .local:=by first | exact .inl rfl | exact .inr rfl | assumption) :
  PB X [.Assign [.Name x pos'] e pos] (fun E=>aIR (t E) (oP i)):=by
 intro pins s σ H D E I h
 refine wpAny_execs_cons (wpAny_Assign_Name (thn (he pins s σ H _ E I h) fun v s1 ⟨y,H1,I1,r1,q1⟩=>?_) hs)
 exact nP I1 hN hi hx r1 (fun s2 I2=>wpAny_execs_nil ⟨_,H1,I2,q1⟩) hf
end
end L2
namespace L2
open PySem PySem.Spec PyProof.Rows
abbrev Cx.held (X:Cx) (ea:Addr):Cx:={ X with A:=X.A.mark (some (.ref ea)),calm:=false,xe:=fun _ _=>False }
section
variable {X:Cx} {pins:List (Addr × Obj)} {σ:St} {H H':Hp} {s s':Shared} {ea:Addr}
theorem Cx.Ok.held (ok:X.Ok) (ea:Addr):(X.held ea).Ok :=
 ⟨ok.mod,ok.kind,ok.glob,ok.blt,ok.above,ok.inj,ok.has,ok.cab,fun z=>absurd z (by simp),ok.frames,ok.stk,ok.exf,ok.bs,ok.bsz,ok.noex,ok.exfs,ok.funs,ok.frf⟩
theorem Inv.held (I:Inv X pins σ H s) (ea:Addr):Inv (X.held ea) pins σ H s:=⟨I.ok.held ea,I.os,I.bare,I.base,I.loc,I.cell,I.free,I.freeC,I.pin,I.hok,I.len⟩
theorem Inv.unheld (ok:X.Ok) (I:Inv (X.held ea) pins σ H s):Inv X pins σ H s:=⟨ok,I.os,I.bare,I.base,I.loc,I.cell,I.free,I.freeC,I.pin,I.hok,I.len⟩
theorem SP.unheld (ok:X.Ok) {D:Ends} {f:Flow} (h:SP (X.held ea) pins D f s'):SP X pins D f s':=by
 cases f with
 | next=>obtain ⟨σ',H',I,q⟩:=h;exact ⟨σ',H',I.unheld ok,q⟩
 | brk=>obtain ⟨σ',H',I,q⟩:=h;exact ⟨σ',H',I.unheld ok,q⟩
 | cont=>obtain ⟨σ',H',I,q⟩:=h;exact ⟨σ',H',I.unheld ok,q⟩
 | ret u=>obtain ⟨v,σ',H',I,r,q⟩:=h;exact ⟨v,σ',H',I.unheld ok,r,q⟩
end
theorem vD {M:Model} {B h:Heap} {l:List Env} {ea:Addr} {cls a0:Value} (fl:Heap.FlyingW B l ea cls a0 h):PySem.W.Looks M h (typeOf (.ref ea)) cls:=by
 obtain ⟨ob,hob,hc⟩:=fl.there
 subst hc
 exact (PySem.W.Looks.ld hob).andThen .now
section
variable {X:Cx} {C:Addr} {x:Str} {np hpos pos:Pos} {body suite:List Stmt} {b₀:Stmt} {tb:TB} {ts:TS}
end
end L2
namespace L2
open PySem PySem.Spec PyProof.Rows
def aLJ (a:Addr) (cls:Value) (h:Heap):Prop:=∃ o vs,h.get? a = some o ∧ o.cls = cls ∧ o.data = .fields vs
def uF (a:Addr) (cls:Value):HO:=.ext (aLJ a cls)
theorem Un.new {fs ex:List Addr} {H H':Hp} {h h':Heap} {a:Addr} {o:HO} (u:Un fs ex H H' h h') (n:H' a = none) (nn:h.get? a = none):Un fs ex H (upd H' a o) h h' where
 keep:=u.keep
 slot:=u.slot
 free:=fun b ob e nb hx=>by
  rw [aR (fun z=>by rw [z,nn] at e;cases e)]
  exact u.free b ob e nb hx
 there:=u.there
 tups:=fun b xs e=>by rw [aR (aU (u.tups b xs e) n)];exact u.tups b xs e
 frzs:=fun b ob v e=>by rw [aR (aU (u.frzs b ob v e) n)];exact u.frzs b ob v e
 tbls:=fun b ps e=>by
  obtain ⟨m,q⟩:=u.tbls b ps e
  exact ⟨m,by rw [aR (aU q n)];exact q⟩
theorem HOk.new {P:Program} {w:World} {H:Hp} {h:Heap} {a:Addr} {o:HO} (ok:HOk P w H h) (n:H a = none) (new:cN P w (upd H a o) h a o):HOk P w (upd H a o) h:=fun b u e=>by
 by_cases hb:b = a
 ·subst hb
  rw [aF] at e
  cases e
  exact new
 ·rw [aR hb] at e
  exact (ok b u e).stay (fun _ _ _ q=>q) (fun c q=>by rw [aR (aU q n)];exact q) fun c xs q=>by rw [aR (aU q n)];exact q
section
variable {X:Cx} {pins:List (Addr × Obj)} {σ:St} {H H':Hp} {s s':Shared} {B h2:Heap} {ea:Addr} {cls a0:Value}
theorem aFN (I:Inv X pins σ H s) (os:s'.os = s.os) (bare:AllBare s'.gens) (u:Un (frs X.stack) [] H H' s.heap s'.heap) (ok:HOk X.prog X.w H' s'.heap) (hB:∀ b o o',s.heap.get? b = some o → s'.heap.get? b = some o' → b ∉ frs X.stack → B.get? b = some o')
  (hT:∀ b o',H' b ≠ none → s'.heap.get? b = some o' → B.get? b = some o') (fl:Heap.FlyingW B X.stack ea cls a0 h2) (us:s'.heap.UpToSlots h2):H' ea = none ∧ Inv X pins σ (upd H' ea (uF ea cls)) { s' with heap:=h2 }:=by
 obtain ⟨oe,ws,he,hc,hd,_⟩:=fl.first
 have u2:=aFM I u hB fl.1 us
 have k2:=aBN (h2:=h2) ok hT fl.1
 have n:H' ea = none:=by
  cases q:H' ea with
  | none=>rfl
  | some o =>
   have q':H' ea ≠ none:=by rw [q];simp
   obtain ⟨o2,e2⟩:=ok.has q'
   have:=hT ea o2 q' e2
   rw [fl.2.1] at this
   cases this
 have nn:s.heap.get? ea = none:=by
  cases q:s.heap.get? ea with
  | none=>rfl
  | some o =>
   obtain ⟨o2,e2⟩:=u.there ea o q (by simp)
   by_cases hb:ea ∈ frs X.stack
   ·obtain ⟨_,o1,e1,nd⟩:=fl.2.2.1.mem hb
    rw [he] at e1
    cases e1
    exact absurd hd (nd ws)
   ·have:=hB ea o o2 q e2 hb
    rw [fl.2.1] at this
    cases this
 refine ⟨n,I.call' (s':={ s' with heap:=h2 }) (ch:=[]) os (u2.new n nn) (k2.new n ?_) bare fun b z=>absurd z (by simp)⟩
 exact ⟨⟨oe,ws,he,hc,hd⟩,⟨oe,he⟩,fun h1 h3 ⟨o,vs,e1,e2,e3⟩ k=>⟨o,vs,k o e1,e2,e3⟩⟩
theorem mH {M:Model} {A:Around} {E:Value → Shared → Prop} {i:Nat} {n:Str} {pos:Pos} {Q:Unit → Shared → Prop} (I:Inv X pins σ H s) (hN:X.N.Nodup) (hi:X.N[i]? = some n) (hk:X.env.scope.names.lookup n = some .local)
  (h:∀ s',Inv X pins (σ.set i none) H s' → Q () s'):wpAny M A (do bindName X.env n .none;unbindBehindTheSuite X.env n pos) Q E s:=by
 obtain ⟨m,hn,hl⟩:=id I.loc
 have hcls:(X.env.scope.kind == .class || (X.env.scope.kind == .module && X.env.locals != X.env.globals)) = false:=by rw [I.ok.kind];rfl
 have hiσ:i < σ.length:=by rw [I.len];exact (List.getElem?_eq_some_iff.mp hi).1
 obtain ⟨oL,_,_,hoL,_⟩:=id hn
 have neL:∀ b o,X.s₀.heap.get? b = some o → b ≠ X.env.locals:=fun b o e=>Nat.ne_of_lt (Nat.lt_of_lt_of_le (Heap.lt_size e) I.ok.above)
 refine PySem.wpAny_nameGoes_keeps hk hn hcls fun h' v hn' hs=>h _ ?_
 refine ⟨I.ok,I.os,I.bare,⟨fun b o e nb hb hx=>?_,fun b o e nb hb hx=>?_,I.base.free,fun b o e hx=>?_,I.base.tups,I.base.frzs,I.base.tbls⟩,⟨_,hn',fun j y v' e1 e2 e3=>?_⟩,fun y c e=>?_,I.free,I.freeC,fun p hp=>?_,fun b ob e=>?_,by simpa using I.len⟩
 ·exact (hs.2 b (neL b o e)).trans (I.base.keep b o e nb hb hx)
 ·obtain ⟨sl,e1⟩:=I.base.slot b o e nb hb hx
  exact ⟨sl,(hs.2 b (neL b o e)).trans e1⟩
 ·obtain ⟨o',e1⟩:=I.base.there b o e hx
  exact ⟨o',(hs.2 b (neL b o e)).trans e1⟩
 ·have hj:j ≠ i:=fun z=>by
   subst z
   rw [List.getElem?_set_self hiσ] at e2
   cases e2
  rw [List.getElem?_set_ne (Ne.symm hj)] at e2
  obtain ⟨u',r',q⟩:=hl j y v' e1 e2 e3
  refine ⟨u',r',?_⟩
  rcases q with ⟨k,e⟩ | ⟨k,c,e,z⟩
  ·refine .inl ⟨k,?_⟩
   have ny:y ≠ n:=fun z=>hj (sQ hN e1 (z ▸ hi))
   show (if y = n then v else m y) = some u'
   rw [if_neg ny]
   exact e
  ·exact .inr ⟨k,c,e,z.sameBut hs (I.cne y c e)⟩
 ·obtain ⟨w',z⟩:=I.cell y c e
  exact ⟨w',z.sameBut hs (I.cne y c e)⟩
 ·obtain ⟨e,nb,ne,nf,d⟩:=I.pin p hp
  exact ⟨(hs.2 p.1 ne).trans e,nb,ne,nf,d⟩
 ·refine (I.hok b ob e).stay (fun c w' hc q=>(hs.2 c ?_).trans q) (fun _ q=>q) fun _ _ q=>q
  rintro rfl
  rcases hc with rfl | hc
  ·rw [I.free] at e;cases e
  ·rw [I.free] at hc;cases hc
end
section
variable {X:Cx} {C:Addr} {x n:Str} {np hpos pos:Pos} {body suite:List Stmt} {b₀:Stmt} {tb:TB} {ts:TS} {i:Nat}
def Ends.gone (D:Ends) (i:Nat):Ends:={ nx:=fun σ H=>D.nx (σ.set i none) H,rt:=D.rt,bk:=fun σ H=>D.bk (σ.set i none) H,ct:=fun σ H=>D.ct (σ.set i none) H }
def aKB (K:PySem.W.Frag) (C:Addr) (i:Nat) (tb:TB) (ts:TS):TS:=fun D σ H=>tb (fun cls _ H1=>PySem.W.exmOne K cls (.ref C) = some true ∧ ∀ ea,H1 ea = none → ts (D.gone i) (σ.set i (some (.ref ea))) (upd H1 ea (uF ea cls))) D σ H
theorem aGU (hN:X.N.Nodup) (hi:X.N[i]? = some n) (hk:X.env.scope.names.lookup n = some .local) (hm:X.mg x = some (.ref C)) (hb:PB X body tb) (hs:∀ ea,PSs (X.held ea) (b₀ :: suite) ts) (hg:Gl X x:=by rfl) (hdb:(x == ("__debug__":Str)) = false:=by decide)
  (hst:X.stack = X.env :: X.outer:=by rfl) (hf:X.env.frame = some X.env.locals:=by rfl) :
  PS X (.Try body [.ExceptHandler (some (.Name x np)) (some n) (b₀ :: suite) hpos] [] [] pos) (aKB X.K C i tb ts):=by
 intro pins s σ H D I h
 refine wpAny_Try_except (wpAny_mono (hb pins s σ H D _ I h) (fun f s1 q=>?_) fun e s1 q=>?_)
 ·cases f with
  | next=>exact wpAny_execs_nil q
  | ret v=>exact q
  | brk=>exact q
  | cont=>exact q
 ·obtain ⟨s0,H0,I0,ea,cls,a0,B,H',rfl,os,bare,u,ok,fl,hB,hT,em,q⟩:=q
  have hfr:X.A.frames = some (X.env :: X.outer):=hst ▸ I.ok.frames
  have fl':Heap.FlyingW B (X.env :: X.outer) ea cls a0 s1.heap:=hst ▸ fl
  refine wpAny_looks_onW hfr hf fl' fun h4 held us4=>?_
  refine wpAny_landsW held fun h5 fl5 us5=>?_
  have J5:=mJ I0 os bare u ok hB hT fl5.1 (us4.trans us5)
  refine wpAny_handleBy_cons (codeAny_handlers_test (iV (X:=X.held ea) (J5.held ea) hg hm ?_ hdb)) (by intro z;cases z)
  refine (PySem.W.exm_one J5.kIn (vD fl5) em).here ?_
  refine codeAny_handlers_suite_as ?_
  refine lands_againW fl5 fun h6 fl6 us6=>?_
  obtain ⟨n6,J6⟩:=aFN I0 os bare u ok hB hT (hst.symm ▸ fl6) ((us4.trans us5).trans us6)
  refine nP (X:=X.held ea) (i:=i) (v:=.ref ea) (J6.held ea) hN hi (.inl hk) rfl (fun s7 I7=>?_) (.inr hk)
  refine wpAny_mono (hs ea pins s7 _ _ (D.gone i) I7 (q ea n6)) (fun f s8 z=>?_) fun _ _ z=>False.elim z
  have z':=z.unheld (X:=X) I.ok
  cases f with
  | next =>
   obtain ⟨σ',H2,I2,q2⟩:=z'
   exact mH I2 hN hi hk fun s9 I9=>⟨_,H2,I9,q2⟩
  | brk =>
   obtain ⟨σ',H2,I2,q2⟩:=z'
   exact mH I2 hN hi hk fun s9 I9=>⟨_,H2,I9,q2⟩
  | cont =>
   obtain ⟨σ',H2,I2,q2⟩:=z'
   exact mH I2 hN hi hk fun s9 I9=>⟨_,H2,I9,q2⟩
  | ret v =>
   obtain ⟨y,σ',H2,I2,r2,q2⟩:=z'
   exact mH I2 hN hi hk fun s9 I9=>⟨y,_,H2,I9,r2,q2⟩
end
end L2
namespace L2
open PySem PySem.Spec PyProof.Rows
section
open PySem.W PySem.Calls PySem.Builtin PySem.Builtin.ObjectAttr PySem.Builtin.Getset_descriptor
variable {prog:Program} {w:World} {A:Around} {E:Value → Shared → Prop} {s:Shared} {K:PySem.W.Frag} {x C:Addr}
theorem zV {M:Model} {h:Heap} {a g:Value} {name:Str} (X:K.In h) (ha:findIn K (.ref C) name = some (some a)) (hg:specialIn K a "__get__" = some (some g)) (ht:takesIn K a = some true) :
  Looks M h (find (.ref x) (.ref C) name) (.bind g a) :=
 (looks_findIn (M:=M) X ha).andThen ((show Looks M h (getOf (some a)) (some g) from looks_specialIn X hg).andThen
  ((show Looks M h (dataDescriptor? (some a) (some g)) (some (g,a)) from (looks_takesIn (M:=M) X ht).andThen .now).andThen (Looks.tag .now)))
theorem aGA {R:Result → Shared → Prop} {tp:Value} (X:K.In s.heap) (L0:Looks (model prog w) s.heap (typeOf (.ref x)) (.ref C)) (hm:mroIn K C (.type "object") = some true) (h:R (.ok (.ret (.ref C))) s) :
  codeAny (model prog w) A (.call (.builtin "getset_descriptor.__get__") ⟨[.builtin "object.__class__",.ref x,tp],[]⟩) R s:=by
 have L1:=looks_mroIn (M:=model prog w) X hm
 obtain ⟨h2,g2,d2,t2,o2⟩:=s
 refine codeAny_call_builtin KF.slot_gs.plain KF.entry_gs (KF.slot_gs.check _ _ _ _ _ _ _ _ KF.type_class (KF.args_gs _ _ _) (?_))
 unfold Builtin.«getset_descriptor.__get__»
 unfold descrGet;rw [dga_obj];refine wpAny_bind (wpAny_pure ?_)
 unfold descrGetter descrCheckInstance;unfold descrNameAndClass isInstance
 simp only [KF.owner_class]
 repeat lk
 refine ⟨Code.quiet_builtin _ (by decide +kernel),(codeAny_builtin KF.entry_class ?_)⟩
 unfold Builtin.«object.__class__»;unfold shownTypeOf
 repeat lk
 exact h
end
structure ExA (K:PySem.W.Frag) (C:Addr):Prop where
 ex:ExcC K C
 em:PySem.W.exmOne K (.ref C) (.ref C) = some true
structure ExI (K:PySem.W.Frag) (C:Addr):Prop extends ExA K C where
 pg:PySem.W.plainGet K C "__class__" = true
 ic:InstC K C
end L2
namespace L2
open PySem PySem.Spec PyProof.Rows
section
open PySem.W PySem.Calls PySem.Builtin PySem.Builtin.ObjectAttr PySem.Builtin.Getset_descriptor
variable {prog:Program} {w:World} {A:Around} {E:Value → Shared → Prop} {s:Shared} {K:PySem.W.Frag} {x C:Addr}
theorem xA {Q:Option Value → Shared → Prop} (X:K.In s.heap) (L0:Looks (model prog w) s.heap (typeOf (.ref x)) (.ref C)) (hga:findIn K (.ref C) "__getattribute__" = some (some (.builtin "BaseException.__getattribute__"))) (hgt:findIn K (.ref C) "__getattr__" = some none)
  (hB:mroIn K C (.type "BaseException") = some true) (I:InstC K C) (h:Q (some (.ref C)) { s with toks:=s.toks + 1 }):wpAny (model prog w) A (getAttr? (.ref x) "__class__") Q E s:=by
 have LG:=looks_findIn (M:=model prog w) X hga
 have LF:=zV (M:=model prog w) (x:=x) X I.ha I.hn I.htk
 have LH:=looks_findIn (M:=model prog w) X hgt
 have LB:=looks_mroIn (M:=model prog w) X hB
 have X':=X
 obtain ⟨h2,g2,d2,t2,o2⟩:=s
 unfold getAttr?;unfold getAttrBy?;unfold getAttrBy
 refine wpAny_bind (wpAny_mkText (wpAny_bind (wpAny_attempt (wpAny_holding (wpAny_bind (L0.at (wpAny_bind (LG.at (?_)))))))))
 have hx2:(Value.builtin "BaseException.__getattribute__" == Value.builtin "object.__getattribute__") = false:=by decide +kernel
 dsimp only
 rw [hx2,Bool.and_false,if_neg Bool.false_ne_true]
 unfold getAttrByItsOwn hookBefore
 refine wpAny_bind (show wpAny _ _ (typeLookup (.ref C) "__getattr__") _ _ _ from LH.at ?_)
 refine wpAny_bind (wpAny_attempt (wpAny_holding ?_))
 show wpAny _ _ (boundAndCalled _ _ _) _ _ _
 unfold boundAndCalled
 refine wpAny_bind (wpAny_of_eq (PySem.F.attr_ValueError.ga.bind (.ref x)) ?_)
 show wpAny _ _ (call (.builtin "BaseException.__getattribute__") [.ref x,.str "__class__" t2]) _ _ _
 refine wpAny_call (codeAny_call_builtin PySem.F.attr_ValueError.ga.plain F.entry_bexc_ga ?_)
 have hk:builtinKind "BaseException.__getattribute__" = some .slot:=by decide +kernel
 have hsp:splitId "BaseException.__getattribute__" = some ("BaseException","__getattribute__"):=by decide +kernel
 have hargs:=F.args_bexc_ga (.ref x) (.str "__class__" t2)
 simp only [checkBuiltinCall,hk,hsp]
 refine wpAny_bind ?_
 unfold isInstance
 refine wpAny_bind (L0.at (LB.at ?_))
 rw [if_neg (by decide)]
 refine wpAny_of_eq hargs ?_
 unfold Builtin.«object.__getattribute__»
 refine wpAny_bind (wpAny_pure ?_)
 refine wpAny_bind (wpAny_pure ?_)
 refine wpAny_bind (L0.at ?_)
 refine wpAny_bind (LF.at ?_)
 dsimp only
 show wpAny _ _ (holding [.builtin "object.__class__"] (call (.builtin "getset_descriptor.__get__") [.builtin "object.__class__",.ref x,.ref C]) >>= ret) _ _ _
 refine wpAny_bind (wpAny_holding (wpAny_call (aGA (s:=⟨h2,g2,d2,t2 + 1,o2⟩) X' L0 I.hm (?_))))
 refine wpAny_pure ?_
 dsimp only
 exact handed_on rfl (wpAny_pure h)
end
structure ExJ (K:PySem.W.Frag) (C:Addr):Prop extends ExA K C where
 ga:PySem.W.findIn K (.ref C) "__getattribute__" = some (some (.builtin "BaseException.__getattribute__"))
 gt:PySem.W.findIn K (.ref C) "__getattr__" = some none
 mb:PySem.W.mroIn K C (.type "BaseException") = some true
 ic:InstC K C
theorem yK {K:PySem.W.Frag} {a C:Addr} (e:ExJ K C):PySem.W.KitX K (.ref a) (.ref C) (aLJ a (.ref C)) where
 ty:=fun M h X ⟨o,vs,q,c,d⟩=>c ▸ (PySem.W.Looks.ld q).andThen .now
 it:=fun M h X _=>by
  have q:=e.em
  unfold PySem.W.exmOne at q
  split at q
  ·exact (PySem.W.kit_cls (M:=M) X q).2.1
  ·cases q
 ne:=fun h tp dd its n sl X htp=>by
  obtain ⟨tl,N,nm,qn,bs,hdct,sn,sub,ab,col,d2,k0,k1,k2,k3,k5,mN,hC,_⟩:=(e.ex.own (x:="") (mg:=fun _=>some (.ref C)) X rfl).obj
  refine Bool.eq_false_iff.mpr fun q=>?_
  have z:C = tp:=Value.ref.inj (beq_iff_eq.mp q)
  rw [z,htp] at hC
  have w:=congrArg Obj.data (Option.some.inj hC)
  exact absurd w (by intro w;cases w)
 ca:=fun X ⟨o,vs,q,c,d⟩ k=>xA X (c ▸ (PySem.W.Looks.ld q).andThen .now) e.ga e.gt e.mb e.ic k
theorem oW {X:Cx} {K:PySem.W.Frag} (eK:X.K = K):eU X (.builtin "isinstance") (fun xs H Q=>∃ a y c C b,xs = [.ref a,y] ∧ aDG y = some c ∧ H a = some (uF a (.ref C)) ∧ ExJ K C ∧ PySem.W.kitOne K (.ref C) c = some b ∧ Q (.bl b) H):=by
 subst eK
 intro pins s σ H xs us Q I r h
 obtain ⟨a,y,c,C,b,rfl,hc,ha,e,k,q⟩:=h
 obtain ⟨u,v,rfl,ru,rv⟩:=bB.two r
 obtain rfl:=tN hc rv
 cases ru
 obtain ⟨p,_,_⟩:=(show cN X.prog X.w H s.heap a (uF a (.ref C)) from I.hok a _ ha)
 exact PySem.W.kia_one (yK e) I.kIn p k (fun z=>nomatch z) fun tk=>⟨.bl b,H,I.tok tk,rfl,q⟩
end L2
namespace L2
open PySem PySem.Spec PyProof.Rows
section
variable {X:Cx} {k:Nat} {ps:List Str} {sp:Sp} {x:Str} {p pos:Pos} {e:Expr} {es:List Expr} {t:TA} {E:XK}
theorem aKX (F:FcX X.prog X.w X.K X.mg X.base k x ps sp) (hr:Room k X.A) (hx:pT (CX2 X.prog X.w) X E) (ha:PA X (e :: es) t) (hg:Gl X x:=by rfl) (hdb:(x == ("__debug__":Str)) = false:=by decide)
  (he:starEach (e :: es) X.env = (false,eval e X.env) :: starEach es X.env:=by rfl) (hpl:(backTo pos (starEach es X.env)).any (·.1) = false:=by rfl):PE X (.Call (.Name x p) (e :: es) [] pos) (aAR sp [] E t):=by
 obtain ⟨f,fd,G,b,m,kp⟩:=F.ex
 exact aBD G hr hg m kp b .nil hx ha hdb he hpl
end
end L2
namespace L2
open PySem PySem.Spec PyProof.Rows
def Itd (d:Addr) (o:Obj) (kvs:List (Key × V)):It :=
 ⟨fun i H=>H d = some (.frz o (.dK kvs)) ∧ i < kvs.length,fun i H x H'=>H' = H ∧ ∃ kv,kvs[i]? = some kv ∧ x = kV kv.1,fun i H=>H d = some (.frz o (.dK kvs)) ∧ kvs.length ≤ i⟩
section
variable {X:Cx} {tg:Expr}
end
end L2
namespace L2
open PySem PySem.Spec PyProof.Rows
section
variable {X:Cx}
theorem xB:eU X (.type "str") (fun xs H Q=>(∃ i,xs = [.int i] ∧ i.natAbs.log2 < 1920 ∧ Q (.str (toString i)) H) ∨ (∃ z,xs = [.str z] ∧ Q (.str z) H)):=by
 intro pins s σ H xs us Q I r h
 rcases h with ⟨i,rfl,hz,q⟩ | ⟨z,rfl,q⟩
 ·obtain ⟨u,rfl,t,rfl⟩:=rC r
  exact PySem.P.str_of_int hz ⟨.str _,H,I.tok _,⟨_,rfl⟩,q⟩
 ·obtain ⟨u,rfl,t,rfl⟩:=rC r
  exact PySem.P.str_of_str ⟨.str _,H,I.tok _,⟨_,rfl⟩,q⟩
inductive GEnts (w:World):List (Str × V) → List DictEntry → Prop
 | nil:GEnts w [] []
 | cons {k:Str} {v:V} {e:DictEntry} {r:List (Str × V)} {es:List DictEntry} (h:∃ t,e.hash = PyData.keyHash w.params k ∧ e.key = .str k t ∧ bO v e.val) (t:GEnts w r es):GEnts w ((k,v) :: r) (e :: es)
def gKV (ks:List (Str × V)):List (Key × V):=ks.map fun p=>(Sum.inr p.1,p.2)
end
end L2
namespace L2
open PySem PySem.Spec PyProof.Rows
theorem yR {F:PySem.W.Frag} {a:Addr} {xs:List V} {σb:St} {g:TG} {tt:TT} {te:TE} {fin:List V → Hp → Prop} {H:Hp} (hz:xs.length ≤ sizeLine) (Pv:Nat → List V → Hp → Prop) (h0:Pv 0 [] H)
  (hl:∀ i ys H,i ≤ xs.length → Pv i ys H → SqT F H a xs ∧ ys.length ≤ i)
  (hs:∀ i x ys H (K:VK) (K':Hp → Prop),xs[i]? = some x → Pv i ys H → (∀ y H4,Pv (i + 1) (ys ++ [y]) H4 → K y H4) → (∀ H3,Pv (i + 1) ys H3 → K' H3) →
   g x σb H fun σ2 H2=>tt σ2 H2 fun b H3=>if b = true then te σ2 H3 K else K' H3)
  (hd:∀ ys H,Pv xs.length ys H → fin ys H):∃ W:CW,(∃ m,W 0 m [] H) ∧ ∀ i m ys H,W i m ys H → uO σb (Itt F a) g tt te W fin i m ys H:=by
 refine ⟨fun i m ys H=>m = xs.length - i ∧ i ≤ xs.length ∧ Pv i ys H,⟨xs.length,by simp,Nat.zero_le _,h0⟩,?_⟩
 rintro i m ys H ⟨rfl,hi,p⟩
 obtain ⟨q,ql⟩:=hl i ys H hi p
 by_cases hlt:i < xs.length
 ·refine .inr ⟨⟨xs,xs[i],q,by simp [hlt]⟩,by omega,fun x H' y=>?_⟩
  obtain ⟨e,y⟩:=y
  subst e
  exact hs i x ys _ _ _ (y xs q) p (fun y H4 q=>⟨xs.length - (i + 1),by omega,rfl,hlt,q⟩) fun H3 q=>⟨xs.length - (i + 1),by omega,rfl,hlt,q⟩
 ·have e:i = xs.length:=by omega
  subst e
  exact .inl ⟨⟨xs,q,Nat.le_refl _⟩,hd ys H p⟩
end L2
namespace L2
open PySem PySem.Spec PyProof.Rows
section
variable {X:Cx} {K:PySem.W.Frag}
theorem sE {ex:Expr} {T:String} {r:V → List V → Hp → VK → Prop} {to:TE} {ta:TA} (e:X.K = K) (h:PE X ex (tBM X.K T r to ta)):PE X ex (tBM K T r to ta):=e ▸ h
theorem cO {tg l:Expr} {tl:TE} (e:X.K = K) (h:PI X tg l (aFF X.K tl)):PI X tg l (aFF K tl):=e ▸ h
theorem aIZ {pos:Pos} {es:List Expr} {k n:Nat} {t:TGs} (e:X.K = K) (m:Nat) (en:n = m) (h:PG X (.Tuple es k pos) (aFK X.K n t)):PG X (.Tuple es k pos) (aFK K m t):=by
 subst e
 subst en
 exact h
theorem cX {a b:TS} {D:Ends} {σ:St} {H:Hp} (h:∀ u:TS,(∀ D' σ' H',b D' σ' H' → u D' σ' H') → mV a u D σ H):mV a b D σ H:=h b fun _ _ _ x=>x
theorem nW {a1 a2 b:TS} {D:Ends} {σ:St} {H:Hp} (h:∀ u:TS,(∀ D' σ' H',b D' σ' H' → u D' σ' H') → mV a1 (mV a2 u) D σ H):mV a1 (mV a2 b) D σ H:=h b fun _ _ _ x=>x
theorem aEF {a1 a2 a3 a4 b:TS} {D:Ends} {σ:St} {H:Hp} (h:∀ u:TS,(∀ D' σ' H',b D' σ' H' → u D' σ' H') → mV a1 (mV a2 (mV a3 (mV a4 u))) D σ H):mV a1 (mV a2 (mV a3 (mV a4 b))) D σ H:=h b fun _ _ _ x=>x
end
end L2
namespace L2
open PySem PySem.Spec PyProof.Rows
section
variable {X:Cx}
end
end L2
namespace L2
open PySem PySem.Spec PyProof.Rows
def zS (K:PySem.W.Frag) (C:Addr) (vs:List V):Prop:=∀ v ∈ vs,∃ c,aDG v = some c ∧ PySem.W.kitOne K (.ref C) c = some false
theorem yJ {K:PySem.W.Frag} {C:Addr}:∀ {vs:List V} {us:List Value},zS K C vs → bB vs us → PySem.W.kitAny K (.ref C) us = some false
 | _,_,_,.nil=>rfl
 | v :: vs,u :: us,h,.cons r t=>by
  obtain ⟨c,hc,k⟩:=h v List.mem_cons_self
  obtain rfl:=tN hc r
  have ih:=yJ (fun v m=>h v (List.mem_cons_of_mem _ m)) t
  unfold PySem.W.kitAny
  rw [k]
  exact ih
theorem oU {X:Cx} {K:PySem.W.Frag} (eK:X.K = K):eU X (.builtin "isinstance") (fun xs H Q=>∃ a tp vs C,xs = [.ref a,.ref tp] ∧ H tp = some (.tup vs) ∧ H a = some (uF a (.ref C)) ∧ ExJ K C ∧ zS K C vs ∧ Q (.bl false) H):=by
 subst eK
 intro pins s σ H xs us Q I r h
 obtain ⟨a,tp,vs,C,rfl,ht,ha,e,k,q⟩:=h
 obtain ⟨u,v,rfl,ru,rv⟩:=bB.two r
 cases ru
 cases rv
 obtain ⟨p,_,_⟩:=(show cN X.prog X.w H s.heap a (uF a (.ref C)) from I.hok a _ ha)
 obtain ⟨its,rv,pl,_⟩:=I.tuple (SqT.of ht)
 obtain ⟨o,ho,hc,n,hd⟩:=pl
 obtain ⟨oc,od,odt,os⟩:=o
 cases hc
 cases hd
 exact PySem.W.kia_tup (yK e) I.kIn p ho (yJ k rv) (fun z=>nomatch z) fun tk=>⟨.bl false,H,I.tok tk,rfl,q⟩
end L2
namespace L2
open PySem PySem.Spec PyProof.Rows
section
variable {X:Cx}
end
end L2
namespace L2
open PySem PySem.Spec PyProof.Rows
structure RoomH (k:Nat) (A:Around):Prop where
 dp:A.depth + 3 * k + 5 < recursionLimit
 un:A.units + 16 * k + 200 < cLine
structure FnOkH (P:Program) (w:World) (K:PySem.W.Frag) (mg:Str → Option Value) (base:Heap) (CX:CXT) (k:Nat) (f:Addr) (fd:FuncData) (ps:List Str) (sp:Sp):Prop where
 len:∀ vs H Q E,sp vs H Q E → vs.length = ps.length
 run:∀ (A:Around) (outer:List Env) (s:Shared) (H:Hp) (args:Args) (us:List Value) (vs:List V) (Q:VK) (E:XK),RoomH k A → Env0 P w K mg base A outer s H → BindsTo s fd args (ps.zip us) → bB vs us → sp vs H Q E →
  codeAny (model P w) A (.call (.ref f) args) (CR CX outer P w H s Q E) s
section
variable {X:Cx} {CX:CXT} {k:Nat} {f C:Addr} {fd:FuncData} {ps:List Str} {sp:Sp} {dvs:List V} {ds:List Value} {E:XK} {x m:Str} {p pos apos:Pos} {e o:Expr} {es:List Expr} {ta:TE} {t:TA}
end
structure FcH (P:Program) (w:World) (K:PySem.W.Frag) (mg:Str → Option Value) (base:Heap) (k:Nat) (x:Str) (ps:List Str) (sp:Sp):Prop where
 ex:∃ (f:Addr) (fd:FuncData),FnOkH P w K mg base CX0 k f fd ps sp ∧ gC K fd ps [] ∧ mg x = some (.ref f) ∧ PySem.W.keepIn K (.ref f) = true
end L2
namespace L2
open PySem PySem.Spec PyProof.Rows
def okV:V → Bool
 | .non=>true
 | .bl _=>true
 | .int _=>true
 | .str _=>true
 | .ref _=>true
 | _=>false
def EqV1 (H:Hp) (x y:V):Prop:=(x = y ∧ okV x = true) ∨ ∃ p q vs,x = .ref p ∧ y = .ref q ∧ H p = some (.lst vs) ∧ H q = some (.lst vs) ∧ vs.all okV = true
section
variable {X:Cx} {pins:List (Addr × Obj)} {σ:St} {H:Hp} {s:Shared}
open PySem.SeqAt
end
end L2
namespace L2
open PySem PySem.Spec PyProof.Rows
section
variable {X:Cx} {o i value:Expr} {pos pos':Pos} {td ty tv:TE}
def aKO (td ty tv:TE):TS:=fun D σ H=>tv σ H fun v H1=>td σ H1 fun x H2=>ty σ H2 fun y H3=>∃ (l:Addr) (xs:List V) (j:Nat),x = .ref l ∧ y = .int j ∧ H3 l = some (.lst xs) ∧ j < xs.length ∧ D.nx σ (upd H3 l (.lst (xs.set j v)))
theorem aGV (ho:PE X o td) (hi:PE X i ty) (hv:PE X value tv) (hs:swapsWith value (some (.Subscript o i pos')) pos.line X.env = pure false) :
  PS X (.Assign [.Subscript o i pos'] value pos) (aKO td ty tv):=by
 intro pins s σ H D I h
 refine wpAny_Assign_Subscript (thn (hv pins s σ H _ I h) fun r s1 ⟨v,H1,I1,rv,q1⟩=>thn (ho pins s1 σ H1 _ I1 q1) fun u s2 ⟨x,H2,I2,rx,q2⟩=>thn (hi pins s2 σ H2 _ I2 q2) fun iv s3 ⟨y,H3,I3,ry,l,xs,j,ex,ey,hl,hj,q3⟩=>?_) hs
 subst ex ey
 cases rx
 obtain ⟨t,rfl⟩:=ry
 obtain ⟨z,its,n,rr,hlen,e⟩:=I3.lstM hl
 have line:sizeLine < 4611686018427387904:=by decide
 refine PySem.W.ki_setAt e (Int.natCast_nonneg j) (by omega) (by rw [List.size_toArray];omega) ?_
 refine ⟨σ,_,I3.lset (t':=s3.toks) (its':=its.set j r) (ys:=xs.set j v) hl e ?_ (bB.set rv j rr) (by rw [List.length_set];exact z),q3⟩
 rw [Int.toNat_natCast]
 apply Array.toList_inj.mp
 simp
end
end L2
namespace L2
open PySem PySem.Spec PyProof.Rows
structure Kept (a0 c:Value) (vs:Array Value):Prop where
 a:vs[0]? = some a0
 c:vs[2]? = some c
theorem Kept.put {a0 c x:Value} {vs:Array Value} (k:Kept a0 c vs):Kept a0 c (vs.setIfInBounds 1 x) :=
 ⟨by rw [Array.getElem?_setIfInBounds_ne (by decide)];exact k.a,by rw [Array.getElem?_setIfInBounds_ne (by decide)];exact k.c⟩
structure Trk (h base:Heap) (e:Addr) (cls a0 c fl:Value) (oe:Obj) (vs:Array Value) (T:Addr) (oT:Obj) (ts:Array Value):Prop where
 he:h.get? e = some oe
 cl:oe.cls = cls
 kp:Kept a0 c vs
 hd:oe.data = .fields vs
 h1:vs[1]? = some (.ref T)
 nT:base.get? T = none
 ne:T ≠ e
 hT:h.get? T = some oT
 dT:oT.data = .fields ts
 h3:ts[3]? = some fl
def aJV (h base:Heap) (e:Addr) (cls a0 c fl:Value):Prop:=∃ oe vs T oT ts,Trk h base e cls a0 c fl oe vs T oT ts
theorem aJV.w {h base:Heap} {e:Addr} {cls a0 c fl:Value}:aJV h base e cls a0 c fl → h.TracedAtW base e cls a0 fl
 | ⟨oe,vs,T,oT,ts,t⟩=>⟨oe,vs,T,oT,ts,t.he,⟨t.cl,t.kp.a⟩,t.hd,t.h1,t.nT,t.ne,t.hT,t.dT,t.h3⟩
def qO (base:Heap) (l:List Env) (e:Addr) (cls a0 c fl:Value) (h:Heap):Prop:=base.StaysIn h ∧ base.get? e = none ∧ h.FunFrames base l ∧ aJV h base e cls a0 c fl
theorem qO.w {base:Heap} {l:List Env} {e:Addr} {cls a0 c:Value} {h:Heap} (x:qO base l e cls a0 c .none h):Heap.FlyingW base l e cls a0 h:=⟨x.1,x.2.1,x.2.2.1,x.2.2.2.w⟩
section
variable {M:Model} {A:Around} {E:Value → Shared → Prop} {s:Shared} {base:Heap} {env:Env} {outer l:List Env} {L e:Addr} {cls a0 c fl:Value}
theorem wT {oe:Obj} {vs:Array Value} {head:Value} {hadNext:Bool} {Q:Unit → Shared → Prop} (hfr:A.frames = some (env :: outer)) (hl:s.heap.FunFrames base (env :: outer)) (hf:env.frame = some L)
  (he:s.heap.get? e = some oe) (hkb:base.StaysIn s.heap) (hen:base.get? e = none) (hd:oe.data = .fields vs) (hsz:1 < vs.size) (kp:Kept a0 c vs)
  (h:∀ h',qO base (env :: outer) e oe.cls a0 c (rawInt L) h' → s.heap.UpToSlots h' → Q () { s with heap:=h' }) :
  wpAny M A (do let a ← frameOf env;let pl ← entryPlaceOf L hadNext;let b ← EntryCells.newEntry head a .none (rawInt L) .none pl;setField (.ref e) 1 b) Q E s:=by
 have rec_ne:∀ b o,s.heap.get? b = some o → (∀ vs,o.data ≠ .fields vs) → b ≠ e:=fun b o hb hnf q=>by
  rw [q,he] at hb
  cases hb
  exact hnf vs hd
 have nfr:e ∉ (env :: outer).filterMap (·.frame):=fun hm=>by
  obtain ⟨_,o,ho,hnf⟩:=hl.mem hm
  exact rec_ne e o ho hnf rfl
 refine wpAny_bind (wpAny_frameOf_fun hfr hl hf fun h1 hs=>wpAny_bind (wpAny_entryPlaceOf fun pl hpl=>?_))
 unfold EntryCells.newEntry newFields
 refine wpAny_bind (wpAny_newObj_type ?_ (hpl.sizeOk5 _ _ _ _ _))
 generalize hob:({ cls:=.type "traceback",dict:=none,data:=.fields ([head,.ref L,.none,rawInt L,.none] ++ (if pl.isEmpty then List.replicate 6 Value.none else pl)).toArray }:Obj) = ob
 have he1:h1.get? e = some oe:=(hs.2.1 e nfr).trans he
 have kb1:base.StaysIn h1:=fun b o hbo=>(hs.2.1 b fun hm=>by rw [(hl.mem hm).1] at hbo;cases hbo).trans (hkb b o hbo)
 have hTe:h1.objs.size ≠ e:=Nat.ne_of_gt (Heap.lt_size he1)
 have d3:=Obj.data_mapFields hd (·.setIfInBounds 1 (Value.ref h1.objs.size))
 have e3:=Heap.get?_update_self (Obj.mapFields (·.setIfInBounds 1 (Value.ref h1.objs.size))) (Heap.get?_push_of_some ob he1) (Obj.isFreed_of_fields d3)
 have keep:∀ b o,b ≠ e → h1.get? b = some o → ((h1.push ob).update e (Obj.mapFields (·.setIfInBounds 1 (Value.ref h1.objs.size)))).get? b = some o:=fun b o hbe hb=>by
  rw [Heap.get?_update_other _ _ (Ne.symm hbe)]
  exact Heap.get?_push_of_some _ hb
 have hT:((h1.push ob).update e (Obj.mapFields (·.setIfInBounds 1 (Value.ref h1.objs.size)))).get? h1.objs.size = some ob:=by
  rw [Heap.get?_update_other _ _ (Ne.symm hTe)]
  exact Heap.get?_push_size h1 (by rw [← hob];rfl)
 have us:s.heap.UpToSlots ((h1.push ob).update e (Obj.mapFields (·.setIfInBounds 1 (Value.ref h1.objs.size)))):=fun b o hb hnf=>by
  obtain ⟨sl,q⟩:=hs.2.2 b o hb
  exact ⟨sl,keep b _ (rec_ne b o hb hnf) q⟩
 refine wpAny_setField (Heap.get?_push_of_some ob he1) hd hsz (h _ ⟨fun b o hbo=>keep b o (fun q=>by rw [q,hen] at hbo;cases hbo) (kb1 b o hbo),hen,hl.of_keeps fun b o hb hnf=>?_,?_⟩ us)
 ·obtain ⟨sl,q⟩:=us b o hb hnf
  exact ⟨_,q,rfl⟩
 ·exact ⟨_,_,h1.objs.size,ob,_,e3,Obj.cls_mapFields _ _,kp.put,d3,by simp [hsz],kb1.fresh,hTe,hT,by rw [← hob],by first | (simp;done) | (rcases hpl with rfl | ⟨_,_,_,_,_,_,_,rfl⟩ <;> simp)⟩
theorem aJO {Q:Unit → Shared → Prop} (hfr:A.frames = some (env :: outer)) (hf:env.frame = some L) (x:qO base (env :: outer) e cls a0 c .none s.heap)
  (h:∀ h',qO base (env :: outer) e cls a0 c (rawInt L) h' → s.heap.UpToSlots h' → Q () { s with heap:=h' }):wpAny M A (noteFrame (.ref e) env) Q E s:=by
 obtain ⟨hkb,hen,hl,oe,vs,T,oT,ts,t⟩:=x
 obtain ⟨he,cl,kp,hd,h1,nT,ne,hT,dT,h3⟩:=t
 subst cl
 unfold noteFrame
 simp only [hf]
 refine wpAny_bind (wpAny_field he hd h1 ?_)
 rw [if_pos (show (Value.ref T != Value.none) = true from by simp)]
 refine wpAny_bind (wpAny_field hT dT h3 ?_)
 rw [if_neg (show ¬ ((Value.none == rawInt L) = true) from by simp [rawInt])]
 refine wpAny_bind (wpAny_setField hT dT (Array.getElem?_eq_some_iff.mp h3).1 ?_)
 have oth:∀ b,b ≠ T → (s.heap.update T (Obj.mapFields (·.setIfInBounds 3 Value.none))).get? b = s.heap.get? b:=fun b hb=>Heap.get?_update_other _ _ (Ne.symm hb)
 have us:s.heap.UpToSlots (s.heap.update T (Obj.mapFields (·.setIfInBounds 3 Value.none))):=fun b o hb hnf=>⟨o.slots,(oth b fun q=>by rw [q,hT] at hb;cases hb;exact hnf ts dT).trans hb⟩
 refine wT hfr (hl.of_keeps fun b o hb hnf=>?_) hf ((oth e (Ne.symm ne)).trans he) (fun b o hbo=>(oth b fun q=>by rw [q,nT] at hbo;cases hbo).trans (hkb b o hbo)) hen hd (Array.getElem?_eq_some_iff.mp h1).1 kp
  fun h' y us'=>h h' y (us.trans us')
 obtain ⟨sl,q⟩:=us b o hb hnf
 exact ⟨_,q,rfl⟩
theorem lO {fr:Option Addr} {Q:Unit → Shared → Prop} (x:qO base l e cls a0 c fl s.heap) (h:∀ h',qO base l e cls a0 c (fr.elim .none fun f=>rawInt f) h' → s.heap.UpToSlots h' → Q () { s with heap:=h' }):wpAny M A (setFlight (.ref e) fr) Q E s:=by
 obtain ⟨hkb,hen,hl,oe,vs,T,oT,ts,t⟩:=x
 obtain ⟨he,cl,kp,hd,h1,nT,ne,hT,dT,h3⟩:=t
 have sz:3 < ts.size:=(Array.getElem?_eq_some_iff.mp h3).1
 unfold setFlight
 refine wpAny_bind (wpAny_field he hd h1 ?_)
 rw [if_pos (show (Value.ref T != Value.none) = true from by simp)]
 have oth:∀ b,b ≠ T → (s.heap.update T (Obj.mapFields (·.setIfInBounds 3 (fr.elim Value.none fun f=>rawInt f)))).get? b = s.heap.get? b:=fun b hb=>Heap.get?_update_other _ _ (Ne.symm hb)
 have us:s.heap.UpToSlots (s.heap.update T (Obj.mapFields (·.setIfInBounds 3 (fr.elim Value.none fun f=>rawInt f)))):=fun b o hb hnf=>⟨o.slots,(oth b fun q=>by rw [q,hT] at hb;cases hb;exact hnf ts dT).trans hb⟩
 refine wpAny_setField hT dT sz (h _ ⟨fun b o hbo=>(oth b fun q=>by rw [q,nT] at hbo;cases hbo).trans (hkb b o hbo),hen,hl.of_keeps fun b o hb hnf=>?_,?_⟩ us)
 ·obtain ⟨sl,q⟩:=us b o hb hnf
  exact ⟨_,q,rfl⟩
 ·exact ⟨oe,vs,T,_,_,(oth e (Ne.symm ne)).trans he,cl,kp,hd,h1,nT,ne,Heap.get?_update_self _ hT (Obj.isFreed_of_fields (Obj.data_mapFields dT _)),Obj.data_mapFields dT _,by simp [sz]⟩
theorem aHI {Q:Unit → Shared → Prop} (hf:env.frame = some L) (x:qO base (env :: outer) e cls a0 c (rawInt L) s.heap) (h:∀ h',qO base outer e cls a0 c .none h' → s.heap.UpToSlots h' → Q () { s with heap:=h' }):wpAny M A (leaving env (.ref e)) Q E s:=by
 obtain ⟨hkb,hen,hl,oe,vs,T,oT,ts,t⟩:=id x
 unfold leaving noteFrame
 simp only [hf]
 refine wpAny_bind (wpAny_bind (wpAny_field t.he t.hd t.h1 ?_))
 rw [if_pos (show (Value.ref T != Value.none) = true from by simp)]
 refine wpAny_bind (wpAny_field t.hT t.dT t.h3 ?_)
 rw [if_pos (show (rawInt L == rawInt L) = true from by simp)]
 refine wpAny_pure (lO (fr:=none) x fun h' ⟨p1,p2,⟨_,_,p3⟩,p4⟩ us=>h h' ⟨p1,p2,p3,p4⟩ us)
theorem aHJ {h:Heap} {args:List Value} {Q:Unit → Shared → Prop} (hfr:A.frames = some (env :: outer)) (hf:env.frame = some L) (hkb:base.StaysIn h) (hl:h.FunFrames base (env :: outer)) (hx:Heap.MadeExcOf h s.heap e cls args)
  (hQ:∀ h' t,qO base outer e cls (.ref t) .none .none h' → s.heap.UpToSlots h' → Q () { s with heap:=h' }):wpAny M A (leaving env (.ref e)) Q E s:=by
 obtain ⟨t,he,htn,ht⟩:=hx.there
 have fresh:∀ b,h.get? b = none → base.get? b = none:=fun b hb=>by
  cases hq:base.get? b with
  | none=>rfl
  | some o'=>have:=hkb b o' hq;rw [hb] at this;cases this
 unfold leaving noteFrame
 simp only [hf]
 refine wpAny_bind (wpAny_bind (wpAny_field he rfl (x:=.none) rfl ?_))
 rw [if_neg (by decide)]
 refine wT (a0:=.ref t) (c:=.none) hfr (hl.of_keeps fun b o hb _=>⟨o,hx.keeps b o hb,rfl⟩) hf he (fun b o hb=>hx.keeps b o (hkb b o hb)) (fresh e hx.new) rfl (by show 1 < 6;decide) ⟨rfl,rfl⟩ fun h1 y1 us1=>?_
 refine lO (fr:=none) (s:={ s with heap:=h1 }) y1 fun h2 y2 us2=>?_
 obtain ⟨p1,p2,⟨_,_,p3⟩,p4⟩:=y2
 exact hQ h2 t ⟨p1,p2,p3,p4⟩ (us1.trans us2)
end
end L2
namespace L2
open PySem PySem.Spec PyProof.Rows
def CX3 (P:Program) (w:World):CXT:=fun outer H s E e s'=>∃ (ea:Addr) (cls a0:Value) (B:Heap) (H':Hp),e = .ref ea ∧ s'.os = s.os ∧ AllBare s'.gens ∧ Un (frs outer) [] H H' s.heap s'.heap ∧ HOk P w H' s'.heap ∧
 qO B outer ea cls a0 .none .none s'.heap ∧ (∀ b o o',s.heap.get? b = some o → s'.heap.get? b = some o' → b ∉ frs outer → B.get? b = some o') ∧ (∀ b o',H' b ≠ none → s'.heap.get? b = some o' → B.get? b = some o') ∧ E cls none H'
section
variable {P:Program} {w:World} {K:PySem.W.Frag} {mg:Str → Option Value} {base:Heap} {N:List Str} {qual:Str} {scope:Scope} {f:Addr} {cd:Value} {A:Around} {outer:List Env} {s:Shared} {H:Hp} {E:XK}
theorem aGP {pins:List (Addr × Obj)} {σ:St} {H1:Hp} {s1:Shared} {h1:Heap} {e:Addr} {cls:Value} {args:List Value} (I:Inv (hJ (CX3 P w) P w K mg base N qual scope f cd A outer s H E) pins σ H1 s1) (hx:Heap.MadeExcOf s1.heap h1 e cls args) (q:E cls none H1) :
  (hJ (CX3 P w) P w K mg base N qual scope f cd A outer s H E).xe (.ref e) { s1 with heap:=h1 }:=by
 have S:s1.heap.FunFrames base (envOfC qual scope s.heap.objs.size f cd :: outer):=I.stack
 have hin:∀ v ∈ envOfC qual scope s.heap.objs.size f cd :: outer,∀ b,v.frame = some b → b ∈ frs (envOfC qual scope s.heap.objs.size f cd :: outer):=fun v hv b hb=>List.mem_filterMap.mpr ⟨v,hv,hb⟩
 refine aHJ (base:=PySem.W.hideAll s1.heap (frs (envOfC qual scope s.heap.objs.size f cd :: outer))) (h:=s1.heap) (env:=envOfC qual scope s.heap.objs.size f cd) (outer:=outer) I.ok.frames rfl (fun b o z=>PySem.W.of_hideAll _ z) (PySem.W.funFrames_hide S hin) hx fun h2 t fl us=>?_
 have hB:∀ b o o',s1.heap.get? b = some o → h1.get? b = some o' → b ∉ frs (envOfC qual scope s.heap.objs.size f cd :: outer) → (PySem.W.hideAll s1.heap (frs (envOfC qual scope s.heap.objs.size f cd :: outer))).get? b = some o':=fun b o o' e1 e2 nb=>by
  have e3:=hx.keeps b o e1
  rw [e2] at e3
  cases e3
  exact PySem.W.hideAll_get _ e1 nb
 have hT:∀ b o',H1 b ≠ none → h1.get? b = some o' → (PySem.W.hideAll s1.heap (frs (envOfC qual scope s.heap.objs.size f cd :: outer))).get? b = some o':=fun b o' n e2=>by
  obtain ⟨o,e1⟩:=I.hok.has n
  have e3:=hx.keeps b o e1
  rw [e2] at e3
  cases e3
  exact PySem.W.hideAll_get _ e1 fun z=>n (I.stkFree b z)
 have J:=mJ (s':={ s1 with heap:=h1 }) (h2:=h2) I rfl I.bare (Un.kept hx.keeps) (I.hok.kept hx.keeps) hB hT fl.1 us
 refine ⟨e,cls,.ref t,_,H1,rfl,J.os,J.bare,J.base,J.hok,fl,fun b o o' e1 e2 nb=>?_,fun b o' n e2=>?_,q⟩
 ·obtain ⟨o1,e3⟩:=I.base.there b o e1 (fun z=>absurd z (by simp [hJ]))
  have hb:b ∉ frs (envOfC qual scope s.heap.objs.size f cd :: outer):=fun z=>by
   have lt:b < s.heap.objs.size:=Heap.lt_size e1
   have z':b ∈ s.heap.objs.size :: frs outer:=z
   rcases List.mem_cons.mp z' with r | r
   ·exact absurd lt (by rw [r];exact Nat.lt_irrefl _)
   ·exact nb r
  have e4:=hB b o1 o1 e3 (hx.keeps b o1 e3) hb
  have e5:=fl.1 b o1 e4
  rw [show h2.get? b = some o' from e2] at e5
  cases e5
  exact e4
 ·obtain ⟨o,e1⟩:=I.hok.has n
  have e4:=hT b o n (hx.keeps b o e1)
  have e5:=fl.1 b o e4
  rw [show h2.get? b = some o' from e2] at e5
  cases e5
  exact e4
theorem sC:aAN (hJ (CX3 P w) P w K mg base N qual scope f cd A outer s H E) E:=fun _ _ _ _ _ _ _ _ I hx q=>aGP I hx q
end
structure Ic3 (P:Program) (w:World) (K:PySem.W.Frag) (mg:Str → Option Value) (base:Heap) (k:Nat) (C:Addr) (ps:List Str) (sp:Sp):Prop where
 ex:∃ (f:Addr) (fd:FuncData),FnOk P w K mg base (CX3 P w) k f fd ps sp ∧ gC K fd ps [] ∧ Mk K C f
section
variable {P:Program} {w:World} {K:PySem.W.Frag} {mg:Str → Option Value} {base:Heap} {C:Addr} {qual:Str} {st:Stmt} {N ps:List Str} {k:Nat} {sp sp':Sp}
theorem InitAt.ic3 (D:InitAt K C qual st ps) (S:FnScope N ps (aE st)) (len:∀ vs H Q E,sp vs H Q E → vs.length = ps.length)
  (hbody:∀ (f:Addr) (cdv:Value) (A:Around) (outer:List Env) (s:Shared) (H:Hp) (vs:List V) (Q:VK) (E:XK),Room k (A.deeper (envOfC qual (aE st) s.heap.objs.size f cdv)) → sp vs H Q E →
   ∃ t,PSs (hJ (CX3 P w) P w K mg base N qual (aE st) f cdv A outer s H E) (aK st) t ∧ t { nx:=fun _ H'=>Q .non H',rt:=Q } (iD N vs) H):Ic3 P w K mg base (k + 1) C ps sp:=by
 obtain ⟨f,fd,F,b,mm⟩:=D.ex
 refine ⟨f,fd,?_,b,mm⟩
 obtain ⟨oc,od,kV,doc,pm,an,cdv,ct,osl,rfl,lk,hcd⟩:=F.ex
 exact aFL lk hcd S len fun A outer s H vs Q E hr hsp=>hbody f cdv A outer s H vs Q E hr hsp
theorem Ic.up3 (F:Ic P w K mg base k C ps sp):Ic3 P w K mg base k C ps sp:=by
 obtain ⟨f,fd,G,b,mm⟩:=F.ex
 exact ⟨f,fd,G.up,b,mm⟩
end
def aLL (X:Cx) (pins:List (Addr × Obj)) (σ:St) (E:XK) (e:Value) (s':Shared):Prop:=∃ s1 H1,Inv X pins σ H1 s1 ∧ CX3 X.prog X.w X.stack H1 s1 E e s'
def PX3 (X:Cx) (e:Expr) (t:TX):Prop :=
 ∀ (pins:List (Addr × Obj)) (s:Shared) (σ:St) (H:Hp) (Q:VK) (E:XK),Inv X pins σ H s → t E σ H Q → wpAny (model X.prog X.w) X.A (eval e X.env) (EP X pins σ Q) (aLL X pins σ E) s
section
variable {X:Cx} {k:Nat} {f C:Addr} {fd:FuncData} {ps:List Str} {sp:Sp} {E:XK} {x:Str} {p pos:Pos} {e:Expr} {es:List Expr} {t:TA}
theorem uT {pins:List (Addr × Obj)} {σ:St} {H:Hp} {s:Shared} {Q:VK} {us:List Value} {vs:List V} (M:Mk X.K C f) (F:FnOk X.prog X.w X.K X.mg X.base (CX3 X.prog X.w) k f fd ps sp) (hr:Room (k + 1) X.A) (hb:gC X.K fd ps [])
  (I:Inv X pins σ H s) (r:bB vs us) (hq:sp (.ref (s.heap.objs.size + 1) :: vs) (upd (upd H s.heap.objs.size (.own (s.heap.objs.size + 1))) (s.heap.objs.size + 1) (.ins C s.heap.objs.size [])) (fun v H2=>v = .non ∧ Q (.ref (s.heap.objs.size + 1)) H2) E) :
  wpAny (model X.prog X.w) X.A (call (.ref C) us) (EP X pins σ Q) (aLL X pins σ E) s:=by
 have I2:=Inv.made (C:=C) I
 have r2:bB (V.ref (s.heap.objs.size + 1) :: vs) (Value.ref (s.heap.objs.size + 1) :: us):=.cons rfl r
 have hl:(Value.ref (s.heap.objs.size + 1) :: us ++ []).length = ps.length:=by
  rw [List.append_nil,← r2.length]
  exact F.len _ _ _ _ hq
 have hb':=hb _ (Value.ref (s.heap.objs.size + 1) :: us) I2.kIn hl
 rw [List.append_nil] at hb'
 refine wpAny_call (aEX (f:=f) I.kIn M.makes M.init (beq_iff_eq.mp M.fn) (codeAny_mono (F.run _ X.stack _ _ ⟨Value.ref (s.heap.objs.size + 1) :: us,[]⟩ (Value.ref (s.heap.objs.size + 1) :: us) _ _ E (hr.make C us [])
  (I2.env0.make C us []) hb' r2 hq) fun z s' hq'=>?_))
 cases z with
 | error e=>exact ⟨_,_,I2,hq'⟩
 | ok fl =>
  cases fl with
  | ret u =>
   obtain ⟨v,H',I3,rv,ev,q3⟩:=I2.after hq'
   subst ev
   exact ⟨rv,⟨V.ref (s.heap.objs.size + 1),H',I3,rfl,q3⟩⟩
  | next=>exact False.elim hq'
  | brk=>exact False.elim hq'
  | cont=>exact False.elim hq'
theorem aIX {sp':Sp} (hm:X.mg x = some (.ref C)) (F:Ic3 X.prog X.w X.K X.mg X.base k C ps sp) (F':Ic3 X.prog X.w X.K X.mg X.base k C ps sp') (hr:Room (k + 1) X.A) (ha:PA X.nox (e :: es) t) (hg:Gl X x:=by rfl) (hdb:(x == ("__debug__":Str)) = false:=by decide)
  (he:starEach (e :: es) X.env = (false,eval e X.env) :: starEach es X.env:=by rfl) (hpl:(backTo pos (starEach es X.env)).any (·.1) = false:=by rfl) :
  PX3 X (.Call (.Name x p) (e :: es) [] pos) (fun E=>aKH C (fun vs H Q E=>sp vs H Q E ∨ sp' vs H Q E) [] E t):=by
 intro pins s σ H Q E I h
 obtain ⟨f,fd,G,b,mm⟩:=F.ex
 obtain ⟨f',fd',G',b',mm'⟩:=F'.ex
 refine wpAny_Call_Name_kw (iV I hg hm ?_ hdb)
 refine PySem.W.callWith_K (h₀:=X.base) I.ok.mod.kin mm.kp (thn (ha.cat I h) fun us s1 ⟨vs,H1,I1,r,q⟩=>⟨I1.kIn,?_⟩) he hpl
 simp only [List.append_nil] at q
 rcases q (s1.heap.objs.size + 1) s1.heap.objs.size (I1.hok.fresh (Nat.le_succ _)) (I1.hok.fresh (Nat.le_refl _)) (Nat.ne_of_lt (Nat.lt_succ_self _)) with q | q
 ·exact uT mm G hr b I1 r q
 ·exact uT mm' G' hr b' I1 r q
end
end L2
namespace L2
open PySem PySem.Spec PyProof.Rows
theorem tT:entryFor table "proto.unchain" = some Builtin.«proto.unchain»:=entryFor_of_fast (by kernel_rfl)
theorem tS:plainId "proto.unchain" = true:=by decide +kernel
section
variable {P:Program} {w:World} {A:Around} {E:Value → Shared → Prop} {s:Shared} {ea e:Addr}
theorem tY {α:Type} {oa oe:Obj} {va ve:Array Value} {Q:α → Shared → Prop} (hh:A.handled = some (.ref ea)) (ne:e ≠ ea) (ha:s.heap.get? ea = some oa) (da:oa.data = .fields va) (h2:va[2]? = some .none)
  (he:s.heap.get? e = some oe) (de:oe.data = .fields ve) (hz:2 < ve.size) (h:E (.ref e) { s with heap:=s.heap.update e (Obj.mapFields (·.setIfInBounds 2 (.ref ea))) }):wpAny (model P w) A (raiseNew (.ref e):Sem α) Q E s:=by
 unfold raiseNew
 refine wpAny_bind (wpAny_handled ?_)
 rw [hh]
 dsimp only
 rw [if_pos (show (Value.ref ea != Value.ref e) = true from by simp [Ne.symm ne])]
 refine wpAny_bind (wpAny_holding (wpAny_runValue (codeAny_builtin tT ?_)))
 rw [Around.under_plainId tS _]
 unfold Builtin.«proto.unchain»
 dsimp only
 refine wpAny_bind (wpAny_field ha da h2 ?_)
 rw [if_pos (by decide)]
 refine wpAny_pure ?_
 show wpAny _ A (updateField e 2 (.ref ea) >>= fun _=>throw (.ref e)) Q E s
 refine wpAny_bind ?_
 unfold updateField
 refine wpAny_bind (wpAny_load he ?_)
 rw [de]
 dsimp only
 rw [if_pos hz]
 exact wpAny_update he (wpAny_throw h)
variable {env:Env} {nm q:Str} {C N:Addr} {bs bm:List Value} {hdct:Bool} {sn:List Str} {sub:List Value} {ab:Bool} {col:Option Bool} {dd:Option Addr} {k0 k1 k2 k3 k5:Option Value} {newId:String}
abbrev aIJ (C:Addr) (t ea:Addr):Obj:={ cls:=.ref C,data:=.fields #[.ref t,.none,.ref ea,.none,.bool true,.none] }
theorem sD {x c:Sem Value} {Q:Flow → Shared → Prop} (hbase:bm.contains (.type "BaseException") = true) (hh:A.handled = some (.ref ea))
  (h:wpAny (model P w) A x (fun v s₁=>∃ e t,v = .ref e ∧ s₁.heap.get? C = some (excClassObj nm q C N bs bm hdct sn sub ab col dd k0 k1 k2 k3 k5 newId) ∧
   s₁.heap.get? e = some { cls:=.ref C,data:=.fields #[.ref t,.none,.none,.none,.bool false,.none] } ∧ e ≠ ea ∧ (∃ oa va,s₁.heap.get? ea = some oa ∧ oa.data = .fields va ∧ va[2]? = some .none) ∧
   wpAny (model P w) A c (fun v s₂=>v = .none ∧ s₂ = s₁) E s₁ ∧
   ∀ h',(∀ b,b ≠ e → h'.get? b = s₁.heap.get? b) → h'.get? e = some (aIJ C t ea) → E (.ref e) { s₁ with heap:=h' }) E s) :
  wpAny (model P w) A (raiseStmt env (some x) (some c)) Q E s:=by
 have hcB:(Value.ref C :: bm).contains (.type "BaseException") = true:=by rw [List.contains_cons,hbase,Bool.or_true]
 unfold raiseStmt
 refine wpAny_bind (wpAny_mono h (fun v s₁ h₁=>?_) fun _ _ x=>x)
 obtain ⟨e,t,rfl,hC,he,ne,⟨oa,va,ha,da,h2⟩,hc,hE⟩:=h₁
 refine wpAny_bind (wpAny_holding (wpAny_mono hc (fun v s₂ h₂=>?_) fun _ _ x=>x))
 obtain ⟨rfl,rfl⟩:=h₂
 refine wpAny_bind (wpAny_pure ?_)
 refine wpAny_bind (wpAny_holding ?_)
 have h3:=Heap.get?_update_self (h:=s₂.heap) (Obj.mapFields (·.setIfInBounds 3 Value.none)) he rfl
 have h4:=Heap.get?_update_self (Obj.mapFields (·.setIfInBounds 4 (Value.bool true))) h3 rfl
 have o3:∀ b,b ≠ e → (s₂.heap.update e (Obj.mapFields (·.setIfInBounds 3 Value.none))).get? b = s₂.heap.get? b:=fun b hb=>Heap.get?_update_other _ _ (Ne.symm hb)
 have o4:∀ b,b ≠ e → ((s₂.heap.update e (Obj.mapFields (·.setIfInBounds 3 Value.none))).update e (Obj.mapFields (·.setIfInBounds 4 (Value.bool true)))).get? b = s₂.heap.get? b:=fun b hb=>(Heap.get?_update_other _ _ (Ne.symm hb)).trans (o3 b hb)
 have nC:C ≠ e:=fun q=>by rw [q,he] at hC;cases hC
 have hC4:=(o4 C nC).trans hC
 have ha4:=(o4 ea (Ne.symm ne)).trans ha
 have E1:wpAny (model P w) A (excFromValue (.ref e) "exceptions must derive from BaseException") (fun v s'=>v = .ref e ∧ s' = s₂) E s₂:=by
  unfold excFromValue
  obtain ⟨hp,g,d,tk,os⟩:=s₂
  repeat (first | exact ⟨rfl,rfl⟩ | with_reducible refine wpAny_loadPart_at he ?_ | with_reducible refine wpAny_loadPart_at hC ?_ | (with_reducible refine wpAny_isSubtype_exc hC ?_;rw [hcB]) | wp_step)
 refine wpAny_mono E1 (fun v s' hv=>?_) fun _ _ x=>x
 obtain ⟨rfl,rfl⟩:=hv
 show wpAny _ A (pure Value.none >>= _) Q E s'
 refine wpAny_bind (wpAny_pure ?_)
 refine wpAny_bind (wpAny_setField he rfl (by show 3 < 6;decide) ?_)
 refine wpAny_bind (wpAny_setField (s:={ s' with heap:=s'.heap.update e (Obj.mapFields (·.setIfInBounds 3 Value.none)) }) h3 rfl (by show 4 < 6;decide) ?_)
 have fin:wpAny (model P w) A (setFlight (.ref e) none >>= fun _=>(raiseNew (.ref e):Sem Flow)) Q E { s' with heap:=(s'.heap.update e (Obj.mapFields (·.setIfInBounds 3 Value.none))).update e (Obj.mapFields (·.setIfInBounds 4 (Value.bool true))) }:=by
  refine wpAny_bind ?_
  unfold setFlight
  refine wpAny_bind (wpAny_field h4 rfl (x:=.none) rfl ?_)
  rw [if_neg (by decide)]
  refine wpAny_pure ?_
  refine tY hh ne ha4 da h2 h4 rfl (by show 2 < 6;decide) (hE _ (fun b hb=>(Heap.get?_update_other _ _ (Ne.symm hb)).trans (o4 b hb)) ?_)
  exact Heap.get?_update_self _ h4 rfl
 generalize hs5:({ s' with heap:=(s'.heap.update e (Obj.mapFields (·.setIfInBounds 3 Value.none))).update e (Obj.mapFields (·.setIfInBounds 4 (Value.bool true))) }:Shared) = s5 at fin
 have hC5:s5.heap.get? C = some (excClassObj nm q C N bs bm hdct sn sub ab col dd k0 k1 k2 k3 k5 newId):=by rw [← hs5];exact hC4
 have he5:s5.heap.get? e = some { cls:=.ref C,data:=.fields #[.ref t,.none,.none,.none,.bool true,.none] }:=by rw [← hs5];exact h4
 clear hs5 h3 h4 o3 o4 hC4 ha4 E1 hE hc h ha
 have T1:wpAny (model P w) A (isType (.ref e)) (fun b s'=>b = false ∧ s' = s5) E s5:=by
  obtain ⟨hp,g,d,tk,os⟩:=s5
  repeat (first | exact ⟨rfl,rfl⟩ | with_reducible refine wpAny_loadPart_at he5 ?_ | with_reducible refine wpAny_loadPart_at hC5 ?_ | (with_reducible refine wpAny_isSubtype_exc hC5 ?_) | wp_step)
 have R1:wpAny (model P w) A (raisedInstance (.ref e)) (fun v s'=>v = .ref e ∧ s' = s5) E s5:=by
  obtain ⟨hp,g,d,tk,os⟩:=s5
  unfold raisedInstance
  repeat (first | exact ⟨rfl,rfl⟩ | with_reducible refine wpAny_loadPart_at he5 ?_ | with_reducible refine wpAny_loadPart_at hC5 ?_ | (with_reducible refine wpAny_isSubtype_exc hC5 ?_) | wp_step)
 dsimp only
 refine wpAny_bind (wpAny_mono T1 (fun b s6 hb=>?_) fun _ _ x=>x)
 obtain ⟨rfl,rfl⟩:=hb
 rw [if_neg Bool.false_ne_true]
 refine wpAny_bind (wpAny_mono R1 (fun v s7 hv=>?_) fun _ _ x=>x)
 obtain ⟨rfl,rfl⟩:=hv
 exact fin
variable {B initId:String} {bmB:List Value}
theorem aAO (F:ExcBaseFacts B newId initId bmB) {mN:Str → Option Value} {x:Str} {np cpos pos kp:Pos} {j:Nat} {args:List Expr} {Q:Flow → Shared → Prop}
  (hbase:bm.contains (.type "BaseException") = true) (hh:A.handled = some (.ref ea)) (hplain:(backTo cpos (starEach args env)).any (·.1) = false) (hni:mN "__init__" = none)
  (h:wpAny (model P w) A (eval (.Name x np) env) (fun f s₁=>f = .ref C ∧ wpAny (model P w) A (evalArgs (.ref C) true (backTo cpos (starEach args env)) [])
   (fun a s₂=>a.kw = [] ∧ a.pos.length ≤ sizeLine ∧ s₂.heap.get? C = some (excClassObj nm q C N bs bm hdct sn sub ab col dd k0 k1 k2 k3 k5 newId) ∧ s₂.heap.Ns N mN ∧ OwnTail s₂.heap bmB bm ∧
    (∃ oa va,s₂.heap.get? ea = some oa ∧ oa.data = .fields va ∧ va[2]? = some .none) ∧
    ∀ h' e t,(∀ b o,s₂.heap.get? b = some o → h'.get? b = some o) → s₂.heap.get? e = none → h'.get? e = some (aIJ C t ea) → E (.ref e) { s₂ with heap:=h' }) E s₁) E s) :
  wpAny (model P w) A (exec (.Raise (some (.Call (.Name x np) args [] cpos)) (some (.Constant .none j kp)) pos) env) Q E s:=by
 rw [arm_exec_Raise]
 simp only [evalOpt,Option.map]
 refine wpAny_bind (wpAny_standAt (sD (C:=C) (nm:=nm) (q:=q) (N:=N) (bs:=bs) (bm:=bm) (hdct:=hdct) (sn:=sn) (sub:=sub) (ab:=ab) (col:=col) (dd:=dd) (k0:=k0) (k1:=k1) (k2:=k2) (k3:=k3) (k5:=k5) (newId:=newId) hbase hh (wpAny_bind (wpAny_mono (wpAny_Call_ofName (wpAny_mono h (fun f s₁ h₁=>?_) fun _ _ x=>x)) (fun v s₃ h₃=>wpAny_bind (wpAny_standAt (wpAny_pure h₃))) fun _ _ x=>x))))
 obtain ⟨rfl,h₁⟩:=h₁
 unfold callWith
 refine wpAny_bind (wpAny_holding (wpAny_mono h₁ (fun a s₂ h₂=>wpAny_bind (wpAny_standAt ?_)) fun _ _ x=>x))
 obtain ⟨apos,akw⟩:=a
 obtain ⟨hkw,hlen,hC,hn,T,⟨oa,va,ha,da,hv⟩,h₂⟩:=h₂
 obtain rfl:akw = []:=hkw
 obtain ⟨hp,g,d,tk,os⟩:=s₂
 simp only [hplain]
 refine wpAny_bind (wpAny_keeperOf_exc hC ?_)
 refine wpAny_bind (wpAny_call_exc_subT (hrest:=hlen) F T hC hn hni fun h' e hm=>wpAny_bind (wpAny_holding (wpAny_point (wpAny_pure ?_))))
 obtain ⟨t,ht,_,_⟩:=hm.there
 have ne:e ≠ ea:=fun z=>by
  have:=hm.new
  rw [z] at this
  rw [this] at ha
  cases ha
 refine ⟨e,t,rfl,hm.keeps _ _ hC,ht,ne,⟨oa,va,hm.keeps _ _ ha,da,hv⟩,wpAny_bind (Constant_none (wpAny_bind (wpAny_standAt (wpAny_pure ⟨rfl,rfl⟩)))),fun h2 k1 k2=>h₂ h2 e t (fun b o e1=>?_) hm.new k2⟩
 rw [k1 b (fun z=>by rw [z] at e1;rw [hm.new] at e1;cases e1)]
 exact hm.keeps b o e1
end
end L2
namespace L2
open PySem PySem.Spec PyProof.Rows
def aBV (X:Cx) (E:XK):Prop:=∀ (pins:List (Addr × Obj)) (σ:St) (H:Hp) (s:Shared) (h1:Heap) (e:Addr) (cls a0 c:Value) (oe:Obj) (vs:Array Value) (A':Around),Inv X pins σ H s → (∀ b o,s.heap.get? b = some o → h1.get? b = some o) → s.heap.get? e = none →
 h1.get? e = some oe → oe.cls = cls → oe.data = .fields vs → vs[1]? = some .none → Kept a0 c vs → E cls none H → A'.frames = X.A.frames → notedBy (model X.prog X.w) A' X.env (fun x s2=>cameBackBy (model X.prog X.w) X.A X.env X.xe x s2) (.ref e) { s with heap:=h1 }
section
variable {P:Program} {w:World} {K:PySem.W.Frag} {mg:Str → Option Value} {base:Heap} {N:List Str} {qual:Str} {scope:Scope} {f:Addr} {cd:Value} {A:Around} {outer:List Env} {s:Shared} {H:Hp} {E:XK}
theorem zK:aBV (hJ (CX2 P w) P w K mg base N qual scope f cd A outer s H E) E:=by
 intro pins σ H1 s1 h1 e cls a0 c oe vs A' I keeps new he hcl hd hv1 kp q hfr
 subst hcl
 have S:s1.heap.FunFrames base (envOfC qual scope s.heap.objs.size f cd :: outer):=I.stack
 have hin:∀ v ∈ envOfC qual scope s.heap.objs.size f cd :: outer,∀ b,v.frame = some b → b ∈ frs (envOfC qual scope s.heap.objs.size f cd :: outer):=fun v hv b hb=>List.mem_filterMap.mpr ⟨v,hv,hb⟩
 generalize hBB:PySem.W.hideAll s1.heap (frs (envOfC qual scope s.heap.objs.size f cd :: outer)) = BB
 have stays:BB.StaysIn h1:=fun b o z=>keeps b o (PySem.W.of_hideAll _ (by rw [hBB];exact z))
 have ff:h1.FunFrames BB (envOfC qual scope s.heap.objs.size f cd :: outer):=(hBB ▸ PySem.W.funFrames_hide S hin:s1.heap.FunFrames BB _).of_keeps fun b o hb _=>⟨o,keeps b o hb,rfl⟩
 have nB:BB.get? e = none:=by
  cases z:BB.get? e with
  | none=>rfl
  | some o =>
   have:=PySem.W.of_hideAll _ (show (PySem.W.hideAll s1.heap (frs (envOfC qual scope s.heap.objs.size f cd :: outer))).get? e = some o by rw [hBB];exact z)
   rw [new] at this
   cases this
 have hB:∀ b o o',s1.heap.get? b = some o → h1.get? b = some o' → b ∉ frs (envOfC qual scope s.heap.objs.size f cd :: outer) → BB.get? b = some o':=fun b o o' e1 e2 nb=>by
  have e3:=keeps b o e1
  rw [e2] at e3
  cases e3
  rw [← hBB]
  exact PySem.W.hideAll_get _ e1 nb
 have hT:∀ b o',H1 b ≠ none → h1.get? b = some o' → BB.get? b = some o':=fun b o' n e2=>by
  obtain ⟨o,e1⟩:=I.hok.has n
  have e3:=keeps b o e1
  rw [e2] at e3
  cases e3
  rw [← hBB]
  exact PySem.W.hideAll_get _ e1 fun z=>n (I.stkFree b z)
 have hfr0:(A.deeper (envOfC qual scope s.heap.objs.size f cd)).frames = some (envOfC qual scope s.heap.objs.size f cd :: outer):=I.ok.frames
 have hfr1:A'.frames = some (envOfC qual scope s.heap.objs.size f cd :: outer):=hfr.trans hfr0
 show wpAny _ A' (noteFrame (.ref e) (envOfC qual scope s.heap.objs.size f cd)) _ _ _
 have hf:(envOfC qual scope s.heap.objs.size f cd).frame = some s.heap.objs.size:=rfl
 unfold noteFrame
 simp only [hf]
 refine wpAny_bind (wpAny_field he hd hv1 ?_)
 rw [if_neg (by decide)]
 refine wT (s:={ s1 with heap:=h1 }) hfr1 ff hf he stays nB hd (Array.getElem?_eq_some_iff.mp hv1).1 kp fun h2 y2 us2=>?_
 show wpAny _ _ _ _ _ _
 obtain ⟨oe2,vs2,T2,oT2,ts2,t2⟩:=y2.2.2.2
 refine wpAny_bind (wpAny_field (s:={ s1 with heap:=h2 }) t2.he t2.hd t2.h1 ?_)
 rw [if_neg (show ¬ ((Value.ref T2 == Value.none) = true) from by simp)]
 refine lO (fr:=some s.heap.objs.size) (s:={ s1 with heap:=h2 }) y2 fun h3 y3 us3=>?_
 refine aHI (s:={ s1 with heap:=h3 }) hf y3 fun h4 y4 us4=>?_
 have us:=(us2.trans us3).trans us4
 have J:=mJ (s':={ s1 with heap:=h1 }) (h2:=h4) I rfl I.bare (Un.kept keeps) (I.hok.kept keeps) hB hT y4.1 us
 refine ⟨e,oe.cls,a0,BB,H1,rfl,J.os,J.bare,J.base,J.hok,y4.w,fun b o o' e1 e2 nb=>?_,fun b o' n e2=>?_,q⟩
 ·obtain ⟨o1,e3⟩:=I.base.there b o e1 (fun z=>absurd z (by simp [hJ]))
  have hb:b ∉ frs (envOfC qual scope s.heap.objs.size f cd :: outer):=fun z=>by
   have lt:b < s.heap.objs.size:=Heap.lt_size e1
   have z':b ∈ s.heap.objs.size :: frs outer:=z
   rcases List.mem_cons.mp z' with r | r
   ·exact absurd lt (by rw [r];exact Nat.lt_irrefl _)
   ·exact nb r
  have e4:=hB b o1 o1 e3 (keeps b o1 e3) hb
  have e5:=y4.1 b o1 e4
  rw [show h4.get? b = some o' from e2] at e5
  cases e5
  exact e4
 ·obtain ⟨o,e1⟩:=I.hok.has n
  have e4:=hT b o n (keeps b o e1)
  have e5:=y4.1 b o e4
  rw [show h4.get? b = some o' from e2] at e5
  cases e5
  exact e4
end
end L2
namespace L2
open PySem PySem.Spec PyProof.Rows
section
variable {X:Cx} {C C2:Addr} {x y:Str} {np yp rpos cpos kp qpos hpos pos:Pos} {j:Nat} {e ae:Expr} {aes:List Expr} {te:TX} {ta:TA} {E:XK}
def aKA (K:PySem.W.Frag) (C C2:Addr) (E:XK) (te:TX) (ta:TA):TS:=fun D σ H=>aKD (te (fun cls _ H1=>PySem.W.exmOne K cls (.ref C) = some true ∧ ta σ H1 fun vs H2=>vs.length ≤ sizeLine ∧ E (.ref C2) none H2)) D σ H
theorem aGT (hm:X.mg x = some (.ref C)) (hm2:X.mg y = some (.ref C2)) (EC:ExcC X.K C2) (R:aBV X E) (hx:PX3 X e te) (ha:∀ ea,PA (X.held ea) (ae :: aes) ta)
  (hg:Gl X x:=by rfl) (hdb:(x == ("__debug__":Str)) = false:=by decide) (hg2:Gl X y:=by rfl) (hdb2:(y == ("__debug__":Str)) = false:=by decide)
  (he:starEach (ae :: aes) X.env = (false,eval ae X.env) :: starEach aes X.env:=by rfl) (hpl:(backTo cpos (starEach aes X.env)).any (·.1) = false:=by rfl)
  (hst:X.stack = X.env :: X.outer:=by rfl) (hf:X.env.frame = some X.env.locals:=by rfl) :
  PS X (.Try [.Return (some e) rpos] [.ExceptHandler (some (.Name x np)) none [.Raise (some (.Call (.Name y yp) (ae :: aes) [] cpos)) (some (.Constant .none j kp)) qpos] hpos] [] [] pos) (aKA X.K C C2 E te ta):=by
 intro pins s σ H D I h
 refine wpAny_Try_except (wpAny_execs_cons (wpAny_Return_some (wpAny_mono (hx pins s σ H _ _ I h) (fun v s1 ⟨yv,H1,I1,r1,q1⟩=>?_) fun e0 s1 q=>?_)))
 ·exact ⟨yv,σ,H1,I1,r1,q1⟩
 ·obtain ⟨s0,H0,I0,ea,cls,a0,B,H',rfl,os,bare,u,ok,fl,hB,hT,em,q⟩:=q
  have hfr:X.A.frames = some (X.env :: X.outer):=hst ▸ I.ok.frames
  have fl':qO B (X.env :: X.outer) ea cls a0 .none .none s1.heap:=hst ▸ fl
  refine aJO hfr hf fl' fun h4 y4 us4=>?_
  refine lO (fr:=none) (s:={ s1 with heap:=h4 }) y4 fun h5 y5 us5=>?_
  have J5:=mJ I0 os bare u ok hB hT y5.1 (us4.trans us5)
  refine wpAny_handleBy_cons (codeAny_handlers_test (iV (X:=X.held ea) (J5.held ea) hg hm ?_ hdb)) (by intro z;cases z)
  refine (PySem.W.exm_one J5.kIn (vD y5.w) em).here ?_
  refine codeAny_handlers_suite ?_
  refine lO (fr:=none) (s:={ s1 with heap:=h5 }) y5 fun h6 y6 us6=>?_
  have J6:=mJ I0 os bare u ok hB hT y6.1 ((us4.trans us5).trans us6)
  obtain ⟨oe,vs6,T6,oT6,ts6,t6⟩:=y6.2.2.2
  have nfr:ea ∉ frs X.stack:=fun z=>by
   have z':ea ∈ (X.env :: X.outer).filterMap (·.frame):=hst ▸ z
   obtain ⟨_,o1,e1,nd⟩:=y6.2.2.1.mem z'
   rw [t6.he] at e1
   cases e1
   exact nd vs6 t6.hd
  have nH:H' ea = none:=by
   cases z:H' ea with
   | none=>rfl
   | some o =>
    have z':H' ea ≠ none:=by rw [z];simp
    obtain ⟨o2,e2⟩:=ok.has z'
    have:=hT ea o2 z' e2
    rw [fl.2.1] at this
    cases this
  have J7:Inv X ((ea,oe) :: pins) σ H' { s1 with heap:=h6 }:=⟨J6.ok,J6.os,J6.bare,J6.base,J6.loc,J6.cell,J6.free,J6.freeC,fun p hp=>?_,J6.hok,J6.len⟩
  ·obtain ⟨tl,N,nm,qn,bs,hdct,sn,sub,ab,col,dd,k0,k1,k2,k3,k5,mN,hC,hN,hni,T⟩:=(EC.own I.ok.mod.kin hm2).obj
   refine wpAny_execs_cons (aAO (ea:=ea) (C:=C2) (N:=N) (nm:=nm) (q:=qn) (bs:=bs) (bm:=tl) (hdct:=hdct) (sn:=sn) (sub:=sub) (ab:=ab) (col:=col) (dd:=dd) (k0:=k0) (k1:=k1) (k2:=k2) (k3:=k3) (k5:=k5)
    PySem.F.excBase_ValueError (mN:=mN) (T.hasType PySem.F.excBase_ValueError.hasBase) rfl ?_ hni (iV (X:=X.held ea) (J7.held ea) hg2 hm2 ⟨rfl,?_⟩ hdb2))
   ·rw [he]
    show (false || (backTo cpos (starEach aes X.env)).any (·.1)) = false
    rw [hpl]
    rfl
   ·have g:=ha ea cpos ((ea,oe) :: pins) _ σ H' _ (J7.held ea) q
    rw [he] at g ⊢
    refine Calls.evalArgs_plain (wpAny_mono g (fun us s2 ⟨vs,H2,I2,rv,hz,q2⟩=>?_) fun _ _ z=>False.elim z)
    have pn:=I2.pin (ea,oe) (List.mem_append_right _ List.mem_cons_self)
    refine ⟨rfl,by rw [← rv.length];exact hz,I2.bk _ _ hC,hN.keeps I2.bk,T.keeps I2.bk,⟨oe,vs6,pn.1,t6.hd,t6.kp.c⟩,fun h7 e2 t2 k7 n7 r7=>?_⟩
    exact R ((ea,oe) :: pins) σ H2 s2 h7 e2 (.ref C2) (.ref t2) (.ref ea) _ _ _ (I2.unheld I.ok) k7 n7 r7 rfl rfl rfl ⟨rfl,rfl⟩ q2 rfl
  ·rcases List.mem_append.mp hp with hp | hp
   ·exact J6.pin p (List.mem_append_left _ hp)
   ·rcases List.mem_cons.mp hp with rfl | hp
    ·refine ⟨t6.he,nH,fun z=>nfr ?_,fun z=>?_,fun v z=>?_⟩
     ·rw [hst]
      have z':ea = X.env.locals:=z
      rw [z']
      exact List.mem_filterMap.mpr ⟨X.env,List.mem_cons_self,hf⟩
     ·refine nfr ?_
      rw [hst]
      obtain ⟨v,hv,hb⟩:=List.mem_filterMap.mp z
      exact List.mem_filterMap.mpr ⟨v,List.mem_cons_of_mem _ hv,hb⟩
     ·have:=t6.hd
      rw [z] at this
      cases this
    ·exact J6.pin p (List.mem_append_right _ hp)
end
end L2
namespace L2
open PySem PySem.Spec PyProof.Rows
section
variable {X:Cx}
end
end L2
namespace K12
open PySem L2
local macro_rules | `(tactic| trivial)=>`(tactic| first | exact .inl rfl | exact .inr rfl | assumption)
def top (i:Nat):Stmt:=PySem.Challenge.pw_dykemoot_k12_texts_of_no_land.main.body.getD i (.Pass ⟨0,0,0,0⟩)
abbrev nZ:Stmt:=top 0
abbrev fT:Stmt:=top 27
theorem tV:FnScope ["thing"] ["thing"] (aE fT):=⟨rfl,rfl,rfl,by decide +kernel,rfl,by decide +kernel,by decide +kernel⟩
abbrev gS:Stmt:=top 28
theorem wF:FnScope ["thing"] ["thing"] (aE gS):=⟨rfl,rfl,rfl,by decide +kernel,rfl,by decide +kernel,by decide +kernel⟩
abbrev eZ:Stmt:=top 29
theorem rW:FnScope ["thing"] ["thing"] (aE eZ):=⟨rfl,rfl,rfl,by decide +kernel,rfl,by decide +kernel,by decide +kernel⟩
abbrev fA:Stmt:=top 30
theorem rX:FnScope ["thing"] ["thing"] (aE fA):=⟨rfl,rfl,rfl,by decide +kernel,rfl,by decide +kernel,by decide +kernel⟩
abbrev eY:Stmt:=top 31
theorem rV:FnScope ["thing","names"] ["thing","names"] (aE eY):=⟨rfl,rfl,rfl,by decide +kernel,rfl,by decide +kernel,by decide +kernel⟩
abbrev eN:Stmt:=top 32
theorem qG:FnScope ["thing","most"] ["thing","most"] (aE eN):=⟨rfl,rfl,rfl,by decide +kernel,rfl,by decide +kernel,by decide +kernel⟩
abbrev eA:Stmt:=top 33
theorem pB:FnScope ["thing","length"] ["thing","length"] (aE eA):=⟨rfl,rfl,rfl,by decide +kernel,rfl,by decide +kernel,by decide +kernel⟩
abbrev eM:Stmt:=top 34
theorem qF:FnScope ["rows"] ["rows"] (aE eM):=⟨rfl,rfl,rfl,by decide +kernel,rfl,by decide +kernel,by decide +kernel⟩
abbrev fU:Stmt:=top 35
theorem tW:FnScope ["thing"] ["thing"] (aE fU):=⟨rfl,rfl,rfl,by decide +kernel,rfl,by decide +kernel,by decide +kernel⟩
abbrev eO:Stmt:=top 36
theorem qH:FnScope ["thing"] ["thing"] (aE eO):=⟨rfl,rfl,rfl,by decide +kernel,rfl,by decide +kernel,by decide +kernel⟩
abbrev fC:Stmt:=top 37
theorem rZ:FnScope ["one","other","sides"] ["one","other","sides"] (aE fC):=⟨rfl,rfl,rfl,by decide +kernel,rfl,by decide +kernel,by decide +kernel⟩
abbrev gR:Stmt:=top 38
theorem wE:FnScope ["thing","crown"] ["thing","crown"] (aE gR):=⟨rfl,rfl,rfl,by decide +kernel,rfl,by decide +kernel,by decide +kernel⟩
abbrev gT:Stmt:=top 39
theorem wG:FnScope ["thing","sides"] ["thing","sides"] (aE gT):=⟨rfl,rfl,rfl,by decide +kernel,rfl,by decide +kernel,by decide +kernel⟩
abbrev fD:Stmt:=top 40
theorem sA:FnScope ["thing","sides"] ["thing","sides"] (aE fD):=⟨rfl,rfl,rfl,by decide +kernel,rfl,by decide +kernel,by decide +kernel⟩
abbrev fX:Stmt:=gM (top 41) 0
theorem mQ:FnScope ["self","fields","dykes"] ["self","fields","dykes"] (aE fX):=⟨rfl,rfl,rfl,by decide +kernel,rfl,by decide +kernel,by decide +kernel⟩
abbrev eB:Stmt:=gM (top 41) 1
theorem pE:FnScope ["self"] ["self"] (aE eB):=⟨rfl,rfl,rfl,by decide +kernel,rfl,by decide +kernel,by decide +kernel⟩
abbrev eP:Stmt:=gM (top 41) 2
theorem qI:FnScope ["self"] ["self"] (aE eP):=⟨rfl,rfl,rfl,by decide +kernel,rfl,by decide +kernel,by decide +kernel⟩
abbrev cY:Stmt:=gM (top 41) 3
abbrev dM:Stmt:=gM (top 41) 4
abbrev eR:Stmt:=gM (top 41) 5
abbrev fG:Stmt:=gM (top 41) 6
abbrev gL:Stmt:=gM (top 41) 7
abbrev gK:Stmt:=gM (top 41) 8
abbrev fF:Stmt:=gM (top 41) 9
abbrev cD:Stmt:=top 45
theorem iF:FnScope ["word","most","figures"] ["word","most"] (aE cD):=⟨rfl,rfl,rfl,by decide +kernel,rfl,by decide +kernel,by decide +kernel⟩
abbrev eX:Stmt:=top 46
theorem rT:FnScope ["word"] ["word"] (aE eX):=⟨rfl,rfl,rfl,by decide +kernel,rfl,by decide +kernel,by decide +kernel⟩
abbrev fB:Stmt:=top 47
theorem rY:FnScope ["field"] ["field"] (aE fB):=⟨rfl,rfl,rfl,by decide +kernel,rfl,by decide +kernel,by decide +kernel⟩
abbrev fW:Stmt:=top 48
theorem mP:FnScope ["dyke","numbers"] ["dyke"] (aE fW):=⟨rfl,rfl,rfl,by decide +kernel,rfl,by decide +kernel,by decide +kernel⟩
abbrev eV:Stmt:=top 49
theorem kS:FnScope ["land","rows"] ["land"] (aE eV):=⟨rfl,rfl,rfl,by decide +kernel,rfl,by decide +kernel,by decide +kernel⟩
abbrev fV:Stmt:=top 50
theorem tX:FnScope ["words"] ["words"] (aE fV):=⟨rfl,rfl,rfl,by decide +kernel,rfl,by decide +kernel,by decide +kernel⟩
abbrev gU:Stmt:=top 51
theorem nX:FnScope ["words","parts"] ["words"] (aE gU):=⟨rfl,rfl,rfl,by decide +kernel,rfl,by decide +kernel,by decide +kernel⟩
abbrev gQ:Stmt:=top 52
theorem hV:FnScope ["text","rows","fields","dykes"] ["text"] (aE gQ):=⟨rfl,rfl,rfl,by decide +kernel,rfl,by decide +kernel,by decide +kernel⟩
abbrev eW:Stmt:=top 53
theorem kT:FnScope ["text","land"] ["text"] (aE eW):=⟨rfl,rfl,rfl,by decide +kernel,rfl,by decide +kernel,by decide +kernel⟩
abbrev gZ:Stmt:=top 55
theorem wH:FnScope ["_law_script","_law_k"] ["_law_script","_law_k"] (aE gZ):=⟨rfl,rfl,rfl,by decide +kernel,rfl,by decide +kernel,by decide +kernel⟩
abbrev jG:Stmt:=top 56
theorem iH:FnScope ["_law_cell","_law_k","_law_number_here","_law_j"] ["_law_cell","_law_k"] (aE jG):=⟨rfl,rfl,rfl,by decide +kernel,rfl,by decide +kernel,by decide +kernel⟩
abbrev kW:Stmt:=top 57
theorem pF:FnScope ["_law_cell","_law_k","_law_letters","_law_word"] ["_law_cell","_law_k"] (aE kW):=⟨rfl,rfl,rfl,by decide +kernel,rfl,by decide +kernel,by decide +kernel⟩
abbrev iK:Stmt:=top 58
theorem xV:FnScope ["_law_number_here"] ["_law_number_here"] (aE iK):=⟨rfl,rfl,rfl,by decide +kernel,rfl,by decide +kernel,by decide +kernel⟩
abbrev jJ:Stmt:=top 59
theorem zJ:FnScope ["_law_number_here"] ["_law_number_here"] (aE jJ):=⟨rfl,rfl,rfl,by decide +kernel,rfl,by decide +kernel,by decide +kernel⟩
abbrev iL:Stmt:=top 60
theorem gP:FnScope ["_law_script","_law_cell","_law_found","_law_k","_law_number_here"] ["_law_script"] (aE iL):=⟨rfl,rfl,rfl,by decide +kernel,rfl,by decide +kernel,by decide +kernel⟩
abbrev kY:Stmt:=top 61
theorem fK:FnScope ["_law_script","_law_k","_law_sides","_law_number_here","_law_more","_law_one","_law_other","_law_crown","_law_sill"] ["_law_script","_law_k","_law_sides"] (aE kY):=⟨rfl,rfl,rfl,by decide +kernel,rfl,by decide +kernel,by decide +kernel⟩
abbrev jI:Stmt:=top 62
theorem mW:FnScope ["_law_script","_law_fields_here","_law_most","_law_sides","_law_many_here"] ["_law_script","_law_fields_here","_law_most"] (aE jI):=⟨rfl,rfl,rfl,by decide +kernel,rfl,by decide +kernel,by decide +kernel⟩
abbrev jH:Stmt:=top 63
theorem dF:FnScope ["_law_script","_law_fields_here","_law_lines_here","_law_name_here","_law_one","_law_other","_law_crown","_law_rate","_law_sill","_law_words_here"] ["_law_script"] (aE jH):=⟨rfl,rfl,rfl,by decide +kernel,rfl,by decide +kernel,by decide +kernel⟩
abbrev jF:Stmt:=top 64
theorem jX:FnScope ["_law_text","_law_number_here","_law_way","_law_signs_here","_law_sign","_law_at"] ["_law_text","_law_number_here","_law_way"] (aE jF):=⟨rfl,rfl,rfl,by decide +kernel,rfl,by decide +kernel,by decide +kernel⟩
abbrev jE:Stmt:=top 65
theorem iG:FnScope ["_law_lines_here","_law_number_here","_law_way","_law_k","_law_words_here","_law_at","_law_odd"] ["_law_lines_here","_law_number_here","_law_way"] (aE jE):=⟨rfl,rfl,rfl,by decide +kernel,rfl,by decide +kernel,by decide +kernel⟩
abbrev kX:Stmt:=top 66
theorem jD:FnScope ["_law_number_here","_law_letters","_law_fields_here","_law_dykes_here","_law_lines_here"] ["_law_number_here"] (aE kX):=⟨rfl,rfl,rfl,by decide +kernel,rfl,by decide +kernel,by decide +kernel⟩
abbrev iI:Stmt:=top 67
theorem iS:FnScope ["_law_lines_here","_law_number_here","_law_way","_law_at","_law_again","_law_turned"] ["_law_lines_here","_law_number_here","_law_way"] (aE iI):=⟨rfl,rfl,rfl,by decide +kernel,rfl,by decide +kernel,by decide +kernel⟩
abbrev gW:Stmt:=top 68
theorem nY:FnScope ["_law_word","_law_sign"] ["_law_word"] (aE gW):=⟨rfl,rfl,rfl,by decide +kernel,rfl,by decide +kernel,by decide +kernel⟩
abbrev iJ:Stmt:=top 69
theorem iT:FnScope ["_law_word","_law_least","_law_size","_law_sign"] ["_law_word","_law_least"] (aE iJ):=⟨rfl,rfl,rfl,by decide +kernel,rfl,by decide +kernel,by decide +kernel⟩
abbrev gY:Stmt:=top 70
theorem fS:FnScope ["_law_words_here","_law_fields_here","_law_sides","_law_side","_law_crown","_law_sill"] ["_law_words_here","_law_fields_here"] (aE gY):=⟨rfl,rfl,rfl,by decide +kernel,rfl,by decide +kernel,by decide +kernel⟩
abbrev gX:Stmt:=top 71
theorem fR:FnScope ["_law_text","_law_fields_here","_law_dykes_here","_law_line","_law_words_here"] ["_law_text"] (aE gX):=⟨rfl,rfl,rfl,by decide +kernel,rfl,by decide +kernel,by decide +kernel⟩
abbrev kU:Stmt:=top 72
theorem fJ:FnScope ["_law_thing","_law_found","_law_right","e"] ["_law_thing"] (aE kU):=⟨rfl,rfl,rfl,by decide +kernel,rfl,by decide +kernel,by decide +kernel⟩
abbrev mE:Stmt:=top 73
theorem fQ:FnScope ["_law_script","_law_lines_here","_law_number_here","_law_text","_law_good","_law_told_here"] ["_law_script"] (aE mE):=⟨rfl,rfl,rfl,by decide +kernel,rfl,by decide +kernel,by decide +kernel⟩
structure Txt (K:PySem.W.Frag) (mg:Str → Option Value) (C:Addr):Prop where
 cl_Land:Cls K C
 mg_Land:mg "Land" = some (.ref C)
 a_field_rows:lX K C "field_rows"
 a_dyke_rows:lX K C "dyke_rows"
 ci_Land:InstC K C
 i_Land:InitAt K C "Land.__init__" fX ["self","fields","dykes"]
 m_land_p_fields:MethAt K C "fields" "Land.fields" eB ["self"]
 m_land_p_dykes:MethAt K C "dykes" "Land.dykes" eP ["self"]
 m_land_p_field_names:MethAt K C "field_names" "Land.field_names" cY ["self"]
 m_land_p_dyke_names:MethAt K C "dyke_names" "Land.dyke_names" dM ["self"]
 m_land_p_sluices:MethAt K C "sluices" "Land.sluices" eR ["self"]
 m_land_p_ground:MethAt K C "ground" "Land.ground" fG ["self","field"]
 m_land_p_dues:MethAt K C "dues" "Land.dues" gL ["self","field"]
 m_land_p_dyke:MethAt K C "dyke" "Land.dyke" gK ["self","name"]
 m_land_p_raised:MethAt K C "raised" "Land.raised" fF ["self","works"]
 xs:∃ c_NoText c_NoLand c_DykeError c_NoDecree c_NoLevel c_NoName c_NoPurse c_NoRing c_NoRow c_NoSluice c_NoVoice c_NoWay c_NoWish c_NoWork c_Outvoted c_Short c_TooMany:Addr,(ExJ K c_NoText) ∧ (ExA K c_NoLand) ∧ mg "NoText" = some (.ref c_NoText) ∧ mg "NoLand" = some (.ref c_NoLand) ∧ mg "DykeError" = some (.ref c_DykeError) ∧ mg "NoDecree" = some (.ref c_NoDecree) ∧ mg "NoLevel" = some (.ref c_NoLevel) ∧ mg "NoName" = some (.ref c_NoName) ∧ mg "NoPurse" = some (.ref c_NoPurse) ∧ mg "NoRing" = some (.ref c_NoRing) ∧ mg "NoRow" = some (.ref c_NoRow) ∧ mg "NoSluice" = some (.ref c_NoSluice) ∧ mg "NoVoice" = some (.ref c_NoVoice) ∧ mg "NoWay" = some (.ref c_NoWay) ∧ mg "NoWish" = some (.ref c_NoWish) ∧ mg "NoWork" = some (.ref c_NoWork) ∧ mg "Outvoted" = some (.ref c_Outvoted) ∧ mg "Short" = some (.ref c_Short) ∧ mg "TooMany" = some (.ref c_TooMany) ∧ PySem.W.kitOne K (.ref c_NoText) (.ref c_DykeError) = some true ∧ PySem.W.kitOne K (.ref c_NoText) (.type "ValueError") = some true ∧ PySem.W.kitOne K (.ref c_NoText) (.ref c_NoDecree) = some false ∧ PySem.W.kitOne K (.ref c_NoText) (.ref c_NoLand) = some false ∧ PySem.W.kitOne K (.ref c_NoText) (.ref c_NoLevel) = some false ∧ PySem.W.kitOne K (.ref c_NoText) (.ref c_NoName) = some false ∧ PySem.W.kitOne K (.ref c_NoText) (.ref c_NoPurse) = some false ∧ PySem.W.kitOne K (.ref c_NoText) (.ref c_NoRing) = some false ∧ PySem.W.kitOne K (.ref c_NoText) (.ref c_NoRow) = some false ∧ PySem.W.kitOne K (.ref c_NoText) (.ref c_NoSluice) = some false ∧ PySem.W.kitOne K (.ref c_NoText) (.ref c_NoVoice) = some false ∧ PySem.W.kitOne K (.ref c_NoText) (.ref c_NoWay) = some false ∧ PySem.W.kitOne K (.ref c_NoText) (.ref c_NoWish) = some false ∧ PySem.W.kitOne K (.ref c_NoText) (.ref c_NoWork) = some false ∧ PySem.W.kitOne K (.ref c_NoText) (.ref c_Outvoted) = some false ∧ PySem.W.kitOne K (.ref c_NoText) (.ref c_Short) = some false ∧ PySem.W.kitOne K (.ref c_NoText) (.ref c_TooMany) = some false ∧ PySem.W.exmOne K (.ref c_NoText) (.ref c_NoText) = some true ∧ PySem.W.exmOne K (.ref c_NoLand) (.ref c_NoLand) = some true
 d_p_wall:DefAt K mg "_wall" nZ ["k"]
 d_p_is_whole:DefAt K mg "is_whole" fT ["thing"]
 d_p_is_name:DefAt K mg "is_name" gS ["thing"]
 d_p_is_height:DefAt K mg "is_height" eZ ["thing"]
 d_p_is_amount:DefAt K mg "is_amount" fA ["thing"]
 d_p_is_one_of:DefAt K mg "is_one_of" eY ["thing","names"]
 d_p_is_list_of:DefAt K mg "is_list_of" eN ["thing","most"]
 d_p_is_tuple_of:DefAt K mg "is_tuple_of" eA ["thing","length"]
 d_p_none_twice:DefAt K mg "none_twice" eM ["rows"]
 d_p_is_field:DefAt K mg "is_field" fU ["thing"]
 d_p_are_fields:DefAt K mg "are_fields" eO ["thing"]
 d_p_are_sides:DefAt K mg "are_sides" fC ["one","other","sides"]
 d_p_is_sill:DefAt K mg "is_sill" gR ["thing","crown"]
 d_p_is_dyke:DefAt K mg "is_dyke" gT ["thing","sides"]
 d_p_are_dykes:DefAt K mg "are_dykes" fD ["thing","sides"]
 d_p_number_within:DefAt K mg "number_within" cD ["word","most"]
 d_p_number_of:DefAt K mg "number_of" eX ["word"]
 d_p_field_row:DefAt K mg "field_row" fB ["field"]
 d_p_dyke_row:DefAt K mg "dyke_row" fW ["dyke"]
 d_p_show_land:DefAt K mg "show_land" eV ["land"]
 d_p_field_in:DefAt K mg "field_in" fV ["words"]
 d_p_dyke_in:DefAt K mg "dyke_in" gU ["words"]
 d_p_land_in:DefAt K mg "land_in" gQ ["text"]
 d_p_read_land:DefAt K mg "read_land" eW ["text"]
 d_l_cell_at:DefAt K mg "_law_cell_at" gZ ["_law_script","_law_k"]
 d_l_mixed:DefAt K mg "_law_mixed" jG ["_law_cell","_law_k"]
 d_l_name:DefAt K mg "_law_name" kW ["_law_cell","_law_k"]
 d_l_height:DefAt K mg "_law_height" iK ["_law_number_here"]
 d_l_count:DefAt K mg "_law_count" jJ ["_law_number_here"]
 d_l_fields:DefAt K mg "_law_fields" iL ["_law_script"]
 d_l_dyke:DefAt K mg "_law_dyke" kY ["_law_script","_law_k","_law_sides"]
 d_l_dykes:DefAt K mg "_law_dykes" jI ["_law_script","_law_fields_here","_law_most"]
 d_l_lines:DefAt K mg "_law_lines" jH ["_law_script"]
 d_l_signs:DefAt K mg "_law_signs" jF ["_law_text","_law_number_here","_law_way"]
 d_l_words:DefAt K mg "_law_words" jE ["_law_lines_here","_law_number_here","_law_way"]
 d_l_many:DefAt K mg "_law_many" kX ["_law_number_here"]
 d_l_spoilt:DefAt K mg "_law_spoilt" iI ["_law_lines_here","_law_number_here","_law_way"]
 d_l_is_name:DefAt K mg "_law_is_name" gW ["_law_word"]
 d_l_number:DefAt K mg "_law_number" iJ ["_law_word","_law_least"]
 d_l_is_dyke:DefAt K mg "_law_is_dyke" gY ["_law_words_here","_law_fields_here"]
 d_l_is_land:DefAt K mg "_law_is_land" gX ["_law_text"]
 d_l_told:DefAt K mg "_law_told" kU ["_law_thing"]
 d_p_law:DefAt K mg "law" mE ["_law_script"]
 g_SEA:iR mg "SEA" (.str "sea")
 g_LETTERS:iR mg "LETTERS" (.str "abcdefghijklmnopqrstuvwxyz")
 g_MOST_LETTERS:iR mg "MOST_LETTERS" (.int 8)
 g_MOST_HEIGHT:iR mg "MOST_HEIGHT" (.int 1000000)
 g_MOST_AMOUNT:iR mg "MOST_AMOUNT" (.int 1000000)
 g_MOST_FIELDS:iR mg "MOST_FIELDS" (.int 12)
 g_MOST_DYKES:iR mg "MOST_DYKES" (.int 40)
 g_FIGURES:iR mg "FIGURES" (.str "0123456789")
 g_MOST_FIGURES:iR mg "MOST_FIGURES" (.int 7)
 n_ValueError:mg "ValueError" = none
 n_all:mg "all" = none
 n_bool:mg "bool" = none
 n_dict:mg "dict" = none
 n_int:mg "int" = none
 n_isinstance:mg "isinstance" = none
 n_len:mg "len" = none
 n_list:mg "list" = none
 n_max:mg "max" = none
 n_min:mg "min" = none
 n_range:mg "range" = none
 n_reversed:mg "reversed" = none
 n_set:mg "set" = none
 n_str:mg "str" = none
 n_tuple:mg "tuple" = none
section
variable {P:Program} {w:World} {K:PySem.W.Frag} {mg:Str → Option Value} {base:Heap} {C:Addr}
open Ld
theorem cJ:(5000:Nat) ≤ sizeLine:=by decide
def vX:Sp:=sp1 fun x H Q=>∃ d,Is H d x ∧ Q (.bl (isInt d)) H
theorem mR (T:Txt K mg C):Fc P w K mg base 1 "is_whole" ["thing"] vX:=by
 refine T.d_p_is_whole.fc tV iB (fun f cdv A outer s H vs Q E hr h=>?_)
 obtain ⟨x,rfl,d,hd,q⟩:=h
 obtain ⟨t,ty,e1,e2,_⟩:=pU K hd
 refine ⟨_,(@aH _ _ _ (@aM _ _ _ _ (@cV _ _ _ _ _ _ _ (@aP _ _ _ _ _ _ _ _ _ (@dD _ (K) rfl) rfl T.n_isinstance bK (@aA _ _ _ _ _ (pv 0) (@aA _ _ _ _ _ (@oB _ _ _ _ T.n_int jV (by rfl) (by decide) (by decide)) aD (by rfl)) (by rfl)) (by decide) (by decide) (by rfl) (by rfl)) (@eF _ _ _ _ _ (@aJB _ _ _ _ (@aP _ _ _ _ _ _ _ _ _ (@dD _ (K) rfl) rfl T.n_isinstance bK (@aA _ _ _ _ _ (pv 0) (@aA _ _ _ _ _ (@oB _ _ _ _ T.n_bool aAJ (by rfl) (by decide) (by decide)) aD (by rfl)) (by rfl)) (by decide) (by decide) (by rfl) (by rfl))))))),?_⟩
 refine ⟨_,rfl,_,_,_,t,_,rfl,rfl,ty,e1,_,rfl,?_⟩
 refine dR (fun h=>?_) (fun h=>?_)
 ·refine ⟨_,rfl,_,_,_,t,_,rfl,rfl,ty,e2,_,rfl,?_⟩
  have e:(!aFB d) = isInt d:=by cases d <;> simp_all [isInt,aFB]
  rw [e]
  exact q
 ·have e:isInt d = false:=by cases d <;> simp_all [isInt,aFB]
  rw [e] at q
  exact q
def zF:Sp:=sp1 fun x H Q=>∃ d,Is H d x ∧ eI d = true ∧ Q (.bl (kF d)) H
theorem oH (T:Txt K mg C):Fc P w K mg base 1 "is_name" ["thing"] zF:=by
 refine T.d_p_is_name.fcD wF iB (fun f cdv A outer s H vs Q E hr h=>?_)
 obtain ⟨x,rfl,d,hd,hz,q⟩:=h
 obtain ⟨t,ty,e1,e2,e3,_⟩:=pU K hd
 have big:=cJ
 refine ⟨_,(@aG _ _ _ _ _ (@bQ _ _ _ _ _ _ _ _ (@PW.pt _ _ _ (@jL _ _ _ _ _ _ _ (@eE _ _ _ _ (@dG _ _ _ (@aP _ _ _ _ _ _ _ _ _ (@dD _ (K) rfl) rfl T.n_isinstance bK (@aA _ _ _ _ _ (pv 0) (@aA _ _ _ _ _ (@oB _ _ _ _ T.n_str dU (by rfl) (by decide) (by decide)) aD (by rfl)) (by rfl)) (by decide) (by decide) (by rfl) (by rfl)) (by intro _;rfl))) (@iY _ _ _ _ (@eE _ _ _ _ (@xY _ _ _ _ _ _ _ _ _ _ _ _ iU iU aB (@aP _ _ _ _ _ _ _ _ _ dC rfl T.n_len bD (@aA _ _ _ _ _ (pv 0) aD (by rfl)) (by decide) (by decide) (by rfl) (by rfl)) (@qJ _ _ _ _ T.g_MOST_LETTERS (by rfl) (by decide)) (by with_unfolding_all rfl)))))) (@aH _ _ _ (@aM _ _ _ _ fM)) aX) (@aH _ _ _ (@aM _ _ _ _ (@cV _ _ _ _ _ _ _ (@eS _ _ _ _ _ _ _ _ sI (pv 0) (@qJ _ _ _ _ T.g_SEA (by rfl) (by decide)) (@aS _ _ (by decide) (by decide))) (@eF _ _ _ _ _ (@aP _ _ _ _ _ _ _ _ _ (@oX _ rfl) rfl T.n_all mM (@aA _ _ _ _ _ (@dA _ _ _ _ _ _ _ _ _ _ _ ["sign"] 1 [] rfl (@wI _ _ _ _ (pv 0)) (fun R=>@bE _ _ (0) _ (show List.Nodup (["sign"]:List Str) by decide +kernel) rfl (Or.inl rfl) (by trivial)) (@bG _ _ (by decide)) (fun R=>cA) (fun R=>(@eS _ _ _ _ _ _ _ _ uV (pv 0) (@qJ _ _ _ _ T.g_LETTERS (by rfl) (by decide)) (by with_unfolding_all rfl))) (by rfl) (by rfl) (by rfl) (by rfl) (by rfl) (by rfl) (by rfl) (by intro _;rfl)) aD (by rfl)) (by decide) (by decide) (by rfl) (by rfl))))))),?_⟩
 refine ⟨_,rfl,_,_,_,t,_,rfl,rfl,ty,e3,_,rfl,?_⟩
 cases d with
 | str z =>
  cases (show x = .str z from hd)
  have hz:z.length ≤ 5000:=of_decide_eq_true hz
  have q:Q (.bl (cI z)) H:=q
  have hzs:z.length ≤ sizeLine:=by omega
  refine bN ?_
  refine ⟨_,rfl,z,rfl,hzs,_,_,rfl,rfl,_,rfl,?_⟩
  refine dR (fun h1=>?_) (fun h1=>?_)
  ·refine ⟨_,_,rfl,rfl,_,rfl,?_⟩
   have h1':1 ≤ z.length:=by
    have:=of_decide_eq_true h1
    omega
   refine dR (fun h2=>?_) (fun h2=>?_)
   ·have e:cI z = false:=by
     have h2':¬ z.length ≤ 8:=by
      intro h3
      have:((z.length:Nat):Int) ≤ 8:=by omega
      simp [this] at h2
     simp [cI,h2']
    rw [e] at q
    exact cB.of (.refl _) q
   ·have h2':z.length ≤ 8:=by
     have h3:decide (((z.length:Nat):Int) ≤ 8) = true:=by
      cases h4:decide (((z.length:Nat):Int) ≤ 8) with
      | true=>rfl
      | false=>exact absurd (by rw [h4];rfl) h2
     have:=of_decide_eq_true h3
     omega
    refine ⟨_,rfl,rfl,_,rfl,?_⟩
    refine dR (fun h3=>?_) (fun h3=>?_)
    ·have h3':¬ z = "sea":=by
      intro h4
      subst h4
      simp at h3
     refine ⟨_,rfl,z,rfl,?_⟩
     refine yS (Nat.le_trans hz (by decide)) (fun i ys H'=>H' = H ∧ ys = (z.cps.toList.take i).map fun c=>V.bl (eH c)) ⟨rfl,rfl⟩ ?_ ?_ ?_
     ·rintro i ys H' ⟨_,rfl⟩
      rw [List.length_map,List.length_take]
      omega
     ·rintro i c ys H' K1 K2 hc ⟨rfl,rfl⟩ k1 k2
      refine ⟨_,rfl,_,_,rfl,rfl,k1 _ _ ⟨rfl,?_⟩⟩
      have hc':z.cps.toList[i]? = some c:=by simpa using hc
      rw [List.take_add_one,hc',in_letters]
      simp
     ·rintro ys H' ⟨rfl,rfl⟩
      intro p hp'
      refine ⟨p,z.cps.toList.map eH,rfl,SqL.of ?_,?_⟩
      ·rw [aF,List.take_of_length_le (by simp),List.map_map]
       rfl
      ·refine ⟨H',fH.lst hp',?_⟩
       have e:cI z = (z.cps.toList.map eH).all id:=by
        rw [List.all_map]
        simp [cI,h1',h2',h3']
       rw [← e]
       exact q
    ·have e:cI z = false:=by
      have h4:z = "sea":=by
       apply Classical.byContradiction
       intro h5
       exact h3 (by simp [h5])
      subst h4
      simp [cI]
     rw [e] at q
     exact cB.of (.refl _) q
  ·have e:cI z = false:=by
    have h1':¬ 1 ≤ z.length:=by
     intro h3
     exact h1 (decide_eq_true (by omega))
    simp [cI,h1']
   rw [e] at q
   exact ⟨_,rfl,cB.of (.refl _) q⟩
 | non=>exact cB.of (.refl _) q
 | bl b=>exact cB.of (.refl _) q
 | int i=>exact cB.of (.refl _) q
 | lst a=>exact cB.of (.refl _) q
 | tup a=>exact cB.of (.refl _) q
 | dct a b=>exact cB.of (.refl _) q
def nU:Sp:=sp1 fun x H Q=>∃ d,Is H d x ∧ Q (.bl (gA d)) H
theorem iP (T:Txt K mg C):Fc P w K mg base 2 "is_height" ["thing"] nU:=by
 have G_p_is_whole:Fc P w K mg base 1 "is_whole" ["thing"] vX:=mR T
 refine T.d_p_is_height.fc rW iB (fun f cdv A outer s H vs Q E hr h=>?_)
 obtain ⟨x,rfl,d,hd,q⟩:=h
 refine ⟨_,(@aH _ _ _ (@aM _ _ _ _ (@cV _ _ _ _ _ _ _ (@bR _ _ _ _ _ _ _ _ _ _ G_p_is_whole (hr.mono (by decide)) (@aA _ _ _ _ _ (pv 0) aD (by rfl)) (by rfl) (by decide) (by rfl) (by rfl)) (@eF _ _ _ _ _ (@lA _ _ _ _ _ _ _ _ _ _ _ _ iU iU (@aKV _ _ _ _ _ _ aIM (@qJ _ _ _ _ T.g_MOST_HEIGHT (by rfl) (by decide))) (pv 0) (@qJ _ _ _ _ T.g_MOST_HEIGHT (by rfl) (by decide)) (by with_unfolding_all rfl)))))),?_⟩
 refine ⟨_,rfl,_,rfl,d,hd,_,rfl,?_⟩
 cases d with
 | int i =>
  cases (show x = .int i from hd)
  refine cC ?_
  have q:Q (.bl (decide (-1000000 ≤ i) && decide (i ≤ 1000000))) H:=q
  refine ⟨_,rfl,_,rfl,_,_,rfl,rfl,_,rfl,?_⟩
  refine dR (fun h1=>?_) (fun h1=>?_)
  ·refine ⟨_,_,rfl,rfl,?_⟩
   rw [decide_eq_true (show -1000000 ≤ i from of_decide_eq_true h1),Bool.true_and] at q
   exact q
  ·rw [show decide (-1000000 ≤ i) = false from by simpa using h1,Bool.false_and] at q
   exact q
 | _=>exact bN q
def rQ:Sp:=sp1 fun x H Q=>∃ d,Is H d x ∧ Q (.bl (hG d)) H
theorem lG (T:Txt K mg C):Fc P w K mg base 2 "is_amount" ["thing"] rQ:=by
 have G_p_is_whole:Fc P w K mg base 1 "is_whole" ["thing"] vX:=mR T
 refine T.d_p_is_amount.fc rX iB (fun f cdv A outer s H vs Q E hr h=>?_)
 obtain ⟨x,rfl,d,hd,q⟩:=h
 refine ⟨_,(@aH _ _ _ (@aM _ _ _ _ (@cV _ _ _ _ _ _ _ (@bR _ _ _ _ _ _ _ _ _ _ G_p_is_whole (hr.mono (by decide)) (@aA _ _ _ _ _ (pv 0) aD (by rfl)) (by rfl) (by decide) (by rfl) (by rfl)) (@eF _ _ _ _ _ (@lA _ _ _ _ _ _ _ _ _ _ _ _ iU iU aB (pv 0) (@qJ _ _ _ _ T.g_MOST_AMOUNT (by rfl) (by decide)) (by with_unfolding_all rfl)))))),?_⟩
 refine ⟨_,rfl,_,rfl,d,hd,_,rfl,?_⟩
 cases d with
 | int i =>
  cases (show x = .int i from hd)
  refine cC ?_
  have q:Q (.bl (decide (0 ≤ i) && decide (i ≤ 1000000))) H:=q
  refine ⟨_,rfl,_,_,rfl,rfl,_,rfl,?_⟩
  refine dR (fun h1=>?_) (fun h1=>?_)
  ·refine ⟨_,_,rfl,rfl,?_⟩
   rw [decide_eq_true (show 0 ≤ i from of_decide_eq_true h1),Bool.true_and] at q
   exact q
  ·rw [show decide (0 ≤ i) = false from by simpa using h1,Bool.false_and] at q
   exact q
 | _=>exact bN q
def aAX (K:PySem.W.Frag):Sp:=sp2 fun x y H Q=>∃ (d:Dv) (p:Addr) (zs:List Str),Is H d x ∧ y = .ref p ∧ SqL K H p (zs.map V.str) ∧ Q (.bl (sK zs d)) H
theorem qX (z:Str) (zs:List Str):inV (.str z) (zs.map V.str) = decide (z ∈ zs):=by
 unfold inV
 rw [Bool.eq_iff_iff,List.any_eq_true,decide_eq_true_iff]
 constructor
 ·rintro ⟨y,hy,e⟩
  obtain ⟨u,hu,rfl⟩:=List.mem_map.mp hy
  have e':(u == z) = true:=e
  rw [← beq_iff_eq.mp e']
  exact hu
 ·intro h
  exact ⟨_,List.mem_map.mpr ⟨z,h,rfl⟩,beq_self_eq_true z⟩
theorem mK (zs:List Str):(zs.map V.str).all oQ = true:=by
 rw [List.all_eq_true]
 intro y hy
 obtain ⟨u,_,rfl⟩:=List.mem_map.mp hy
 rfl
theorem sL (T:Txt K mg C):Fc P w K mg base 1 "is_one_of" ["thing","names"] (aAX K):=by
 refine T.d_p_is_one_of.fc rV qM (fun f cdv A outer s H vs Q E hr h=>?_)
 obtain ⟨x,y,rfl,d,p,zs,hd,rfl,hp,q⟩:=h
 obtain ⟨t,ty,e1,e2,e3,_⟩:=pU K hd
 refine ⟨_,(@aH _ _ _ (@aM _ _ _ _ (@cV _ _ _ _ _ _ _ (@aP _ _ _ _ _ _ _ _ _ (@dD _ (K) rfl) rfl T.n_isinstance bK (@aA _ _ _ _ _ (pv 0) (@aA _ _ _ _ _ (@oB _ _ _ _ T.n_str dU (by rfl) (by decide) (by decide)) aD (by rfl)) (by rfl)) (by decide) (by decide) (by rfl) (by rfl)) (@eF _ _ _ _ _ (@eS _ _ _ _ _ _ _ _ (@sJ _ (K) rfl) (pv 0) (pv 1) (by with_unfolding_all rfl)))))),?_⟩
 refine ⟨_,rfl,_,_,_,t,_,rfl,rfl,ty,e3,_,rfl,?_⟩
 cases d with
 | str z =>
  cases (show x = .str z from hd)
  refine cC ⟨_,rfl,_,rfl,p,_,rfl,.inl hp,rfl,mK zs,?_⟩
  show Q (.bl (inV (.str z) (zs.map V.str))) H
  rw [qX]
  exact q
 | _=>exact bN q
def rO:Sp:=sp2 fun x y H Q=>∃ (d:Dv) (n:Int),Is H d x ∧ y = .int n ∧ Q (.bl (aLB n d)) H
theorem kJ (T:Txt K mg C):Fc P w K mg base 1 "is_list_of" ["thing","most"] rO:=by
 refine T.d_p_is_list_of.fc qG qM (fun f cdv A outer s H vs Q E hr h=>?_)
 obtain ⟨x,y,rfl,d,n,hd,rfl,q⟩:=h
 obtain ⟨t,ty,e1,e2,e3,e4,_⟩:=pU K hd
 refine ⟨_,(@aH _ _ _ (@aM _ _ _ _ (@cV _ _ _ _ _ _ _ (@aP _ _ _ _ _ _ _ _ _ (@dD _ (K) rfl) rfl T.n_isinstance bK (@aA _ _ _ _ _ (pv 0) (@aA _ _ _ _ _ (@oB _ _ _ _ T.n_list iQ (by rfl) (by decide) (by decide)) aD (by rfl)) (by rfl)) (by decide) (by decide) (by rfl) (by rfl)) (@eF _ _ _ _ _ (@lA _ _ _ _ _ _ _ _ _ _ _ _ iU iU aB (@aP _ _ _ _ _ _ _ _ _ (@bA _ (K) rfl) rfl T.n_len bD (@aA _ _ _ _ _ (pv 0) aD (by rfl)) (by decide) (by decide) (by rfl) (by rfl)) (pv 1) (by with_unfolding_all rfl)))))),?_⟩
 refine ⟨_,rfl,_,_,_,t,_,rfl,rfl,ty,e4,_,rfl,?_⟩
 cases d with
 | lst ds =>
  obtain ⟨a,vs,rfl,o,hl⟩:=hd
  have hlen:=hl.length
  have q:Q (.bl (decide (1 ≤ ds.length) && decide ((ds.length:Int) ≤ n))) H:=q
  refine cC ⟨_,rfl,a,vs,rfl,.inl (SqL.of o),_,_,rfl,rfl,_,rfl,?_⟩
  rw [hlen]
  refine dR (fun h1=>?_) (fun h1=>?_)
  ·refine ⟨_,rfl,_,_,rfl,rfl,?_⟩
   have h1':1 ≤ ds.length:=by have:=of_decide_eq_true h1;omega
   rw [decide_eq_true h1',Bool.true_and] at q
   exact q
  ·have h1':¬ 1 ≤ ds.length:=fun c=>h1 (decide_eq_true (by omega))
   rw [decide_eq_false h1',Bool.false_and] at q
   exact q
 | _=>exact bN q
def vZ:Sp:=sp2 fun x y H Q=>∃ (d:Dv) (n:Int),Is H d x ∧ y = .int n ∧ Q (.bl (aDO n d)) H
theorem jN (T:Txt K mg C):Fc P w K mg base 1 "is_tuple_of" ["thing","length"] vZ:=by
 refine T.d_p_is_tuple_of.fc pB qM (fun f cdv A outer s H vs Q E hr h=>?_)
 obtain ⟨x,y,rfl,d,n,hd,rfl,q⟩:=h
 obtain ⟨t,ty,e1,e2,e3,e4,e5⟩:=pU K hd
 refine ⟨_,(@aH _ _ _ (@aM _ _ _ _ (@cV _ _ _ _ _ _ _ (@aP _ _ _ _ _ _ _ _ _ (@dD _ (K) rfl) rfl T.n_isinstance bK (@aA _ _ _ _ _ (pv 0) (@aA _ _ _ _ _ (@oB _ _ _ _ T.n_tuple iW (by rfl) (by decide) (by decide)) aD (by rfl)) (by rfl)) (by decide) (by decide) (by rfl) (by rfl)) (@eF _ _ _ _ _ (@eS _ _ _ _ _ _ _ _ dL (@aP _ _ _ _ _ _ _ _ _ (@bA _ (K) rfl) rfl T.n_len bD (@aA _ _ _ _ _ (pv 0) aD (by rfl)) (by decide) (by decide) (by rfl) (by rfl)) (pv 1) (@aS _ _ (by decide) (by decide))))))),?_⟩
 refine ⟨_,rfl,_,_,_,t,_,rfl,rfl,ty,e5,_,rfl,?_⟩
 cases d with
 | tup ds =>
  obtain ⟨a,vs,rfl,o,hl⟩:=hd
  have hlen:=hl.length
  have q:Q (.bl (decide ((ds.length:Int) = n))) H:=q
  refine cC ⟨_,rfl,a,vs,rfl,.inr (SqT.of o),_,rfl,rfl,?_⟩
  rw [hlen]
  have e:decide (V.int (ds.length:Int) = V.int n) = decide ((ds.length:Int) = n):=by rw [oS,Bool.eq_iff_iff];simp
  rw [e]
  exact q
 | _=>exact bN q
def vY:Sp:=sp1 fun x H Q=>∃ (p:Addr) (vs:List V) (ds:List Dv) (zs:List Str),x = .ref p ∧ H p = some (.lst vs) ∧ IsL H ds vs ∧ ds.map cR = zs.map some ∧ zs.length ≤ 1000 ∧ Q (.bl (decide zs.Nodup)) H
theorem aCX {H:Hp} {d:Dv} {v:V} {z:Str} (h:Is H d v) (e:cR d = some z):∃ a r,v = .ref a ∧ H a = some (.tup (.str z :: r)):=by
 cases d with
 | tup ds =>
  cases ds with
  | nil=>cases e
  | cons d0 ds =>
   cases d0 with
   | str y =>
    cases e
    obtain ⟨a,vs,rfl,o,v0,r,rfl,h0,_⟩:=h
    cases (show v0 = .str z from h0)
    exact ⟨a,r,rfl,o⟩
   | _=>cases e
 | _=>cases e
theorem vA (zs:List Str):(zs.map (Sum.inr:Str → Key)).Nodup ↔ zs.Nodup:=by
 induction zs with
 | nil=>simp
 | cons z zs ih =>
  rw [List.map_cons,List.nodup_cons,List.nodup_cons,ih]
  simp
theorem aHC (zs:List Str):(zs.map (Sum.inr:Str → Key)).map kV = zs.map V.str:=by
 rw [List.map_map];rfl
theorem kI (T:Txt K mg C):Fc P w K mg base 1 "none_twice" ["rows"] vY:=by
 refine T.d_p_none_twice.fcD qF iB (fun f cdv A outer s H vs Q E hr h=>?_)
 obtain ⟨x,rfl,p,us,ds,zs,rfl,hp,hi,hz,hn,q⟩:=h
 have big:=cJ
 have l1:=hi.length
 have l2:ds.length = zs.length:=by have:=congrArg List.length hz;simpa using this
 refine ⟨_,(@aH _ _ _ (@aM _ _ _ _ (@eS _ _ _ _ _ _ _ _ dL (@aP _ _ _ _ _ _ _ _ _ call_len_set rfl T.n_len bD (@aA _ _ _ _ _ (@bS _ _ _ _ _ _ _ _ _ (@uJ _ rfl) rfl T.n_set aDI (@aA _ _ _ _ _ (@dA _ _ _ _ _ _ _ _ _ _ _ ["row"] 1 [] rfl (@cO _ (K) _ _ _ rfl (@cP _ _ _ _ (pv 0))) (fun R=>@bE _ _ (0) _ (show List.Nodup (["row"]:List Str) by decide +kernel) rfl (Or.inl rfl) (by trivial)) (@bG _ _ (by decide)) (fun R=>cA) (fun R=>(@bI _ _ _ _ _ _ _ (@dB _ (K) rfl) (pv 0) aB (fun _ _=>rfl))) (by rfl) (by rfl) (by rfl) (by rfl) (by rfl) (by rfl) (by rfl) (by intro _;rfl)) aD (by rfl)) (by decide) (by decide) (by rfl) (by rfl)) aD (by rfl)) (by decide) (by decide) (by rfl) (by rfl)) (@aP _ _ _ _ _ _ _ _ _ (@bA _ (K) rfl) rfl T.n_len bD (@aA _ _ _ _ _ (pv 0) aD (by rfl)) (by decide) (by decide) (by rfl) (by rfl)) (@aS _ _ (by decide) (by decide))))),?_⟩
 refine ⟨_,rfl,p,rfl,⟨_,SqL.of hp⟩,?_⟩
 refine cF (F:=K) (xs:=us) (by omega) (fun i ys H'=>H' = H ∧ ys = (zs.take i).map V.str) ⟨rfl,rfl⟩ ?_ ?_ ?_
 ·rintro i ys H' hi' ⟨rfl,rfl⟩
  exact ⟨SqL.of hp,by rw [List.length_map,List.length_take];omega⟩
 ·rintro i x ys H' K1 K2 hx ⟨rfl,rfl⟩ k1 k2
  have hil:i < us.length:=(List.getElem?_eq_some_iff.mp hx).1
  obtain ⟨d,ed⟩:∃ d,ds[i]? = some d:=⟨_,List.getElem?_eq_getElem (by omega)⟩
  obtain ⟨z,ez⟩:∃ z,zs[i]? = some z:=⟨_,List.getElem?_eq_getElem (by omega)⟩
  obtain ⟨v,ev,iv⟩:=hi.get ed
  rw [hx] at ev
  cases ev
  have ef:cR d = some z:=by
   have:=congrArg (fun l=>l[i]?) hz
   simpa [ed,ez] using this
  obtain ⟨a,r,rfl,o⟩:=aCX iv ef
  refine ⟨_,rfl,a,_,0,.str z,rfl,rfl,SqT.of o,bC (j:=0) rfl,k1 _ _ ⟨rfl,?_⟩⟩
  rw [List.take_add_one,ez]
  simp
 ·rintro ys H' ⟨rfl,rfl⟩
  intro p1 hp1
  have hys:(zs.take us.length).map V.str = (zs.map (Sum.inr:Str → Key)).map kV:=by
   rw [List.take_of_length_le (by omega),aHC]
  refine ⟨p1,zs.map Sum.inr,rfl,SqL.of (by rw [aF,hys]),by rw [List.length_map];exact hn,fun p2 hp2=>?_⟩
  have hle:=aHS (zs.map (Sum.inr:Str → Key))
  rw [List.length_map] at hle
  have np:p ≠ p1:=aU hp hp1
  have np2:p ≠ p2:=aU (show upd H' p1 _ p = _ from (aR np).trans hp) hp2
  refine ⟨p2,_,_,rfl,aF,by omega,_,rfl,p,us,rfl,.inl (SqL.of (by rw [aR np2,aR np];exact hp)),rfl,?_⟩
  have e:decide (V.int ((uI (zs.map (Sum.inr:Str → Key))).length:Int) = V.int (us.length:Int)) = decide zs.Nodup:=by
   rw [oS,Bool.eq_iff_iff,decide_eq_true_iff,← vA,← aDE,List.length_map,beq_iff_eq]
   omega
  rw [e]
  exact cB.of ((fH.new hp2 rfl).trans (fH.lst hp1)) q
def aBA:Sp:=sp1 fun x H Q=>∃ d,Is H d x ∧ eI d = true ∧ Q (.bl (bT d)) H
theorem uA (T:Txt K mg C):Fc P w K mg base 3 "is_field" ["thing"] aBA:=by
 have G_p_is_tuple_of:Fc P w K mg base 1 "is_tuple_of" ["thing","length"] vZ:=jN T
 have G_p_is_name:Fc P w K mg base 1 "is_name" ["thing"] zF:=oH T
 have G_p_is_height:Fc P w K mg base 2 "is_height" ["thing"] nU:=iP T
 have G_p_is_amount:Fc P w K mg base 2 "is_amount" ["thing"] rQ:=lG T
 refine T.d_p_is_field.fc tW iB (fun f cdv A outer s H vs Q E hr h=>?_)
 obtain ⟨x,rfl,d,hd,hs,q⟩:=h
 refine ⟨_,(@aG _ _ _ _ _ (@bQ _ _ _ _ _ _ _ _ (@eE _ _ _ _ (@dG _ _ _ (@bR _ _ _ _ _ _ _ _ _ _ G_p_is_tuple_of (hr.mono (by decide)) (@aA _ _ _ _ _ (pv 0) (@aA _ _ _ _ _ aB aD (by rfl)) (by rfl)) (by rfl) (by decide) (by rfl) (by rfl)) (by intro _;rfl))) (@aH _ _ _ (@aM _ _ _ _ fM)) aX) (@aH _ _ _ (@aM _ _ _ _ (@cV _ _ _ _ _ _ _ (@bR _ _ _ _ _ _ _ _ _ _ G_p_is_name (hr.mono (by decide)) (@aA _ _ _ _ _ (@bI _ _ _ _ _ _ _ (@dB _ (K) rfl) (pv 0) aB (fun _ _=>rfl)) aD (by rfl)) (by rfl) (by decide) (by rfl) (by rfl)) (@cV _ _ _ _ _ _ _ (@bR _ _ _ _ _ _ _ _ _ _ G_p_is_height (hr.mono (by decide)) (@aA _ _ _ _ _ (@bI _ _ _ _ _ _ _ (@dB _ (K) rfl) (pv 0) aB (fun _ _=>rfl)) aD (by rfl)) (by rfl) (by decide) (by rfl) (by rfl)) (@eF _ _ _ _ _ (@bR _ _ _ _ _ _ _ _ _ _ G_p_is_amount (hr.mono (by decide)) (@aA _ _ _ _ _ (@bI _ _ _ _ _ _ _ (@dB _ (K) rfl) (pv 0) aB (fun _ _=>rfl)) aD (by rfl)) (by rfl) (by decide) (by rfl) (by rfl)))))))),?_⟩
 refine ⟨_,rfl,_,_,rfl,d,3,hd,rfl,_,rfl,?_⟩
 by_cases h3:∃ a b c,d = .tup [a,b,c]
 ·obtain ⟨a,b,c,rfl⟩:=h3
  obtain ⟨t,us,rfl,o,va,r1,rfl,ha,vb,r2,rfl,hb,vc,r3,rfl,hc,h0⟩:=hd
  cases (show r3 = [] from h0)
  have sa:eI a = true:=by
   exact iE (uS hs) List.mem_cons_self
  have q:Q (.bl (kF a && (gA b && hG c))) H:=q
  refine bN ⟨_,rfl,t,_,0,va,rfl,rfl,SqT.of o,bC (j:=0) rfl,_,rfl,a,ha,sa,_,rfl,?_⟩
  cases ea:kF a with
  | false=>rw [ea] at q;exact bN q
  | true =>
   rw [ea,Bool.true_and] at q
   refine cC ⟨_,rfl,t,_,1,vb,rfl,rfl,SqT.of o,bC (j:=1) rfl,_,rfl,b,hb,_,rfl,?_⟩
   cases eb:gA b with
   | false=>rw [eb] at q;exact bN q
   | true =>
    rw [eb,Bool.true_and] at q
    exact cC ⟨_,rfl,t,_,2,vc,rfl,rfl,SqT.of o,bC (j:=2) rfl,_,rfl,c,hc,q⟩
 ·have e1:bT d = false:=by
   unfold bT
   split
   ·rename_i a b c
    exact absurd ⟨a,b,c,rfl⟩ h3
   ·rfl
  have e2:aDO 3 d = false:=by
   cases d with
   | tup ds =>
    refine decide_eq_false (fun e=>?_)
    have e':ds.length = 3:=by omega
    match ds,e',h3 with
    | [a,b,c],_,h3=>exact h3 ⟨a,b,c,rfl⟩
   | _=>rfl
  dsimp only
  rw [e2]
  rw [e1] at q
  exact cC q
theorem pP {p:Dv → Bool} (hp:∀ d,p d = true → ∃ z,cR d = some z):∀ {ds:List Dv},ds.all p = true → ∃ zs:List Str,ds.map cR = zs.map some
 | [],_=>⟨[],rfl⟩
 | d :: ds,h=>by
  rw [List.all_cons,Bool.and_eq_true] at h
  obtain ⟨z,e⟩:=hp d h.1
  obtain ⟨zs,e2⟩:=pP hp h.2
  exact ⟨z :: zs,by rw [List.map_cons,List.map_cons,e,e2]⟩
theorem uE (d:Dv) (h:bT d = true):∃ z,cR d = some z:=by
 unfold bT at h
 split at h
 ·rename_i a b c
  rw [Bool.and_eq_true] at h
  cases a with
  | str z=>exact ⟨z,rfl⟩
  | _=>cases h.1
 ·cases h
def xS:Sp:=sp1 fun x H Q=>∃ d,Is H d x ∧ eI d = true ∧ Q (.bl (cL d)) H
theorem kK (T:Txt K mg C):Fc P w K mg base 4 "are_fields" ["thing"] xS:=by
 have G_p_is_list_of:Fc P w K mg base 1 "is_list_of" ["thing","most"] rO:=kJ T
 have G_p_is_field:Fc P w K mg base 3 "is_field" ["thing"] aBA:=uA T
 have G_p_none_twice:Fc P w K mg base 1 "none_twice" ["rows"] vY:=kI T
 refine T.d_p_are_fields.fcD qH iB (fun f cdv A outer s H vs Q E hr h=>?_)
 obtain ⟨x,rfl,d,hd,hs,q⟩:=h
 have big:=cJ
 refine ⟨_,(@aH _ _ _ (@aM _ _ _ _ (@cV _ _ _ _ _ _ _ (@bR _ _ _ _ _ _ _ _ _ _ G_p_is_list_of (hr.mono (by decide)) (@aA _ _ _ _ _ (pv 0) (@aA _ _ _ _ _ (@qJ _ _ _ _ T.g_MOST_FIELDS (by rfl) (by decide)) aD (by rfl)) (by rfl)) (by rfl) (by decide) (by rfl) (by rfl)) (@cV _ _ _ _ _ _ _ (@aP _ _ _ _ _ _ _ _ _ (@oX _ rfl) rfl T.n_all mM (@aA _ _ _ _ _ (@dA _ _ _ _ _ _ _ _ _ _ _ ["row"] 1 [] rfl (@cO _ (K) _ _ _ rfl (@cP _ _ _ _ (pv 0))) (fun R=>@bE _ _ (0) _ (show List.Nodup (["row"]:List Str) by decide +kernel) rfl (Or.inl rfl) (by trivial)) (@bG _ _ (by decide)) (fun R=>cA) (fun R=>(@bR _ _ _ _ _ _ _ _ _ _ G_p_is_field (hr.mono (by decide)) (@aA _ _ _ _ _ (pv 0) aD (by rfl)) (by rfl) (by decide) (by rfl) (by rfl))) (by rfl) (by rfl) (by rfl) (by rfl) (by rfl) (by rfl) (by rfl) (by intro _;rfl)) aD (by rfl)) (by decide) (by decide) (by rfl) (by rfl)) (@eF _ _ _ _ _ (@bR _ _ _ _ _ _ _ _ _ _ G_p_none_twice (hr.mono (by decide)) (@aA _ _ _ _ _ (pv 0) aD (by rfl)) (by rfl) (by decide) (by rfl) (by rfl))))))),?_⟩
 refine ⟨_,rfl,_,_,rfl,d,12,hd,rfl,_,rfl,?_⟩
 cases d with
 | lst ds =>
  obtain ⟨p,us,rfl,o,hi⟩:=hd
  have l1:=hi.length
  have hs':=Bool.and_eq_true_iff.mp (show (decide (ds.length ≤ 5000) && gF ds) = true from hs)
  have l2:ds.length ≤ 5000:=of_decide_eq_true hs'.1
  have q:Q (.bl ((decide (1 ≤ ds.length) && decide (ds.length ≤ 12)) && (ds.all bT && decide ((ds.map cR).Nodup)))) H:=q
  have e0:(decide (1 ≤ ds.length) && decide ((ds.length:Int) ≤ 12)) = (decide (1 ≤ ds.length) && decide (ds.length ≤ 12)):=by
   congr 1
   rw [Bool.eq_iff_iff,decide_eq_true_iff,decide_eq_true_iff]
   omega
  show if (decide (1 ≤ ds.length) && decide ((ds.length:Int) ≤ 12)) = true then _ else _
  rw [e0]
  refine dR (fun h1=>?_) (fun h1=>?_)
  ·rw [h1,Bool.true_and] at q
   refine ⟨_,rfl,p,rfl,⟨_,SqL.of o⟩,?_⟩
   refine cF (F:=K) (xs:=us) (by omega) (fun i ys H'=>H' = H ∧ ys = (ds.take i).map fun d=>V.bl (bT d)) ⟨rfl,rfl⟩ ?_ ?_ ?_
   ·rintro i ys H' hi' ⟨rfl,rfl⟩
    exact ⟨SqL.of o,by rw [List.length_map,List.length_take];omega⟩
   ·rintro i x ys H' K1 K2 hx ⟨rfl,rfl⟩ k1 k2
    have hil:i < us.length:=(List.getElem?_eq_some_iff.mp hx).1
    obtain ⟨d,ed⟩:∃ d,ds[i]? = some d:=⟨_,List.getElem?_eq_getElem (by omega)⟩
    obtain ⟨v,ev,iv⟩:=hi.get ed
    rw [hx] at ev
    cases ev
    refine ⟨_,rfl,_,rfl,d,iv,iE hs'.2 (List.mem_of_getElem? ed),k1 _ _ ⟨rfl,?_⟩⟩
    rw [List.take_add_one,ed]
    simp
   ·rintro ys H' ⟨rfl,rfl⟩
    intro p1 hp1
    have np:p ≠ p1:=aU o hp1
    refine ⟨p1,ds.map bT,rfl,SqL.of ?_,_,rfl,?_⟩
    ·rw [aF,List.take_of_length_le (by omega),List.map_map]
     rfl
    have e1:(ds.map bT).all id = ds.all bT:=by rw [List.all_map];rfl
    rw [e1]
    refine dR (fun h2=>?_) (fun h2=>?_)
    ·rw [h2,Bool.true_and] at q
     obtain ⟨zs,ez⟩:=pP uE h2
     have l3:zs.length = ds.length:=by have:=congrArg List.length ez;simpa using this.symm
     refine ⟨_,rfl,_,rfl,p,us,ds,zs,rfl,by rw [aR np];exact o,IsL.same (aJ.upd hp1) _ _ hi,ez,by have:=of_decide_eq_true (Bool.and_eq_true_iff.mp h1).2;omega,?_⟩
     have e2:decide zs.Nodup = decide (ds.map cR).Nodup:=by rw [ez,Bool.eq_iff_iff,decide_eq_true_iff,decide_eq_true_iff,gH]
     rw [e2]
     exact cB.of (fH.lst hp1) q
    ·have h2':ds.all bT = false:=by simpa using h2
     rw [h2'] at q
     exact cB.of (fH.lst hp1) q
  ·have h1':(decide (1 ≤ ds.length) && decide (ds.length ≤ 12)) = false:=by simpa using h1
   rw [h1'] at q
   exact cB.of (.refl _) q
 | _=>exact bN (cB.of (.refl _) q)
def aAV (K:PySem.W.Frag):Sp:=sp3 fun x y u H Q=>∃ (a b:Dv) (p:Addr) (zs:List Str),Is H a x ∧ Is H b y ∧ u = .ref p ∧ SqL K H p (zs.map V.str) ∧ Q (.bl (lW zs a b)) H
theorem sN (T:Txt K mg C):Fc P w K mg base 2 "are_sides" ["one","other","sides"] (aAV K):=by
 have G_p_is_one_of:Fc P w K mg base 1 "is_one_of" ["thing","names"] (aAX K):=sL T
 refine T.d_p_are_sides.fc rZ zW (fun f cdv A outer s H vs Q E hr h=>?_)
 obtain ⟨x,y,u,rfl,a,b,p,zs,ha,hb,rfl,hp,q⟩:=h
 refine ⟨_,(@aH _ _ _ (@aM _ _ _ _ (@cV _ _ _ _ _ _ _ (@bR _ _ _ _ _ _ _ _ _ _ G_p_is_one_of (hr.mono (by decide)) (@aA _ _ _ _ _ (pv 0) (@aA _ _ _ _ _ (pv 2) aD (by rfl)) (by rfl)) (by rfl) (by decide) (by rfl) (by rfl)) (@cV _ _ _ _ _ _ _ (@bR _ _ _ _ _ _ _ _ _ _ G_p_is_one_of (hr.mono (by decide)) (@aA _ _ _ _ _ (pv 1) (@aA _ _ _ _ _ (pv 2) aD (by rfl)) (by rfl)) (by rfl) (by decide) (by rfl) (by rfl)) (@eF _ _ _ _ _ (@eS _ _ _ _ _ _ _ _ sI (pv 0) (pv 1) (@aS _ _ (by decide) (by decide)))))))),?_⟩
 have q:Q (.bl (sK zs a && (sK zs b && !deq a b))) H:=q
 refine ⟨_,rfl,_,rfl,_,_,rfl,a,p,zs,ha,rfl,hp,_,rfl,?_⟩
 cases ea:sK zs a with
 | false=>rw [ea] at q;exact bN q
 | true =>
  rw [ea,Bool.true_and] at q
  refine cC ⟨_,rfl,_,rfl,_,_,rfl,b,p,zs,hb,rfl,hp,_,rfl,?_⟩
  cases eb:sK zs b with
  | false=>rw [eb] at q;exact bN q
  | true =>
   rw [eb,Bool.true_and] at q
   cases a with
   | str z =>
    cases b with
    | str z' =>
     cases (show x = .str z from ha)
     cases (show y = .str z' from hb)
     refine cC ⟨_,rfl,_,rfl,rfl,?_⟩
     have e:(!decide (V.str z = V.str z')) = !deq (.str z) (.str z'):=by rw [wZ];rfl
     rw [e]
     exact q
    | _=>cases eb
   | _=>cases ea
def aDT:Sp:=sp2 fun x y H Q=>∃ (d:Dv) (j:Int),Is H d x ∧ y = .int j ∧ Q (.bl (lP (.int j) d)) H
theorem wK (T:Txt K mg C):Fc P w K mg base 3 "is_sill" ["thing","crown"] aDT:=by
 have G_p_is_height:Fc P w K mg base 2 "is_height" ["thing"] nU:=iP T
 refine T.d_p_is_sill.fc wE qM (fun f cdv A outer s H vs Q E hr h=>?_)
 obtain ⟨x,y,rfl,d,j,hd,rfl,q⟩:=h
 refine ⟨_,(@aH _ _ _ (@aM _ _ _ _ (@aKW _ _ _ _ _ _ _ (@eS _ _ _ _ _ _ _ _ pH (pv 0) dO (@aS _ _ (by decide) (by decide))) (@eF _ _ _ _ _ (@cV _ _ _ _ _ _ _ (@bR _ _ _ _ _ _ _ _ _ _ G_p_is_height (hr.mono (by decide)) (@aA _ _ _ _ _ (pv 0) aD (by rfl)) (by rfl) (by decide) (by rfl) (by rfl)) (@eF _ _ _ _ _ (@eS _ _ _ _ _ _ _ _ oG (pv 0) (pv 1) (@aS _ _ (by decide) (by decide))))))))),?_⟩
 refine ⟨_,rfl,rfl,_,rfl,?_⟩
 cases d with
 | non =>
  cases (show x = .non from hd)
  rw [decide_eq_true rfl]
  exact cC q
 | int i =>
  cases (show x = .int i from hd)
  rw [decide_eq_false (show ¬ V.int i = V.non by intro z;cases z)]
  refine bN ⟨_,rfl,_,rfl,.int i,rfl,_,rfl,?_⟩
  have q:Q (.bl (hgt i && decide (i < j))) H:=q
  show if hgt i = true then _ else _
  cases e:hgt i with
  | false=>rw [e] at q;exact bN q
  | true=>rw [e,Bool.true_and] at q;exact cC ⟨_,rfl,_,rfl,_,_,rfl,rfl,q⟩
 | bl b =>
  cases (show x = .bl b from hd)
  rw [decide_eq_false (show ¬ V.bl b = V.non by intro z;cases z)]
  exact bN ⟨_,rfl,_,rfl,.bl b,rfl,_,rfl,bN q⟩
 | str b =>
  cases (show x = .str b from hd)
  rw [decide_eq_false (show ¬ V.str b = V.non by intro z;cases z)]
  exact bN ⟨_,rfl,_,rfl,.str b,rfl,_,rfl,bN q⟩
 | lst b =>
  obtain ⟨a,us,rfl,o⟩:=id hd
  rw [decide_eq_false (show ¬ V.ref a = V.non by intro z;cases z)]
  exact bN ⟨_,rfl,_,rfl,.lst b,hd,_,rfl,bN q⟩
 | tup b =>
  obtain ⟨a,us,rfl,o⟩:=id hd
  rw [decide_eq_false (show ¬ V.ref a = V.non by intro z;cases z)]
  exact bN ⟨_,rfl,_,rfl,.tup b,hd,_,rfl,bN q⟩
 | dct b c =>
  obtain ⟨a,us,rfl,o⟩:=id hd
  rw [decide_eq_false (show ¬ V.ref a = V.non by intro z;cases z)]
  exact bN ⟨_,rfl,_,rfl,.dct b c,hd,_,rfl,bN q⟩
def aDY (K:PySem.W.Frag):Sp:=sp2 fun x y H Q=>∃ (d:Dv) (p:Addr) (zs:List Str),Is H d x ∧ eI d = true ∧ y = .ref p ∧ SqL K H p (zs.map V.str) ∧ Q (.bl (cE zs d)) H
theorem wL (T:Txt K mg C):Fc P w K mg base 4 "is_dyke" ["thing","sides"] (aDY K):=by
 have G_p_is_tuple_of:Fc P w K mg base 1 "is_tuple_of" ["thing","length"] vZ:=jN T
 have G_p_is_name:Fc P w K mg base 1 "is_name" ["thing"] zF:=oH T
 have G_p_are_sides:Fc P w K mg base 2 "are_sides" ["one","other","sides"] (aAV K):=sN T
 have G_p_is_height:Fc P w K mg base 2 "is_height" ["thing"] nU:=iP T
 have G_p_is_amount:Fc P w K mg base 2 "is_amount" ["thing"] rQ:=lG T
 have G_p_is_sill:Fc P w K mg base 3 "is_sill" ["thing","crown"] aDT:=wK T
 refine T.d_p_is_dyke.fc wG qM (fun f cdv A outer s H vs Q E hr h=>?_)
 obtain ⟨x,y,rfl,d,p,zs,hd,hs,rfl,hp,q⟩:=h
 refine ⟨_,(@aG _ _ _ _ _ (@bQ _ _ _ _ _ _ _ _ (@PW.pt _ _ _ (@jL _ _ _ _ _ _ _ (@eE _ _ _ _ (@dG _ _ _ (@bR _ _ _ _ _ _ _ _ _ _ G_p_is_tuple_of (hr.mono (by decide)) (@aA _ _ _ _ _ (pv 0) (@aA _ _ _ _ _ aB aD (by rfl)) (by rfl)) (by rfl) (by decide) (by rfl) (by rfl)) (by intro _;rfl))) (@jL _ _ _ _ _ _ _ (@eE _ _ _ _ (@dG _ _ _ (@bR _ _ _ _ _ _ _ _ _ _ G_p_is_name (hr.mono (by decide)) (@aA _ _ _ _ _ (@bI _ _ _ _ _ _ _ (@dB _ (K) rfl) (pv 0) aB (fun _ _=>rfl)) aD (by rfl)) (by rfl) (by decide) (by rfl) (by rfl)) (by intro _;rfl))) (@iY _ _ _ _ (@eE _ _ _ _ (@dG _ _ _ (@bR _ _ _ _ _ _ _ _ _ _ G_p_are_sides (hr.mono (by decide)) (@aA _ _ _ _ _ (@bI _ _ _ _ _ _ _ (@dB _ (K) rfl) (pv 0) aB (fun _ _=>rfl)) (@aA _ _ _ _ _ (@bI _ _ _ _ _ _ _ (@dB _ (K) rfl) (pv 0) aB (fun _ _=>rfl)) (@aA _ _ _ _ _ (pv 1) aD (by rfl)) (by rfl)) (by rfl)) (by rfl) (by decide) (by rfl) (by rfl)) (by intro _;rfl))))))) (@aH _ _ _ (@aM _ _ _ _ fM)) aX) (@aH _ _ _ (@aM _ _ _ _ (@cV _ _ _ _ _ _ _ (@bR _ _ _ _ _ _ _ _ _ _ G_p_is_height (hr.mono (by decide)) (@aA _ _ _ _ _ (@bI _ _ _ _ _ _ _ (@dB _ (K) rfl) (pv 0) aB (fun _ _=>rfl)) aD (by rfl)) (by rfl) (by decide) (by rfl) (by rfl)) (@cV _ _ _ _ _ _ _ (@bR _ _ _ _ _ _ _ _ _ _ G_p_is_amount (hr.mono (by decide)) (@aA _ _ _ _ _ (@bI _ _ _ _ _ _ _ (@dB _ (K) rfl) (pv 0) aB (fun _ _=>rfl)) aD (by rfl)) (by rfl) (by decide) (by rfl) (by rfl)) (@eF _ _ _ _ _ (@bR _ _ _ _ _ _ _ _ _ _ G_p_is_sill (hr.mono (by decide)) (@aA _ _ _ _ _ (@bI _ _ _ _ _ _ _ (@dB _ (K) rfl) (pv 0) aB (fun _ _=>rfl)) (@aA _ _ _ _ _ (@bI _ _ _ _ _ _ _ (@dB _ (K) rfl) (pv 0) aB (fun _ _=>rfl)) aD (by rfl)) (by rfl)) (by rfl) (by decide) (by rfl) (by rfl)))))))),?_⟩
 refine ⟨_,rfl,_,_,rfl,d,6,hd,rfl,_,rfl,?_⟩
 by_cases h6:∃ n a b c r l,d = .tup [n,a,b,c,r,l]
 ·obtain ⟨n,a,b,c,r,l,rfl⟩:=h6
  obtain ⟨t,us,rfl,o,v0,r0,rfl,i0,v1,r1,rfl,i1,v2,r2,rfl,i2,v3,r3,rfl,i3,v4,r4,rfl,i4,v5,r5,rfl,i5,h0⟩:=hd
  cases (show r5 = [] from h0)
  have sn:eI n = true:=by
   exact iE (uS hs) List.mem_cons_self
  have q:Q (.bl (kF n && lW zs a b && (gA c && (hG r && lP c l)))) H:=q
  have at_:∀ (j:Nat) (v:V),([v0,v1,v2,v3,v4,v5]:List V)[j]? = some v → atI [v0,v1,v2,v3,v4,v5] (j:Int) = some v:=fun j v e=>bC e
  refine bN ⟨_,rfl,t,_,0,v0,rfl,rfl,SqT.of o,at_ 0 _ rfl,_,rfl,n,i0,sn,_,rfl,?_⟩
  cases en:kF n with
  | false=>rw [en] at q;exact cC q
  | true =>
   rw [en,Bool.true_and] at q
   refine bN ⟨_,rfl,t,_,1,v1,rfl,rfl,SqT.of o,at_ 1 _ rfl,_,rfl,t,_,2,v2,rfl,rfl,SqT.of o,at_ 2 _ rfl,_,rfl,_,_,_,rfl,a,b,p,zs,i1,i2,rfl,hp,_,rfl,?_⟩
   cases es:lW zs a b with
   | false=>rw [es] at q;exact cC q
   | true =>
    rw [es,Bool.true_and] at q
    refine bN ⟨_,rfl,t,_,3,v3,rfl,rfl,SqT.of o,at_ 3 _ rfl,_,rfl,c,i3,_,rfl,?_⟩
    cases ec:gA c with
    | false=>rw [ec] at q;exact bN q
    | true =>
     rw [ec,Bool.true_and] at q
     refine cC ⟨_,rfl,t,_,4,v4,rfl,rfl,SqT.of o,at_ 4 _ rfl,_,rfl,r,i4,_,rfl,?_⟩
     cases er:hG r with
     | false=>rw [er] at q;exact bN q
     | true =>
      rw [er,Bool.true_and] at q
      cases c with
      | int j =>
       cases (show v3 = .int j from i3)
       exact cC ⟨_,rfl,t,_,5,v5,rfl,rfl,SqT.of o,at_ 5 _ rfl,_,rfl,t,_,3,_,rfl,rfl,SqT.of o,at_ 3 _ rfl,_,_,rfl,l,j,i5,rfl,q⟩
      | _=>cases ec
 ·have e1:cE zs d = false:=by
   unfold cE
   split
   ·rename_i n a b c r l
    exact absurd ⟨n,a,b,c,r,l,rfl⟩ h6
   ·rfl
  have e2:aDO 6 d = false:=by
   cases d with
   | tup ds =>
    refine decide_eq_false (fun e=>?_)
    have e':ds.length = 6:=by omega
    match ds,e',h6 with
    | [n,a,b,c,r,l],_,h6=>exact h6 ⟨n,a,b,c,r,l,rfl⟩
   | _=>rfl
  dsimp only
  rw [e2]
  rw [e1] at q
  exact cC q
theorem wU {zs:List Str} (d:Dv) (h:cE zs d = true):∃ z,cR d = some z:=by
 unfold cE at h
 split at h
 ·rename_i n a b c r l
  rw [Bool.and_eq_true,Bool.and_eq_true] at h
  cases n with
  | str z=>exact ⟨z,rfl⟩
  | _=>cases h.1.1
 ·cases h
def aBB (K:PySem.W.Frag):Sp:=sp2 fun x y H Q=>∃ (d:Dv) (p:Addr) (zs:List Str),Is H d x ∧ eI d = true ∧ y = .ref p ∧ H p = some (.lst (zs.map V.str)) ∧ Q (.bl (eD zs d)) H
theorem lH (T:Txt K mg C):Fc P w K mg base 5 "are_dykes" ["thing","sides"] (aBB K):=by
 have G_p_is_list_of:Fc P w K mg base 1 "is_list_of" ["thing","most"] rO:=kJ T
 have G_p_is_dyke:Fc P w K mg base 4 "is_dyke" ["thing","sides"] (aDY K):=wL T
 have G_p_none_twice:Fc P w K mg base 1 "none_twice" ["rows"] vY:=kI T
 refine T.d_p_are_dykes.fcD sA qM (fun f cdv A outer s H vs Q E hr h=>?_)
 obtain ⟨x,y,rfl,d,p0,zs0,hd,hs,rfl,hp0,q⟩:=h
 have big:=cJ
 refine ⟨_,(@aH _ _ _ (@aM _ _ _ _ (@cV _ _ _ _ _ _ _ (@bR _ _ _ _ _ _ _ _ _ _ G_p_is_list_of (hr.mono (by decide)) (@aA _ _ _ _ _ (pv 0) (@aA _ _ _ _ _ (@qJ _ _ _ _ T.g_MOST_DYKES (by rfl) (by decide)) aD (by rfl)) (by rfl)) (by rfl) (by decide) (by rfl) (by rfl)) (@cV _ _ _ _ _ _ _ (@aP _ _ _ _ _ _ _ _ _ (@oX _ rfl) rfl T.n_all mM (@aA _ _ _ _ _ (@dA _ _ _ _ _ _ _ _ _ _ _ ["row","sides"] 1 [1] rfl (@cO _ (K) _ _ _ rfl (@cP _ _ _ _ (pv 0))) (fun R=>@bE _ _ (0) _ (show List.Nodup (["row","sides"]:List Str) by decide +kernel) rfl (Or.inl rfl) (by trivial)) (@bG _ _ (by decide)) (fun R=>cA) (fun R=>(@bR _ _ _ _ _ _ _ _ _ _ G_p_is_dyke (hr.mono (by decide)) (@aA _ _ _ _ _ (pv 0) (@aA _ _ _ _ _ (pv 1) aD (by rfl)) (by rfl)) (by rfl) (by decide) (by rfl) (by rfl))) (by rfl) (by rfl) (by rfl) (by rfl) (by rfl) (by rfl) (by rfl) (by intro _;rfl)) aD (by rfl)) (by decide) (by decide) (by rfl) (by rfl)) (@eF _ _ _ _ _ (@bR _ _ _ _ _ _ _ _ _ _ G_p_none_twice (hr.mono (by decide)) (@aA _ _ _ _ _ (pv 0) aD (by rfl)) (by rfl) (by decide) (by rfl) (by rfl))))))),?_⟩
 refine ⟨_,rfl,_,_,rfl,d,40,hd,rfl,_,rfl,?_⟩
 cases d with
 | lst ds =>
  obtain ⟨p,us,rfl,o,hi⟩:=hd
  have l1:=hi.length
  have hs':=Bool.and_eq_true_iff.mp (show (decide (ds.length ≤ 5000) && gF ds) = true from hs)
  have l2:ds.length ≤ 5000:=of_decide_eq_true hs'.1
  have q:Q (.bl ((decide (1 ≤ ds.length) && decide (ds.length ≤ 40)) && (ds.all (cE zs0) && decide ((ds.map cR).Nodup)))) H:=q
  have e0:(decide (1 ≤ ds.length) && decide ((ds.length:Int) ≤ 40)) = (decide (1 ≤ ds.length) && decide (ds.length ≤ 40)):=by
   congr 1
   rw [Bool.eq_iff_iff,decide_eq_true_iff,decide_eq_true_iff]
   omega
  show if (decide (1 ≤ ds.length) && decide ((ds.length:Int) ≤ 40)) = true then _ else _
  rw [e0]
  refine dR (fun h1=>?_) (fun h1=>?_)
  ·rw [h1,Bool.true_and] at q
   refine ⟨_,rfl,p,rfl,⟨_,SqL.of o⟩,?_⟩
   refine cF (F:=K) (xs:=us) (by omega) (fun i ys H'=>H' = H ∧ ys = (ds.take i).map fun d=>V.bl (cE zs0 d)) ⟨rfl,rfl⟩ ?_ ?_ ?_
   ·rintro i ys H' hi' ⟨rfl,rfl⟩
    exact ⟨SqL.of o,by rw [List.length_map,List.length_take];omega⟩
   ·rintro i x ys H' K1 K2 hx ⟨rfl,rfl⟩ k1 k2
    have hil:i < us.length:=(List.getElem?_eq_some_iff.mp hx).1
    obtain ⟨d,ed⟩:∃ d,ds[i]? = some d:=⟨_,List.getElem?_eq_getElem (by omega)⟩
    obtain ⟨v,ev,iv⟩:=hi.get ed
    rw [hx] at ev
    cases ev
    refine ⟨_,rfl,_,rfl,_,_,rfl,d,p0,zs0,iv,iE hs'.2 (List.mem_of_getElem? ed),rfl,SqL.of hp0,k1 _ _ ⟨rfl,?_⟩⟩
    rw [List.take_add_one,ed]
    simp
   ·rintro ys H' ⟨rfl,rfl⟩
    intro p1 hp1
    have np:p ≠ p1:=aU o hp1
    refine ⟨p1,ds.map (cE zs0),rfl,SqL.of ?_,_,rfl,?_⟩
    ·rw [aF,List.take_of_length_le (by omega),List.map_map]
     rfl
    have e1:(ds.map (cE zs0)).all id = ds.all (cE zs0):=by rw [List.all_map];rfl
    rw [e1]
    refine dR (fun h2=>?_) (fun h2=>?_)
    ·rw [h2,Bool.true_and] at q
     obtain ⟨zs,ez⟩:=pP wU h2
     have l3:zs.length = ds.length:=by have:=congrArg List.length ez;simpa using this.symm
     refine ⟨_,rfl,_,rfl,p,us,ds,zs,rfl,by rw [aR np];exact o,IsL.same (aJ.upd hp1) _ _ hi,ez,by have:=of_decide_eq_true (Bool.and_eq_true_iff.mp h1).2;omega,?_⟩
     have e2:decide zs.Nodup = decide (ds.map cR).Nodup:=by rw [ez,Bool.eq_iff_iff,decide_eq_true_iff,decide_eq_true_iff,gH]
     rw [e2]
     exact cB.of (fH.lst hp1) q
    ·have h2':ds.all (cE zs0) = false:=by simpa using h2
     rw [h2'] at q
     exact cB.of (fH.lst hp1) q
  ·have h1':(decide (1 ≤ ds.length) && decide (ds.length ≤ 40)) = false:=by simpa using h1
   rw [h1'] at q
   exact cB.of (.refl _) q
 | _=>exact bN (cB.of (.refl _) q)
def aDV (C:Addr):Sp:=sp3 fun x v1 v2 H Q=>∃ (p dx:Addr) (fs ds:List Dv),x = .ref p ∧ H p = some (.ins C dx []) ∧ Is H (.lst fs) v1 ∧ Is H (.lst ds) v2 ∧ eI (.lst fs) = true ∧ eI (.lst ds) = true ∧
 cL (.lst fs) = true ∧ eD ("sea" :: fs.map bH) (.lst ds) = true ∧ ∀ H',LandAt C H' p fs ds → (∀ b o,H b = some o → b ≠ p → H' b = some o) → Q .non H'
def rN (C:Addr) (sel:List Dv → List Dv → List Dv):Sp:=sp1 fun x H Q=>∃ (p:Addr) (fs ds:List Dv),x = .ref p ∧ LandAt C H p fs ds ∧ ∀ (l:Addr) (vs:List V) (H':Hp),aJ H H' → H l = none → H' l = some (.lst vs) → IsL H' (sel fs ds) vs → Q (.ref l) H'
def wA (C:Addr) (sel:List Dv → List Dv → List Dv):Sp:=sp1 fun x H Q=>∃ (p:Addr) (fs ds:List Dv),x = .ref p ∧ LandAt C H p fs ds ∧ ∀ (l:Addr) (vs:List V),H l = none → IsL H (sel fs ds) vs → Q (.ref l) (upd H l (.lst vs))
theorem xW {C:Addr} {sel:List Dv → List Dv → List Dv}:∀ vs H Q E,rN C sel vs H Q E → wA C sel vs H Q E:=by
 rintro vs H Q E ⟨x,rfl,p,fs,ds,rfl,L,q⟩
 exact ⟨_,rfl,p,fs,ds,rfl,L,fun l us hl hi=>q l us _ (aJ.upd hl) hl aF (IsL.same (aJ.upd hl) _ _ hi)⟩
theorem oI (T:Txt K mg C):Mc P w K mg base 1 C "fields" ["self"] (wA C fun fs _=>fs):=by
 refine T.m_land_p_fields.mcD pE iB (fun f cdv A outer s H vs Q E hr h=>?_)
 obtain ⟨x,rfl,p,fs,ds,rfl,L,q⟩:=h
 obtain ⟨dx,d1,d2,hx,⟨k1,h1,e1,i1⟩,t2⟩:=L.ex
 refine ⟨_,(@aH _ _ _ (@aM _ _ _ _ (@bS _ _ _ _ _ _ _ _ _ (@jU _ rfl) rfl T.n_list iQ (@aA _ _ _ _ _ (@aES _ _ _ _ _ _ _ _ _ PySem.F.plainAttrs_dict PySem.F.slot_dict_values PySem.F.type_dict_values vB (@aEQ _ _ _ _ _ (pv 0) rfl) (by rfl) (by rfl)) aD (by rfl)) (by decide) (by decide) (by rfl) (by rfl)))),?_⟩
 refine ⟨_,rfl,p,C,dx,_,_,rfl,hx,T.cl_Land,T.a_field_rows,aHE _ _,.inr (.inr (.inl ⟨rfl,.inl ⟨_,h1⟩⟩)),d1,k1,rfl,rfl,.inl h1,fun v hv=>?_⟩
 have nv:d1 ≠ v:=aU h1 hv
 refine ⟨v,d1,k1,rfl,aF,.inl (by rw [aR nv];exact h1),fun l hl=>?_⟩
 exact cB.of (fH.under hv rfl hl) (q l _ ((aJ.upd hv).free hl) i1)
theorem pJ (T:Txt K mg C):Mc P w K mg base 1 C "dykes" ["self"] (wA C fun _ ds=>ds):=by
 refine T.m_land_p_dykes.mcD qI iB (fun f cdv A outer s H vs Q E hr h=>?_)
 obtain ⟨x,rfl,p,fs,ds,rfl,L,q⟩:=h
 obtain ⟨dx,d1,d2,hx,t1,⟨k1,h1,e1,i1⟩⟩:=L.ex
 refine ⟨_,(@aH _ _ _ (@aM _ _ _ _ (@bS _ _ _ _ _ _ _ _ _ (@jU _ rfl) rfl T.n_list iQ (@aA _ _ _ _ _ (@aES _ _ _ _ _ _ _ _ _ PySem.F.plainAttrs_dict PySem.F.slot_dict_values PySem.F.type_dict_values vB (@aEQ _ _ _ _ _ (pv 0) rfl) (by rfl) (by rfl)) aD (by rfl)) (by decide) (by decide) (by rfl) (by rfl)))),?_⟩
 refine ⟨_,rfl,p,C,dx,_,_,rfl,hx,T.cl_Land,T.a_dyke_rows,aHF _ _,.inr (.inr (.inl ⟨rfl,.inl ⟨_,h1⟩⟩)),d2,k1,rfl,rfl,.inl h1,fun v hv=>?_⟩
 have nv:d2 ≠ v:=aU h1 hv
 refine ⟨v,d2,k1,rfl,aF,.inl (by rw [aR nv];exact h1),fun l hl=>?_⟩
 exact cB.of (fH.under hv rfl hl) (q l _ ((aJ.upd hv).free hl) i1)
theorem pI (T:Txt K mg C):Mc P w K mg base 1 C "fields" ["self"] (rN C fun fs _=>fs):=(oI T).imp xW
theorem qL (T:Txt K mg C):Mc P w K mg base 1 C "dykes" ["self"] (rN C fun _ ds=>ds):=(pJ T).imp xW
theorem dyke_row {H:Hp} {n a b:Str} {c r:Int} {s:Dv} {v:V} (h:Is H (.tup [.str n,.str a,.str b,.int c,.int r,s]) v):∃ t vs,v = .ref t ∧ H t = some (.tup [.str n,.str a,.str b,.int c,.int r,vs]) ∧ Is H s vs:=by
 obtain ⟨t,us,rfl,o,v0,r0,rfl,i0,v1,r1,rfl,i1,v2,r2,rfl,i2,v3,r3,rfl,i3,v4,r4,rfl,i4,v5,r5,rfl,i5,h0⟩:=h
 cases (show r5 = [] from h0)
 cases (show v0 = _ from i0)
 cases (show v1 = _ from i1)
 cases (show v2 = _ from i2)
 cases (show v3 = _ from i3)
 cases (show v4 = _ from i4)
 exact ⟨t,v5,rfl,o,i5⟩
theorem field_row {H:Hp} {n:Str} {g e:Int} {v:V} (h:Is H (.tup [.str n,.int g,.int e]) v):∃ t,v = .ref t ∧ H t = some (.tup [.str n,.int g,.int e]):=by
 obtain ⟨t,us,rfl,o,v0,r0,rfl,i0,v1,r1,rfl,i1,v2,r2,rfl,i2,h0⟩:=h
 cases (show r2 = [] from h0)
 cases (show v0 = _ from i0)
 cases (show v1 = _ from i1)
 cases (show v2 = _ from i2)
 exact ⟨t,rfl,o⟩
theorem yE {C:Addr} {H:Hp} {p:Addr} {fs ds:List Dv} (L:LandAt C H p fs ds):GoodF fs ∧ GoodD ("sea" :: fs.map bH) ds:=⟨(fN _).mp L.okf,(gJ _ _).mp L.okd⟩
theorem aAQ {α β:Type}:∀ {xs:List α} {ys:List β},xs.length = ys.length → (xs.zip ys).map (·.1) = xs
 | [],[],_=>rfl
 | x :: xs,y :: ys,h=>by rw [List.zip_cons_cons,List.map_cons,aAQ (by simpa using h)]
 | [],_ :: _,h=>by simp at h
 | _ :: _,[],h=>by simp at h
theorem aAP {α β:Type}:∀ {xs:List α} {ys:List β},xs.length = ys.length → (xs.zip ys).map (·.2) = ys
 | [],[],_=>rfl
 | x :: xs,y :: ys,h=>by rw [List.zip_cons_cons,List.map_cons,aAP (by simpa using h)]
 | [],_ :: _,h=>by simp at h
 | _ :: _,[],h=>by simp at h
def cQ (ds:List Dv) (us:List V):List (Key × V):=(ds.map sV).zip us
theorem kA {ds:List Dv} {us:List V} (h:us.length = ds.length):(cQ ds us).map (·.1) = ds.map sV:=aAQ (by rw [List.length_map];exact h.symm)
theorem sH {ds:List Dv} {us:List V} (h:us.length = ds.length):(cQ ds us).map (·.2) = us:=aAP (by rw [List.length_map];exact h.symm)
theorem mF {ds:List Dv} {us:List V} (h:us.length = ds.length):(cQ ds us).length = us.length:=by
 unfold cQ
 rw [List.length_zip,List.length_map]
 omega
theorem yB {ds:List Dv} {us:List V} {i:Nat} {d:Dv} {v:V} (e1:ds[i]? = some d) (e2:us[i]? = some v):(cQ ds us)[i]? = some (sV d,v):=by
 unfold cQ
 rw [List.getElem?_zip_eq_some]
 exact ⟨by rw [List.getElem?_map,e1];rfl,e2⟩
theorem vF {ds:List Dv} (h:(ds.map bH).Nodup):(ds.map sV).Nodup:=by
 have e:ds.map sV = (ds.map bH).map Sum.inr:=by rw [List.map_map];rfl
 rw [e,vA]
 exact h
theorem uD (T:Txt K mg C):Ic P w K mg base 6 C ["self","fields","dykes"] (aDV C):=by
 have G_p_are_fields:Fc P w K mg base 4 "are_fields" ["thing"] xS:=kK T
 have G_p_are_dykes:Fc P w K mg base 5 "are_dykes" ["thing","sides"] (aBB K):=lH T
 refine T.i_Land.ic mQ zW (fun f cdv A outer s H vs Q E hr h=>?_)
 obtain ⟨x,v1,v2,rfl,p,dx,fs,ds,rfl,hx,hf,hd,sf,sd,okf,okd,q⟩:=h
 have big:=cJ
 have gf:=(fN _).mp okf
 have gd:=(gJ _ _).mp okd
 have lf:=gf.l2
 have ld:=gd.l2
 obtain ⟨a1,us,rfl,o1,i1⟩:=id hf
 obtain ⟨a2,ws,rfl,o2,i2⟩:=id hd
 have l1:=i1.length
 have l2:=i2.length
 refine ⟨_,(@aG _ _ _ _ _ (@bQ _ _ _ _ _ _ _ _ (@eE _ _ _ _ (@dG _ _ _ (@bR _ _ _ _ _ _ _ _ _ _ G_p_are_fields (hr.mono (by decide)) (@aA _ _ _ _ _ (pv 1) aD (by rfl)) (by rfl) (by decide) (by rfl) (by rfl)) (by intro _;rfl))) (@aH _ _ _ xZ) aX) (@aG _ _ _ _ _ (@bQ _ _ _ _ _ _ _ _ (@eE _ _ _ _ (@dG _ _ _ (@bR _ _ _ _ _ _ _ _ _ _ G_p_are_dykes (hr.mono (by decide)) (@aA _ _ _ _ _ (pv 2) (@aA _ _ _ _ _ (@aI _ _ _ _ _ _ _ _ eG (@dP _ _ _ _ (@aA _ _ _ _ _ (@qJ _ _ _ _ T.g_SEA (by rfl) (by decide)) aD (by rfl))) (@dA _ _ _ _ _ _ _ _ _ _ _ ["field"] 1 [] rfl (@cO _ (K) _ _ _ rfl (@cP _ _ _ _ (pv 1))) (fun R=>@bE _ _ (0) _ (show List.Nodup (["field"]:List Str) by decide +kernel) rfl (Or.inl rfl) (by trivial)) (@bG _ _ (by decide)) (fun R=>cA) (fun R=>(@bI _ _ _ _ _ _ _ (@dB _ (K) rfl) (pv 0) aB (fun _ _=>rfl))) (by rfl) (by rfl) (by rfl) (by rfl) (by rfl) (by rfl) (by rfl) (by intro _;rfl))) aD (by rfl)) (by rfl)) (by rfl) (by decide) (by rfl) (by rfl)) (by intro _;rfl))) (@aH _ _ _ xZ) aX) (@aG _ _ _ _ _ (@aEL _ _ _ _ _ _ _ _ (pv 0) (@bS _ _ _ _ _ _ _ _ _ (@kM _ rfl) rfl T.n_dict tQ (@aA _ _ _ _ _ (@dA _ _ _ _ _ _ _ _ _ _ _ ["field"] 1 [] rfl (@cO _ (K) _ _ _ rfl (@cP _ _ _ _ (pv 1))) (fun R=>@bE _ _ (0) _ (show List.Nodup (["field"]:List Str) by decide +kernel) rfl (Or.inl rfl) (by trivial)) (@bG _ _ (by decide)) (fun R=>cA) (fun R=>(@mY _ _ _ _ _ (@aA _ _ _ _ _ (@bI _ _ _ _ _ _ _ (@dB _ (K) rfl) (pv 0) aB (fun _ _=>rfl)) (@aA _ _ _ _ _ (pv 0) aD (by rfl)) (by rfl)))) (by rfl) (by rfl) (by rfl) (by rfl) (by rfl) (by rfl) (by rfl) (by intro _;rfl)) aD (by rfl)) (by decide) (by decide) (by rfl) (by rfl)) rfl) (@aH _ _ _ (@aEL _ _ _ _ _ _ _ _ (pv 0) (@bS _ _ _ _ _ _ _ _ _ (@kM _ rfl) rfl T.n_dict tQ (@aA _ _ _ _ _ (@dA _ _ _ _ _ _ _ _ _ _ _ ["dyke"] 1 [] rfl (@cO _ (K) _ _ _ rfl (@cP _ _ _ _ (pv 2))) (fun R=>@bE _ _ (0) _ (show List.Nodup (["dyke"]:List Str) by decide +kernel) rfl (Or.inl rfl) (by trivial)) (@bG _ _ (by decide)) (fun R=>cA) (fun R=>(@mY _ _ _ _ _ (@aA _ _ _ _ _ (@bI _ _ _ _ _ _ _ (@dB _ (K) rfl) (pv 0) aB (fun _ _=>rfl)) (@aA _ _ _ _ _ (pv 0) aD (by rfl)) (by rfl)))) (by rfl) (by rfl) (by rfl) (by rfl) (by rfl) (by rfl) (by rfl) (by intro _;rfl)) aD (by rfl)) (by decide) (by decide) (by rfl) (by rfl)) rfl))))),?_⟩
 refine ⟨_,rfl,_,rfl,.lst fs,hf,sf,_,rfl,?_⟩
 rw [okf]
 refine bN ?_
 refine ⟨_,rfl,aY rfl,fun p1 hp1=>?_⟩
 have S1:=aJ.upd (o:=.lst [.str "sea"]) hp1
 refine ⟨_,rfl,a1,rfl,⟨_,SqL.of (S1 _ _ o1)⟩,?_⟩
 refine cF (F:=K) (xs:=us) (by omega) (fun i ys H'=>H' = upd H p1 (.lst [.str "sea"]) ∧ ys = ((fs.take i).map bH).map V.str) ⟨rfl,rfl⟩ ?_ ?_ ?_
 ·rintro i ys H' hi' ⟨rfl,rfl⟩
  exact ⟨SqL.of (S1 _ _ o1),by rw [List.length_map,List.length_map,List.length_take];omega⟩
 ·rintro i x ys H' K1 K2 hx' ⟨rfl,rfl⟩ k1 k2
  have hil:i < us.length:=(List.getElem?_eq_some_iff.mp hx').1
  obtain ⟨d,ed⟩:∃ d,fs[i]? = some d:=⟨_,List.getElem?_eq_getElem (by omega)⟩
  obtain ⟨v,ev,iv⟩:=i1.get ed
  rw [hx'] at ev
  cases ev
  obtain ⟨z,g,e,rfl,_⟩:=bF (gf.all d (List.mem_of_getElem? ed))
  obtain ⟨t,rfl,o⟩:=field_row iv
  refine ⟨_,rfl,t,_,0,.str z,rfl,rfl,SqT.of (S1 _ _ o),bC (j:=0) rfl,k1 _ _ ⟨rfl,?_⟩⟩
  rw [List.take_add_one,ed]
  simp [bH,cR]
 ·rintro ys H' ⟨rfl,rfl⟩
  intro p2 hp2
  rw [List.take_of_length_le (by omega)]
  have S2:=aJ.upd (o:=.lst ((fs.map bH).map V.str)) hp2
  refine ⟨p1,p2,_,_,rfl,rfl,S2 _ _ aF,aF,by simp only [List.length_map,List.length_cons,List.length_nil];omega,fun p3 hp3=>?_⟩
  have S3:=aJ.upd (o:=.lst ([.str "sea"] ++ (fs.map bH).map V.str)) hp3
  have S:=S1.trans (S2.trans S3)
  generalize hH3:upd (upd (upd H p1 (.lst [.str "sea"])) p2 (.lst ((fs.map bH).map V.str))) p3 (.lst ([.str "sea"] ++ (fs.map bH).map V.str)) = H3 at S
  have hp3':H3 p3 = some (.lst ((("sea":Str) :: fs.map bH).map V.str)):=by rw [← hH3,aF];rfl
  refine ⟨_,_,rfl,.lst ds,p3,_,Is.same S _ _ hd,sd,rfl,hp3',_,rfl,?_⟩
  rw [okd]
  refine bN ?_
  refine ⟨_,rfl,a1,rfl,⟨_,SqL.of (S _ _ o1)⟩,?_⟩
  refine cF (F:=K) (xs:=us) (by omega) (fun i ys H'=>aJ H3 H' ∧ dE H' ys ((cQ fs us).take i)) ⟨aJ.refl _,dE.nil _⟩ ?_ ?_ ?_
  ·rintro i ys H' hi' ⟨S4,pr⟩
   exact ⟨SqL.of (S4 _ _ (S _ _ o1)),by have:=pr.len;rw [List.length_take] at this;omega⟩
  ·rintro i x ys H' K1 K2 hx' ⟨S4,pr⟩ k1 k2
   have hil:i < us.length:=(List.getElem?_eq_some_iff.mp hx').1
   obtain ⟨d,ed⟩:∃ d,fs[i]? = some d:=⟨_,List.getElem?_eq_getElem (by omega)⟩
   obtain ⟨v,ev,iv⟩:=i1.get ed
   rw [hx'] at ev
   cases ev
   obtain ⟨z,g,e,rfl,_⟩:=bF (gf.all d (List.mem_of_getElem? ed))
   obtain ⟨t,rfl,o⟩:=field_row iv
   have ot:=S4 _ _ (S _ _ o)
   refine ⟨_,rfl,t,_,0,.str z,rfl,rfl,SqT.of ot,bC (j:=0) rfl,_,rfl,aY rfl,fun pt hpt=>k1 _ _ ⟨S4.trans (aJ.upd hpt),?_⟩⟩
   rw [List.take_add_one,yB ed hx']
   exact pr.snoc (k:=Sum.inr z) hpt
  ·rintro ys H4 ⟨S4,pr⟩
   rw [List.take_of_length_le (by rw [mF l1];omega)] at pr
   intro p4 hp4
   have S5:=aJ.upd (o:=.lst ys) hp4
   refine ⟨p4,ys,cQ fs us,rfl,SqL.of aF,pr.same S5,by rw [mF l1];omega,by rw [kA l1];exact vF gf.nd,fun d1 hd1=>?_⟩
   have S6:=aJ.upd (o:=.dK (cQ fs us)) hd1
   have SA:=S.trans (S4.trans (S5.trans S6))
   have hd1':upd (upd H4 p4 (.lst ys)) d1 (.dK (cQ fs us)) d1 = some (.dK (cQ fs us)):=aF
   generalize upd (upd H4 p4 (.lst ys)) d1 (.dK (cQ fs us)) = H6 at SA hd1'
   refine ⟨_,rfl,p,C,dx,[],rfl,SA _ _ hx,T.cl_Land,T.a_field_rows,(by show 0 < 1000;decide),?_⟩
   have SB:∀ b o,H b = some o → b ≠ p → upd H6 p (.ins C dx (hW "field_rows" (.ref d1) [])) b = some o:=fun b o e hb=>by rw [aR hb];exact SA _ _ e
   have nd1:d1 ≠ p:=aEV hd1' (SA _ _ hx) (by intro z;cases z)
   have SD:aBU H (upd H6 p (.ins C dx (hW "field_rows" (.ref d1) []))):=fun b o e dt=>SB b o e (fun z=>by subst z;rw [hx] at e;cases e;cases dt)
   have hp7:upd H6 p (.ins C dx (hW "field_rows" (.ref d1) [])) p = some (.ins C dx (hW "field_rows" (.ref d1) [])):=aF
   have hd7:upd H6 p (.ins C dx (hW "field_rows" (.ref d1) [])) d1 = some (.dK (cQ fs us)):=by rw [aR nd1];exact hd1'
   generalize upd H6 p (.ins C dx (hW "field_rows" (.ref d1) [])) = H7 at SB SD hp7 hd7
   refine ⟨_,rfl,a2,rfl,⟨_,SqL.of (SD _ _ o2 rfl)⟩,?_⟩
   refine cF (F:=K) (xs:=ws) (by omega) (fun i ys H'=>aJ H7 H' ∧ dE H' ys ((cQ ds ws).take i)) ⟨aJ.refl _,dE.nil _⟩ ?_ ?_ ?_
   ·rintro i ys H' hi' ⟨S8,pr⟩
    exact ⟨SqL.of (S8 _ _ (SD _ _ o2 rfl)),by have:=pr.len;rw [List.length_take] at this;omega⟩
   ·rintro i x ys H' K1 K2 hx' ⟨S8,pr⟩ k1 k2
    have hil:i < ws.length:=(List.getElem?_eq_some_iff.mp hx').1
    obtain ⟨d,ed⟩:∃ d,ds[i]? = some d:=⟨_,List.getElem?_eq_getElem (by omega)⟩
    obtain ⟨v,ev,iv⟩:=i2.get ed
    rw [hx'] at ev
    cases ev
    obtain ⟨n,a,b,c,r,sl,rfl,_⟩:=dH (gd.all d (List.mem_of_getElem? ed))
    obtain ⟨t,vs,rfl,o,_⟩:=dyke_row iv
    have ot:=S8 _ _ (SD _ _ o rfl)
    refine ⟨_,rfl,t,_,0,.str n,rfl,rfl,SqT.of ot,bC (j:=0) rfl,_,rfl,aY rfl,fun pt hpt=>k1 _ _ ⟨S8.trans (aJ.upd hpt),?_⟩⟩
    rw [List.take_add_one,yB ed hx']
    exact pr.snoc (k:=Sum.inr n) hpt
   ·rintro ys H8 ⟨S8,pr⟩
    rw [List.take_of_length_le (by rw [mF l2];omega)] at pr
    intro p9 hp9
    have S9:=aJ.upd (o:=.lst ys) hp9
    refine ⟨p9,ys,cQ ds ws,rfl,SqL.of aF,pr.same S9,by rw [mF l2];omega,by rw [kA l2];exact vF gd.nd,fun d2 hd2=>?_⟩
    have S10:=aJ.upd (o:=.dK (cQ ds ws)) hd2
    have SC:=S8.trans (S9.trans S10)
    have hd2':upd (upd H8 p9 (.lst ys)) d2 (.dK (cQ ds ws)) d2 = some (.dK (cQ ds ws)):=aF
    generalize upd (upd H8 p9 (.lst ys)) d2 (.dK (cQ ds ws)) = H10 at SC hd2'
    refine ⟨_,rfl,p,C,dx,_,rfl,SC _ _ hp7,T.cl_Land,T.a_dyke_rows,(by show 1 < 1000;decide),?_⟩
    have nd2:d2 ≠ p:=aEV hd2' (SC _ _ hp7) (by intro z;cases z)
    have SE:aBU H (upd H10 p (.ins C dx (oM d1 d2))):=fun b o e dt=>by
     have hb:b ≠ p:=fun z=>by subst z;rw [hx] at e;cases e;cases dt
     rw [aR hb]
     exact SC _ _ (SB _ _ e hb)
    refine q _ ⟨⟨dx,d1,d2,aF,⟨_,(aR nd1).trans (SC _ _ hd7),kA l1,?_⟩,⟨_,(aR nd2).trans hd2',kA l2,?_⟩⟩,okf,okd⟩ fun b o e hb=>?_
    ·rw [sH l1]
     exact IsL.sameD SE _ _ i1
    ·rw [sH l2]
     exact IsL.sameD SE _ _ i2
    ·show upd H10 p (.ins C dx (oM d1 d2)) b = some o
     rw [aR hb]
     exact SC _ _ (SB _ _ e hb)
def xP (mg:Str → Option Value) (C:Addr):Sp:=fun vs H Q E=>∃ (x v1 v2:V) (p dx:Addr) (d1 d2:Dv) (c:Addr),vs = [x,v1,v2] ∧ x = .ref p ∧ H p = some (.ins C dx []) ∧ Is H d1 v1 ∧ Is H d2 v2 ∧ eI d1 = true ∧ eI d2 = true ∧ mg "NoLand" = some (.ref c) ∧
 (cL d1 = false ∨ ∃ fs,d1 = .lst fs ∧ cL d1 = true ∧ eD ("sea" :: fs.map bH) d2 = false) ∧ ∀ H',aJ H H' → E (.ref c) none H'
theorem sO (T:Txt K mg C):Ic3 P w K mg base 6 C ["self","fields","dykes"] (xP mg C):=by
 obtain ⟨c_NoText,c_NoLand,c_DykeError,c_NoDecree,c_NoLevel,c_NoName,c_NoPurse,c_NoRing,c_NoRow,c_NoSluice,c_NoVoice,c_NoWay,c_NoWish,c_NoWork,c_Outvoted,c_Short,c_TooMany,ex_NoText,ex_NoLand,hm_NoText,hm_NoLand,hm_DykeError,hm_NoDecree,hm_NoLevel,hm_NoName,hm_NoPurse,hm_NoRing,hm_NoRow,hm_NoSluice,hm_NoVoice,hm_NoWay,hm_NoWish,hm_NoWork,hm_Outvoted,hm_Short,hm_TooMany,kx_NoText_DykeError,kx_NoText_ValueError,kx_NoText_NoDecree,kx_NoText_NoLand,kx_NoText_NoLevel,kx_NoText_NoName,kx_NoText_NoPurse,kx_NoText_NoRing,kx_NoText_NoRow,kx_NoText_NoSluice,kx_NoText_NoVoice,kx_NoText_NoWay,kx_NoText_NoWish,kx_NoText_NoWork,kx_NoText_Outvoted,kx_NoText_Short,kx_NoText_TooMany,xc_NoText_NoText,xc_NoLand_NoLand⟩:=T.xs
 have G_p_are_fields:=kK (P:=P) (w:=w) (base:=base) T
 have G_p_are_dykes:=lH (P:=P) (w:=w) (base:=base) T
 refine T.i_Land.ic3 mQ (fun vs H Q E h=>?_) (fun f cdv A outer s H vs Q E hr h=>?_)
 ·obtain ⟨x,v1,v2,p,dx,d1,d2,c,rfl,_⟩:=h
  rfl
 obtain ⟨x,v1,v2,p,dx,d1,d2,c,rfl,rfl,hp,h1,h2,s1,s2,hc,bad,q⟩:=h
 rw [hm_NoLand] at hc
 cases hc
 have big:=cJ
 refine ⟨_,(@aG _ _ _ _ _ (@bQ _ _ _ _ _ _ _ _ (@eE _ _ _ _ (@dG _ _ _ (@bR _ _ _ _ _ _ _ _ _ _ G_p_are_fields (hr.mono (by decide)) (@aA _ _ _ _ _ (pv 1) aD (by rfl)) (by rfl) (by decide) (by rfl) (by rfl)) (by intro _;rfl))) (@aH _ _ _ (@oA _ _ _ _ _ _ _ _ _ _ hm_NoLand ex_NoLand.ex rfl sC (@aA _ _ _ _ _ aN aD (by rfl)) (by rfl) (by decide) (by rfl) (by rfl))) aX) (@aG _ _ _ _ _ (@bQ _ _ _ _ _ _ _ _ (@eE _ _ _ _ (@dG _ _ _ (@bR _ _ _ _ _ _ _ _ _ _ G_p_are_dykes (hr.mono (by decide)) (@aA _ _ _ _ _ (pv 2) (@aA _ _ _ _ _ (@aI _ _ _ _ _ _ _ _ eG (@dP _ _ _ _ (@aA _ _ _ _ _ (@qJ _ _ _ _ T.g_SEA (by rfl) (by decide)) aD (by rfl))) (@dA _ _ _ _ _ _ _ _ _ _ _ ["field"] 1 [] rfl (@cO _ (K) _ _ _ rfl (@cP _ _ _ _ (pv 1))) (fun R=>@bE _ _ (0) _ (show List.Nodup (["field"]:List Str) by decide +kernel) rfl (Or.inl rfl) (by trivial)) (@bG _ _ (by decide)) (fun R=>cA) (fun R=>(@bI _ _ _ _ _ _ _ (@dB _ (K) rfl) (pv 0) aB (fun _ _=>rfl))) (by rfl) (by rfl) (by rfl) (by rfl) (by rfl) (by rfl) (by rfl) (by intro _;rfl))) aD (by rfl)) (by rfl)) (by rfl) (by decide) (by rfl) (by rfl)) (by intro _;rfl))) (@aH _ _ _ (@oA _ _ _ _ _ _ _ _ _ _ hm_NoLand ex_NoLand.ex rfl sC (@aA _ _ _ _ _ aN aD (by rfl)) (by rfl) (by decide) (by rfl) (by rfl))) aX) pG)),?_⟩
 refine ⟨_,rfl,_,rfl,d1,h1,s1,_,rfl,?_⟩
 rcases bad with bad | ⟨fs,rfl,okf,bad⟩
 ·rw [bad]
  exact cC ⟨aY rfl,q _ (aJ.refl _)⟩
 rw [okf]
 refine bN ?_
 have gf:=(fN _).mp okf
 have lf:=gf.l2
 obtain ⟨a1,us,rfl,o1,i1⟩:=h1
 have l1:=i1.length
 refine ⟨_,rfl,aY rfl,fun p1 hp1=>?_⟩
 have S1:=aJ.upd (o:=.lst [.str "sea"]) hp1
 refine ⟨_,rfl,a1,rfl,⟨_,SqL.of (S1 _ _ o1)⟩,?_⟩
 refine cF (F:=K) (xs:=us) (by omega) (fun i ys H'=>H' = upd H p1 (.lst [.str "sea"]) ∧ ys = ((fs.take i).map bH).map V.str) ⟨rfl,rfl⟩ ?_ ?_ ?_
 ·rintro i ys H' hi' ⟨rfl,rfl⟩
  exact ⟨SqL.of (S1 _ _ o1),by rw [List.length_map,List.length_map,List.length_take];omega⟩
 ·rintro i x ys H' K1 K2 hx' ⟨rfl,rfl⟩ k1 k2
  have hil:i < us.length:=(List.getElem?_eq_some_iff.mp hx').1
  obtain ⟨d,ed⟩:∃ d,fs[i]? = some d:=⟨_,List.getElem?_eq_getElem (by omega)⟩
  obtain ⟨v,ev,iv⟩:=i1.get ed
  rw [hx'] at ev
  cases ev
  obtain ⟨z,g,e,rfl,_⟩:=bF (gf.all d (List.mem_of_getElem? ed))
  obtain ⟨t,rfl,o⟩:=field_row iv
  refine ⟨_,rfl,t,_,0,.str z,rfl,rfl,SqT.of (S1 _ _ o),bC (j:=0) rfl,k1 _ _ ⟨rfl,?_⟩⟩
  rw [List.take_add_one,ed]
  simp [bH,cR]
 ·rintro ys H' ⟨rfl,rfl⟩
  intro p2 hp2
  rw [List.take_of_length_le (by omega)]
  have S2:=aJ.upd (o:=.lst ((fs.map bH).map V.str)) hp2
  refine ⟨p1,p2,_,_,rfl,rfl,S2 _ _ aF,aF,by simp only [List.length_map,List.length_cons,List.length_nil];omega,fun p3 hp3=>?_⟩
  have S3:=aJ.upd (o:=.lst ([.str "sea"] ++ (fs.map bH).map V.str)) hp3
  have S:=S1.trans (S2.trans S3)
  generalize hH3:upd (upd (upd H p1 (.lst [.str "sea"])) p2 (.lst ((fs.map bH).map V.str))) p3 (.lst ([.str "sea"] ++ (fs.map bH).map V.str)) = H3 at S
  have hp3':H3 p3 = some (.lst ((("sea":Str) :: fs.map bH).map V.str)):=by rw [← hH3,aF];rfl
  refine ⟨_,_,rfl,d2,p3,_,Is.same S _ _ h2,s2,rfl,hp3',_,rfl,?_⟩
  rw [bad]
  exact cC ⟨aY rfl,q _ S⟩
theorem aDL:(100000:Nat) ≤ sizeLine:=by decide
open Mt13
def aEA (K:PySem.W.Frag):Sp:=sp1 fun x H Q=>Pl K H x ∧ (∀ z,x = .str z → z.length ≤ 100000) ∧ Q (aJS x) H
theorem xN (x:Str):(decide (0 + ("0":Str).length ≤ x.length) && Builtin.Str.subAt x "0" 0) = (x.cps.toList.head? == some 48):=by
 rw [aGG];exact rK x 48
theorem xO (x:Str):(decide (0 + ("-":Str).length ≤ x.length) && Builtin.Str.subAt x "-" 0) = neg x:=by
 rw [aHT];exact rK x 45
def aDZ (K:PySem.W.Frag):Sp:=sp2 fun x y H Q=>y = .int 7 ∧ Pl K H x ∧ (∀ z,x = .str z → z.length ≤ 100000) ∧ Q (aJS x) H
theorem nA (T:Txt K mg C):Fc P w K mg base 1 "number_within" ["word","most"] (aDZ K):=by
 refine T.d_p_number_within.fcD iF qM (fun f cdv A outer s H vs Q E hr h=>?_)
 obtain ⟨x,y,rfl,rfl,hp,hz,q⟩:=h
 obtain ⟨t,ty,e1,e2,e3⟩:=hp.ty
 have big:=aDL
 obtain ⟨u2,pu2,hu2⟩:∃ u,PSs (hJ CX0 P w K mg base ["word","most","figures"] "number_within" (aE cD) f cdv A outer s H E).nox ((aK cD).drop 2) u ∧
   ∀ (z sz:Str),x = .str z → sz.cps.toList = bW z → u { nx:=fun _ H'=>cB Q .non H',rt:=cB Q } [some (.str z),some (.int 7),some (.str sz)] H:=by
  refine ⟨_,(@aG _ _ _ _ _ (@bQ _ _ _ _ _ _ _ _ (@PW.pt _ _ _ (@jL _ _ _ _ _ _ _ (@eE _ _ _ _ (@xY _ _ _ _ _ _ _ _ _ _ _ _ iU iU aB (@aP _ _ _ _ _ _ _ _ _ dC rfl T.n_len bD (@aA _ _ _ _ _ (pv 2) aD (by rfl)) (by decide) (by decide) (by rfl) (by rfl)) (pv 1) (by with_unfolding_all rfl))) (@iY _ _ _ _ (@eE _ _ _ _ (@dG _ _ _ (@aP _ _ _ _ _ _ _ _ _ (@oX _ rfl) rfl T.n_all mM (@aA _ _ _ _ _ (@dA _ _ _ _ _ _ _ _ _ _ _ ["sign"] 1 [] rfl (@wI _ _ _ _ (pv 2)) (fun R=>@bE _ _ (0) _ (show List.Nodup (["sign"]:List Str) by decide +kernel) rfl (Or.inl rfl) (by trivial)) (@bG _ _ (by decide)) (fun R=>cA) (fun R=>(@eS _ _ _ _ _ _ _ _ uV (pv 0) (@qJ _ _ _ _ T.g_FIGURES (by rfl) (by decide)) (by with_unfolding_all rfl))) (by rfl) (by rfl) (by rfl) (by rfl) (by rfl) (by rfl) (by rfl) (by intro _;rfl)) aD (by rfl)) (by decide) (by decide) (by rfl) (by rfl)) (by intro _;rfl)))))) (@aH _ _ _ (@aM _ _ _ _ dO)) aX) (@aG _ _ _ _ _ (@bQ _ _ _ _ _ _ _ _ (@PW.pt _ _ _ (@iN _ _ _ _ _ _ _ (@dG _ _ _ (@dJ _ _ _ _ _ _ _ _ _ _ _ _ PySem.F.plainAttrs_str PySem.F.slot_str_startswith PySem.F.type_str_startswith mS (pv 2) (@aA _ _ _ _ _ aN aD (by rfl)) (by rfl) (by rfl) (by rfl) (by rfl) (by rfl)) (by intro _;rfl)) (@jY _ _ _ _ (@aQ _ _ _ _ _ _ _ _ sI (pv 0) aN (@aS _ _ (by decide) (by decide)))))) (@aH _ _ _ (@aM _ _ _ _ dO)) aX) (@aH _ _ _ (@aM _ _ _ _ (@bS _ _ _ _ _ _ _ _ _ gN rfl T.n_int jV (@aA _ _ _ _ _ (pv 0) aD (by rfl)) (by decide) (by decide) (by rfl) (by rfl)))))),?_⟩
  rintro z sz rfl hsz
  have hz:=hz z rfl
  have hl:=xT hsz
  have hl2:=aBO z
  have hss:sz.length ≤ sizeLine:=by omega
  have q:Q (match fO z with | some n=>.int n | none=>.non) H:=q
  refine ⟨_,rfl,sz,rfl,hss,_,_,rfl,rfl,_,rfl,?_⟩
  refine dR (fun h1=>?_) (fun h1=>?_)
  ·have h1':¬ (bW z).length < 1:=by have:=of_decide_eq_true h1;omega
   refine ⟨_,rfl,_,_,rfl,rfl,_,rfl,?_⟩
   cases h2:decide ((sz.length:Int) ≤ 7) with
   | false =>
    have h2':7 < (bW z).length:=by
     have:=of_decide_eq_false h2
     omega
    have e:fO z = none:=by unfold fO;rw [if_neg h1',if_pos h2']
    rw [e] at q
    exact cC (cB.of (.refl _) q)
   | true =>
    have h2':¬ 7 < (bW z).length:=by
     have:=of_decide_eq_true h2
     omega
    refine bN ?_
    refine ⟨_,rfl,sz,rfl,?_⟩
    refine yS (Nat.le_trans (show sz.length ≤ sizeLine from hss) (Nat.le_refl _)) (fun i ys H'=>H' = H ∧ ys = (sz.cps.toList.take i).map fun c=>V.bl (dig c)) ⟨rfl,rfl⟩ ?_ ?_ ?_
    ·rintro i ys H' ⟨_,rfl⟩
     rw [List.length_map,List.length_take]
     omega
    ·rintro i c ys H' K1 K2 hc ⟨rfl,rfl⟩ k1 k2
     refine ⟨_,rfl,_,_,rfl,rfl,k1 _ _ ⟨rfl,?_⟩⟩
     have hc':sz.cps.toList[i]? = some c:=by simpa using hc
     rw [List.take_add_one,hc',vK]
     simp
    ·rintro ys H' ⟨rfl,rfl⟩
     intro p hp'
     refine ⟨p,(bW z).map dig,rfl,SqL.of ?_,_,rfl,?_⟩
     ·rw [aF,List.take_of_length_le (by simp),List.map_map,hsz]
      rfl
     rw [List.all_map]
     show if (!(bW z).all dig) = true then _ else _
     cases h3:(bW z).all dig with
     | false =>
      have e:fO z = none:=by
       unfold fO
       rw [if_neg h1',if_neg h2',h3]
       split <;> rfl
      rw [e] at q
      exact cC (cB.of (fH.lst hp') q)
     | true =>
      refine bN ?_
      refine ⟨_,rfl,rfl,_,_,rfl,rfl,_,rfl,?_⟩
      rw [xN,hsz]
      have fin:¬ (((bW z).head? == some 48) = true ∧ ¬ z = "0") → ∀ Hx,fH Hx H' → ∃ v,([some (V.str z),some (V.int 7),some (V.str sz)]:St)[0]? = some (some v) ∧ ∃ x n,[v] = [V.str x] ∧ PySem.intText? x = some n ∧ x.length ≤ 640 ∧ cB Q (.int n) Hx:=fun h4 Hx dx=>by
       have e:fO z = some (if neg z then -((PySem.NumText.digitsVal (bW z):Nat):Int) else ((PySem.NumText.digitsVal (bW z):Nat):Int)):=by
        unfold fO
        rw [if_neg h1',if_neg h2',if_neg h4,if_pos h3]
       rw [e] at q
       have hz8:z.length ≤ 8:=by
        have hl:z.length = z.cps.toList.length:=by show z.cps.size = _;rw [Array.length_toList]
        have h2'':¬ 7 < (bW z).length:=h2'
        unfold bW at h2''
        split at h2''
        ·rw [List.length_tail] at h2''
         omega
        ·omega
       refine ⟨_,rfl,z,_,rfl,rA (fun c=>by rw [c] at h1';exact h1' (by decide)) (by omega) h3,by omega,cB.of dx q⟩
      refine dR (fun h4=>?_) (fun h4=>?_)
      ·refine ⟨_,rfl,rfl,_,rfl,?_⟩
       rw [dS]
       refine dR (fun h5=>?_) (fun h5=>?_)
       ·have e:fO z = none:=by
         unfold fO
         rw [if_neg h1',if_neg h2',if_pos]
         refine ⟨h4,fun c=>?_⟩
         rw [decide_eq_true c] at h5
         cases h5
        rw [e] at q
        exact cB.of (fH.lst hp') q
       ·refine fin (fun c=>?_) _ (fH.lst hp')
        rw [decide_eq_false c.2] at h5
        exact h5 rfl
      ·exact bN (fin (fun c=>h4 c.1) _ (fH.lst hp'))
  ·have h1':(bW z).length < 1:=Nat.lt_of_not_le fun c=>h1 (decide_eq_true (by omega))
   have e:fO z = none:=by unfold fO;rw [if_pos h1']
   rw [e] at q
   exact ⟨_,rfl,cC (cB.of (.refl _) q)⟩
 refine ⟨_,(@aG _ _ _ _ _ (@bQ _ _ _ _ _ _ _ _ (@eE _ _ _ _ (@dG _ _ _ (@aP _ _ _ _ _ _ _ _ _ (@dD _ (K) rfl) rfl T.n_isinstance bK (@aA _ _ _ _ _ (pv 0) (@aA _ _ _ _ _ (@oB _ _ _ _ T.n_str dU (by rfl) (by decide) (by decide)) aD (by rfl)) (by rfl)) (by decide) (by decide) (by rfl) (by rfl)) (by intro _;rfl))) (@aH _ _ _ (@aM _ _ _ _ dO)) aX) (@aG _ _ _ _ _ (@aV _ _ (2) _ _ _ _ iF.nd rfl (Or.inl rfl) (@yA _ _ _ _ _ _ _ _ (@dG _ _ _ (@dJ _ _ _ _ _ _ _ _ _ _ _ _ PySem.F.plainAttrs_str PySem.F.slot_str_startswith PySem.F.type_str_startswith mS (pv 0) (@aA _ _ _ _ _ aN aD (by rfl)) (by rfl) (by rfl) (by rfl) (by rfl) (by rfl)) (by intro _;rfl)) (@bM _ _ _ _ _ _ _ _ _ _ jW (pv 0) (@bP _ _ _ aB) cG) (pv 0)) (by rfl) (by trivial)) pu2)),?_⟩
 refine ⟨_,rfl,_,_,_,t,_,rfl,rfl,ty,e3,_,rfl,?_⟩
 cases x with
 | str z =>
  have hz:=hz z rfl
  refine bN ?_
  refine ⟨_,rfl,rfl,_,_,rfl,rfl,_,rfl,?_⟩
  rw [xO]
  cases hn:neg z with
  | true=>exact cC ⟨_,rfl,_,rfl,z,rfl,by omega,hu2 z _ rfl (by rw [rE];unfold bW;rw [if_pos hn])⟩
  | false=>exact bN ⟨_,rfl,hu2 z z rfl (by unfold bW;rw [if_neg (by rw [hn];exact Bool.false_ne_true)])⟩
 | non=>exact cC (cB.of (.refl _) q)
 | bl b=>exact cC (cB.of (.refl _) q)
 | int i=>exact cC (cB.of (.refl _) q)
 | ref a=>exact cC (cB.of (.refl _) q)
 | byt b=>cases hp
 | flt b=>cases hp
 | ty n=>cases hp
theorem lE (T:Txt K mg C):Fc P w K mg base 2 "number_of" ["word"] (aEA K):=by
 have G_p_number_within:Fc P w K mg base 1 "number_within" ["word","most"] (aDZ K):=nA T
 refine T.d_p_number_of.fcD rT iB (fun f cdv A outer s H vs Q E hr h=>?_)
 obtain ⟨x,rfl,hp,hz,q⟩:=h
 refine ⟨_,(@aH _ _ _ (@aM _ _ _ _ (@bR _ _ _ _ _ _ _ _ _ _ G_p_number_within (hr.mono (by decide)) (@aA _ _ _ _ _ (pv 0) (@aA _ _ _ _ _ (@qJ _ _ _ _ T.g_MOST_FIGURES (by rfl) (by decide)) aD (by rfl)) (by rfl)) (by rfl) (by decide) (by rfl) (by rfl)))),?_⟩
 exact ⟨_,rfl,_,_,rfl,rfl,hp,hz,cB.of (.refl _) q⟩
open Mt13 Mt11
def toS (i:Int):Str:=Str.ofString (toString i)
def dW:Dv → List Str
 | .tup [.str z,.int g,.int u]=>[("field":Str),z,toS g,toS u]
 | _=>[]
def nV:Dv → List Str
 | .int s=>[toS s]
 | _=>[]
def dN:Dv → List Str
 | .tup [.str n,.str a,.str b,.int c,.int r,s]=>([("dyke":Str),n,a,b,toS c,toS r]:List Str) ++ nV s
 | _=>[]
def fL (ws:List Str):Str:=Txt.join " " ws
theorem gI {i:Int} (h:i.natAbs ≤ 1000000):i.natAbs.log2 < 1920:=by
 have:i.natAbs < 2 ^ 60:=by omega
 by_cases h0:i.natAbs = 0
 ·rw [h0];decide
 ·exact Nat.lt_trans ((Nat.log2_lt h0).mpr this) (by decide)
theorem cU {i:Int} (h:i.natAbs ≤ 1000000):(toS i).length ≤ 8:=by
 have e:(toS i).length = (toS i).cps.toList.length:=by simp [Str.length]
 rw [e]
 unfold toS
 rw [jQ]
 have:=aAG 6 i.natAbs (by omega)
 split
 ·show _ + 1 ≤ _;omega
 ·omega
theorem kR {k:Nat}:∀ {zs:List Str},(∀ z ∈ zs,z.length ≤ k) → (zs.map fun y=>y.length).sum ≤ zs.length * k
 | [],_=>Nat.zero_le _
 | x :: l,h=>by
  have h1:=h x List.mem_cons_self
  have h2:=kR fun z m=>h z (List.mem_cons_of_mem _ m)
  show x.length + (l.map fun y=>y.length).sum ≤ (l.length + 1) * k
  rw [Nat.add_mul,Nat.one_mul]
  omega
def aDW:Sp:=sp1 fun x H Q=>∃ (t:Addr) (z:Str) (g u:Int),x = .ref t ∧ H t = some (.tup [.str z,.int g,.int u]) ∧ z.length ≤ 8 ∧ g.natAbs ≤ 1000000 ∧ u.natAbs ≤ 1000000 ∧ ∀ H',aJ H H' → Q (.str (fL ["field",z,toS g,toS u])) H'
theorem sM (T:Txt K mg C):Fc P w K mg base 1 "field_row" ["field"] aDW:=by
 refine T.d_p_field_row.fc rY iB (fun f cdv A outer s H vs Q E hr h=>?_)
 obtain ⟨x,rfl,t,z,g,u,rfl,o,hz,hg,hu',q⟩:=h
 have big:=cJ
 have lg:=cU hg
 have lu:=cU hu'
 refine ⟨_,(@aH _ _ _ (@aM _ _ _ _ (@dJ _ _ _ _ _ _ _ _ _ _ _ _ PySem.F.plainAttrs_str PySem.F.slot_str_join PySem.F.type_str_join eJ aN (@aA _ _ _ _ _ (@aI _ _ _ _ _ _ _ _ eG (@dP _ _ _ _ (@aA _ _ _ _ _ aN (@aA _ _ _ _ _ (@bI _ _ _ _ _ _ _ (@dB _ (K) rfl) (pv 0) aB (fun _ _=>rfl)) aD (by rfl)) (by rfl))) (@dA _ _ _ _ _ _ _ _ _ _ _ ["number"] 1 [] rfl (@aEN _ _ _ _ (@bM _ _ _ _ _ _ _ _ _ _ (@wD _ (K) rfl) (pv 0) (@bP _ _ _ aB) cG)) (fun R=>@bE _ _ (0) _ (show List.Nodup (["number"]:List Str) by decide +kernel) rfl (Or.inl rfl) (by trivial)) (@bG _ _ (by decide)) (fun R=>cA) (fun R=>(@bS _ _ _ _ _ _ _ _ _ eT rfl T.n_str dU (@aA _ _ _ _ _ (pv 0) aD (by rfl)) (by decide) (by decide) (by rfl) (by rfl))) (by rfl) (by rfl) (by rfl) (by rfl) (by rfl) (by rfl) (by rfl) (by intro _;rfl))) aD (by rfl)) (by rfl) (by rfl) (by rfl) (by rfl) (by rfl)))),?_⟩
 refine ⟨rfl,_,rfl,t,_,0,.str z,rfl,rfl,SqT.of o,bC (j:=0) rfl,aY rfl,fun l1 h1=>?_⟩
 have S1:=aJ.upd (o:=.lst [.str "field",.str z]) h1
 have r1:upd H l1 (.lst [.str "field",.str z]) l1 = some (.lst [.str "field",.str z]):=aF
 generalize upd H l1 (.lst [.str "field",.str z]) = H1 at S1 r1
 refine ⟨_,rfl,_,rfl,t,_,rfl,SqT.of (S1 _ _ o),(fun w=>absurd (show HT.sIx 3 0 (some 1) = 0 from w.1) (by decide)),fun q1 hq1=>?_⟩
 have S2:=aJ.upd (o:=.tup (fE [V.str z,V.int g,V.int u] (some 1) none)) hq1
 have r2:upd H1 q1 (.tup (fE [V.str z,V.int g,V.int u] (some 1) none)) q1 = some (.tup ([g,u].map V.int)):=aF
 generalize upd H1 q1 (.tup (fE [V.str z,V.int g,V.int u] (some 1) none)) = H2 at S2 r2
 refine ⟨q1,rfl,⟨_,SqT.of r2⟩,?_⟩
 refine yR (F:=K) (xs:=[g,u].map V.int) (by show 2 ≤ sizeLine;omega) (fun k ys H'=>H2 = H' ∧ ys = (([g,u].take k).map toS).map V.str) ⟨rfl,rfl⟩ ?_ ?_ ?_
 ·rintro k ys H' hk ⟨rfl,rfl⟩
  exact ⟨SqT.of r2,by rw [List.length_map,List.length_map,List.length_take];omega⟩
 ·rintro k xv ys H' K1 K2 hx ⟨rfl,rfl⟩ k1 k2
  obtain ⟨i,ei⟩:∃ i,[g,u][k]? = some i:=by
   have:=(List.getElem?_eq_some_iff.mp hx).1
   rw [List.length_map] at this
   exact ⟨_,List.getElem?_eq_getElem this⟩
  rw [List.getElem?_map,ei] at hx
  cases hx
  have hi:i.natAbs ≤ 1000000:=by
   have m:=List.mem_of_getElem? ei
   simp only [List.mem_cons,List.mem_nil_iff,or_false] at m
   rcases m with rfl | rfl
   ·exact hg
   ·exact hu'
  refine ⟨_,rfl,i,rfl,gI hi,k1 _ _ ⟨rfl,?_⟩⟩
  rw [List.take_add_one,ei,List.map_append,List.map_append]
  rfl
 rintro ys H' ⟨rfl,rfl⟩
 intro l2 h2
 have S3:=aJ.upd (o:=.lst (([g,u].map toS).map V.str)) h2
 refine ⟨l1,l2,_,_,rfl,rfl,(S2.trans S3) _ _ r1,aF,by show 2 + 2 ≤ sizeLine;omega,fun l3 h3=>?_⟩
 have S4:=aJ.upd (o:=.lst ([V.str "field",V.str z] ++ ([g,u].map toS).map V.str)) h3
 refine ⟨" ",l3,[("field":Str),z,toS g,toS u],rfl,rfl,SqL.of aF,?_,q _ (S1.trans (S2.trans (S3.trans S4)))⟩
 show (("field":Str).length + (z.length + ((toS g).length + ((toS u).length + 0)))) + 4 * (" ":Str).length ≤ 16777216
 rw [show ("field":Str).length = 5 by decide +kernel,show (" ":Str).length = 1 by decide +kernel]
 omega
def oV:Option Int → V
 | some i=>.int i
 | none=>.non
def aEB:Sp:=sp1 fun x H Q=>∃ (t:Addr) (n a b:Str) (c r:Int) (os:Option Int),x = .ref t ∧ H t = some (.tup [.str n,.str a,.str b,.int c,.int r,oV os]) ∧ n.length ≤ 8 ∧ a.length ≤ 8 ∧ b.length ≤ 8 ∧ c.natAbs ≤ 1000000 ∧ r.natAbs ≤ 1000000 ∧ (∀ s,os = some s → s.natAbs ≤ 1000000) ∧ ∀ H',aJ H H' → Q (.str (fL ([("dyke":Str),n,a,b] ++ ([some c,some r,os].filterMap id).map toS))) H'
theorem uC (T:Txt K mg C):Fc P w K mg base 1 "dyke_row" ["dyke"] aEB:=by
 refine T.d_p_dyke_row.fc mP iB (fun f cdv A outer s H vs Q E hr h=>?_)
 obtain ⟨x,rfl,t,n,a,b,c,r,os,rfl,o,hn,ha,hb,hc,hr',ho,q⟩:=h
 have big:=cJ
 have all:∀ i,some i ∈ [some c,some r,os] → i.natAbs ≤ 1000000:=fun i m=>by
  simp only [List.mem_cons,List.mem_nil_iff,or_false] at m
  rcases m with m | m | m
  ·cases m;exact hc
  ·cases m;exact hr'
  ·exact ho i m.symm
 refine ⟨_,(@aG _ _ _ _ _ (@gG _ (1) _ _ _ _ _ _ _ _ _ _ _ _ _ mP.nd rfl ["number"] 1 [] rfl (@aEN _ _ _ _ (@bM _ _ _ _ _ _ _ _ _ _ (@wD _ (K) rfl) (pv 0) (@bP _ _ _ aB) cG)) (fun R=>@bE _ _ (0) _ (show List.Nodup (["number"]:List Str) by decide +kernel) rfl (Or.inl rfl) (by trivial)) (@bG _ _ (by decide)) (fun R=>@sF _ _ _ (@aQ _ _ _ _ _ _ _ _ qT (pv 0) dO (@aS _ _ (by decide) (by decide)))) (fun R=>(@bS _ _ _ _ _ _ _ _ _ eT rfl T.n_str dU (@aA _ _ _ _ _ (pv 0) aD (by rfl)) (by decide) (by decide) (by rfl) (by rfl))) (by exact Or.inl rfl) (by trivial) (by rfl) (by rfl) (by rfl) (by rfl) (by rfl) (by rfl) (by rfl) (by rfl) (by intro _;rfl)) (@aH _ _ _ (@aM _ _ _ _ (@dJ _ _ _ _ _ _ _ _ _ _ _ _ PySem.F.plainAttrs_str PySem.F.slot_str_join PySem.F.type_str_join eJ aN (@aA _ _ _ _ _ (@aI _ _ _ _ _ _ _ _ eG (@aI _ _ _ _ _ _ _ _ eG (@dP _ _ _ _ (@aA _ _ _ _ _ aN aD (by rfl))) (@bS _ _ _ _ _ _ _ _ _ (@uK _ (K) rfl) rfl T.n_list iQ (@aA _ _ _ _ _ (@bM _ _ _ _ _ _ _ _ _ _ (@wD _ (K) rfl) (pv 0) cG (@bP _ _ _ aB)) aD (by rfl)) (by decide) (by decide) (by rfl) (by rfl))) (pv 1)) aD (by rfl)) (by rfl) (by rfl) (by rfl) (by rfl) (by rfl))))),?_⟩
 refine ⟨_,rfl,_,rfl,t,_,rfl,SqT.of o,(fun w=>absurd (show HT.sIx 6 0 (some 3) = 0 from w.1) (by decide)),fun q1 hq1=>?_⟩
 have S1:=aJ.upd (o:=.tup (fE [V.str n,V.str a,V.str b,V.int c,V.int r,oV os] (some 3) none)) hq1
 have r1:upd H q1 (.tup (fE [V.str n,V.str a,V.str b,V.int c,V.int r,oV os] (some 3) none)) q1 = some (.tup ([some c,some r,os].map oV)):=aF
 generalize upd H q1 (.tup (fE [V.str n,V.str a,V.str b,V.int c,V.int r,oV os] (some 3) none)) = H1 at S1 r1
 refine ⟨q1,rfl,⟨_,SqT.of r1⟩,?_⟩
 refine yR (F:=K) (xs:=[some c,some r,os].map oV) (by show 3 ≤ sizeLine;omega) (fun k ys H'=>H1 = H' ∧ ys = ((([some c,some r,os].take k).filterMap id).map toS).map V.str ∧ ys.length ≤ k) ⟨rfl,rfl,Nat.le_refl _⟩ ?_ ?_ ?_
 ·rintro k ys H' hk ⟨rfl,rfl,ll⟩
  exact ⟨SqT.of r1,ll⟩
 ·rintro k xv ys H' K1 K2 hx ⟨rfl,rfl,ll⟩ k1 k2
  obtain ⟨e,ee⟩:∃ e,[some c,some r,os][k]? = some e:=by
   have:=(List.getElem?_eq_some_iff.mp hx).1
   rw [List.length_map] at this
   exact ⟨_,List.getElem?_eq_getElem this⟩
  rw [List.getElem?_map,ee] at hx
  cases hx
  have et:[some c,some r,os].take (k + 1) = [some c,some r,os].take k ++ [e]:=by rw [List.take_add_one,ee];rfl
  cases e with
  | none =>
   refine ⟨_,rfl,rfl,_,rfl,bN (k2 _ ⟨rfl,?_,by omega⟩)⟩
   rw [et,List.filterMap_append]
   show _ = ((_ ++ []).map toS).map V.str
   rw [List.append_nil]
  | some i =>
   refine ⟨_,rfl,rfl,_,rfl,cC ⟨_,rfl,i,rfl,gI (all i (List.mem_of_getElem? ee)),k1 _ _ ⟨rfl,?_,by rw [List.length_append];show _ + 1 ≤ _;omega⟩⟩⟩
   rw [et,List.filterMap_append,List.map_append,List.map_append]
   rfl
 rintro ys H' ⟨rfl,rfl,ll⟩
 intro l2 h2
 rw [List.take_of_length_le (by show 3 ≤ 3;decide)] at *
 generalize hns:([some c,some r,os].filterMap id).map toS = nsx at *
 have nl:∀ z ∈ nsx,z.length ≤ 8:=fun z m=>by
  rw [← hns] at m
  obtain ⟨i,mi,rfl⟩:=List.mem_map.mp m
  obtain ⟨e,me,he⟩:=List.mem_filterMap.mp mi
  cases (show e = some i from he)
  exact cU (all i me)
 have nl3:nsx.length ≤ 3:=by
  rw [← hns,List.length_map]
  exact List.length_filterMap_le _ _
 have S2:=aJ.upd (o:=.lst (nsx.map V.str)) h2
 have r2:upd H1 l2 (.lst (nsx.map V.str)) l2 = some (.lst (nsx.map V.str)):=aF
 generalize upd H1 l2 (.lst (nsx.map V.str)) = H2 at S2 r2
 have T2:=S1.trans S2
 refine ⟨rfl,aY rfl,fun l3 h3=>?_⟩
 have S3:=aJ.upd (o:=.lst [.str "dyke"]) h3
 have r3:upd H2 l3 (.lst [.str "dyke"]) l3 = some (.lst [.str "dyke"]):=aF
 generalize upd H2 l3 (.lst [.str "dyke"]) = H3 at S3 r3
 have T3:=T2.trans S3
 refine ⟨_,rfl,_,rfl,t,_,rfl,SqT.of (T3 _ _ o),(fun w=>absurd (show HT.sIx 6 6 (some 3) = 6 from w.2) (by decide)),fun q2 hq2=>?_⟩
 have S4:=aJ.upd (o:=.tup (fE [V.str n,V.str a,V.str b,V.int c,V.int r,oV os] none (some 3))) hq2
 have r4:upd H3 q2 (.tup (fE [V.str n,V.str a,V.str b,V.int c,V.int r,oV os] none (some 3))) q2 = some (.tup ([n,a,b].map V.str)):=aF
 generalize upd H3 q2 (.tup (fE [V.str n,V.str a,V.str b,V.int c,V.int r,oV os] none (some 3))) = H4 at S4 r4
 refine ⟨q2,_,rfl,.inr (SqT.of r4),fun l4 h4=>?_⟩
 have S5:=aJ.upd (o:=.lst ([n,a,b].map V.str)) h4
 have r5:upd H4 l4 (.lst ([n,a,b].map V.str)) l4 = some (.lst ([n,a,b].map V.str)):=aF
 generalize upd H4 l4 (.lst ([n,a,b].map V.str)) = H5 at S5 r5
 refine ⟨l3,l4,_,_,rfl,rfl,(S4.trans S5) _ _ r3,r5,by show 1 + 3 ≤ sizeLine;omega,fun l5 h5=>?_⟩
 have S6:=aJ.upd (o:=.lst ([V.str "dyke"] ++ [n,a,b].map V.str)) h5
 have r6:upd H5 l5 (.lst ([V.str "dyke"] ++ [n,a,b].map V.str)) l5 = some (.lst ([("dyke":Str),n,a,b].map V.str)):=aF
 generalize upd H5 l5 (.lst ([V.str "dyke"] ++ [n,a,b].map V.str)) = H6 at S6 r6
 have T6:=S3.trans (S4.trans (S5.trans S6))
 refine ⟨_,rfl,l5,l2,_,_,rfl,rfl,r6,T6 _ _ r2,by rw [List.length_map,List.length_map];show 4 + _ ≤ _;omega,fun l6 h6=>?_⟩
 have S7:=aJ.upd (o:=.lst ([("dyke":Str),n,a,b].map V.str ++ nsx.map V.str)) h6
 refine ⟨" ",l6,[("dyke":Str),n,a,b] ++ nsx,rfl,rfl,SqL.of (by rw [aF,List.map_append]),?_,q _ (T2.trans (T6.trans S7))⟩
 have hs:=kR nl
 rw [List.map_append,List.sum_append,List.length_append]
 show (("dyke":Str).length + (n.length + (a.length + (b.length + 0)))) + (nsx.map fun y=>y.length).sum + (4 + nsx.length) * (" ":Str).length ≤ 16777216
 rw [show ("dyke":Str).length = 4 by decide +kernel,show (" ":Str).length = 1 by decide +kernel]
 omega
open Mt13 Mt11
def aJD:Dv → Option Int
 | .int i=>some i
 | _=>none
def cM (d:Dv):Str:=fL (dW d)
def dX (d:Dv):Str:=fL (dN d)
def gE (fs ds:List Dv):Str:=Txt.join "\n" (fs.map cM ++ ds.map dX)
theorem qS {ws:List Str} {k:Nat} (h:∀ z ∈ ws,z.length ≤ k):(fL ws).length ≤ ws.length * k + ws.length:=by
 unfold fL Txt.join
 rw [StrLaws.glued_eq_join]
 have h1:=StrLaws.join_length_le " " ws
 have h2:=kR h
 rw [show (" ":Str).length = 1 by decide +kernel] at h1
 have h3:(ws.map (·.length)).sum = (ws.map fun y=>y.length).sum:=rfl
 omega
theorem kL {z:Str} (h:cI z = true):z.length ≤ 8:=by
 unfold cI at h
 simp only [Bool.and_eq_true,decide_eq_true_eq] at h
 exact h.1.1.2
theorem cH {i:Int} (h:hgt i = true):i.natAbs ≤ 1000000:=by
 have h1:=of_decide_eq_true (Bool.and_eq_true_iff.mp h).1
 have h2:=of_decide_eq_true (Bool.and_eq_true_iff.mp h).2
 omega
theorem dZ {i:Int} (h:amt i = true):i.natAbs ≤ 1000000:=by
 have h1:=of_decide_eq_true (Bool.and_eq_true_iff.mp h).1
 have h2:=of_decide_eq_true (Bool.and_eq_true_iff.mp h).2
 omega
def zD (C:Addr):Sp:=sp1 fun x H Q=>∃ (p:Addr) (fs ds:List Dv),x = .ref p ∧ LandAt C H p fs ds ∧ ∀ H',aJ H H' → Q (.str (gE fs ds)) H'
theorem lC (T:Txt K mg C):Fc P w K mg base 2 "show_land" ["land"] (zD C):=by
 have G_p_field_row:Fc P w K mg base 1 "field_row" ["field"] aDW:=sM T
 have G_p_dyke_row:Fc P w K mg base 1 "dyke_row" ["dyke"] aEB:=uC T
 have G_land_p_fields:Mc P w K mg base 1 C "fields" ["self"] (rN C fun fs _=>fs):=pI T
 have G_land_p_dykes:Mc P w K mg base 1 C "dykes" ["self"] (rN C fun _ ds=>ds):=qL T
 refine T.d_p_show_land.fc kS iB (fun f cdv A outer s H vs Q E hr h=>?_)
 obtain ⟨x,rfl,p,fs,ds,rfl,L,q⟩:=h
 have big:=cJ
 have gf:=(yE L).1
 have gd:=(yE L).2
 have f2:=gf.l2
 have d2:=gd.l2
 obtain ⟨dx,d1,d2',hx,_⟩:=L.ex
 refine ⟨_,(@aG _ _ _ _ _ (@aV _ _ (1) _ _ _ _ kS.nd rfl (Or.inl rfl) (@aI _ _ _ _ _ _ _ _ eG (@dA _ _ _ _ _ _ _ _ _ _ _ ["field"] 1 [] rfl (@cO _ (K) _ _ _ rfl (@cP _ _ _ _ (@aIG _ _ _ _ _ _ _ _ _ _ _ T.cl_Land G_land_p_fields (hr.mono (by decide)) (pv 0) (by rfl)))) (fun R=>@bE _ _ (0) _ (show List.Nodup (["field"]:List Str) by decide +kernel) rfl (Or.inl rfl) (by trivial)) (@bG _ _ (by decide)) (fun R=>cA) (fun R=>(@bR _ _ _ _ _ _ _ _ _ _ G_p_field_row (hr.mono (by decide)) (@aA _ _ _ _ _ (pv 0) aD (by rfl)) (by rfl) (by decide) (by rfl) (by rfl))) (by rfl) (by rfl) (by rfl) (by rfl) (by rfl) (by rfl) (by rfl) (by intro _;rfl)) (@dA _ _ _ _ _ _ _ _ _ _ _ ["dyke"] 1 [] rfl (@cO _ (K) _ _ _ rfl (@cP _ _ _ _ (@aIG _ _ _ _ _ _ _ _ _ _ _ T.cl_Land G_land_p_dykes (hr.mono (by decide)) (pv 0) (by rfl)))) (fun R=>@bE _ _ (0) _ (show List.Nodup (["dyke"]:List Str) by decide +kernel) rfl (Or.inl rfl) (by trivial)) (@bG _ _ (by decide)) (fun R=>cA) (fun R=>(@bR _ _ _ _ _ _ _ _ _ _ G_p_dyke_row (hr.mono (by decide)) (@aA _ _ _ _ _ (pv 0) aD (by rfl)) (by rfl) (by decide) (by rfl) (by rfl))) (by rfl) (by rfl) (by rfl) (by rfl) (by rfl) (by rfl) (by rfl) (by intro _;rfl))) (by rfl) (by trivial)) (@aH _ _ _ (@aM _ _ _ _ (@dJ _ _ _ _ _ _ _ _ _ _ _ _ PySem.F.plainAttrs_str PySem.F.slot_str_join PySem.F.type_str_join eJ aN (@aA _ _ _ _ _ (pv 1) aD (by rfl)) (by rfl) (by rfl) (by rfl) (by rfl) (by rfl))))),?_⟩
 refine ⟨_,rfl,p,dx,_,rfl,hx,yI _ _ (by decide +kernel) (by decide +kernel),_,rfl,p,fs,ds,rfl,L,fun lf vf H1 S1 nlf hlf hif=>?_⟩
 have hif:IsL H1 fs vf:=hif
 have lvf:fs.length = vf.length:=by have:=hif.length;omega
 refine ⟨lf,rfl,⟨_,SqL.of hlf⟩,?_⟩
 refine cF (F:=K) (xs:=vf) (by omega) (fun i ys H'=>aJ H1 H' ∧ ys = ((fs.take i).map cM).map V.str) ⟨aJ.refl _,rfl⟩ ?_ ?_ ?_
 ·rintro i ys H' hi ⟨S',rfl⟩
  exact ⟨SqL.of (S' _ _ hlf),by rw [List.length_map,List.length_map,List.length_take];omega⟩
 ·rintro i xv ys H' K1 K2 hx' ⟨S',rfl⟩ k1 k2
  have hil:i < vf.length:=(List.getElem?_eq_some_iff.mp hx').1
  obtain ⟨d,ed⟩:∃ d,fs[i]? = some d:=⟨_,List.getElem?_eq_getElem (by omega)⟩
  obtain ⟨v,ev,iv⟩:=hif.get ed
  rw [hx'] at ev
  cases ev
  have et:(fs.take (i + 1)).map cM = (fs.take i).map cM ++ [cM d]:=by rw [List.take_add_one,ed,List.map_append];rfl
  obtain ⟨z,g,u,rfl,hz,hg,hu'⟩:=bF (gf.all d (List.mem_of_getElem? ed))
  obtain ⟨t,rfl,o⟩:=field_row iv
  refine ⟨_,rfl,_,rfl,t,z,g,u,rfl,S' _ _ o,kL hz,cH hg,dZ hu',fun H2 S2=>k1 _ _ ⟨S'.trans S2,?_⟩⟩
  rw [et,List.map_append]
  rfl
 rintro ys H2 ⟨S2,rfl⟩
 rw [List.take_of_length_le (by omega)]
 intro l1 h1
 have S3:=aJ.upd (o:=.lst ((fs.map cM).map V.str)) h1
 have r3:upd H2 l1 (.lst ((fs.map cM).map V.str)) l1 = some (.lst ((fs.map cM).map V.str)):=aF
 have T3:=S1.trans (S2.trans S3)
 generalize upd H2 l1 (.lst ((fs.map cM).map V.str)) = H3 at S3 r3 T3
 have L3:=L.same T3
 obtain ⟨dx3,y1,y2,hx3,_⟩:=L3.ex
 refine ⟨_,rfl,p,dx3,_,rfl,hx3,yI _ _ (by decide +kernel) (by decide +kernel),_,rfl,p,fs,ds,rfl,L3,fun ld vd H4 S4 nld hld hid=>?_⟩
 have hid:IsL H4 ds vd:=hid
 have lvd:ds.length = vd.length:=by have:=hid.length;omega
 refine ⟨ld,rfl,⟨_,SqL.of hld⟩,?_⟩
 refine cF (F:=K) (xs:=vd) (by omega) (fun i ys H'=>aJ H4 H' ∧ ys = ((ds.take i).map dX).map V.str) ⟨aJ.refl _,rfl⟩ ?_ ?_ ?_
 ·rintro i ys H' hi ⟨S',rfl⟩
  exact ⟨SqL.of (S' _ _ hld),by rw [List.length_map,List.length_map,List.length_take];omega⟩
 ·rintro i xv ys H' K1 K2 hx' ⟨S',rfl⟩ k1 k2
  have hil:i < vd.length:=(List.getElem?_eq_some_iff.mp hx').1
  obtain ⟨d,ed⟩:∃ d,ds[i]? = some d:=⟨_,List.getElem?_eq_getElem (by omega)⟩
  obtain ⟨v,ev,iv⟩:=hid.get ed
  rw [hx'] at ev
  cases ev
  have et:(ds.take (i + 1)).map dX = (ds.take i).map dX ++ [dX d]:=by rw [List.take_add_one,ed,List.map_append];rfl
  obtain ⟨n,a,b,c,r,sl,rfl,hn,ha,hb,hab,hc,hr',hs⟩:=dH (gd.all d (List.mem_of_getElem? ed))
  obtain ⟨t,sv,rfl,o,isv⟩:=dyke_row iv
  have side:∀ y ∈ ("sea" :: fs.map bH:List Str),y.length ≤ 8:=fun y my=>by
   rcases List.mem_cons.mp my with rfl | my
   ·decide +kernel
   ·obtain ⟨d,md,rfl⟩:=List.mem_map.mp my
    obtain ⟨z,g,u,rfl,hz,_⟩:=bF (gf.all d md)
    exact kL hz
  obtain ⟨esv,hos⟩:sv = oV (aJD sl) ∧ ∀ s,aJD sl = some s → s.natAbs ≤ 1000000:=by
   cases sl with
   | non=>exact ⟨isv,fun s e=>by cases e⟩
   | int i =>
    refine ⟨isv,fun s e=>?_⟩
    cases e
    exact cH (Bool.and_eq_true_iff.mp (show (hgt i && decide (i < c)) = true from hs)).1
   | _=>cases hs
  rw [esv] at o
  refine ⟨_,rfl,_,rfl,t,n,a,b,c,r,aJD sl,rfl,S' _ _ o,kL hn,side a ha,side b hb,cH hc,dZ hr',hos,fun H5 S5=>k1 _ _ ⟨S'.trans S5,?_⟩⟩
  rw [et,List.map_append]
  congr 1
  show [V.str (fL _)] = [V.str (fL (([("dyke":Str),n,a,b,toS c,toS r]:List Str) ++ nV sl))]
  cases sl with
  | non=>rfl
  | int i=>rfl
  | _=>cases hs
 rintro ys H5 ⟨S5,rfl⟩
 rw [List.take_of_length_le (by omega)]
 intro l2 h2
 have S6:=aJ.upd (o:=.lst ((ds.map dX).map V.str)) h2
 have T6:=S4.trans (S5.trans S6)
 have lF:((fs.map cM).map V.str).length = fs.length:=by rw [List.length_map,List.length_map]
 have lD:((ds.map dX).map V.str).length = ds.length:=by rw [List.length_map,List.length_map]
 refine ⟨l1,l2,_,_,rfl,rfl,T6 _ _ r3,aF,by omega,fun l3 h3=>?_⟩
 have S7:=aJ.upd (o:=.lst ((fs.map cM).map V.str ++ (ds.map dX).map V.str)) h3
 refine ⟨rfl,_,rfl,"\n",l3,fs.map cM ++ ds.map dX,rfl,rfl,SqL.of (by rw [aF,List.map_append]),?_,q _ (T3.trans (T6.trans S7))⟩
 have hall:∀ z ∈ fs.map cM ++ ds.map dX,z.length ≤ 70:=fun z mz=>by
  have side:∀ y ∈ ("sea" :: fs.map bH:List Str),y.length ≤ 8:=fun y my=>by
   rcases List.mem_cons.mp my with rfl | my
   ·decide +kernel
   ·obtain ⟨d,md,rfl⟩:=List.mem_map.mp my
    obtain ⟨z,g,u,rfl,hz,_⟩:=bF (gf.all d md)
    exact kL hz
  rcases List.mem_append.mp mz with mz | mz
  ·obtain ⟨d,md,rfl⟩:=List.mem_map.mp mz
   obtain ⟨z,g,u,rfl,hz,hg,hu'⟩:=bF (gf.all d md)
   have:=qS (ws:=[("field":Str),z,toS g,toS u]) (k:=8) (fun y my=>by
    simp only [List.mem_cons,List.mem_nil_iff,or_false] at my
    rcases my with rfl | rfl | rfl | rfl
    ·decide +kernel
    ·exact kL hz
    ·exact cU (cH hg)
    ·exact cU (dZ hu'))
   exact Nat.le_trans this (by show 4 * 8 + 4 ≤ 70;decide)
  ·obtain ⟨d,md,rfl⟩:=List.mem_map.mp mz
   obtain ⟨n,a,b,c,r,sl,rfl,hn,ha,hb,hab,hc,hr',hs⟩:=dH (gd.all d md)
   have hsl:∀ y ∈ nV sl,y.length ≤ 8:=fun y my=>by
    cases sl with
    | int i =>
     rw [List.mem_singleton.mp (show y ∈ [toS i] from my)]
     exact cU (cH (Bool.and_eq_true_iff.mp (show (hgt i && decide (i < c)) = true from hs)).1)
    | _=>cases my
   have lsl:(nV sl).length ≤ 1:=by
    cases sl with
    | int i=>exact Nat.le_refl _
    | _=>exact Nat.zero_le _
   have:=qS (ws:=([("dyke":Str),n,a,b,toS c,toS r]:List Str) ++ nV sl) (k:=8) (fun y my=>by
    rcases List.mem_append.mp my with my | my
    ·simp only [List.mem_cons,List.mem_nil_iff,or_false] at my
     rcases my with rfl | rfl | rfl | rfl | rfl | rfl
     ·decide +kernel
     ·exact kL hn
     ·exact side _ ha
     ·exact side _ hb
     ·exact cU (cH hc)
     ·exact cU (dZ hr')
    ·exact hsl y my)
   rw [List.length_append] at this
   exact Nat.le_trans this (by show (6 + _) * 8 + (6 + _) ≤ 70;omega)
 have h1:=kR hall
 have h2:(fs.map cM ++ ds.map dX).length = fs.length + ds.length:=by rw [List.length_append,List.length_map,List.length_map]
 rw [show ("\n":Str).length = 1 by decide +kernel]
 omega
open Mt13 Mt11
theorem aGB {k c:Nat}:∀ {xs:List (List Nat)},c ∈ cj k xs → c = k ∨ ∃ x ∈ xs,c ∈ x
 | [],m=>by cases m
 | [x],m=>.inr ⟨x,List.mem_cons_self,m⟩
 | x :: y :: r,m=>by
  have m':c ∈ x ++ k :: cj k (y :: r):=m
  rcases List.mem_append.mp m' with m | m
  ·exact .inr ⟨x,List.mem_cons_self,m⟩
  ·rcases List.mem_cons.mp m with rfl | m
   ·exact .inl rfl
   ·rcases aGB m with h | ⟨z,mz,hz⟩
    ·exact .inl h
    ·exact .inr ⟨z,List.mem_cons_of_mem _ mz,hz⟩
def word (z:Str):Prop:=∀ c ∈ z.cps.toList,c ≠ 32 ∧ c ≠ 10
theorem mB {z:Str} (h:cI z = true):word z:=fun c mc=>by
 have h1:z.cps.toList.all eH = true:=(Bool.and_eq_true_iff.mp h).2
 have h2:=List.all_eq_true.mp h1 c mc
 unfold eH at h2
 simp only [Bool.and_eq_true,decide_eq_true_eq] at h2
 omega
theorem kP (i:Int):word (toS i):=fun c mc=>by
 have:=aCR i c mc
 omega
theorem xH:word "sea":=by
 intro c mc
 have e:("sea":Str).cps.toList = [115,101,97]:=by decide +kernel
 rw [e] at mc
 simp only [List.mem_cons,List.mem_nil_iff,or_false] at mc
 omega
theorem yZ:word "field":=by
 intro c mc
 have e:("field":Str).cps.toList = [102,105,101,108,100]:=by decide +kernel
 rw [e] at mc
 simp only [List.mem_cons,List.mem_nil_iff,or_false] at mc
 omega
theorem aBW:word "dyke":=by
 intro c mc
 have e:("dyke":Str).cps.toList = [100,121,107,101]:=by decide +kernel
 rw [e] at mc
 simp only [List.mem_cons,List.mem_nil_iff,or_false] at mc
 omega
theorem lV:(" ":Str) = ⟨#[32]⟩:=by decide +kernel
theorem aEJ:("\n":Str) = ⟨#[10]⟩:=by decide +kernel
theorem uP {ws:List Str} (hne:ws ≠ []) (h:∀ z ∈ ws,word z):Txt.split (fL ws) " " = ws:=by
 unfold fL Txt.join
 rw [StrLaws.glued_eq_join,lV]
 exact rM hne fun p mp m=>(h p mp 32 m).1 rfl
theorem xX {ws:List Str} (h:∀ z ∈ ws,word z):10 ∉ (fL ws).cps.toList:=fun m=>by
 unfold fL Txt.join at m
 rw [StrLaws.glued_eq_join,lV,mI] at m
 rcases aGB m with e | ⟨x,mx,hx⟩
 ·cases e
 ·obtain ⟨p,mp,rfl⟩:=List.mem_map.mp mx
  exact (h p mp 10 hx).2 rfl
theorem kO {d:Dv} (h:bT d = true):dW d ≠ [] ∧ ∀ z ∈ dW d,word z:=by
 obtain ⟨z,g,u,rfl,hz,_⟩:=bF h
 refine ⟨by simp [dW],fun y my=>?_⟩
 have my':y ∈ [("field":Str),z,toS g,toS u]:=my
 simp only [List.mem_cons,List.mem_nil_iff,or_false] at my'
 rcases my' with rfl | rfl | rfl | rfl
 ·exact yZ
 ·exact mB hz
 ·exact kP _
 ·exact kP _
theorem mU {zs:List Str} {d:Dv} (hzs:∀ z ∈ zs,word z) (h:cE zs d = true):dN d ≠ [] ∧ ∀ z ∈ dN d,word z:=by
 obtain ⟨n,a,b,c,r,sl,rfl,hn,ha,hb,_⟩:=dH h
 refine ⟨by simp [dN],fun y my=>?_⟩
 have my':y ∈ ([("dyke":Str),n,a,b,toS c,toS r]:List Str) ++ nV sl:=my
 rcases List.mem_append.mp my' with my | my
 ·simp only [List.mem_cons,List.mem_nil_iff,or_false] at my
  rcases my with rfl | rfl | rfl | rfl | rfl | rfl
  ·exact aBW
  ·exact mB hn
  ·exact hzs _ ha
  ·exact hzs _ hb
  ·exact kP _
  ·exact kP _
 ·cases sl with
  | int i =>
   rw [List.mem_singleton.mp (show y ∈ [toS i] from my)]
   exact kP _
  | _=>cases my
theorem zC {fs ds:List Dv} (gf:GoodF fs) (gd:GoodD ("sea" :: fs.map bH) ds):Txt.split (gE fs ds) "\n" = fs.map cM ++ ds.map dX:=by
 have hz:∀ z ∈ ("sea" :: fs.map bH:List Str),word z:=fun z mz=>by
  rcases List.mem_cons.mp mz with rfl | mz
  ·exact xH
  ·obtain ⟨d,md,rfl⟩:=List.mem_map.mp mz
   obtain ⟨n,g,u,rfl,hn,_⟩:=bF (gf.all d md)
   exact mB hn
 unfold gE Txt.join
 rw [StrLaws.glued_eq_join,aEJ]
 refine rM (fun e=>?_) fun p mp=>?_
 ·have:=congrArg List.length e
  rw [List.length_append,List.length_map] at this
  have h1:=gf.l1
  have h0:([]:List Str).length = 0:=rfl
  omega
 ·rcases List.mem_append.mp mp with m | m
  ·obtain ⟨d,md,rfl⟩:=List.mem_map.mp m
   exact xX (kO (gf.all d md)).2
  ·obtain ⟨d,md,rfl⟩:=List.mem_map.mp m
   exact xX (mU hz (gd.all d md)).2
open Mt13 Mt11 Mt02
def mO (z:Str):Dv:=match fO z with | some n=>.int n | none=>.non
def nG (z:Str):V:=aJS (.str z)
theorem aJH {H:Hp} (z:Str):Is H (mO z) (nG z):=by
 show Is H (match fO z with | some n=>.int n | none=>.non) (match fO z with | some n=>.int n | none=>.non)
 cases fO z <;> rfl
theorem wQ {H:Hp}:∀ zs:List Str,IsL H (zs.map mO) (zs.map nG)
 | []=>rfl
 | z :: zs=>⟨_,_,rfl,aJH z,wQ zs⟩
theorem vW {H:Hp}:∀ zs:List Str,IsL H (zs.map Dv.str) (zs.map V.str)
 | []=>rfl
 | z :: zs=>⟨_,_,rfl,rfl,vW zs⟩
theorem qV {H:Hp}:∀ {ds:List Dv} {vs:List V} {es:List Dv} {us:List V},IsL H ds vs → IsL H es us → IsL H (ds ++ es) (vs ++ us)
 | [],_,_,_,h,k=>by
  cases (show _ = [] from h)
  exact k
 | d :: ds,_,_,_,⟨v,r,e,h,t⟩,k=>by
  subst e
  exact ⟨v,_,rfl,h,qV t k⟩
theorem tK (xs:List V) (i j:Nat):fE xs (some (i:Int)) (some (j:Int)) = (xs.drop i).take (j - i):=by
 unfold fE
 rw [HT.sIx_nat,HT.sIx_nat]
 by_cases hi:i ≤ xs.length
 ·rw [Nat.min_eq_left hi]
  by_cases hj:j ≤ xs.length
  ·rw [Nat.min_eq_left hj]
  ·rw [Nat.min_eq_right (by omega),List.take_of_length_le (by rw [List.length_drop];exact Nat.le_refl _),List.take_of_length_le (by rw [List.length_drop];omega)]
 ·rw [Nat.min_eq_right (by omega:xs.length ≤ i),List.drop_eq_nil_of_le (Nat.le_refl _),List.drop_eq_nil_of_le (by omega)]
  simp
theorem pS (xs:List V) (k:Nat):fE xs (some (k:Int)) none = xs.drop k:=by
 unfold fE
 rw [HT.sIx_nat,HT.sIx_none]
 by_cases h:k ≤ xs.length
 ·rw [Nat.min_eq_left h,List.take_of_length_le (by rw [List.length_drop];exact Nat.le_refl _)]
 ·rw [Nat.min_eq_right (by omega),List.drop_eq_nil_of_le (Nat.le_refl _),List.drop_eq_nil_of_le (by omega)]
  simp
theorem aDF (xs:List V) (k:Nat):fE xs none (some (k:Int)) = xs.take k:=by
 unfold fE
 rw [HT.sIx_nat,HT.sIx_none,List.drop_zero,Nat.sub_zero]
 by_cases h:k ≤ xs.length
 ·rw [Nat.min_eq_left h]
 ·rw [Nat.min_eq_right (by omega),List.take_of_length_le (Nat.le_refl _),List.take_of_length_le (by omega)]
def qB (ws:List Str):List Dv:=((ws.drop 1).take 1).map Dv.str ++ (ws.drop 2).map mO
def mT (ws:List Str):List Dv:=((ws.drop 1).take 3).map Dv.str ++ (ws.drop 4).map mO ++ (if ws.length = 7 then [] else [.non])
def aDX:Sp:=sp1 fun x H Q=>∃ (l:Addr) (ws:List Str),x = .ref l ∧ H l = some (.lst (ws.map V.str)) ∧ ws.length ≤ 4000 ∧ (∀ z ∈ ws,z.length ≤ 4000) ∧ ∀ (t:Addr) (us:List V) (H':Hp),aJ H H' → H t = none → H' t = some (.tup us) → (∀ H'',IsL H'' (qB ws) us) → Q (.ref t) H'
theorem uB (T:Txt K mg C):Fc P w K mg base 3 "field_in" ["words"] aDX:=by
 have G_p_number_of:Fc P w K mg base 2 "number_of" ["word"] (aEA K):=lE T
 refine T.d_p_field_in.fc tX iB (fun f cdv A outer s H vs Q E hr h=>?_)
 obtain ⟨x,rfl,l,ws,rfl,o,lw,lz,q⟩:=h
 have big:=cJ
 refine ⟨_,(@aH _ _ _ (@aM _ _ _ _ (@bS _ _ _ _ _ _ _ _ _ jB rfl T.n_tuple iW (@aA _ _ _ _ _ (@aI _ _ _ _ _ _ _ _ eG (@bM _ _ _ _ _ _ _ _ _ _ (@cW _ (K) rfl) (pv 0) (@bP _ _ _ aB) (@bP _ _ _ aB)) (@dA _ _ _ _ _ _ _ _ _ _ _ ["word"] 1 [] rfl (@cO _ (K) _ _ _ rfl (@cP _ _ _ _ (@bM _ _ _ _ _ _ _ _ _ _ (@cW _ (K) rfl) (pv 0) (@bP _ _ _ aB) cG))) (fun R=>@bE _ _ (0) _ (show List.Nodup (["word"]:List Str) by decide +kernel) rfl (Or.inl rfl) (by trivial)) (@bG _ _ (by decide)) (fun R=>cA) (fun R=>(@bR _ _ _ _ _ _ _ _ _ _ G_p_number_of (hr.mono (by decide)) (@aA _ _ _ _ _ (pv 0) aD (by rfl)) (by rfl) (by decide) (by rfl) (by rfl))) (by rfl) (by rfl) (by rfl) (by rfl) (by rfl) (by rfl) (by rfl) (by intro _;rfl))) aD (by rfl)) (by decide) (by decide) (by rfl) (by rfl)))),?_⟩
 have c1:fE (ws.map V.str) (some 1) (some 2) = ((ws.drop 1).take 1).map V.str:=by rw [show (some (1:Int)) = some ((1:Nat):Int) from rfl,show (some (2:Int)) = some ((2:Nat):Int) from rfl,tK,← List.map_drop,← List.map_take]
 have c2:fE (ws.map V.str) (some 2) none = (ws.drop 2).map V.str:=by rw [show (some (2:Int)) = some ((2:Nat):Int) from rfl,pS,← List.map_drop]
 have ld:(ws.drop 2).length ≤ 4000:=by rw [List.length_drop];omega
 have l1:((ws.drop 1).take 1).length ≤ 1:=by rw [List.length_take];omega
 refine ⟨_,rfl,_,rfl,_,rfl,l,_,rfl,SqL.of o,fun p1 h1=>?_⟩
 rw [c1]
 have S1:=aJ.upd (o:=.lst (((ws.drop 1).take 1).map V.str)) h1
 have r1:upd H p1 (.lst (((ws.drop 1).take 1).map V.str)) p1 = some (.lst (((ws.drop 1).take 1).map V.str)):=aF
 generalize upd H p1 (.lst (((ws.drop 1).take 1).map V.str)) = H1 at S1 r1
 refine ⟨_,rfl,_,rfl,l,_,rfl,SqL.of (S1 _ _ o),fun l2 h2=>?_⟩
 rw [c2]
 have S2:=aJ.upd (o:=.lst ((ws.drop 2).map V.str)) h2
 have r2:upd H1 l2 (.lst ((ws.drop 2).map V.str)) l2 = some (.lst ((ws.drop 2).map V.str)):=aF
 generalize upd H1 l2 (.lst ((ws.drop 2).map V.str)) = H2 at S2 r2
 refine ⟨l2,rfl,⟨_,SqL.of r2⟩,?_⟩
 refine cF (F:=K) (xs:=(ws.drop 2).map V.str) (by rw [List.length_map];omega) (fun k ys H'=>H2 = H' ∧ ys = ((ws.drop 2).take k).map nG) ⟨rfl,rfl⟩ ?_ ?_ ?_
 ·rintro k ys H' hk ⟨rfl,rfl⟩
  exact ⟨SqL.of r2,by rw [List.length_map,List.length_take];omega⟩
 ·rintro k xv ys H' K1 K2 hx ⟨rfl,rfl⟩ k1 k2
  rw [List.getElem?_map] at hx
  obtain ⟨z,ez,rfl⟩:=Option.map_eq_some_iff.mp hx
  have hz:=lz z (List.mem_of_mem_drop (List.mem_of_getElem? ez))
  refine ⟨_,rfl,_,rfl,.str _,(fun z' e=>by cases e;omega),?_⟩
  refine k1 _ _ ⟨rfl,?_⟩
  rw [List.take_add_one,ez,List.map_append]
  rfl
 rintro ys H' ⟨rfl,rfl⟩
 rw [List.length_map,List.take_of_length_le (Nat.le_refl _)]
 intro l3 h3
 have S3:=aJ.upd (o:=.lst ((ws.drop 2).map nG)) h3
 refine ⟨p1,l3,_,_,rfl,rfl,(S2.trans S3) _ _ r1,aF,by rw [List.length_map,List.length_map];omega,fun l4 h4=>?_⟩
 have S4:=aJ.upd (o:=.lst (((ws.drop 1).take 1).map V.str ++ (ws.drop 2).map nG)) h4
 have T4:=S1.trans (S2.trans (S3.trans S4))
 refine ⟨l4,_,rfl,.inl ⟨SqL.of aF,fun t ht=>?_⟩⟩
 exact q t _ _ (T4.trans (aJ.upd ht)) (T4.free ht) aF fun H''=>qV (vW _) (wQ _)
def aEC:Sp:=sp1 fun x H Q=>∃ (l:Addr) (ws:List Str),x = .ref l ∧ H l = some (.lst (ws.map V.str)) ∧ ws.length ≤ 4000 ∧ (∀ z ∈ ws,z.length ≤ 4000) ∧ ∀ (t:Addr) (us:List V) (H':Hp),aJ H H' → H t = none → H' t = some (.tup us) → (∀ H'',IsL H'' (mT ws) us) → Q (.ref t) H'
theorem wM (T:Txt K mg C):Fc P w K mg base 3 "dyke_in" ["words"] aEC:=by
 have G_p_number_of:Fc P w K mg base 2 "number_of" ["word"] (aEA K):=lE T
 refine T.d_p_dyke_in.fc nX iB (fun f cdv A outer s H vs Q E hr h=>?_)
 obtain ⟨x,rfl,l,ws,rfl,o,lw,lz,q⟩:=h
 have big:=cJ
 refine ⟨_,(@aG _ _ _ _ _ (@aV _ _ (1) _ _ _ _ nX.nd rfl (Or.inl rfl) (@aI _ _ _ _ _ _ _ _ eG (@bM _ _ _ _ _ _ _ _ _ _ (@cW _ (K) rfl) (pv 0) (@bP _ _ _ aB) (@bP _ _ _ aB)) (@dA _ _ _ _ _ _ _ _ _ _ _ ["word"] 1 [] rfl (@cO _ (K) _ _ _ rfl (@cP _ _ _ _ (@bM _ _ _ _ _ _ _ _ _ _ (@cW _ (K) rfl) (pv 0) (@bP _ _ _ aB) cG))) (fun R=>@bE _ _ (0) _ (show List.Nodup (["word"]:List Str) by decide +kernel) rfl (Or.inl rfl) (by trivial)) (@bG _ _ (by decide)) (fun R=>cA) (fun R=>(@bR _ _ _ _ _ _ _ _ _ _ G_p_number_of (hr.mono (by decide)) (@aA _ _ _ _ _ (pv 0) aD (by rfl)) (by rfl) (by decide) (by rfl) (by rfl))) (by rfl) (by rfl) (by rfl) (by rfl) (by rfl) (by rfl) (by rfl) (by intro _;rfl))) (by rfl) (by trivial)) (@aH _ _ _ (@aM _ _ _ _ (@bS _ _ _ _ _ _ _ _ _ jB rfl T.n_tuple iW (@aA _ _ _ _ _ (@yA _ _ _ _ _ _ _ _ (@aQ _ _ _ _ _ _ _ _ dL (@aP _ _ _ _ _ _ _ _ _ (@bA _ (K) rfl) rfl T.n_len bD (@aA _ _ _ _ _ (pv 0) aD (by rfl)) (by decide) (by decide) (by rfl) (by rfl)) aB (@aS _ _ (by decide) (by decide))) (pv 1) (@aI _ _ _ _ _ _ _ _ eG (pv 1) (@dP _ _ _ _ (@aA _ _ _ _ _ dO aD (by rfl))))) aD (by rfl)) (by decide) (by decide) (by rfl) (by rfl))))),?_⟩
 have c1:fE (ws.map V.str) (some 1) (some 4) = ((ws.drop 1).take 3).map V.str:=by rw [show (some (1:Int)) = some ((1:Nat):Int) from rfl,show (some (4:Int)) = some ((4:Nat):Int) from rfl,tK,← List.map_drop,← List.map_take]
 have c2:fE (ws.map V.str) (some 4) none = (ws.drop 4).map V.str:=by rw [show (some (4:Int)) = some ((4:Nat):Int) from rfl,pS,← List.map_drop]
 have ld:(ws.drop 4).length ≤ 4000:=by rw [List.length_drop];omega
 have l1:((ws.drop 1).take 3).length ≤ 3:=by rw [List.length_take];omega
 refine ⟨_,rfl,_,rfl,_,rfl,l,_,rfl,SqL.of o,fun p1 h1=>?_⟩
 rw [c1]
 have S1:=aJ.upd (o:=.lst (((ws.drop 1).take 3).map V.str)) h1
 have r1:upd H p1 (.lst (((ws.drop 1).take 3).map V.str)) p1 = some (.lst (((ws.drop 1).take 3).map V.str)):=aF
 generalize upd H p1 (.lst (((ws.drop 1).take 3).map V.str)) = H1 at S1 r1
 refine ⟨_,rfl,_,rfl,l,_,rfl,SqL.of (S1 _ _ o),fun l2 h2=>?_⟩
 rw [c2]
 have S2:=aJ.upd (o:=.lst ((ws.drop 4).map V.str)) h2
 have r2:upd H1 l2 (.lst ((ws.drop 4).map V.str)) l2 = some (.lst ((ws.drop 4).map V.str)):=aF
 generalize upd H1 l2 (.lst ((ws.drop 4).map V.str)) = H2 at S2 r2
 refine ⟨l2,rfl,⟨_,SqL.of r2⟩,?_⟩
 refine cF (F:=K) (xs:=(ws.drop 4).map V.str) (by rw [List.length_map];omega) (fun k ys H'=>H2 = H' ∧ ys = ((ws.drop 4).take k).map nG) ⟨rfl,rfl⟩ ?_ ?_ ?_
 ·rintro k ys H' hk ⟨rfl,rfl⟩
  exact ⟨SqL.of r2,by rw [List.length_map,List.length_take];omega⟩
 ·rintro k xv ys H' K1 K2 hx ⟨rfl,rfl⟩ k1 k2
  rw [List.getElem?_map] at hx
  obtain ⟨z,ez,rfl⟩:=Option.map_eq_some_iff.mp hx
  have hz:=lz z (List.mem_of_mem_drop (List.mem_of_getElem? ez))
  refine ⟨_,rfl,_,rfl,.str _,(fun z' e=>by cases e;omega),?_⟩
  refine k1 _ _ ⟨rfl,?_⟩
  rw [List.take_add_one,ez,List.map_append]
  rfl
 rintro ys H' ⟨rfl,rfl⟩
 rw [List.length_map,List.take_of_length_le (Nat.le_refl _)]
 intro l3 h3
 have S3:=aJ.upd (o:=.lst ((ws.drop 4).map nG)) h3
 refine ⟨p1,l3,_,_,rfl,rfl,(S2.trans S3) _ _ r1,aF,by rw [List.length_map,List.length_map];omega,fun l4 h4=>?_⟩
 have S4:=aJ.upd (o:=.lst (((ws.drop 1).take 3).map V.str ++ (ws.drop 4).map nG)) h4
 have T4:=S1.trans (S2.trans (S3.trans S4))
 have r4:upd (upd H2 l3 (.lst ((ws.drop 4).map nG))) l4 (.lst (((ws.drop 1).take 3).map V.str ++ (ws.drop 4).map nG)) l4 = some (.lst (((ws.drop 1).take 3).map V.str ++ (ws.drop 4).map nG)):=aF
 generalize upd (upd H2 l3 (.lst ((ws.drop 4).map nG))) l4 (.lst (((ws.drop 1).take 3).map V.str ++ (ws.drop 4).map nG)) = H4 at r4 T4
 refine ⟨_,rfl,l,_,rfl,.inl (SqL.of (T4 _ _ o)),?_⟩
 rw [List.length_map]
 refine ⟨rfl,_,rfl,?_⟩
 have isp:∀ H'',IsL H'' (((ws.drop 1).take 3).map Dv.str ++ (ws.drop 4).map mO) (((ws.drop 1).take 3).map V.str ++ (ws.drop 4).map nG):=fun H''=>qV (vW _) (wQ _)
 by_cases h7:ws.length = 7
 ·rw [decide_eq_true (show V.int (ws.length:Int) = V.int 7 by rw [h7];rfl)]
  refine cC ⟨_,rfl,l4,_,rfl,.inl ⟨SqL.of r4,fun t ht=>q t _ _ (T4.trans (aJ.upd ht)) (T4.free ht) aF fun H''=>?_⟩⟩
  unfold mT
  rw [if_pos h7,List.append_nil]
  exact isp H''
 ·rw [decide_eq_false (show ¬ V.int (ws.length:Int) = V.int 7 from fun h=>h7 (by have:=V.int.inj h;omega))]
  refine bN ⟨_,rfl,aY rfl,fun l5 h5=>?_⟩
  have S5:=aJ.upd (o:=.lst [.non]) h5
  refine ⟨l4,l5,_,_,rfl,rfl,S5 _ _ r4,aF,by rw [List.length_append,List.length_map,List.length_map];show _ + 1 ≤ sizeLine;omega,fun l6 h6=>?_⟩
  have S6:=aJ.upd (o:=.lst ((((ws.drop 1).take 3).map V.str ++ (ws.drop 4).map nG) ++ [.non])) h6
  have T6:=T4.trans (S5.trans S6)
  refine ⟨l6,_,rfl,.inl ⟨SqL.of aF,fun t ht=>q t _ _ (T6.trans (aJ.upd ht)) (T6.free ht) aF fun H''=>?_⟩⟩
  unfold mT
  rw [if_neg h7]
  exact qV (isp H'') ⟨.non,_,rfl,rfl,rfl⟩
open Mt13 Mt11 Mt02
theorem aAI {c:Nat}:∀ {xs:List (List Nat)},xs ≠ [] → (cj c xs).length + 1 = (xs.map List.length).sum + xs.length
 | [],h=>absurd rfl h
 | [x],_=>by show x.length + 1 = x.length + 0 + 1;omega
 | x :: y :: r,_=>by
  have ih:=aAI (c:=c) (xs:=y :: r) (by simp)
  show (x ++ c :: cj c (y :: r)).length + 1 = _
  rw [List.length_append,List.length_cons,List.map_cons,List.sum_cons,List.length_cons (as:=y :: r)]
  omega
theorem aAS:∀ {xs:List Nat} {x:Nat},x ∈ xs → x ≤ xs.sum
 | y :: xs,x,m=>by
  rw [List.sum_cons]
  rcases List.mem_cons.mp m with rfl | m
  ·omega
  ·have:=aAS m
   omega
theorem nO (z:Str):z.length = z.cps.toList.length:=by show z.cps.size = _;rw [Array.length_toList]
theorem uQ (s:Str) (c:Nat):(Txt.split s ⟨#[c]⟩).length ≤ s.length + 1 ∧ ∀ p ∈ Txt.split s ⟨#[c]⟩,p.length ≤ s.length:=by
 have h1:=StrLaws.join_split s ⟨#[c]⟩
 have h2:=congrArg (fun z:Str=>z.cps.toList) h1
 simp only [mI] at h2
 have h3:=aAI (c:=c) (xs:=(Txt.split s ⟨#[c]⟩).map fun p=>p.cps.toList) (by simpa using jC)
 rw [h2,← nO,List.length_map] at h3
 refine ⟨by omega,fun p m=>?_⟩
 have:=aAS (List.mem_map.mpr ⟨_,List.mem_map.mpr ⟨p,m,rfl⟩,rfl⟩:p.cps.toList.length ∈ ((Txt.split s ⟨#[c]⟩).map fun p=>p.cps.toList).map List.length)
 rw [nO p]
 have hne:(Txt.split s ⟨#[c]⟩).length ≥ 1:=List.length_pos_iff.mpr jC
 omega
theorem nQ (s:Str):(Txt.split s " ").length ≤ s.length + 1 ∧ ∀ p ∈ Txt.split s " ",p.length ≤ s.length:=by rw [lV];exact uQ s 32
theorem rL (s:Str):(Txt.split s "\n").length ≤ s.length + 1 ∧ ∀ p ∈ Txt.split s "\n",p.length ≤ s.length:=by rw [aEJ];exact uQ s 10
theorem sG {X:Cx} {c:Expr} {K:PySem.W.Frag} {t0:String} {r:V → List V → Hp → VK → Prop} {to:TE} {t:TA} (e:X.K = K) (h:PE X c (tBM X.K t0 r to t)):PE X c (tBM K t0 r to t):=by subst e;exact h
def lstS (ws:List Str):Dv:=.lst (ws.map Dv.str)
theorem aAT {H:Hp}:∀ {ws:List Str} {us:List V},IsL H (ws.map Dv.str) us → us = ws.map V.str
 | [],us,h=>h
 | w :: ws,us,h=>by
  obtain ⟨v,r,rfl,i,h⟩:=h
  cases (show v = _ from i)
  rw [aAT h]
  rfl
theorem Is.lstS {H:Hp} {p:Addr} {ws:List Str} (h:H p = some (.lst (ws.map V.str))):Is H (lstS ws) (.ref p):=⟨p,_,rfl,h,IsL.strs H ws⟩
theorem aHD {H:Hp} {v:V} {ws:List Str} (h:Is H (lstS ws) v):∃ p,v = .ref p ∧ H p = some (.lst (ws.map V.str)):=by
 obtain ⟨p,us,rfl,o,i⟩:=h
 refine ⟨p,rfl,?_⟩
 rw [o,aAT i]
theorem sB {fs ds:List Dv} (gf:GoodF fs) (gd:GoodD ("sea" :: fs.map bH) ds):∀ z ∈ fs.map cM ++ ds.map dX,z.length ≤ 63:=fun z mz=>by
 have side:∀ y ∈ ("sea" :: fs.map bH:List Str),y.length ≤ 8:=fun y my=>by
  rcases List.mem_cons.mp my with rfl | my
  ·decide +kernel
  ·obtain ⟨d,md,rfl⟩:=List.mem_map.mp my
   obtain ⟨z,g,u,rfl,hz,_⟩:=bF (gf.all d md)
   exact kL hz
 rcases List.mem_append.mp mz with mz | mz
 ·obtain ⟨d,md,rfl⟩:=List.mem_map.mp mz
  obtain ⟨z,g,u,rfl,hz,hg,hu'⟩:=bF (gf.all d md)
  have:=qS (ws:=[("field":Str),z,toS g,toS u]) (k:=8) (fun y my=>by
   simp only [List.mem_cons,List.mem_nil_iff,or_false] at my
   rcases my with rfl | rfl | rfl | rfl
   ·decide +kernel
   ·exact kL hz
   ·exact cU (cH hg)
   ·exact cU (dZ hu'))
  exact Nat.le_trans this (by show 4 * 8 + 4 ≤ 63;decide)
 ·obtain ⟨d,md,rfl⟩:=List.mem_map.mp mz
  obtain ⟨n,a,b,c,r,sl,rfl,hn,ha,hb,hab,hc,hr',hs⟩:=dH (gd.all d md)
  have hsl:∀ y ∈ nV sl,y.length ≤ 8:=fun y my=>by
   cases sl with
   | int i =>
    rw [List.mem_singleton.mp (show y ∈ [toS i] from my)]
    exact cU (cH (Bool.and_eq_true_iff.mp (show (hgt i && decide (i < c)) = true from hs)).1)
   | _=>cases my
  have lsl:(nV sl).length ≤ 1:=by
   cases sl with
   | int i=>exact Nat.le_refl _
   | _=>exact Nat.zero_le _
  have:=qS (ws:=([("dyke":Str),n,a,b,toS c,toS r]:List Str) ++ nV sl) (k:=8) (fun y my=>by
   rcases List.mem_append.mp my with my | my
   ·simp only [List.mem_cons,List.mem_nil_iff,or_false] at my
    rcases my with rfl | rfl | rfl | rfl | rfl | rfl
    ·decide +kernel
    ·exact kL hn
    ·exact side _ ha
    ·exact side _ hb
    ·exact cU (cH hc)
    ·exact cU (dZ hr')
   ·exact hsl y my)
  rw [List.length_append] at this
  exact Nat.le_trans this (by show (6 + _) * 8 + (6 + _) ≤ 63;omega)
theorem zG {fs ds:List Dv} (gf:GoodF fs) (gd:GoodD ("sea" :: fs.map bH) ds):(gE fs ds).length ≤ 71 * (fs.length + ds.length):=by
 unfold gE Txt.join
 rw [StrLaws.glued_eq_join]
 have h1:=StrLaws.join_length_le "\n" (fs.map cM ++ ds.map dX)
 have h2:=kR (sB gf gd)
 rw [show ("\n":Str).length = 1 by decide +kernel] at h1
 have h3:((fs.map cM ++ ds.map dX).map (·.length)).sum = ((fs.map cM ++ ds.map dX).map fun y=>y.length).sum:=rfl
 have h4:(fs.map cM ++ ds.map dX).length = fs.length + ds.length:=by rw [List.length_append,List.length_map,List.length_map]
 omega
theorem sS {ds:List Dv} (h:∀ d ∈ ds,eI d = true) (l:ds.length ≤ 5000):eI (.lst ds) = true:=by
 show (decide (ds.length ≤ 5000) && gF ds) = true
 rw [decide_eq_true l,oZ h]
 rfl
theorem rD {ds:List Dv} (h:∀ d ∈ ds,eI d = true) (l:ds.length ≤ 5000):eI (.tup ds) = true:=by
 show (decide (ds.length ≤ 5000) && gF ds) = true
 rw [decide_eq_true l,oZ h]
 rfl
theorem uZ (z:Str):eI (mO z) = true:=by
 unfold mO
 cases fO z <;> rfl
def bZ (t:Str):List (List Str):=(Txt.split t "\n").map fun r=>Txt.split r " "
def isF (ws:List Str):Bool:=decide (ws.head? = some ("field":Str))
def isD (ws:List Str):Bool:=decide (ws.head? = some ("dyke":Str))
def fsT (t:Str):List Dv:=((bZ t).filter isF).map fun ws=>.tup (qB ws)
def dsT (t:Str):List Dv:=((bZ t).filter isD).map fun ws=>.tup (mT ws)
theorem lZ {t:Str} (h:t.length ≤ 3500):(bZ t).length ≤ 3501 ∧ ∀ ws ∈ bZ t,ws ≠ [] ∧ ws.length ≤ 3501 ∧ ∀ z ∈ ws,z.length ≤ 3500:=by
 obtain ⟨a,b⟩:=rL t
 refine ⟨by unfold bZ;rw [List.length_map];omega,fun ws m=>?_⟩
 obtain ⟨r,mr,rfl⟩:=List.mem_map.mp m
 obtain ⟨c,d⟩:=nQ r
 have:=b r mr
 exact ⟨jC,by omega,fun z mz=>by have:=d z mz;omega⟩
theorem aCV {ws:List Str} (l:ws.length ≤ 3501) (h:∀ z ∈ ws,z.length ≤ 3500):eI (.tup (qB ws)) = true:=by
 unfold qB
 refine rD (fun d m=>?_) (by rw [List.length_append,List.length_map,List.length_map,List.length_take,List.length_drop,List.length_drop];omega)
 rcases List.mem_append.mp m with m | m
 ·obtain ⟨z,mz,rfl⟩:=List.mem_map.mp m
  have:=h z (List.mem_of_mem_drop (List.mem_of_mem_take mz))
  exact decide_eq_true (by omega)
 ·obtain ⟨z,mz,rfl⟩:=List.mem_map.mp m
  exact uZ z
theorem aDB {ws:List Str} (l:ws.length ≤ 3501) (h:∀ z ∈ ws,z.length ≤ 3500):eI (.tup (mT ws)) = true:=by
 unfold mT
 refine rD (fun d m=>?_) (by rw [List.length_append,List.length_append,List.length_map,List.length_map,List.length_take,List.length_drop,List.length_drop];split <;> simp <;> omega)
 rcases List.mem_append.mp m with m | m
 ·rcases List.mem_append.mp m with m | m
  ·obtain ⟨z,mz,rfl⟩:=List.mem_map.mp m
   have:=h z (List.mem_of_mem_drop (List.mem_of_mem_take mz))
   exact decide_eq_true (by omega)
  ·obtain ⟨z,mz,rfl⟩:=List.mem_map.mp m
   exact uZ z
 ·split at m
  ·cases m
  ·rw [List.mem_singleton.mp m]
   rfl
theorem vL {t:Str} (h:t.length ≤ 3500):eI (.lst (fsT t)) = true:=by
 obtain ⟨a,b⟩:=lZ h
 refine sS (fun d m=>?_) ?_
 ·obtain ⟨ws,mw,rfl⟩:=List.mem_map.mp m
  have:=b ws (List.mem_filter.mp mw).1
  exact aCV this.2.1 this.2.2
 ·unfold fsT
  rw [List.length_map]
  exact Nat.le_trans (List.length_filter_le _ _) (by omega)
theorem vN {t:Str} (h:t.length ≤ 3500):eI (.lst (dsT t)) = true:=by
 obtain ⟨a,b⟩:=lZ h
 refine sS (fun d m=>?_) ?_
 ·obtain ⟨ws,mw,rfl⟩:=List.mem_map.mp m
  have:=b ws (List.mem_filter.mp mw).1
  exact aDB this.2.1 this.2.2
 ·unfold dsT
  rw [List.length_map]
  exact Nat.le_trans (List.length_filter_le _ _) (by omega)
theorem aBJ {ws:List Str} (h:ws ≠ []):∃ z,ws.head? = some z ∧ atI (ws.map V.str) 0 = some (.str z):=by
 cases ws with
 | nil=>exact absurd rfl h
 | cons z ws=>exact ⟨z,rfl,bC (j:=0) rfl⟩
def uR (mg:Str → Option Value) (C:Addr):Sp:=fun vs H Q E=>∃ (t:Str) (c:Addr),vs = [.str t] ∧ t.length ≤ 3500 ∧ mg "NoText" = some (.ref c) ∧
 (cL (.lst (fsT t)) = true → eD ("sea" :: (fsT t).map bH) (.lst (dsT t)) = true → ∀ (p:Addr) (H':Hp),aJ H H' → H p = none → LandAt C H' p (fsT t) (dsT t) → Q (.ref p) H') ∧
 (¬ (cL (.lst (fsT t)) = true ∧ eD ("sea" :: (fsT t).map bH) (.lst (dsT t)) = true) → ∀ H',aJ H H' → E (.ref c) none H')
theorem tZ (T:Txt K mg C):FcX P w K mg base 8 "land_in" ["text"] (uR mg C):=by
 obtain ⟨c_NoText,c_NoLand,c_DykeError,c_NoDecree,c_NoLevel,c_NoName,c_NoPurse,c_NoRing,c_NoRow,c_NoSluice,c_NoVoice,c_NoWay,c_NoWish,c_NoWork,c_Outvoted,c_Short,c_TooMany,ex_NoText,ex_NoLand,hm_NoText,hm_NoLand,hm_DykeError,hm_NoDecree,hm_NoLevel,hm_NoName,hm_NoPurse,hm_NoRing,hm_NoRow,hm_NoSluice,hm_NoVoice,hm_NoWay,hm_NoWish,hm_NoWork,hm_Outvoted,hm_Short,hm_TooMany,kx_NoText_DykeError,kx_NoText_ValueError,kx_NoText_NoDecree,kx_NoText_NoLand,kx_NoText_NoLevel,kx_NoText_NoName,kx_NoText_NoPurse,kx_NoText_NoRing,kx_NoText_NoRow,kx_NoText_NoSluice,kx_NoText_NoVoice,kx_NoText_NoWay,kx_NoText_NoWish,kx_NoText_NoWork,kx_NoText_Outvoted,kx_NoText_Short,kx_NoText_TooMany,xc_NoText_NoText,xc_NoLand_NoLand⟩:=T.xs
 have G_p_field_in:Fc P w K mg base 3 "field_in" ["words"] aDX:=uB T
 have G_p_dyke_in:Fc P w K mg base 3 "dyke_in" ["words"] aEC:=wM T
 have G_land_pinit:Ic3 P w K mg base 6 C ["self","fields","dykes"] (aDV C):=(uD T).up3
 have G_land_pinitX:Ic3 P w K mg base 6 C ["self","fields","dykes"] (xP mg C):=sO T
 refine T.d_p_land_in.fcX hV (fun vs H Q E h=>by obtain ⟨t,c,rfl,_⟩:=h;rfl) (fun f cdv A outer s H vs Q E hr h=>?_)
 obtain ⟨t,c,rfl,lt,hc,told,refd⟩:=h
 rw [hm_NoText] at hc
 cases hc
 have big:=cJ
 obtain ⟨b1,b2⟩:=lZ lt
 obtain ⟨sl,sm⟩:=rL t
 refine ⟨_,(@aG _ _ _ _ _ (@gG _ (1) _ _ _ _ _ _ _ _ _ _ _ _ _ hV.nd rfl ["row"] 1 [] rfl (@cO _ (K) _ _ _ rfl (@cP _ _ _ _ (sG (K:=K) rfl (@dJ _ _ _ _ _ _ _ _ _ _ _ _ PySem.F.plainAttrs_str PySem.F.slot_str_split PySem.F.type_str_split lL (pv 0) (@aA _ _ _ _ _ aN aD (by rfl)) (by rfl) (by rfl) (by rfl) (by rfl) (by rfl))))) (fun R=>@bE _ _ (0) _ (show List.Nodup (["row"]:List Str) by decide +kernel) rfl (Or.inl rfl) (by trivial)) (@bG _ _ (by decide)) (fun R=>cA) (fun R=>(sG (K:=K) rfl (@dJ _ _ _ _ _ _ _ _ _ _ _ _ PySem.F.plainAttrs_str PySem.F.slot_str_split PySem.F.type_str_split lL (pv 0) (@aA _ _ _ _ _ aN aD (by rfl)) (by rfl) (by rfl) (by rfl) (by rfl) (by rfl)))) (by exact Or.inl rfl) (by trivial) (by rfl) (by rfl) (by rfl) (by rfl) (by rfl) (by rfl) (by rfl) (by rfl) (by intro _;rfl)) (@aG _ _ _ _ _ (@gG _ (2) _ _ _ _ _ _ _ _ _ _ _ _ _ hV.nd rfl ["words"] 1 [] rfl (@cO _ (K) _ _ _ rfl (@cP _ _ _ _ (pv 1))) (fun R=>@bE _ _ (0) _ (show List.Nodup (["words"]:List Str) by decide +kernel) rfl (Or.inl rfl) (by trivial)) (@bG _ _ (by decide)) (fun R=>@sF _ _ _ (@aQ _ _ _ _ _ _ _ _ dL (@bI _ _ _ _ _ _ _ (@aZ _ (K) rfl) (pv 0) aB (fun _ _=>rfl)) aN (@aS _ _ (by decide) (by decide)))) (fun R=>(@bR _ _ _ _ _ _ _ _ _ _ G_p_field_in (hr.mono (by decide)) (@aA _ _ _ _ _ (pv 0) aD (by rfl)) (by rfl) (by decide) (by rfl) (by rfl))) (by exact Or.inl rfl) (by trivial) (by rfl) (by rfl) (by rfl) (by rfl) (by rfl) (by rfl) (by rfl) (by rfl) (by intro _;rfl)) (@aG _ _ _ _ _ (@gG _ (3) _ _ _ _ _ _ _ _ _ _ _ _ _ hV.nd rfl ["words"] 1 [] rfl (@cO _ (K) _ _ _ rfl (@cP _ _ _ _ (pv 1))) (fun R=>@bE _ _ (0) _ (show List.Nodup (["words"]:List Str) by decide +kernel) rfl (Or.inl rfl) (by trivial)) (@bG _ _ (by decide)) (fun R=>@sF _ _ _ (@aQ _ _ _ _ _ _ _ _ dL (@bI _ _ _ _ _ _ _ (@aZ _ (K) rfl) (pv 0) aB (fun _ _=>rfl)) aN (@aS _ _ (by decide) (by decide)))) (fun R=>(@bR _ _ _ _ _ _ _ _ _ _ G_p_dyke_in (hr.mono (by decide)) (@aA _ _ _ _ _ (pv 0) aD (by rfl)) (by rfl) (by decide) (by rfl) (by rfl))) (by exact Or.inl rfl) (by trivial) (by rfl) (by rfl) (by rfl) (by rfl) (by rfl) (by rfl) (by rfl) (by rfl) (by intro _;rfl)) (@aG _ _ _ _ _ (@aGT _ _ _ _ _ _ _ _ _ _ _ _ _ _ _ _ _ _ _ _ hm_NoLand hm_NoText ex_NoText.ex zK (@aIX _ _ _ _ _ _ _ _ _ _ _ _ T.mg_Land G_land_pinit G_land_pinitX (hr.mono (by decide)) (@aA _ _ _ _ _ (pv 2) (@aA _ _ _ _ _ (pv 3) aD (by rfl)) (by rfl)) (by rfl) (by decide) (by rfl) (by rfl)) (fun ea=>(@aA _ _ _ _ _ aN aD (by rfl))) (by rfl) (by decide) (by rfl) (by decide) (by rfl) (by rfl) (by rfl) (by rfl)) pG)))),?_⟩
 refine ⟨_,rfl,rfl,_,_,rfl,rfl,rfl,by omega,by omega,fun l0 h0=>?_⟩
 have S0:=aJ.upd (o:=.lst ((Txt.split t "\n").map V.str)) h0
 have r0:upd H l0 (.lst ((Txt.split t "\n").map V.str)) l0 = some (.lst ((Txt.split t "\n").map V.str)):=aF
 generalize upd H l0 (.lst ((Txt.split t "\n").map V.str)) = H1 at S0 r0
 refine ⟨l0,rfl,⟨_,SqL.of r0⟩,?_⟩
 refine cF (F:=K) (xs:=(Txt.split t "\n").map V.str) (by rw [List.length_map];omega) (fun i ys H'=>aJ H1 H' ∧ IsL H' (((bZ t).take i).map lstS) ys) ⟨aJ.refl _,rfl⟩ ?_ ?_ ?_
 ·rintro i ys H' hi ⟨S',iy⟩
  refine ⟨SqL.of (S' _ _ r0),?_⟩
  rw [iy.length,List.length_map,List.length_take]
  omega
 ·rintro i xv ys H' K1 K2 hx' ⟨S',iy⟩ k1 k2
  rw [List.getElem?_map] at hx'
  obtain ⟨x,ex,rfl⟩:=Option.map_eq_some_iff.mp hx'
  have lx:=sm x (List.mem_of_getElem? ex)
  obtain ⟨sb,_⟩:=nQ x
  have ew:(bZ t)[i]? = some (Txt.split x " "):=by unfold bZ;rw [List.getElem?_map,ex];rfl
  refine ⟨_,rfl,rfl,_,_,rfl,rfl,rfl,by omega,by omega,fun l hl=>k1 _ _ ?_⟩
  have S2:=aJ.upd (o:=.lst ((Txt.split x " ").map V.str)) hl
  refine ⟨S'.trans S2,?_⟩
  rw [List.take_add_one,ew,List.map_append]
  exact IsL.snoc (Is.lstS aF) (IsL.same S2 _ _ iy)
 rintro ys H2 ⟨S2,iw⟩
 rw [List.length_map,List.take_of_length_le (by unfold bZ;rw [List.length_map];exact Nat.le_refl _)] at iw
 intro l1 h1
 have S3:=aJ.upd (o:=.lst ys) h1
 have r3:upd H2 l1 (.lst ys) l1 = some (.lst ys):=aF
 have iw:=IsL.same S3 _ _ iw
 have T3:=S0.trans (S2.trans S3)
 generalize upd H2 l1 (.lst ys) = H3 at S3 r3 T3 iw
 have lY:ys.length = (bZ t).length:=by rw [iw.length,List.length_map]
 have row:∀ {H':Hp} {i:Nat} {xv:V},aJ H3 H' → ys[i]? = some xv → ∃ (ws:List Str) (l:Addr) (z:Str),(bZ t)[i]? = some ws ∧ xv = .ref l ∧ H' l = some (.lst (ws.map V.str)) ∧ ws.head? = some z ∧ atI (ws.map V.str) 0 = some (.str z) ∧ ws.length ≤ 3501 ∧ ∀ z ∈ ws,z.length ≤ 3500:=fun {H' i xv} S' hx=>by
  have hil:i < ys.length:=(List.getElem?_eq_some_iff.mp hx).1
  obtain ⟨ws,ew⟩:∃ ws,(bZ t)[i]? = some ws:=⟨_,List.getElem?_eq_getElem (by omega)⟩
  obtain ⟨v,ev,iv⟩:=iw.get (show ((bZ t).map lstS)[i]? = some (lstS ws) by rw [List.getElem?_map,ew];rfl)
  rw [hx] at ev
  cases ev
  obtain ⟨l,rfl,o⟩:=aHD iv
  obtain ⟨ne,q1,q2⟩:=b2 ws (List.mem_of_getElem? ew)
  obtain ⟨z,e1,e2⟩:=aBJ ne
  exact ⟨ws,l,z,ew,rfl,S' _ _ o,e1,e2,q1,q2⟩
 refine ⟨_,rfl,l1,rfl,⟨_,SqL.of r3⟩,?_⟩
 refine cF (F:=K) (xs:=ys) (by omega) (fun i zs H'=>aJ H3 H' ∧ IsL H' ((((bZ t).take i).filter isF).map fun ws=>.tup (qB ws)) zs) ⟨aJ.refl _,rfl⟩ ?_ ?_ ?_
 ·rintro i zs H' hi ⟨S',iy⟩
  refine ⟨SqL.of (S' _ _ r3),?_⟩
  have:=List.length_filter_le isF ((bZ t).take i)
  rw [iy.length,List.length_map]
  rw [List.length_take] at this
  omega
 ·rintro i xv zs H' K1 K2 hx' ⟨S',iy⟩ k1 k2
  obtain ⟨ws,l,z,ew,rfl,o,e1,e2,q1,q2⟩:=row S' hx'
  have et:((bZ t).take (i + 1)).filter isF = ((bZ t).take i).filter isF ++ (if isF ws then [ws] else []):=by
   rw [List.take_add_one,ew,List.filter_append]
   congr 1
   show [ws].filter isF = _
   rw [List.filter_cons]
   rfl
  refine ⟨_,rfl,l,_,0,.str z,rfl,rfl,SqL.of o,e2,rfl,_,rfl,?_⟩
  rw [dS]
  by_cases hz:z = "field"
  ·rw [decide_eq_true hz]
   have hF:isF ws = true:=decide_eq_true (by rw [e1,hz])
   refine cC ⟨_,rfl,_,rfl,l,ws,rfl,o,by omega,fun z mz=>by have:=q2 z mz;omega,fun t2 us H4 S4 n4 o4 i4=>k1 _ _ ⟨S'.trans S4,?_⟩⟩
   rw [et,hF,if_pos rfl,List.map_append]
   exact IsL.snoc (show Is H4 (.tup (qB ws)) (.ref t2) from ⟨t2,_,rfl,o4,i4 H4⟩) (IsL.same S4 _ _ iy)
  ·rw [decide_eq_false hz]
   have hF:isF ws = false:=decide_eq_false (fun h=>hz (by rw [e1] at h;exact Option.some.inj h))
   refine bN (k2 _ ⟨S',?_⟩)
   rw [et,hF,if_neg Bool.false_ne_true,List.append_nil]
   exact iy
 rintro zf H4 ⟨S4,if4⟩
 rw [List.take_of_length_le (by omega)] at if4
 intro lf hf
 have S5:=aJ.upd (o:=.lst zf) hf
 have r5:upd H4 lf (.lst zf) lf = some (.lst zf):=aF
 have if5:IsL (upd H4 lf (.lst zf)) (fsT t) zf:=IsL.same S5 _ _ if4
 have T5:=S4.trans S5
 generalize upd H4 lf (.lst zf) = H5 at S5 r5 T5 if5
 have rw5:=T5 _ _ r3
 refine ⟨_,rfl,l1,rfl,⟨_,SqL.of rw5⟩,?_⟩
 refine cF (F:=K) (xs:=ys) (by omega) (fun i zs H'=>aJ H5 H' ∧ IsL H' ((((bZ t).take i).filter isD).map fun ws=>.tup (mT ws)) zs) ⟨aJ.refl _,rfl⟩ ?_ ?_ ?_
 ·rintro i zs H' hi ⟨S',iy⟩
  refine ⟨SqL.of (S' _ _ rw5),?_⟩
  have:=List.length_filter_le isD ((bZ t).take i)
  rw [iy.length,List.length_map]
  rw [List.length_take] at this
  omega
 ·rintro i xv zs H' K1 K2 hx' ⟨S',iy⟩ k1 k2
  obtain ⟨ws,l,z,ew,rfl,o,e1,e2,q1,q2⟩:=row (T5.trans S') hx'
  have et:((bZ t).take (i + 1)).filter isD = ((bZ t).take i).filter isD ++ (if isD ws then [ws] else []):=by
   rw [List.take_add_one,ew,List.filter_append]
   congr 1
   show [ws].filter isD = _
   rw [List.filter_cons]
   rfl
  refine ⟨_,rfl,l,_,0,.str z,rfl,rfl,SqL.of o,e2,rfl,_,rfl,?_⟩
  rw [dS]
  by_cases hz:z = "dyke"
  ·rw [decide_eq_true hz]
   have hF:isD ws = true:=decide_eq_true (by rw [e1,hz])
   refine cC ⟨_,rfl,_,rfl,l,ws,rfl,o,by omega,fun z mz=>by have:=q2 z mz;omega,fun t2 us H4 S4 n4 o4 i4=>k1 _ _ ⟨S'.trans S4,?_⟩⟩
   rw [et,hF,if_pos rfl,List.map_append]
   exact IsL.snoc (show Is H4 (.tup (mT ws)) (.ref t2) from ⟨t2,_,rfl,o4,i4 H4⟩) (IsL.same S4 _ _ iy)
  ·rw [decide_eq_false hz]
   have hF:isD ws = false:=decide_eq_false (fun h=>hz (by rw [e1] at h;exact Option.some.inj h))
   refine bN (k2 _ ⟨S',?_⟩)
   rw [et,hF,if_neg Bool.false_ne_true,List.append_nil]
   exact iy
 rintro zd H6 ⟨S6,id6⟩
 rw [List.take_of_length_le (by omega)] at id6
 intro ld hd
 have S7:=aJ.upd (o:=.lst zd) hd
 have r7:upd H6 ld (.lst zd) ld = some (.lst zd):=aF
 have id7:IsL (upd H6 ld (.lst zd)) (dsT t) zd:=IsL.same S7 _ _ id6
 have T7:=S6.trans S7
 generalize upd H6 ld (.lst zd) = H7 at S7 r7 T7 id7
 have if7:=IsL.same T7 _ _ if5
 have rf7:=T7 _ _ r5
 have TT:=T3.trans (T5.trans T7)
 refine ⟨_,rfl,_,rfl,fun x dx hx hdx ne=>?_⟩
 have S8:aJ H7 (upd (upd H7 dx (.own x)) x (.ins C dx [])):=fun b o e=>by
  rw [aR (aU e hx),aR (aU e hdx)]
  exact e
 by_cases good:cL (.lst (fsT t)) = true ∧ eD ("sea" :: (fsT t).map bH) (.lst (dsT t)) = true
 ·refine .inl ⟨_,_,_,rfl,x,dx,fsT t,dsT t,rfl,aF,⟨lf,zf,rfl,S8 _ _ rf7,IsL.same S8 _ _ if7⟩,⟨ld,zd,rfl,S8 _ _ r7,IsL.same S8 _ _ id7⟩,vL lt,vN lt,good.1,good.2,fun H9 L9 s9=>⟨rfl,?_⟩⟩
  exact told good.1 good.2 _ _ (fun b o e=>s9 _ _ (S8 _ _ (TT _ _ e)) (aU e (TT.free hx))) (TT.free hx) L9
 ·have bad:cL (.lst (fsT t)) = false ∨ ∃ fs,Dv.lst (fsT t) = .lst fs ∧ cL (.lst (fsT t)) = true ∧ eD ("sea" :: fs.map bH) (.lst (dsT t)) = false:=by
   cases e1:cL (.lst (fsT t)) with
   | false=>exact .inl rfl
   | true =>
    refine .inr ⟨_,rfl,rfl,?_⟩
    cases e2:eD ("sea" :: (fsT t).map bH) (.lst (dsT t)) with
    | false=>rfl
    | true=>exact absurd ⟨e1,e2⟩ good
  refine .inr ⟨_,_,_,x,dx,.lst (fsT t),.lst (dsT t),c_NoLand,rfl,rfl,aF,⟨lf,zf,rfl,S8 _ _ rf7,IsL.same S8 _ _ if7⟩,⟨ld,zd,rfl,S8 _ _ r7,IsL.same S8 _ _ id7⟩,vL lt,vN lt,hm_NoLand,bad,fun H9 s9=>⟨xc_NoLand_NoLand,?_⟩⟩
  exact ⟨aY rfl,refd good _ fun b o e=>s9 _ _ (S8 _ _ (TT _ _ e))⟩
open Mt13 Mt11 Mt02
def nN (t:Str):Prop:=∃ fs ds,GoodF fs ∧ GoodD ("sea" :: fs.map bH) ds ∧ t = gE fs ds
theorem kC {i:Int} (h:i.natAbs ≤ 1000000):mO (toS i) = .int i:=by
 unfold mO
 rw [show fO (toS i) = some i from aBQ (by omega)]
theorem aFE {d:Dv} (h:bT d = true):Dv.tup (qB (dW d)) = d ∧ isF (dW d) = true ∧ isD (dW d) = false:=by
 obtain ⟨z,g,u,rfl,hz,hg,hu'⟩:=bF h
 refine ⟨?_,decide_eq_true rfl,decide_eq_false (by show ¬ some ("field":Str) = some "dyke";decide +kernel)⟩
 show Dv.tup [.str z,mO (toS g),mO (toS u)] = _
 rw [kC (cH hg),kC (dZ hu')]
theorem aHN {zs:List Str} {d:Dv} (h:cE zs d = true):Dv.tup (mT (dN d)) = d ∧ isF (dN d) = false ∧ isD (dN d) = true:=by
 obtain ⟨n,a,b,c,r,sl,rfl,hn,ha,hb,hab,hc,hr',hs⟩:=dH h
 refine ⟨?_,?_,?_⟩
 ·cases sl with
  | non =>
   show Dv.tup ([.str n,.str a,.str b] ++ [mO (toS c),mO (toS r)] ++ [.non]) = _
   rw [kC (cH hc),kC (dZ hr')]
   rfl
  | int i =>
   show Dv.tup ([.str n,.str a,.str b] ++ [mO (toS c),mO (toS r),mO (toS i)] ++ []) = _
   rw [kC (cH hc),kC (dZ hr'),kC (cH (Bool.and_eq_true_iff.mp (show (hgt i && decide (i < c)) = true from hs)).1)]
   rfl
  | _=>cases hs
 ·exact decide_eq_false (by show ¬ some ("dyke":Str) = some "field";decide +kernel)
 ·exact decide_eq_true rfl
theorem rS {fs:List Dv} (gf:GoodF fs):∀ z ∈ ("sea" :: fs.map bH:List Str),word z:=fun z m=>by
 rcases List.mem_cons.mp m with rfl | m
 ·exact xH
 ·obtain ⟨d,md,rfl⟩:=List.mem_map.mp m
  obtain ⟨z,g,u,rfl,hz,_⟩:=bF (gf.all d md)
  exact mB hz
theorem qZ {fs ds:List Dv} (gf:GoodF fs) (gd:GoodD ("sea" :: fs.map bH) ds):bZ (gE fs ds) = fs.map dW ++ ds.map dN:=by
 unfold bZ
 rw [zC gf gd,List.map_append,List.map_map,List.map_map]
 congr 1
 ·refine List.map_congr_left fun d m=>?_
  exact uP (kO (gf.all d m)).1 (kO (gf.all d m)).2
 ·refine List.map_congr_left fun d m=>?_
  exact uP (mU (rS gf) (gd.all d m)).1 (mU (rS gf) (gd.all d m)).2
theorem mZ {fs ds:List Dv} (gf:GoodF fs) (gd:GoodD ("sea" :: fs.map bH) ds):fsT (gE fs ds) = fs ∧ dsT (gE fs ds) = ds:=by
 have hF:∀ (l:List Dv),(∀ d ∈ l,bT d = true) → ((l.map dW).filter isF).map (fun ws=>Dv.tup (qB ws)) = l ∧ (l.map dW).filter isD = []:=fun l=>by
  induction l with
  | nil=>intro _;exact ⟨rfl,rfl⟩
  | cons d l ih =>
   intro h
   obtain ⟨e1,e2,e3⟩:=aFE (h d List.mem_cons_self)
   obtain ⟨i1,i2⟩:=ih fun d m=>h d (List.mem_cons_of_mem _ m)
   rw [List.map_cons,List.filter_cons,List.filter_cons,if_pos e2,if_neg (by rw [e3];exact Bool.false_ne_true),List.map_cons,e1,i1,i2]
   exact ⟨rfl,rfl⟩
 have hD:∀ (l:List Dv),(∀ d ∈ l,cE ("sea" :: fs.map bH) d = true) → ((l.map dN).filter isD).map (fun ws=>Dv.tup (mT ws)) = l ∧ (l.map dN).filter isF = []:=fun l=>by
  induction l with
  | nil=>intro _;exact ⟨rfl,rfl⟩
  | cons d l ih =>
   intro h
   obtain ⟨e1,e2,e3⟩:=aHN (h d List.mem_cons_self)
   obtain ⟨i1,i2⟩:=ih fun d m=>h d (List.mem_cons_of_mem _ m)
   rw [List.map_cons,List.filter_cons,List.filter_cons,if_pos e3,if_neg (by rw [e2];exact Bool.false_ne_true),List.map_cons,e1,i1,i2]
   exact ⟨rfl,rfl⟩
 unfold fsT dsT
 rw [qZ gf gd,List.filter_append,List.filter_append,(hF fs gf.all).2,(hD ds gd.all).2,List.append_nil,List.nil_append]
 exact ⟨(hF fs gf.all).1,(hD ds gd.all).1⟩
theorem xK (t:Str):nN t ↔ (cL (.lst (fsT t)) = true ∧ eD ("sea" :: (fsT t).map bH) (.lst (dsT t)) = true) ∧ gE (fsT t) (dsT t) = t:=by
 constructor
 ·rintro ⟨fs,ds,gf,gd,rfl⟩
  obtain ⟨e1,e2⟩:=mZ gf gd
  rw [e1,e2]
  exact ⟨⟨(fN _).mpr gf,(gJ _ _).mpr gd⟩,rfl⟩
 ·rintro ⟨⟨a,b⟩,e⟩
  exact ⟨_,_,(fN _).mp a,(gJ _ _).mp b,e.symm⟩
def aAW (mg:Str → Option Value) (C:Addr):Sp:=fun vs H Q E=>∃ (x:V) (c:Addr),vs = [x] ∧ mg "NoText" = some (.ref c) ∧
  ((∃ t:Str,x = .str t ∧ t.length ≤ 3500 ∧ (∀ fs ds,GoodF fs → GoodD ("sea" :: fs.map bH) ds → t = gE fs ds → ∀ (p:Addr) (H':Hp),aJ H H' → H p = none → LandAt C H' p fs ds → Q (.ref p) H') ∧ (¬ nN t → ∀ H',aJ H H' → E (.ref c) none H')) ∨
   (∃ d,Is H d x ∧ sX d = false ∧ ∀ H',aJ H H' → E (.ref c) none H'))
theorem qK (T:Txt K mg C):FcX P w K mg base 9 "read_land" ["text"] (aAW mg C):=by
 obtain ⟨c_NoText,c_NoLand,c_DykeError,c_NoDecree,c_NoLevel,c_NoName,c_NoPurse,c_NoRing,c_NoRow,c_NoSluice,c_NoVoice,c_NoWay,c_NoWish,c_NoWork,c_Outvoted,c_Short,c_TooMany,ex_NoText,ex_NoLand,hm_NoText,hm_NoLand,hm_DykeError,hm_NoDecree,hm_NoLevel,hm_NoName,hm_NoPurse,hm_NoRing,hm_NoRow,hm_NoSluice,hm_NoVoice,hm_NoWay,hm_NoWish,hm_NoWork,hm_Outvoted,hm_Short,hm_TooMany,kx_NoText_DykeError,kx_NoText_ValueError,kx_NoText_NoDecree,kx_NoText_NoLand,kx_NoText_NoLevel,kx_NoText_NoName,kx_NoText_NoPurse,kx_NoText_NoRing,kx_NoText_NoRow,kx_NoText_NoSluice,kx_NoText_NoVoice,kx_NoText_NoWay,kx_NoText_NoWish,kx_NoText_NoWork,kx_NoText_Outvoted,kx_NoText_Short,kx_NoText_TooMany,xc_NoText_NoText,xc_NoLand_NoLand⟩:=T.xs
 have G_p_land_in:FcX P w K mg base 8 "land_in" ["text"] (uR mg C):=tZ T
 have G_p_show_land:Fc P w K mg base 2 "show_land" ["land"] (zD C):=lC T
 refine T.d_p_read_land.fcX kT (fun vs H Q E h=>by obtain ⟨t,c,rfl,_⟩:=h;rfl) (fun f cdv A outer s H vs Q E hr h=>?_)
 obtain ⟨x,c,rfl,hc,h⟩:=h
 rw [hm_NoText] at hc
 cases hc
 refine ⟨_,(@aG _ _ _ _ _ (@bQ _ _ _ _ _ _ _ _ (@eE _ _ _ _ (@dG _ _ _ (@aP _ _ _ _ _ _ _ _ _ (@dD _ (K) rfl) rfl T.n_isinstance bK (@aA _ _ _ _ _ (pv 0) (@aA _ _ _ _ _ (@oB _ _ _ _ T.n_str dU (by rfl) (by decide) (by decide)) aD (by rfl)) (by rfl)) (by decide) (by decide) (by rfl) (by rfl)) (by intro _;rfl))) (@aH _ _ _ (@oA _ _ _ _ _ _ _ _ _ _ hm_NoText ex_NoText.ex rfl uU (@aA _ _ _ _ _ aN aD (by rfl)) (by rfl) (by decide) (by rfl) (by rfl))) aX) (@aG _ _ _ _ _ (@aV _ _ (1) _ _ _ _ kT.nd rfl (Or.inl rfl) (aKX G_p_land_in (hr.mono (by decide)) aGY (@aA _ _ _ _ _ (pv 0) aD (by rfl))) (by rfl) (by trivial)) (@aG _ _ _ _ _ (@bQ _ _ _ _ _ _ _ _ (@aQ _ _ _ _ _ _ _ _ sI (@bR _ _ _ _ _ _ _ _ _ _ G_p_show_land (hr.mono (by decide)) (@aA _ _ _ _ _ (pv 1) aD (by rfl)) (by rfl) (by decide) (by rfl) (by rfl)) (pv 0) (@aS _ _ (by decide) (by decide))) (@aH _ _ _ (@oA _ _ _ _ _ _ _ _ _ _ hm_NoText ex_NoText.ex rfl uU (@aA _ _ _ _ _ aN aD (by rfl)) (by rfl) (by decide) (by rfl) (by rfl))) aX) (@aG _ _ _ _ _ (@aM _ _ _ _ (pv 1)) pG)))),?_⟩
 rcases h with ⟨t,rfl,lt,told,refd⟩ | ⟨d,hd,nd,q⟩
 ·refine ⟨_,rfl,_,_,_,_,_,rfl,rfl,TyOf.str _,fZ _ _,_,rfl,?_⟩
  refine bN ?_
  refine ⟨_,rfl,t,c_NoText,rfl,lt,hm_NoText,fun okf okd p H1 S1 n1 L1=>?_,fun bad H1 S1=>refd (fun h=>bad ((xK t).mp h).1) H1 S1⟩
  refine ⟨_,rfl,_,rfl,p,fsT t,dsT t,rfl,L1,fun H2 S2=>?_⟩
  refine ⟨_,rfl,rfl,_,rfl,?_⟩
  rw [dS]
  by_cases e:gE (fsT t) (dsT t) = t
  ·rw [decide_eq_true e]
   refine bN ⟨_,rfl,?_⟩
   exact told _ _ ((fN _).mp okf) ((gJ _ _).mp okd) e.symm p _ (S1.trans S2) n1 (L1.same S2)
  ·rw [decide_eq_false e]
   exact cC ⟨aY rfl,refd (fun h=>e ((xK t).mp h).2) _ (S1.trans S2)⟩
 ·obtain ⟨t,ty,e1,e2,e3,_⟩:=pU K hd
  refine ⟨_,rfl,_,_,_,t,_,rfl,rfl,ty,e3,_,rfl,?_⟩
  rw [nd]
  exact cC ⟨aY rfl,q _ (aJ.refl _)⟩
open Mt13 Mt11 Mt02
theorem gσ {i:Nat} {v:V} {σ σ':L2.St} {H:Hp} {Q:L2.St → Hp → Prop} (e:σ.set i (some v) = σ') (h:Q σ' H):oP i v σ H Q:=by
 subst e
 exact h
theorem aCG {C:Addr} {y:V} {H:Hp} {G:Addr → Hp → Prop} {F:Hp → Prop} (bad:(∃ d,Is H d y ∧ sX d = false) ∨ (∃ text:Str,y = .str text ∧ text.length ≤ 3500 ∧ ¬ nN text)) (fail:∀ H',aJ H H' → F H') :
    ((∃ t:Str,y = .str t ∧ t.length ≤ 3500 ∧ (∀ fs ds,GoodF fs → GoodD ("sea" :: fs.map bH) ds → t = gE fs ds → ∀ (p:Addr) (H':Hp),aJ H H' → H p = none → LandAt C H' p fs ds → G p H') ∧ (¬ nN t → ∀ H',aJ H H' → F H')) ∨
   (∃ d,Is H d y ∧ sX d = false ∧ ∀ H',aJ H H' → F H')):=by
  rcases bad with ⟨d,a,b⟩ | ⟨t,rfl,l,n⟩
  · exact .inr ⟨d,a,b,fail⟩
  · exact .inl ⟨t,rfl,l,fun fs ds gf gd e=>absurd ⟨fs,ds,gf,gd,e⟩ n,fun _=>fail⟩
def aDS (C:Addr):Sp:=sp1 fun y H Q =>
  ((∃ (text:Str) (fs ds:List Dv),y = .str text ∧ text.length ≤ 3500 ∧ GoodF fs ∧ GoodD ("sea" :: fs.map bH) ds ∧ text = gE fs ds ∧ ∀ (lr p:Addr) (H':Hp),aJ H H' → H' lr = some (.lst [.ref p,.bl false]) → LandAt C H' p fs ds → Q (.ref lr) H') ∨
   (((∃ d,Is H d y ∧ sX d = false) ∨ (∃ text:Str,y = .str text ∧ text.length ≤ 3500 ∧ ¬ nN text)) ∧ ∀ (lr:Addr) (H':Hp),aJ H H' → H' lr = some (.lst [.non,.bl true]) → Q (.ref lr) H'))
theorem aCJ (T:Txt K mg C):Fc P w K mg base 10 "_law_told" ["_law_thing"] (aDS C):=by
 obtain ⟨c_NoText,c_NoLand,c_DykeError,c_NoDecree,c_NoLevel,c_NoName,c_NoPurse,c_NoRing,c_NoRow,c_NoSluice,c_NoVoice,c_NoWay,c_NoWish,c_NoWork,c_Outvoted,c_Short,c_TooMany,ex_NoText,ex_NoLand,hm_NoText,hm_NoLand,hm_DykeError,hm_NoDecree,hm_NoLevel,hm_NoName,hm_NoPurse,hm_NoRing,hm_NoRow,hm_NoSluice,hm_NoVoice,hm_NoWay,hm_NoWish,hm_NoWork,hm_Outvoted,hm_Short,hm_TooMany,kx_NoText_DykeError,kx_NoText_ValueError,kx_NoText_NoDecree,kx_NoText_NoLand,kx_NoText_NoLevel,kx_NoText_NoName,kx_NoText_NoPurse,kx_NoText_NoRing,kx_NoText_NoRow,kx_NoText_NoSluice,kx_NoText_NoVoice,kx_NoText_NoWay,kx_NoText_NoWish,kx_NoText_NoWork,kx_NoText_Outvoted,kx_NoText_Short,kx_NoText_TooMany,xc_NoText_NoText,xc_NoLand_NoLand⟩:=T.xs
 have G_p_read_land:FcX P w K mg base 9 "read_land" ["text"] (aAW mg C):=qK T
 refine T.d_l_told.fc fJ iB (fun f cdv A outer s H vs Q E hr h=>?_)
 have hu:=oO hr
 obtain ⟨y,rfl,h⟩:=h
 refine ⟨_,(@aG _ _ _ _ _ (@aV _ _ (1) _ _ _ _ fJ.nd rfl (Or.inl rfl) dO (by rfl) (by trivial)) (@aG _ _ _ _ _ (@aV _ _ (2) _ _ _ _ fJ.nd rfl (Or.inl rfl) fM (by rfl) (by trivial)) (@aG _ _ _ _ _ (@aGU _ _ _ _ _ _ _ _ _ _ _ _ (3) fJ.nd rfl rfl hm_NoText (@aJC _ _ _ _ (1) _ _ fJ.nd rfl (Or.inl rfl) (@aLX _ _ _ _ _ _ _ _ _ _ G_p_read_land (hr.mono (by decide)) (@aA _ _ _ _ _ (pv 0) aD (by rfl)) (by rfl) (by decide) (by rfl) (by rfl)) (by rfl) (by trivial)) (fun ea=>(@aG _ _ _ _ _ (@aV _ _ (2) _ _ _ _ fJ.nd rfl (Or.inl rfl) (@cV _ _ _ _ _ _ _ (@aP _ _ _ _ _ _ _ _ _ (@oW _ (K) rfl) rfl T.n_isinstance bK (@aA _ _ _ _ _ (pv 3) (@aA _ _ _ _ _ (@cZ _ _ (.ref c_DykeError) _ _ rfl hm_DykeError rfl (by decide)) aD (by rfl)) (by rfl)) (by decide) (by decide) (by rfl) (by rfl)) (@eF _ _ _ _ _ (@aP _ _ _ _ _ _ _ _ _ (@oW _ (K) rfl) rfl T.n_isinstance bK (@aA _ _ _ _ _ (pv 3) (@aA _ _ _ _ _ (@oB _ _ _ _ T.n_ValueError PyProof.Rows.Boot.«ValueError» (by rfl) (by decide) (by decide)) aD (by rfl)) (by rfl)) (by decide) (by decide) (by rfl) (by rfl)))) (by rfl) (by trivial)) (@aG _ _ _ _ _ (@bQ _ _ _ _ _ _ _ _ (@dG _ _ _ (@aP _ _ _ _ _ _ _ _ _ (oU (K:=K) rfl) rfl T.n_isinstance bK (@aA _ _ _ _ _ (pv 3) (@aA _ _ _ _ _ (@mY _ _ _ _ _ (@aA _ _ _ _ _ (@cZ _ _ (.ref c_NoDecree) _ _ rfl hm_NoDecree rfl (by decide)) (@aA _ _ _ _ _ (@cZ _ _ (.ref c_NoLand) _ _ rfl hm_NoLand rfl (by decide)) (@aA _ _ _ _ _ (@cZ _ _ (.ref c_NoLevel) _ _ rfl hm_NoLevel rfl (by decide)) (@aA _ _ _ _ _ (@cZ _ _ (.ref c_NoName) _ _ rfl hm_NoName rfl (by decide)) (@aA _ _ _ _ _ (@cZ _ _ (.ref c_NoPurse) _ _ rfl hm_NoPurse rfl (by decide)) (@aA _ _ _ _ _ (@cZ _ _ (.ref c_NoRing) _ _ rfl hm_NoRing rfl (by decide)) (@aA _ _ _ _ _ (@cZ _ _ (.ref c_NoRow) _ _ rfl hm_NoRow rfl (by decide)) (@aA _ _ _ _ _ (@cZ _ _ (.ref c_NoSluice) _ _ rfl hm_NoSluice rfl (by decide)) (@aA _ _ _ _ _ (@cZ _ _ (.ref c_NoVoice) _ _ rfl hm_NoVoice rfl (by decide)) aD (by rfl)) (by rfl)) (by rfl)) (by rfl)) (by rfl)) (by rfl)) (by rfl)) (by rfl)) (by rfl))) aD (by rfl)) (by rfl)) (by decide) (by decide) (by rfl) (by rfl)) (by intro _;rfl)) (@aH _ _ _ (@aV _ _ (2) _ _ _ _ fJ.nd rfl (Or.inl rfl) fM (by rfl) (by trivial))) aX) (@aH _ _ _ (@bQ _ _ _ _ _ _ _ _ (@dG _ _ _ (@aP _ _ _ _ _ _ _ _ _ (oU (K:=K) rfl) rfl T.n_isinstance bK (@aA _ _ _ _ _ (pv 3) (@aA _ _ _ _ _ (@mY _ _ _ _ _ (@aA _ _ _ _ _ (@cZ _ _ (.ref c_NoWay) _ _ rfl hm_NoWay rfl (by decide)) (@aA _ _ _ _ _ (@cZ _ _ (.ref c_NoWish) _ _ rfl hm_NoWish rfl (by decide)) (@aA _ _ _ _ _ (@cZ _ _ (.ref c_NoWork) _ _ rfl hm_NoWork rfl (by decide)) (@aA _ _ _ _ _ (@cZ _ _ (.ref c_Outvoted) _ _ rfl hm_Outvoted rfl (by decide)) (@aA _ _ _ _ _ (@cZ _ _ (.ref c_Short) _ _ rfl hm_Short rfl (by decide)) (@aA _ _ _ _ _ (@cZ _ _ (.ref c_TooMany) _ _ rfl hm_TooMany rfl (by decide)) aD (by rfl)) (by rfl)) (by rfl)) (by rfl)) (by rfl)) (by rfl))) aD (by rfl)) (by rfl)) (by decide) (by decide) (by rfl) (by rfl)) (by intro _;rfl)) (@aH _ _ _ (@aV _ _ (2) _ _ _ _ fJ.nd rfl (Or.inl rfl) fM (by rfl) (by trivial))) aX))))) (by rfl) (by decide) (by rfl) (by rfl)) (@aH _ _ _ (@aM _ _ _ _ (@dP _ _ _ _ (@aA _ _ _ _ _ (pv 1) (@aA _ _ _ _ _ (pv 2) aD (by rfl)) (by rfl)))))))),?_⟩
 rcases h with ⟨text,fs,ds,rfl,lt,gf,gd,et,q⟩ | ⟨bad,q⟩
 ·refine ⟨_,rfl,_,c_NoText,rfl,hm_NoText,.inl ⟨text,rfl,lt,fun fs' ds' gf' gd' et' p H' S' n L=>?_,fun no=>absurd ⟨fs,ds,gf,gd,et⟩ no⟩⟩
  obtain ⟨rfl,rfl⟩:fs' = fs ∧ ds' = ds:=by
   have h1:=mZ gf' gd'
   have h2:=mZ gf gd
   rw [← et'] at h1
   rw [← et] at h2
   exact ⟨h1.1.symm.trans h2.1,h1.2.symm.trans h2.2⟩
  refine gσ (σ':=[some (.str text),some (.ref p),some (.bl false),none]) rfl ?_
  exact ⟨_,rfl,_,rfl,aY rfl,fun lr n=>q lr p _ (S'.trans (aJ.upd n)) aF (L.same (aJ.upd n))⟩
 ·refine ⟨_,rfl,_,c_NoText,rfl,hm_NoText,?_⟩
  refine aCG bad ?_
  refine fun H1 S1=>⟨xc_NoText_NoText,fun ea hea=>?_⟩
  have S6:=aJ.upd (o:=uF ea (.ref c_NoText)) hea
  have he:upd H1 ea (uF ea (.ref c_NoText)) ea = some (uF ea (.ref c_NoText)):=aF
  generalize upd H1 ea (uF ea (.ref c_NoText)) = H6 at he S6
  refine ⟨_,rfl,ea,_,_,c_NoText,true,rfl,rfl,he,ex_NoText,kx_NoText_DykeError,_,rfl,?_⟩
  rw [if_pos rfl]
  refine ⟨_,rfl,ea,_,_,c_NoText,true,rfl,rfl,he,ex_NoText,kx_NoText_ValueError,?_⟩
  refine gσ (σ':=[some y,some .non,some (.bl true),some (.ref ea)]) rfl ?_
  have no:∀ {vs:List V},(∀ v ∈ vs,∃ c,aDG v = some c ∧ PySem.W.kitOne K (.ref c_NoText) c = some false) → zS K c_NoText vs:=id
  refine ⟨_,rfl,aY rfl,fun t1 n1=>?_⟩
  have A1:=aJ.upd (o:=.tup [.ref c_NoDecree,.ref c_NoLand,.ref c_NoLevel,.ref c_NoName,.ref c_NoPurse,.ref c_NoRing,.ref c_NoRow,.ref c_NoSluice,.ref c_NoVoice]) n1
  refine ⟨ea,t1,_,c_NoText,rfl,aF,A1 _ _ he,ex_NoText,no ?_,_,rfl,?_⟩
  ·intro v m
   simp only [List.mem_cons,List.mem_nil_iff,or_false] at m
   rcases m with rfl | rfl | rfl | rfl | rfl | rfl | rfl | rfl | rfl
   ·exact ⟨_,rfl,kx_NoText_NoDecree⟩
   ·exact ⟨_,rfl,kx_NoText_NoLand⟩
   ·exact ⟨_,rfl,kx_NoText_NoLevel⟩
   ·exact ⟨_,rfl,kx_NoText_NoName⟩
   ·exact ⟨_,rfl,kx_NoText_NoPurse⟩
   ·exact ⟨_,rfl,kx_NoText_NoRing⟩
   ·exact ⟨_,rfl,kx_NoText_NoRow⟩
   ·exact ⟨_,rfl,kx_NoText_NoSluice⟩
   ·exact ⟨_,rfl,kx_NoText_NoVoice⟩
  have he:=A1 _ _ he
  have T1:=S1.trans (S6.trans A1)
  generalize upd H6 t1 _ = H7 at A1 he T1 ⊢
  refine bN ?_
  refine ⟨_,rfl,aY rfl,fun t2 n2=>?_⟩
  have A2:=aJ.upd (o:=.tup [.ref c_NoWay,.ref c_NoWish,.ref c_NoWork,.ref c_Outvoted,.ref c_Short,.ref c_TooMany]) n2
  refine ⟨ea,t2,_,c_NoText,rfl,aF,A2 _ _ he,ex_NoText,no ?_,_,rfl,?_⟩
  ·intro v m
   simp only [List.mem_cons,List.mem_nil_iff,or_false] at m
   rcases m with rfl | rfl | rfl | rfl | rfl | rfl
   ·exact ⟨_,rfl,kx_NoText_NoWay⟩
   ·exact ⟨_,rfl,kx_NoText_NoWish⟩
   ·exact ⟨_,rfl,kx_NoText_NoWork⟩
   ·exact ⟨_,rfl,kx_NoText_Outvoted⟩
   ·exact ⟨_,rfl,kx_NoText_Short⟩
   ·exact ⟨_,rfl,kx_NoText_TooMany⟩
  have T2:=T1.trans A2
  generalize upd H7 t2 _ = H8 at A2 T2 ⊢
  refine bN ?_
  exact ⟨_,rfl,_,rfl,aY rfl,fun lr n=>q lr _ (T2.trans (aJ.upd n)) aF⟩
open Mt02
def wB (K:PySem.W.Frag):Sp:=sp2 fun x y H Q=>∃ (a:Addr) (ns:List Int) (k:Int),x = .ref a ∧ y = .int k ∧ SqL K H a (ns.map V.int) ∧ ns.length ≤ 63 ∧ 0 ≤ k ∧ Q (.int (ns.getD k.toNat 0)) H
theorem kB (T:Txt K mg C):Fc P w K mg base 1 "_law_cell_at" ["_law_script","_law_k"] (wB K):=by
 refine T.d_l_cell_at.fc wH qM (fun f cdv A outer s H vs Q E hr h=>?_)
 obtain ⟨x,y,rfl,a,ns,k,rfl,rfl,hS,hl,hk,q⟩:=h
 refine ⟨_,(@aG _ _ _ _ _ (@bQ _ _ _ _ _ _ _ _ (@aQ _ _ _ _ _ _ _ _ oG (pv 1) (@aP _ _ _ _ _ _ _ _ _ (@bA _ (K) rfl) rfl T.n_len bD (@aA _ _ _ _ _ (pv 0) aD (by rfl)) (by decide) (by decide) (by rfl) (by rfl)) (@aS _ _ (by decide) (by decide))) (@aH _ _ _ (@aM _ _ _ _ (@bI _ _ _ _ _ _ _ (@aZ _ (K) rfl) (pv 0) (pv 1) (fun _ _=>rfl)))) aX) (@aH _ _ _ (@aM _ _ _ _ aB))),?_⟩
 refine ⟨_,rfl,_,rfl,a,_,rfl,.inl hS,_,_,rfl,rfl,_,rfl,?_⟩
 obtain ⟨j,rfl⟩:=Int.eq_ofNat_of_zero_le hk
 rw [List.length_map]
 refine dR (fun h1=>?_) (fun h1=>?_)
 ·have h1':j < ns.length:=by
   have:=of_decide_eq_true h1
   omega
  refine ⟨_,rfl,_,rfl,a,_,_,.int (ns.getD j 0),rfl,rfl,hS,bC ?_,?_⟩
  ·rw [List.getElem?_map,List.getElem?_eq_getElem h1',List.getD_eq_getElem?_getD,List.getElem?_eq_getElem h1']
   rfl
  ·simpa using q
 ·have h1':¬ j < ns.length:=by
   intro h2
   exact h1 (decide_eq_true (by omega))
  have e:ns.getD j 0 = 0:=by
   rw [List.getD_eq_getElem?_getD,List.getElem?_eq_none (by omega)]
   rfl
  have q':Q (.int (ns.getD j 0)) H:=by simpa using q
  rw [e] at q'
  exact q'
def Scr (K:PySem.W.Frag) (H:Hp) (x:V):Prop:=∃ (a:Addr) (ns:List Int),x = .ref a ∧ SqL K H a (ns.map V.int) ∧ ns.length ≤ 63
theorem Scr.same {K:PySem.W.Frag} {H H':Hp} {x:V} (S:aJ H H') (h:Scr K H x):Scr K H' x:=by
 obtain ⟨a,ns,e,q,l⟩:=h
 exact ⟨a,ns,e,S.seq q,l⟩
theorem p6:(10:Int) ^ (6:Int).toNat = 1000000:=by decide
structure Fds (fs:List Dv) (n:Nat):Prop where
 l1:1 ≤ fs.length
 l2:fs.length ≤ n
 all:∀ d ∈ fs,bT d = true
 nd:(fs.map bH).Nodup
theorem aAE {d:Dv} (h:bT d = true):zZ d = true:=by
 obtain ⟨z,g,e,rfl,_⟩:=bF h
 rfl
theorem aFS {z:Str} {g e:Int} (hz:cI z = true) (g0:-1000000 ≤ g) (g1:g ≤ 1000000) (e0:0 ≤ e) (e1:e ≤ 1000000):bT (.tup [.str z,.int g,.int e]) = true:=by
 show (cI z && (hgt g && amt e)) = true
 unfold hgt amt
 rw [hz,decide_eq_true g0,decide_eq_true g1,decide_eq_true e0,decide_eq_true e1]
 rfl
structure Dks (zs:List Str) (ds:List Dv) (n:Nat):Prop where
 l1:1 ≤ ds.length
 l2:ds.length ≤ n
 all:∀ d ∈ ds,cE zs d = true
 nd:(ds.map bH).Nodup
theorem aCB {c s:Dv} (h:lP c s = true):zZ s = true:=by
 cases s with
 | non=>rfl
 | int i=>rfl
 | _=>cases h
theorem aDA {zs:List Str} {d:Dv} (h:cE zs d = true):zZ d = true:=by
 obtain ⟨n,a,b,c,r,s,rfl,_,_,_,_,_,_,hs⟩:=dH h
 have:=aCB hs
 show (true && (true && (true && (true && (true && (zZ s && true)))))) = true
 rw [this]
 rfl
theorem qY {zs:List Str} {n a b:Str} {c r:Int} {s:Dv} (hn:cI n = true) (ha:a ∈ zs) (hb:b ∈ zs) (hab:a ≠ b) (hc:hgt c = true) (hr:amt r = true) (hs:lP (.int c) s = true):cE zs (.tup [.str n,.str a,.str b,.int c,.int r,s]) = true:=by
 show (cI n && (decide (a ∈ zs) && (decide (b ∈ zs) && !(a == b))) && (hgt c && (amt r && lP (.int c) s))) = true
 rw [hn,decide_eq_true ha,decide_eq_true hb,hc,hr,hs,beq_eq_false_iff_ne.mpr hab]
 rfl
theorem wW {i:Int} (h0:-1000000 ≤ i) (h1:i ≤ 1000000):hgt i = true:=by
 unfold hgt
 rw [decide_eq_true h0,decide_eq_true h1]
 rfl
theorem aAL {i:Int} (h0:0 ≤ i) (h1:i ≤ 1000000):amt i = true:=by
 unfold amt
 rw [decide_eq_true h0,decide_eq_true h1]
 rfl
theorem aGM {z:Str} (h:cI z = true):z ≠ "sea":=by
 intro e
 subst e
 simp [cI] at h
theorem aED {fs:List Dv} {n:Nat} (h:Fds fs n):("sea" :: fs.map bH:List Str).Nodup:=by
 rw [List.nodup_cons]
 refine ⟨fun m=>?_,h.nd⟩
 obtain ⟨d,md,e⟩:=List.mem_map.mp m
 obtain ⟨z,g,e',rfl,hz,_⟩:=bF (h.all d md)
 exact aGM hz e
theorem aKZ {zs:List Str} (h:zs.Nodup) {i j:Nat} {a b:Str} (ha:zs[i]? = some a) (hb:zs[j]? = some b) (hij:i ≠ j):a ≠ b:=by
 intro e
 subst e
 obtain ⟨h1,e1⟩:=List.getElem?_eq_some_iff.mp ha
 obtain ⟨h2,e2⟩:=List.getElem?_eq_some_iff.mp hb
 exact hij ((List.getElem_inj h).mp (e1.trans e2.symm))
theorem aCD {c f L s r:Int} (hL:2 ≤ L) (hf0:0 ≤ f) (hf1:f < L) (hr:r = c % (L - 1)) (hs:s = (f + 1 + r) % L):0 ≤ s ∧ s < L ∧ f ≠ s:=by
 have r0:0 ≤ r:=by rw [hr];exact Int.emod_nonneg _ (by omega)
 have r1:r < L - 1:=by rw [hr];exact Int.emod_lt_of_pos _ (by omega)
 have s0:0 ≤ s:=by rw [hs];exact Int.emod_nonneg _ (by omega)
 have s1:s < L:=by rw [hs];exact Int.emod_lt_of_pos _ (by omega)
 refine ⟨s0,s1,?_⟩
 intro e
 by_cases hlt:f + 1 + r < L
 ·rw [Int.emod_eq_of_lt (by omega) hlt] at hs
  omega
 ·have e2:(f + 1 + r) % L = f + 1 + r - L:=by
   rw [← Int.sub_emod_right,Int.emod_eq_of_lt (by omega) (by omega)]
  omega
theorem aCY {fs:List Dv} {n:Nat} (h:Fds fs n) (hn:n ≤ 12):cL (.lst fs) = true:=(fN fs).mpr ⟨h.l1,Nat.le_trans h.l2 hn,h.all,h.nd⟩
theorem aFU {zs:List Str} {ds:List Dv} {n:Nat} (h:Dks zs ds n) (hn:n ≤ 40):eD zs (.lst ds) = true:=(gJ zs ds).mpr ⟨h.l1,Nat.le_trans h.l2 hn,h.all,h.nd⟩
theorem aFO {ds:List Dv} (h:∀ d ∈ ds,aW 29 d = true):aW 30 (.lst ds) = true:=by
 have:=tE h
 simpa [aW] using this
theorem yL (zs:List Str):aW 30 (.lst (zs.map Dv.str)) = true:=aFO fun d m=>by
 obtain ⟨z,_,rfl⟩:=List.mem_map.mp m
 rfl
theorem aGI {H:Hp} {l:Addr} {zs:List Str} (h:H l = some (.lst (zs.map V.str))):Is H (.lst (zs.map Dv.str)) (.ref l):=⟨l,_,rfl,h,IsL.strs H zs⟩
open Mt13 Mt11 Mt02
def nR:Sp:=sp2 fun x y H Q=>∃ n k:Int,x = .int n ∧ y = .int k ∧ 0 ≤ k ∧ k ≤ 2000 ∧ ∀ m:Int,0 ≤ m → m < 1000000000000000000000000 → Q (.int m) H
theorem nE (T:Txt K mg C):Fc P w K mg base 1 "_law_mixed" ["_law_cell","_law_k"] nR:=by
 refine T.d_l_mixed.fc iH qM (fun f cdv A outer s H vs Q E hr h=>?_)
 obtain ⟨x,y,rfl,n,k,rfl,rfl,hk0,hk1,q⟩:=h
 have e24:(10:Int) ^ (24:Int).toNat = 1000000000000000000000000:=by decide
 refine ⟨_,(@aG _ _ _ _ _ (@bQ _ _ _ _ _ _ _ _ (@aQ _ _ _ _ _ _ _ _ dL (@aI _ _ _ _ _ _ _ _ bU (pv 0) aB) aB (@aS _ _ (by decide) (by decide))) (@aG _ _ _ _ _ (@aV _ _ (2) _ _ _ _ iH.nd rfl (Or.inl rfl) (@aI _ _ _ _ _ _ _ _ bX (pv 0) aB) (by rfl) (by trivial)) (@aG _ _ _ _ _ (@mX _ _ _ _ _ _ _ _ PassesOwn.never rfl (@jM _ _ _ _ _ _ rfl T.n_range (@aA _ _ _ _ _ (@aI _ _ _ _ _ _ _ _ bU (pv 1) aB) aD (by rfl)) (by rfl)) (@bE _ _ (3) _ iH.nd rfl (Or.inl rfl) (by trivial)) (@aH _ _ _ (@aV _ _ (2) _ _ _ _ iH.nd rfl (Or.inl rfl) (@aI _ _ _ _ _ _ _ _ bX (pv 2) (@aI _ _ _ _ _ _ _ _ iZ aB aB)) (by rfl) (by trivial))) (by intro _;rfl)) (@aH _ _ _ (@aM _ _ _ _ (@aI _ _ _ _ _ _ _ _ bU (pv 2) (@aI _ _ _ _ _ _ _ _ iZ aB aB)))))) aX) (@aG _ _ _ _ _ (@aV _ _ (2) _ _ _ _ iH.nd rfl (Or.inl rfl) (@aI _ _ _ _ _ _ _ _ bU (@aI _ _ _ _ _ _ _ _ lB (@aI _ _ _ _ _ _ _ _ dQ (@aI _ _ _ _ _ _ _ _ dQ (pv 0) (@aI _ _ _ _ _ _ _ _ lB (@aI _ _ _ _ _ _ _ _ lB aB (pv 1)) (pv 1))) aB) aB) aB) (by rfl) (by trivial)) (@aH _ _ _ (@aM _ _ _ _ (@aI _ _ _ _ _ _ _ _ bU (@aI _ _ _ _ _ _ _ _ lB (pv 2) (pv 2)) aB))))),?_⟩
 refine ⟨_,rfl,_,_,rfl,rfl,(by show (0:Int) < 2;decide),rfl,_,rfl,?_⟩
 refine dR (fun h1=>?_) (fun h1=>?_)
 ·refine ⟨_,rfl,_,_,rfl,rfl,⟨by decide,by decide⟩,?_⟩
  have m0:0 ≤ k % 16:=Int.emod_nonneg _ (by decide)
  have m1:k % 16 < 16:=Int.emod_lt_of_pos _ (by decide)
  refine ⟨_,rfl,_,_,rfl,rfl,(by show (0:Int) < 16;decide),_,rfl,by omega,by omega,?_⟩
  refine vM (lo:=0) (n:=(k % 16).toNat) (fun i σ H'=>∃ (m:Int) (v:Option V),σ = [some (.int n),some (.int k),some (.int m),v] ∧ H' = H) ⟨_,_,rfl,rfl⟩ ?_ ?_
  ·rintro i σ H' hi ⟨m,v,rfl,rfl⟩
   exact ⟨_,rfl,_,_,rfl,rfl,⟨by decide,by decide,by decide⟩,_,_,rfl,rfl,⟨by decide,by decide⟩,_,_,rfl,rfl⟩
  ·rintro σ H' ⟨m,v,rfl,rfl⟩
   refine ⟨_,rfl,_,_,rfl,rfl,⟨by decide,by decide,by decide⟩,_,_,rfl,rfl,(by show (0:Int) < 10 ^ (24:Int).toNat;decide),?_⟩
   refine q _ (Int.emod_nonneg _ (by decide)) ?_
   rw [← e24]
   exact Int.emod_lt_of_pos _ (by decide)
 ·have hb:∀ a:Int,-(2 ^ 64) < a % 2147483647 ∧ a % 2147483647 < 2 ^ 64:=fun a=>by
   have:=Int.emod_nonneg a (show (2147483647:Int) ≠ 0 by decide)
   have:=Int.emod_lt_of_pos a (show (0:Int) < 2147483647 by decide)
   omega
  refine ⟨_,rfl,_,rfl,_,_,rfl,rfl,.inl ⟨by decide,by decide⟩,_,rfl,_,_,rfl,rfl,.inr ⟨by omega,by omega⟩,_,_,rfl,rfl,_,_,rfl,rfl,_,_,rfl,rfl,.inr ⟨by decide,by decide⟩,_,_,rfl,rfl,(by show (0:Int) < 2147483647;decide),?_⟩
  refine ⟨_,rfl,_,rfl,_,_,rfl,rfl,.inl (hb _),_,_,rfl,rfl,(by show (0:Int) < 2147483629;decide),?_⟩
  exact q _ (Int.emod_nonneg _ (by decide)) (Int.lt_trans (Int.emod_lt_of_pos _ (by decide)) (by decide))
def mD (lo hi:Int):Sp:=sp1 fun x H Q=>∃ c:Int,x = .int c ∧ ∀ m:Int,lo ≤ m → m ≤ hi → Q (.int m) H
theorem pX (T:Txt K mg C):Fc P w K mg base 1 "_law_height" ["_law_number_here"] (mD (-1000000) 1000000):=by
 refine T.d_l_height.fc xV iB (fun f cdv A outer s H vs Q E hr h=>?_)
 obtain ⟨x,rfl,c,rfl,q⟩:=h
 refine ⟨_,(@aG _ _ _ _ _ (@bQ _ _ _ _ _ _ _ _ (@aQ _ _ _ _ _ _ _ _ dL (@aI _ _ _ _ _ _ _ _ bU (pv 0) aB) aB (@aS _ _ (by decide) (by decide))) (@aH _ _ _ (@aM _ _ _ _ (@aI _ _ _ _ _ _ _ _ iO (@aI _ _ _ _ _ _ _ _ bU (@aI _ _ _ _ _ _ _ _ lB (@aI _ _ _ _ _ _ _ _ bX (pv 0) aB) aB) aB) (@aI _ _ _ _ _ _ _ _ iZ aB aB)))) aX) (@aH _ _ _ (@aM _ _ _ _ (@aI _ _ _ _ _ _ _ _ iO (@aI _ _ _ _ _ _ _ _ bU (@aI _ _ _ _ _ _ _ _ bX (pv 0) aB) aB) aB)))),?_⟩
 refine ⟨_,rfl,_,_,rfl,rfl,(hX rfl),rfl,_,rfl,?_⟩
 refine dR (fun h1=>?_) (fun h1=>?_)
 ·refine ⟨_,rfl,_,_,rfl,rfl,⟨by decide,by decide⟩,_,_,rfl,rfl,.inr ⟨by decide,by decide⟩,_,_,rfl,rfl,(hX rfl),_,_,rfl,rfl,⟨by decide,by decide,by decide⟩,_,_,rfl,rfl,?_⟩
  have b0:=Int.emod_nonneg (c / 4 * 7919) (show (2000001:Int) ≠ 0 by decide)
  have b1:=Int.emod_lt_of_pos (c / 4 * 7919) (show (0:Int) < 2000001 by decide)
  exact q _ (by rw [p6];omega) (by rw [p6];omega)
 ·refine ⟨_,rfl,_,_,rfl,rfl,⟨by decide,by decide⟩,_,_,rfl,rfl,(hX rfl),_,_,rfl,rfl,?_⟩
  exact q _ (by omega) (by omega)
theorem sP (T:Txt K mg C):Fc P w K mg base 1 "_law_count" ["_law_number_here"] (mD 0 1000000):=by
 refine T.d_l_count.fc zJ iB (fun f cdv A outer s H vs Q E hr h=>?_)
 obtain ⟨x,rfl,c,rfl,q⟩:=h
 refine ⟨_,(@aG _ _ _ _ _ (@bQ _ _ _ _ _ _ _ _ (@aQ _ _ _ _ _ _ _ _ dL (@aI _ _ _ _ _ _ _ _ bU (pv 0) aB) aB (@aS _ _ (by decide) (by decide))) (@aH _ _ _ (@aM _ _ _ _ (@aI _ _ _ _ _ _ _ _ bU (@aI _ _ _ _ _ _ _ _ lB (@aI _ _ _ _ _ _ _ _ bX (pv 0) aB) aB) (@aI _ _ _ _ _ _ _ _ dQ (@aI _ _ _ _ _ _ _ _ iZ aB aB) aB)))) aX) (@aH _ _ _ (@aM _ _ _ _ (@aI _ _ _ _ _ _ _ _ bU (@aI _ _ _ _ _ _ _ _ bX (pv 0) aB) aB)))),?_⟩
 refine ⟨_,rfl,_,_,rfl,rfl,(hX rfl),rfl,_,rfl,?_⟩
 refine dR (fun h1=>?_) (fun h1=>?_)
 ·refine ⟨_,rfl,_,_,rfl,rfl,⟨by decide,by decide⟩,_,_,rfl,rfl,.inr ⟨by decide,by decide⟩,_,_,rfl,rfl,⟨by decide,by decide,by decide⟩,_,_,rfl,rfl,_,_,rfl,rfl,(hX rfl),?_⟩
  have b0:=Int.emod_nonneg (c / 4 * 7919) (show (1000001:Int) ≠ 0 by decide)
  have b1:=Int.emod_lt_of_pos (c / 4 * 7919) (show (0:Int) < 1000001 by decide)
  refine q _ ?_ ?_
  ·rw [p6];omega
  ·rw [p6];omega
 ·refine ⟨_,rfl,_,_,rfl,rfl,⟨by decide,by decide⟩,_,_,rfl,rfl,(hX rfl),?_⟩
  exact q _ (by omega) (by omega)
theorem aME:("abcdefghijklmnopqrstuvwxyz":Str).cps.toList = (List.range 26).map (97 + ·):=by decide +kernel
theorem kH {i:Int} (h0:0 ≤ i) (h1:i < 26):atI ("abcdefghijklmnopqrstuvwxyz":Str).cps.toList i = some (97 + i.toNat):=by
 obtain ⟨k,rfl⟩:=Int.eq_ofNat_of_zero_le h0
 rw [aME]
 refine bC ?_
 rw [List.getElem?_map,List.getElem?_range (by omega)]
 simp
theorem aBG {n:Int} (h0:0 ≤ n) (h1:n < 6):Txt.mul ("x":Str) n = ⟨(List.replicate n.toNat 120).toArray⟩:=by
 obtain ⟨k,rfl⟩:=Int.eq_ofNat_of_zero_le h0
 have hk:k < 6:=by omega
 match k,hk with
 | 0,_=>decide +kernel
 | 1,_=>decide +kernel
 | 2,_=>decide +kernel
 | 3,_=>decide +kernel
 | 4,_=>decide +kernel
 | 5,_=>decide +kernel
def lw (c:Int) (k:Nat):List Nat:=List.replicate (c % 6).toNat 120 ++ [97 + (((k:Int) + c / 24) % 26).toNat,97 + (((k:Int) / 26 + c / 624) % 26).toNat]
def tF:List Str:=["and","dyke","when","wet","field"]
def jO (c:Int) (k:Nat):Str:=if c % 4 = 1 ∧ k < 5 then tF.getD k "" else ⟨(lw c k).toArray⟩
def aIT:Sp:=sp2 fun x y H Q=>∃ (c:Int) (k:Nat),x = .int c ∧ y = .int k ∧ k < 40 ∧ ∀ H',aJ H H' → Q (.str (jO c k)) H'
theorem uW (T:Txt K mg C):Fc P w K mg base 1 "_law_name" ["_law_cell","_law_k"] aIT:=by
 refine T.d_l_name.fc pF qM (fun f cdv A outer s H vs Q E hr h=>?_)
 obtain ⟨x,y,rfl,c,k,rfl,rfl,hk,q⟩:=h
 refine ⟨_,(@aG _ _ _ _ _ (@aV _ _ (2) _ _ _ _ pF.nd rfl (Or.inl rfl) aN (by rfl) (by trivial)) (@aG _ _ _ _ _ (@bQ _ _ _ _ _ _ _ _ (@PW.pt _ _ _ (@iN _ _ _ _ _ _ _ (@aQ _ _ _ _ _ _ _ _ dL (@aI _ _ _ _ _ _ _ _ bU (pv 0) aB) aB (@aS _ _ (by decide) (by decide))) (@jY _ _ _ _ (@aQ _ _ _ _ _ _ _ _ oG (pv 1) aB (@aS _ _ (by decide) (by decide)))))) (@aH _ _ _ (@aM _ _ _ _ (@bI _ _ _ _ _ _ _ (@aZ _ (K) rfl) (@dP _ _ _ _ (@aA _ _ _ _ _ aN (@aA _ _ _ _ _ aN (@aA _ _ _ _ _ aN (@aA _ _ _ _ _ aN (@aA _ _ _ _ _ aN aD (by rfl)) (by rfl)) (by rfl)) (by rfl)) (by rfl))) (pv 1) (fun _ _=>rfl)))) aX) (@aG _ _ _ _ _ (@aV _ _ (3) _ _ _ _ pF.nd rfl (Or.inl rfl) (@aI _ _ _ _ _ _ _ _ bV (@bI _ _ _ _ _ _ _ nJ (pv 2) (@aI _ _ _ _ _ _ _ _ bU (@aI _ _ _ _ _ _ _ _ dQ (pv 1) (@aI _ _ _ _ _ _ _ _ bX (pv 0) aB)) aB) (fun _ _=>rfl)) (@bI _ _ _ _ _ _ _ nJ (pv 2) (@aI _ _ _ _ _ _ _ _ bU (@aI _ _ _ _ _ _ _ _ dQ (@aI _ _ _ _ _ _ _ _ bX (pv 1) aB) (@aI _ _ _ _ _ _ _ _ bX (pv 0) aB)) aB) (fun _ _=>rfl))) (by rfl) (by trivial)) (@aH _ _ _ (@aM _ _ _ _ (@aI _ _ _ _ _ _ _ _ bV (@aI _ _ _ _ _ _ _ _ zN aN (@aI _ _ _ _ _ _ _ _ bU (pv 0) aB)) (pv 3))))))),?_⟩
 have big:=cJ
 refine ⟨_,rfl,_,_,rfl,rfl,(hX rfl),rfl,_,rfl,?_⟩
 have e4:decide (V.int (c % 4) = V.int 1) = decide (c % 4 = 1):=by rw [oS,Bool.eq_iff_iff];simp
 have m0:0 ≤ c % 6:=Int.emod_nonneg _ (by decide)
 have m1:c % 6 < 6:=Int.emod_lt_of_pos _ (by decide)
 have a0:0 ≤ ((k:Int) + c / 24) % 26:=Int.emod_nonneg _ (by decide)
 have a1:((k:Int) + c / 24) % 26 < 26:=Int.emod_lt_of_pos _ (by decide)
 have b0:0 ≤ ((k:Int) / 26 + c / 624) % 26:=Int.emod_nonneg _ (by decide)
 have b1:((k:Int) / 26 + c / 624) % 26 < 26:=Int.emod_lt_of_pos _ (by decide)
 have cat:(⟨(lw c k).toArray⟩:Str) = (⟨(List.replicate (c % 6).toNat 120).toArray⟩:Str) ++ ((⟨#[97 + (((k:Int) + c / 24) % 26).toNat]⟩:Str) ++ (⟨#[97 + (((k:Int) / 26 + c / 624) % 26).toNat]⟩:Str)):=by
  show (⟨(lw c k).toArray⟩:Str) = ⟨_ ++ (_ ++ _)⟩
  congr 1
  unfold lw
  simp
 show (if decide (V.int (c % 4) = V.int 1) = true then _ else _)
 rw [e4]
 refine dR (fun h1=>?_) (fun h1=>?_)
 ·have h1:=of_decide_eq_true h1
  refine ⟨_,rfl,_,_,rfl,rfl,_,rfl,?_⟩
  refine dR (fun h2=>?_) (fun h2=>?_)
  ·have h2:=of_decide_eq_true h2
   have hk5:k < 5:=by omega
   rw [jO,if_pos ⟨h1,hk5⟩] at q
   refine ⟨aY rfl,fun p hp=>?_⟩
   refine ⟨_,rfl,p,_,k,.str (tF.getD k ""),rfl,rfl,SqL.of aF,?_,q _ (aJ.upd hp)⟩
   refine bC ?_
   match k,hk5 with
   | 0,_=>rfl
   | 1,_=>rfl
   | 2,_=>rfl
   | 3,_=>rfl
   | 4,_=>rfl
  ·have h2:¬ (k:Int) < 5:=fun w=>h2 (decide_eq_true w)
   rw [jO,if_neg (by omega)] at q
   refine ⟨_,rfl,_,rfl,_,rfl,_,_,rfl,rfl,⟨by decide,by decide⟩,_,_,rfl,rfl,_,_,rfl,rfl,(hX rfl),_,_,_,rfl,rfl,(by decide +kernel),kH a0 a1,?_⟩
   refine ⟨_,rfl,_,rfl,_,_,rfl,rfl,⟨by decide,by decide⟩,_,rfl,_,_,rfl,rfl,⟨by decide,by decide⟩,_,_,rfl,rfl,_,_,rfl,rfl,(hX rfl),_,_,_,rfl,rfl,(by decide +kernel),kH b0 b1,?_⟩
   refine ⟨_,_,rfl,rfl,(by show 1 + 1 ≤ sizeLine;omega),?_⟩
   refine ⟨_,rfl,_,_,rfl,rfl,(hX rfl),_,_,rfl,rfl,(by decide +kernel),(by omega),(by omega),_,rfl,?_⟩
   refine ⟨_,_,rfl,rfl,?_,?_⟩
   ·rw [aBG m0 m1]
    show (List.replicate (c % 6).toNat 120).toArray.size + (1 + 1) ≤ sizeLine
    rw [List.size_toArray,List.length_replicate]
    omega
   ·rw [aBG m0 m1]
    exact cat ▸ q H (aJ.refl _)
 ·have h1:¬ c % 4 = 1:=fun w=>h1 (decide_eq_true w)
  refine bN ?_
  rw [jO,if_neg (by exact fun w=>h1 w.1)] at q
  refine ⟨_,rfl,_,rfl,_,rfl,_,_,rfl,rfl,⟨by decide,by decide⟩,_,_,rfl,rfl,_,_,rfl,rfl,(hX rfl),_,_,_,rfl,rfl,(by decide +kernel),kH a0 a1,?_⟩
  refine ⟨_,rfl,_,rfl,_,_,rfl,rfl,⟨by decide,by decide⟩,_,rfl,_,_,rfl,rfl,⟨by decide,by decide⟩,_,_,rfl,rfl,_,_,rfl,rfl,(hX rfl),_,_,_,rfl,rfl,(by decide +kernel),kH b0 b1,?_⟩
  refine ⟨_,_,rfl,rfl,(by show 1 + 1 ≤ sizeLine;omega),?_⟩
  refine ⟨_,rfl,_,_,rfl,rfl,(hX rfl),_,_,rfl,rfl,(by decide +kernel),(by omega),(by omega),_,rfl,?_⟩
  refine ⟨_,_,rfl,rfl,?_,?_⟩
  ·rw [aBG m0 m1]
   show (List.replicate (c % 6).toNat 120).toArray.size + (1 + 1) ≤ sizeLine
   rw [List.size_toArray,List.length_replicate]
   omega
  ·rw [aBG m0 m1]
   exact cat ▸ q H (aJ.refl _)
open Mt13 Mt11 Mt02
theorem aCW:∀ z ∈ tF,cI z = true:=by decide +kernel
theorem aJR:∀ z ∈ tF,z.cps.toList.head? ≠ some 120:=by decide +kernel
theorem aHP:tF.Nodup:=by decide +kernel
theorem yM {k:Nat} (h:k < 5):tF.getD k "" ∈ tF:=by
 match k,h with
 | 0,_=>decide +kernel
 | 1,_=>decide +kernel
 | 2,_=>decide +kernel
 | 3,_=>decide +kernel
 | 4,_=>decide +kernel
theorem aFP {i j:Nat} (hi:i < 5) (hj:j < 5) (h:tF.getD i "" = tF.getD j ""):i = j:=by
 have l:tF.length = 5:=rfl
 rw [List.getD_eq_getElem?_getD,List.getD_eq_getElem?_getD,List.getElem?_eq_getElem (by omega),List.getElem?_eq_getElem (by omega)] at h
 exact (List.getElem_inj aHP).mp h
theorem aJI (c:Int) (k:Nat):(lw c k).length = (c % 6).toNat + 2:=by
 unfold lw
 rw [List.length_append,List.length_replicate]
 rfl
theorem aCN (c:Int) (k:Nat):∀ x ∈ lw c k,eH x = true:=fun x m=>by
 have a0:0 ≤ ((k:Int) + c / 24) % 26:=Int.emod_nonneg _ (by decide)
 have a1:((k:Int) + c / 24) % 26 < 26:=Int.emod_lt_of_pos _ (by decide)
 have b0:0 ≤ ((k:Int) / 26 + c / 624) % 26:=Int.emod_nonneg _ (by decide)
 have b1:((k:Int) / 26 + c / 624) % 26 < 26:=Int.emod_lt_of_pos _ (by decide)
 have hx:97 ≤ x ∧ x ≤ 122:=by
  unfold lw at m
  rcases List.mem_append.mp m with m | m
  ·rw [List.eq_of_mem_replicate m]
   decide
  ·simp only [List.mem_cons,List.mem_nil_iff,or_false] at m
   omega
 show (decide (97 ≤ x) && decide (x ≤ 122)) = true
 rw [decide_eq_true hx.1,decide_eq_true hx.2]
 rfl
theorem aLA {c:Int} {k:Nat} (h:0 < c % 6):(lw c k).head? = some 120:=by
 unfold lw
 obtain ⟨n,e⟩:∃ n,(c % 6).toNat = n + 1:=⟨(c % 6).toNat - 1,by omega⟩
 rw [e]
 rfl
theorem aEG:("sea":Str).cps.toList = [115,101,97]:=by decide +kernel
theorem mG (c:Int) (k:Nat):cI (jO c k) = true:=by
 unfold jO
 split
 ·rename_i h
  exact aCW _ (yM h.2)
 ·have l:=aJI c k
  have m0:0 ≤ c % 6:=Int.emod_nonneg _ (by decide)
  have m1:c % 6 < 6:=Int.emod_lt_of_pos _ (by decide)
  have ns:(⟨(lw c k).toArray⟩:Str) ≠ "sea":=fun e=>by
   have e2:=congrArg (fun z:Str=>z.cps.toList) e
   rw [aEG] at e2
   have e2:lw c k = [115,101,97]:=e2
   have e3:c % 6 = 1:=by
    rw [e2] at l
    have l:3 = (c % 6).toNat + 2:=l
    omega
   have:=aLA (c:=c) (k:=k) (by omega)
   rw [e2] at this
   cases this
  unfold cI
  have hl:(⟨(lw c k).toArray⟩:Str).length = (c % 6).toNat + 2:=by
   show (lw c k).toArray.size = _
   rw [List.size_toArray,l]
  rw [hl,decide_eq_true (by omega),decide_eq_true (by omega),decide_eq_false ns]
  show (true && true && true && (lw c k).all eH) = true
  rw [List.all_eq_true.mpr (aCN c k)]
  rfl
theorem aJJ {c:Int} {i j:Nat} (hi:i < 40) (hj:j < 40) (h:lw c i = lw c j):i = j:=by
 have h:=List.append_cancel_left h
 have h1:=(List.cons.inj h).1
 have h2:=(List.cons.inj (List.cons.inj h).2).1
 omega
theorem aEU {c:Int} {i j:Nat} (hi:i < 40) (hj:j < 40) (h:jO c i = jO c j):i = j:=by
 have mix:∀ {i j:Nat},c % 4 = 1 → i < 5 → tF.getD i "" ≠ (⟨(lw c j).toArray⟩:Str):=fun h4 hi e=>by
  have:=aJR _ (yM hi)
  rw [e] at this
  exact this (aLA (by omega))
 unfold jO at h
 by_cases h1:c % 4 = 1 ∧ i < 5
 ·by_cases h2:c % 4 = 1 ∧ j < 5
  ·rw [if_pos h1,if_pos h2] at h
   exact aFP h1.2 h2.2 h
  ·rw [if_pos h1,if_neg h2] at h
   exact absurd h (mix h1.1 h1.2)
 ·by_cases h2:c % 4 = 1 ∧ j < 5
  ·rw [if_neg h1,if_pos h2] at h
   exact absurd h.symm (mix h2.1 h2.2)
  ·rw [if_neg h1,if_neg h2] at h
   exact aJJ hi hj (congrArg (fun z:Str=>z.cps.toList) h)
theorem aBF (c:Int) {n:Nat} (hn:n ≤ 40):((List.range n).map (jO c)).Nodup:=by
 rw [List.nodup_iff_pairwise_ne,List.pairwise_map]
 refine List.Pairwise.imp_of_mem (fun {i j} hi hj hlt e=>?_) List.pairwise_lt_range
 have:=aEU (by have:=List.mem_range.mp hi;omega) (by have:=List.mem_range.mp hj;omega) e
 omega
def aID (K:PySem.W.Frag):Sp:=sp1 fun x H Q=>Scr K H x ∧ ∀ (fs:List Dv) (vs:List V) (l:Addr) (H':Hp),Fds fs 12 → aJ H H' → H l = none → H' l = some (.lst vs) → IsL H' fs vs → Q (.ref l) H'
theorem yD (T:Txt K mg C):Fc P w K mg base 2 "_law_fields" ["_law_script"] (aID K):=by
 have G_l_cell_at:Fc P w K mg base 1 "_law_cell_at" ["_law_script","_law_k"] (wB K):=kB T
 have G_l_mixed:Fc P w K mg base 1 "_law_mixed" ["_law_cell","_law_k"] nR:=nE T
 have G_l_name:Fc P w K mg base 1 "_law_name" ["_law_cell","_law_k"] aIT:=uW T
 have G_l_height:Fc P w K mg base 1 "_law_height" ["_law_number_here"] (mD (-1000000) 1000000):=pX T
 have G_l_count:Fc P w K mg base 1 "_law_count" ["_law_number_here"] (mD 0 1000000):=sP T
 refine T.d_l_fields.fc gP iB (fun f cdv A outer s H vs Q E hr h=>?_)
 obtain ⟨x,rfl,⟨a,ns,rfl,hS,hl⟩,q⟩:=h
 refine ⟨_,(@aG _ _ _ _ _ (@aV _ _ (1) _ _ _ _ gP.nd rfl (Or.inl rfl) (@bR _ _ _ _ _ _ _ _ _ _ G_l_cell_at (hr.mono (by decide)) (@aA _ _ _ _ _ (pv 0) (@aA _ _ _ _ _ aB aD (by rfl)) (by rfl)) (by rfl) (by decide) (by rfl) (by rfl)) (by rfl) (by trivial)) (@aG _ _ _ _ _ (@aV _ _ (2) _ _ _ _ gP.nd rfl (Or.inl rfl) (@dP _ _ _ _ aD) (by rfl) (by trivial)) (@aG _ _ _ _ _ (@mX _ _ _ _ _ _ _ _ PassesOwn.never rfl (@jM _ _ _ _ _ _ rfl T.n_range (@aA _ _ _ _ _ (@aI _ _ _ _ _ _ _ _ dQ aB (@aI _ _ _ _ _ _ _ _ bU (@bR _ _ _ _ _ _ _ _ _ _ G_l_cell_at (hr.mono (by decide)) (@aA _ _ _ _ _ (pv 0) (@aA _ _ _ _ _ aB aD (by rfl)) (by rfl)) (by rfl) (by decide) (by rfl) (by rfl)) aB)) aD (by rfl)) (by rfl)) (@bE _ _ (3) _ gP.nd rfl (Or.inl rfl) (by trivial)) (@aG _ _ _ _ _ (@aV _ _ (4) _ _ _ _ gP.nd rfl (Or.inl rfl) (@bR _ _ _ _ _ _ _ _ _ _ G_l_mixed (hr.mono (by decide)) (@aA _ _ _ _ _ (pv 1) (@aA _ _ _ _ _ (@aI _ _ _ _ _ _ _ _ dQ aB (pv 3)) aD (by rfl)) (by rfl)) (by rfl) (by decide) (by rfl) (by rfl)) (by rfl) (by trivial)) (@aH _ _ _ (@jZ _ _ _ _ (@sE _ (K) _ _ _ _ _ rfl (@dJ _ _ _ _ _ _ _ _ _ _ _ _ PySem.F.plainAttrs_list PySem.F.slot_list_append PySem.F.type_list_append jP (pv 2) (@aA _ _ _ _ _ (@mY _ _ _ _ _ (@aA _ _ _ _ _ (@bR _ _ _ _ _ _ _ _ _ _ G_l_name (hr.mono (by decide)) (@aA _ _ _ _ _ (pv 1) (@aA _ _ _ _ _ (pv 3) aD (by rfl)) (by rfl)) (by rfl) (by decide) (by rfl) (by rfl)) (@aA _ _ _ _ _ (@bR _ _ _ _ _ _ _ _ _ _ G_l_height (hr.mono (by decide)) (@aA _ _ _ _ _ (pv 4) aD (by rfl)) (by rfl) (by decide) (by rfl) (by rfl)) (@aA _ _ _ _ _ (@bR _ _ _ _ _ _ _ _ _ _ G_l_count (hr.mono (by decide)) (@aA _ _ _ _ _ (@aI _ _ _ _ _ _ _ _ bX (pv 4) aB) aD (by rfl)) (by rfl) (by decide) (by rfl) (by rfl)) aD (by rfl)) (by rfl)) (by rfl))) aD (by rfl)) (by rfl) (by rfl) (by rfl) (by rfl) (by rfl))) (by rfl)))) (by intro _;rfl)) (@aH _ _ _ (@aM _ _ _ _ (pv 2)))))),?_⟩
 have big:=cJ
 generalize hc:ns.getD (0:Int).toNat 0 = c
 generalize hm0:ns.getD (1:Int).toNat 0 = c1
 have r0:0 ≤ c1 % 12:=Int.emod_nonneg _ (by decide)
 have r1:c1 % 12 < 12:=Int.emod_lt_of_pos _ (by decide)
 obtain ⟨m,hm⟩:=Int.eq_ofNat_of_zero_le (show 0 ≤ 1 + c1 % 12 by omega)
 refine ⟨_,rfl,_,_,rfl,a,ns,0,rfl,rfl,hS,hl,by decide,?_⟩
 rw [hc]
 refine ⟨aY rfl,fun l hl0=>?_⟩
 have S2:=aJ.upd (o:=.lst []) hl0
 refine ⟨_,rfl,_,_,rfl,a,ns,1,rfl,rfl,S2.seq hS,hl,by decide,?_⟩
 rw [hm0]
 refine ⟨_,_,rfl,rfl,(hX rfl),_,_,rfl,rfl,_,rfl,by omega,by omega,?_⟩
 rw [hm,Int.toNat_natCast]
 refine vM (lo:=0) (n:=m) (fun i σ H'=>∃ (v3 v4:Option V) (us:List V) (fs:List Dv),σ = [some (.ref a),some (.int c),some (.ref l),v3,v4] ∧ aJ H H' ∧ H' l = some (.lst us) ∧ IsL H' fs us ∧ fs.map bH = (List.range i).map (jO c) ∧ (∀ d ∈ fs,bT d = true))
  ⟨_,_,[],[],rfl,S2,aF,rfl,rfl,fun d m=>by cases m⟩ ?_ ?_
 ·rintro i σ H' hi ⟨v3,v4,us,fs,rfl,S,hl',hi',en,af⟩
  have lf:fs.length = i:=by
   have:=congrArg List.length en
   rw [List.length_map,List.length_map,List.length_range] at this
   omega
  have lu:=hi'.length
  refine ⟨_,rfl,_,rfl,_,_,rfl,rfl,_,_,rfl,c,17 + (0 + (i:Int)),rfl,rfl,by omega,by omega,fun c2 c20 c21=>?_⟩
  refine ⟨_,rfl,.inl ⟨rfl,_,SqL.of hl'⟩,_,rfl,_,rfl,_,_,rfl,c,i,rfl,by rw [Int.zero_add],by omega,fun H3 S3=>?_⟩
  refine ⟨_,rfl,_,rfl,c2,rfl,fun g g0 g1=>?_⟩
  refine ⟨_,rfl,_,_,rfl,rfl,⟨by decide,by decide⟩,_,rfl,_,rfl,fun e e0 e1=>?_⟩
  refine ⟨aY rfl,fun t ht=>?_⟩
  have S4:=S3.trans (aJ.upd (o:=.tup [.str (jO c i),.int g,.int e]) ht)
  have hl4:=S4 _ _ hl'
  have ok:bT (.tup [.str (jO c i),.int g,.int e]) = true:=aFS (mG c i) g0 g1 e0 e1
  refine ⟨l,us,.ref t,rfl,rfl,hl4,by omega,?_⟩
  refine ⟨_,_,us ++ [.ref t],fs ++ [.tup [.str (jO c i),.int g,.int e]],rfl,(S.trans S4).over hl0,aF,?_,?_,?_⟩
  ·refine IsL.keep (yX.lst hl4) _ _ (sY fun d m=>aAE ?_) (IsL.snoc ?_ (IsL.same S4 _ _ hi'))
   ·rcases List.mem_append.mp m with m | m
    ·exact af d m
    ·rw [List.mem_singleton.mp m]
     exact ok
   ·exact ⟨t,_,rfl,aF,.str _,_,rfl,rfl,.int g,_,rfl,rfl,.int e,_,rfl,rfl,rfl⟩
  ·rw [List.map_append,en,List.range_succ,List.map_append]
   rfl
  ·intro d m
   rcases List.mem_append.mp m with m | m
   ·exact af d m
   ·rw [List.mem_singleton.mp m]
    exact ok
 ·rintro σ H' ⟨v3,v4,us,fs,rfl,S,hl',hi',en,af⟩
  have lf:fs.length = m:=by
   have:=congrArg List.length en
   rw [List.length_map,List.length_map,List.length_range] at this
   omega
  exact ⟨_,rfl,q fs us l H' ⟨by omega,by omega,af,by rw [en];exact aBF c (by omega)⟩ S hl0 hl' hi'⟩
open Mt13 Mt11 Mt02
def aKM (K:PySem.W.Frag):Sp:=sp3 fun x y z H Q=>∃ (a l:Addr) (ns:List Int) (k:Nat) (zs:List Str),x = .ref a ∧ y = .int k ∧ z = .ref l ∧ SqL K H a (ns.map V.int) ∧ ns.length ≤ 63 ∧ k < 40 ∧ H l = some (.lst (zs.map V.str)) ∧ 2 ≤ zs.length ∧ zs.length ≤ 20 ∧ zs.Nodup ∧
 ∀ (d:Dv) (v:V) (H':Hp),aJ H H' → Is H' d v → cE zs d = true → bH d = jO (ns.getD 2 0) k → Q v H'
theorem aCL (T:Txt K mg C):Fc P w K mg base 2 "_law_dyke" ["_law_script","_law_k","_law_sides"] (aKM K):=by
 have G_l_cell_at:Fc P w K mg base 1 "_law_cell_at" ["_law_script","_law_k"] (wB K):=kB T
 have G_l_mixed:Fc P w K mg base 1 "_law_mixed" ["_law_cell","_law_k"] nR:=nE T
 have G_l_name:Fc P w K mg base 1 "_law_name" ["_law_cell","_law_k"] aIT:=uW T
 have G_l_height:Fc P w K mg base 1 "_law_height" ["_law_number_here"] (mD (-1000000) 1000000):=pX T
 have G_l_count:Fc P w K mg base 1 "_law_count" ["_law_number_here"] (mD 0 1000000):=sP T
 refine T.d_l_dyke.fc fK zW (fun f cdv A outer s H vs Q E hr h=>?_)
 obtain ⟨x,y,z,rfl,a,l,ns,k,zs,rfl,rfl,rfl,hS,hl,hk,hz,z0,z1,zn,q⟩:=h
 have big:=cJ
 refine ⟨_,(@aG _ _ _ _ _ (@aV _ _ (3) _ _ _ _ fK.nd rfl (Or.inl rfl) (@bR _ _ _ _ _ _ _ _ _ _ G_l_mixed (hr.mono (by decide)) (@aA _ _ _ _ _ (@bR _ _ _ _ _ _ _ _ _ _ G_l_cell_at (hr.mono (by decide)) (@aA _ _ _ _ _ (pv 0) (@aA _ _ _ _ _ (@aI _ _ _ _ _ _ _ _ dQ aB (pv 1)) aD (by rfl)) (by rfl)) (by rfl) (by decide) (by rfl) (by rfl)) (@aA _ _ _ _ _ (@aI _ _ _ _ _ _ _ _ lB aB (pv 1)) aD (by rfl)) (by rfl)) (by rfl) (by decide) (by rfl) (by rfl)) (by rfl) (by trivial)) (@aG _ _ _ _ _ (@aV _ _ (4) _ _ _ _ fK.nd rfl (Or.inl rfl) (@bR _ _ _ _ _ _ _ _ _ _ G_l_mixed (hr.mono (by decide)) (@aA _ _ _ _ _ (@bR _ _ _ _ _ _ _ _ _ _ G_l_cell_at (hr.mono (by decide)) (@aA _ _ _ _ _ (pv 0) (@aA _ _ _ _ _ (@aI _ _ _ _ _ _ _ _ dQ aB (pv 1)) aD (by rfl)) (by rfl)) (by rfl) (by decide) (by rfl) (by rfl)) (@aA _ _ _ _ _ (@aI _ _ _ _ _ _ _ _ dQ (@aI _ _ _ _ _ _ _ _ lB aB (pv 1)) aB) aD (by rfl)) (by rfl)) (by rfl) (by decide) (by rfl) (by rfl)) (by rfl) (by trivial)) (@aG _ _ _ _ _ (@aV _ _ (5) _ _ _ _ fK.nd rfl (Or.inl rfl) (@aI _ _ _ _ _ _ _ _ bU (pv 3) (@aP _ _ _ _ _ _ _ _ _ (@bA _ (K) rfl) rfl T.n_len bD (@aA _ _ _ _ _ (pv 2) aD (by rfl)) (by decide) (by decide) (by rfl) (by rfl))) (by rfl) (by trivial)) (@aG _ _ _ _ _ (@aV _ _ (6) _ _ _ _ fK.nd rfl (Or.inl rfl) (@aI _ _ _ _ _ _ _ _ bU (@aI _ _ _ _ _ _ _ _ dQ (@aI _ _ _ _ _ _ _ _ dQ (pv 5) aB) (@aI _ _ _ _ _ _ _ _ bU (@aI _ _ _ _ _ _ _ _ bX (pv 3) aB) (@aI _ _ _ _ _ _ _ _ iO (@aP _ _ _ _ _ _ _ _ _ (@bA _ (K) rfl) rfl T.n_len bD (@aA _ _ _ _ _ (pv 2) aD (by rfl)) (by decide) (by decide) (by rfl) (by rfl)) aB))) (@aP _ _ _ _ _ _ _ _ _ (@bA _ (K) rfl) rfl T.n_len bD (@aA _ _ _ _ _ (pv 2) aD (by rfl)) (by decide) (by decide) (by rfl) (by rfl))) (by rfl) (by trivial)) (@aG _ _ _ _ _ (@aV _ _ (7) _ _ _ _ fK.nd rfl (Or.inl rfl) (@bR _ _ _ _ _ _ _ _ _ _ G_l_height (hr.mono (by decide)) (@aA _ _ _ _ _ (@aI _ _ _ _ _ _ _ _ bX (pv 3) aB) aD (by rfl)) (by rfl) (by decide) (by rfl) (by rfl)) (by rfl) (by trivial)) (@aG _ _ _ _ _ (@aV _ _ (8) _ _ _ _ fK.nd rfl (Or.inl rfl) dO (by rfl) (by trivial)) (@aG _ _ _ _ _ (@bQ _ _ _ _ _ _ _ _ (@PW.pt _ _ _ (@iN _ _ _ _ _ _ _ (@aQ _ _ _ _ _ _ _ _ dL (@aI _ _ _ _ _ _ _ _ bU (pv 4) aB) aB (@aS _ _ (by decide) (by decide))) (@jY _ _ _ _ (@aQ _ _ _ _ _ _ _ _ aBE (pv 7) (@aI _ _ _ _ _ _ _ _ iO aB (@aI _ _ _ _ _ _ _ _ iZ aB aB)) (@aS _ _ (by decide) (by decide)))))) (@aH _ _ _ (@aV _ _ (8) _ _ _ _ fK.nd rfl (Or.inl rfl) (@aP _ _ _ _ _ _ _ _ _ (@vO _ rfl) rfl T.n_max vP (@aA _ _ _ _ _ (@aI _ _ _ _ _ _ _ _ iO aB (@aI _ _ _ _ _ _ _ _ iZ aB aB)) (@aA _ _ _ _ _ (@aI _ _ _ _ _ _ _ _ iO (@aI _ _ _ _ _ _ _ _ iO (pv 7) aB) (@bR _ _ _ _ _ _ _ _ _ _ G_l_count (hr.mono (by decide)) (@aA _ _ _ _ _ (@aI _ _ _ _ _ _ _ _ bX (pv 4) aB) aD (by rfl)) (by rfl) (by decide) (by rfl) (by rfl))) aD (by rfl)) (by rfl)) (by decide) (by decide) (by rfl) (by rfl)) (by rfl) (by trivial))) aX) (@aH _ _ _ (@aM _ _ _ _ (@mY _ _ _ _ _ (@aA _ _ _ _ _ (@bR _ _ _ _ _ _ _ _ _ _ G_l_name (hr.mono (by decide)) (@aA _ _ _ _ _ (@bR _ _ _ _ _ _ _ _ _ _ G_l_cell_at (hr.mono (by decide)) (@aA _ _ _ _ _ (pv 0) (@aA _ _ _ _ _ aB aD (by rfl)) (by rfl)) (by rfl) (by decide) (by rfl) (by rfl)) (@aA _ _ _ _ _ (pv 1) aD (by rfl)) (by rfl)) (by rfl) (by decide) (by rfl) (by rfl)) (@aA _ _ _ _ _ (@bI _ _ _ _ _ _ _ (@aZ _ (K) rfl) (pv 2) (pv 5) (fun _ _=>rfl)) (@aA _ _ _ _ _ (@bI _ _ _ _ _ _ _ (@aZ _ (K) rfl) (pv 2) (pv 6) (fun _ _=>rfl)) (@aA _ _ _ _ _ (pv 7) (@aA _ _ _ _ _ (@bR _ _ _ _ _ _ _ _ _ _ G_l_count (hr.mono (by decide)) (@aA _ _ _ _ _ (@aI _ _ _ _ _ _ _ _ bX (pv 4) aB) aD (by rfl)) (by rfl) (by decide) (by rfl) (by rfl)) (@aA _ _ _ _ _ (pv 8) aD (by rfl)) (by rfl)) (by rfl)) (by rfl)) (by rfl)) (by rfl)))))))))))),?_⟩
 have hL:((zs.map V.str).length:Int) = (zs.length:Int):=by rw [List.length_map]
 refine ⟨_,rfl,_,rfl,_,_,rfl,rfl,_,_,rfl,a,ns,3 + (k:Int),rfl,rfl,hS,hl,by omega,_,rfl,_,_,rfl,rfl,.inl ⟨by omega,by omega⟩,?_⟩
 refine ⟨_,_,rfl,_,16 * (k:Int),rfl,rfl,by omega,by omega,fun n n0 n1=>?_⟩
 refine ⟨_,rfl,_,rfl,_,_,rfl,rfl,_,_,rfl,a,ns,3 + (k:Int),rfl,rfl,hS,hl,by omega,_,rfl,_,_,rfl,rfl,.inl ⟨by omega,by omega⟩,_,_,rfl,rfl,?_⟩
 refine ⟨_,_,rfl,_,16 * (k:Int) + 1,rfl,rfl,by omega,by omega,fun m m0 m1=>?_⟩
 generalize hone:n % (zs.length:Int) = one
 generalize hoth:(one + 1 + n / 13 % ((zs.length:Int) - 1)) % (zs.length:Int) = oth
 have one0:0 ≤ one:=by rw [← hone];exact Int.emod_nonneg _ (by omega)
 have one1:one < zs.length:=by rw [← hone];exact Int.emod_lt_of_pos _ (by omega)
 obtain ⟨oth0,oth1,hne⟩:=aCD (by omega) one0 one1 rfl hoth.symm
 refine ⟨_,rfl,_,rfl,l,_,rfl,.inl (SqL.of hz),_,_,rfl,rfl,(by rw [hL];omega),?_⟩
 dsimp only
 rw [hL,hone]
 refine ⟨_,rfl,_,_,rfl,rfl,_,rfl,_,_,rfl,rfl,⟨by decide,by decide⟩,_,rfl,l,_,rfl,.inl (SqL.of hz),_,_,rfl,rfl,_,_,rfl,rfl,(by rw [hL];omega),_,_,rfl,rfl,_,rfl,l,_,rfl,.inl (SqL.of hz),_,_,rfl,rfl,(by rw [hL];omega),?_⟩
 dsimp only
 rw [hL,hoth]
 refine ⟨_,rfl,_,_,rfl,rfl,⟨by decide,by decide⟩,_,rfl,_,rfl,fun cr cr0 cr1=>?_⟩
 obtain ⟨zo,ezo⟩:∃ z,zs[one.toNat]? = some z:=⟨_,List.getElem?_eq_getElem (by omega)⟩
 obtain ⟨zt,ezt⟩:∃ z,zs[oth.toNat]? = some z:=⟨_,List.getElem?_eq_getElem (by omega)⟩
 have nzz:zo ≠ zt:=aKZ zn ezo ezt (by omega)
 have aO:atI (zs.map V.str) one = some (.str zo):=by
  obtain ⟨j,rfl⟩:=Int.eq_ofNat_of_zero_le one0
  exact bC (by rw [List.getElem?_map,show zs[j]? = some zo from ezo];rfl)
 have aT:atI (zs.map V.str) oth = some (.str zt):=by
  obtain ⟨j,rfl⟩:=Int.eq_ofNat_of_zero_le oth0
  exact bC (by rw [List.getElem?_map,show zs[j]? = some zt from ezt];rfl)
 have p6':(0:Int) - 10 ^ (6:Int).toNat = -1000000:=by decide
 refine ⟨_,rfl,_,_,rfl,rfl,(hX rfl),rfl,_,rfl,?_⟩
 show (if decide (V.int (m % 2) = V.int 0) = true then _ else _)
 refine dR (fun h1=>?_) (fun h1=>?_)
 ·refine ⟨_,rfl,_,_,rfl,rfl,⟨by decide,by decide,by decide⟩,_,_,rfl,rfl,_,_,rfl,rfl,_,rfl,?_⟩
  refine dR (fun h2=>?_) (fun h2=>?_)
  ·have h2:=of_decide_eq_true h2
   rw [p6'] at h2
   refine ⟨_,_,rfl,rfl,⟨by decide,by decide,by decide⟩,_,_,rfl,rfl,_,rfl,_,_,rfl,rfl,_,rfl,_,_,rfl,rfl,⟨by decide,by decide⟩,_,rfl,_,rfl,fun u u0 u1=>?_⟩
   refine ⟨_,_,rfl,rfl,_,_,rfl,?_⟩
   dsimp only
   rw [p6']
   generalize hsv:(if cr - 1 - u > -1000000 then cr - 1 - u else -1000000) = sv
   have sv0:-1000000 ≤ sv ∧ sv < cr:=by rw [← hsv];split <;> omega
   refine ⟨_,rfl,_,_,rfl,a,ns,2,rfl,rfl,hS,hl,by decide,_,rfl,_,_,rfl,_,k,rfl,rfl,hk,fun H3 S3=>?_⟩
   refine ⟨_,rfl,_,rfl,l,_,_,_,rfl,rfl,SqL.of (S3 _ _ hz),aO,_,rfl,_,rfl,l,_,_,_,rfl,rfl,SqL.of (S3 _ _ hz),aT,?_⟩
   refine ⟨_,rfl,_,rfl,_,_,rfl,rfl,⟨by decide,by decide⟩,_,rfl,_,rfl,fun r r0 r1=>?_⟩
   refine ⟨_,rfl,aY rfl,fun t ht=>?_⟩
   exact q (.tup [.str (jO (ns.getD 2 0) k),.str zo,.str zt,.int cr,.int r,.int sv]) (.ref t) _ (S3.trans (aJ.upd ht)) ⟨t,_,rfl,aF,_,_,rfl,rfl,_,_,rfl,rfl,_,_,rfl,rfl,_,_,rfl,rfl,_,_,rfl,rfl,_,_,rfl,rfl,rfl⟩ (qY (mG _ _) (List.mem_of_getElem? ezo) (List.mem_of_getElem? ezt) nzz (wW cr0 cr1) (aAL r0 r1) ((by show (hgt sv && decide (sv < cr)) = true;rw [wW sv0.1 (by omega),decide_eq_true sv0.2];rfl))) rfl
  ·refine ⟨_,rfl,_,_,rfl,a,ns,2,rfl,rfl,hS,hl,by decide,_,rfl,_,_,rfl,_,k,rfl,rfl,hk,fun H3 S3=>?_⟩
   refine ⟨_,rfl,_,rfl,l,_,_,_,rfl,rfl,SqL.of (S3 _ _ hz),aO,_,rfl,_,rfl,l,_,_,_,rfl,rfl,SqL.of (S3 _ _ hz),aT,?_⟩
   refine ⟨_,rfl,_,rfl,_,_,rfl,rfl,⟨by decide,by decide⟩,_,rfl,_,rfl,fun r r0 r1=>?_⟩
   refine ⟨_,rfl,aY rfl,fun t ht=>?_⟩
   exact q (.tup [.str (jO (ns.getD 2 0) k),.str zo,.str zt,.int cr,.int r,.non]) (.ref t) _ (S3.trans (aJ.upd ht)) ⟨t,_,rfl,aF,_,_,rfl,rfl,_,_,rfl,rfl,_,_,rfl,rfl,_,_,rfl,rfl,_,_,rfl,rfl,_,_,rfl,rfl,rfl⟩ (qY (mG _ _) (List.mem_of_getElem? ezo) (List.mem_of_getElem? ezt) nzz (wW cr0 cr1) (aAL r0 r1) (rfl)) rfl
 ·refine bN ?_
  refine ⟨_,rfl,_,_,rfl,a,ns,2,rfl,rfl,hS,hl,by decide,_,rfl,_,_,rfl,_,k,rfl,rfl,hk,fun H3 S3=>?_⟩
  refine ⟨_,rfl,_,rfl,l,_,_,_,rfl,rfl,SqL.of (S3 _ _ hz),aO,_,rfl,_,rfl,l,_,_,_,rfl,rfl,SqL.of (S3 _ _ hz),aT,?_⟩
  refine ⟨_,rfl,_,rfl,_,_,rfl,rfl,⟨by decide,by decide⟩,_,rfl,_,rfl,fun r r0 r1=>?_⟩
  refine ⟨_,rfl,aY rfl,fun t ht=>?_⟩
  exact q (.tup [.str (jO (ns.getD 2 0) k),.str zo,.str zt,.int cr,.int r,.non]) (.ref t) _ (S3.trans (aJ.upd ht)) ⟨t,_,rfl,aF,_,_,rfl,rfl,_,_,rfl,rfl,_,_,rfl,rfl,_,_,rfl,rfl,_,_,rfl,rfl,_,_,rfl,rfl,rfl⟩ (qY (mG _ _) (List.mem_of_getElem? ezo) (List.mem_of_getElem? ezt) nzz (wW cr0 cr1) (aAL r0 r1) (rfl)) rfl
def aIE (K:PySem.W.Frag):Sp:=sp3 fun x y z H Q=>∃ (fs:List Dv) (vs:List V) (lf:Addr),Scr K H x ∧ y = .ref lf ∧ z = .int 12 ∧ H lf = some (.lst vs) ∧ IsL H fs vs ∧ Fds fs 12 ∧
 ∀ (ds:List Dv) (us:List V) (l:Addr) (H':Hp),Dks ("sea" :: fs.map bH) ds 12 → aJ H H' → H l = none → H' l = some (.lst us) → IsL H' ds us → Q (.ref l) H'
theorem zR (T:Txt K mg C):Fc P w K mg base 3 "_law_dykes" ["_law_script","_law_fields_here","_law_most"] (aIE K):=by
 have G_l_dyke:Fc P w K mg base 2 "_law_dyke" ["_law_script","_law_k","_law_sides"] (aKM K):=aCL T
 refine T.d_l_dykes.fc mW zW (fun f cdv A outer s H vs Q E hr h=>?_)
 obtain ⟨x,y,z,rfl,fs,us,lf,hS,rfl,rfl,hlf,hif,F,q⟩:=h
 have big:=cJ
 refine ⟨_,(@aG _ _ _ _ _ (@aV _ _ (3) _ _ _ _ mW.nd rfl (Or.inr rfl) (@aI _ _ _ _ _ _ _ _ eG (@dP _ _ _ _ (@aA _ _ _ _ _ aN aD (by rfl))) (@dA _ _ _ _ _ _ _ _ _ _ _ ["_law_field"] 1 [] rfl (@cO _ (K) _ _ _ rfl (@cP _ _ _ _ (pv 1))) (fun R=>@bE _ _ (0) _ (show List.Nodup (["_law_field"]:List Str) by decide +kernel) rfl (Or.inl rfl) (by trivial)) (@bG _ _ (by decide)) (fun R=>cA) (fun R=>(@bI _ _ _ _ _ _ _ (@dB _ (K) rfl) (pv 0) aB (fun _ _=>rfl))) (by rfl) (by rfl) (by rfl) (by rfl) (by rfl) (by rfl) (by rfl) (by intro _;rfl))) (by rfl) (by trivial)) (@aG _ _ _ _ _ (@aV _ _ (4) _ _ _ _ mW.nd rfl (Or.inl rfl) (@aP _ _ _ _ _ _ _ _ _ (@vO _ rfl) rfl T.n_max vP (@aA _ _ _ _ _ aB (@aA _ _ _ _ _ (@aP _ _ _ _ _ _ _ _ _ (@aDH _ rfl) rfl T.n_min aDJ (@aA _ _ _ _ _ (pv 2) (@aA _ _ _ _ _ (@aI _ _ _ _ _ _ _ _ iO (@aP _ _ _ _ _ _ _ _ _ (@bA _ (K) rfl) rfl T.n_len bD (@aA _ _ _ _ _ (pv 0) aD (by rfl)) (by decide) (by decide) (by rfl) (by rfl)) aB) aD (by rfl)) (by rfl)) (by decide) (by decide) (by rfl) (by rfl)) aD (by rfl)) (by rfl)) (by decide) (by decide) (by rfl) (by rfl)) (by rfl) (by trivial)) (@aH _ _ _ (@aM _ _ _ _ (@dA _ _ _ _ _ _ _ _ _ _ _ ["_law_k","_law_script","_law_sides"] 1 [0,3] rfl (@jM _ _ _ _ _ _ rfl T.n_range (@aA _ _ _ _ _ (pv 4) aD (by rfl)) (by rfl)) (fun R=>@bE _ _ (0) _ (show List.Nodup (["_law_k","_law_script","_law_sides"]:List Str) by decide +kernel) rfl (Or.inl rfl) (by trivial)) (@bG _ _ (by decide)) (fun R=>cA) (fun R=>(@bR _ _ _ _ _ _ _ _ _ _ G_l_dyke (hr.mono (by decide)) (@aA _ _ _ _ _ (pv 1) (@aA _ _ _ _ _ (pv 0) (@aA _ _ _ _ _ (pv 2) aD (by rfl)) (by rfl)) (by rfl)) (by rfl) (by decide) (by rfl) (by rfl))) (by rfl) (by rfl) (by rfl) (by rfl) (by rfl) (by rfl) (by rfl) (by intro _;rfl)))))),?_⟩
 obtain ⟨a,ns,rfl,hSc,hl⟩:=hS
 have lu:=hif.length
 have f2:=F.l2
 have f1:=F.l1
 refine ⟨aY rfl,fun p0 hp0=>?_⟩
 have S0:=aJ.upd (o:=.lst [.str "sea"]) hp0
 have r0:upd H p0 (.lst [.str "sea"]) p0 = _:=aF
 generalize upd H p0 (.lst [.str "sea"]) = H1 at S0 r0
 refine ⟨_,rfl,lf,rfl,⟨_,SqL.of (S0 _ _ hlf)⟩,?_⟩
 refine cF (F:=K) (xs:=us) (by omega) (fun i ys H'=>H' = H1 ∧ ys = ((fs.take i).map bH).map V.str) ⟨rfl,rfl⟩ ?_ ?_ ?_
 ·rintro i ys H' hi ⟨rfl,rfl⟩
  exact ⟨SqL.of (S0 _ _ hlf),by rw [List.length_map,List.length_map,List.length_take];omega⟩
 ·rintro i xv ys H' K1 K2 hx' ⟨rfl,rfl⟩ k1 k2
  have hil:i < us.length:=(List.getElem?_eq_some_iff.mp hx').1
  obtain ⟨d,ed⟩:∃ d,fs[i]? = some d:=⟨_,List.getElem?_eq_getElem (by omega)⟩
  obtain ⟨v,ev,iv⟩:=hif.get ed
  rw [hx'] at ev
  cases ev
  obtain ⟨z,g,u,rfl,hz,hg,hu'⟩:=bF (F.all d (List.mem_of_getElem? ed))
  obtain ⟨t,rfl,o⟩:=field_row iv
  refine ⟨_,rfl,t,_,0,.str z,rfl,rfl,SqT.of (S0 _ _ o),rfl,k1 _ _ ⟨rfl,?_⟩⟩
  rw [List.take_add_one,ed,List.map_append,List.map_append]
  rfl
 rintro ys H2 ⟨rfl,rfl⟩
 rw [List.take_of_length_le (by omega)]
 intro p1 hp1
 have S1:=aJ.upd (o:=.lst ((fs.map bH).map V.str)) hp1
 have r1:upd H2 p1 (.lst ((fs.map bH).map V.str)) p1 = _:=aF
 generalize upd H2 p1 (.lst ((fs.map bH).map V.str)) = H3 at S1 r1
 refine ⟨p0,p1,_,_,rfl,rfl,S1 _ _ r0,r1,by rw [List.length_map,List.length_map];show 1 + _ ≤ _;omega,fun p2 hp2=>?_⟩
 have S2:=aJ.upd (o:=.lst ([.str "sea"] ++ (fs.map bH).map V.str)) hp2
 have r2:upd H3 p2 (.lst ([.str "sea"] ++ (fs.map bH).map V.str)) p2 = some (.lst (("sea" :: fs.map bH:List Str).map V.str)):=aF
 generalize upd H3 p2 (.lst ([.str "sea"] ++ (fs.map bH).map V.str)) = H4 at S2 r2
 have T4:=S0.trans (S1.trans S2)
 have zl:("sea" :: fs.map bH:List Str).length = fs.length + 1:=by rw [List.length_cons,List.length_map]
 refine ⟨_,rfl,_,rfl,a,_,rfl,.inl (T4.seq hSc),_,_,rfl,rfl,_,_,rfl,_,_,rfl,?_⟩
 dsimp only
 rw [List.length_map]
 generalize hM:(if (if (ns.length:Int) - 3 < 12 then (ns.length:Int) - 3 else 12) > 1 then (if (ns.length:Int) - 3 < 12 then (ns.length:Int) - 3 else 12) else 1) = M
 have m0:1 ≤ M ∧ M ≤ 12:=by
  rw [← hM]
  split <;> split <;> omega
 obtain ⟨m,rfl⟩:=Int.eq_ofNat_of_zero_le (show 0 ≤ M by omega)
 refine ⟨_,rfl,_,rfl,by omega,by omega,?_⟩
 rw [Int.toNat_natCast]
 refine nL (lo:=0) (n:=m) (by omega) (fun i ys H'=>aJ H4 H' ∧ ∃ ds:List Dv,IsL H' ds ys ∧ ds.map bH = (List.range i).map (jO (ns.getD 2 0)) ∧ ∀ d ∈ ds,cE ("sea" :: fs.map bH) d = true) ⟨aJ.refl _,[],rfl,rfl,fun d m=>by cases m⟩ ?_ ?_ ?_
 ·rintro i ys H' ⟨S',ds,id,en,ad⟩
  have:=congrArg List.length en
  rw [List.length_map,List.length_map,List.length_range] at this
  have:=id.length
  omega
 ·rintro i ys H' K1 K2 hi ⟨S',ds,id,en,ad⟩ k1 k2
  refine ⟨_,rfl,_,rfl,_,rfl,_,_,_,rfl,a,p2,ns,i,("sea" :: fs.map bH),rfl,by rw [Int.zero_add],rfl,(T4.trans S').seq hSc,hl,by omega,S' _ _ r2,by omega,by omega,aED F,fun d v H5 S5 iv okd nd=>k1 _ _ ⟨S'.trans S5,ds ++ [d],IsL.snoc iv (IsL.same S5 _ _ id),?_,?_⟩⟩
  ·rw [List.map_append,en,List.range_succ,List.map_append]
   show _ ++ [bH d] = _ ++ [jO _ i]
   rw [nd]
  ·intro e m
   rcases List.mem_append.mp m with m | m
   ·exact ad e m
   ·rw [List.mem_singleton.mp m]
    exact okd
 rintro ys H5 ⟨S5,ds,id,en,ad⟩
 have ld:=congrArg List.length en
 rw [List.length_map,List.length_map,List.length_range] at ld
 intro p5 hp5
 have S6:=aJ.upd (o:=.lst ys) hp5
 exact q ds ys p5 _ ⟨by omega,by omega,ad,by rw [en];exact aBF _ (by omega)⟩ (T4.trans (S5.trans S6)) ((T4.trans S5).free hp5) aF (IsL.same S6 _ _ id)
open Mt13 Mt11 Mt02
theorem str_ext {a b:Str} (h:a.cps.toList = b.cps.toList):a = b:=by
 cases a;cases b
 congr 1
 exact Array.toList_inj.mp h
theorem aGD (a b:Str):(a ++ b).cps.toList = a.cps.toList ++ b.cps.toList:=by
 show (a.cps ++ b.cps).toList = _
 rw [Array.toList_append]
theorem aEI (ws:List Str):(fL ws).cps.toList = cj 32 (ws.map fun p=>p.cps.toList):=by
 unfold fL Txt.join
 rw [StrLaws.glued_eq_join,lV]
 exact mI 32 ws
theorem aHG:("field ":Str).cps.toList = ("field":Str).cps.toList ++ [32]:=by decide +kernel
theorem aHH:(" ":Str).cps.toList = [32]:=by decide +kernel
theorem aKP (z g u:Str):("field ":Str) ++ z ++ " " ++ g ++ " " ++ u = fL ["field",z,g,u]:=by
 refine str_ext ?_
 simp only [aEI,aGD,aHG,aHH,List.map_cons,List.map_nil,cj,List.append_assoc,List.cons_append,List.nil_append]
theorem oK:("field ":Str).length = 6:=by decide +kernel
theorem hZ:(" ":Str).length = 1:=by decide +kernel
theorem sW {H:Hp} {a:Addr} {xs:List V} {o:HO} {ds:List Dv} {vs:List V} (hh:sZ ds = true) (h:IsL H ds vs) (e:H a = some (.lst xs)):IsL (upd H a o) ds vs :=
 IsL.keep (fun b ys hb=>by rw [aR (fun c=>by rw [c,e] at hb;cases hb)];exact hb) ds vs hh h
theorem tI {zs:List Str} {ds:List Dv} {n:Nat} (g:Dks zs ds n):sZ ds = true:=sY fun d m=>aDA (g.all d m)
def aAY (K:PySem.W.Frag):Sp:=sp1 fun x H Q=>Scr K H x ∧ ∀ (fs ds:List Dv) (l:Addr) (H':Hp),Fds fs 12 → Dks ("sea" :: fs.map bH) ds 12 → aJ H H' → H l = none → H' l = some (.lst ((fs.map cM ++ ds.map dX).map V.str)) → Q (.ref l) H'
theorem zQ (T:Txt K mg C):Fc P w K mg base 4 "_law_lines" ["_law_script"] (aAY K):=by
 have G_l_fields:Fc P w K mg base 2 "_law_fields" ["_law_script"] (aID K):=yD T
 have G_l_dykes:Fc P w K mg base 3 "_law_dykes" ["_law_script","_law_fields_here","_law_most"] (aIE K):=zR T
 refine T.d_l_lines.fc dF iB (fun f cdv A outer s H vs Q E hr h=>?_)
 obtain ⟨x,rfl,scr,q⟩:=h
 have big:=cJ
 refine ⟨_,(@aG _ _ _ _ _ (@aV _ _ (1) _ _ _ _ dF.nd rfl (Or.inl rfl) (@bR _ _ _ _ _ _ _ _ _ _ G_l_fields (hr.mono (by decide)) (@aA _ _ _ _ _ (pv 0) aD (by rfl)) (by rfl) (by decide) (by rfl) (by rfl)) (by rfl) (by trivial)) (@aG _ _ _ _ _ (@gG _ (2) _ _ _ _ _ _ _ _ _ _ _ _ _ dF.nd rfl ["_law_name_here","_law_ground","_law_dues"] 3 [] rfl (@cO _ (K) _ _ _ rfl (@cP _ _ _ _ (pv 1))) (fun R=>@aGW _ _ _ _ _ (3) (K) rfl rfl (@fY _ _ _ _ _ (@bE _ _ (0) _ (show List.Nodup (["_law_name_here","_law_ground","_law_dues"]:List Str) by decide +kernel) rfl (Or.inl rfl) (by trivial)) (@fY _ _ _ _ _ (@bE _ _ (1) _ (show List.Nodup (["_law_name_here","_law_ground","_law_dues"]:List Str) by decide +kernel) rfl (Or.inl rfl) (by trivial)) (@fY _ _ _ _ _ (@bE _ _ (2) _ (show List.Nodup (["_law_name_here","_law_ground","_law_dues"]:List Str) by decide +kernel) rfl (Or.inl rfl) (by trivial)) aBC (by rfl)) (by rfl)) (by rfl)) (by rfl) (by rfl)) (@aCU _ _ _ _ (@lQ _ _ _ (by decide) (@lQ _ _ _ (by decide) (@lQ _ _ _ (by decide) aAA)))) (fun R=>cA) (fun R=>(@aI _ _ _ _ _ _ _ _ bV (@aI _ _ _ _ _ _ _ _ bV (@aI _ _ _ _ _ _ _ _ bV (@aI _ _ _ _ _ _ _ _ bV (@aI _ _ _ _ _ _ _ _ bV aN (pv 0)) aN) (@bS _ _ _ _ _ _ _ _ _ eT rfl T.n_str dU (@aA _ _ _ _ _ (pv 1) aD (by rfl)) (by decide) (by decide) (by rfl) (by rfl))) aN) (@bS _ _ _ _ _ _ _ _ _ eT rfl T.n_str dU (@aA _ _ _ _ _ (pv 2) aD (by rfl)) (by decide) (by decide) (by rfl) (by rfl)))) (by exact Or.inl rfl) (by trivial) (by rfl) (by rfl) (by rfl) (by rfl) (by rfl) (by rfl) (by rfl) (by rfl) (by intro _;rfl)) (@aG _ _ _ _ _ (@mX _ _ _ _ _ _ _ _ PassesOwn.never rfl (@cO _ (K) _ _ _ rfl (@cP _ _ _ _ (@bR _ _ _ _ _ _ _ _ _ _ G_l_dykes (hr.mono (by decide)) (@aA _ _ _ _ _ (pv 0) (@aA _ _ _ _ _ (pv 1) (@aA _ _ _ _ _ aB aD (by rfl)) (by rfl)) (by rfl)) (by rfl) (by decide) (by rfl) (by rfl)))) (@aIZ _ (K) _ _ _ _ _ rfl 6 rfl (@aEO _ _ _ _ _ _ rfl (@fY _ _ _ _ _ (@bE _ _ (3) _ dF.nd rfl (Or.inl rfl) (by trivial)) (@fY _ _ _ _ _ (@bE _ _ (4) _ dF.nd rfl (Or.inl rfl) (by trivial)) (@fY _ _ _ _ _ (@bE _ _ (5) _ dF.nd rfl (Or.inl rfl) (by trivial)) (@fY _ _ _ _ _ (@bE _ _ (6) _ dF.nd rfl (Or.inl rfl) (by trivial)) (@fY _ _ _ _ _ (@bE _ _ (7) _ dF.nd rfl (Or.inl rfl) (by trivial)) (@fY _ _ _ _ _ (@bE _ _ (8) _ dF.nd rfl (Or.inl rfl) (by trivial)) aBC (by rfl)) (by rfl)) (by rfl)) (by rfl)) (by rfl)) (by rfl)) (by rfl) (by rfl))) (@aG _ _ _ _ _ (@aV _ _ (9) _ _ _ _ dF.nd rfl (Or.inl rfl) (@dP _ _ _ _ (@aA _ _ _ _ _ aN (@aA _ _ _ _ _ (pv 3) (@aA _ _ _ _ _ (pv 4) (@aA _ _ _ _ _ (pv 5) (@aA _ _ _ _ _ (@bS _ _ _ _ _ _ _ _ _ eT rfl T.n_str dU (@aA _ _ _ _ _ (pv 6) aD (by rfl)) (by decide) (by decide) (by rfl) (by rfl)) (@aA _ _ _ _ _ (@bS _ _ _ _ _ _ _ _ _ eT rfl T.n_str dU (@aA _ _ _ _ _ (pv 7) aD (by rfl)) (by decide) (by decide) (by rfl) (by rfl)) aD (by rfl)) (by rfl)) (by rfl)) (by rfl)) (by rfl)) (by rfl))) (by rfl) (by trivial)) (@aG _ _ _ _ _ (@bQ _ _ _ _ _ _ _ _ (@aQ _ _ _ _ _ _ _ _ qT (pv 8) dO (@aS _ _ (by decide) (by decide))) (@aH _ _ _ (@jZ _ _ _ _ (@sE _ (K) _ _ _ _ _ rfl (@dJ _ _ _ _ _ _ _ _ _ _ _ _ PySem.F.plainAttrs_list PySem.F.slot_list_append PySem.F.type_list_append jP (pv 9) (@aA _ _ _ _ _ (@bS _ _ _ _ _ _ _ _ _ xB rfl T.n_str dU (@aA _ _ _ _ _ (pv 8) aD (by rfl)) (by decide) (by decide) (by rfl) (by rfl)) aD (by rfl)) (by rfl) (by rfl) (by rfl) (by rfl) (by rfl))) (by rfl))) aX) (@aH _ _ _ (@jZ _ _ _ _ (@sE _ (K) _ _ _ _ _ rfl (@dJ _ _ _ _ _ _ _ _ _ _ _ _ PySem.F.plainAttrs_list PySem.F.slot_list_append PySem.F.type_list_append jP (pv 2) (@aA _ _ _ _ _ (@dJ _ _ _ _ _ _ _ _ _ _ _ _ PySem.F.plainAttrs_str PySem.F.slot_str_join PySem.F.type_str_join eJ aN (@aA _ _ _ _ _ (pv 9) aD (by rfl)) (by rfl) (by rfl) (by rfl) (by rfl) (by rfl)) aD (by rfl)) (by rfl) (by rfl) (by rfl) (by rfl) (by rfl))) (by rfl))))) (by intro _;rfl)) (@aH _ _ _ (@aM _ _ _ _ (pv 2)))))),?_⟩
 refine ⟨_,rfl,_,rfl,scr,fun fs vf lf H1 gf S1 nlf hlf hif=>?_⟩
 have f2:=gf.l2
 have lvf:=hif.length
 refine ⟨_,rfl,lf,rfl,⟨_,SqL.of hlf⟩,?_⟩
 refine cF (F:=K) (xs:=vf) (by omega) (fun i ys H'=>H' = H1 ∧ ys = ((fs.take i).map cM).map V.str) ⟨rfl,rfl⟩ ?_ ?_ ?_
 ·rintro i ys H' hi ⟨rfl,rfl⟩
  exact ⟨SqL.of hlf,by rw [List.length_map,List.length_map,List.length_take];omega⟩
 ·rintro i xv ys H' K1 K2 hx' ⟨rfl,rfl⟩ k1 k2
  have hil:i < vf.length:=(List.getElem?_eq_some_iff.mp hx').1
  obtain ⟨d,ed⟩:∃ d,fs[i]? = some d:=⟨_,List.getElem?_eq_getElem (by omega)⟩
  obtain ⟨v,ev,iv⟩:=hif.get ed
  rw [hx'] at ev
  cases ev
  obtain ⟨z,g,u,rfl,hz,hg,hu'⟩:=bF (gf.all d (List.mem_of_getElem? ed))
  obtain ⟨t,rfl,o⟩:=field_row iv
  have z8:=kL hz
  have g8:=cU (cH hg)
  have u8:=cU (dZ hu')
  unfold toS at g8 u8
  have et:((fs.take (i + 1)).map cM).map V.str = ((fs.take i).map cM).map V.str ++ [V.str (cM (.tup [.str z,.int g,.int u]))]:=by rw [List.take_add_one,ed,List.map_append,List.map_append];rfl
  have er:cM (.tup [.str z,.int g,.int u]) = ("field ":Str) ++ z ++ " " ++ toS g ++ " " ++ toS u:=(aKP _ _ _).symm
  refine ⟨t,_,rfl,SqT.of o,rfl,_,_,rfl,_,_,rfl,_,_,rfl,rfl,?_⟩
  refine ⟨_,rfl,_,_,rfl,rfl,(by simp only [Str.length_append,oK,hZ];omega),_,_,rfl,rfl,(by simp only [Str.length_append,oK,hZ];omega),?_⟩
  refine ⟨_,rfl,_,rfl,gI (cH hg),_,_,rfl,rfl,(by simp only [Str.length_append,oK,hZ];omega),_,_,rfl,rfl,(by simp only [Str.length_append,oK,hZ];omega),?_⟩
  refine ⟨_,rfl,_,rfl,gI (dZ hu'),_,_,rfl,rfl,(by simp only [Str.length_append,oK,hZ];omega),k1 _ _ ⟨rfl,?_⟩⟩
  rw [et,er]
  rfl
 rintro ys H2 ⟨rfl,rfl⟩
 rw [List.take_of_length_le (by omega)]
 intro l hl
 have A2:=aJ.upd (o:=.lst ((fs.map cM).map V.str)) hl
 have hl0:H l = none:=S1.free hl
 have r2:upd H2 l (.lst ((fs.map cM).map V.str)) l = some (.lst ((fs.map cM).map V.str)):=aF
 have S2:=S1.trans A2
 have hlf2:=A2 _ _ hlf
 have hif2:=IsL.same A2 _ _ hif
 generalize upd H2 l (.lst ((fs.map cM).map V.str)) = H3 at A2 r2 S2 hlf2 hif2
 refine ⟨_,rfl,_,rfl,_,_,_,rfl,fs,vf,lf,scr.same S2,rfl,rfl,hlf2,hif2,gf,fun ds vd ld H4 gd S4 nld hld hid=>?_⟩
 have d2:=gd.l2
 have lvd:=hid.length
 have nl:l ≠ ld:=fun e=>by rw [← e,r2] at nld;cases nld
 have r4:=S4 _ _ r2
 have S4':=S2.trans S4
 have side:∀ y ∈ ("sea" :: fs.map bH:List Str),y.length ≤ 8:=fun y my=>by
  rcases List.mem_cons.mp my with rfl | my
  ·decide +kernel
  ·obtain ⟨d,md,rfl⟩:=List.mem_map.mp my
   obtain ⟨z,g,u,rfl,hz,_⟩:=bF (gf.all d md)
   exact kL hz
 refine ⟨ld,rfl,⟨_,SqL.of hld⟩,tD (K:=K) (a:=ld) (xs:=vd) (fun i σ H'=>∃ v3 v4 v5 v6 v7 v8 v9,σ = [some x,some (.ref lf),some (.ref l),v3,v4,v5,v6,v7,v8,v9] ∧ aJ H H' ∧ H' ld = some (.lst vd) ∧ IsL H' ds vd ∧ H' l = some (.lst ((fs.map cM ++ (ds.take i).map dX).map V.str)))
  ⟨_,_,_,_,_,_,_,rfl,S4',hld,hid,by rw [List.take_zero,List.map_nil,List.append_nil];exact r4⟩ (fun i σ H' _ ⟨_,_,_,_,_,_,_,_,_,e,_⟩=>SqL.of e) ?_ ?_⟩
 ·rintro i xv σ H5 hx ⟨v3,v4,v5,v6,v7,v8,v9,rfl,S5,hld5,hid5,hl5⟩
  have hil:i < vd.length:=(List.getElem?_eq_some_iff.mp hx).1
  obtain ⟨d,ed⟩:∃ d,ds[i]? = some d:=⟨_,List.getElem?_eq_getElem (by omega)⟩
  obtain ⟨v,ev,iv⟩:=hid5.get ed
  rw [hx] at ev
  cases ev
  obtain ⟨n,a,b,c,r,sl,rfl,hn,ha,hb,hab,hc,hr',hs⟩:=dH (gd.all d (List.mem_of_getElem? ed))
  obtain ⟨t,sv,rfl,o,isv⟩:=dyke_row iv
  have n8:=kL hn
  have a8:=side a ha
  have b8:=side b hb
  have c8:=cU (cH hc)
  have r8:=cU (dZ hr')
  have et:(fs.map cM ++ (ds.take (i + 1)).map dX).map V.str = (fs.map cM ++ (ds.take i).map dX).map V.str ++ [V.str (dX (.tup [.str n,.str a,.str b,.int c,.int r,sl]))]:=by
   rw [List.take_add_one,ed]
   simp only [List.map_append,List.append_assoc]
   rfl
  have llen:((fs.map cM ++ (ds.take i).map dX).map V.str).length < sizeLine:=by
   rw [List.length_map,List.length_append,List.length_map,List.length_map,List.length_take]
   omega
  refine ⟨t,_,rfl,SqT.of o,rfl,_,_,rfl,_,_,rfl,_,_,rfl,_,_,rfl,_,_,rfl,_,_,rfl,rfl,?_⟩
  refine ⟨_,rfl,_,rfl,_,rfl,_,rfl,_,rfl,gI (cH hc),_,rfl,_,rfl,gI (dZ hr'),aY rfl,fun p hp=>?_⟩
  have B1:=aJ.upd (o:=.lst (([("dyke":Str),n,a,b,toS c,toS r]).map V.str)) hp
  have rp:upd H5 p (.lst (([("dyke":Str),n,a,b,toS c,toS r]).map V.str)) p = some (.lst (([("dyke":Str),n,a,b,toS c,toS r]).map V.str)):=aF
  have S6:=S5.trans B1
  have hl6:=B1 _ _ hl5
  have hld6:=B1 _ _ hld5
  have hid6:=IsL.same B1 _ _ hid5
  have nlp:l ≠ p:=aU hl5 hp
  have nldp:ld ≠ p:=aU hld5 hp
  have npH:H p = none:=S5.free hp
  cases sl with
  | non =>
   cases (show sv = .non from isv)
   refine ⟨_,rfl,rfl,_,rfl,bN ?_⟩
   have w8:∀ z ∈ [("dyke":Str),n,a,b,toS c,toS r],z.length ≤ 8:=fun y my=>by
    simp only [List.mem_cons,List.mem_nil_iff,or_false] at my
    rcases my with rfl | rfl | rfl | rfl | rfl | rfl
    ·decide +kernel
    ·exact n8
    ·exact a8
    ·exact b8
    ·exact c8
    ·exact r8
   have hsum:=kR w8
   have h6:([("dyke":Str),n,a,b,toS c,toS r]).length = 6:=rfl
   refine ⟨_,rfl,.inl ⟨rfl,_,SqL.of hl6⟩,rfl,_,rfl," ",p,_,rfl,rfl,SqL.of rp,(by rw [hZ];omega),l,_,_,rfl,rfl,hl6,llen,?_⟩
   have keep:∀ (y:Addr) (ob:HO),upd H5 p (.lst (([("dyke":Str),n,a,b,toS c,toS r]).map V.str)) y = some ob → y ≠ l → upd (upd H5 p (.lst (([("dyke":Str),n,a,b,toS c,toS r]).map V.str))) l (.lst ((fs.map cM ++ (ds.take i).map dX).map V.str ++ [V.str (fL [("dyke":Str),n,a,b,toS c,toS r])])) y = some ob:=fun y ob e ne=>by rw [aR ne];exact e
   refine ⟨_,_,_,_,_,_,_,rfl,S6.over hl0,keep _ _ hld6 (Ne.symm nl),?_,?_⟩
   ·exact sW (tI gd) hid6 hl6
   ·rw [aF,et]
    rfl
  | int s =>
   cases (show sv = .int s from isv)
   have hsg:=(Bool.and_eq_true_iff.mp (show (hgt s && decide (s < c)) = true from hs)).1
   have s8:=cU (cH hsg)
   refine ⟨_,rfl,rfl,_,rfl,cC ?_⟩
   have w8:∀ z ∈ [("dyke":Str),n,a,b,toS c,toS r] ++ [toS s],z.length ≤ 8:=fun y my=>by
    simp only [List.mem_append,List.mem_cons,List.mem_nil_iff,or_false] at my
    rcases my with (rfl | rfl | rfl | rfl | rfl | rfl) | rfl
    ·decide +kernel
    ·exact n8
    ·exact a8
    ·exact b8
    ·exact c8
    ·exact r8
    ·exact s8
   have hsum:=kR w8
   have h7:([("dyke":Str),n,a,b,toS c,toS r] ++ [toS s]).length = 7:=rfl
   refine ⟨_,rfl,.inl ⟨rfl,_,SqL.of rp⟩,_,rfl,.inl ⟨_,rfl,gI (cH hsg),p,_,_,rfl,rfl,rp,(by show 6 < sizeLine;omega),?_⟩⟩
   have ew:([("dyke":Str),n,a,b,toS c,toS r]).map V.str ++ [V.str (Str.ofString (toString s))] = ([("dyke":Str),n,a,b,toS c,toS r] ++ [toS s]).map V.str:=rfl
   rw [ew]
   have rp7:upd (upd H5 p (.lst (([("dyke":Str),n,a,b,toS c,toS r]).map V.str))) p (.lst (([("dyke":Str),n,a,b,toS c,toS r] ++ [toS s]).map V.str)) p = some (.lst (([("dyke":Str),n,a,b,toS c,toS r] ++ [toS s]).map V.str)):=aF
   have S7:=S6.over (o:=.lst (([("dyke":Str),n,a,b,toS c,toS r] ++ [toS s]).map V.str)) npH
   have hl7:upd (upd H5 p (.lst (([("dyke":Str),n,a,b,toS c,toS r]).map V.str))) p (.lst (([("dyke":Str),n,a,b,toS c,toS r] ++ [toS s]).map V.str)) l = some (.lst ((fs.map cM ++ (ds.take i).map dX).map V.str)):=by rw [aR nlp];exact hl6
   have hld7:upd (upd H5 p (.lst (([("dyke":Str),n,a,b,toS c,toS r]).map V.str))) p (.lst (([("dyke":Str),n,a,b,toS c,toS r] ++ [toS s]).map V.str)) ld = some (.lst vd):=by rw [aR nldp];exact hld6
   have hid7:=sW (o:=.lst (([("dyke":Str),n,a,b,toS c,toS r] ++ [toS s]).map V.str)) (tI gd) hid6 rp
   refine ⟨_,rfl,.inl ⟨rfl,_,SqL.of hl7⟩,rfl,_,rfl," ",p,_,rfl,rfl,SqL.of rp7,(by rw [hZ];omega),l,_,_,rfl,rfl,hl7,llen,?_⟩
   refine ⟨_,_,_,_,_,_,_,rfl,S7.over hl0,by rw [aR (Ne.symm nl)];exact hld7,sW (tI gd) hid7 hl7,?_⟩
   rw [aF,et]
   rfl
  | _=>cases hs
 ·rintro σ H5 ⟨v3,v4,v5,v6,v7,v8,v9,rfl,S5,hld5,hid5,hl5⟩
  rw [List.take_of_length_le (by omega)] at hl5
  exact ⟨_,rfl,q fs ds l H5 gf gd S5 hl0 hl5⟩
open Mt13 Mt11 Mt02
def gO (ys:List Str):Nat:=(ys.map fun y=>y.length).sum
theorem fI (y:Str) (ys:List Str):gO (y :: ys) = y.length + gO ys:=by unfold gO;rw [List.map_cons,List.sum_cons]
theorem xM (xs ys:List Str):gO (xs ++ ys) = gO xs + gO ys:=by unfold gO;rw [List.map_append,List.sum_append]
theorem xL:∀ (xs:List Str) (j:Nat) (v:Str),gO (xs.set j v) ≤ gO xs + v.length
 | [],_,_=>Nat.zero_le _
 | x :: xs,0,v=>by rw [List.set_cons_zero,fI,fI];omega
 | x :: xs,j + 1,v=>by
  have:=xL xs j v
  rw [List.set_cons_succ,fI,fI]
  omega
theorem rG:∀ (xs:List Str) (j:Nat),gO (xs.eraseIdx j) ≤ gO xs
 | [],_=>Nat.zero_le _
 | x :: xs,0=>by rw [List.eraseIdx_cons_zero,fI];omega
 | x :: xs,j + 1=>by
  have:=rG xs j
  rw [List.eraseIdx_cons_succ,fI,fI]
  omega
theorem aDR (xs:List Str) (j:Nat) (v:Str):gO (xs.take j ++ v :: xs.drop j) = gO xs + v.length:=by
 have:=xM (xs.take j) (xs.drop j)
 rw [List.take_append_drop] at this
 rw [xM,fI]
 omega
theorem aCA (s:Str):gO (Txt.split s " ") ≤ s.length:=by
 rw [lV]
 have h1:=StrLaws.join_split s ⟨#[32]⟩
 have ne:Txt.split s ⟨#[32]⟩ ≠ []:=jC
 have h2:=congrArg (fun z:Str=>z.cps.toList.length) h1
 have h2:(Str.join ⟨#[32]⟩ (Txt.split s ⟨#[32]⟩)).cps.toList.length = s.cps.toList.length:=h2
 rw [mI] at h2
 have h3:=aAI (c:=32) (xs:=(Txt.split s ⟨#[32]⟩).map fun p=>p.cps.toList) (by simpa using ne)
 rw [List.map_map,List.length_map] at h3
 have h4:(List.length ∘ fun p:Str=>p.cps.toList) = fun y:Str=>y.length:=by
  funext y
  exact (nO y).symm
 rw [h4] at h3
 have h5:gO (Txt.split s ⟨#[32]⟩) = ((Txt.split s ⟨#[32]⟩).map fun y=>y.length).sum:=rfl
 have h6:=nO s
 have h7:1 ≤ (Txt.split s ⟨#[32]⟩).length:=List.length_pos_iff.mpr ne
 omega
theorem vJ (s:Str) (xs:List Str):(Txt.join s xs).length ≤ (xs.map fun y=>y.length).sum + xs.length * s.length:=by
 unfold Txt.join
 rw [StrLaws.glued_eq_join]
 exact StrLaws.join_length_le s xs
theorem aLZ:("\n":Str).length = 1:=by decide +kernel
theorem iM {ys:List Str} {k m:Nat} (h:∀ y ∈ ys,y.length ≤ k) (l:ys.length ≤ m):gO ys + ys.length * ("\n":Str).length ≤ m * k + m ∧ (Txt.join "\n" ys).length ≤ m * k + m:=by
 have a:=kR h
 have b:=vJ "\n" ys
 have c:ys.length * k ≤ m * k:=Nat.mul_le_mul_right _ l
 have d:gO ys = (ys.map fun y=>y.length).sum:=rfl
 rw [aLZ] at b ⊢
 omega
theorem mL {zs:List Str} (k:Nat):fE (zs.map V.str) (some (k:Int)) none = (zs.drop k).map V.str:=by rw [pS,List.map_drop]
theorem mC {zs:List Str} (k:Nat):fE (zs.map V.str) none (some (k:Int)) = (zs.take k).map V.str:=by rw [aDF,List.map_take]
structure Lines (zs:List Str):Prop where
 l1:1 ≤ zs.length
 l24:zs.length ≤ 24
 s:∀ z ∈ zs,z.length ≤ 63
def qP:Sp:=sp3 fun x y u H Q=>∃ (l:Addr) (zs:List Str) (n way:Int),x = .ref l ∧ H l = some (.lst (zs.map V.str)) ∧ Lines zs ∧ y = .int n ∧ u = .int way ∧ ∀ (text:Str) (H':Hp),aJ H H' → text.length ≤ 3500 → Q (.str text) H'
theorem gσI {i:Nat} {a b:Int} {σ σ':L2.St} {H:Hp} {Q:L2.St → Hp → Prop} (e0:a = b) (e:σ.set i (some (.int b)) = σ') (h:Q σ' H):oP i (.int a) σ H Q:=by
 subst e0
 exact gσ e h
abbrev pY:List Str:=["07","10000000","1000001","-1000001","-","sea","nobody","A","","-0","1_0","+1","field"]
theorem aHB {z:Str} (m:z ∈ pY):z.length ≤ 8:=by
 have a:∀ z ∈ pY,z.length ≤ 8:=by decide +kernel
 exact a z m
theorem aIL {xs:List V} {i:Int} (h0:0 ≤ i) (h1:i < xs.length):∃ v,v ∈ xs ∧ atI xs i = some v:=by
 obtain ⟨k,rfl⟩:=Int.eq_ofNat_of_zero_le h0
 have hk:k < xs.length:=by omega
 exact ⟨xs[k],List.getElem_mem hk,bC (List.getElem?_eq_getElem hk)⟩
theorem aAK {zs:List Str} {i:Int} (h0:0 ≤ i) (h1:i < zs.length):∃ z,z ∈ zs ∧ atI (zs.map V.str) i = some (.str z):=by
 obtain ⟨v,m,e⟩:=aIL (xs:=zs.map V.str) h0 (by rw [List.length_map];exact h1)
 obtain ⟨z,mz,rfl⟩:=List.mem_map.mp m
 exact ⟨z,mz,e⟩
theorem aCC {j n:Nat} (h:j < n):PySem.seqIndex? (j:Int) n = some j:=by
 unfold PySem.seqIndex?
 have h0:¬ (j:Int) < 0:=by omega
 have h1:(decide (0 ≤ (j:Int)) && decide ((j:Int) < (n:Int))) = true:=by rw [decide_eq_true (by omega),decide_eq_true (by omega)];rfl
 simp only [if_neg h0]
 rw [if_pos h1,Int.toNat_natCast]
theorem tG:∀ (ws:List Str) (j:Nat),(ws.map V.str).eraseIdx j = (ws.eraseIdx j).map V.str
 | [],_=>rfl
 | _ :: _,0=>rfl
 | w :: ws,j + 1=>by
  show V.str w :: (ws.map V.str).eraseIdx j = V.str w :: (ws.eraseIdx j).map V.str
  rw [tG ws j]
theorem zO (T:Txt K mg C):Fc P w K mg base 1 "_law_words" ["_law_lines_here","_law_number_here","_law_way"] qP:=by
 refine T.d_l_words.fc iG zW (fun f cdv A outer s H vs Q E hr h=>?_)
 obtain ⟨x,y,u,rfl,l,zs,n,way,rfl,hl,Z,rfl,rfl,q⟩:=h
 have hu:=oO hr
 have big:=aDL
 have z1:=Z.l1
 have z24:=Z.l24
 refine ⟨_,(@aG _ _ _ _ _ (@aV _ _ (3) _ _ _ _ iG.nd rfl (Or.inl rfl) (@aI _ _ _ _ _ _ _ _ bU (pv 1) (@aP _ _ _ _ _ _ _ _ _ (@bA _ (K) rfl) rfl T.n_len bD (@aA _ _ _ _ _ (pv 0) aD (by rfl)) (by decide) (by decide) (by rfl) (by rfl))) (by rfl) (by trivial)) (@aG _ _ _ _ _ (@aV _ _ (4) _ _ _ _ iG.nd rfl (Or.inl rfl) (sG (K:=K) rfl (@dJ _ _ _ _ _ _ _ _ _ _ _ _ PySem.F.plainAttrs_str PySem.F.slot_str_split PySem.F.type_str_split lL (@bI _ _ _ _ _ _ _ (@aZ _ (K) rfl) (pv 0) (pv 3) (fun _ _=>rfl)) (@aA _ _ _ _ _ aN aD (by rfl)) (by rfl) (by rfl) (by rfl) (by rfl) (by rfl))) (by rfl) (by trivial)) (@aG _ _ _ _ _ (@aV _ _ (5) _ _ _ _ iG.nd rfl (Or.inl rfl) (@aI _ _ _ _ _ _ _ _ bU (@aI _ _ _ _ _ _ _ _ bX (pv 1) aB) (@aP _ _ _ _ _ _ _ _ _ (@bA _ (K) rfl) rfl T.n_len bD (@aA _ _ _ _ _ (pv 4) aD (by rfl)) (by decide) (by decide) (by rfl) (by rfl))) (by rfl) (by trivial)) (@aG _ _ _ _ _ (@aV _ _ (6) _ _ _ _ iG.nd rfl (Or.inl rfl) (@dP _ _ _ _ (@aA _ _ _ _ _ aN (@aA _ _ _ _ _ aN (@aA _ _ _ _ _ aN (@aA _ _ _ _ _ aN (@aA _ _ _ _ _ aN (@aA _ _ _ _ _ aN (@aA _ _ _ _ _ aN (@aA _ _ _ _ _ aN (@aA _ _ _ _ _ aN (@aA _ _ _ _ _ aN (@aA _ _ _ _ _ aN (@aA _ _ _ _ _ aN (@aA _ _ _ _ _ aN aD (by rfl)) (by rfl)) (by rfl)) (by rfl)) (by rfl)) (by rfl)) (by rfl)) (by rfl)) (by rfl)) (by rfl)) (by rfl)) (by rfl)) (by rfl))) (by rfl) (by trivial)) (@aG _ _ _ _ _ (@bQ _ _ _ _ _ _ _ _ (@aQ _ _ _ _ _ _ _ _ dL (pv 2) aB (@aS _ _ (by decide) (by decide))) (@aH _ _ _ (@aGV _ _ _ _ _ _ _ _ _ (pv 4) (pv 5) (@bI _ _ _ _ _ _ _ (@aZ _ (K) rfl) (pv 6) (@aI _ _ _ _ _ _ _ _ bU (@aI _ _ _ _ _ _ _ _ bX (pv 1) aB) aB) (fun _ _=>rfl)) rfl)) (@aH _ _ _ (@bQ _ _ _ _ _ _ _ _ (@aQ _ _ _ _ _ _ _ _ dL (pv 2) aB (@aS _ _ (by decide) (by decide))) (@aH _ _ _ (@jZ _ _ _ _ (@sE _ (K) _ _ _ _ _ rfl (@dJ _ _ _ _ _ _ _ _ _ _ _ _ PySem.F.plainAttrs_list PySem.F.slot_list_pop PySem.F.type_list_pop aEW (pv 4) (@aA _ _ _ _ _ (pv 5) aD (by rfl)) (by rfl) (by rfl) (by rfl) (by rfl) (by rfl))) (by rfl))) (@aH _ _ _ (@jZ _ _ _ _ (@sE _ (K) _ _ _ _ _ rfl (@dJ _ _ _ _ _ _ _ _ _ _ _ _ PySem.F.plainAttrs_list PySem.F.slot_list_insert PySem.F.type_list_insert aCM (pv 4) (@aA _ _ _ _ _ (pv 5) (@aA _ _ _ _ _ (@bI _ _ _ _ _ _ _ (@aZ _ (K) rfl) (pv 6) (@aI _ _ _ _ _ _ _ _ bU (@aI _ _ _ _ _ _ _ _ bX (pv 1) aB) aB) (fun _ _=>rfl)) aD (by rfl)) (by rfl)) (by rfl) (by rfl) (by rfl) (by rfl) (by rfl))) (by rfl)))))) (@aH _ _ _ (@aM _ _ _ _ (@dJ _ _ _ _ _ _ _ _ _ _ _ _ PySem.F.plainAttrs_str PySem.F.slot_str_join PySem.F.type_str_join eJ aN (@aA _ _ _ _ _ (@aI _ _ _ _ _ _ _ _ eG (@aI _ _ _ _ _ _ _ _ eG (@bM _ _ _ _ _ _ _ _ _ _ (@cW _ (K) rfl) (pv 0) cG (@bP _ _ _ (pv 3))) (@dP _ _ _ _ (@aA _ _ _ _ _ (@dJ _ _ _ _ _ _ _ _ _ _ _ _ PySem.F.plainAttrs_str PySem.F.slot_str_join PySem.F.type_str_join eJ aN (@aA _ _ _ _ _ (pv 4) aD (by rfl)) (by rfl) (by rfl) (by rfl) (by rfl) (by rfl)) aD (by rfl)))) (@bM _ _ _ _ _ _ _ _ _ _ (@cW _ (K) rfl) (pv 0) (@bP _ _ _ (@aI _ _ _ _ _ _ _ _ dQ (pv 3) aB)) cG)) aD (by rfl)) (by rfl) (by rfl) (by rfl) (by rfl) (by rfl))))))))),?_⟩
 have lnm:(zs.map V.str).length = zs.length:=List.length_map _
 have pz:(0:Int) < (((zs.map V.str).length:Nat):Int):=by rw [lnm];omega
 refine nW fun u1 hu1=>?_
 refine ⟨_,rfl,_,rfl,l,_,rfl,.inl (SqL.of hl),_,_,rfl,rfl,pz,?_⟩
 obtain ⟨k,hk⟩:=Int.eq_ofNat_of_zero_le (show 0 ≤ n % (((zs.map V.str).length:Nat):Int) from Int.emod_nonneg _ (by omega))
 have hkl:k < zs.length:=by
  have:=Int.emod_lt_of_pos n pz
  rw [lnm] at this hk
  omega
 refine gσI hk (σ':=[some (.ref l),some (.int n),some (.int way),some (.int k),none,none,none]) rfl ?_
 obtain ⟨z,ez⟩:∃ z,zs[k]? = some z:=⟨_,List.getElem?_eq_getElem hkl⟩
 have zl:=Z.s z (List.mem_of_getElem? ez)
 obtain ⟨sl,sm⟩:=nQ z
 have ss:=aCA z
 have sne:Txt.split z " " ≠ []:=jC
 refine ⟨_,rfl,_,rfl,l,_,_,.str z,rfl,rfl,SqL.of hl,bC (j:=k) (by rw [List.getElem?_map,ez];rfl),rfl,_,_,rfl,rfl,rfl,by omega,by omega,fun l1 h1=>?_⟩
 generalize Txt.split z " " = ws at sl sm ss sne ⊢
 have S1:=aJ.upd (o:=.lst (ws.map V.str)) h1
 have r1:upd H l1 (.lst (ws.map V.str)) l1 = some (.lst (ws.map V.str)):=aF
 generalize upd H l1 (.lst (ws.map V.str)) = H1 at S1 r1 ⊢
 refine gσ (σ':=[some (.ref l),some (.int n),some (.int way),some (.int k),some (.ref l1),none,none]) rfl ?_
 refine hu1 _ _ _ ?_
 have lwm:(ws.map V.str).length = ws.length:=List.length_map _
 have w1:1 ≤ ws.length:=List.length_pos_iff.mpr sne
 have pw:(0:Int) < (((ws.map V.str).length:Nat):Int):=by rw [lwm];omega
 refine nW fun u2 hu2=>?_
 refine ⟨_,rfl,_,_,rfl,rfl,⟨by decide,by decide⟩,_,rfl,l1,_,rfl,.inl (SqL.of r1),_,_,rfl,rfl,pw,?_⟩
 obtain ⟨j,hj⟩:=Int.eq_ofNat_of_zero_le (show 0 ≤ n / 60 % (((ws.map V.str).length:Nat):Int) from Int.emod_nonneg _ (by omega))
 have hjl:j < ws.length:=by
  have:=Int.emod_lt_of_pos (n / 60) pw
  rw [lwm] at this hj
  omega
 refine gσI hj (σ':=[some (.ref l),some (.int n),some (.int way),some (.int k),some (.ref l1),some (.int j),none]) rfl ?_
 refine ⟨aY rfl,fun l2 h2=>?_⟩
 show oP 6 (.ref l2) _ (upd H1 l2 (.lst (pY.map V.str))) _
 have S2:=aJ.upd (o:=.lst (pY.map V.str)) h2
 have r2:upd H1 l2 (.lst (pY.map V.str)) l2 = some (.lst (pY.map V.str)):=aF
 have hl2:=(S1.trans S2) _ _ hl
 have r12:=S2 _ _ r1
 have f1:∀ {b:Addr} {o:HO},H b = some o → b ≠ l1:=fun e=>aU e h1
 have nl:l ≠ l1:=f1 hl
 have T2:=S1.trans S2
 generalize upd H1 l2 (.lst (pY.map V.str)) = H2 at S2 r2 hl2 r12 T2 ⊢
 refine gσ (σ':=[some (.ref l),some (.int n),some (.int way),some (.int k),some (.ref l1),some (.int j),some (.ref l2)]) rfl ?_
 refine hu2 _ _ _ ?_
 refine cX fun u3 hu3=>?_
 have same1:∀ (ws':List Str),aJ H (upd H2 l1 (.lst (ws'.map V.str))):=fun ws'=>T2.over h1
 have after:∀ (ws':List Str) (D:Ends),D.rt = Q → ws'.length ≤ 65 → gO ws' ≤ 71 → u3 D [some (.ref l),some (.int n),some (.int way),some (.int k),some (.ref l1),some (.int j),some (.ref l2)] (upd H2 l1 (.lst (ws'.map V.str))):=fun ws' D hD lw' sw'=>by
  refine hu3 _ _ _ ?_
  have S3:=same1 ws'
  have r3:upd H2 l1 (.lst (ws'.map V.str)) l1 = some (.lst (ws'.map V.str)):=aF
  have hl3:=S3 _ _ hl
  generalize upd H2 l1 (.lst (ws'.map V.str)) = H3 at S3 r3 hl3 ⊢
  refine ⟨rfl,_,rfl,_,rfl,_,rfl,l,_,rfl,SqL.of hl3,fun a1 n1=>?_⟩
  rw [mC]
  have A1:=aJ.upd (o:=.lst ((zs.take k).map V.str)) n1
  have jl:=vJ " " ws'
  rw [hZ] at jl
  have sw'':(ws'.map fun y=>y.length).sum ≤ 71:=sw'
  refine ⟨rfl,_,rfl,_,l1,ws',rfl,rfl,SqL.of (A1 _ _ r3),by rw [hZ];omega,aY rfl,fun a2 n2=>?_⟩
  have A2:=aJ.upd (o:=.lst [.str (Txt.join " " ws')]) n2
  have fit1:((zs.take k).map V.str).length + [V.str (Txt.join " " ws')].length ≤ sizeLine:=by rw [List.length_map,List.length_take];show _ + 1 ≤ _;omega
  refine ⟨a1,a2,_,_,rfl,rfl,A2 _ _ aF,aF,fit1,fun a3 n3=>?_⟩
  have A3:=aJ.upd (o:=.lst ((zs.take k).map V.str ++ [.str (Txt.join " " ws')])) n3
  refine ⟨_,rfl,_,rfl,_,_,rfl,rfl,_,rfl,l,_,rfl,SqL.of ((A1.trans (A2.trans A3)) _ _ hl3),fun a4 n4=>?_⟩
  rw [show fE (zs.map V.str) (some ((k:Int) + 1)) none = (zs.drop (k + 1)).map V.str by rw [show (k:Int) + 1 = ((k + 1:Nat):Int) by omega,mL]]
  have A4:=aJ.upd (o:=.lst ((zs.drop (k + 1)).map V.str)) n4
  have fit2:((zs.take k).map V.str ++ [V.str (Txt.join " " ws')]).length + ((zs.drop (k + 1)).map V.str).length ≤ sizeLine:=by
   rw [List.length_append,List.length_map,List.length_map,List.length_take,List.length_drop];show _ + 1 + _ ≤ _;omega
  refine ⟨a3,a4,_,_,rfl,rfl,A4 _ _ aF,aF,fit2,fun a5 n5=>?_⟩
  have es:(zs.take k).map V.str ++ [V.str (Txt.join " " ws')] ++ (zs.drop (k + 1)).map V.str = (zs.take k ++ [Txt.join " " ws'] ++ zs.drop (k + 1)).map V.str:=by
   rw [List.map_append,List.map_append]
   rfl
  rw [es]
  have A5:=aJ.upd (o:=.lst ((zs.take k ++ [Txt.join " " ws'] ++ zs.drop (k + 1)).map V.str)) n5
  have rl:=iM (ys:=zs.take k ++ [Txt.join " " ws'] ++ zs.drop (k + 1)) (k:=136) (m:=24) (fun y m=>by
   rcases List.mem_append.mp m with m | m
   ·rcases List.mem_append.mp m with m | m
    ·have:=Z.s y (List.mem_of_mem_take m)
     omega
    ·rw [List.mem_singleton.mp m]
     omega
   ·have:=Z.s y (List.mem_of_mem_drop m)
    omega) (by rw [List.length_append,List.length_append,List.length_take,List.length_drop];show _ + 1 + _ ≤ _;omega)
  refine ⟨_,a5,zs.take k ++ [Txt.join " " ws'] ++ zs.drop (k + 1),rfl,rfl,SqL.of aF,by have:=rl.1;unfold gO at this;omega,?_⟩
  show D.rt _ _
  rw [hD]
  exact q _ _ (S3.trans (A1.trans (A2.trans (A3.trans (A4.trans A5))))) (by have:=rl.2;omega)
 obtain ⟨zz,mzz,ezz⟩:=aAK (zs:=pY) (i:=n / 600 % 13) (Int.emod_nonneg _ (by decide)) (Int.emod_lt_of_pos _ (by decide))
 have lzz:=aHB mzz
 refine ⟨_,rfl,rfl,_,rfl,?_⟩
 refine dR (fun h4=>?_) (fun h4=>?_)
 ·refine ⟨_,rfl,_,rfl,_,_,rfl,rfl,⟨by decide,by decide⟩,_,_,rfl,rfl,hX rfl,l2,_,_,.str zz,rfl,rfl,SqL.of r2,ezz,_,rfl,_,rfl,l1,_,j,rfl,rfl,r12,by rw [lwm];exact hjl,?_⟩
  rw [← List.map_set]
  exact after (ws.set j zz) _ rfl (by rw [List.length_set];omega) (by have:=xL ws j zz;omega)
 refine ⟨_,rfl,rfl,_,rfl,?_⟩
 refine dR (fun h5=>?_) (fun h5=>?_)
 ·refine ⟨_,rfl,.inl ⟨rfl,_,SqL.of r12⟩,_,rfl,l1,_,(j:Int),j,.str (ws[j]'hjl),rfl,rfl,r12,by omega,by omega,?_,?_,?_⟩
  ·rw [lwm]
   exact aCC hjl
  ·rw [List.getElem?_map,List.getElem?_eq_getElem hjl]
   rfl
  ·rw [show (ws.map V.str).eraseIdx j = (ws.eraseIdx j).map V.str from tG ws j]
   exact after (ws.eraseIdx j) _ rfl (by have:=List.length_eraseIdx_le ws j;omega) (by have:=rG ws j;omega)
 ·refine ⟨_,rfl,.inl ⟨rfl,_,SqL.of r12⟩,_,rfl,_,rfl,_,rfl,_,_,rfl,rfl,⟨by decide,by decide⟩,_,_,rfl,rfl,hX rfl,l2,_,_,.str zz,rfl,rfl,SqL.of r2,ezz,l1,_,(j:Int),_,rfl,rfl,r12,by omega,by rw [lwm];omega,by rw [lwm];omega,?_⟩
  rw [show (ws.map V.str).take (j:Int).toNat ++ V.str zz :: (ws.map V.str).drop (j:Int).toNat = (ws.take j ++ zz :: ws.drop j).map V.str by rw [Int.toNat_natCast,List.map_append,List.map_cons,List.map_take,List.map_drop]]
  exact after (ws.take j ++ zz :: ws.drop j) _ rfl (by rw [List.length_append,List.length_cons,List.length_take,List.length_drop];omega) (by have:=aDR ws j zz;omega)
open Mt13 Mt11 Mt02
theorem aFI {t:Hp → Prop} {H0:Hp} (A:Hp → Prop) (h0:A H0) (h:∀ H,A H → t H):t H0:=h H0 h0
theorem aGZ (c:Nat):(⟨#[c]⟩:Str).length = 1:=rfl
theorem aGK (n:Int):∃ c,atI (" \n01-9sead_\t":Str).cps.toList (n % 12) = some c:=by
 have l12:(" \n01-9sead_\t":Str).cps.toList.length = 12:=by decide +kernel
 obtain ⟨k,hk⟩:=Int.eq_ofNat_of_zero_le (show 0 ≤ n % 12 from Int.emod_nonneg _ (by decide))
 have:=Int.emod_lt_of_pos n (show (0:Int) < 12 by decide)
 rw [hk]
 exact ⟨_,bC (List.getElem?_eq_getElem (show k < _ by rw [l12];omega))⟩
def aAU:Sp:=sp3 fun x y u H Q=>∃ (text:Str) (n way:Int),x = .str text ∧ text.length ≤ 1700 ∧ y = .int n ∧ u = .int way ∧ ∀ (t':Str),t'.length ≤ 3500 → Q (.str t') H
theorem zP (T:Txt K mg C):Fc P w K mg base 1 "_law_signs" ["_law_text","_law_number_here","_law_way"] aAU:=by
 refine T.d_l_signs.fc jX zW (fun f cdv A outer s H vs Q E hr h=>?_)
 obtain ⟨x,y,u,rfl,text,n,way,rfl,tl,rfl,rfl,q⟩:=h
 have hu:=oO hr
 have big:=aDL
 have l12:(" \n01-9sead_\t":Str).length = 12:=by decide +kernel
 refine ⟨_,(@aG _ _ _ _ _ (@aV _ _ (3) _ _ _ _ jX.nd rfl (Or.inl rfl) aN (by rfl) (by trivial)) (@aG _ _ _ _ _ (@aV _ _ (4) _ _ _ _ jX.nd rfl (Or.inl rfl) (@bI _ _ _ _ _ _ _ nJ (pv 3) (@aI _ _ _ _ _ _ _ _ bU (pv 1) (@aP _ _ _ _ _ _ _ _ _ dC rfl T.n_len bD (@aA _ _ _ _ _ (pv 3) aD (by rfl)) (by decide) (by decide) (by rfl) (by rfl))) (fun _ _=>rfl)) (by rfl) (by trivial)) (@aG _ _ _ _ _ (@aV _ _ (5) _ _ _ _ jX.nd rfl (Or.inl rfl) (@aI _ _ _ _ _ _ _ _ bU (@aI _ _ _ _ _ _ _ _ bX (pv 1) aB) (@aI _ _ _ _ _ _ _ _ dQ (@aP _ _ _ _ _ _ _ _ _ dC rfl T.n_len bD (@aA _ _ _ _ _ (pv 0) aD (by rfl)) (by decide) (by decide) (by rfl) (by rfl)) aB)) (by rfl) (by trivial)) (@aG _ _ _ _ _ (@bQ _ _ _ _ _ _ _ _ (@aQ _ _ _ _ _ _ _ _ dL (pv 2) aB (@aS _ _ (by decide) (by decide))) (@aH _ _ _ (@aM _ _ _ _ (@aI _ _ _ _ _ _ _ _ bV (@aI _ _ _ _ _ _ _ _ bV (@bM _ _ _ _ _ _ _ _ _ _ jW (pv 0) cG (@bP _ _ _ (pv 5))) (pv 4)) (@bM _ _ _ _ _ _ _ _ _ _ jW (pv 0) (@bP _ _ _ (pv 5)) cG)))) aX) (@aG _ _ _ _ _ (@bQ _ _ _ _ _ _ _ _ (@aQ _ _ _ _ _ _ _ _ dL (pv 2) aB (@aS _ _ (by decide) (by decide))) (@aH _ _ _ (@aM _ _ _ _ (@aI _ _ _ _ _ _ _ _ bV (@bM _ _ _ _ _ _ _ _ _ _ jW (pv 0) cG (@bP _ _ _ (pv 5))) (@bM _ _ _ _ _ _ _ _ _ _ jW (pv 0) (@bP _ _ _ (@aI _ _ _ _ _ _ _ _ dQ (pv 5) aB)) cG)))) aX) (@aH _ _ _ (@aM _ _ _ _ (@aI _ _ _ _ _ _ _ _ bV (@aI _ _ _ _ _ _ _ _ bV (@bM _ _ _ _ _ _ _ _ _ _ jW (pv 0) cG (@bP _ _ _ (pv 5))) (pv 4)) (@bM _ _ _ _ _ _ _ _ _ _ jW (pv 0) (@bP _ _ _ (@aI _ _ _ _ _ _ _ _ dQ (pv 5) aB)) cG))))))))),?_⟩
 refine gσ (σ':=[some (.str text),some (.int n),some (.int way),some (.str " \n01-9sead_\t"),none,none]) rfl ?_
 obtain ⟨c,ec⟩:=aGK n
 have e12:(((" \n01-9sead_\t":Str).length:Nat):Int) = 12:=by rw [l12];rfl
 refine ⟨_,rfl,_,rfl,_,rfl,_,rfl,by omega,_,_,rfl,rfl,by show (0:Int) < (((" \n01-9sead_\t":Str).length:Nat):Int);rw [e12];decide,?_⟩
 refine ⟨_,_,c,rfl,rfl,by omega,by rw [e12];exact ec,?_⟩
 refine gσ (σ':=[some (.str text),some (.int n),some (.int way),some (.str " \n01-9sead_\t"),some (.str ⟨#[c]⟩),none]) rfl ?_
 have pt:(0:Int) < ((text.length:Nat):Int) + 1:=by omega
 refine ⟨_,rfl,_,_,rfl,rfl,⟨by decide,by decide⟩,_,rfl,_,rfl,by omega,_,_,rfl,rfl,_,_,rfl,rfl,pt,?_⟩
 obtain ⟨b,hb⟩:=Int.eq_ofNat_of_zero_le (show 0 ≤ n / 20 % (((text.length:Nat):Int) + 1) from Int.emod_nonneg _ (by omega))
 refine gσI hb (σ':=[some (.str text),some (.int n),some (.int way),some (.str " \n01-9sead_\t"),some (.str ⟨#[c]⟩),some (.int b)]) rfl ?_
 have s1:=fun lo hi=>Txt.slice_le text lo hi
 have so:=aGZ c
 refine ⟨_,rfl,rfl,_,rfl,?_⟩
 refine dR (fun _=>?_) (fun _=>?_)
 ·have a1:=s1 none (some (b:Int))
  have a2:=s1 (some (b:Int)) none
  refine ⟨_,rfl,_,rfl,_,rfl,_,rfl,by omega,_,rfl,_,_,rfl,rfl,by omega,_,rfl,_,rfl,_,rfl,_,rfl,by omega,_,_,rfl,rfl,by simp only [Str.length_append];omega,?_⟩
  exact q _ (by simp only [Str.length_append];omega)
 refine ⟨_,rfl,rfl,_,rfl,?_⟩
 refine dR (fun _=>?_) (fun _=>?_)
 ·have a1:=s1 none (some (b:Int))
  have a2:=s1 (some ((b:Int) + 1)) none
  refine ⟨_,rfl,_,rfl,_,rfl,_,rfl,by omega,_,rfl,_,rfl,_,_,rfl,rfl,_,rfl,_,rfl,by omega,_,_,rfl,rfl,by omega,?_⟩
  exact q _ (by simp only [Str.length_append];omega)
 ·have a1:=s1 none (some (b:Int))
  have a2:=s1 (some ((b:Int) + 1)) none
  refine ⟨_,rfl,_,rfl,_,rfl,_,rfl,by omega,_,rfl,_,_,rfl,rfl,by omega,_,rfl,_,rfl,_,_,rfl,rfl,_,rfl,_,rfl,by omega,_,_,rfl,rfl,by simp only [Str.length_append];omega,?_⟩
  exact q _ (by simp only [Str.length_append];omega)
def aDU:Sp:=sp1 fun x H Q=>∃ n:Int,x = .int n ∧ ∀ (l:Addr) (zs:List Str) (H':Hp),aJ H H' → H' l = some (.lst (zs.map V.str)) → zs.length ≤ 60 → (∀ z ∈ zs,z.length ≤ 20) → Q (.ref l) H'
theorem aFC {ks:List Int} {i:Int} (h0:0 ≤ i) (h1:i < ks.length):∃ k,k ∈ ks ∧ atI (ks.map V.int) i = some (.int k):=by
 obtain ⟨v,m,e⟩:=aIL (xs:=ks.map V.int) h0 (by rw [List.length_map];exact h1)
 obtain ⟨k,mk,rfl⟩:=List.mem_map.mp m
 exact ⟨k,mk,e⟩
theorem aCK (T:Txt K mg C):Fc P w K mg base 1 "_law_many" ["_law_number_here"] aDU:=by
 refine T.d_l_many.fc jD iB (fun f cdv A outer s H vs Q E hr h=>?_)
 obtain ⟨x,rfl,n,rfl,q⟩:=h
 have big:=cJ
 refine ⟨_,(@aG _ _ _ _ _ (@aV _ _ (1) _ _ _ _ jD.nd rfl (Or.inr rfl) aN (by rfl) (by trivial)) (@aG _ _ _ _ _ (@aV _ _ (2) _ _ _ _ jD.nd rfl (Or.inl rfl) (@bI _ _ _ _ _ _ _ (@aZ _ (K) rfl) (@dP _ _ _ _ (@aA _ _ _ _ _ aB (@aA _ _ _ _ _ aB (@aA _ _ _ _ _ aB (@aA _ _ _ _ _ aB (@aA _ _ _ _ _ aB aD (by rfl)) (by rfl)) (by rfl)) (by rfl)) (by rfl))) (@aI _ _ _ _ _ _ _ _ bU (pv 0) aB) (fun _ _=>rfl)) (by rfl) (by trivial)) (@aG _ _ _ _ _ (@aV _ _ (3) _ _ _ _ jD.nd rfl (Or.inl rfl) (@bI _ _ _ _ _ _ _ (@aZ _ (K) rfl) (@dP _ _ _ _ (@aA _ _ _ _ _ aB (@aA _ _ _ _ _ aB (@aA _ _ _ _ _ aB (@aA _ _ _ _ _ aB (@aA _ _ _ _ _ aB aD (by rfl)) (by rfl)) (by rfl)) (by rfl)) (by rfl))) (@aI _ _ _ _ _ _ _ _ bU (pv 0) aB) (fun _ _=>rfl)) (by rfl) (by trivial)) (@aG _ _ _ _ _ (@gG _ (4) _ _ _ _ _ _ _ _ _ _ _ _ _ jD.nd rfl ["_law_k","_law_letters"] 1 [1] rfl (@jM _ _ _ _ _ _ rfl T.n_range (@aA _ _ _ _ _ (pv 2) aD (by rfl)) (by rfl)) (fun R=>@bE _ _ (0) _ (show List.Nodup (["_law_k","_law_letters"]:List Str) by decide +kernel) rfl (Or.inl rfl) (by trivial)) (@bG _ _ (by decide)) (fun R=>cA) (fun R=>(@aI _ _ _ _ _ _ _ _ bV (@aI _ _ _ _ _ _ _ _ bV aN (@bI _ _ _ _ _ _ _ nJ (pv 1) (pv 0) (fun _ _=>rfl))) aN)) (by exact Or.inl rfl) (by trivial) (by rfl) (by rfl) (by rfl) (by rfl) (by rfl) (by rfl) (by rfl) (by rfl) (by intro _;rfl)) (@aH _ _ _ (@aM _ _ _ _ (@aI _ _ _ _ _ _ _ _ eG (pv 4) (@dA _ _ _ _ _ _ _ _ _ _ _ ["_law_k","_law_letters"] 1 [1] rfl (@jM _ _ _ _ _ _ rfl T.n_range (@aA _ _ _ _ _ (pv 3) aD (by rfl)) (by rfl)) (fun R=>@bE _ _ (0) _ (show List.Nodup (["_law_k","_law_letters"]:List Str) by decide +kernel) rfl (Or.inl rfl) (by trivial)) (@bG _ _ (by decide)) (fun R=>cA) (fun R=>(@aI _ _ _ _ _ _ _ _ bV (@aI _ _ _ _ _ _ _ _ bV (@aI _ _ _ _ _ _ _ _ bV aN (@bI _ _ _ _ _ _ _ nJ (pv 1) (@aI _ _ _ _ _ _ _ _ bU (pv 0) aB) (fun _ _=>rfl))) (@bI _ _ _ _ _ _ _ nJ (pv 1) (@aI _ _ _ _ _ _ _ _ bX (pv 0) aB) (fun _ _=>rfl))) aN)) (by rfl) (by rfl) (by rfl) (by rfl) (by rfl) (by rfl) (by rfl) (by intro _;rfl))))))))),?_⟩
 obtain ⟨kf,mf,ef⟩:=aFC (ks:=[1,13,12,1,1]) (i:=n % 5) (Int.emod_nonneg _ (by decide)) (Int.emod_lt_of_pos _ (by decide))
 obtain ⟨kd,md,ed⟩:=aFC (ks:=[40,1,1,41,0]) (i:=n % 5) (Int.emod_nonneg _ (by decide)) (Int.emod_lt_of_pos _ (by decide))
 have kf0:0 ≤ kf ∧ kf ≤ 13:=by
  simp only [List.mem_cons,List.mem_nil_iff,or_false] at mf
  omega
 have kd0:0 ≤ kd ∧ kd ≤ 41:=by
  simp only [List.mem_cons,List.mem_nil_iff,or_false] at md
  omega
 refine ⟨aY rfl,fun p1 h1=>?_⟩
 have S1:=aJ.upd (o:=.lst (([1,13,12,1,1]:List Int).map V.int)) h1
 refine ⟨_,rfl,_,_,rfl,rfl,hX rfl,p1,_,_,.int kf,rfl,rfl,SqL.of (show upd H p1 (.lst (([1,13,12,1,1]:List Int).map V.int)) p1 = some (.lst (([1,13,12,1,1]:List Int).map V.int)) from aF),ef,?_⟩
 refine ⟨aY rfl,fun p2 h2=>?_⟩
 have S2:=aJ.upd (o:=.lst (([40,1,1,41,0]:List Int).map V.int)) h2
 refine ⟨_,rfl,_,_,rfl,rfl,hX rfl,p2,_,_,.int kd,rfl,rfl,SqL.of (show upd (upd H p1 (.lst (([1,13,12,1,1]:List Int).map V.int))) p2 (.lst (([40,1,1,41,0]:List Int).map V.int)) p2 = some (.lst (([40,1,1,41,0]:List Int).map V.int)) from aF),ed,?_⟩
 refine aFI (fun H2=>aJ H H2) (S1.trans S2) fun H2 T2=>?_
 obtain ⟨mf',rfl⟩:=Int.eq_ofNat_of_zero_le kf0.1
 obtain ⟨md',rfl⟩:=Int.eq_ofNat_of_zero_le kd0.1
 refine ⟨_,rfl,_,rfl,by omega,by omega,?_⟩
 have nF:("field ":Str).length = 6:=by decide +kernel
 have n01:(" 0 1":Str).length = 4:=by decide +kernel
 have nD:("dyke ":Str).length = 5:=by decide +kernel
 have nS:(" sea a 0 1":Str).length = 10:=by decide +kernel
 rw [Int.toNat_natCast]
 refine nL (lo:=0) (n:=mf') (by omega) (fun i ys H'=>H' = H2 ∧ ∃ zs:List Str,ys = zs.map V.str ∧ zs.length = i ∧ ∀ z ∈ zs,z.length ≤ 20) ⟨rfl,[],rfl,rfl,fun z m=>by cases m⟩ ?_ ?_ ?_
 ·rintro i ys H' ⟨rfl,zs,rfl,lz,sz⟩
  rw [List.length_map]
  omega
 ·rintro i ys H' K1 K2 hi ⟨rfl,zs,rfl,lz,sz⟩ k1 k2
  have ei:(0:Int) + (i:Int) = i:=by omega
  refine ⟨_,rfl,_,rfl,_,_,_,rfl,rfl,(by decide +kernel),kH (by omega) (by omega),_,_,rfl,rfl,(by rw [nF];show 6 + 1 ≤ sizeLine;omega),_,_,rfl,rfl,(by rw [Str.length_append,nF,n01];show 6 + 1 + 4 ≤ sizeLine;omega),k1 _ _ ⟨rfl,zs ++ [_],(by rw [List.map_append];rfl),by rw [List.length_append,lz];rfl,fun z m=>?_⟩⟩
  rcases List.mem_append.mp m with m | m
  ·exact sz z m
  ·rw [List.mem_singleton.mp m,Str.length_append,Str.length_append,nF,n01]
   show 6 + 1 + 4 ≤ 20
   decide
 rintro ys H3 ⟨rfl,zs,rfl,lz,sz⟩
 intro p3 h3
 have S3:=aJ.upd (o:=.lst (zs.map V.str)) h3
 have r3:upd H3 p3 (.lst (zs.map V.str)) p3 = some (.lst (zs.map V.str)):=aF
 have T3:=T2.trans S3
 generalize upd H3 p3 (.lst (zs.map V.str)) = H4 at S3 r3 T3
 refine ⟨_,rfl,_,rfl,_,rfl,by omega,by omega,?_⟩
 rw [Int.toNat_natCast]
 refine nL (lo:=0) (n:=md') (by omega) (fun i ys H'=>H' = H4 ∧ ∃ ws:List Str,ys = ws.map V.str ∧ ws.length = i ∧ ∀ z ∈ ws,z.length ≤ 20) ⟨rfl,[],rfl,rfl,fun z m=>by cases m⟩ ?_ ?_ ?_
 ·rintro i ys H' ⟨rfl,ws,rfl,lw,sw⟩
  rw [List.length_map]
  omega
 ·rintro i ys H' K1 K2 hi ⟨rfl,ws,rfl,lw,sw⟩ k1 k2
  have b0:0 ≤ ((0:Int) + i) % 26:=Int.emod_nonneg _ (by decide)
  have b1:((0:Int) + i) % 26 < 26:=Int.emod_lt_of_pos _ (by decide)
  refine ⟨_,rfl,_,rfl,_,_,rfl,rfl,hX rfl,_,_,_,rfl,rfl,(by decide +kernel),kH b0 b1,_,_,rfl,rfl,(by rw [nD];show 5 + 1 ≤ sizeLine;omega),?_⟩
  refine ⟨_,rfl,_,rfl,_,_,rfl,rfl,⟨by decide,by decide⟩,_,_,_,rfl,rfl,(by decide +kernel),kH (by omega) (by omega),_,_,rfl,rfl,(by rw [Str.length_append,nD];show 5 + 1 + 1 ≤ sizeLine;omega),?_⟩
  refine ⟨_,_,rfl,rfl,(by rw [Str.length_append,Str.length_append,nD,nS];show 5 + 1 + 1 + 10 ≤ sizeLine;omega),k1 _ _ ⟨rfl,ws ++ [_],(by rw [List.map_append];rfl),by rw [List.length_append,lw];rfl,fun z m=>?_⟩⟩
  rcases List.mem_append.mp m with m | m
  ·exact sw z m
  ·rw [List.mem_singleton.mp m,Str.length_append,Str.length_append,Str.length_append,nD,nS]
   show 5 + 1 + 1 + 10 ≤ 20
   decide
 rintro ys H5 ⟨rfl,ws,rfl,lw,sw⟩
 intro p4 h4
 have S4:=aJ.upd (o:=.lst (ws.map V.str)) h4
 refine ⟨p3,p4,_,_,rfl,rfl,S4 _ _ r3,aF,by rw [List.length_map,List.length_map];omega,fun p5 h5=>?_⟩
 rw [← List.map_append]
 refine q p5 (zs ++ ws) _ (T3.trans (S4.trans (aJ.upd h5))) aF (by rw [List.length_append];omega) fun z m=>?_
 rcases List.mem_append.mp m with m | m
 ·exact sz z m
 ·exact sw z m
open Mt13 Mt11 Mt02
theorem yC (T:Txt K mg C):Fc P w K mg base 2 "_law_spoilt" ["_law_lines_here","_law_number_here","_law_way"] qP:=by
 have G_l_words:Fc P w K mg base 1 "_law_words" ["_law_lines_here","_law_number_here","_law_way"] qP:=zO T
 have G_l_signs:Fc P w K mg base 1 "_law_signs" ["_law_text","_law_number_here","_law_way"] aAU:=zP T
 have G_l_many:Fc P w K mg base 1 "_law_many" ["_law_number_here"] aDU:=aCK T
 refine T.d_l_spoilt.fc iS zW (fun f cdv A outer s H vs Q E hr h=>?_)
 obtain ⟨x,y,u,rfl,l,zs,n,way,rfl,hl,Z,rfl,rfl,q⟩:=h
 have hu:=oO hr
 have big:=aDL
 have z1:=Z.l1
 have z24:=Z.l24
 have lnm:(zs.map V.str).length = zs.length:=List.length_map _
 refine ⟨_,(@aG _ _ _ _ _ (@aV _ _ (3) _ _ _ _ iS.nd rfl (Or.inl rfl) (@aI _ _ _ _ _ _ _ _ bU (pv 1) (@aI _ _ _ _ _ _ _ _ dQ (@aP _ _ _ _ _ _ _ _ _ (@bA _ (K) rfl) rfl T.n_len bD (@aA _ _ _ _ _ (pv 0) aD (by rfl)) (by decide) (by decide) (by rfl) (by rfl)) aB)) (by rfl) (by trivial)) (@aG _ _ _ _ _ (@bQ _ _ _ _ _ _ _ _ (@aQ _ _ _ _ _ _ _ _ dL (pv 2) aB (@aS _ _ (by decide) (by decide))) (@aH _ _ _ (@aM _ _ _ _ (@dJ _ _ _ _ _ _ _ _ _ _ _ _ PySem.F.plainAttrs_str PySem.F.slot_str_join PySem.F.type_str_join eJ aN (@aA _ _ _ _ _ (pv 0) aD (by rfl)) (by rfl) (by rfl) (by rfl) (by rfl) (by rfl)))) aX) (@aG _ _ _ _ _ (@bQ _ _ _ _ _ _ _ _ (@aQ _ _ _ _ _ _ _ _ oG (pv 2) aB (@aS _ _ (by decide) (by decide))) (@aH _ _ _ (@aM _ _ _ _ (@bR _ _ _ _ _ _ _ _ _ _ G_l_signs (hr.mono (by decide)) (@aA _ _ _ _ _ (@dJ _ _ _ _ _ _ _ _ _ _ _ _ PySem.F.plainAttrs_str PySem.F.slot_str_join PySem.F.type_str_join eJ aN (@aA _ _ _ _ _ (pv 0) aD (by rfl)) (by rfl) (by rfl) (by rfl) (by rfl) (by rfl)) (@aA _ _ _ _ _ (pv 1) (@aA _ _ _ _ _ (pv 2) aD (by rfl)) (by rfl)) (by rfl)) (by rfl) (by decide) (by rfl) (by rfl)))) aX) (@aG _ _ _ _ _ (@bQ _ _ _ _ _ _ _ _ (@aQ _ _ _ _ _ _ _ _ oG (pv 2) aB (@aS _ _ (by decide) (by decide))) (@aH _ _ _ (@aM _ _ _ _ (@bR _ _ _ _ _ _ _ _ _ _ G_l_words (hr.mono (by decide)) (@aA _ _ _ _ _ (pv 0) (@aA _ _ _ _ _ (pv 1) (@aA _ _ _ _ _ (pv 2) aD (by rfl)) (by rfl)) (by rfl)) (by rfl) (by decide) (by rfl) (by rfl)))) aX) (@aG _ _ _ _ _ (@bQ _ _ _ _ _ _ _ _ (@aQ _ _ _ _ _ _ _ _ dL (pv 2) aB (@aS _ _ (by decide) (by decide))) (@aH _ _ _ (@aM _ _ _ _ (@dJ _ _ _ _ _ _ _ _ _ _ _ _ PySem.F.plainAttrs_str PySem.F.slot_str_join PySem.F.type_str_join eJ aN (@aA _ _ _ _ _ (@aI _ _ _ _ _ _ _ _ eG (@bM _ _ _ _ _ _ _ _ _ _ (@cW _ (K) rfl) (pv 0) cG (@bP _ _ _ (pv 3))) (@bM _ _ _ _ _ _ _ _ _ _ (@cW _ (K) rfl) (pv 0) (@bP _ _ _ (@aI _ _ _ _ _ _ _ _ dQ (pv 3) aB)) cG)) aD (by rfl)) (by rfl) (by rfl) (by rfl) (by rfl) (by rfl)))) aX) (@aG _ _ _ _ _ (@bQ _ _ _ _ _ _ _ _ (@aQ _ _ _ _ _ _ _ _ dL (pv 2) aB (@aS _ _ (by decide) (by decide))) (@aG _ _ _ _ _ (@aV _ _ (4) _ _ _ _ iS.nd rfl (Or.inl rfl) (@bI _ _ _ _ _ _ _ (@aZ _ (K) rfl) (@dP _ _ _ _ (@aA _ _ _ _ _ (@bI _ _ _ _ _ _ _ (@aZ _ (K) rfl) (pv 0) (@aI _ _ _ _ _ _ _ _ bU (@aI _ _ _ _ _ _ _ _ bX (pv 1) aB) (@aP _ _ _ _ _ _ _ _ _ (@bA _ (K) rfl) rfl T.n_len bD (@aA _ _ _ _ _ (pv 0) aD (by rfl)) (by decide) (by decide) (by rfl) (by rfl))) (fun _ _=>rfl)) (@aA _ _ _ _ _ aN aD (by rfl)) (by rfl))) (@aI _ _ _ _ _ _ _ _ bU (@aI _ _ _ _ _ _ _ _ bX (pv 1) aB) aB) (fun _ _=>rfl)) (by rfl) (by trivial)) (@aH _ _ _ (@aM _ _ _ _ (@dJ _ _ _ _ _ _ _ _ _ _ _ _ PySem.F.plainAttrs_str PySem.F.slot_str_join PySem.F.type_str_join eJ aN (@aA _ _ _ _ _ (@aI _ _ _ _ _ _ _ _ eG (@aI _ _ _ _ _ _ _ _ eG (@bM _ _ _ _ _ _ _ _ _ _ (@cW _ (K) rfl) (pv 0) cG (@bP _ _ _ (pv 3))) (@dP _ _ _ _ (@aA _ _ _ _ _ (pv 4) aD (by rfl)))) (@bM _ _ _ _ _ _ _ _ _ _ (@cW _ (K) rfl) (pv 0) (@bP _ _ _ (pv 3)) cG)) aD (by rfl)) (by rfl) (by rfl) (by rfl) (by rfl) (by rfl))))) aX) (@aG _ _ _ _ _ (@bQ _ _ _ _ _ _ _ _ (@aQ _ _ _ _ _ _ _ _ dL (pv 2) aB (@aS _ _ (by decide) (by decide))) (@aG _ _ _ _ _ (@aV _ _ (5) _ _ _ _ iS.nd rfl (Or.inl rfl) (zM rfl rfl T.n_list rfl T.n_reversed (@aA _ _ _ _ _ (@bM _ _ _ _ _ _ _ _ _ _ (@cW _ (K) rfl) (pv 0) (@bP _ _ _ (pv 3)) (@bP _ _ _ (@aI _ _ _ _ _ _ _ _ dQ (pv 3) aB))) aD (by rfl))) (by rfl) (by trivial)) (@aH _ _ _ (@aM _ _ _ _ (@dJ _ _ _ _ _ _ _ _ _ _ _ _ PySem.F.plainAttrs_str PySem.F.slot_str_join PySem.F.type_str_join eJ aN (@aA _ _ _ _ _ (@aI _ _ _ _ _ _ _ _ eG (@aI _ _ _ _ _ _ _ _ eG (@bM _ _ _ _ _ _ _ _ _ _ (@cW _ (K) rfl) (pv 0) cG (@bP _ _ _ (pv 3))) (pv 5)) (@bM _ _ _ _ _ _ _ _ _ _ (@cW _ (K) rfl) (pv 0) (@bP _ _ _ (@aI _ _ _ _ _ _ _ _ dQ (pv 3) aB)) cG)) aD (by rfl)) (by rfl) (by rfl) (by rfl) (by rfl) (by rfl))))) aX) (@aH _ _ _ (@aM _ _ _ _ (@dJ _ _ _ _ _ _ _ _ _ _ _ _ PySem.F.plainAttrs_str PySem.F.slot_str_join PySem.F.type_str_join eJ aN (@aA _ _ _ _ _ (@bR _ _ _ _ _ _ _ _ _ _ G_l_many (hr.mono (by decide)) (@aA _ _ _ _ _ (pv 1) aD (by rfl)) (by rfl) (by decide) (by rfl) (by rfl)) aD (by rfl)) (by rfl) (by rfl) (by rfl) (by rfl) (by rfl))))))))))),?_⟩
 have rl:=iM (ys:=zs) (k:=63) (m:=24) Z.s z24
 refine cX fun u2 hu2=>?_
 have pl:(0:Int) < (((zs.map V.str).length:Nat):Int) + 1:=by omega
 refine ⟨_,rfl,_,rfl,l,_,rfl,.inl (SqL.of hl),_,_,rfl,rfl,_,_,rfl,rfl,pl,?_⟩
 obtain ⟨a,ha⟩:=Int.eq_ofNat_of_zero_le (show 0 ≤ n % ((((zs.map V.str).length:Nat):Int) + 1) from Int.emod_nonneg _ (by omega))
 refine gσI ha (σ':=[some (.ref l),some (.int n),some (.int way),some (.int a),none,none]) rfl ?_
 refine hu2 _ _ _ ?_
 refine cX fun u3 hu3=>?_
 refine ⟨_,rfl,rfl,_,rfl,?_⟩
 refine dR (fun _=>?_) (fun _=>hu3 _ _ _ ?_)
 ·refine ⟨rfl,_,rfl,_,l,zs,rfl,rfl,SqL.of hl,by have:=rl.1;unfold gO at this;omega,?_⟩
  exact q _ _ (aJ.refl _) (by have:=rl.2;omega)
 refine cX fun u4 hu4=>?_
 refine ⟨_,rfl,_,_,rfl,rfl,_,rfl,?_⟩
 refine dR (fun _=>?_) (fun _=>hu4 _ _ _ ?_)
 ·refine ⟨rfl,_,rfl,_,l,zs,rfl,rfl,SqL.of hl,by have:=rl.1;unfold gO at this;omega,_,rfl,_,rfl,_,_,_,rfl,_,n,way,rfl,by have:=rl.2;omega,rfl,rfl,fun t' lt'=>?_⟩
  exact q t' _ (aJ.refl _) lt'
 refine cX fun u5 hu5=>?_
 refine ⟨_,rfl,_,_,rfl,rfl,_,rfl,?_⟩
 refine dR (fun _=>?_) (fun _=>hu5 _ _ _ ?_)
 ·exact ⟨_,rfl,_,rfl,_,rfl,_,_,_,rfl,l,zs,n,way,rfl,hl,Z,rfl,rfl,fun t H' S' lt=>q t H' S' lt⟩
 refine cX fun u7 hu7=>?_
 refine ⟨_,rfl,rfl,_,rfl,?_⟩
 refine dR (fun _=>?_) (fun _=>hu7 _ _ _ ?_)
 ·refine ⟨rfl,_,rfl,_,rfl,_,rfl,l,_,rfl,SqL.of hl,fun a1 n1=>?_⟩
  rw [mC]
  have A1:=aJ.upd (o:=.lst ((zs.take a).map V.str)) n1
  refine ⟨_,rfl,_,rfl,_,_,rfl,rfl,_,rfl,l,_,rfl,SqL.of (A1 _ _ hl),fun a2 n2=>?_⟩
  rw [show fE (zs.map V.str) (some ((a:Int) + 1)) none = (zs.drop (a + 1)).map V.str by rw [show (a:Int) + 1 = ((a + 1:Nat):Int) by omega,mL]]
  have A2:=aJ.upd (o:=.lst ((zs.drop (a + 1)).map V.str)) n2
  have fit:((zs.take a).map V.str).length + ((zs.drop (a + 1)).map V.str).length ≤ sizeLine:=by
   rw [List.length_map,List.length_map,List.length_take,List.length_drop];omega
  refine ⟨a1,a2,_,_,rfl,rfl,A2 _ _ aF,aF,fit,fun a3 n3=>?_⟩
  rw [← List.map_append]
  have A3:=aJ.upd (o:=.lst ((zs.take a ++ zs.drop (a + 1)).map V.str)) n3
  have rl:=iM (ys:=zs.take a ++ zs.drop (a + 1)) (k:=63) (m:=24) (fun y m=>by
   rcases List.mem_append.mp m with m | m
   ·exact Z.s y (List.mem_of_mem_take m)
   ·exact Z.s y (List.mem_of_mem_drop m)) (by rw [List.length_append,List.length_take,List.length_drop];omega)
  refine ⟨_,a3,zs.take a ++ zs.drop (a + 1),rfl,rfl,SqL.of aF,by have:=rl.1;unfold gO at this;omega,?_⟩
  exact q _ _ (A1.trans (A2.trans A3)) (by have:=rl.2;omega)
 refine cX fun u8 hu8=>?_
 refine ⟨_,rfl,rfl,_,rfl,?_⟩
 refine dR (fun _=>?_) (fun _=>hu8 _ _ _ ?_)
 ·refine cX fun u9 hu9=>?_
  have pz:(0:Int) < (((zs.map V.str).length:Nat):Int):=by rw [lnm];omega
  obtain ⟨z,mz,ez⟩:=aAK (zs:=zs) (i:=n / 60 % (((zs.map V.str).length:Nat):Int)) (Int.emod_nonneg _ (by omega)) (by have:=Int.emod_lt_of_pos (n / 60) pz;rw [lnm] at *;exact this)
  have lz:=Z.s z mz
  refine ⟨_,rfl,_,rfl,_,_,rfl,rfl,⟨by decide,by decide⟩,_,rfl,l,_,rfl,.inl (SqL.of hl),_,_,rfl,rfl,pz,l,_,_,.str z,rfl,rfl,SqL.of hl,ez,aY rfl,fun b1 m1=>?_⟩
  have B1:=aJ.upd (o:=.lst [.str z,.str ""]) m1
  obtain ⟨y,my,ey⟩:=aAK (zs:=[z,""]) (i:=n / 3600 % 2) (Int.emod_nonneg _ (by decide)) (Int.emod_lt_of_pos _ (by decide))
  have ly:y.length ≤ 63:=by
   rcases List.mem_cons.mp my with rfl | my
   ·exact lz
   ·rw [List.mem_singleton.mp my,show ("":Str).length = 0 by decide +kernel]
    omega
  refine ⟨_,rfl,_,_,rfl,rfl,⟨by decide,by decide⟩,_,_,rfl,rfl,hX rfl,b1,_,_,.str y,rfl,rfl,SqL.of aF,ey,?_⟩
  refine gσ (σ':=[some (.ref l),some (.int n),some (.int way),some (.int a),some (.str y),none]) rfl ?_
  refine hu9 _ _ _ ?_
  have hlB:=B1 _ _ hl
  generalize upd H b1 (.lst [.str z,.str ""]) = HB at B1 hlB ⊢
  refine ⟨rfl,_,rfl,_,rfl,_,rfl,l,_,rfl,SqL.of hlB,fun a1 n1=>?_⟩
  rw [mC]
  have A1:=aJ.upd (o:=.lst ((zs.take a).map V.str)) n1
  refine ⟨_,rfl,aY rfl,fun a2 n2=>?_⟩
  have A2:=aJ.upd (o:=.lst [.str y]) n2
  have fit1:((zs.take a).map V.str).length + [V.str y].length ≤ sizeLine:=by rw [List.length_map,List.length_take];show _ + 1 ≤ _;omega
  refine ⟨a1,a2,_,_,rfl,rfl,A2 _ _ aF,aF,fit1,fun a3 n3=>?_⟩
  have A3:=aJ.upd (o:=.lst ((zs.take a).map V.str ++ [.str y])) n3
  refine ⟨_,rfl,_,rfl,_,rfl,l,_,rfl,SqL.of ((A1.trans (A2.trans A3)) _ _ hlB),fun a4 n4=>?_⟩
  rw [mL]
  have A4:=aJ.upd (o:=.lst ((zs.drop a).map V.str)) n4
  have fit2:((zs.take a).map V.str ++ [V.str y]).length + ((zs.drop a).map V.str).length ≤ sizeLine:=by
   rw [List.length_append,List.length_map,List.length_map,List.length_take,List.length_drop];show _ + 1 + _ ≤ _;omega
  refine ⟨a3,a4,_,_,rfl,rfl,A4 _ _ aF,aF,fit2,fun a5 n5=>?_⟩
  have es:(zs.take a).map V.str ++ [V.str y] ++ (zs.drop a).map V.str = (zs.take a ++ [y] ++ zs.drop a).map V.str:=by
   rw [List.map_append,List.map_append]
   rfl
  rw [es]
  have A5:=aJ.upd (o:=.lst ((zs.take a ++ [y] ++ zs.drop a).map V.str)) n5
  have rl:=iM (ys:=zs.take a ++ [y] ++ zs.drop a) (k:=63) (m:=25) (fun y' m=>by
   rcases List.mem_append.mp m with m | m
   ·rcases List.mem_append.mp m with m | m
    ·exact Z.s y' (List.mem_of_mem_take m)
    ·rw [List.mem_singleton.mp m]
     exact ly
   ·exact Z.s y' (List.mem_of_mem_drop m)) (by rw [List.length_append,List.length_append,List.length_take,List.length_drop];show _ + 1 + _ ≤ _;omega)
  refine ⟨_,a5,zs.take a ++ [y] ++ zs.drop a,rfl,rfl,SqL.of aF,by have:=rl.1;unfold gO at this;omega,?_⟩
  exact q _ _ (B1.trans (A1.trans (A2.trans (A3.trans (A4.trans A5))))) (by have:=rl.2;omega)
 refine cX fun u10 hu10=>?_
 refine ⟨_,rfl,rfl,_,rfl,?_⟩
 refine dR (fun _=>?_) (fun _=>hu10 _ _ _ ?_)
 ·refine cX fun u11 hu11=>?_
  refine ⟨_,rfl,_,rfl,_,rfl,_,rfl,_,_,rfl,rfl,_,rfl,l,_,rfl,SqL.of hl,fun b1 m1=>?_⟩
  rw [show fE (zs.map V.str) (some (a:Int)) (some ((a:Int) + 2)) = ((zs.drop a).take 2).map V.str by rw [show (a:Int) + 2 = ((a + 2:Nat):Int) by omega,tK,Nat.add_sub_cancel_left,← List.map_drop,← List.map_take]]
  have B1:=aJ.upd (o:=.lst (((zs.drop a).take 2).map V.str)) m1
  refine ⟨b1,_,rfl,SqL.of aF,fun b2 m2=>?_⟩
  rw [← List.map_reverse]
  have B2:=aJ.upd (o:=.lst (((zs.drop a).take 2).reverse.map V.str)) m2
  refine gσ (σ':=[some (.ref l),some (.int n),some (.int way),some (.int a),none,some (.ref b2)]) rfl ?_
  refine hu11 _ _ _ ?_
  have BB:=B1.trans B2
  have rB:upd (upd H b1 (.lst (((zs.drop a).take 2).map V.str))) b2 (.lst (((zs.drop a).take 2).reverse.map V.str)) b2 = some (.lst (((zs.drop a).take 2).reverse.map V.str)):=aF
  have hlB:=BB _ _ hl
  generalize upd (upd H b1 (.lst (((zs.drop a).take 2).map V.str))) b2 (.lst (((zs.drop a).take 2).reverse.map V.str)) = HB at BB rB hlB ⊢
  refine ⟨rfl,_,rfl,_,rfl,_,rfl,l,_,rfl,SqL.of hlB,fun a1 n1=>?_⟩
  rw [mC]
  have A1:=aJ.upd (o:=.lst ((zs.take a).map V.str)) n1
  have fit1:((zs.take a).map V.str).length + (((zs.drop a).take 2).reverse.map V.str).length ≤ sizeLine:=by rw [List.length_map,List.length_map,List.length_reverse,List.length_take,List.length_take,List.length_drop];omega
  refine ⟨_,rfl,a1,b2,_,_,rfl,rfl,aF,A1 _ _ rB,fit1,fun a3 n3=>?_⟩
  rw [← List.map_append]
  have A3:=aJ.upd (o:=.lst ((zs.take a ++ ((zs.drop a).take 2).reverse).map V.str)) n3
  refine ⟨_,rfl,_,rfl,_,_,rfl,rfl,_,rfl,l,_,rfl,SqL.of ((A1.trans A3) _ _ hlB),fun a4 n4=>?_⟩
  rw [show fE (zs.map V.str) (some ((a:Int) + 2)) none = (zs.drop (a + 2)).map V.str by rw [show (a:Int) + 2 = ((a + 2:Nat):Int) by omega,mL]]
  have A4:=aJ.upd (o:=.lst ((zs.drop (a + 2)).map V.str)) n4
  have len:(zs.take a ++ ((zs.drop a).take 2).reverse ++ zs.drop (a + 2)).length ≤ 24:=by
   rw [List.length_append,List.length_append,List.length_reverse,List.length_take,List.length_take,List.length_drop,List.length_drop]
   omega
  have fit2:((zs.take a ++ ((zs.drop a).take 2).reverse).map V.str).length + ((zs.drop (a + 2)).map V.str).length ≤ sizeLine:=by
   rw [List.length_map,List.length_map]
   rw [List.length_append] at len
   omega
  refine ⟨a3,a4,_,_,rfl,rfl,A4 _ _ aF,aF,fit2,fun a5 n5=>?_⟩
  rw [← List.map_append]
  have A5:=aJ.upd (o:=.lst ((zs.take a ++ ((zs.drop a).take 2).reverse ++ zs.drop (a + 2)).map V.str)) n5
  have rl:=iM (ys:=zs.take a ++ ((zs.drop a).take 2).reverse ++ zs.drop (a + 2)) (k:=63) (m:=24) (fun y' m=>by
   rcases List.mem_append.mp m with m | m
   ·rcases List.mem_append.mp m with m | m
    ·exact Z.s y' (List.mem_of_mem_take m)
    ·exact Z.s y' (List.mem_of_mem_drop (List.mem_of_mem_take (List.mem_reverse.mp m)))
   ·exact Z.s y' (List.mem_of_mem_drop m)) len
  refine ⟨_,a5,zs.take a ++ ((zs.drop a).take 2).reverse ++ zs.drop (a + 2),rfl,rfl,SqL.of aF,by have:=rl.1;unfold gO at this;omega,?_⟩
  exact q _ _ (BB.trans (A1.trans (A3.trans (A4.trans A5)))) (by have:=rl.2;omega)
 refine ⟨rfl,_,rfl,_,rfl,n,rfl,fun lm ws H' S' hm lw sw=>?_⟩
 have rl:=iM (ys:=ws) (k:=20) (m:=60) sw lw
 refine ⟨_,lm,ws,rfl,rfl,SqL.of hm,by have:=rl.1;unfold gO at this;omega,?_⟩
 exact q _ _ S' (by have:=rl.2;omega)
open Mt13 Mt11 Mt02
def cT (z:Str) (a:Int):Option Int:=match fO z with | some n=>(if n < a then none else if 1000000 < n then none else some n) | none=>none
theorem aET (c:Nat):decide (V.str (⟨#[c]⟩:Str) = V.str "0") = (c == 48):=by
 rw [dS]
 by_cases h:c = 48
 ·subst h
  rw [show decide ((⟨#[48]⟩:Str) = "0") = true from by decide +kernel]
  rfl
 ·rw [beq_eq_false_iff_ne.mpr h,decide_eq_false]
  intro e
  have e2:=congrArg (fun z:Str=>z.cps.toList) e
  have e3:[c] = [48]:=e2.trans (by decide +kernel)
  exact h (List.cons.inj e3).1
def zE:Sp:=sp2 fun x y H Q=>∃ (z:Str) (a:Int),x = .str z ∧ y = .int a ∧ z.length ≤ 100000 ∧ Q (oV (cT z a)) H
theorem pW (T:Txt K mg C):Fc P w K mg base 1 "_law_number" ["_law_word","_law_least"] zE:=by
 refine T.d_l_number.fc iT qM (fun f cdv A outer s H vs Q E hr h=>?_)
 obtain ⟨x,y,rfl,z,a,rfl,rfl,hz,q⟩:=h
 have hu:=oO hr
 have big:=aDL
 refine ⟨_,(@aG _ _ _ _ _ (@aV _ _ (2) _ _ _ _ iT.nd rfl (Or.inl rfl) (pv 0) (by rfl) (by trivial)) (@aG _ _ _ _ _ (@bQ _ _ _ _ _ _ _ _ (@aQ _ _ _ _ _ _ _ _ dL (@bM _ _ _ _ _ _ _ _ _ _ jW (pv 0) cG (@bP _ _ _ aB)) aN (@aS _ _ (by decide) (by decide))) (@aH _ _ _ (@aV _ _ (2) _ _ _ _ iT.nd rfl (Or.inl rfl) (@bM _ _ _ _ _ _ _ _ _ _ jW (pv 0) (@bP _ _ _ aB) cG) (by rfl) (by trivial))) aX) (@aG _ _ _ _ _ (@bQ _ _ _ _ _ _ _ _ (@PW.pt _ _ _ (@jL _ _ _ _ _ _ _ (@aQ _ _ _ _ _ _ _ _ oG (@aP _ _ _ _ _ _ _ _ _ dC rfl T.n_len bD (@aA _ _ _ _ _ (pv 2) aD (by rfl)) (by decide) (by decide) (by rfl) (by rfl)) aB (@aS _ _ (by decide) (by decide))) (@jL _ _ _ _ _ _ _ (@aQ _ _ _ _ _ _ _ _ aBE (@aP _ _ _ _ _ _ _ _ _ dC rfl T.n_len bD (@aA _ _ _ _ _ (pv 2) aD (by rfl)) (by decide) (by decide) (by rfl) (by rfl)) aB (@aS _ _ (by decide) (by decide))) (@iY _ _ _ _ (@PW.pt _ _ _ (@iN _ _ _ _ _ _ _ (@aQ _ _ _ _ _ _ _ _ dL (@bI _ _ _ _ _ _ _ nJ (pv 2) aB (fun _ _=>rfl)) aN (@aS _ _ (by decide) (by decide))) (@jY _ _ _ _ (@aQ _ _ _ _ _ _ _ _ sI (pv 0) aN (@aS _ _ (by decide) (by decide)))))))))) (@aH _ _ _ (@aM _ _ _ _ dO)) aX) (@aG _ _ _ _ _ (@mX _ _ _ _ _ _ _ _ PassesOwn.never rfl (@wI _ _ _ _ (pv 2)) (@bE _ _ (3) _ iT.nd rfl (Or.inl rfl) (by trivial)) (@aH _ _ _ (@bQ _ _ _ _ _ _ _ _ (@aQ _ _ _ _ _ _ _ _ oF (pv 3) aN (by with_unfolding_all rfl)) (@aH _ _ _ (@aM _ _ _ _ dO)) aX)) (by intro _;rfl)) (@aG _ _ _ _ _ (@bQ _ _ _ _ _ _ _ _ (@PW.pt _ _ _ (@jL _ _ _ _ _ _ _ (@aQ _ _ _ _ _ _ _ _ oG (@bS _ _ _ _ _ _ _ _ _ gN rfl T.n_int jV (@aA _ _ _ _ _ (pv 0) aD (by rfl)) (by decide) (by decide) (by rfl) (by rfl)) (pv 1) (@aS _ _ (by decide) (by decide))) (@iY _ _ _ _ (@aQ _ _ _ _ _ _ _ _ aBE (@bS _ _ _ _ _ _ _ _ _ gN rfl T.n_int jV (@aA _ _ _ _ _ (pv 0) aD (by rfl)) (by decide) (by decide) (by rfl) (by rfl)) (@aI _ _ _ _ _ _ _ _ iZ aB aB) (@aS _ _ (by decide) (by decide)))))) (@aH _ _ _ (@aM _ _ _ _ dO)) aX) (@aH _ _ _ (@aM _ _ _ _ (@bS _ _ _ _ _ _ _ _ _ gN rfl T.n_int jV (@aA _ _ _ _ _ (pv 0) aD (by rfl)) (by decide) (by decide) (by rfl) (by rfl))))))))),?_⟩
 refine nW fun u1 hu1=>?_
 have key:∀ sz:Str,sz.cps.toList = bW z → u1 { nx:=fun _ H'=>Q .non H',rt:=Q } [some (.str z),some (.int a),some (.str sz),none] H:=fun sz hsz=>by
  have hl:=xT hsz
  have hl2:=aBO z
  have hss:sz.length ≤ sizeLine:=by omega
  refine hu1 _ _ _ ?_
  refine cX fun u2 hu2=>?_
  refine ⟨_,rfl,sz,rfl,hss,_,_,rfl,rfl,_,rfl,?_⟩
  refine dR (fun h1=>?_) (fun h1=>?_)
  ·have h1':(bW z).length < 1:=by have:=of_decide_eq_true h1;omega
   have e:cT z a = none:=by unfold cT fO;rw [if_pos h1']
   rw [e] at q
   exact q
  have h1':¬ (bW z).length < 1:=fun c=>h1 (decide_eq_true (by omega))
  refine ⟨_,rfl,sz,rfl,hss,_,_,rfl,rfl,_,rfl,?_⟩
  refine dR (fun h2=>?_) (fun h2=>?_)
  ·have h2':7 < (bW z).length:=by have:=of_decide_eq_true h2;omega
   have e:cT z a = none:=by unfold cT fO;rw [if_neg h1',if_pos h2']
   rw [e] at q
   exact q
  have h2':¬ 7 < (bW z).length:=fun c=>h2 (decide_eq_true (by omega))
  obtain ⟨c0,hc0⟩:∃ c0,(bW z)[0]? = some c0:=⟨_,List.getElem?_eq_getElem (by omega)⟩
  have hd0:(bW z).head? = some c0:=by rw [List.head?_eq_getElem?];exact hc0
  have kN:¬ (((bW z).head? == some 48) = true ∧ ¬ z = "0") → u2 { nx:=fun _ H'=>Q .non H',rt:=Q } [some (.str z),some (.int a),some (.str sz),none] H:=fun h3=>by
   refine hu2 _ _ _ ?_
   refine cX fun u3 hu3=>?_
   have ed:fO z = if (bW z).all dig then some (if neg z then -((PySem.NumText.digitsVal (bW z):Nat):Int) else ((PySem.NumText.digitsVal (bW z):Nat):Int)) else none:=by
    unfold fO;rw [if_neg h1',if_neg h2',if_neg h3]
   refine ⟨_,rfl,sz,rfl,aBL (x:=sz) (fun i σ H'=>∃ v,σ = [some (.str z),some (.int a),some (.str sz),v] ∧ H' = H ∧ ((bW z).take i).all dig = true) ⟨none,rfl,rfl,rfl⟩ ?_ ?_⟩
   ·rintro i c σ H' hc ⟨v,rfl,rfl,hd⟩
    have hc':(bW z)[i]? = some c:=by rw [← hsz];simpa using hc
    refine ⟨_,rfl,_,_,rfl,rfl,_,rfl,?_⟩
    rw [vK]
    refine dR (fun h4=>?_) (fun h4=>?_)
    ·have h4':dig c = false:=by simpa using h4
     have hall:(bW z).all dig = false:=by
      cases hh:(bW z).all dig with
      | false=>rfl
      | true =>
       have:=List.all_eq_true.mp hh c (List.mem_of_getElem? hc')
       rw [h4'] at this;cases this
     have e:cT z a = none:=by unfold cT;rw [ed,hall];rfl
     rw [e] at q
     exact q
    ·have h4':dig c = true:=by
      cases hh:dig c with
      | true=>rfl
      | false=>exact absurd (by rw [hh];rfl) h4
     refine ⟨_,rfl,rfl,?_⟩
     rw [List.take_add_one,hc',List.all_append,hd]
     simp [h4']
   ·rintro σ H' ⟨v,rfl,rfl,hd⟩
    have hsl:(bW z).take sz.cps.size = bW z:=by
     rw [List.take_of_length_le]
     show (bW z).length ≤ sz.length
     omega
    rw [hsl] at hd
    refine hu3 _ _ _ ?_
    have hz8:z.length ≤ 8:=by
     have hl':z.length = z.cps.toList.length:=nO z
     have h2'':=h2'
     unfold bW at h2''
     split at h2''
     ·rw [List.length_tail] at h2''
      omega
     ·omega
    have it:=rA (z:=z) (fun c=>by rw [c] at h1';exact h1' (by decide)) (by omega) hd
    rw [hd] at ed
    generalize (if neg z then -((PySem.NumText.digitsVal (bW z):Nat):Int) else ((PySem.NumText.digitsVal (bW z):Nat):Int)) = n at it ed
    have e:cT z a = if n < a then none else if 1000000 < n then none else some n:=by unfold cT;rw [ed];rfl
    rw [e] at q
    have p6:(10:Int) ^ (6:Int).toNat = 1000000:=by decide
    refine ⟨_,rfl,z,n,rfl,it,by omega,_,rfl,_,_,rfl,rfl,_,rfl,?_⟩
    refine dR (fun h5=>?_) (fun h5=>?_)
    ·rw [if_pos (of_decide_eq_true h5)] at q
     exact q
    rw [if_neg (fun c=>h5 (decide_eq_true c))] at q
    refine ⟨_,rfl,z,n,rfl,it,by omega,_,_,rfl,rfl,⟨by decide,by decide,by decide⟩,_,_,rfl,rfl,_,rfl,?_⟩
    refine dR (fun h6=>?_) (fun h6=>?_)
    ·rw [if_pos (by have:=of_decide_eq_true h6;rw [p6] at this;exact this)] at q
     exact q
    rw [if_neg (fun c=>h6 (decide_eq_true (by rw [p6];exact c)))] at q
    exact ⟨_,rfl,z,n,rfl,it,by omega,q⟩
  have at0:atI sz.cps.toList 0 = some c0:=bC (j:=0) (by rw [hsz];exact hc0)
  refine ⟨_,rfl,sz,_,c0,rfl,rfl,hss,at0,rfl,_,rfl,?_⟩
  rw [aET]
  cases hz0:c0 == 48 with
  | false =>
   refine bN (kN fun c=>?_)
   rw [hd0] at c
   have:=c.1
   have h48:c0 = 48:=by simpa using this
   rw [h48] at hz0
   cases hz0
  | true =>
   refine cC ⟨_,rfl,rfl,_,rfl,?_⟩
   rw [dS]
   by_cases hzz:z = "0"
   ·rw [decide_eq_true hzz]
    exact bN (kN fun c=>c.2 hzz)
   ·rw [decide_eq_false hzz]
    refine cC ?_
    have h48:c0 = 48:=by simpa using hz0
    have e:cT z a = none:=by
     unfold cT fO
     rw [if_neg h1',if_neg h2',if_pos ⟨by rw [hd0,h48];rfl,hzz⟩]
    rw [e] at q
    exact q
 refine ⟨_,rfl,_,rfl,_,rfl,z,rfl,by omega,rfl,_,rfl,?_⟩
 rw [aAD]
 cases hn:neg z with
 | true=>exact cC ⟨_,rfl,_,rfl,z,rfl,by omega,key _ (by rw [rE];unfold bW;rw [if_pos hn])⟩
 | false=>exact bN (key z (by unfold bW;rw [if_neg (by rw [hn];exact Bool.false_ne_true)]))
def rP:Sp:=sp1 fun x H Q=>∃ z:Str,x = .str z ∧ z.length ≤ 100000 ∧ Q (.bl (cI z)) H
theorem oJ (T:Txt K mg C):Fc P w K mg base 1 "_law_is_name" ["_law_word"] rP:=by
 refine T.d_l_is_name.fc nY iB (fun f cdv A outer s H vs Q E hr h=>?_)
 obtain ⟨x,rfl,z,rfl,hz,q⟩:=h
 have hu:=oO hr
 have big:=aDL
 refine ⟨_,(@aG _ _ _ _ _ (@bQ _ _ _ _ _ _ _ _ (@PW.pt _ _ _ (@jL _ _ _ _ _ _ _ (@aQ _ _ _ _ _ _ _ _ oG (@aP _ _ _ _ _ _ _ _ _ dC rfl T.n_len bD (@aA _ _ _ _ _ (pv 0) aD (by rfl)) (by decide) (by decide) (by rfl) (by rfl)) aB (@aS _ _ (by decide) (by decide))) (@jL _ _ _ _ _ _ _ (@aQ _ _ _ _ _ _ _ _ aBE (@aP _ _ _ _ _ _ _ _ _ dC rfl T.n_len bD (@aA _ _ _ _ _ (pv 0) aD (by rfl)) (by decide) (by decide) (by rfl) (by rfl)) aB (@aS _ _ (by decide) (by decide))) (@iY _ _ _ _ (@aQ _ _ _ _ _ _ _ _ dL (pv 0) aN (@aS _ _ (by decide) (by decide))))))) (@aH _ _ _ (@aM _ _ _ _ fM)) aX) (@aG _ _ _ _ _ (@mX _ _ _ _ _ _ _ _ PassesOwn.never rfl (@wI _ _ _ _ (pv 0)) (@bE _ _ (1) _ nY.nd rfl (Or.inl rfl) (by trivial)) (@aH _ _ _ (@bQ _ _ _ _ _ _ _ _ (@aQ _ _ _ _ _ _ _ _ oF (pv 1) aN (by with_unfolding_all rfl)) (@aH _ _ _ (@aM _ _ _ _ fM)) aX)) (by intro _;rfl)) (@aH _ _ _ (@aM _ _ _ _ fM)))),?_⟩
 refine ⟨_,rfl,z,rfl,by omega,_,_,rfl,rfl,_,rfl,?_⟩
 have unf:cI z = (decide (1 ≤ z.length) && decide (z.length ≤ 8) && !decide (z = "sea") && z.cps.toList.all eH):=rfl
 refine dR (fun h1=>?_) (fun h1=>?_)
 ·have h1':=of_decide_eq_true h1
  rw [unf,decide_eq_false (by omega)] at q
  exact q
 have h1':1 ≤ z.length:=Nat.not_lt.mp fun c=>h1 (decide_eq_true (by omega))
 rw [unf,decide_eq_true h1',Bool.true_and] at q
 refine ⟨_,rfl,z,rfl,by omega,_,_,rfl,rfl,_,rfl,?_⟩
 refine dR (fun h2=>?_) (fun h2=>?_)
 ·have h2':=of_decide_eq_true h2
  rw [decide_eq_false (by omega)] at q
  exact q
 have h2':z.length ≤ 8:=Nat.not_lt.mp fun c=>h2 (decide_eq_true (by omega))
 rw [decide_eq_true h2',Bool.true_and] at q
 refine ⟨_,rfl,rfl,_,rfl,?_⟩
 rw [dS]
 by_cases h3:z = "sea"
 ·rw [decide_eq_true h3] at q ⊢
  exact cC q
 rw [decide_eq_false h3] at q ⊢
 refine bN ?_
 have q:Q (.bl (z.cps.toList.all eH)) H:=q
 refine ⟨_,rfl,z,rfl,aBL (x:=z) (fun i σ H'=>∃ v,σ = [some (.str z),v] ∧ H' = H ∧ (z.cps.toList.take i).all eH = true) ⟨none,rfl,rfl,rfl⟩ ?_ ?_⟩
 ·rintro i c σ H' hc ⟨v,rfl,rfl,hd⟩
  have hc':z.cps.toList[i]? = some c:=by simpa using hc
  refine ⟨_,rfl,_,_,rfl,rfl,_,rfl,?_⟩
  rw [Ld.in_letters]
  refine dR (fun h4=>?_) (fun h4=>?_)
  ·have h4':eH c = false:=by simpa using h4
   have hall:z.cps.toList.all eH = false:=by
    cases hh:z.cps.toList.all eH with
    | false=>rfl
    | true =>
     have:=List.all_eq_true.mp hh c (List.mem_of_getElem? hc')
     rw [h4'] at this
     cases this
   rw [hall] at q
   exact q
  ·have h4':eH c = true:=by
    cases hh:eH c with
    | true=>rfl
    | false=>exact absurd (by rw [hh];rfl) h4
   refine ⟨_,rfl,rfl,?_⟩
   rw [List.take_add_one,hc',List.all_append,hd]
   simp [h4']
 ·rintro σ H' ⟨v,rfl,rfl,hd⟩
  have hsl:z.cps.toList.take z.cps.size = z.cps.toList:=List.take_of_length_le (by rw [Array.length_toList];exact Nat.le_refl _)
  rw [hsl] at hd
  rw [hd] at q
  exact q
open Mt13 Mt11 Mt02
def gD (zs:List Str) (z:Str):Bool:=decide (z = "sea") || decide (z ∈ zs)
def jR (zs:List Str) (n a b c r:Str):Bool:=cI n && (!decide (a = b) && (gD zs a && (gD zs b && ((cT c (-1000000)).isSome && (cT r 0).isSome))))
def pV (c s:Str):Bool:=match cT s (-1000000),cT c (-1000000) with | some x,some y=>decide (x < y) | _,_=>false
def aBP:List Str → List Str → Bool
 | [_,n,a,b,c,r],zs=>jR zs n a b c r
 | [_,n,a,b,c,r,s],zs=>jR zs n a b c r && pV c s
 | _,_=>false
def rF (c:Str):List Str → Bool
 | [s]=>pV c s
 | _=>true
def xR (K:PySem.W.Frag):Sp:=sp2 fun x y H Q=>∃ (l lf:Addr) (ws zs:List Str),x = .ref l ∧ y = .ref lf ∧ H l = some (.lst (ws.map V.str)) ∧ H lf = some (.lst (zs.map V.str)) ∧ (ws.length = 6 ∨ ws.length = 7) ∧ (∀ z ∈ ws,z.length ≤ 3500) ∧ ∀ H',aJ H H' → Q (.bl (aBP ws zs)) H'
theorem qR {ws:List Str} (h:ws.length = 6 ∨ ws.length = 7):∃ h0 n a b c r t,ws = [h0,n,a,b,c,r] ++ t ∧ (t = [] ∨ ∃ s,t = [s]):=by
 match ws,h with
 | [h0,n,a,b,c,r],_=>exact ⟨h0,n,a,b,c,r,[],rfl,.inl rfl⟩
 | [h0,n,a,b,c,r,s],_=>exact ⟨h0,n,a,b,c,r,[s],rfl,.inr ⟨s,rfl⟩⟩
theorem wP {o:Option Int}:decide (oV o = V.non) = o.isNone:=by
 cases o with
 | none=>rfl
 | some i=>exact decide_eq_false fun c=>by cases c
theorem wO (T:Txt K mg C):Fc P w K mg base 2 "_law_is_dyke" ["_law_words_here","_law_fields_here"] (xR K):=by
 have G_l_is_name:Fc P w K mg base 1 "_law_is_name" ["_law_word"] rP:=oJ T
 have G_l_number:Fc P w K mg base 1 "_law_number" ["_law_word","_law_least"] zE:=pW T
 refine T.d_l_is_dyke.fc fS qM (fun f cdv A outer s H vs Q E hr h=>?_)
 obtain ⟨x,y,rfl,l,lf,ws,zs,rfl,rfl,hl,hlf,l67,lz,q⟩:=h
 have hu:=oO hr
 have big:=cJ
 obtain ⟨h0,n,a,b,c,r,t,rfl,ht⟩:=qR l67
 have ln:=lz n (by simp)
 have la:=lz a (by simp)
 have lb:=lz b (by simp)
 have lc:=lz c (by simp)
 have lr:=lz r (by simp)
 refine ⟨_,(@aG _ _ _ _ _ (@aV _ _ (2) _ _ _ _ fS.nd rfl (Or.inl rfl) (@bM _ _ _ _ _ _ _ _ _ _ (@cW _ (K) rfl) (pv 0) (@bP _ _ _ aB) (@bP _ _ _ aB)) (by rfl) (by trivial)) (@aG _ _ _ _ _ (@bQ _ _ _ _ _ _ _ _ (@PW.pt _ _ _ (@jL _ _ _ _ _ _ _ (@eE _ _ _ _ (@dG _ _ _ (@bR _ _ _ _ _ _ _ _ _ _ G_l_is_name (hr.mono (by decide)) (@aA _ _ _ _ _ (@bI _ _ _ _ _ _ _ (@aZ _ (K) rfl) (pv 0) aB (fun _ _=>rfl)) aD (by rfl)) (by rfl) (by decide) (by rfl) (by rfl)) (by intro _;rfl))) (@iY _ _ _ _ (@aQ _ _ _ _ _ _ _ _ dL (@bI _ _ _ _ _ _ _ (@aZ _ (K) rfl) (pv 2) aB (fun _ _=>rfl)) (@bI _ _ _ _ _ _ _ (@aZ _ (K) rfl) (pv 2) aB (fun _ _=>rfl)) (@aS _ _ (by decide) (by decide)))))) (@aH _ _ _ (@aM _ _ _ _ fM)) aX) (@aG _ _ _ _ _ (@mX _ _ _ _ _ _ _ _ PassesOwn.never rfl (@cO _ (K) _ _ _ rfl (@cP _ _ _ _ (pv 2))) (@bE _ _ (3) _ fS.nd rfl (Or.inl rfl) (by trivial)) (@aH _ _ _ (@bQ _ _ _ _ _ _ _ _ (@PW.pt _ _ _ (@iN _ _ _ _ _ _ _ (@aQ _ _ _ _ _ _ _ _ sI (pv 3) aN (@aS _ _ (by decide) (by decide))) (@jY _ _ _ _ (@aQ _ _ _ _ _ _ _ _ (@jA _ (K) rfl) (pv 3) (pv 1) (by with_unfolding_all rfl))))) (@aH _ _ _ (@aM _ _ _ _ fM)) aX)) (by intro _;rfl)) (@aG _ _ _ _ _ (@aV _ _ (4) _ _ _ _ fS.nd rfl (Or.inl rfl) (@bR _ _ _ _ _ _ _ _ _ _ G_l_number (hr.mono (by decide)) (@aA _ _ _ _ _ (@bI _ _ _ _ _ _ _ (@aZ _ (K) rfl) (pv 0) aB (fun _ _=>rfl)) (@aA _ _ _ _ _ (@aI _ _ _ _ _ _ _ _ iO aB (@aI _ _ _ _ _ _ _ _ iZ aB aB)) aD (by rfl)) (by rfl)) (by rfl) (by decide) (by rfl) (by rfl)) (by rfl) (by trivial)) (@aG _ _ _ _ _ (@bQ _ _ _ _ _ _ _ _ (@PW.pt _ _ _ (@jL _ _ _ _ _ _ _ (@aQ _ _ _ _ _ _ _ _ pH (pv 4) dO (@aS _ _ (by decide) (by decide))) (@iY _ _ _ _ (@aQ _ _ _ _ _ _ _ _ pH (@bR _ _ _ _ _ _ _ _ _ _ G_l_number (hr.mono (by decide)) (@aA _ _ _ _ _ (@bI _ _ _ _ _ _ _ (@aZ _ (K) rfl) (pv 0) aB (fun _ _=>rfl)) (@aA _ _ _ _ _ aB aD (by rfl)) (by rfl)) (by rfl) (by decide) (by rfl) (by rfl)) dO (@aS _ _ (by decide) (by decide)))))) (@aH _ _ _ (@aM _ _ _ _ fM)) aX) (@aG _ _ _ _ _ (@bQ _ _ _ _ _ _ _ _ (@aQ _ _ _ _ _ _ _ _ dL (@aP _ _ _ _ _ _ _ _ _ (@bA _ (K) rfl) rfl T.n_len bD (@aA _ _ _ _ _ (pv 0) aD (by rfl)) (by decide) (by decide) (by rfl) (by rfl)) aB (@aS _ _ (by decide) (by decide))) (@aG _ _ _ _ _ (@aV _ _ (5) _ _ _ _ fS.nd rfl (Or.inl rfl) (@bR _ _ _ _ _ _ _ _ _ _ G_l_number (hr.mono (by decide)) (@aA _ _ _ _ _ (@bI _ _ _ _ _ _ _ (@aZ _ (K) rfl) (pv 0) aB (fun _ _=>rfl)) (@aA _ _ _ _ _ (@aI _ _ _ _ _ _ _ _ iO aB (@aI _ _ _ _ _ _ _ _ iZ aB aB)) aD (by rfl)) (by rfl)) (by rfl) (by decide) (by rfl) (by rfl)) (by rfl) (by trivial)) (@aH _ _ _ (@aM _ _ _ _ (@cV _ _ _ _ _ _ _ (@eS _ _ _ _ _ _ _ _ qT (pv 5) dO (@aS _ _ (by decide) (by decide))) (@eF _ _ _ _ _ (@eS _ _ _ _ _ _ _ _ oG (pv 5) (pv 4) (@aS _ _ (by decide) (by decide)))))))) aX) (@aH _ _ _ (@aM _ _ _ _ fM)))))))),?_⟩
 have ecut:fE (([h0,n,a,b,c,r] ++ t).map V.str) (some 2) (some 4) = [.str a,.str b]:=by
  rcases ht with rfl | ⟨s,rfl⟩ <;> rfl
 have at1:atI (([h0,n,a,b,c,r] ++ t).map V.str) 1 = some (.str n):=bC (j:=1) rfl
 have at4:atI (([h0,n,a,b,c,r] ++ t).map V.str) 4 = some (.str c):=bC (j:=4) rfl
 have at5:atI (([h0,n,a,b,c,r] ++ t).map V.str) 5 = some (.str r):=bC (j:=5) rfl
 have eq0:aBP ([h0,n,a,b,c,r] ++ t) zs = (jR zs n a b c r && rF c t):=by
  rcases ht with rfl | ⟨s,rfl⟩
  ·show jR zs n a b c r = (jR zs n a b c r && true)
   rw [Bool.and_true]
  ·rfl
 rw [eq0] at q
 refine ⟨_,rfl,_,rfl,_,rfl,l,_,rfl,SqL.of hl,fun l1 h1=>?_⟩
 rw [ecut]
 have S1:=aJ.upd (o:=.lst [.str a,.str b]) h1
 have r1:upd H l1 (.lst [.str a,.str b]) l1 = some (.lst [.str a,.str b]):=aF
 have hl1:=S1 _ _ hl
 have hlf1:=S1 _ _ hlf
 generalize upd H l1 (.lst [.str a,.str b]) = H1 at S1 r1 hl1 hlf1
 have q:∀ v,v = (jR zs n a b c r && rF c t) → Q (.bl v) H1:=fun v e=>by rw [e];exact q H1 S1
 refine gσ (σ':=[some (.ref l),some (.ref lf),some (.ref l1),none,none,none]) rfl ?_
 refine ⟨_,rfl,l,_,_,.str n,rfl,rfl,SqL.of hl1,at1,_,rfl,n,rfl,by omega,_,rfl,?_⟩
 cases hn:cI n with
 | false =>
  refine cC ?_
  exact q _ (by unfold jR;rw [hn];rfl)
 | true =>
  refine bN ?_
  refine ⟨_,rfl,l1,_,_,.str a,rfl,rfl,SqL.of r1,bC (j:=0) rfl,_,rfl,l1,_,_,.str b,rfl,rfl,SqL.of r1,bC (j:=1) rfl,rfl,_,rfl,?_⟩
  rw [dS]
  by_cases hab:a = b
  ·rw [decide_eq_true hab]
   refine cC ?_
   exact q _ (by unfold jR;rw [hn,decide_eq_true hab];rfl)
  rw [decide_eq_false hab]
  refine bN ?_
  have hQ:∀ v,v = (gD zs a && (gD zs b && ((cT c (-1000000)).isSome && (cT r 0).isSome)) && rF c t) → Q (.bl v) H1:=fun v e=>q v (by unfold jR;rw [hn,decide_eq_false hab,e];rfl)
  refine ⟨_,rfl,l1,rfl,⟨_,SqL.of r1⟩,tD (K:=K) (a:=l1) (xs:=[.str a,.str b]) (fun j σ H'=>∃ v,σ = [some (.ref l),some (.ref lf),some (.ref l1),v,none,none] ∧ H' = H1 ∧ (0 < j → gD zs a = true) ∧ (1 < j → gD zs b = true)) ⟨_,rfl,rfl,fun h=>absurd h (by omega),fun h=>absurd h (by omega)⟩ (fun j σ H' _ ⟨_,_,e,_⟩=>by rw [e];exact SqL.of r1) ?_ ?_⟩
  ·rintro j xv σ H' hj ⟨v,rfl,rfl,j1,j2⟩
   have hj2:j < 2:=(List.getElem?_eq_some_iff.mp hj).1
   obtain ⟨z,rfl,bad,good⟩:∃ z:Str,xv = .str z ∧ (gD zs z = false → ∀ v,v = false → Q (.bl v) H') ∧ (gD zs z = true → (0 < j + 1 → gD zs a = true) ∧ (1 < j + 1 → gD zs b = true)):=by
    match j,hj2 with
    | 0,_ =>
     cases hj
     exact ⟨a,rfl,fun hs v e=>hQ v (by rw [hs,e];rfl),fun hs=>⟨fun _=>hs,fun h=>absurd h (by omega)⟩⟩
    | 1,_ =>
     cases hj
     exact ⟨b,rfl,fun hs v e=>hQ v (by rw [hs,e,j1 (by omega)];rfl),fun hs=>⟨fun _=>j1 (by omega),fun _=>hs⟩⟩
   refine ⟨_,rfl,rfl,_,rfl,?_⟩
   rw [dS]
   by_cases hz:z = "sea"
   ·rw [decide_eq_true hz]
    have hs:gD zs z = true:=by unfold gD;rw [decide_eq_true hz];rfl
    exact bN ⟨_,rfl,rfl,good hs⟩
   ·rw [decide_eq_false hz]
    refine cC ?_
    refine ⟨_,rfl,_,rfl,lf,_,rfl,.inl (SqL.of hlf1),rfl,mK _,_,rfl,?_⟩
    rw [if_pos rfl,qX]
    by_cases hm:z ∈ zs
    ·rw [decide_eq_true hm]
     have hs:gD zs z = true:=by unfold gD;rw [decide_eq_true hm,Bool.or_true]
     exact bN ⟨_,rfl,rfl,good hs⟩
    ·rw [decide_eq_false hm]
     have hs:gD zs z = false:=by unfold gD;rw [decide_eq_false hz,decide_eq_false hm];rfl
     exact cC (bad hs _ rfl)
  rintro σ H' ⟨v,rfl,rfl,j1,j2⟩
  have hQ:∀ v,v = ((cT c (-1000000)).isSome && (cT r 0).isSome && rF c t) → Q (.bl v) H':=fun v e=>hQ v (by rw [e,j1 (by show 0 < 2;omega),j2 (by show 1 < 2;omega)];rfl)
  have e6:(0:Int) - 10 ^ (6:Int).toNat = -1000000:=by decide
  refine ⟨_,rfl,l,_,_,.str c,rfl,rfl,SqL.of hl1,at4,_,_,rfl,rfl,⟨by decide,by decide,by decide⟩,_,_,rfl,rfl,_,_,rfl,c,_,rfl,rfl,by omega,?_⟩
  rw [e6]
  refine gσ (σ':=[some (.ref l),some (.ref lf),some (.ref l1),v,some (oV (cT c (-1000000))),none]) rfl ?_
  refine ⟨_,rfl,rfl,_,rfl,?_⟩
  rw [wP]
  cases hc:cT c (-1000000) with
  | none =>
   refine cC ?_
   exact hQ _ (by rw [hc];rfl)
  | some cr =>
   refine bN ?_
   refine ⟨_,rfl,l,_,_,.str r,rfl,rfl,SqL.of hl1,at5,_,_,rfl,r,_,rfl,rfl,by omega,rfl,_,rfl,?_⟩
   rw [wP]
   cases hr0:cT r 0 with
   | none =>
    refine cC ?_
    exact hQ _ (by rw [hc,hr0];rfl)
   | some rt =>
    refine bN ?_
    have hQ:∀ v,v = rF c t → Q (.bl v) H':=fun v e=>hQ v (by rw [hc,hr0,e];rfl)
    refine ⟨_,rfl,l,_,rfl,.inl (SqL.of hl1),rfl,_,rfl,?_⟩
    rcases ht with rfl | ⟨sl,rfl⟩
    ·refine bN ?_
     exact hQ _ rfl
    ·have at6:atI (([h0,n,a,b,c,r] ++ [sl]).map V.str) 6 = some (.str sl):=bC (j:=6) rfl
     have ls:=lz sl (by simp)
     refine cC ?_
     refine ⟨_,rfl,l,_,_,.str sl,rfl,rfl,SqL.of hl1,at6,_,_,rfl,rfl,⟨by decide,by decide,by decide⟩,_,_,rfl,rfl,_,_,rfl,sl,_,rfl,rfl,by omega,?_⟩
     rw [e6]
     refine gσ (σ':=[some (.ref l),some (.ref lf),some (.ref l1),v,some (.int cr),some (oV (cT sl (-1000000)))]) rfl ?_
     have ht:rF c [sl] = match cT sl (-1000000) with | some x=>decide (x < cr) | none=>false:=by
      show pV c sl = _
      unfold pV
      rw [hc]
      cases cT sl (-1000000) <;> rfl
     rw [ht] at hQ
     cases hs:cT sl (-1000000) with
     | none =>
      rw [hs] at hQ
      exact ⟨_,rfl,rfl,_,rfl,hQ _ rfl⟩
     | some x =>
      rw [hs] at hQ
      exact ⟨_,rfl,rfl,_,rfl,_,rfl,_,rfl,_,_,rfl,rfl,hQ _ rfl⟩
open Mt13 Mt11 Mt02
theorem yP:∀ (k:Nat) (l:List Nat),l.length ≤ k → l ≠ [] → (∀ c ∈ l,48 ≤ c ∧ c ≤ 57) → (l.head? = some 48 → l = [48]) → dg (PySem.NumText.digitsVal l) = l
 | 0,l,h,ne,_,_=>absurd (List.length_eq_zero_iff.mp (by omega)) ne
 | k + 1,l,h,ne,all,hd=>by
  obtain ⟨L,b,rfl⟩:∃ L b,l = L ++ [b]:=⟨l.dropLast,l.getLast ne,(List.dropLast_concat_getLast ne).symm⟩
  have hb:=all b (by simp)
  rw [List.length_append] at h
  have h1:L.length ≤ k:=by simpa using h
  rw [xI]
  by_cases hL:L = []
  ·subst hL
   show dg (0 * 10 + (b - 48)) = [b]
   rw [oR (by omega)]
   congr 1
   omega
  ·have h48:L.head? ≠ some 48:=fun e=>by
    have:=hd (by
     cases L with
     | nil=>exact absurd rfl hL
     | cons x y=>exact e)
    have hl:=congrArg List.length this
    rw [List.length_append] at hl
    have:L.length = 0:=by simpa using hl
    exact hL (List.length_eq_zero_iff.mp this)
   have ih:=yP k L h1 hL (fun c m=>all c (List.mem_append_left _ m)) (fun e=>absurd e h48)
   have pos:1 ≤ PySem.NumText.digitsVal L:=by
    rcases Nat.eq_zero_or_pos (PySem.NumText.digitsVal L) with e | e
    ·rw [e,oR (by decide)] at ih
     exact absurd (by rw [← ih];rfl) h48
    ·exact e
   rw [yO (by omega),show (PySem.NumText.digitsVal L * 10 + (b - 48)) / 10 = PySem.NumText.digitsVal L by omega,ih]
   congr 2
   omega
theorem aDC {z:Str} {n:Int} (h:fO z = some n):z = toS n:=by
 unfold fO at h
 split at h
 ·cases h
 rename_i h1
 split at h
 ·cases h
 split at h
 ·cases h
 rename_i h3
 split at h
 case isFalse=>cases h
 rename_i h4
 by_cases z0:z = "0"
 ·subst z0
  have:n = 0:=by
   have e:=Option.some.inj h
   rw [← e]
   decide +kernel
  subst this
  decide +kernel
 have hd:(bW z).head? ≠ some 48:=fun e=>h3 ⟨by rw [e];rfl,z0⟩
 have ne:bW z ≠ []:=fun e=>by rw [e] at h1;exact h1 (by decide)
 have cn:=yP _ (bW z) (Nat.le_refl _) ne (fun c m=>wX.mp (List.all_eq_true.mp h4 c m)) (fun e=>absurd e hd)
 have pos:1 ≤ PySem.NumText.digitsVal (bW z):=by
  rcases Nat.eq_zero_or_pos (PySem.NumText.digitsVal (bW z)) with e | e
  ·rw [e,oR (by decide)] at cn
   exact absurd (by rw [← cn];rfl) hd
  ·exact e
 have e:=Option.some.inj h
 refine Mt13.str_ext.mpr ?_
 unfold toS
 rw [jQ]
 cases hn:neg z with
 | true =>
  rw [hn,if_pos rfl] at e
  have hf:z.cps.toList = 45 :: bW z:=by
   unfold bW
   rw [hn,if_pos rfl]
   unfold neg at hn
   cases hz:z.cps.toList with
   | nil=>rw [hz] at hn;cases hn
   | cons a b =>
    rw [hz] at hn
    have:some a = some 45:=eq_of_beq hn
    rw [Option.some.inj this]
    rfl
  rw [if_pos (by omega),hf,show n.natAbs = PySem.NumText.digitsVal (bW z) by omega,cn]
 | false =>
  rw [hn,if_neg (by simp)] at e
  have hf:z.cps.toList = bW z:=by
   unfold bW
   rw [hn,if_neg (by simp)]
  rw [if_neg (by omega),hf,show n.natAbs = PySem.NumText.digitsVal (bW z) by omega,cn]
theorem aHQ {i:Int} (h:i.natAbs ≤ 1000000):fO (toS i) = some i:=aBQ (by omega)
theorem aCF (row:Str):row = fL (Txt.split row " "):=by
 have h1:=StrLaws.join_split row " "
 unfold fL Txt.join
 rw [StrLaws.glued_eq_join]
 exact h1.symm
theorem lJ {i a:Int} (h:i.natAbs ≤ 1000000) (h1:a ≤ i) (h2:i ≤ 1000000):cT (toS i) a = some i:=by
 unfold cT
 rw [aHQ h]
 dsimp only
 rw [if_neg (by omega),if_neg (by omega)]
theorem lK {z:Str} {a n:Int} (h:cT z a = some n):z = toS n ∧ a ≤ n ∧ n ≤ 1000000:=by
 unfold cT at h
 cases e:fO z with
 | none=>rw [e] at h;cases h
 | some m =>
  rw [e] at h
  dsimp only at h
  split at h
  ·cases h
  ·split at h
   ·cases h
   ·cases h
    exact ⟨aDC e,by omega,by omega⟩
def gB (ws fn dn:List Str):Bool:=match ws with
 | [h,n,_,_]=>decide (h = "field") && (decide (dn = []) && !decide (n ∈ fn))
 | _=>false
def uY:List Str → Bool
 | [_,n,g,u]=>cI n && ((cT g (-1000000)).isSome && (cT u 0).isSome)
 | _=>false
def jT (ws fn dn:List Str):Bool:=decide (ws.head? = some ("dyke":Str)) && (decide (ws.length = 6 ∨ ws.length = 7) && (!decide (ws.getD 1 "" ∈ dn) && aBP ws fn))
def dI (fn dn ws:List Str):Option (List Str × List Str) :=
 if gB ws fn dn then (if uY ws then some (fn ++ [ws.getD 1 ""],dn) else none)
 else if jT ws fn dn then some (fn,dn ++ [ws.getD 1 ""]) else none
def eL:List (List Str) → List Str → List Str → Option (List Str × List Str)
 | [],fn,dn=>some (fn,dn)
 | ws :: r,fn,dn=>match dI fn dn ws with
  | some (f,d)=>eL r f d
  | none=>none
def aFZ (p:List Str × List Str):Bool:=decide (1 ≤ p.1.length) && (decide (p.1.length ≤ 12) && (decide (1 ≤ p.2.length) && decide (p.2.length ≤ 40)))
def lN (t:Str):Bool:=match eL (bZ t) [] [] with | some p=>aFZ p | none=>false
theorem zY {i:Int} (h1:-1000000 ≤ i) (h2:i ≤ 1000000):hgt i = true:=by unfold hgt;rw [decide_eq_true h1,decide_eq_true h2];rfl
theorem aGE {i:Int} (h1:0 ≤ i) (h2:i ≤ 1000000):amt i = true:=by unfold amt;rw [decide_eq_true h1,decide_eq_true h2];rfl
theorem aCZ {ws fn dn:List Str} (h:gB ws fn dn = true) (hn:uY ws = true):∃ d,bT d = true ∧ ws = dW d ∧ dn = [] ∧ ws.getD 1 "" = bH d ∧ ¬ bH d ∈ fn:=by
 unfold gB at h
 split at h
 ·rename_i h0 n g u
  rw [Bool.and_eq_true,Bool.and_eq_true] at h
  obtain ⟨a,b,c⟩:=h
  have hn':(cI n && ((cT g (-1000000)).isSome && (cT u 0).isSome)) = true:=hn
  rw [Bool.and_eq_true,Bool.and_eq_true] at hn'
  obtain ⟨n1,n2,n3⟩:=hn'
  obtain ⟨gi,eg⟩:=Option.isSome_iff_exists.mp n2
  obtain ⟨ui,eu⟩:=Option.isSome_iff_exists.mp n3
  obtain ⟨rfl,g1,g2⟩:=lK eg
  obtain ⟨rfl,u1,u2⟩:=lK eu
  have c':¬ n ∈ fn:=by
   intro m
   rw [decide_eq_true m] at c
   cases c
  refine ⟨.tup [.str n,.int gi,.int ui],?_,?_,of_decide_eq_true b,rfl,c'⟩
  ·show (kF (.str n) && (gA (.int gi) && hG (.int ui))) = true
   rw [show kF (.str n) = true from n1,show gA (.int gi) = true from zY g1 g2,show hG (.int ui) = true from aGE u1 u2]
   rfl
  ·rw [of_decide_eq_true a]
   rfl
 ·cases h
theorem qQ {fn:List Str} {z:Str}:gD fn z = true ↔ z ∈ ("sea" :: fn:List Str):=by
 unfold gD
 rw [Bool.or_eq_true,decide_eq_true_iff,decide_eq_true_iff,List.mem_cons]
theorem aFV {ws fn dn:List Str} (h:jT ws fn dn = true):∃ d,cE ("sea" :: fn) d = true ∧ ws = dN d ∧ ws.getD 1 "" = bH d ∧ ¬ bH d ∈ dn:=by
 unfold jT at h
 rw [Bool.and_eq_true,Bool.and_eq_true,Bool.and_eq_true] at h
 obtain ⟨a,b,c,e⟩:=h
 have a:=of_decide_eq_true a
 obtain ⟨h0,n,aa,bb,cc,r,t,rfl,ht⟩:=qR (of_decide_eq_true b)
 have h0e:h0 = "dyke":=Option.some.inj a
 subst h0e
 have c':¬ n ∈ dn:=by
  intro m
  have:decide ((([("dyke":Str),n,aa,bb,cc,r] ++ t).getD 1 "") ∈ dn) = true:=decide_eq_true m
  rw [this] at c
  cases c
 have hh:jR fn n aa bb cc r = true ∧ rF cc t = true:=by
  rcases ht with rfl | ⟨s,rfl⟩
  ·exact ⟨e,rfl⟩
  ·exact Bool.and_eq_true_iff.mp e
 obtain ⟨hd,tl⟩:=hh
 unfold jR at hd
 rw [Bool.and_eq_true,Bool.and_eq_true,Bool.and_eq_true,Bool.and_eq_true,Bool.and_eq_true] at hd
 obtain ⟨n1,n2,n3,n4,n5,n6⟩:=hd
 obtain ⟨ci,ec⟩:=Option.isSome_iff_exists.mp n5
 obtain ⟨ri,er⟩:=Option.isSome_iff_exists.mp n6
 obtain ⟨e1,c1,c2⟩:=lK ec
 obtain ⟨e2,r1,r2⟩:=lK er
 have hab:¬ aa = bb:=fun h=>by rw [decide_eq_true h] at n2;cases n2
 have mk:∀ sl,lP (.int ci) sl = true → cE ("sea" :: fn) (.tup [.str n,.str aa,.str bb,.int ci,.int ri,sl]) = true:=fun sl hs=>by
  exact qY n1 (qQ.mp n3) (qQ.mp n4) hab (zY c1 c2) (aGE r1 r2) hs
 rcases ht with rfl | ⟨s,rfl⟩
 ·refine ⟨.tup [.str n,.str aa,.str bb,.int ci,.int ri,.non],mk _ rfl,?_,rfl,c'⟩
  rw [e1,e2]
  rfl
 ·have tl':pV cc s = true:=tl
  unfold pV at tl'
  rw [ec] at tl'
  cases es:cT s (-1000000) with
  | none=>rw [es] at tl';cases tl'
  | some si =>
   rw [es] at tl'
   obtain ⟨e3,s1,s2⟩:=lK es
   have lt:=of_decide_eq_true (show decide (si < ci) = true from tl')
   refine ⟨.tup [.str n,.str aa,.str bb,.int ci,.int ri,.int si],mk _ ?_,?_,rfl,c'⟩
   ·show (hgt si && decide (si < ci)) = true
    rw [zY s1 s2,decide_eq_true lt]
    rfl
   ·rw [e1,e2,e3]
    rfl
theorem pM:∀ {rows:List (List Str)} {fn dn f d:List Str},eL rows fn dn = some (f,d) → fn.Nodup → dn.Nodup → ∃ fs ds:List Dv,rows = fs.map dW ++ ds.map dN ∧ (dn ≠ [] → fs = []) ∧ f = fn ++ fs.map bH ∧ d = dn ++ ds.map bH ∧ (∀ x ∈ fs,bT x = true) ∧ (∀ x ∈ ds,cE ("sea" :: f) x = true) ∧ f.Nodup ∧ d.Nodup
 | [],fn,dn,f,d,h,nf,nd=>by
  cases h
  exact ⟨[],[],rfl,fun _=>rfl,(List.append_nil _).symm,(List.append_nil _).symm,(fun x m=>by cases m),(fun x m=>by cases m),nf,nd⟩
 | ws :: rows,fn,dn,f,d,h,nf,nd=>by
  have h:(match dI fn dn ws with | some (f,d)=>eL rows f d | none=>none) = some (f,d):=h
  cases hf:gB ws fn dn with
  | true =>
   cases hn:uY ws with
   | false =>
    rw [show dI fn dn ws = none by unfold dI;rw [hf,hn];rfl] at h
    cases h
   | true =>
    rw [show dI fn dn ws = some (fn ++ [ws.getD 1 ""],dn) by unfold dI;rw [hf,hn];rfl] at h
    obtain ⟨x,hx,ew,ed,en,nx⟩:=aCZ hf hn
    rw [en] at h
    obtain ⟨fs,ds,e1,e2,e3,e4,e5,e6,e7,e8⟩:=pM h (by
     rw [List.nodup_append]
     exact ⟨nf,by simp,fun a ha b hb=>by rw [List.mem_singleton.mp hb];exact fun c=>nx (c ▸ ha)⟩) nd
    refine ⟨x :: fs,ds,by rw [ew,e1];rfl,fun c=>absurd ed c,by rw [e3,List.append_assoc];rfl,e4,fun y m=>?_,e6,e7,e8⟩
    rcases List.mem_cons.mp m with rfl | m
    ·exact hx
    ·exact e5 y m
  | false =>
   cases hc:jT ws fn dn with
   | false =>
    rw [show dI fn dn ws = none by unfold dI;rw [hf,hc];rfl] at h
    cases h
   | true =>
    rw [show dI fn dn ws = some (fn,dn ++ [ws.getD 1 ""]) by unfold dI;rw [hf,hc];rfl] at h
    obtain ⟨x,hx,ew,en,nx⟩:=aFV hc
    rw [en] at h
    obtain ⟨fs,ds,e1,e2,e3,e4,e5,e6,e7,e8⟩:=pM h nf (by
     rw [List.nodup_append]
     exact ⟨nd,by simp,fun a ha b hb=>by rw [List.mem_singleton.mp hb];exact fun c=>nx (c ▸ ha)⟩)
    have e2:=e2 (by simp)
    subst e2
    rw [List.map_nil,List.append_nil] at e3
    subst e3
    refine ⟨[],x :: ds,by rw [ew,e1];rfl,fun _=>rfl,(List.append_nil _).symm,by rw [e4,List.append_assoc];rfl,(fun y m=>by cases m),fun y m=>?_,e7,e8⟩
    rcases List.mem_cons.mp m with rfl | m
    ·exact hx
    ·exact e6 y m
theorem oN:∀ {fs:List Dv} {fn:List Str} {r:List (List Str)},(∀ x ∈ fs,bT x = true) → (fn ++ fs.map bH).Nodup → eL (fs.map dW ++ r) fn [] = eL r (fn ++ fs.map bH) []
 | [],fn,r,_,_=>by rw [List.map_nil,List.map_nil,List.append_nil];rfl
 | x :: fs,fn,r,h,nd=>by
  obtain ⟨z,g,u,rfl,hz,hg,hu'⟩:=bF (h x List.mem_cons_self)
  have hg':=Bool.and_eq_true_iff.mp hg
  have hu2:=Bool.and_eq_true_iff.mp hu'
  have nz:¬ z ∈ fn:=by
   intro m
   rw [List.map_cons,List.nodup_append] at nd
   exact nd.2.2 z m z List.mem_cons_self rfl
  have hf:gB (dW (.tup [.str z,.int g,.int u])) fn [] = true:=by
   show (decide (("field":Str) = "field") && (decide (([]:List Str) = []) && !decide (z ∈ fn))) = true
   rw [decide_eq_true rfl,decide_eq_true rfl,decide_eq_false nz]
   rfl
  have hn:uY (dW (.tup [.str z,.int g,.int u])) = true:=by
   show (cI z && ((cT (toS g) (-1000000)).isSome && (cT (toS u) 0).isSome)) = true
   rw [hz,lJ (cH hg) (of_decide_eq_true hg'.1) (of_decide_eq_true hg'.2),lJ (dZ hu') (of_decide_eq_true hu2.1) (of_decide_eq_true hu2.2)]
   rfl
  have st:dI fn [] (dW (.tup [.str z,.int g,.int u])) = some (fn ++ [z],[]):=by
   unfold dI
   rw [hf,hn]
   rfl
  have nd':(fn ++ [z] ++ fs.map bH).Nodup:=by rw [List.append_assoc];exact nd
  have ih:=oN (r:=r) (fun x m=>h x (List.mem_cons_of_mem _ m)) nd'
  show (match dI fn [] (dW (.tup [.str z,.int g,.int u])) with | some (f,d)=>eL (fs.map dW ++ r) f d | none=>none) = _
  rw [st]
  show eL (fs.map dW ++ r) (fn ++ [z]) [] = _
  rw [ih,List.append_assoc]
  rfl
theorem qA {fn:List Str}:∀ {ds:List Dv} {dn:List Str},(∀ x ∈ ds,cE ("sea" :: fn) x = true) → (dn ++ ds.map bH).Nodup → eL (ds.map dN) fn dn = some (fn,dn ++ ds.map bH)
 | [],dn,_,_=>by rw [List.map_nil,List.map_nil,List.append_nil];rfl
 | x :: ds,dn,h,nd=>by
  obtain ⟨n,a,b,c,r,sl,rfl,hn,ha,hb,hab,hc,hr',hs⟩:=dH (h x List.mem_cons_self)
  have hc':=Bool.and_eq_true_iff.mp hc
  have hr2:=Bool.and_eq_true_iff.mp hr'
  have nz:¬ n ∈ dn:=by
   intro m
   rw [List.map_cons,List.nodup_append] at nd
   exact nd.2.2 n m n List.mem_cons_self rfl
  have nc:cT (toS c) (-1000000) = some c:=lJ (cH hc) (of_decide_eq_true hc'.1) (of_decide_eq_true hc'.2)
  have nr:cT (toS r) 0 = some r:=lJ (dZ hr') (of_decide_eq_true hr2.1) (of_decide_eq_true hr2.2)
  have hd:jR fn n a b (toS c) (toS r) = true:=by
   unfold jR
   rw [hn,decide_eq_false (show ¬ a = b from hab),qQ.mpr ha,qQ.mpr hb,nc,nr]
   rfl
  have hf:gB (dN (.tup [.str n,.str a,.str b,.int c,.int r,sl])) fn dn = false:=by
   cases sl with
   | non=>rfl
   | int i=>rfl
   | _=>cases hs
  have hC:jT (dN (.tup [.str n,.str a,.str b,.int c,.int r,sl])) fn dn = true:=by
   unfold jT
   cases sl with
   | non =>
    refine Bool.and_eq_true_iff.mpr ⟨decide_eq_true rfl,Bool.and_eq_true_iff.mpr ⟨decide_eq_true (.inl rfl),Bool.and_eq_true_iff.mpr ⟨?_,hd⟩⟩⟩
    show (!decide (n ∈ dn)) = true
    rw [decide_eq_false nz]
    rfl
   | int i =>
    have hi:=Bool.and_eq_true_iff.mp (show (hgt i && decide (i < c)) = true from hs)
    have hi1:=Bool.and_eq_true_iff.mp hi.1
    have ni:cT (toS i) (-1000000) = some i:=lJ (cH hi.1) (of_decide_eq_true hi1.1) (of_decide_eq_true hi1.2)
    have hsb:pV (toS c) (toS i) = true:=by
     unfold pV
     rw [ni,nc]
     exact hi.2
    refine Bool.and_eq_true_iff.mpr ⟨decide_eq_true rfl,Bool.and_eq_true_iff.mpr ⟨decide_eq_true (.inr rfl),Bool.and_eq_true_iff.mpr ⟨?_,Bool.and_eq_true_iff.mpr ⟨hd,hsb⟩⟩⟩⟩
    show (!decide (n ∈ dn)) = true
    rw [decide_eq_false nz]
    rfl
   | _=>cases hs
  have gd:(dN (.tup [.str n,.str a,.str b,.int c,.int r,sl])).getD 1 "" = n:=by
   cases sl with
   | non=>rfl
   | int i=>rfl
   | _=>cases hs
  have st:dI fn dn (dN (.tup [.str n,.str a,.str b,.int c,.int r,sl])) = some (fn,dn ++ [n]):=by
   unfold dI
   rw [hf,hC,gd]
   rfl
  have nd':(dn ++ [n] ++ ds.map bH).Nodup:=by rw [List.append_assoc];exact nd
  have ih:=qA (fun x m=>h x (List.mem_cons_of_mem _ m)) nd'
  show (match dI fn dn (dN (.tup [.str n,.str a,.str b,.int c,.int r,sl])) with | some (f,d)=>eL (ds.map dN) f d | none=>none) = _
  rw [st]
  show eL (ds.map dN) fn (dn ++ [n]) = _
  rw [ih,List.append_assoc]
  rfl
theorem aBY (t:Str):t = Txt.join "\n" ((bZ t).map fL):=by
 unfold bZ
 rw [List.map_map]
 have e:(Txt.split t "\n").map (fL ∘ fun r=>Txt.split r " ") = Txt.split t "\n":=by
  conv=>rhs;rw [← List.map_id (Txt.split t "\n")]
  exact List.map_congr_left fun r _=>(aCF r).symm
 rw [e]
 unfold Txt.join
 rw [StrLaws.glued_eq_join]
 exact (StrLaws.join_split t "\n").symm
theorem yH (t:Str):lN t = true ↔ nN t:=by
 constructor
 ·intro h
  unfold lN at h
  cases e:eL (bZ t) [] [] with
  | none=>rw [e] at h;cases h
  | some p =>
   obtain ⟨f,d⟩:=p
   rw [e] at h
   have h:(decide (1 ≤ f.length) && (decide (f.length ≤ 12) && (decide (1 ≤ d.length) && decide (d.length ≤ 40)))) = true:=h
   rw [Bool.and_eq_true,Bool.and_eq_true,Bool.and_eq_true] at h
   obtain ⟨l1,l2,l3,l4⟩:=h
   have l1:=of_decide_eq_true l1
   have l2:=of_decide_eq_true l2
   have l3:=of_decide_eq_true l3
   have l4:=of_decide_eq_true l4
   obtain ⟨fs,ds,e1,_,e3,e4,e5,e6,e7,e8⟩:=pM e List.nodup_nil List.nodup_nil
   rw [List.nil_append] at e3 e4
   subst e3
   subst e4
   rw [List.length_map] at l1 l2 l3 l4
   refine ⟨fs,ds,⟨l1,l2,e5,e7⟩,⟨l3,l4,e6,e8⟩,?_⟩
   conv=>lhs;rw [aBY t]
   rw [e1,List.map_append,List.map_map,List.map_map]
   rfl
 ·rintro ⟨fs,ds,gf,gd,rfl⟩
  unfold lN
  rw [qZ gf gd,oN (fn:=[]) gf.all (by rw [List.nil_append];exact gf.nd),List.nil_append,qA (dn:=[]) gd.all (by rw [List.nil_append];exact gd.nd),List.nil_append]
  show (decide (1 ≤ (fs.map bH).length) && (decide ((fs.map bH).length ≤ 12) && (decide (1 ≤ (ds.map bH).length) && decide ((ds.map bH).length ≤ 40)))) = true
  rw [List.length_map,List.length_map,decide_eq_true gf.l1,decide_eq_true gf.l2,decide_eq_true gd.l1,decide_eq_true gd.l2]
  rfl
open Mt13 Mt11 Mt02
theorem aBI {t u:TT} {a b:TS} {D:Ends} {σ:L2.St} {H:Hp} (c:Bool) (h:∀ KK:Bool → Hp → Prop,(∀ H',aJ H H' → KK c H') → aIS t u σ H KK) (hq:∀ H',aJ H H' → if c = true then a D σ H' else b D σ H'):aKI (aIS t u) a b D σ H:=h _ hq
theorem pN:∀ (a b:List (List Str)) (fn dn:List Str),eL (a ++ b) fn dn = match eL a fn dn with | some (f,d)=>eL b f d | none=>none
 | [],b,fn,dn=>rfl
 | ws :: a,b,fn,dn=>by
  show (match dI fn dn ws with | some (f,d)=>eL (a ++ b) f d | none=>none) = match (match dI fn dn ws with | some (f,d)=>eL a f d | none=>none) with | some (f,d)=>eL b f d | none=>none
  cases dI fn dn ws with
  | none=>rfl
  | some p=>exact pN a b p.1 p.2
def xQ:Sp:=sp1 fun x H Q=>∃ t:Str,x = .str t ∧ t.length ≤ 3500 ∧ ∀ H',aJ H H' → Q (.bl (lN t)) H'
theorem wN (T:Txt K mg C):Fc P w K mg base 3 "_law_is_land" ["_law_text"] xQ:=by
 have G_l_is_name:Fc P w K mg base 1 "_law_is_name" ["_law_word"] rP:=oJ T
 have G_l_number:Fc P w K mg base 1 "_law_number" ["_law_word","_law_least"] zE:=pW T
 have G_l_is_dyke:Fc P w K mg base 2 "_law_is_dyke" ["_law_words_here","_law_fields_here"] (xR K):=wO T
 refine T.d_l_is_land.fc fR iB (fun f cdv A outer s H vs Q E hr h=>?_)
 obtain ⟨x,rfl,t,rfl,lt,q⟩:=h
 have hu:=oO hr
 have big:=cJ
 obtain ⟨b1,b2⟩:=lZ lt
 obtain ⟨sl,sm⟩:=rL t
 refine ⟨_,(@aG _ _ _ _ _ (@aV _ _ (1) _ _ _ _ fR.nd rfl (Or.inl rfl) (@dP _ _ _ _ aD) (by rfl) (by trivial)) (@aG _ _ _ _ _ (@aV _ _ (2) _ _ _ _ fR.nd rfl (Or.inl rfl) (@dP _ _ _ _ aD) (by rfl) (by trivial)) (@aG _ _ _ _ _ (@mX _ _ _ _ _ _ _ _ PassesOwn.never rfl (@cO _ (K) _ _ _ rfl (@cP _ _ _ _ (sG (K:=K) rfl (@dJ _ _ _ _ _ _ _ _ _ _ _ _ PySem.F.plainAttrs_str PySem.F.slot_str_split PySem.F.type_str_split lL (pv 0) (@aA _ _ _ _ _ aN aD (by rfl)) (by rfl) (by rfl) (by rfl) (by rfl) (by rfl))))) (@bE _ _ (3) _ fR.nd rfl (Or.inl rfl) (by trivial)) (@aG _ _ _ _ _ (@aV _ _ (4) _ _ _ _ fR.nd rfl (Or.inl rfl) (sG (K:=K) rfl (@dJ _ _ _ _ _ _ _ _ _ _ _ _ PySem.F.plainAttrs_str PySem.F.slot_str_split PySem.F.type_str_split lL (pv 3) (@aA _ _ _ _ _ aN aD (by rfl)) (by rfl) (by rfl) (by rfl) (by rfl) (by rfl))) (by rfl) (by trivial)) (@aH _ _ _ (@bQ _ _ _ _ _ _ _ _ (@PW.pt _ _ _ (@iN _ _ _ _ _ _ _ (@aQ _ _ _ _ _ _ _ _ dL (@bI _ _ _ _ _ _ _ (@aZ _ (K) rfl) (pv 4) aB (fun _ _=>rfl)) aN (@aS _ _ (by decide) (by decide))) (@iN _ _ _ _ _ _ _ (@aQ _ _ _ _ _ _ _ _ dL (@aP _ _ _ _ _ _ _ _ _ (@bA _ (K) rfl) rfl T.n_len bD (@aA _ _ _ _ _ (pv 4) aD (by rfl)) (by decide) (by decide) (by rfl) (by rfl)) aB (@aS _ _ (by decide) (by decide))) (@iN _ _ _ _ _ _ _ (@aQ _ _ _ _ _ _ _ _ (@aJE _ hr.units) (pv 2) (@dP _ _ _ _ aD) (@aS _ _ (by decide) (by decide))) (@jY _ _ _ _ (@aQ _ _ _ _ _ _ _ _ (@jA _ (K) rfl) (@bI _ _ _ _ _ _ _ (@aZ _ (K) rfl) (pv 4) aB (fun _ _=>rfl)) (pv 1) (by with_unfolding_all rfl))))))) (@aG _ _ _ _ _ (@bQ _ _ _ _ _ _ _ _ (@PW.pt _ _ _ (@jL _ _ _ _ _ _ _ (@eE _ _ _ _ (@dG _ _ _ (@bR _ _ _ _ _ _ _ _ _ _ G_l_is_name (hr.mono (by decide)) (@aA _ _ _ _ _ (@bI _ _ _ _ _ _ _ (@aZ _ (K) rfl) (pv 4) aB (fun _ _=>rfl)) aD (by rfl)) (by rfl) (by decide) (by rfl) (by rfl)) (by intro _;rfl))) (@iY _ _ _ _ (@aQ _ _ _ _ _ _ _ _ pH (@bR _ _ _ _ _ _ _ _ _ _ G_l_number (hr.mono (by decide)) (@aA _ _ _ _ _ (@bI _ _ _ _ _ _ _ (@aZ _ (K) rfl) (pv 4) aB (fun _ _=>rfl)) (@aA _ _ _ _ _ (@aI _ _ _ _ _ _ _ _ iO aB (@aI _ _ _ _ _ _ _ _ iZ aB aB)) aD (by rfl)) (by rfl)) (by rfl) (by decide) (by rfl) (by rfl)) dO (@aS _ _ (by decide) (by decide)))))) (@aH _ _ _ (@aM _ _ _ _ fM)) aX) (@aG _ _ _ _ _ (@bQ _ _ _ _ _ _ _ _ (@aQ _ _ _ _ _ _ _ _ pH (@bR _ _ _ _ _ _ _ _ _ _ G_l_number (hr.mono (by decide)) (@aA _ _ _ _ _ (@bI _ _ _ _ _ _ _ (@aZ _ (K) rfl) (pv 4) aB (fun _ _=>rfl)) (@aA _ _ _ _ _ aB aD (by rfl)) (by rfl)) (by rfl) (by decide) (by rfl) (by rfl)) dO (@aS _ _ (by decide) (by decide))) (@aH _ _ _ (@aM _ _ _ _ fM)) aX) (@aH _ _ _ (@jZ _ _ _ _ (@sE _ (K) _ _ _ _ _ rfl (@dJ _ _ _ _ _ _ _ _ _ _ _ _ PySem.F.plainAttrs_list PySem.F.slot_list_append PySem.F.type_list_append jP (pv 1) (@aA _ _ _ _ _ (@bI _ _ _ _ _ _ _ (@aZ _ (K) rfl) (pv 4) aB (fun _ _=>rfl)) aD (by rfl)) (by rfl) (by rfl) (by rfl) (by rfl) (by rfl))) (by rfl))))) (@aH _ _ _ (@bQ _ _ _ _ _ _ _ _ (@PW.pt _ _ _ (@iN _ _ _ _ _ _ _ (@aQ _ _ _ _ _ _ _ _ dL (@bI _ _ _ _ _ _ _ (@aZ _ (K) rfl) (pv 4) aB (fun _ _=>rfl)) aN (@aS _ _ (by decide) (by decide))) (@iN _ _ _ _ _ _ _ (@aQ _ _ _ _ _ _ _ _ (@sJ _ (K) rfl) (@aP _ _ _ _ _ _ _ _ _ (@bA _ (K) rfl) rfl T.n_len bD (@aA _ _ _ _ _ (pv 4) aD (by rfl)) (by decide) (by decide) (by rfl) (by rfl)) (@mY _ _ _ _ _ (@aA _ _ _ _ _ aB (@aA _ _ _ _ _ aB aD (by rfl)) (by rfl))) (by with_unfolding_all rfl)) (@iN _ _ _ _ _ _ _ (@aQ _ _ _ _ _ _ _ _ (@jA _ (K) rfl) (@bI _ _ _ _ _ _ _ (@aZ _ (K) rfl) (pv 4) aB (fun _ _=>rfl)) (pv 2) (by with_unfolding_all rfl)) (@jY _ _ _ _ (@dG _ _ _ (@bR _ _ _ _ _ _ _ _ _ _ G_l_is_dyke (hr.mono (by decide)) (@aA _ _ _ _ _ (pv 4) (@aA _ _ _ _ _ (pv 1) aD (by rfl)) (by rfl)) (by rfl) (by decide) (by rfl) (by rfl)) (by intro _;rfl))))))) (@aH _ _ _ (@jZ _ _ _ _ (@sE _ (K) _ _ _ _ _ rfl (@dJ _ _ _ _ _ _ _ _ _ _ _ _ PySem.F.plainAttrs_list PySem.F.slot_list_append PySem.F.type_list_append jP (pv 2) (@aA _ _ _ _ _ (@bI _ _ _ _ _ _ _ (@aZ _ (K) rfl) (pv 4) aB (fun _ _=>rfl)) aD (by rfl)) (by rfl) (by rfl) (by rfl) (by rfl) (by rfl))) (by rfl))) (@aH _ _ _ (@aM _ _ _ _ fM))))))) (by intro _;rfl)) (@aH _ _ _ (@aM _ _ _ _ (@cV _ _ _ _ _ _ _ (@lA _ _ _ _ _ _ _ _ _ _ _ _ iU iU aB (@aP _ _ _ _ _ _ _ _ _ (@bA _ (K) rfl) rfl T.n_len bD (@aA _ _ _ _ _ (pv 1) aD (by rfl)) (by decide) (by decide) (by rfl) (by rfl)) aB (by with_unfolding_all rfl)) (@eF _ _ _ _ _ (@lA _ _ _ _ _ _ _ _ _ _ _ _ iU iU aB (@aP _ _ _ _ _ _ _ _ _ (@bA _ (K) rfl) rfl T.n_len bD (@aA _ _ _ _ _ (pv 2) aD (by rfl)) (by decide) (by decide) (by rfl) (by rfl)) aB (by with_unfolding_all rfl))))))))),?_⟩
 refine ⟨aY rfl,fun lf hlf=>?_⟩
 have S1:=aJ.upd (o:=.lst []) hlf
 refine ⟨aY rfl,fun ld hld=>?_⟩
 have S2:=aJ.upd (o:=.lst []) hld
 have nfd:lf ≠ ld:=fun e=>by rw [← e,aF] at hld;cases hld
 have hld0:H ld = none:=S1.free hld
 have T2:=S1.trans S2
 have rf:upd (upd H lf (.lst [])) ld (.lst []) lf = some (.lst (([]:List Str).map V.str)):=S2 _ _ aF
 have rd:upd (upd H lf (.lst [])) ld (.lst []) ld = some (.lst (([]:List Str).map V.str)):=aF
 generalize upd (upd H lf (.lst [])) ld (.lst []) = H2 at T2 rf rd
 refine ⟨_,rfl,rfl,_,_,rfl,rfl,rfl,by omega,by omega,fun l0 h0=>?_⟩
 have S3:=aJ.upd (o:=.lst ((Txt.split t "\n").map V.str)) h0
 have r0:upd H2 l0 (.lst ((Txt.split t "\n").map V.str)) l0 = some (.lst ((Txt.split t "\n").map V.str)):=aF
 have rf3:=S3 _ _ rf
 have rd3:=S3 _ _ rd
 have T3:=T2.trans S3
 have n0f:l0 ≠ lf:=fun e=>by rw [e,rf] at h0;cases h0
 have n0d:l0 ≠ ld:=fun e=>by rw [e,rd] at h0;cases h0
 generalize upd H2 l0 (.lst ((Txt.split t "\n").map V.str)) = H3 at S3 r0 rf3 rd3 T3
 have lrows:(Txt.split t "\n").length = (bZ t).length:=by unfold bZ;rw [List.length_map]
 refine ⟨l0,rfl,⟨_,SqL.of r0⟩,tD (K:=K) (a:=l0) (xs:=(Txt.split t "\n").map V.str)
  (fun i σ H'=>∃ (v3 v4:Option V) (fn dn:List Str),σ = [some (.str t),some (.ref lf),some (.ref ld),v3,v4] ∧ aJ H H' ∧ H' l0 = some (.lst ((Txt.split t "\n").map V.str)) ∧ H' lf = some (.lst (fn.map V.str)) ∧ H' ld = some (.lst (dn.map V.str)) ∧ eL ((bZ t).take i) [] [] = some (fn,dn) ∧ fn.length ≤ i ∧ dn.length ≤ i)
  ⟨_,_,[],[],rfl,T3,r0,rf3,rd3,rfl,Nat.zero_le _,Nat.zero_le _⟩ (fun i σ H' _ ⟨_,_,_,_,_,_,e,_⟩=>SqL.of e) ?_ ?_⟩
 ·rintro i xv σ H4 hx ⟨v3,v4,fn,dn,rfl,S4,r4,rf4,rd4,hj,lfn,ldn⟩
  rw [List.getElem?_map] at hx
  obtain ⟨row,er,rfl⟩:=Option.map_eq_some_iff.mp hx
  have ew:(bZ t)[i]? = some (Txt.split row " "):=by unfold bZ;rw [List.getElem?_map,er];rfl
  have lrow:=sm row (List.mem_of_getElem? er)
  obtain ⟨sb,_⟩:=nQ row
  have hil:=(List.getElem?_eq_some_iff.mp er).1
  obtain ⟨ne,q1,q2⟩:=b2 _ (List.mem_of_getElem? ew)
  refine gσ (σ':=[some (.str t),some (.ref lf),some (.ref ld),some (.str row),v4]) rfl ?_
  refine cX fun u1 hu1=>?_
  refine ⟨_,rfl,rfl,_,_,rfl,rfl,rfl,by omega,by omega,fun lw hlw=>?_⟩
  generalize hws:Txt.split row " " = ws at ew ne q1 q2 ⊢
  have S5:=aJ.upd (o:=.lst (ws.map V.str)) hlw
  have rw5:upd H4 lw (.lst (ws.map V.str)) lw = some (.lst (ws.map V.str)):=aF
  have T5:=S4.trans S5
  have r5:=S5 _ _ r4
  have rf5:=S5 _ _ rf4
  have rd5:=S5 _ _ rd4
  generalize upd H4 lw (.lst (ws.map V.str)) = H5 at S5 rw5 T5 r5 rf5 rd5
  refine gσ (σ':=[some (.str t),some (.ref lf),some (.ref ld),some (.str row),some (.ref lw)]) rfl ?_
  have jn:eL (bZ t) [] [] = match dI fn dn ws with | some (f,d)=>eL ((bZ t).drop (i + 1)) f d | none=>none:=by
   have e:bZ t = (bZ t).take i ++ (ws :: (bZ t).drop (i + 1)):=by
    have hi2:i < (bZ t).length:=by omega
    have e2:(bZ t)[i] = ws:=by rw [List.getElem?_eq_getElem hi2] at ew;exact Option.some.inj ew
    rw [← e2,List.getElem_cons_drop,List.take_append_drop]
   conv=>lhs;rw [e,pN,hj]
   rfl
  have fail:dI fn dn ws = none → ∀ H',aJ H H' → Q (.bl false) H':=fun hn H' S'=>by
   have:lN t = false:=by
    unfold lN
    rw [jn,hn]
   rw [this] at q
   exact q H' S'
  obtain ⟨z0,e1,e2⟩:=aBJ ne
  have lwm:(ws.map V.str).length = ws.length:=List.length_map _
  refine hu1 _ _ _ ?_
  refine aBI (gB ws fn dn) (fun KK hk=>?_) ?_
  ·refine ⟨_,rfl,lw,_,0,.str z0,rfl,rfl,SqL.of rw5,e2,rfl,_,rfl,?_⟩
   rw [dS]
   rcases Classical.em (¬ z0 = "field") with hz | hz
   ·rw [decide_eq_false hz]
    have:gB ws fn dn = false:=by
     unfold gB
     split
     ·rename_i h0 n g u
      have:h0 = z0:=Option.some.inj e1
      rw [this,decide_eq_false hz]
      rfl
     ·rfl
    rw [this] at hk
    exact bN (hk H5 (aJ.refl _))
   have hz:=Classical.not_not.mp hz
   rw [decide_eq_true hz]
   refine cC ?_
   refine ⟨_,rfl,lw,_,rfl,.inl (SqL.of rw5),rfl,_,rfl,?_⟩
   rw [lwm]
   rcases Classical.em (¬ ws.length = 4) with h4 | h4
   ·rw [decide_eq_false (show ¬ V.int (ws.length:Int) = V.int 4 from fun h=>h4 (by have:=V.int.inj h;omega))]
    have:gB ws fn dn = false:=by
     unfold gB
     split
     ·exact absurd rfl h4
     ·rfl
    rw [this] at hk
    exact bN (hk H5 (aJ.refl _))
   have h4:=Classical.not_not.mp h4
   rw [decide_eq_true (show V.int (ws.length:Int) = V.int 4 by rw [h4];rfl)]
   refine cC ?_
   obtain ⟨n,g,u,rfl⟩:∃ n g u,ws = [z0,n,g,u]:=by
    match ws,h4,e1 with
    | [h0,n,g,u],_,e1=>exact ⟨n,g,u,by rw [show h0 = z0 from Option.some.inj e1]⟩
   have efb:gB [z0,n,g,u] fn dn = (decide (dn = []) && !decide (n ∈ fn)):=by
    show (decide (z0 = "field") && (decide (dn = []) && !decide (n ∈ fn))) = _
    rw [decide_eq_true hz]
    rfl
   rw [efb] at hk
   refine ⟨_,rfl,aY rfl,fun pe hpe=>?_⟩
   have SE:=aJ.upd (o:=.lst []) hpe
   refine ⟨.lst (dn.map Dv.str),.lst [],aGI (SE _ _ rd5),⟨pe,[],rfl,aF,rfl⟩,yL _,rfl,_,rfl,?_⟩
   have ed:deq (.lst (dn.map Dv.str)) (.lst []) = decide (dn = []):=by
    cases dn with
    | nil=>rfl
    | cons y ys=>rw [decide_eq_false (by simp)];rfl
   rw [if_neg Bool.false_ne_true,ed]
   cases hdn:decide (dn = []) with
   | false =>
    rw [hdn] at hk
    exact bN (hk _ SE)
   | true =>
    rw [hdn] at hk
    refine cC ?_
    refine ⟨_,rfl,lw,_,_,.str n,rfl,rfl,SqL.of (SE _ _ rw5),bC (j:=1) rfl,_,rfl,lf,_,rfl,.inl (SqL.of (SE _ _ rf5)),rfl,mK _,_,rfl,?_⟩
    rw [if_pos rfl,qX]
    exact hk _ SE
  intro H6 S6
  have T6:=T5.trans S6
  have r6:=S6 _ _ r5
  have rf6:=S6 _ _ rf5
  have rd6:=S6 _ _ rd5
  have rw6:=S6 _ _ rw5
  have keepF:∀ (y:Addr) (o:HO) (ys:List V),y ≠ lf → H6 y = some o → upd H6 lf (.lst ys) y = some o:=fun y o ys ne e=>by rw [aR ne];exact e
  have keepD:∀ (y:Addr) (o:HO) (ys:List V),y ≠ ld → H6 y = some o → upd H6 ld (.lst ys) y = some o:=fun y o ys ne e=>by rw [aR ne];exact e
  have jt:∀ f d,dI fn dn ws = some (f,d) → eL ((bZ t).take (i + 1)) [] [] = some (f,d):=fun f d e=>by
   rw [List.take_add_one,ew]
   show eL ((bZ t).take i ++ [ws]) [] [] = _
   rw [pN,hj]
   show (match dI fn dn ws with | some (f,d)=>eL [] f d | none=>none) = _
   rw [e]
   rfl
  cases hf:gB ws fn dn with
  | true =>
   refine cC ?_
   obtain ⟨n,g,u,rfl⟩:∃ n g u,ws = [z0,n,g,u]:=by
    unfold gB at hf
    split at hf
    ·rename_i h0 n g u
     exact ⟨n,g,u,by rw [show h0 = z0 from Option.some.inj e1]⟩
    ·cases hf
   have ln:=q2 n (by simp)
   have lg:=q2 g (by simp)
   have lu:=q2 u (by simp)
   have e6:(0:Int) - 10 ^ (6:Int).toNat = -1000000:=by decide
   have stn:uY [z0,n,g,u] = false → dI fn dn [z0,n,g,u] = none:=fun h=>by unfold dI;rw [hf,h];rfl
   refine ⟨_,rfl,lw,_,_,.str n,rfl,rfl,SqL.of rw6,bC (j:=1) rfl,_,rfl,n,rfl,by omega,_,rfl,?_⟩
   cases hn:cI n with
   | false =>
    refine cC ?_
    exact fail (stn (by show (cI n && _) = false;rw [hn];rfl)) H6 T6
   | true =>
    refine bN ?_
    refine ⟨_,rfl,lw,_,_,.str g,rfl,rfl,SqL.of rw6,bC (j:=2) rfl,_,_,rfl,rfl,⟨by decide,by decide,by decide⟩,_,_,rfl,rfl,_,_,rfl,g,_,rfl,rfl,by omega,rfl,_,rfl,?_⟩
    rw [e6,wP]
    cases hg:cT g (-1000000) with
    | none =>
     refine cC ?_
     exact fail (stn (by show (cI n && ((cT g (-1000000)).isSome && _)) = false;rw [hn,hg];rfl)) H6 T6
    | some gi =>
     refine bN ?_
     refine ⟨_,rfl,lw,_,_,.str u,rfl,rfl,SqL.of rw6,bC (j:=3) rfl,_,_,rfl,u,_,rfl,rfl,by omega,rfl,_,rfl,?_⟩
     rw [wP]
     cases hu2:cT u 0 with
     | none =>
      refine cC ?_
      exact fail (stn (by show (cI n && ((cT g (-1000000)).isSome && (cT u 0).isSome)) = false;rw [hn,hg,hu2];rfl)) H6 T6
     | some ui =>
      refine bN ?_
      have hnb:uY [z0,n,g,u] = true:=by show (cI n && ((cT g (-1000000)).isSome && (cT u 0).isSome)) = true;rw [hn,hg,hu2];rfl
      refine ⟨_,rfl,.inl ⟨rfl,_,SqL.of rf6⟩,_,rfl,lw,_,_,.str n,rfl,rfl,SqL.of rw6,bC (j:=1) rfl,lf,_,_,rfl,rfl,rf6,by rw [List.length_map];omega,?_⟩
      refine ⟨_,_,fn ++ [n],dn,rfl,T6.over hlf,keepF _ _ _ n0f r6,?_,keepF _ _ _ (Ne.symm nfd) rd6,jt _ _ (by unfold dI;rw [hf,hnb];rfl),by rw [List.length_append];show _ + 1 ≤ _;omega,by omega⟩
      rw [aF,List.map_append]
      rfl
  | false =>
   refine bN ?_
   refine aBI (jT ws fn dn) (fun KK hk=>?_) ?_
   ·refine ⟨_,rfl,lw,_,0,.str z0,rfl,rfl,SqL.of rw6,e2,rfl,_,rfl,?_⟩
    rw [dS]
    rcases Classical.em (¬ z0 = "dyke") with hz | hz
    ·rw [decide_eq_false hz]
     have:jT ws fn dn = false:=by
      unfold jT
      rw [e1,decide_eq_false (fun h=>hz (Option.some.inj h))]
      rfl
     rw [this] at hk
     exact bN (hk H6 (aJ.refl _))
    have hz:=Classical.not_not.mp hz
    rw [decide_eq_true hz]
    refine cC ?_
    refine ⟨_,rfl,lw,_,rfl,.inl (SqL.of rw6),aY rfl,fun tp htp=>?_⟩
    have SE:=aJ.upd (o:=.tup [.int 6,.int 7]) htp
    refine ⟨tp,_,rfl,.inr (SqT.of aF),rfl,rfl,_,rfl,?_⟩
    rw [if_neg Bool.false_ne_true,lwm]
    have ein:inV (.int (ws.length:Int)) [.int 6,.int 7] = decide (ws.length = 6 ∨ ws.length = 7):=by
     show ((6:Int) == (ws.length:Int) || ((7:Int) == (ws.length:Int) || false)) = _
     rw [Bool.or_false,Bool.eq_iff_iff,Bool.or_eq_true,beq_iff_eq,beq_iff_eq,decide_eq_true_iff]
     omega
    rw [ein]
    have eC:jT ws fn dn = (decide (ws.length = 6 ∨ ws.length = 7) && (!decide (ws.getD 1 "" ∈ dn) && aBP ws fn)):=by
     unfold jT
     rw [e1,hz,decide_eq_true rfl]
     rfl
    rw [eC] at hk
    by_cases h67:ws.length = 6 ∨ ws.length = 7
    ·rw [decide_eq_true h67] at hk ⊢
     refine cC ?_
     obtain ⟨n,r,ewn⟩:∃ n r,ws = z0 :: n :: r:=by
      obtain ⟨h0,n,aa,bb,cc,rr,tt,e,_⟩:=qR h67
      rw [e] at e1
      exact ⟨n,aa :: bb :: cc :: rr :: tt,by rw [e,show h0 = z0 from Option.some.inj e1];rfl⟩
     have at1:atI (ws.map V.str) 1 = some (.str n):=by rw [ewn];exact bC (j:=1) rfl
     have gd1:ws.getD 1 "" = n:=by rw [ewn];rfl
     rw [gd1] at hk
     refine ⟨_,rfl,lw,_,_,.str n,rfl,rfl,SqL.of (SE _ _ rw6),at1,_,rfl,ld,_,rfl,.inl (SqL.of (SE _ _ rd6)),rfl,mK _,_,rfl,?_⟩
     rw [if_pos rfl,qX]
     cases hm:decide (n ∈ dn) with
     | true =>
      rw [hm] at hk
      exact bN (hk _ SE)
     | false =>
      rw [hm] at hk
      refine cC ?_
      exact ⟨_,rfl,_,rfl,_,_,rfl,lw,lf,ws,fn,rfl,rfl,SE _ _ rw6,SE _ _ rf6,h67,q2,fun H7 S7=>⟨_,rfl,hk H7 (SE.trans S7)⟩⟩
    ·rw [decide_eq_false h67] at hk ⊢
     exact bN (hk _ SE)
   intro H7 S7
   have T7:=T6.trans S7
   cases hc:jT ws fn dn with
   | false =>
    refine bN ?_
    exact fail (by unfold dI;rw [hf,hc];rfl) H7 T7
   | true =>
    refine cC ?_
    have hwd:∃ n r,ws = z0 :: n :: r:=by
     unfold jT at hc
     rw [Bool.and_eq_true,Bool.and_eq_true] at hc
     obtain ⟨h0,n,aa,bb,cc,rr,tt,rfl,_⟩:=qR (of_decide_eq_true hc.2.1)
     exact ⟨n,_,by rw [show h0 = z0 from Option.some.inj e1];rfl⟩
    obtain ⟨n,r,rfl⟩:=hwd
    have rw7:=S7 _ _ rw6
    have rd7:=S7 _ _ rd6
    refine ⟨_,rfl,.inl ⟨rfl,_,SqL.of rd7⟩,_,rfl,lw,_,_,.str n,rfl,rfl,SqL.of rw7,bC (j:=1) rfl,ld,_,_,rfl,rfl,rd7,by rw [List.length_map];omega,?_⟩
    refine ⟨_,_,fn,dn ++ [n],rfl,T7.over hld0,by rw [aR n0d];exact S7 _ _ r6,by rw [aR nfd];exact S7 _ _ rf6,?_,jt _ _ (by unfold dI;rw [hf,hc];rfl),by omega,by rw [List.length_append];show _ + 1 ≤ _;omega⟩
    rw [aF,List.map_append]
    rfl
 ·rintro σ H4 ⟨v3,v4,fn,dn,rfl,S4,r4,rf4,rd4,hj,lfn,ldn⟩
  rw [List.length_map,lrows,List.take_of_length_le (Nat.le_refl _)] at hj
  have eb:lN t = aFZ (fn,dn):=by unfold lN;rw [hj]
  rw [eb] at q
  have q:Q (.bl (decide (1 ≤ fn.length) && (decide (fn.length ≤ 12) && (decide (1 ≤ dn.length) && decide (dn.length ≤ 40))))) H4:=q H4 S4
  have c1:∀ k:Nat,decide ((1:Int) ≤ (k:Int)) = decide (1 ≤ k):=fun k=>by rw [Bool.eq_iff_iff,decide_eq_true_iff,decide_eq_true_iff];omega
  have c2:∀ (k m:Nat),decide ((k:Int) ≤ (m:Int)) = decide (k ≤ m):=fun k m=>by rw [Bool.eq_iff_iff,decide_eq_true_iff,decide_eq_true_iff];omega
  refine ⟨_,rfl,lf,_,rfl,.inl (SqL.of rf4),_,_,rfl,rfl,_,rfl,?_⟩
  rw [List.length_map,c1]
  cases h1:decide (1 ≤ fn.length) with
  | false =>
   rw [h1] at q
   exact bN ⟨_,rfl,bN q⟩
  | true =>
   rw [h1,Bool.true_and] at q
   refine cC ⟨_,_,rfl,rfl,_,rfl,?_⟩
   rw [show decide ((fn.length:Int) ≤ 12) = decide (fn.length ≤ 12) from c2 fn.length 12]
   cases h2:decide (fn.length ≤ 12) with
   | false =>
    rw [h2] at q
    exact bN q
   | true =>
    rw [h2,Bool.true_and] at q
    refine cC ?_
    refine ⟨_,rfl,ld,_,rfl,.inl (SqL.of rd4),_,_,rfl,rfl,_,rfl,?_⟩
    rw [List.length_map,c1]
    cases h3:decide (1 ≤ dn.length) with
    | false =>
     rw [h3] at q
     exact bN q
    | true =>
     rw [h3,Bool.true_and] at q
     refine cC ⟨_,_,rfl,rfl,?_⟩
     show Q (.bl (decide ((dn.length:Int) ≤ 40))) H4
     rw [show decide ((dn.length:Int) ≤ 40) = decide (dn.length ≤ 40) from c2 dn.length 40]
     exact q
open Mt13 Mt11 Mt02
theorem rH {H:Hp}:∀ zs:List Str,IsL H (zs.map Dv.str) (zs.map V.str)
 | []=>rfl
 | z :: zs=>⟨.str z,_,rfl,rfl,rH zs⟩
theorem aJG {f:Addr} {fd:FuncData} (T:Txt K mg C) (F:Fun K "law" "law" mE f fd):FnOk P w K mg base CX0 12 f fd ["_law_script"] (aAZ K):=by
 have G_l_lines:Fc P w K mg base 4 "_law_lines" ["_law_script"] (aAY K):=zQ T
 have G_l_mixed:Fc P w K mg base 1 "_law_mixed" ["_law_cell","_law_k"] nR:=nE T
 have G_l_cell_at:Fc P w K mg base 1 "_law_cell_at" ["_law_script","_law_k"] (wB K):=kB T
 have G_l_spoilt:Fc P w K mg base 2 "_law_spoilt" ["_law_lines_here","_law_number_here","_law_way"] qP:=yC T
 have G_l_is_land:Fc P w K mg base 3 "_law_is_land" ["_law_text"] xQ:=wN T
 have G_l_told:Fc P w K mg base 10 "_law_told" ["_law_thing"] (aDS C):=aCJ T
 have G_p_show_land:Fc P w K mg base 2 "show_land" ["land"] (zD C):=lC T
 refine F.ok fQ iB (fun cdv A outer s H vs Q E hr h=>?_)
 obtain ⟨x,rfl,a,ns,rfl,hS,hl,q⟩:=h
 have big:=cJ
 have hu:=oO hr
 have scr:Scr K H (.ref a):=⟨a,ns,rfl,hS,hl⟩
 refine ⟨_,(@aG _ _ _ _ _ (@aV _ _ (1) _ _ _ _ fQ.nd rfl (Or.inl rfl) (@bR _ _ _ _ _ _ _ _ _ _ G_l_lines (hr.mono (by decide)) (@aA _ _ _ _ _ (pv 0) aD (by rfl)) (by rfl) (by decide) (by rfl) (by rfl)) (by rfl) (by trivial)) (@aG _ _ _ _ _ (@aV _ _ (2) _ _ _ _ fQ.nd rfl (Or.inl rfl) (@bR _ _ _ _ _ _ _ _ _ _ G_l_mixed (hr.mono (by decide)) (@aA _ _ _ _ _ (@bR _ _ _ _ _ _ _ _ _ _ G_l_cell_at (hr.mono (by decide)) (@aA _ _ _ _ _ (pv 0) (@aA _ _ _ _ _ aB aD (by rfl)) (by rfl)) (by rfl) (by decide) (by rfl) (by rfl)) (@aA _ _ _ _ _ aB aD (by rfl)) (by rfl)) (by rfl) (by decide) (by rfl) (by rfl)) (by rfl) (by trivial)) (@aG _ _ _ _ _ (@aV _ _ (3) _ _ _ _ fQ.nd rfl (Or.inl rfl) (@bR _ _ _ _ _ _ _ _ _ _ G_l_spoilt (hr.mono (by decide)) (@aA _ _ _ _ _ (pv 1) (@aA _ _ _ _ _ (pv 2) (@aA _ _ _ _ _ (@aI _ _ _ _ _ _ _ _ bU (@aI _ _ _ _ _ _ _ _ bX (@bR _ _ _ _ _ _ _ _ _ _ G_l_cell_at (hr.mono (by decide)) (@aA _ _ _ _ _ (pv 0) (@aA _ _ _ _ _ aB aD (by rfl)) (by rfl)) (by rfl) (by decide) (by rfl) (by rfl)) aB) aB) aD (by rfl)) (by rfl)) (by rfl)) (by rfl) (by decide) (by rfl) (by rfl)) (by rfl) (by trivial)) (@aG _ _ _ _ _ (@aV _ _ (4) _ _ _ _ fQ.nd rfl (Or.inl rfl) (@bR _ _ _ _ _ _ _ _ _ _ G_l_is_land (hr.mono (by decide)) (@aA _ _ _ _ _ (pv 3) aD (by rfl)) (by rfl) (by decide) (by rfl) (by rfl)) (by rfl) (by trivial)) (@aG _ _ _ _ _ (@bQ _ _ _ _ _ _ _ _ (@aQ _ _ _ _ _ _ _ _ dL (@aI _ _ _ _ _ _ _ _ bU (@bR _ _ _ _ _ _ _ _ _ _ G_l_cell_at (hr.mono (by decide)) (@aA _ _ _ _ _ (pv 0) (@aA _ _ _ _ _ aB aD (by rfl)) (by rfl)) (by rfl) (by decide) (by rfl) (by rfl)) aB) aB (@aS _ _ (by decide) (by decide))) (@aG _ _ _ _ _ (@aV _ _ (3) _ _ _ _ fQ.nd rfl (Or.inl rfl) (@bI _ _ _ _ _ _ _ (@aZ _ (K) rfl) (@dP _ _ _ _ (@aA _ _ _ _ _ dO (@aA _ _ _ _ _ fM (@aA _ _ _ _ _ aB (@aA _ _ _ _ _ (pv 1) (@aA _ _ _ _ _ (@bS _ _ _ _ _ _ _ _ _ jB rfl T.n_tuple iW (@aA _ _ _ _ _ (pv 1) aD (by rfl)) (by decide) (by decide) (by rfl) (by rfl)) (@aA _ _ _ _ _ aER aD (by rfl)) (by rfl)) (by rfl)) (by rfl)) (by rfl)) (by rfl))) (@aI _ _ _ _ _ _ _ _ bU (pv 2) aB) (fun _ _=>rfl)) (by rfl) (by trivial)) (@aH _ _ _ (@aV _ _ (4) _ _ _ _ fQ.nd rfl (Or.inl rfl) fM (by rfl) (by trivial)))) aX) (@aG _ _ _ _ _ (@aV _ _ (5) _ _ _ _ fQ.nd rfl (Or.inl rfl) (@bR _ _ _ _ _ _ _ _ _ _ G_l_told (hr.mono (by decide)) (@aA _ _ _ _ _ (pv 3) aD (by rfl)) (by rfl) (by decide) (by rfl) (by rfl)) (by rfl) (by trivial)) (@aG _ _ _ _ _ (@bQ _ _ _ _ _ _ _ _ (@eE _ _ _ _ (@dG _ _ _ (pv 4) (by intro _;rfl))) (@aH _ _ _ (@bQ _ _ _ _ _ _ _ _ (@eE _ _ _ _ (@dG _ _ _ (@bI _ _ _ _ _ _ _ (@aZ _ (K) rfl) (pv 5) aB (fun _ _=>rfl)) (by intro _;rfl))) (@aH _ _ _ (@aM _ _ _ _ fM)) aX)) (@aH _ _ _ (@bQ _ _ _ _ _ _ _ _ (@PW.pt _ _ _ (@jL _ _ _ _ _ _ _ (@aQ _ _ _ _ _ _ _ _ pH (@bI _ _ _ _ _ _ _ (@aZ _ (K) rfl) (pv 5) aB (fun _ _=>rfl)) dO (@aS _ _ (by decide) (by decide))) (@iY _ _ _ _ (@aQ _ _ _ _ _ _ _ _ sI (@bR _ _ _ _ _ _ _ _ _ _ G_p_show_land (hr.mono (by decide)) (@aA _ _ _ _ _ (@bI _ _ _ _ _ _ _ (@aZ _ (K) rfl) (pv 5) aB (fun _ _=>rfl)) aD (by rfl)) (by rfl) (by decide) (by rfl) (by rfl)) (pv 3) (@aS _ _ (by decide) (by decide)))))) (@aH _ _ _ (@aM _ _ _ _ fM)) aX))) (@aG _ _ _ _ _ (@aV _ _ (5) _ _ _ _ fQ.nd rfl (Or.inl rfl) (@bR _ _ _ _ _ _ _ _ _ _ G_l_told (hr.mono (by decide)) (@aA _ _ _ _ _ (@dJ _ _ _ _ _ _ _ _ _ _ _ _ PySem.F.plainAttrs_str PySem.F.slot_str_join PySem.F.type_str_join eJ aN (@aA _ _ _ _ _ (pv 1) aD (by rfl)) (by rfl) (by rfl) (by rfl) (by rfl) (by rfl)) aD (by rfl)) (by rfl) (by decide) (by rfl) (by rfl)) (by rfl) (by trivial)) (@aH _ _ _ (@aM _ _ _ _ (@cV _ _ _ _ _ _ _ (@eS _ _ _ _ _ _ _ _ qT (@bI _ _ _ _ _ _ _ (@aZ _ (K) rfl) (pv 5) aB (fun _ _=>rfl)) dO (@aS _ _ (by decide) (by decide))) (@eF _ _ _ _ _ (@eS _ _ _ _ _ _ _ _ dL (@bR _ _ _ _ _ _ _ _ _ _ G_p_show_land (hr.mono (by decide)) (@aA _ _ _ _ _ (@bI _ _ _ _ _ _ _ (@aZ _ (K) rfl) (pv 5) aB (fun _ _=>rfl)) aD (by rfl)) (by rfl) (by decide) (by rfl) (by rfl)) (@dJ _ _ _ _ _ _ _ _ _ _ _ _ PySem.F.plainAttrs_str PySem.F.slot_str_join PySem.F.type_str_join eJ aN (@aA _ _ _ _ _ (pv 1) aD (by rfl)) (by rfl) (by rfl) (by rfl) (by rfl) (by rfl)) (@aS _ _ (by decide) (by decide))))))))))))))),?_⟩
 refine aEF fun u0 hu0=>?_
 refine ⟨_,rfl,_,rfl,scr,fun fs ds l H1 gf0 gd0 S1 nl hl1=>?_⟩
 have gf:GoodF fs:=(fN _).mp (aCY gf0 (by decide))
 have gd:GoodD ("sea" :: fs.map bH) ds:=(gJ _ _).mp (aFU gd0 (by decide))
 have f1:=gf0.l1
 have f2:=gf0.l2
 have d2:=gd0.l2
 have Z:Lines (fs.map cM ++ ds.map dX):=⟨by rw [List.length_append,List.length_map,List.length_map];omega,by rw [List.length_append,List.length_map,List.length_map];omega,sB gf gd⟩
 refine gσ (σ':=[some (.ref a),some (.ref l),none,none,none,none]) rfl ?_
 have sq1:=S1.seq hS
 refine ⟨_,rfl,_,_,rfl,a,ns,1,rfl,rfl,sq1,hl,by decide,_,_,rfl,_,6,rfl,rfl,by decide,by decide,fun n n0 n1=>?_⟩
 refine gσ (σ':=[some (.ref a),some (.ref l),some (.int n),none,none,none]) rfl ?_
 refine ⟨_,rfl,_,rfl,_,rfl,_,_,rfl,a,ns,1,rfl,rfl,sq1,hl,by decide,_,_,rfl,rfl,⟨by decide,by decide⟩,_,_,rfl,rfl,hX rfl,_,_,_,rfl,l,_,n,_,rfl,hl1,Z,rfl,rfl,fun text H2 S2 lt=>?_⟩
 refine gσ (σ':=[some (.ref a),some (.ref l),some (.int n),some (.str text),none,none]) rfl ?_
 refine ⟨_,rfl,_,rfl,text,rfl,lt,fun H3 S3=>?_⟩
 refine gσ (σ':=[some (.ref a),some (.ref l),some (.int n),some (.str text),some (.bl (lN text)),none]) rfl ?_
 refine hu0 _ _ _ ?_
 refine cX fun u1 hu1=>?_
 have T3:=S1.trans (S2.trans S3)
 have hl3:=(S2.trans S3) _ _ hl1
 have sml:(gE fs ds).length ≤ 3500:=by
  have:=zG gf gd
  omega
 have jb:((fs.map cM ++ ds.map dX).map fun y=>y.length).sum + (fs.map cM ++ ds.map dX).length * ("\n":Str).length ≤ 16777216:=by
  have h1:=iM (ys:=fs.map cM ++ ds.map dX) (k:=63) (m:=24) Z.s Z.l24
  have:=h1.1
  unfold gO at this
  omega
 have kN:∀ (tv:V) (g:Bool) (H':Hp),aJ H3 H' → ((g = true ∧ ∃ (t:Str) (fs' ds':List Dv),tv = .str t ∧ t.length ≤ 3500 ∧ GoodF fs' ∧ GoodD ("sea" :: fs'.map bH) ds' ∧ t = gE fs' ds') ∨ (g = false ∧ ((∃ d,Is H' d tv ∧ sX d = false) ∨ ∃ t:Str,tv = .str t ∧ t.length ≤ 3500 ∧ ¬ nN t))) →
   u1 { nx:=fun _ H'=>Q .non H',rt:=Q } [some (.ref a),some (.ref l),some (.int n),some tv,some (.bl g),none] H':=fun tv g H4 S4 hc=>by
  refine hu1 _ _ _ ?_
  have hl4:=S4 _ _ hl3
  refine nW fun u2 hu2=>?_
  have fin:∀ (lr:Addr) (H5:Hp),aJ H4 H5 → u2 { nx:=fun _ H'=>Q .non H',rt:=Q } [some (.ref a),some (.ref l),some (.int n),some tv,some (.bl g),some (.ref lr)] H5:=fun lr H5 S5=>by
   refine hu2 _ _ _ ?_
   have hl5:=S5 _ _ hl4
   refine ⟨rfl,_,rfl,_,l,fs.map cM ++ ds.map dX,rfl,rfl,SqL.of hl5,jb,_,rfl,.inl ⟨_,fs,ds,rfl,sml,gf,gd,rfl,fun l6 p6' H6 S6 r6 L6=>?_⟩⟩
   refine gσ (σ':=[some (.ref a),some (.ref l),some (.int n),some tv,some (.bl g),some (.ref l6)]) rfl ?_
   refine ⟨_,rfl,l6,_,_,.ref p6',rfl,rfl,SqL.of r6,bC (j:=0) rfl,rfl,_,rfl,?_⟩
   refine cC ?_
   refine ⟨_,rfl,l6,_,_,.ref p6',rfl,rfl,SqL.of r6,bC (j:=0) rfl,_,rfl,p6',fs,ds,rfl,L6,fun H7 S7=>?_⟩
   have hl7:=(S6.trans S7) _ _ hl5
   refine ⟨rfl,_,rfl,_,l,fs.map cM ++ ds.map dX,rfl,rfl,SqL.of hl7,jb,rfl,?_⟩
   show Q (.bl (decide (V.str (gE fs ds) = V.str (gE fs ds)))) H7
   rw [decide_eq_true rfl]
   exact q H7
  rcases hc with ⟨rfl,t,fs',ds',rfl,ltt,gf',gd',et⟩ | ⟨rfl,bad⟩
  ·refine ⟨_,rfl,_,rfl,.inl ⟨t,fs',ds',rfl,ltt,gf',gd',et,fun lr p H5 S5 r5 L5=>?_⟩⟩
   refine gσ (σ':=[some (.ref a),some (.ref l),some (.int n),some (.str t),some (.bl true),some (.ref lr)]) rfl ?_
   refine ⟨_,rfl,_,rfl,?_⟩
   refine bN ?_
   refine ⟨_,rfl,lr,_,_,.ref p,rfl,rfl,SqL.of r5,bC (j:=0) rfl,rfl,_,rfl,?_⟩
   refine bN ?_
   refine ⟨_,rfl,lr,_,_,.ref p,rfl,rfl,SqL.of r5,bC (j:=0) rfl,_,rfl,p,fs',ds',rfl,L5,fun H6 S6=>?_⟩
   refine ⟨_,rfl,rfl,_,rfl,?_⟩
   rw [← et,dS,decide_eq_true rfl]
   exact bN (fin lr H6 (S5.trans S6))
  ·refine ⟨_,rfl,_,rfl,.inr ⟨bad,fun lr H5 S5 r5=>?_⟩⟩
   refine gσ (σ':=[some (.ref a),some (.ref l),some (.int n),some tv,some (.bl false),some (.ref lr)]) rfl ?_
   refine ⟨_,rfl,_,rfl,?_⟩
   refine cC ?_
   refine ⟨_,rfl,lr,_,_,.bl true,rfl,rfl,SqL.of r5,bC (j:=1) rfl,_,rfl,?_⟩
   exact bN (fin lr H5 S5)
 refine ⟨_,rfl,_,_,rfl,a,ns,2,rfl,rfl,T3.seq hS,hl,by decide,_,_,rfl,rfl,hX rfl,rfl,_,rfl,?_⟩
 refine dR (fun _=>?_) (fun _=>?_)
 ·refine ⟨_,rfl,_,rfl,l,_,rfl,.inl ⟨SqL.of hl3,fun t1 m1=>?_⟩⟩
  have B1:=aJ.upd (o:=.tup ((fs.map cM ++ ds.map dX).map V.str)) m1
  have r1:upd H3 t1 (.tup ((fs.map cM ++ ds.map dX).map V.str)) t1 = some (.tup ((fs.map cM ++ ds.map dX).map V.str)):=aF
  have hl5:=B1 _ _ hl3
  generalize upd H3 t1 (.tup ((fs.map cM ++ ds.map dX).map V.str)) = J1 at B1 r1 hl5
  refine fun b1 g1=>?_
  have B2:=aJ.upd (o:=.dK []) g1
  have r2:upd J1 b1 (.dK []) b1 = some (.dK []):=aF
  have r1':=B2 _ _ r1
  have hl6:=B2 _ _ hl5
  generalize upd J1 b1 (.dK []) = J2 at B2 r2 r1' hl6
  refine ⟨aY rfl,fun b3 g3=>?_⟩
  have B3:=aJ.upd (o:=.lst [.non,.bl true,.int 7,.ref l,.ref t1,.ref b1]) g3
  have r3:upd J2 b3 (.lst [.non,.bl true,.int 7,.ref l,.ref t1,.ref b1]) b3 = some (.lst [.non,.bl true,.int 7,.ref l,.ref t1,.ref b1]):=aF
  have isl:IsL (upd J2 b3 (.lst [.non,.bl true,.int 7,.ref l,.ref t1,.ref b1])) [.non,.bl true,.int 7,.lst ((fs.map cM ++ ds.map dX).map Dv.str),.tup ((fs.map cM ++ ds.map dX).map Dv.str),.dct [] []] [.non,.bl true,.int 7,.ref l,.ref t1,.ref b1] :=
   ⟨_,_,rfl,rfl,_,_,rfl,rfl,_,_,rfl,rfl,_,_,rfl,⟨l,_,rfl,B3 _ _ hl6,rH _⟩,_,_,rfl,⟨t1,_,rfl,B3 _ _ r1',rH _⟩,_,_,rfl,⟨b1,[],rfl,B3 _ _ r2,rfl,rfl⟩,rfl⟩
  generalize upd J2 b3 (.lst [.non,.bl true,.int 7,.ref l,.ref t1,.ref b1]) = J3 at B3 r3 isl
  obtain ⟨k,ek,hk⟩:∃ k:Nat,n % 6 = (k:Int) ∧ k < 6:=⟨(n % 6).toNat,by omega,by omega⟩
  obtain ⟨d,ed⟩:∃ d,[Dv.non,.bl true,.int 7,.lst ((fs.map cM ++ ds.map dX).map Dv.str),.tup ((fs.map cM ++ ds.map dX).map Dv.str),.dct [] []][k]? = some d:=⟨_,List.getElem?_eq_getElem hk⟩
  obtain ⟨v,ev,iv⟩:=isl.get ed
  have nst:sX d = false:=by
   have md:=List.mem_of_getElem? ed
   simp only [List.mem_cons,List.mem_nil_iff,or_false] at md
   rcases md with rfl | rfl | rfl | rfl | rfl | rfl <;> rfl
  refine ⟨_,rfl,_,_,rfl,rfl,hX rfl,b3,_,k,v,rfl,congrArg V.int ek,SqL.of r3,bC ev,?_⟩
  refine gσ (σ':=[some (.ref a),some (.ref l),some (.int n),some v,some (.bl (lN text)),none]) rfl ?_
  refine gσ (σ':=[some (.ref a),some (.ref l),some (.int n),some v,some (.bl false),none]) rfl ?_
  exact kN v false J3 (B1.trans (B2.trans B3)) (.inr ⟨rfl,.inl ⟨d,iv,nst⟩⟩)
 ·refine kN _ _ H3 (aJ.refl _) ?_
  cases hb:lN text with
  | true =>
   obtain ⟨fs',ds',g1,g2,e⟩:=(yH text).mp hb
   exact .inl ⟨rfl,text,fs',ds',rfl,lt,g1,g2,e⟩
  | false =>
   exact .inr ⟨rfl,.inr ⟨text,rfl,lt,fun h=>by rw [(yH text).mpr h] at hb;cases hb⟩⟩
theorem law_mk {fa:Addr} (hmg:mg "law" = some (.ref fa)) (T:Txt K mg C) :
  ∃ fd:FuncData,(∀ (s:Shared) (u:Value),BindsTo s fd ⟨[u],[]⟩ [("_law_script",u)]) ∧ ∀ base:Heap,K.In base → base.Ns mainGlobals mg → FnOk P w K mg base CX0 12 fa fd ["_law_script"] (aAZ K):=by
 obtain ⟨f,fd,F,b,m⟩:=T.d_p_law.ex
 rw [hmg] at m
 cases m
 refine ⟨fd,fun s u=>?_,fun base _ _=>aJG T F⟩
 obtain ⟨oc,od,kV,doc,pm,an,cdv,ct,osl,rfl,lk,hcd⟩:=F.ex
 exact .of_eq rfl
end
theorem txt_mk {K:PySem.W.Frag} {h:Heap} {mg:Str → Option Value} (X:K.In h) (G:h.Ns mainGlobals mg)
    {C:Addr}
    {fm15:Addr} {ocm15 kVm15 docm15 pmm15 cdm15 ctm15:Value} {odm15 anm15:Option Addr} {slm15:Array (Option Value)}
    {fm16:Addr} {ocm16 kVm16 docm16 pmm16 cdm16 ctm16:Value} {odm16 anm16:Option Addr} {slm16:Array (Option Value)}
    {fm17:Addr} {ocm17 kVm17 docm17 pmm17 cdm17 ctm17:Value} {odm17 anm17:Option Addr} {slm17:Array (Option Value)}
    {fm18:Addr} {ocm18 kVm18 docm18 pmm18 cdm18 ctm18:Value} {odm18 anm18:Option Addr} {slm18:Array (Option Value)}
    {fm19:Addr} {ocm19 kVm19 docm19 pmm19 cdm19 ctm19:Value} {odm19 anm19:Option Addr} {slm19:Array (Option Value)}
    {fm20:Addr} {ocm20 kVm20 docm20 pmm20 cdm20 ctm20:Value} {odm20 anm20:Option Addr} {slm20:Array (Option Value)}
    {fm21:Addr} {ocm21 kVm21 docm21 pmm21 cdm21 ctm21:Value} {odm21 anm21:Option Addr} {slm21:Array (Option Value)}
    {fm22:Addr} {ocm22 kVm22 docm22 pmm22 cdm22 ctm22:Value} {odm22 anm22:Option Addr} {slm22:Array (Option Value)}
    {fm23:Addr} {ocm23 kVm23 docm23 pmm23 cdm23 ctm23:Value} {odm23 anm23:Option Addr} {slm23:Array (Option Value)}
    {fm24:Addr} {ocm24 kVm24 docm24 pmm24 cdm24 ctm24:Value} {odm24 anm24:Option Addr} {slm24:Array (Option Value)}
    {c_NoText c_NoLand c_DykeError c_NoDecree c_NoLevel c_NoName c_NoPurse c_NoRing c_NoRow c_NoSluice c_NoVoice c_NoWay c_NoWish c_NoWork c_Outvoted c_Short c_TooMany:Addr}
    {f0:Addr} {oc0 kV0 doc0 pm0 cd0 ct0:Value} {od0 an0:Option Addr} {sl0:Array (Option Value)}
    {f1:Addr} {oc1 kV1 doc1 pm1 cd1 ct1:Value} {od1 an1:Option Addr} {sl1:Array (Option Value)}
    {f2:Addr} {oc2 kV2 doc2 pm2 cd2 ct2:Value} {od2 an2:Option Addr} {sl2:Array (Option Value)}
    {f3:Addr} {oc3 kV3 doc3 pm3 cd3 ct3:Value} {od3 an3:Option Addr} {sl3:Array (Option Value)}
    {f4:Addr} {oc4 kV4 doc4 pm4 cd4 ct4:Value} {od4 an4:Option Addr} {sl4:Array (Option Value)}
    {f5:Addr} {oc5 kV5 doc5 pm5 cd5 ct5:Value} {od5 an5:Option Addr} {sl5:Array (Option Value)}
    {f6:Addr} {oc6 kV6 doc6 pm6 cd6 ct6:Value} {od6 an6:Option Addr} {sl6:Array (Option Value)}
    {f7:Addr} {oc7 kV7 doc7 pm7 cd7 ct7:Value} {od7 an7:Option Addr} {sl7:Array (Option Value)}
    {f8:Addr} {oc8 kV8 doc8 pm8 cd8 ct8:Value} {od8 an8:Option Addr} {sl8:Array (Option Value)}
    {f9:Addr} {oc9 kV9 doc9 pm9 cd9 ct9:Value} {od9 an9:Option Addr} {sl9:Array (Option Value)}
    {f10:Addr} {oc10 kV10 doc10 pm10 cd10 ct10:Value} {od10 an10:Option Addr} {sl10:Array (Option Value)}
    {f11:Addr} {oc11 kV11 doc11 pm11 cd11 ct11:Value} {od11 an11:Option Addr} {sl11:Array (Option Value)}
    {f12:Addr} {oc12 kV12 doc12 pm12 cd12 ct12:Value} {od12 an12:Option Addr} {sl12:Array (Option Value)}
    {f13:Addr} {oc13 kV13 doc13 pm13 cd13 ct13:Value} {od13 an13:Option Addr} {sl13:Array (Option Value)}
    {f14:Addr} {oc14 kV14 doc14 pm14 cd14 ct14:Value} {od14 an14:Option Addr} {sl14:Array (Option Value)}
    {f15:Addr} {oc15 kV15 doc15 pm15 cd15 ct15:Value} {od15 an15:Option Addr} {sl15:Array (Option Value)}
    {f16:Addr} {oc16 kV16 doc16 pm16 cd16 ct16:Value} {od16 an16:Option Addr} {sl16:Array (Option Value)}
    {f17:Addr} {oc17 kV17 doc17 pm17 cd17 ct17:Value} {od17 an17:Option Addr} {sl17:Array (Option Value)}
    {f18:Addr} {oc18 kV18 doc18 pm18 cd18 ct18:Value} {od18 an18:Option Addr} {sl18:Array (Option Value)}
    {f19:Addr} {oc19 kV19 doc19 pm19 cd19 ct19:Value} {od19 an19:Option Addr} {sl19:Array (Option Value)}
    {f20:Addr} {oc20 kV20 doc20 pm20 cd20 ct20:Value} {od20 an20:Option Addr} {sl20:Array (Option Value)}
    {f21:Addr} {oc21 kV21 doc21 pm21 cd21 ct21:Value} {od21 an21:Option Addr} {sl21:Array (Option Value)}
    {f22:Addr} {oc22 kV22 doc22 pm22 cd22 ct22:Value} {od22 an22:Option Addr} {sl22:Array (Option Value)}
    {f23:Addr} {oc23 kV23 doc23 pm23 cd23 ct23:Value} {od23 an23:Option Addr} {sl23:Array (Option Value)}
    {f24:Addr} {oc24 kV24 doc24 pm24 cd24 ct24:Value} {od24 an24:Option Addr} {sl24:Array (Option Value)}
    {f25:Addr} {oc25 kV25 doc25 pm25 cd25 ct25:Value} {od25 an25:Option Addr} {sl25:Array (Option Value)}
    {f26:Addr} {oc26 kV26 doc26 pm26 cd26 ct26:Value} {od26 an26:Option Addr} {sl26:Array (Option Value)}
    {f27:Addr} {oc27 kV27 doc27 pm27 cd27 ct27:Value} {od27 an27:Option Addr} {sl27:Array (Option Value)}
    {f28:Addr} {oc28 kV28 doc28 pm28 cd28 ct28:Value} {od28 an28:Option Addr} {sl28:Array (Option Value)}
    {f29:Addr} {oc29 kV29 doc29 pm29 cd29 ct29:Value} {od29 an29:Option Addr} {sl29:Array (Option Value)}
    {f30:Addr} {oc30 kV30 doc30 pm30 cd30 ct30:Value} {od30 an30:Option Addr} {sl30:Array (Option Value)}
    {f31:Addr} {oc31 kV31 doc31 pm31 cd31 ct31:Value} {od31 an31:Option Addr} {sl31:Array (Option Value)}
    {f32:Addr} {oc32 kV32 doc32 pm32 cd32 ct32:Value} {od32 an32:Option Addr} {sl32:Array (Option Value)}
    {f33:Addr} {oc33 kV33 doc33 pm33 cd33 ct33:Value} {od33 an33:Option Addr} {sl33:Array (Option Value)}
    {f34:Addr} {oc34 kV34 doc34 pm34 cd34 ct34:Value} {od34 an34:Option Addr} {sl34:Array (Option Value)}
    {f35:Addr} {oc35 kV35 doc35 pm35 cd35 ct35:Value} {od35 an35:Option Addr} {sl35:Array (Option Value)}
    {f36:Addr} {oc36 kV36 doc36 pm36 cd36 ct36:Value} {od36 an36:Option Addr} {sl36:Array (Option Value)}
    {f37:Addr} {oc37 kV37 doc37 pm37 cd37 ct37:Value} {od37 an37:Option Addr} {sl37:Array (Option Value)}
    {f38:Addr} {oc38 kV38 doc38 pm38 cd38 ct38:Value} {od38 an38:Option Addr} {sl38:Array (Option Value)}
    {f39:Addr} {oc39 kV39 doc39 pm39 cd39 ct39:Value} {od39 an39:Option Addr} {sl39:Array (Option Value)}
    {f40:Addr} {oc40 kV40 doc40 pm40 cd40 ct40:Value} {od40 an40:Option Addr} {sl40:Array (Option Value)}
    {f41:Addr} {oc41 kV41 doc41 pm41 cd41 ct41:Value} {od41 an41:Option Addr} {sl41:Array (Option Value)}
    {f42:Addr} {oc42 kV42 doc42 pm42 cd42 ct42:Value} {od42 an42:Option Addr} {sl42:Array (Option Value)}
    {u0:Value}
    {u1:Value}
    {u2:Value}
    {u3:Value}
    {u4:Value}
    {u5:Value}
    {u6:Value}
    {u7:Value}
    {u8:Value}
    (aC:PySem.W.nsIn K mainGlobals "Land" = some (some (.ref C))) (pgC:PySem.W.plainGet K C Str.empty = true) (hdC:PySem.W.hasDictIn K C = true) (poC:PySem.W.plainOver K C = true) (saC:PySem.W.findIn K (.ref C) "__setattr__" = some (some (.builtin "object.__setattr__"))) (mkC:PySem.W.makesIn K C = true) (kpC:PySem.W.keepIn K (.ref C) = true)
    (n_field_rows:PySem.W.findIn K (.ref C) "field_rows" = some none)
    (n_dyke_rows:PySem.W.findIn K (.ref C) "dyke_rows" = some none)
    (iha:PySem.W.findIn K (.ref C) "__class__" = some (some (.builtin "object.__class__"))) (ihn:PySem.W.specialIn K (.builtin "object.__class__") "__get__" = some (some (.builtin "getset_descriptor.__get__"))) (iht:PySem.W.takesIn K (.builtin "object.__class__") = some true) (ihm:PySem.W.mroIn K C (.type "object") = some true)
    (ma15:PySem.W.findIn K (.ref C) "__init__" = some (some (.ref fm15))) (mi15:PySem.W.isFn K (.ref fm15) = true) (ml15:K.lookup fm15 = some ⟨ocm15,odm15,.func (PySem.W.fnOf "__init__" "Land.__init__" (aL fX) (aK fX) (aE fX) .none kVm15 docm15 pmm15 anm15 cdm15 ctm15),slm15⟩) (mc15:PySem.W.codeIn K cdm15 "Land.__init__" = true) (mk15:PySem.W.keepIn K (.ref fm15) = true)
    (ma16:PySem.W.findIn K (.ref C) "fields" = some (some (.ref fm16))) (mi16:PySem.W.isFn K (.ref fm16) = true) (ml16:K.lookup fm16 = some ⟨ocm16,odm16,.func (PySem.W.fnOf "fields" "Land.fields" (aL eB) (aK eB) (aE eB) .none kVm16 docm16 pmm16 anm16 cdm16 ctm16),slm16⟩) (mc16:PySem.W.codeIn K cdm16 "Land.fields" = true) (mk16:PySem.W.keepIn K (.ref fm16) = true)
    (ma17:PySem.W.findIn K (.ref C) "dykes" = some (some (.ref fm17))) (mi17:PySem.W.isFn K (.ref fm17) = true) (ml17:K.lookup fm17 = some ⟨ocm17,odm17,.func (PySem.W.fnOf "dykes" "Land.dykes" (aL eP) (aK eP) (aE eP) .none kVm17 docm17 pmm17 anm17 cdm17 ctm17),slm17⟩) (mc17:PySem.W.codeIn K cdm17 "Land.dykes" = true) (mk17:PySem.W.keepIn K (.ref fm17) = true)
    (ma18:PySem.W.findIn K (.ref C) "field_names" = some (some (.ref fm18))) (mi18:PySem.W.isFn K (.ref fm18) = true) (ml18:K.lookup fm18 = some ⟨ocm18,odm18,.func (PySem.W.fnOf "field_names" "Land.field_names" (aL cY) (aK cY) (aE cY) .none kVm18 docm18 pmm18 anm18 cdm18 ctm18),slm18⟩) (mc18:PySem.W.codeIn K cdm18 "Land.field_names" = true) (mk18:PySem.W.keepIn K (.ref fm18) = true)
    (ma19:PySem.W.findIn K (.ref C) "dyke_names" = some (some (.ref fm19))) (mi19:PySem.W.isFn K (.ref fm19) = true) (ml19:K.lookup fm19 = some ⟨ocm19,odm19,.func (PySem.W.fnOf "dyke_names" "Land.dyke_names" (aL dM) (aK dM) (aE dM) .none kVm19 docm19 pmm19 anm19 cdm19 ctm19),slm19⟩) (mc19:PySem.W.codeIn K cdm19 "Land.dyke_names" = true) (mk19:PySem.W.keepIn K (.ref fm19) = true)
    (ma20:PySem.W.findIn K (.ref C) "sluices" = some (some (.ref fm20))) (mi20:PySem.W.isFn K (.ref fm20) = true) (ml20:K.lookup fm20 = some ⟨ocm20,odm20,.func (PySem.W.fnOf "sluices" "Land.sluices" (aL eR) (aK eR) (aE eR) .none kVm20 docm20 pmm20 anm20 cdm20 ctm20),slm20⟩) (mc20:PySem.W.codeIn K cdm20 "Land.sluices" = true) (mk20:PySem.W.keepIn K (.ref fm20) = true)
    (ma21:PySem.W.findIn K (.ref C) "ground" = some (some (.ref fm21))) (mi21:PySem.W.isFn K (.ref fm21) = true) (ml21:K.lookup fm21 = some ⟨ocm21,odm21,.func (PySem.W.fnOf "ground" "Land.ground" (aL fG) (aK fG) (aE fG) .none kVm21 docm21 pmm21 anm21 cdm21 ctm21),slm21⟩) (mc21:PySem.W.codeIn K cdm21 "Land.ground" = true) (mk21:PySem.W.keepIn K (.ref fm21) = true)
    (ma22:PySem.W.findIn K (.ref C) "dues" = some (some (.ref fm22))) (mi22:PySem.W.isFn K (.ref fm22) = true) (ml22:K.lookup fm22 = some ⟨ocm22,odm22,.func (PySem.W.fnOf "dues" "Land.dues" (aL gL) (aK gL) (aE gL) .none kVm22 docm22 pmm22 anm22 cdm22 ctm22),slm22⟩) (mc22:PySem.W.codeIn K cdm22 "Land.dues" = true) (mk22:PySem.W.keepIn K (.ref fm22) = true)
    (ma23:PySem.W.findIn K (.ref C) "dyke" = some (some (.ref fm23))) (mi23:PySem.W.isFn K (.ref fm23) = true) (ml23:K.lookup fm23 = some ⟨ocm23,odm23,.func (PySem.W.fnOf "dyke" "Land.dyke" (aL gK) (aK gK) (aE gK) .none kVm23 docm23 pmm23 anm23 cdm23 ctm23),slm23⟩) (mc23:PySem.W.codeIn K cdm23 "Land.dyke" = true) (mk23:PySem.W.keepIn K (.ref fm23) = true)
    (ma24:PySem.W.findIn K (.ref C) "raised" = some (some (.ref fm24))) (mi24:PySem.W.isFn K (.ref fm24) = true) (ml24:K.lookup fm24 = some ⟨ocm24,odm24,.func (PySem.W.fnOf "raised" "Land.raised" (aL fF) (aK fF) (aE fF) .none kVm24 docm24 pmm24 anm24 cdm24 ctm24),slm24⟩) (mc24:PySem.W.codeIn K cdm24 "Land.raised" = true) (mk24:PySem.W.keepIn K (.ref fm24) = true)
    (xa_NoText:PySem.W.nsIn K mainGlobals "NoText" = some (some (.ref c_NoText))) (xa_NoLand:PySem.W.nsIn K mainGlobals "NoLand" = some (some (.ref c_NoLand))) (xa_DykeError:PySem.W.nsIn K mainGlobals "DykeError" = some (some (.ref c_DykeError))) (xa_NoDecree:PySem.W.nsIn K mainGlobals "NoDecree" = some (some (.ref c_NoDecree))) (xa_NoLevel:PySem.W.nsIn K mainGlobals "NoLevel" = some (some (.ref c_NoLevel))) (xa_NoName:PySem.W.nsIn K mainGlobals "NoName" = some (some (.ref c_NoName))) (xa_NoPurse:PySem.W.nsIn K mainGlobals "NoPurse" = some (some (.ref c_NoPurse))) (xa_NoRing:PySem.W.nsIn K mainGlobals "NoRing" = some (some (.ref c_NoRing))) (xa_NoRow:PySem.W.nsIn K mainGlobals "NoRow" = some (some (.ref c_NoRow))) (xa_NoSluice:PySem.W.nsIn K mainGlobals "NoSluice" = some (some (.ref c_NoSluice))) (xa_NoVoice:PySem.W.nsIn K mainGlobals "NoVoice" = some (some (.ref c_NoVoice))) (xa_NoWay:PySem.W.nsIn K mainGlobals "NoWay" = some (some (.ref c_NoWay))) (xa_NoWish:PySem.W.nsIn K mainGlobals "NoWish" = some (some (.ref c_NoWish))) (xa_NoWork:PySem.W.nsIn K mainGlobals "NoWork" = some (some (.ref c_NoWork))) (xa_Outvoted:PySem.W.nsIn K mainGlobals "Outvoted" = some (some (.ref c_Outvoted))) (xa_Short:PySem.W.nsIn K mainGlobals "Short" = some (some (.ref c_Short))) (xa_TooMany:PySem.W.nsIn K mainGlobals "TooMany" = some (some (.ref c_TooMany))) (xq_NoText:PySem.W.excIn K c_NoText [.type "ValueError",.type "Exception",.type "BaseException",.type "object"] "ValueError.__new__" = true) (xm_NoText:PySem.W.exmOne K (.ref c_NoText) (.ref c_NoText) = some true) (xp_NoText:PySem.W.findIn K (.ref c_NoText) "__getattribute__" = some (some (.builtin "BaseException.__getattribute__"))) (xg_NoText:PySem.W.findIn K (.ref c_NoText) "__getattr__" = some none) (xb_NoText:PySem.W.mroIn K c_NoText (.type "BaseException") = some true) (xh_NoText:PySem.W.findIn K (.ref c_NoText) "__class__" = some (some (.builtin "object.__class__"))) (xi_NoText:PySem.W.specialIn K (.builtin "object.__class__") "__get__" = some (some (.builtin "getset_descriptor.__get__"))) (xt_NoText:PySem.W.takesIn K (.builtin "object.__class__") = some true) (xo_NoText:PySem.W.mroIn K c_NoText (.type "object") = some true) (xq_NoLand:PySem.W.excIn K c_NoLand [.type "ValueError",.type "Exception",.type "BaseException",.type "object"] "ValueError.__new__" = true) (xm_NoLand:PySem.W.exmOne K (.ref c_NoLand) (.ref c_NoLand) = some true)
    (xz0:PySem.W.kitOne K (.ref c_NoText) (.ref c_DykeError) = some true)
    (xz1:PySem.W.kitOne K (.ref c_NoText) (.type "ValueError") = some true)
    (xz2:PySem.W.kitOne K (.ref c_NoText) (.ref c_NoDecree) = some false)
    (xz3:PySem.W.kitOne K (.ref c_NoText) (.ref c_NoLand) = some false)
    (xz4:PySem.W.kitOne K (.ref c_NoText) (.ref c_NoLevel) = some false)
    (xz5:PySem.W.kitOne K (.ref c_NoText) (.ref c_NoName) = some false)
    (xz6:PySem.W.kitOne K (.ref c_NoText) (.ref c_NoPurse) = some false)
    (xz7:PySem.W.kitOne K (.ref c_NoText) (.ref c_NoRing) = some false)
    (xz8:PySem.W.kitOne K (.ref c_NoText) (.ref c_NoRow) = some false)
    (xz9:PySem.W.kitOne K (.ref c_NoText) (.ref c_NoSluice) = some false)
    (xz10:PySem.W.kitOne K (.ref c_NoText) (.ref c_NoVoice) = some false)
    (xz11:PySem.W.kitOne K (.ref c_NoText) (.ref c_NoWay) = some false)
    (xz12:PySem.W.kitOne K (.ref c_NoText) (.ref c_NoWish) = some false)
    (xz13:PySem.W.kitOne K (.ref c_NoText) (.ref c_NoWork) = some false)
    (xz14:PySem.W.kitOne K (.ref c_NoText) (.ref c_Outvoted) = some false)
    (xz15:PySem.W.kitOne K (.ref c_NoText) (.ref c_Short) = some false)
    (xz16:PySem.W.kitOne K (.ref c_NoText) (.ref c_TooMany) = some false)
    (xz17:PySem.W.exmOne K (.ref c_NoText) (.ref c_NoText) = some true)
    (xz18:PySem.W.exmOne K (.ref c_NoLand) (.ref c_NoLand) = some true)
    (a0:PySem.W.nsIn K mainGlobals "_wall" = some (some (.ref f0))) (l0:K.lookup f0 = some ⟨oc0,od0,.func (PySem.W.fnOf "_wall" "_wall" (aL nZ) (aK nZ) (aE nZ) .none kV0 doc0 pm0 an0 cd0 ct0),sl0⟩) (c0:PySem.W.codeIn K cd0 "_wall" = true) (k0:PySem.W.keepIn K (.ref f0) = true)
    (a1:PySem.W.nsIn K mainGlobals "is_whole" = some (some (.ref f1))) (l1:K.lookup f1 = some ⟨oc1,od1,.func (PySem.W.fnOf "is_whole" "is_whole" (aL fT) (aK fT) (aE fT) .none kV1 doc1 pm1 an1 cd1 ct1),sl1⟩) (c1:PySem.W.codeIn K cd1 "is_whole" = true) (k1:PySem.W.keepIn K (.ref f1) = true)
    (a2:PySem.W.nsIn K mainGlobals "is_name" = some (some (.ref f2))) (l2:K.lookup f2 = some ⟨oc2,od2,.func (PySem.W.fnOf "is_name" "is_name" (aL gS) (aK gS) (aE gS) .none kV2 doc2 pm2 an2 cd2 ct2),sl2⟩) (c2:PySem.W.codeIn K cd2 "is_name" = true) (k2:PySem.W.keepIn K (.ref f2) = true)
    (a3:PySem.W.nsIn K mainGlobals "is_height" = some (some (.ref f3))) (l3:K.lookup f3 = some ⟨oc3,od3,.func (PySem.W.fnOf "is_height" "is_height" (aL eZ) (aK eZ) (aE eZ) .none kV3 doc3 pm3 an3 cd3 ct3),sl3⟩) (c3:PySem.W.codeIn K cd3 "is_height" = true) (k3:PySem.W.keepIn K (.ref f3) = true)
    (a4:PySem.W.nsIn K mainGlobals "is_amount" = some (some (.ref f4))) (l4:K.lookup f4 = some ⟨oc4,od4,.func (PySem.W.fnOf "is_amount" "is_amount" (aL fA) (aK fA) (aE fA) .none kV4 doc4 pm4 an4 cd4 ct4),sl4⟩) (c4:PySem.W.codeIn K cd4 "is_amount" = true) (k4:PySem.W.keepIn K (.ref f4) = true)
    (a5:PySem.W.nsIn K mainGlobals "is_one_of" = some (some (.ref f5))) (l5:K.lookup f5 = some ⟨oc5,od5,.func (PySem.W.fnOf "is_one_of" "is_one_of" (aL eY) (aK eY) (aE eY) .none kV5 doc5 pm5 an5 cd5 ct5),sl5⟩) (c5:PySem.W.codeIn K cd5 "is_one_of" = true) (k5:PySem.W.keepIn K (.ref f5) = true)
    (a6:PySem.W.nsIn K mainGlobals "is_list_of" = some (some (.ref f6))) (l6:K.lookup f6 = some ⟨oc6,od6,.func (PySem.W.fnOf "is_list_of" "is_list_of" (aL eN) (aK eN) (aE eN) .none kV6 doc6 pm6 an6 cd6 ct6),sl6⟩) (c6:PySem.W.codeIn K cd6 "is_list_of" = true) (k6:PySem.W.keepIn K (.ref f6) = true)
    (a7:PySem.W.nsIn K mainGlobals "is_tuple_of" = some (some (.ref f7))) (l7:K.lookup f7 = some ⟨oc7,od7,.func (PySem.W.fnOf "is_tuple_of" "is_tuple_of" (aL eA) (aK eA) (aE eA) .none kV7 doc7 pm7 an7 cd7 ct7),sl7⟩) (c7:PySem.W.codeIn K cd7 "is_tuple_of" = true) (k7:PySem.W.keepIn K (.ref f7) = true)
    (a8:PySem.W.nsIn K mainGlobals "none_twice" = some (some (.ref f8))) (l8:K.lookup f8 = some ⟨oc8,od8,.func (PySem.W.fnOf "none_twice" "none_twice" (aL eM) (aK eM) (aE eM) .none kV8 doc8 pm8 an8 cd8 ct8),sl8⟩) (c8:PySem.W.codeIn K cd8 "none_twice" = true) (k8:PySem.W.keepIn K (.ref f8) = true)
    (a9:PySem.W.nsIn K mainGlobals "is_field" = some (some (.ref f9))) (l9:K.lookup f9 = some ⟨oc9,od9,.func (PySem.W.fnOf "is_field" "is_field" (aL fU) (aK fU) (aE fU) .none kV9 doc9 pm9 an9 cd9 ct9),sl9⟩) (c9:PySem.W.codeIn K cd9 "is_field" = true) (k9:PySem.W.keepIn K (.ref f9) = true)
    (a10:PySem.W.nsIn K mainGlobals "are_fields" = some (some (.ref f10))) (l10:K.lookup f10 = some ⟨oc10,od10,.func (PySem.W.fnOf "are_fields" "are_fields" (aL eO) (aK eO) (aE eO) .none kV10 doc10 pm10 an10 cd10 ct10),sl10⟩) (c10:PySem.W.codeIn K cd10 "are_fields" = true) (k10:PySem.W.keepIn K (.ref f10) = true)
    (a11:PySem.W.nsIn K mainGlobals "are_sides" = some (some (.ref f11))) (l11:K.lookup f11 = some ⟨oc11,od11,.func (PySem.W.fnOf "are_sides" "are_sides" (aL fC) (aK fC) (aE fC) .none kV11 doc11 pm11 an11 cd11 ct11),sl11⟩) (c11:PySem.W.codeIn K cd11 "are_sides" = true) (k11:PySem.W.keepIn K (.ref f11) = true)
    (a12:PySem.W.nsIn K mainGlobals "is_sill" = some (some (.ref f12))) (l12:K.lookup f12 = some ⟨oc12,od12,.func (PySem.W.fnOf "is_sill" "is_sill" (aL gR) (aK gR) (aE gR) .none kV12 doc12 pm12 an12 cd12 ct12),sl12⟩) (c12:PySem.W.codeIn K cd12 "is_sill" = true) (k12:PySem.W.keepIn K (.ref f12) = true)
    (a13:PySem.W.nsIn K mainGlobals "is_dyke" = some (some (.ref f13))) (l13:K.lookup f13 = some ⟨oc13,od13,.func (PySem.W.fnOf "is_dyke" "is_dyke" (aL gT) (aK gT) (aE gT) .none kV13 doc13 pm13 an13 cd13 ct13),sl13⟩) (c13:PySem.W.codeIn K cd13 "is_dyke" = true) (k13:PySem.W.keepIn K (.ref f13) = true)
    (a14:PySem.W.nsIn K mainGlobals "are_dykes" = some (some (.ref f14))) (l14:K.lookup f14 = some ⟨oc14,od14,.func (PySem.W.fnOf "are_dykes" "are_dykes" (aL fD) (aK fD) (aE fD) .none kV14 doc14 pm14 an14 cd14 ct14),sl14⟩) (c14:PySem.W.codeIn K cd14 "are_dykes" = true) (k14:PySem.W.keepIn K (.ref f14) = true)
    (a15:PySem.W.nsIn K mainGlobals "number_within" = some (some (.ref f15))) (l15:K.lookup f15 = some ⟨oc15,od15,.func (PySem.W.fnOf "number_within" "number_within" (aL cD) (aK cD) (aE cD) .none kV15 doc15 pm15 an15 cd15 ct15),sl15⟩) (c15:PySem.W.codeIn K cd15 "number_within" = true) (k15:PySem.W.keepIn K (.ref f15) = true)
    (a16:PySem.W.nsIn K mainGlobals "number_of" = some (some (.ref f16))) (l16:K.lookup f16 = some ⟨oc16,od16,.func (PySem.W.fnOf "number_of" "number_of" (aL eX) (aK eX) (aE eX) .none kV16 doc16 pm16 an16 cd16 ct16),sl16⟩) (c16:PySem.W.codeIn K cd16 "number_of" = true) (k16:PySem.W.keepIn K (.ref f16) = true)
    (a17:PySem.W.nsIn K mainGlobals "field_row" = some (some (.ref f17))) (l17:K.lookup f17 = some ⟨oc17,od17,.func (PySem.W.fnOf "field_row" "field_row" (aL fB) (aK fB) (aE fB) .none kV17 doc17 pm17 an17 cd17 ct17),sl17⟩) (c17:PySem.W.codeIn K cd17 "field_row" = true) (k17:PySem.W.keepIn K (.ref f17) = true)
    (a18:PySem.W.nsIn K mainGlobals "dyke_row" = some (some (.ref f18))) (l18:K.lookup f18 = some ⟨oc18,od18,.func (PySem.W.fnOf "dyke_row" "dyke_row" (aL fW) (aK fW) (aE fW) .none kV18 doc18 pm18 an18 cd18 ct18),sl18⟩) (c18:PySem.W.codeIn K cd18 "dyke_row" = true) (k18:PySem.W.keepIn K (.ref f18) = true)
    (a19:PySem.W.nsIn K mainGlobals "show_land" = some (some (.ref f19))) (l19:K.lookup f19 = some ⟨oc19,od19,.func (PySem.W.fnOf "show_land" "show_land" (aL eV) (aK eV) (aE eV) .none kV19 doc19 pm19 an19 cd19 ct19),sl19⟩) (c19:PySem.W.codeIn K cd19 "show_land" = true) (k19:PySem.W.keepIn K (.ref f19) = true)
    (a20:PySem.W.nsIn K mainGlobals "field_in" = some (some (.ref f20))) (l20:K.lookup f20 = some ⟨oc20,od20,.func (PySem.W.fnOf "field_in" "field_in" (aL fV) (aK fV) (aE fV) .none kV20 doc20 pm20 an20 cd20 ct20),sl20⟩) (c20:PySem.W.codeIn K cd20 "field_in" = true) (k20:PySem.W.keepIn K (.ref f20) = true)
    (a21:PySem.W.nsIn K mainGlobals "dyke_in" = some (some (.ref f21))) (l21:K.lookup f21 = some ⟨oc21,od21,.func (PySem.W.fnOf "dyke_in" "dyke_in" (aL gU) (aK gU) (aE gU) .none kV21 doc21 pm21 an21 cd21 ct21),sl21⟩) (c21:PySem.W.codeIn K cd21 "dyke_in" = true) (k21:PySem.W.keepIn K (.ref f21) = true)
    (a22:PySem.W.nsIn K mainGlobals "land_in" = some (some (.ref f22))) (l22:K.lookup f22 = some ⟨oc22,od22,.func (PySem.W.fnOf "land_in" "land_in" (aL gQ) (aK gQ) (aE gQ) .none kV22 doc22 pm22 an22 cd22 ct22),sl22⟩) (c22:PySem.W.codeIn K cd22 "land_in" = true) (k22:PySem.W.keepIn K (.ref f22) = true)
    (a23:PySem.W.nsIn K mainGlobals "read_land" = some (some (.ref f23))) (l23:K.lookup f23 = some ⟨oc23,od23,.func (PySem.W.fnOf "read_land" "read_land" (aL eW) (aK eW) (aE eW) .none kV23 doc23 pm23 an23 cd23 ct23),sl23⟩) (c23:PySem.W.codeIn K cd23 "read_land" = true) (k23:PySem.W.keepIn K (.ref f23) = true)
    (a24:PySem.W.nsIn K mainGlobals "_law_cell_at" = some (some (.ref f24))) (l24:K.lookup f24 = some ⟨oc24,od24,.func (PySem.W.fnOf "_law_cell_at" "_law_cell_at" (aL gZ) (aK gZ) (aE gZ) .none kV24 doc24 pm24 an24 cd24 ct24),sl24⟩) (c24:PySem.W.codeIn K cd24 "_law_cell_at" = true) (k24:PySem.W.keepIn K (.ref f24) = true)
    (a25:PySem.W.nsIn K mainGlobals "_law_mixed" = some (some (.ref f25))) (l25:K.lookup f25 = some ⟨oc25,od25,.func (PySem.W.fnOf "_law_mixed" "_law_mixed" (aL jG) (aK jG) (aE jG) .none kV25 doc25 pm25 an25 cd25 ct25),sl25⟩) (c25:PySem.W.codeIn K cd25 "_law_mixed" = true) (k25:PySem.W.keepIn K (.ref f25) = true)
    (a26:PySem.W.nsIn K mainGlobals "_law_name" = some (some (.ref f26))) (l26:K.lookup f26 = some ⟨oc26,od26,.func (PySem.W.fnOf "_law_name" "_law_name" (aL kW) (aK kW) (aE kW) .none kV26 doc26 pm26 an26 cd26 ct26),sl26⟩) (c26:PySem.W.codeIn K cd26 "_law_name" = true) (k26:PySem.W.keepIn K (.ref f26) = true)
    (a27:PySem.W.nsIn K mainGlobals "_law_height" = some (some (.ref f27))) (l27:K.lookup f27 = some ⟨oc27,od27,.func (PySem.W.fnOf "_law_height" "_law_height" (aL iK) (aK iK) (aE iK) .none kV27 doc27 pm27 an27 cd27 ct27),sl27⟩) (c27:PySem.W.codeIn K cd27 "_law_height" = true) (k27:PySem.W.keepIn K (.ref f27) = true)
    (a28:PySem.W.nsIn K mainGlobals "_law_count" = some (some (.ref f28))) (l28:K.lookup f28 = some ⟨oc28,od28,.func (PySem.W.fnOf "_law_count" "_law_count" (aL jJ) (aK jJ) (aE jJ) .none kV28 doc28 pm28 an28 cd28 ct28),sl28⟩) (c28:PySem.W.codeIn K cd28 "_law_count" = true) (k28:PySem.W.keepIn K (.ref f28) = true)
    (a29:PySem.W.nsIn K mainGlobals "_law_fields" = some (some (.ref f29))) (l29:K.lookup f29 = some ⟨oc29,od29,.func (PySem.W.fnOf "_law_fields" "_law_fields" (aL iL) (aK iL) (aE iL) .none kV29 doc29 pm29 an29 cd29 ct29),sl29⟩) (c29:PySem.W.codeIn K cd29 "_law_fields" = true) (k29:PySem.W.keepIn K (.ref f29) = true)
    (a30:PySem.W.nsIn K mainGlobals "_law_dyke" = some (some (.ref f30))) (l30:K.lookup f30 = some ⟨oc30,od30,.func (PySem.W.fnOf "_law_dyke" "_law_dyke" (aL kY) (aK kY) (aE kY) .none kV30 doc30 pm30 an30 cd30 ct30),sl30⟩) (c30:PySem.W.codeIn K cd30 "_law_dyke" = true) (k30:PySem.W.keepIn K (.ref f30) = true)
    (a31:PySem.W.nsIn K mainGlobals "_law_dykes" = some (some (.ref f31))) (l31:K.lookup f31 = some ⟨oc31,od31,.func (PySem.W.fnOf "_law_dykes" "_law_dykes" (aL jI) (aK jI) (aE jI) .none kV31 doc31 pm31 an31 cd31 ct31),sl31⟩) (c31:PySem.W.codeIn K cd31 "_law_dykes" = true) (k31:PySem.W.keepIn K (.ref f31) = true)
    (a32:PySem.W.nsIn K mainGlobals "_law_lines" = some (some (.ref f32))) (l32:K.lookup f32 = some ⟨oc32,od32,.func (PySem.W.fnOf "_law_lines" "_law_lines" (aL jH) (aK jH) (aE jH) .none kV32 doc32 pm32 an32 cd32 ct32),sl32⟩) (c32:PySem.W.codeIn K cd32 "_law_lines" = true) (k32:PySem.W.keepIn K (.ref f32) = true)
    (a33:PySem.W.nsIn K mainGlobals "_law_signs" = some (some (.ref f33))) (l33:K.lookup f33 = some ⟨oc33,od33,.func (PySem.W.fnOf "_law_signs" "_law_signs" (aL jF) (aK jF) (aE jF) .none kV33 doc33 pm33 an33 cd33 ct33),sl33⟩) (c33:PySem.W.codeIn K cd33 "_law_signs" = true) (k33:PySem.W.keepIn K (.ref f33) = true)
    (a34:PySem.W.nsIn K mainGlobals "_law_words" = some (some (.ref f34))) (l34:K.lookup f34 = some ⟨oc34,od34,.func (PySem.W.fnOf "_law_words" "_law_words" (aL jE) (aK jE) (aE jE) .none kV34 doc34 pm34 an34 cd34 ct34),sl34⟩) (c34:PySem.W.codeIn K cd34 "_law_words" = true) (k34:PySem.W.keepIn K (.ref f34) = true)
    (a35:PySem.W.nsIn K mainGlobals "_law_many" = some (some (.ref f35))) (l35:K.lookup f35 = some ⟨oc35,od35,.func (PySem.W.fnOf "_law_many" "_law_many" (aL kX) (aK kX) (aE kX) .none kV35 doc35 pm35 an35 cd35 ct35),sl35⟩) (c35:PySem.W.codeIn K cd35 "_law_many" = true) (k35:PySem.W.keepIn K (.ref f35) = true)
    (a36:PySem.W.nsIn K mainGlobals "_law_spoilt" = some (some (.ref f36))) (l36:K.lookup f36 = some ⟨oc36,od36,.func (PySem.W.fnOf "_law_spoilt" "_law_spoilt" (aL iI) (aK iI) (aE iI) .none kV36 doc36 pm36 an36 cd36 ct36),sl36⟩) (c36:PySem.W.codeIn K cd36 "_law_spoilt" = true) (k36:PySem.W.keepIn K (.ref f36) = true)
    (a37:PySem.W.nsIn K mainGlobals "_law_is_name" = some (some (.ref f37))) (l37:K.lookup f37 = some ⟨oc37,od37,.func (PySem.W.fnOf "_law_is_name" "_law_is_name" (aL gW) (aK gW) (aE gW) .none kV37 doc37 pm37 an37 cd37 ct37),sl37⟩) (c37:PySem.W.codeIn K cd37 "_law_is_name" = true) (k37:PySem.W.keepIn K (.ref f37) = true)
    (a38:PySem.W.nsIn K mainGlobals "_law_number" = some (some (.ref f38))) (l38:K.lookup f38 = some ⟨oc38,od38,.func (PySem.W.fnOf "_law_number" "_law_number" (aL iJ) (aK iJ) (aE iJ) .none kV38 doc38 pm38 an38 cd38 ct38),sl38⟩) (c38:PySem.W.codeIn K cd38 "_law_number" = true) (k38:PySem.W.keepIn K (.ref f38) = true)
    (a39:PySem.W.nsIn K mainGlobals "_law_is_dyke" = some (some (.ref f39))) (l39:K.lookup f39 = some ⟨oc39,od39,.func (PySem.W.fnOf "_law_is_dyke" "_law_is_dyke" (aL gY) (aK gY) (aE gY) .none kV39 doc39 pm39 an39 cd39 ct39),sl39⟩) (c39:PySem.W.codeIn K cd39 "_law_is_dyke" = true) (k39:PySem.W.keepIn K (.ref f39) = true)
    (a40:PySem.W.nsIn K mainGlobals "_law_is_land" = some (some (.ref f40))) (l40:K.lookup f40 = some ⟨oc40,od40,.func (PySem.W.fnOf "_law_is_land" "_law_is_land" (aL gX) (aK gX) (aE gX) .none kV40 doc40 pm40 an40 cd40 ct40),sl40⟩) (c40:PySem.W.codeIn K cd40 "_law_is_land" = true) (k40:PySem.W.keepIn K (.ref f40) = true)
    (a41:PySem.W.nsIn K mainGlobals "_law_told" = some (some (.ref f41))) (l41:K.lookup f41 = some ⟨oc41,od41,.func (PySem.W.fnOf "_law_told" "_law_told" (aL kU) (aK kU) (aE kU) .none kV41 doc41 pm41 an41 cd41 ct41),sl41⟩) (c41:PySem.W.codeIn K cd41 "_law_told" = true) (k41:PySem.W.keepIn K (.ref f41) = true)
    (a42:PySem.W.nsIn K mainGlobals "law" = some (some (.ref f42))) (l42:K.lookup f42 = some ⟨oc42,od42,.func (PySem.W.fnOf "law" "law" (aL mE) (aK mE) (aE mE) .none kV42 doc42 pm42 an42 cd42 ct42),sl42⟩) (c42:PySem.W.codeIn K cd42 "law" = true) (k42:PySem.W.keepIn K (.ref f42) = true)
    (g0:PySem.W.nsIn K mainGlobals "SEA" = some (some u0)) (r0:bO (.str "sea") u0)
    (g1:PySem.W.nsIn K mainGlobals "LETTERS" = some (some u1)) (r1:bO (.str "abcdefghijklmnopqrstuvwxyz") u1)
    (g2:PySem.W.nsIn K mainGlobals "MOST_LETTERS" = some (some u2)) (r2:bO (.int 8) u2)
    (g3:PySem.W.nsIn K mainGlobals "MOST_HEIGHT" = some (some u3)) (r3:bO (.int 1000000) u3)
    (g4:PySem.W.nsIn K mainGlobals "MOST_AMOUNT" = some (some u4)) (r4:bO (.int 1000000) u4)
    (g5:PySem.W.nsIn K mainGlobals "MOST_FIELDS" = some (some u5)) (r5:bO (.int 12) u5)
    (g6:PySem.W.nsIn K mainGlobals "MOST_DYKES" = some (some u6)) (r6:bO (.int 40) u6)
    (g7:PySem.W.nsIn K mainGlobals "FIGURES" = some (some u7)) (r7:bO (.str "0123456789") u7)
    (g8:PySem.W.nsIn K mainGlobals "MOST_FIGURES" = some (some u8)) (r8:bO (.int 7) u8)
    (z0:PySem.W.nsIn K mainGlobals "ValueError" = some none)
    (z1:PySem.W.nsIn K mainGlobals "all" = some none)
    (z2:PySem.W.nsIn K mainGlobals "bool" = some none)
    (z3:PySem.W.nsIn K mainGlobals "dict" = some none)
    (z4:PySem.W.nsIn K mainGlobals "int" = some none)
    (z5:PySem.W.nsIn K mainGlobals "isinstance" = some none)
    (z6:PySem.W.nsIn K mainGlobals "len" = some none)
    (z7:PySem.W.nsIn K mainGlobals "list" = some none)
    (z8:PySem.W.nsIn K mainGlobals "max" = some none)
    (z9:PySem.W.nsIn K mainGlobals "min" = some none)
    (z10:PySem.W.nsIn K mainGlobals "range" = some none)
    (z11:PySem.W.nsIn K mainGlobals "reversed" = some none)
    (z12:PySem.W.nsIn K mainGlobals "set" = some none)
    (z13:PySem.W.nsIn K mainGlobals "str" = some none)
    (z14:PySem.W.nsIn K mainGlobals "tuple" = some none)  :Txt K mg C :=
  ⟨⟨pgC,hdC,poC,saC⟩,
   PySem.W.mg_of X G aC,
   n_field_rows,
   n_dyke_rows,
   ⟨iha,ihn,iht,ihm⟩,
   aHM ma15 mi15 ml15 mc15 mk15 mkC kpC (fun _ _ _ _ _ _ us hl=>match us,hl with | [_,_,_],_=>rfl),
   iA ma16 mi16 ml16 mc16 mk16 (fun _ _ _ _ _ _ us hl=>match us,hl with | [_],_=>rfl),
   iA ma17 mi17 ml17 mc17 mk17 (fun _ _ _ _ _ _ us hl=>match us,hl with | [_],_=>rfl),
   iA ma18 mi18 ml18 mc18 mk18 (fun _ _ _ _ _ _ us hl=>match us,hl with | [_],_=>rfl),
   iA ma19 mi19 ml19 mc19 mk19 (fun _ _ _ _ _ _ us hl=>match us,hl with | [_],_=>rfl),
   iA ma20 mi20 ml20 mc20 mk20 (fun _ _ _ _ _ _ us hl=>match us,hl with | [_],_=>rfl),
   iA ma21 mi21 ml21 mc21 mk21 (fun _ _ _ _ _ _ us hl=>match us,hl with | [_,_],_=>rfl),
   iA ma22 mi22 ml22 mc22 mk22 (fun _ _ _ _ _ _ us hl=>match us,hl with | [_,_],_=>rfl),
   iA ma23 mi23 ml23 mc23 mk23 (fun _ _ _ _ _ _ us hl=>match us,hl with | [_,_],_=>rfl),
   iA ma24 mi24 ml24 mc24 mk24 (fun _ _ _ _ _ _ us hl=>match us,hl with | [_,_],_=>rfl),
   ⟨c_NoText,c_NoLand,c_DykeError,c_NoDecree,c_NoLevel,c_NoName,c_NoPurse,c_NoRing,c_NoRow,c_NoSluice,c_NoVoice,c_NoWay,c_NoWish,c_NoWork,c_Outvoted,c_Short,c_TooMany,⟨⟨⟨xq_NoText⟩,xm_NoText⟩,xp_NoText,xg_NoText,xb_NoText,⟨xh_NoText,xi_NoText,xt_NoText,xo_NoText⟩⟩,⟨⟨xq_NoLand⟩,xm_NoLand⟩,PySem.W.mg_of X G xa_NoText,PySem.W.mg_of X G xa_NoLand,PySem.W.mg_of X G xa_DykeError,PySem.W.mg_of X G xa_NoDecree,PySem.W.mg_of X G xa_NoLevel,PySem.W.mg_of X G xa_NoName,PySem.W.mg_of X G xa_NoPurse,PySem.W.mg_of X G xa_NoRing,PySem.W.mg_of X G xa_NoRow,PySem.W.mg_of X G xa_NoSluice,PySem.W.mg_of X G xa_NoVoice,PySem.W.mg_of X G xa_NoWay,PySem.W.mg_of X G xa_NoWish,PySem.W.mg_of X G xa_NoWork,PySem.W.mg_of X G xa_Outvoted,PySem.W.mg_of X G xa_Short,PySem.W.mg_of X G xa_TooMany,xz0,xz1,xz2,xz3,xz4,xz5,xz6,xz7,xz8,xz9,xz10,xz11,xz12,xz13,xz14,xz15,xz16,xz17,xz18⟩,
   bJ X G a0 l0 c0 k0 (fun _ _ _ _ _ _ us hl=>match us,hl with | [_],_=>rfl),
   bJ X G a1 l1 c1 k1 (fun _ _ _ _ _ _ us hl=>match us,hl with | [_],_=>rfl),
   bJ X G a2 l2 c2 k2 (fun _ _ _ _ _ _ us hl=>match us,hl with | [_],_=>rfl),
   bJ X G a3 l3 c3 k3 (fun _ _ _ _ _ _ us hl=>match us,hl with | [_],_=>rfl),
   bJ X G a4 l4 c4 k4 (fun _ _ _ _ _ _ us hl=>match us,hl with | [_],_=>rfl),
   bJ X G a5 l5 c5 k5 (fun _ _ _ _ _ _ us hl=>match us,hl with | [_,_],_=>rfl),
   bJ X G a6 l6 c6 k6 (fun _ _ _ _ _ _ us hl=>match us,hl with | [_,_],_=>rfl),
   bJ X G a7 l7 c7 k7 (fun _ _ _ _ _ _ us hl=>match us,hl with | [_,_],_=>rfl),
   bJ X G a8 l8 c8 k8 (fun _ _ _ _ _ _ us hl=>match us,hl with | [_],_=>rfl),
   bJ X G a9 l9 c9 k9 (fun _ _ _ _ _ _ us hl=>match us,hl with | [_],_=>rfl),
   bJ X G a10 l10 c10 k10 (fun _ _ _ _ _ _ us hl=>match us,hl with | [_],_=>rfl),
   bJ X G a11 l11 c11 k11 (fun _ _ _ _ _ _ us hl=>match us,hl with | [_,_,_],_=>rfl),
   bJ X G a12 l12 c12 k12 (fun _ _ _ _ _ _ us hl=>match us,hl with | [_,_],_=>rfl),
   bJ X G a13 l13 c13 k13 (fun _ _ _ _ _ _ us hl=>match us,hl with | [_,_],_=>rfl),
   bJ X G a14 l14 c14 k14 (fun _ _ _ _ _ _ us hl=>match us,hl with | [_,_],_=>rfl),
   bJ X G a15 l15 c15 k15 (fun _ _ _ _ _ _ us hl=>match us,hl with | [_,_],_=>rfl),
   bJ X G a16 l16 c16 k16 (fun _ _ _ _ _ _ us hl=>match us,hl with | [_],_=>rfl),
   bJ X G a17 l17 c17 k17 (fun _ _ _ _ _ _ us hl=>match us,hl with | [_],_=>rfl),
   bJ X G a18 l18 c18 k18 (fun _ _ _ _ _ _ us hl=>match us,hl with | [_],_=>rfl),
   bJ X G a19 l19 c19 k19 (fun _ _ _ _ _ _ us hl=>match us,hl with | [_],_=>rfl),
   bJ X G a20 l20 c20 k20 (fun _ _ _ _ _ _ us hl=>match us,hl with | [_],_=>rfl),
   bJ X G a21 l21 c21 k21 (fun _ _ _ _ _ _ us hl=>match us,hl with | [_],_=>rfl),
   bJ X G a22 l22 c22 k22 (fun _ _ _ _ _ _ us hl=>match us,hl with | [_],_=>rfl),
   bJ X G a23 l23 c23 k23 (fun _ _ _ _ _ _ us hl=>match us,hl with | [_],_=>rfl),
   bJ X G a24 l24 c24 k24 (fun _ _ _ _ _ _ us hl=>match us,hl with | [_,_],_=>rfl),
   bJ X G a25 l25 c25 k25 (fun _ _ _ _ _ _ us hl=>match us,hl with | [_,_],_=>rfl),
   bJ X G a26 l26 c26 k26 (fun _ _ _ _ _ _ us hl=>match us,hl with | [_,_],_=>rfl),
   bJ X G a27 l27 c27 k27 (fun _ _ _ _ _ _ us hl=>match us,hl with | [_],_=>rfl),
   bJ X G a28 l28 c28 k28 (fun _ _ _ _ _ _ us hl=>match us,hl with | [_],_=>rfl),
   bJ X G a29 l29 c29 k29 (fun _ _ _ _ _ _ us hl=>match us,hl with | [_],_=>rfl),
   bJ X G a30 l30 c30 k30 (fun _ _ _ _ _ _ us hl=>match us,hl with | [_,_,_],_=>rfl),
   bJ X G a31 l31 c31 k31 (fun _ _ _ _ _ _ us hl=>match us,hl with | [_,_,_],_=>rfl),
   bJ X G a32 l32 c32 k32 (fun _ _ _ _ _ _ us hl=>match us,hl with | [_],_=>rfl),
   bJ X G a33 l33 c33 k33 (fun _ _ _ _ _ _ us hl=>match us,hl with | [_,_,_],_=>rfl),
   bJ X G a34 l34 c34 k34 (fun _ _ _ _ _ _ us hl=>match us,hl with | [_,_,_],_=>rfl),
   bJ X G a35 l35 c35 k35 (fun _ _ _ _ _ _ us hl=>match us,hl with | [_],_=>rfl),
   bJ X G a36 l36 c36 k36 (fun _ _ _ _ _ _ us hl=>match us,hl with | [_,_,_],_=>rfl),
   bJ X G a37 l37 c37 k37 (fun _ _ _ _ _ _ us hl=>match us,hl with | [_],_=>rfl),
   bJ X G a38 l38 c38 k38 (fun _ _ _ _ _ _ us hl=>match us,hl with | [_,_],_=>rfl),
   bJ X G a39 l39 c39 k39 (fun _ _ _ _ _ _ us hl=>match us,hl with | [_,_],_=>rfl),
   bJ X G a40 l40 c40 k40 (fun _ _ _ _ _ _ us hl=>match us,hl with | [_],_=>rfl),
   bJ X G a41 l41 c41 k41 (fun _ _ _ _ _ _ us hl=>match us,hl with | [_],_=>rfl),
   bJ X G a42 l42 c42 k42 (fun _ _ _ _ _ _ us hl=>match us,hl with | [_],_=>rfl),
   iC X G g0 r0,
   iC X G g1 r1,
   iC X G g2 r2,
   iC X G g3 r3,
   iC X G g4 r4,
   iC X G g5 r5,
   iC X G g6 r6,
   iC X G g7 r7,
   iC X G g8 r8,
   PySem.W.mg_none_of X G z0,
   PySem.W.mg_none_of X G z1,
   PySem.W.mg_none_of X G z2,
   PySem.W.mg_none_of X G z3,
   PySem.W.mg_none_of X G z4,
   PySem.W.mg_none_of X G z5,
   PySem.W.mg_none_of X G z6,
   PySem.W.mg_none_of X G z7,
   PySem.W.mg_none_of X G z8,
   PySem.W.mg_none_of X G z9,
   PySem.W.mg_none_of X G z10,
   PySem.W.mg_none_of X G z11,
   PySem.W.mg_none_of X G z12,
   PySem.W.mg_none_of X G z13,
   PySem.W.mg_none_of X G z14⟩
end K12
namespace PySem.W.Fast
def tw12834065976317977286 := 0
def tw4508239788849419651 := 0
def tw5880258472894060436 := 0
def tw16328499556417087976 := 0
def tw3608224724433035160 := 0
def tw8903846080419292251 := 0
def tw6740903995851762430 := 0
def tw4600124614033579346 := 0
def tw14968933799387375406 := 0
def tw18407844910902467566 := 0
def tw16249057219313415490 := 0
def tw11875790639095140001 := 0
def tw15377623732318510376 := 0
def tw13193239225052324392 := 0
def tw2798939719691554154 := 0
def tw1163505477377326354 := 0
def tw10338159469394367043 := 0
def tw5175292085233747231 := 0
def tw17795656708496017239 := 0
def tw6670631007616478599 := 0
def tw2729276165735669441 := 0
def tw10759753614193448957 := 0
def tw14067373730500820685 := 0
def tw13220157119177908915 := 0
def tw14112982700665660490 := 0
def tw9715282204071790087 := 0
def tw13936121578910565166 := 0
def tw7321049612214118281 := 0
def tw16009346256695789088 := 0
def tw17725470716503081075 := 0
def tw15034123899083812077 := 0
def tw7381487720974322394 := 0
def tw6474181666245458985 := 0
def tw4369292140896210354 := 0
def tw17615781496573304409 := 0
def tw18262105793961398598 := 0
def tw13938166182413112957 := 0
def tw13533105330739234981 := 0
def tw465676555629349173 := 0
def tw1777231183478470786 := 0
def tw13300633012735113883 := 0
def tw694238137405424713 := 0
def tw10166157958766698163 := 0
def tw8238367404405126950 := 0
def tw1247711307126298233 := 0
def tw13899117702322319561 := 0
def tw3942394859100524306 := 0
def tw17546085307162508482 := 0
def tw13265339212538886317 := 0
def tw6134487710187304156 := 0
def tw17675844282215164719 := 0
def tw6043385692931776173 := 0
def tw5485140549312156442 := 0
def tw2633755389552458477 := 0
def tw17599486110369274358 := 0
def tw6537669715912014183 := 0
def tw16249398243195810670 := 0
def tw10355135755805687258 := 0
def tw1552018081178549765 := 0
def tw11159550641885575982 := 0
def tw7475999245334408374 := 0
def tw13480575160656647913 := 0
def tw16282509074816155921 := 0
def tw3335023563047650905 := 0
def tw11553407550108672554 := 0
def tw5838231145868627565 := 0
def tw9052701090871278547 := 0
def tw15437683886719278108 := 0
def tw9714215114200402501 := 0
def tw12595036266129127052 := 0
def tw13350325680636020874 := 0
def tw6984293380287758322 := 0
def tw12123993412430483351 := 0
def tw7763669522772090648 := 0
def tw3476517817764441913 := 0
def tw4063527625050772363 := 0
def tw15235658680326403431 := 0
def tw6009413858704298824 := 0
def tw11170696249695703517 := 0
def tw8869869812902780696 := 0
def tw10851779141696567791 := 0
def tw1283304140263791702 := 0
def tw4960275502039738897 := 0
def tw9919244490400413614 := 0
def tw14733545241043492620 := 0
def tw10216101261523576207 := 0
def tw6206214371169515732 := 0
def tw13434807994319364832 := 0
def tw3680216329310487587 := 0
def tw14324892374865532732 := 0
def tw8253427229596353734 := 0
def tw7696356487557225963 := 0
def tw1543634593654133575 := 0
def tw10404107844268643741 := 0
def tw8644455717068392429 := 0
def tw3783755494743136225 := 0
def tw13048955516190174778 := 0
def tw2060014114702882212 := 0
def tw5589942701236828143 := 0
def tw1625656760264507908 := 0
def tw15119883766540155462 := 0
def tw4405148316407507776 := 0
def tw2490349114423045720 := 0
def tw4868440396210498798 := 0
def tw4917783541166559472 := 0
def tw11125199521732074591 := 0
def tw18097302098407723634 := 0
def tw6497613420295650567 := 0
def tw17916729220979216807 := 0
def tw13650537639254183325 := 0
def tw1201228599629822866 := 0
def tw17171110017950360889 := 0
def tw2994357691784239718 := 0
def tw7186544919972529897 := 0
def tw17060521725087040413 := 0
def tw18350196985286503002 := 0
def tw11994845017864892016 := 0
def tw14377343029720567967 := 0
end PySem.W.Fast
open PySem PySem.W PyProof.Rows
set_option maxRecDepth 100000 in
set_option maxHeartbeats 0 in
theorem PySem.Challenge.cw_dykemoot_k12_texts_of_no_land_holds : PySem.Challenge.rw_dykemoot_k12_texts_of_no_land.Holds := by
 w_on; o_law; k_head; (case hw => w_witness2)
 k_fill
 refine L2.walk_law (l := PySem.Challenge.rw_dykemoot_k12_texts_of_no_land) 12 ⟨rfl, by decide, by decide⟩ rfl rfl (fun w h Y => PySem.W.kIn_of Y) ?F
 case F =>
  intro w mg fa h KX G hmg
  refine' K12.law_mk hmg (K12.txt_mk KX G ?xaC ?xpgC ?xhdC ?xpoC ?xsaC ?xmkC ?xkpC ?xn_field_rows ?xn_dyke_rows ?xiha ?xihn ?xiht ?xihm ?xma15 ?xmi15 ?xml15 ?xmc15 ?xmk15 ?xma16 ?xmi16 ?xml16 ?xmc16 ?xmk16 ?xma17 ?xmi17 ?xml17 ?xmc17 ?xmk17 ?xma18 ?xmi18 ?xml18 ?xmc18 ?xmk18 ?xma19 ?xmi19 ?xml19 ?xmc19 ?xmk19 ?xma20 ?xmi20 ?xml20 ?xmc20 ?xmk20 ?xma21 ?xmi21 ?xml21 ?xmc21 ?xmk21 ?xma22 ?xmi22 ?xml22 ?xmc22 ?xmk22 ?xma23 ?xmi23 ?xml23 ?xmc23 ?xmk23 ?xma24 ?xmi24 ?xml24 ?xmc24 ?xmk24 ?xxa_NoText ?xxa_NoLand ?xxa_DykeError ?xxa_NoDecree ?xxa_NoLevel ?xxa_NoName ?xxa_NoPurse ?xxa_NoRing ?xxa_NoRow ?xxa_NoSluice ?xxa_NoVoice ?xxa_NoWay ?xxa_NoWish ?xxa_NoWork ?xxa_Outvoted ?xxa_Short ?xxa_TooMany ?xxq_NoText ?xxm_NoText ?xxp_NoText ?xxg_NoText ?xxb_NoText ?xxh_NoText ?xxi_NoText ?xxt_NoText ?xxo_NoText ?xxq_NoLand ?xxm_NoLand ?xxz0 ?xxz1 ?xxz2 ?xxz3 ?xxz4 ?xxz5 ?xxz6 ?xxz7 ?xxz8 ?xxz9 ?xxz10 ?xxz11 ?xxz12 ?xxz13 ?xxz14 ?xxz15 ?xxz16 ?xxz17 ?xxz18 ?xa0 ?xl0 ?xc0 ?xk0 ?xa1 ?xl1 ?xc1 ?xk1 ?xa2 ?xl2 ?xc2 ?xk2 ?xa3 ?xl3 ?xc3 ?xk3 ?xa4 ?xl4 ?xc4 ?xk4 ?xa5 ?xl5 ?xc5 ?xk5 ?xa6 ?xl6 ?xc6 ?xk6 ?xa7 ?xl7 ?xc7 ?xk7 ?xa8 ?xl8 ?xc8 ?xk8 ?xa9 ?xl9 ?xc9 ?xk9 ?xa10 ?xl10 ?xc10 ?xk10 ?xa11 ?xl11 ?xc11 ?xk11 ?xa12 ?xl12 ?xc12 ?xk12 ?xa13 ?xl13 ?xc13 ?xk13 ?xa14 ?xl14 ?xc14 ?xk14 ?xa15 ?xl15 ?xc15 ?xk15 ?xa16 ?xl16 ?xc16 ?xk16 ?xa17 ?xl17 ?xc17 ?xk17 ?xa18 ?xl18 ?xc18 ?xk18 ?xa19 ?xl19 ?xc19 ?xk19 ?xa20 ?xl20 ?xc20 ?xk20 ?xa21 ?xl21 ?xc21 ?xk21 ?xa22 ?xl22 ?xc22 ?xk22 ?xa23 ?xl23 ?xc23 ?xk23 ?xa24 ?xl24 ?xc24 ?xk24 ?xa25 ?xl25 ?xc25 ?xk25 ?xa26 ?xl26 ?xc26 ?xk26 ?xa27 ?xl27 ?xc27 ?xk27 ?xa28 ?xl28 ?xc28 ?xk28 ?xa29 ?xl29 ?xc29 ?xk29 ?xa30 ?xl30 ?xc30 ?xk30 ?xa31 ?xl31 ?xc31 ?xk31 ?xa32 ?xl32 ?xc32 ?xk32 ?xa33 ?xl33 ?xc33 ?xk33 ?xa34 ?xl34 ?xc34 ?xk34 ?xa35 ?xl35 ?xc35 ?xk35 ?xa36 ?xl36 ?xc36 ?xk36 ?xa37 ?xl37 ?xc37 ?xk37 ?xa38 ?xl38 ?xc38 ?xk38 ?xa39 ?xl39 ?xc39 ?xk39 ?xa40 ?xl40 ?xc40 ?xk40 ?xa41 ?xl41 ?xc41 ?xk41 ?xa42 ?xl42 ?xc42 ?xk42 ?xg0 ?xr0 ?xg1 ?xr1 ?xg2 ?xr2 ?xg3 ?xr3 ?xg4 ?xr4 ?xg5 ?xr5 ?xg6 ?xr6 ?xg7 ?xr7 ?xg8 ?xr8 ?xz0 ?xz1 ?xz2 ?xz3 ?xz4 ?xz5 ?xz6 ?xz7 ?xz8 ?xz9 ?xz10 ?xz11 ?xz12 ?xz13 ?xz14)
  (case xaC => k_is)
  (case xpgC => k_is)
  (case xhdC => k_is)
  (case xpoC => k_is)
  (case xsaC => k_is)
  (case xmkC => k_is)
  (case xkpC => k_is)
  (case xn_field_rows => k_is)
  (case xn_dyke_rows => k_is)
  (case xiha => k_is)
  (case xihn => k_is)
  (case xiht => k_is)
  (case xihm => k_is)
  (case xma15 => k_is)
  (case xmi15 => k_is)
  (case xml15 => k_is)
  (case xmc15 => k_is)
  (case xmk15 => k_is)
  (case xma16 => k_is)
  (case xmi16 => k_is)
  (case xml16 => k_is)
  (case xmc16 => k_is)
  (case xmk16 => k_is)
  (case xma17 => k_is)
  (case xmi17 => k_is)
  (case xml17 => k_is)
  (case xmc17 => k_is)
  (case xmk17 => k_is)
  (case xma18 => k_is)
  (case xmi18 => k_is)
  (case xml18 => k_is)
  (case xmc18 => k_is)
  (case xmk18 => k_is)
  (case xma19 => k_is)
  (case xmi19 => k_is)
  (case xml19 => k_is)
  (case xmc19 => k_is)
  (case xmk19 => k_is)
  (case xma20 => k_is)
  (case xmi20 => k_is)
  (case xml20 => k_is)
  (case xmc20 => k_is)
  (case xmk20 => k_is)
  (case xma21 => k_is)
  (case xmi21 => k_is)
  (case xml21 => k_is)
  (case xmc21 => k_is)
  (case xmk21 => k_is)
  (case xma22 => k_is)
  (case xmi22 => k_is)
  (case xml22 => k_is)
  (case xmc22 => k_is)
  (case xmk22 => k_is)
  (case xma23 => k_is)
  (case xmi23 => k_is)
  (case xml23 => k_is)
  (case xmc23 => k_is)
  (case xmk23 => k_is)
  (case xma24 => k_is)
  (case xmi24 => k_is)
  (case xml24 => k_is)
  (case xmc24 => k_is)
  (case xmk24 => k_is)
  (case xxa_NoText => k_is)
  (case xxa_NoLand => k_is)
  (case xxa_DykeError => k_is)
  (case xxa_NoDecree => k_is)
  (case xxa_NoLevel => k_is)
  (case xxa_NoName => k_is)
  (case xxa_NoPurse => k_is)
  (case xxa_NoRing => k_is)
  (case xxa_NoRow => k_is)
  (case xxa_NoSluice => k_is)
  (case xxa_NoVoice => k_is)
  (case xxa_NoWay => k_is)
  (case xxa_NoWish => k_is)
  (case xxa_NoWork => k_is)
  (case xxa_Outvoted => k_is)
  (case xxa_Short => k_is)
  (case xxa_TooMany => k_is)
  (case xxq_NoText => k_exc)
  (case xxm_NoText => kts_exm)
  (case xxp_NoText => k_is)
  (case xxg_NoText => k_is)
  (case xxb_NoText => k_is)
  (case xxh_NoText => k_is)
  (case xxi_NoText => k_is)
  (case xxt_NoText => k_is)
  (case xxo_NoText => k_is)
  (case xxq_NoLand => k_exc)
  (case xxm_NoLand => kts_exm)
  (case xxz0 => kit_is)
  (case xxz1 => kit_is)
  (case xxz2 => kit_is)
  (case xxz3 => kit_is)
  (case xxz4 => kit_is)
  (case xxz5 => kit_is)
  (case xxz6 => kit_is)
  (case xxz7 => kit_is)
  (case xxz8 => kit_is)
  (case xxz9 => kit_is)
  (case xxz10 => kit_is)
  (case xxz11 => kit_is)
  (case xxz12 => kit_is)
  (case xxz13 => kit_is)
  (case xxz14 => kit_is)
  (case xxz15 => kit_is)
  (case xxz16 => kit_is)
  (case xxz17 => kts_exm)
  (case xxz18 => kts_exm)
  (case xa0 => k_is)
  (case xl0 => k_is)
  (case xc0 => k_is)
  (case xk0 => k_is)
  (case xa1 => k_is)
  (case xl1 => k_is)
  (case xc1 => k_is)
  (case xk1 => k_is)
  (case xa2 => k_is)
  (case xl2 => k_is)
  (case xc2 => k_is)
  (case xk2 => k_is)
  (case xa3 => k_is)
  (case xl3 => k_is)
  (case xc3 => k_is)
  (case xk3 => k_is)
  (case xa4 => k_is)
  (case xl4 => k_is)
  (case xc4 => k_is)
  (case xk4 => k_is)
  (case xa5 => k_is)
  (case xl5 => k_is)
  (case xc5 => k_is)
  (case xk5 => k_is)
  (case xa6 => k_is)
  (case xl6 => k_is)
  (case xc6 => k_is)
  (case xk6 => k_is)
  (case xa7 => k_is)
  (case xl7 => k_is)
  (case xc7 => k_is)
  (case xk7 => k_is)
  (case xa8 => k_is)
  (case xl8 => k_is)
  (case xc8 => k_is)
  (case xk8 => k_is)
  (case xa9 => k_is)
  (case xl9 => k_is)
  (case xc9 => k_is)
  (case xk9 => k_is)
  (case xa10 => k_is)
  (case xl10 => k_is)
  (case xc10 => k_is)
  (case xk10 => k_is)
  (case xa11 => k_is)
  (case xl11 => k_is)
  (case xc11 => k_is)
  (case xk11 => k_is)
  (case xa12 => k_is)
  (case xl12 => k_is)
  (case xc12 => k_is)
  (case xk12 => k_is)
  (case xa13 => k_is)
  (case xl13 => k_is)
  (case xc13 => k_is)
  (case xk13 => k_is)
  (case xa14 => k_is)
  (case xl14 => k_is)
  (case xc14 => k_is)
  (case xk14 => k_is)
  (case xa15 => k_is)
  (case xl15 => k_is)
  (case xc15 => k_is)
  (case xk15 => k_is)
  (case xa16 => k_is)
  (case xl16 => k_is)
  (case xc16 => k_is)
  (case xk16 => k_is)
  (case xa17 => k_is)
  (case xl17 => k_is)
  (case xc17 => k_is)
  (case xk17 => k_is)
  (case xa18 => k_is)
  (case xl18 => k_is)
  (case xc18 => k_is)
  (case xk18 => k_is)
  (case xa19 => k_is)
  (case xl19 => k_is)
  (case xc19 => k_is)
  (case xk19 => k_is)
  (case xa20 => k_is)
  (case xl20 => k_is)
  (case xc20 => k_is)
  (case xk20 => k_is)
  (case xa21 => k_is)
  (case xl21 => k_is)
  (case xc21 => k_is)
  (case xk21 => k_is)
  (case xa22 => k_is)
  (case xl22 => k_is)
  (case xc22 => k_is)
  (case xk22 => k_is)
  (case xa23 => k_is)
  (case xl23 => k_is)
  (case xc23 => k_is)
  (case xk23 => k_is)
  (case xa24 => k_is)
  (case xl24 => k_is)
  (case xc24 => k_is)
  (case xk24 => k_is)
  (case xa25 => k_is)
  (case xl25 => k_is)
  (case xc25 => k_is)
  (case xk25 => k_is)
  (case xa26 => k_is)
  (case xl26 => k_is)
  (case xc26 => k_is)
  (case xk26 => k_is)
  (case xa27 => k_is)
  (case xl27 => k_is)
  (case xc27 => k_is)
  (case xk27 => k_is)
  (case xa28 => k_is)
  (case xl28 => k_is)
  (case xc28 => k_is)
  (case xk28 => k_is)
  (case xa29 => k_is)
  (case xl29 => k_is)
  (case xc29 => k_is)
  (case xk29 => k_is)
  (case xa30 => k_is)
  (case xl30 => k_is)
  (case xc30 => k_is)
  (case xk30 => k_is)
  (case xa31 => k_is)
  (case xl31 => k_is)
  (case xc31 => k_is)
  (case xk31 => k_is)
  (case xa32 => k_is)
  (case xl32 => k_is)
  (case xc32 => k_is)
  (case xk32 => k_is)
  (case xa33 => k_is)
  (case xl33 => k_is)
  (case xc33 => k_is)
  (case xk33 => k_is)
  (case xa34 => k_is)
  (case xl34 => k_is)
  (case xc34 => k_is)
  (case xk34 => k_is)
  (case xa35 => k_is)
  (case xl35 => k_is)
  (case xc35 => k_is)
  (case xk35 => k_is)
  (case xa36 => k_is)
  (case xl36 => k_is)
  (case xc36 => k_is)
  (case xk36 => k_is)
  (case xa37 => k_is)
  (case xl37 => k_is)
  (case xc37 => k_is)
  (case xk37 => k_is)
  (case xa38 => k_is)
  (case xl38 => k_is)
  (case xc38 => k_is)
  (case xk38 => k_is)
  (case xa39 => k_is)
  (case xl39 => k_is)
  (case xc39 => k_is)
  (case xk39 => k_is)
  (case xa40 => k_is)
  (case xl40 => k_is)
  (case xc40 => k_is)
  (case xk40 => k_is)
  (case xa41 => k_is)
  (case xl41 => k_is)
  (case xc41 => k_is)
  (case xk41 => k_is)
  (case xa42 => k_is)
  (case xl42 => k_is)
  (case xc42 => k_is)
  (case xk42 => k_is)
  (case xg0 => k_is)
  (case xr0 => exact ⟨_, rfl⟩)
  (case xg1 => k_is)
  (case xr1 => exact ⟨_, rfl⟩)
  (case xg2 => k_is)
  (case xr2 => exact ⟨_, rfl⟩)
  (case xg3 => k_is)
  (case xr3 => exact ⟨_, rfl⟩)
  (case xg4 => k_is)
  (case xr4 => exact ⟨_, rfl⟩)
  (case xg5 => k_is)
  (case xr5 => exact ⟨_, rfl⟩)
  (case xg6 => k_is)
  (case xr6 => exact ⟨_, rfl⟩)
  (case xg7 => k_is)
  (case xr7 => exact ⟨_, rfl⟩)
  (case xg8 => k_is)
  (case xr8 => exact ⟨_, rfl⟩)
  (case xz0 => k_is)
  (case xz1 => k_is)
  (case xz2 => k_is)
  (case xz3 => k_is)
  (case xz4 => k_is)
  (case xz5 => k_is)
  (case xz6 => k_is)
  (case xz7 => k_is)
  (case xz8 => k_is)
  (case xz9 => k_is)
  (case xz10 => k_is)
  (case xz11 => k_is)
  (case xz12 => k_is)
  (case xz13 => k_is)
  (case xz14 => k_is)
